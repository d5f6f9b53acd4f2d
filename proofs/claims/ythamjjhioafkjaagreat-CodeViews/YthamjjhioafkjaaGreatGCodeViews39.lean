import Derived.Test.YthamjjhioafkjaaGreatGCodeViews19
import Derived.Test.YthamjjhioafkjaaGreatGCodeViews34
import Derived.Test.YthamjjhioafkjaaGreatGCodeViews13
import Derived.Test.YthamjjhioafkjaaGreatGCodeViews38
import Derived.Test.YthamjjhioafkjaaGreatGCodeViews37
namespace Go.Proofs.YthamjjhioafkjaaGreat
set_option linter.unusedVariables false
open Go.RowKit
attribute [local go_sem ↓] Go.wp_at_zero Go.wp_at_succ
def firsts (st : List (Nat × Nat)) : List Int := ofN (st.reverse.map Prod.fst)
theorem firsts_length (st : List (Nat × Nat)) : (firsts st).length = st.length := by simp [firsts,ofN]
theorem firsts_take {st : List (Nat × Nat)} {k : Nat} (h : k < st.length) : (firsts st).take (k + 1) = (firsts st).take k ++ [((st.reverse[k]'(by simpa using h)).1 : Int)] := by
  rw [List.take_add_one, List.getElem?_eq_getElem (by rw [firsts_length]; exact h)]
  simp [firsts, ofN]
set_option maxHeartbeats 4000000 in
theorem tpathv_any {base : Nat} {w : World} {v : Value} {st : List (Nat × Nat)} (hr : w.ownsRow base 271 2 v st.length (turnCells st.reverse)) (hl : st.length ≤ 2000) :
    Calls Tryz.prog 154 #[v] w fun e w' => ∃ v', e = .returned v' ∧ Row w.heap.size w' v' (firsts st) ∧ Same0 w w' := by
  obtain ⟨vo, vcap, rfl⟩ := row_shape hr
  obtain ⟨i, hi, hz0, hz1, hz2⟩ := info_parts info_intT
  go_enter Tryz.func154, Tryz.ntmps154
  go_wp2_with (first | (at_make; refine wpList_make_full _ rfl _ _ 23 rfl w.heap.size 3 i _ 1 Tryz.underlying23 hi hz0 hz1 _ _ _ _ st.length rfl rfl rfl rfl (by rw [hz2]; omega) (by unfold maxLen; omega) (Nat.le_refl _) ?_; intro w3 hown hgrow))
  have L0 : Laid w.heap.size w.heap.size st.length 0 ((firsts st).take 0) w w3 := ⟨_, hown, by simp [iv], Same0.grown (Kept.refl _ w) hgrow⟩
  clear hown hgrow hi hz0 hz1 hz2
  have HR : Hid (w.ownsRow base 271 2 (.slice vo st.length vcap) st.length (turnCells st.reverse)) := hr
  clear hr
  go_loopw [11] (fun kv wr => ∃ k : Nat, k ≤ st.length ∧ kv = .int .i64 (k : Int) ∧ Laid w.heap.size w.heap.size st.length k ((firsts st).take k) w wr) (fun kv _ => st.length - (intOf kv).toNat)
  case atStart => exact ⟨0, Nat.zero_le _, rfl, L0⟩
  case round =>
    clear L0
    obtain ⟨k, hk, rfl, hL⟩ := hrel
    by_cases hlt : k < st.length
    · have hsm : Same0 w wr := by obtain ⟨_, _, _, h3⟩ := hL; exact h3
      have hrw := Kept.row hsm HR.out (fun _ _ f => f)
      obtain ⟨g, cap, hv, _, hg⟩ := hrw.form (by omega)
      simp only [Value.slice.injEq, true_and] at hv
      obtain ⟨rfl, rfl⟩ := hv
      have hkr : k < st.reverse.length := by simpa using hlt
      obtain ⟨c1, c2⟩ := turnCells_at hkr
      have q1 : wr.cell? ⟨g, k * 2, none⟩ = some (.int .i64 (st.reverse[k].1 : Int)) := by rw [hrw.cellAt _ (by omega)]; exact c1
      have q2 : wr.cell? ⟨g, k * 2 + 1, none⟩ = some (.int .i64 (st.reverse[k].2 : Int)) := by rw [hrw.cellAt _ (by omega)]; exact c2
      have e2 : Hid ((firsts st).take (k + 1) = (firsts st).take k ++ [(st.reverse[k].1 : Int)]) := firsts_take hlt
      have i1 : (0 : Int) ≤ (k : Int) := by omega
      have i2 : (k : Int) < (st.length : Int) := by omega
      generalize st.reverse[k].1 = x1 at *
      generalize st.reverse[k].2 = x2 at *
      clear hrw c1 c2
      obtain ⟨old, f1, f2⟩ : ∃ old, wr.cell? ⟨w.heap.size, k, none⟩ = some old ∧ wr.frozen? ⟨w.heap.size, k, none⟩ = false := by obtain ⟨ys, h1, _⟩ := hL; exact row_put h1 hlt
      have hwl : w.heap.size < wr.heap.size := by obtain ⟨ys, h1, _⟩ := hL; exact (h1.lt _ rfl).2
      have hne : ¬ w.heap.size = wr.heap.size := by omega
      have hLn := (hL.next hlt (Nat.le_refl _) (x1 : Int)).same ((Kept.refl _ _).alloc (.cells #[.int .i64 (x1 : Int), .int .i64 (x2 : Int)] 271))
      go_wp2
      refine ⟨⟨k + 1, by omega, by go_num, ?_⟩, by simp [intOf]; omega⟩
      rw [e2.out]; exact hLn
    · obtain rfl : k = st.length := by omega
      have hrr := hL.row
      obtain ⟨_, _, _, hs⟩ := hL
      go_wp2
      go_ret
      refine ⟨_, rfl, ?_, hs⟩
      have := hrr.1
      rwa [List.take_of_length_le (by rw [firsts_length]; exact Nat.le_refl _)] at this
theorem way_length (L : List Sym) (t : List Int) (k : Nat) (hk : k ≤ t.length) : (way L t k).length ≤ k := by
  induction k with
  | zero => simp [way, run]
  | succ k ih =>
    rw [way_succ (by omega)]
    have := pass_length (way L t k) (arN L (t[k]'(by omega)))
    have := ih (by omega)
    omega
def WayAt (w : World) (a : Nat) (st : List (Nat × Nat)) (wr : World) : Prop := ∃ v, TrailAt w.heap.size wr a v st ∧ Same0 w wr ∧ w.heap.size ≤ a ∧ ∀ k, v.ownBlock = some k → w.heap.size ≤ k
theorem WayAt.start {w w1 : World} (k : Same0 w w1) : WayAt w w1.heap.size [] (w1.alloc (.cells #[.slice none 0 0] 239)) :=
  ⟨.slice none 0 0, ⟨heap_alloc_new w1 _, World.ownsRow_nil _ _ _ _, by simp [Value.ownBlock], fun x hx => by simp at hx, by simp⟩, k.alloc _, k.size, fun k e => by simp [Value.ownBlock] at e⟩
theorem WayAt.same {w wr wr' : World} {a : Nat} {st : List (Nat × Nat)} (h : WayAt w a st wr) (k : Same0 wr wr') : WayAt w a st wr' := by
  obtain ⟨v, h1, h2, h3, h4⟩ := h
  exact ⟨v, h1.same k, h2.trans' k, h3, h4⟩
theorem WayAt.pass {w wr : World} {a : Nat} {st : List (Nat × Nat)} (h : WayAt w a st wr) (n : Nat) (hn : n ≤ 6) (hl : st.length < 2000) :
    Calls Tryz.prog 153 #[.pointer (some ⟨a,0,none⟩),.int .i64 (n : Int)] wr fun e w' => (∃ x,e = .returned x) ∧ WayAt w a (Proofs.YthamjjhioafkjaaGreat.pass st n) w' := by
  obtain ⟨v, h1, h2, h3, h4⟩ := h
  refine (pass_any h1 h2.size n hn hl).mono ?_
  rintro e w' ⟨hx, v', t1, t2, t3⟩
  have hf : ∀ k, TFoot a v k → w.heap.size ≤ k := fun k hk => hk.elim (fun e => by omega) (h4 k)
  refine ⟨hx, v', t1, Kept.trans h2 t2 (fun i hi e => by have := hf i e; omega), h3, fun k e => ?_⟩
  rcases t3 k (.inr e) with e1 | e1
  · exact hf k e1
  · have := h2.size; omega
theorem WayAt.cell {w wr : World} {a : Nat} {st : List (Nat × Nat)} (h : WayAt w a st wr) : ∃ vo vcap,wr.cell? ⟨a,0,none⟩ = some (.slice vo st.length vcap) ∧ wr.ownsRow w.heap.size 271 2 (.slice vo st.length vcap) st.length (turnCells st.reverse) := by
  obtain ⟨v, h1, h2, h3, h4⟩ := h
  obtain ⟨vo, vcap, rfl⟩ := row_shape h1.row
  exact ⟨vo, vcap, cellAt h1.blk 0, h1.row⟩
def pathA (L : List Sym) (t : List Int) (a : Int) : List Int := if placeE L t a = 0 then firsts (way L t a.toNat) else []
set_option maxHeartbeats 4000000 in
theorem tpath_any {n b : Nat} {w : World} {L : List Sym} (h : Sg n w b L) {ao : Option Addr} {cap : Nat} {t : List Int} (ht : IntsAt w ao t) (hm : t.length ≤ maxLen) (hcap : t.length ≤ cap) (a : Int) :
    Calls Tryz.prog 116 #[.pointer (some ⟨b,0,none⟩),.slice ao t.length cap,.int .i64 a] w fun e w' => ∃ v,e = .returned (.tuple #[v,.int .i64 (placeE L t a)]) ∧ Row w.heap.size w' v (pathA L t a) ∧ Same0 w w' := by
  have c := checkPlace_any (cap := cap) h ht hm a
  by_cases hz : placeE L t a = 0
  · obtain ⟨p, rfl, hp, h0, h1, h2⟩ := place_zero hz
    have H : Hid (placeE L t p = 0 ∧ pathA L t p = firsts (way L t p)) := by
      refine ⟨hz, ?_⟩
      rw [pathA, if_pos hz]; rfl
    have c1 : Hid (∀ w1 x, Same0 w w1 → Calls Tryz.prog 105 #[.pointer (some ⟨b, 0, none⟩), .int .i64 x] w1 fun e w' => e = .returned (.int .i64 ((arN L x : Nat) : Int)) ∧ Same0 w1 w') := fun w1 x hk => arity_any (h.same hk) x
    have HAR : Hid (∀ x, arN L x ≤ 6) := fun x => arN_le h.2 x
    have hpc : (p : Int) ≤ (cap : Int) := by omega
    have i0 : (0 : Int) ≤ (p : Int) := by omega
    obtain ⟨tb, off, rfl, htb, hc⟩ := ht.get hp
    clear hc
    rw [hz] at c
    go_enter Tryz.func116, Tryz.ntmps116
    go_wp2_with (first | (go_at_call 103; refine c.mono ?_; rintro e w1 ⟨rfl, hk1⟩))
    have W0 : WayAt w w1.heap.size (way L t 0) (w1.alloc (.cells #[.slice none 0 0] 239)) := WayAt.start hk1
    generalize hA : w1.heap.size = A at *
    clear c
    go_loopw [23] (fun kv wr => ∃ k : Nat, k ≤ p ∧ kv = .int .i64 (k : Int) ∧ WayAt w A (way L t k) wr) (fun kv _ => p - (intOf kv).toNat)
    case atStart => exact ⟨0, Nat.zero_le _, rfl, W0⟩
    case round =>
      clear W0
      obtain ⟨k, hk, rfl, hW⟩ := hrel
      have hs : Same0 w wr := by obtain ⟨_, _, h2, _⟩ := hW; exact h2
      by_cases hlt : k < p
      · have hkt : k < t.length := by omega
        obtain ⟨tb', off', e, _, hcc⟩ := (ht.same hs).get hkt
        simp only [Option.some.injEq, Addr.mk.injEq, and_true] at e
        obtain ⟨rfl, rfl⟩ := e
        have cA := c1.out wr t[k] hs
        have h6 := HAR.out t[k]
        have E : Hid (way L t (k + 1) = pass (way L t k) (arN L t[k])) := way_succ hkt
        have hwl := way_length L t k (by omega)
        have i1 : (0 : Int) ≤ (k : Int) := by omega
        have i2 : (k : Int) < (p : Int) := by omega
        generalize arN L t[k] = m at *
        go_wp2_with fail
        refine cA.mono ?_
        rintro e w4 ⟨rfl, k4⟩
        have cP := (hW.same k4).pass m h6 (by omega)
        clear hW cA
        go_wp2_with fail
        refine cP.mono ?_
        rintro e w5 ⟨⟨x, rfl⟩, hW5⟩
        clear cP
        go_wp2
        refine ⟨⟨k + 1, by omega, by go_num, ?_⟩, by simp [intOf]; omega⟩
        rw [E.out]; exact hW5
      · obtain rfl : k = p := by omega
        obtain ⟨vo, vcap, q0, q1⟩ := hW.cell
        have hwl := way_length L t k (by omega)
        have cp := tpathv_any q1 (by omega)
        clear hW q1
        go_wp2_with fail
        refine cp.mono ?_
        rintro e w6 ⟨v', rfl, hr, k6⟩
        clear cp
        have hr' := row_mono hr hs.size
        go_wp2
        go_ret2
        refine ⟨v', ?_, ?_, hs.trans' k6⟩
        · rw [H.out.1]; rfl
        · rw [H.out.2]; exact hr'
  · have H : Hid (pathA L t a = []) := by show _ = _; rw [pathA, if_neg hz]
    have hz' : (placeE L t a == 0) = false := by simpa using hz
    go_enter Tryz.func116, Tryz.ntmps116
    go_wp2_with (first | (go_at_call 103; refine c.mono ?_; rintro e w1 ⟨rfl, hk1⟩))
    go_ret2
    refine ⟨_, rfl, ?_, hk1⟩
    rw [H.out]
    exact World.ownsRow_nil _ _ _ _
end Go.Proofs.YthamjjhioafkjaaGreat
namespace Go.Proofs.YthamjjhioafkjaaGreat
set_option maxRecDepth 100000
set_option linter.unusedVariables false
open Go.RowKit
attribute [local go_sem ↓] Go.wp_at_zero Go.wp_at_succ
def idxG : List Int → Nat → Int → Int
  | [], _, _ => -1
  | x :: r, i, y => if y = x then (i : Int) else idxG r (i + 1) y
def idxI (t : List Int) (y : Int) : Int := idxG t 0 y
theorem idxG_step {t : List Int} {k : Nat} (h : k < t.length) (y : Int) : idxG (t.drop k) k y = if y = t[k] then (k : Int) else idxG (t.drop (k + 1)) (k + 1) y := by
  rw [List.drop_eq_getElem_cons h, idxG]
set_option maxHeartbeats 2000000 in
theorem indexI_any {w : World} {so : Option Addr} {sc : Nat} {t : List Int} (ht : IntsAt w so t) (hm : t.length ≤ 2000) (y : Int) :
    Calls Tryz.prog 117 #[.slice so t.length sc,.int .i64 y] w fun e w' => e = .returned (.int .i64 (idxI t y)) ∧ w' = w := by
  go_enter Tryz.func117, Tryz.ntmps117
  go_wp2
  go_loop [8] (fun i => ∃ k : Nat, k ≤ t.length ∧ i = .int .i64 (k : Int) ∧ Hid (idxI t y = idxG (t.drop k) k y)) (fun i => t.length - (intOf i).toNat)
  case atStart => exact ⟨0, Nat.zero_le _, rfl, by show _ = _; simp [idxI]⟩
  case round =>
    obtain ⟨k, hk, rfl, ha⟩ := hrel
    by_cases hlt : k < t.length
    · obtain ⟨tb, off, rfl, _, hc⟩ := ht.get hlt
      have i1 : (0 : Int) ≤ (k : Int) := by omega
      have i2 : (k : Int) < (t.length : Int) := by omega
      by_cases hq : y = t[k]
      · have H : Hid (idxI t y = (k : Int)) := by rw [ha.out]; show _ = _; rw [idxG_step hlt, if_pos hq]
        have q1 : (y == t[k]) = true := by simpa using hq
        clear hq ha
        go_wp2
        go_ret
        exact ⟨by rw [H.out]; rfl, rfl⟩
      · have H : Hid (idxI t y = idxG (t.drop (k + 1)) (k + 1) y) := by rw [ha.out]; show _ = _; rw [idxG_step hlt, if_neg hq]
        have q1 : (y == t[k]) = false := by simpa using hq
        clear hq ha
        go_wp2
        exact ⟨⟨k + 1, by omega, by go_num, H⟩, by simp [intOf]; omega⟩
    · have H : Hid (idxI t y = -1) := by rw [ha.out]; show _ = _; rw [List.drop_eq_nil_of_le (by omega)]; rfl
      go_wp2
      go_ret
      exact ⟨by rw [H.out]; rfl, rfl⟩
def partP (L : List Sym) (left : List Int) (x : Int) : Int × List Int := if 0 ≤ x then (x, []) else (-1, pathA L left (idxI left x))
theorem pathA_len (L : List Sym) (t : List Int) (a : Int) (hm : t.length ≤ 2000) : (pathA L t a).length ≤ 2000 := by
  unfold pathA
  split
  · rename_i h
    obtain ⟨p, rfl, hp, _⟩ := place_zero h
    rw [firsts_length, Int.toNat_natCast]
    have := way_length L t p (by omega)
    omega
  · simp
set_option maxHeartbeats 8000000 in
theorem partOf_any {n b : Nat} {w : World} {L : List Sym} (h : Sg n w b L) {ao : Option Addr} {cap : Nat} {t : List Int} (ht : IntsAt w ao t) (hm : t.length ≤ 2000) (hcap : t.length ≤ cap) (x : Int) :
    Calls Tryz.prog 81 #[.pointer (some ⟨b,0,none⟩),.slice ao t.length cap,.int .i64 x] w fun e w' => ∃ so sc,e = .returned (.agg #[.int .i64 (partP L t x).1,.slice so (partP L t x).2.length sc]) ∧ Row w.heap.size w' (.slice so (partP L t x).2.length sc) (partP L t x).2 ∧ Same0 w w' := by
  have hmx : t.length ≤ maxLen := by unfold maxLen; omega
  obtain ⟨W1, hW1⟩ : ∃ W1, W1 = w.alloc (.cells #[.int .i64 0, .slice none 0 0] 121) := ⟨_, rfl⟩
  have KW : Same0 w W1 := by rw [hW1]; exact (Kept.refl _ w).alloc _
  have hbx : W1.heap[w.heap.size]? = some (.cells #[.int .i64 0, .slice none 0 0] 121 (0, 0)) := by rw [hW1]; exact heap_alloc_new w _
  have zW := lt_of_at hbx
  have RC : Hid (∀ ww, Same0 W1 ww → (ww.cell? ⟨w.heap.size, 0, none⟩ = some (.int .i64 0) ∧ ww.cell? ⟨w.heap.size, 1, none⟩ = some (.slice none 0 0)) ∧ ww.frozen? ⟨w.heap.size, 0, none⟩ = false ∧ ww.frozen? ⟨w.heap.size, 1, none⟩ = false) := fun ww hk => by
    have := hk.at0 hbx
    exact ⟨⟨cellAt this 0, cellAt this 1⟩, frozenAt this 0, frozenAt this 1⟩
  have PUT : Hid (∀ ww x y, Same0 W1 ww → (((ww.setCell ⟨w.heap.size, 0, none⟩ x).setCell ⟨w.heap.size, 1, none⟩ y).cell? ⟨w.heap.size, 0, none⟩ = some x ∧ ((ww.setCell ⟨w.heap.size, 0, none⟩ x).setCell ⟨w.heap.size, 1, none⟩ y).cell? ⟨w.heap.size, 1, none⟩ = some y) ∧ Kept (fun k => k = w.heap.size) ww ((ww.setCell ⟨w.heap.size, 0, none⟩ x).setCell ⟨w.heap.size, 1, none⟩ y) ∧ Same0 w ((ww.setCell ⟨w.heap.size, 0, none⟩ x).setCell ⟨w.heap.size, 1, none⟩ y)) := fun ww x y hk => by
    have h1 := hk.at0 hbx
    have h2 := setAt (setAt h1 0 x) 1 y
    have k1 := kept_at ww w.heap.size 0 x
    have k2 := kept_at (ww.setCell ⟨w.heap.size, 0, none⟩ x) w.heap.size 1 y
    have k3 := Kept.trans k1 k2 (fun _ _ e => e)
    exact ⟨⟨cellAt h2 0, cellAt h2 1⟩, k3, Kept.trans (KW.trans' hk) k3 (fun i hi e => by omega)⟩
  obtain ⟨⟨r0, r1⟩, f0, f1⟩ := RC.out W1 (Kept.refl _ _)
  by_cases hx : 0 ≤ x
  · have HP : Hid (partP L t x = (x, [])) := by show _ = _; rw [partP, if_pos hx]
    have PH : Hid _ := PUT.out W1 (.int .i64 x) (.slice none 0 0) (Kept.refl _ _)
    clear h ht
    go_enter Tryz.func81, Tryz.ntmps81
    go_upto_region 1 with fail
    rw [← hW1]
    clear hW1
    go_wp2_with fail
    obtain ⟨⟨g0, g1⟩, kk, ks⟩ := PH.out
    refine bodyPost_ret (v := .agg #[.int .i64 x, .slice none 0 0]) (by simp [results, Tryz.results81, go_sem, g0, g1]) rfl ?_
    rw [HP.out]
    exact ⟨none, 0, rfl, World.ownsRow_nil _ _ _ _, ks⟩
  · have HP : Hid (partP L t x = (-1, pathA L t (idxI t x))) := by show _ = _; rw [partP, if_neg hx]
    have CI := indexI_any (sc := cap) (ht.same KW) hm x
    have CP : Calls Tryz.prog 116 #[.pointer (some ⟨b, 0, none⟩), .slice ao t.length cap, .int .i64 (idxI t x)] W1 fun e w' => ∃ so sc er, e = .returned (.tuple #[.slice so (pathA L t (idxI t x)).length sc, .int .i64 er]) ∧ Hid (Row W1.heap.size w' (.slice so (pathA L t (idxI t x)).length sc) (pathA L t (idxI t x))) ∧ Same0 W1 w' := by
      refine (tpath_any (h.same KW) (ht.same KW) hmx hcap (idxI t x)).mono ?_
      rintro e w' ⟨v, rfl, hr, hk⟩
      obtain ⟨so, sc, rfl, _⟩ := hr.ints
      exact ⟨so, sc, _, rfl, hr, hk⟩
    generalize idxI t x = z at *
    generalize pathA L t z = q at *
    clear h ht
    go_enter Tryz.func81, Tryz.ntmps81
    go_upto_region 1 with fail
    rw [← hW1]
    clear hW1
    go_wp2_with (first
      | (go_at_call 117; refine CI.mono ?_; rintro e w2 ⟨rfl, rfl⟩)
      | (go_at_call 116; refine CP.mono ?_; rintro e w3 ⟨so, sc, er, rfl, hr, k3⟩; obtain ⟨⟨r2, r3⟩, f2, f3⟩ := RC.out w3 k3))
    obtain ⟨⟨g0, g1⟩, kk, ks⟩ := PUT.out w3 (.int .i64 (-1)) (.slice so q.length sc) k3
    refine bodyPost_ret (v := .agg #[.int .i64 (-1), .slice so q.length sc]) (by simp [results, Tryz.results81, go_sem, g0, g1]) rfl ?_
    rw [HP.out]
    have hr2 := kk.row hr.out (fun k e q => by
      rcases hr.out.2 with ⟨e1, _⟩ | ⟨g, _, _, e1, e2, _⟩
      · rw [e1] at e; simp [Value.ownBlock] at e
      · rw [e1] at e; simp only [Value.ownBlock, Option.some.injEq] at e; omega)
    exact ⟨so, sc, rfl, row_mono hr2 (by omega), ks⟩
end Go.Proofs.YthamjjhioafkjaaGreat
namespace Go.Proofs.YthamjjhioafkjaaGreat
set_option maxRecDepth 100000
set_option linter.unusedVariables false
open Go.RowKit Go.Shelf
def partsL (L : List Sym) (x : Ru) : List (Int × List Int) := x.2.map (partP L x.1)
def rightsL (L : List Sym) (R : List Ru) : List (List (Int × List Int)) := R.map (partsL L)
theorem info_part : (Tryz.prog.info? 121).map (fun i => (i.zero,i.size,i.bytes)) = some (some (.agg #[.int .i64 0,.slice none 0 0]),2,32) := by kernel_rfl
theorem info_parts9 : (Tryz.prog.info? 62).map (fun i => (i.zero,i.size,i.bytes)) = some (some (.slice none 0 0),1,24) := by kernel_rfl
def PtC (base : Nat) (W : World) (g k : Nat) (Q : List (Int × List Int)) : Prop :=
  ∃ cur, W.heap[g]? = some (.cells cur 121 (0, 0)) ∧ cur.size = Q.length * 2 ∧ ∀ i (h : i < Q.length), i < k → ∃ ao ac, cur[i * 2]? = some (.int .i64 Q[i].1) ∧ cur[i * 2 + 1]? = some (.slice ao Q[i].2.length ac) ∧ ArgT W ao Q[i].2 ac ∧ ∀ a, ao = some a → base ≤ a.block
theorem PtC.kept {base : Nat} {W W' : World} {g k : Nat} {Q : List (Int × List Int)} {S : Nat → Prop} (h : PtC base W g k Q) (hk : Kept S W W') (hg : ¬ S g) (hS : ∀ k,S k → ∀ cur,W.heap[k]? ≠ some (.cells cur 3 (0,0))) : PtC base W' g k Q := by
  obtain ⟨cur, h1, h2, h3⟩ := h
  refine ⟨cur, hk.at h1 hg, h2, fun i hi hik => ?_⟩
  obtain ⟨ao, ac, a, b, c, d⟩ := h3 i hi hik
  exact ⟨ao, ac, a, b, c.kept hk hS, d⟩
theorem PtC.same {base : Nat} {W W' : World} {g k : Nat} {Q : List (Int × List Int)} (h : PtC base W g k Q) (hk : Same0 W W') : PtC base W' g k Q := h.kept hk (fun f => f) (fun _ f => f.elim)
theorem PtC.put {base : Nat} {W : World} {g k : Nat} {Q : List (Int × List Int)} (h : PtC base W g k Q) (hk : k < Q.length) {ao : Option Addr} {ac : Nat} (ha : ArgT W ao Q[k].2 ac) (hb : ∀ a,ao = some a → base ≤ a.block) : PtC base ((W.setCell ⟨g,k * 2,none⟩ (.int .i64 Q[k].1)).setCell ⟨g,k * 2 + 1,none⟩ (.slice ao Q[k].2.length ac)) g (k + 1) Q ∧ (∃ o1 o2,W.cell? ⟨g,k * 2,none⟩ = some o1 ∧ W.cell? ⟨g,k * 2 + 1,none⟩ = some o2) ∧ W.frozen? ⟨g,k * 2,none⟩ = false ∧ W.frozen? ⟨g,k * 2 + 1,none⟩ = false := by
  obtain ⟨cur, h1, h2, h3⟩ := h
  have kk := Kept.trans (kept_at W g (k * 2) (.int .i64 Q[k].1)) (kept_at _ g (k * 2 + 1) (.slice ao Q[k].2.length ac)) (fun _ _ e => e)
  have ty : ∀ q, (fun q => q = g) q → ∀ cur, W.heap[q]? ≠ some (.cells cur 3 (0, 0)) := fun q e cur' hc => by
    have e' : q = g := e
    rw [e', h1] at hc; cases hc
  have l1 : k * 2 < cur.size := by omega
  have l2 : k * 2 + 1 < cur.size := by omega
  refine ⟨⟨(cur.setIfInBounds (k * 2) (.int .i64 Q[k].1)).setIfInBounds (k * 2 + 1) (.slice ao Q[k].2.length ac), setAt (setAt h1 _ _) _ _, by simp [h2], fun i hi hik => ?_⟩, ⟨cur[k * 2], cur[k * 2 + 1], by rw [cellAt h1]; simp [l1], by rw [cellAt h1]; simp [l2]⟩, frozenAt h1 _, frozenAt h1 _⟩
  by_cases e : i = k
  · subst e
    refine ⟨ao, ac, ?_, ?_, ha.kept kk ty, hb⟩
    · rw [Array.getElem?_setIfInBounds_ne (by omega)]; simp [l1]
    · simp [l2]
  · obtain ⟨bo, bc, a, b, c, d⟩ := h3 i hi (by omega)
    refine ⟨bo, bc, ?_, ?_, c.kept kk ty, d⟩
    · rw [Array.getElem?_setIfInBounds_ne (by omega), Array.getElem?_setIfInBounds_ne (by omega)]; exact a
    · rw [Array.getElem?_setIfInBounds_ne (by omega), Array.getElem?_setIfInBounds_ne (by omega)]; exact b
def RtC (base : Nat) (W : World) (cs : List Value) (Q : List (List (Int × List Int))) : Prop :=
  cs.length = Q.length ∧ ∀ i (h : i < Q.length), ∃ g gc, cs[i]? = some (.slice (some ⟨g, 0, none⟩) Q[i].length gc) ∧ base ≤ g ∧ PtC base W g Q[i].length Q[i]
theorem RtC.kept {base : Nat} {W W' : World} {cs : List Value} {Q : List (List (Int × List Int))} {S : Nat → Prop} (h : RtC base W cs Q) (hk : Kept S W W') (hS : ∀ k,S k → (∀ cur,W.heap[k]? ≠ some (.cells cur 3 (0,0))) ∧ ∀ cur,W.heap[k]? ≠ some (.cells cur 121 (0,0))) : RtC base W' cs Q :=
  ⟨h.1, fun i hi => by
    obtain ⟨g, gc, a, b, c⟩ := h.2 i hi
    refine ⟨g, gc, a, b, c.kept hk (fun s => ?_) (fun k s => (hS k s).1)⟩
    obtain ⟨cur, h1, _⟩ := c
    exact (hS g s).2 cur h1⟩
theorem RtC.same {base : Nat} {W W' : World} {cs : List Value} {Q : List (List (Int × List Int))} (h : RtC base W cs Q) (hk : Same0 W W') : RtC base W' cs Q := h.kept hk (fun _ f => f.elim)
theorem RtC.nil (base : Nat) (W : World) : RtC base W [] [] := ⟨rfl,fun i h => absurd h (by simp)⟩
theorem RtC.snoc {base : Nat} {W : World} {cs : List Value} {Q : List (List (Int × List Int))} (h : RtC base W cs Q) {q : List (Int × List Int)} {g gc : Nat} (hg : base ≤ g) (hp : PtC base W g q.length q) : RtC base W (cs ++ [.slice (some ⟨g,0,none⟩) q.length gc]) (Q ++ [q]) := by
  refine ⟨by simp [h.1], fun i hi => ?_⟩
  by_cases hl : i < Q.length
  · rw [List.getElem_append_left hl, List.getElem?_append_left (by rw [h.1]; omega)]
    exact h.2 i hl
  · obtain rfl : i = Q.length := by simp at hi; omega
    refine ⟨g, gc, ?_, hg, by simpa using hp⟩
    rw [List.getElem?_append_right (by rw [h.1]; omega), h.1]; simp
structure RgJ (L : List Sym) (R : List Ru) (w : World) (bs k : Nat) (W : World) : Prop where
  same : Same0 w W
  bx : W.heap[w.heap.size]? = some (.cells #[.pointer (some ⟨bs, 0, none⟩)] 38 (0, 0))
  row : ∃ v cs, W.heap[w.heap.size + 1]? = some (.cells #[v] 43 (0, 0)) ∧ W.ownsRow w.heap.size 62 1 v k cs ∧ RtC w.heap.size W cs (rightsL L (R.take k))
theorem RgJ.up {L : List Sym} {R : List Ru} {w : World} {bs k : Nat} {W W' : World} (h : RgJ L R w bs k W) (hk : Same0 W W') : RgJ L R w bs k W' := by
  obtain ⟨h1, h2, v, cs, h3, h4, h5⟩ := h
  exact ⟨h1.trans' hk, hk.at0 h2, v, cs, hk.at0 h3, hk.row h4 (fun _ _ f => f), h5.same hk⟩
theorem kept_put {X : World} {l : Nat} {o' : Obj} : Kept (fun k => k = l) X (X.putObj l o') := ⟨rfl,rfl,rfl,by simp,fun k _ hn => World.putObj_heap_other hn⟩
theorem RgJ.put {L : List Sym} {R : List Ru} {w : World} {bs k : Nat} {X : World} {l : Nat} {o o' : Obj} (h : RgJ L R w bs k X) (hl : X.heap[l]? = some o) (ho : o.isCells = false) (hw : w.heap.size ≤ l) : RgJ L R w bs k (X.putObj l o') := by
  obtain ⟨h1, h2, v, cs, h3, h4, h5⟩ := h
  have kk : Kept (fun k => k = l) X (X.putObj l o') := kept_put
  have no : ∀ cur t fr, X.heap[l]? ≠ some (.cells cur t fr) := fun cur t fr e => by rw [hl] at e; cases e; cases ho
  refine ⟨Kept.trans h1 kk (fun i hi e => by have e' : i = l := e; omega), putObj_at hl ho h2 rfl, v, cs, putObj_at hl ho h3 rfl, kk.row h4 (fun q e e2 => ?_), h5.kept kk (fun q e => ?_)⟩
  · obtain ⟨cur, hc⟩ := own_typed h4 e
    have e3 : q = l := e2
    rw [e3] at hc
    exact no _ _ _ hc
  · have e3 : q = l := e
    rw [e3]
    exact ⟨fun cur => no _ _ _, fun cur => no _ _ _⟩
theorem own_low {w : World} {base n size : Nat} {T : TypeId} {v : Value} {vs : List Value} (h : w.ownsRow base T size v n vs) {q : Nat} (hq : v.ownBlock = some q) : base ≤ q := by
  rcases h.2 with ⟨rfl, _⟩ | ⟨g, cap, cur, rfl, hb, _⟩
  · simp [Value.ownBlock] at hq
  · simp only [Value.ownBlock, Option.some.injEq] at hq; omega
theorem Rnd.of {D B : Nat} {S : Nat → Prop} {W W' : World} (h : Kept S W W') (hc : ∀ k,S k → ∃ cur t fr,W.heap[k]? = some (.cells cur t fr)) (hB : ∀ k,k < B → ¬ S k) (hBW : B ≤ W.heap.size) : Rnd D B W W' :=
  ⟨⟨h.size, fun k o _ hk ho => h.at hk (fun s => by obtain ⟨cur, t, fr, e⟩ := hc k s; rw [hk] at e; cases e; cases ho)⟩, h.below hBW hB⟩
theorem RgJ.more {L : List Sym} {R : List Ru} {w : World} {bs k : Nat} {W w1 : World} (j1 : Same0 w W) (j2 : W.heap[w.heap.size]? = some (.cells #[.pointer (some ⟨bs,0,none⟩)] 38 (0,0))) {v v' : Value} {cs : List Value} (j3 : W.heap[w.heap.size + 1]? = some (.cells #[v] 43 (0,0))) (j4 : W.ownsRow w.heap.size 62 1 v k cs) (j5 : RtC w.heap.size W cs (rightsL L (R.take k))) (hk : k < R.length) {gp gc : Nat} (hP : PtC w.heap.size W gp (partsL L R[k]).length (partsL L R[k])) (hg : w.heap.size ≤ gp)
    (hr : w1.ownsRow w.heap.size 62 1 v' (k + 1) (cs ++ [.slice (some ⟨gp, 0, none⟩) (partsL L R[k]).length gc])) (hkp : Kept (fun q => v.ownBlock = some q) W w1) {D : Nat} :
    w1.heap[w.heap.size + 1]? = some (.cells #[v] 43 (0, 0)) ∧ RgJ L R w bs (k + 1) (w1.setCell ⟨w.heap.size + 1, 0, none⟩ v') ∧ Rnd D w.heap.size W (w1.setCell ⟨w.heap.size + 1, 0, none⟩ v') := by
  have ty : ∀ q, v.ownBlock = some q → ∃ cur, W.heap[q]? = some (.cells cur 62 (0, 0)) := fun q e => own_typed j4 e
  have n3 : ¬ v.ownBlock = some (w.heap.size + 1) := fun e => by obtain ⟨cur, hc⟩ := ty _ e; rw [j3] at hc; cases hc
  have n2 : ¬ v.ownBlock = some w.heap.size := fun e => by obtain ⟨cur, hc⟩ := ty _ e; rw [j2] at hc; cases hc
  have b3 := hkp.at j3 n3
  have ks := kept_at w1 (w.heap.size + 1) 0 v'
  have kk : Kept (fun q => v.ownBlock = some q ∨ q = w.heap.size + 1) W (w1.setCell ⟨w.heap.size + 1, 0, none⟩ v') := Kept.trans (hkp.mono (fun _ _ e => .inl e)) ks (fun _ _ e => .inr e)
  have e1 : rightsL L (R.take (k + 1)) = rightsL L (R.take k) ++ [partsL L R[k]] := by
    unfold rightsL
    rw [List.take_add_one, List.getElem?_eq_getElem hk, List.map_append]; rfl
  refine ⟨b3, ⟨Kept.trans j1 kk (fun i hi e => ?_), kk.at j2 (fun e => ?_), v', _, by rw [setAt b3]; rfl, ks.row hr (fun q e e2 => ?_), ?_⟩, Rnd.of kk (fun q e => ?_) (fun q hq e => ?_) j1.size⟩
  · rcases e with e | e
    · have := own_low j4 e; omega
    · omega
  · rcases e with e | e
    · exact n2 e
    · omega
  · have e3 : q = w.heap.size + 1 := e2
    rw [e3] at e
    obtain ⟨cur, hc⟩ := own_typed hr e
    rw [b3] at hc; cases hc
  · rw [e1]
    refine (j5.snoc hg hP).kept kk (fun q e => ?_)
    rcases e with e | e
    · obtain ⟨cur, hc⟩ := ty q e
      exact ⟨fun cur' h => (by rw [hc] at h; cases h), fun cur' h => (by rw [hc] at h; cases h)⟩
    · rw [e]
      exact ⟨fun cur' h => (by rw [j3] at h; cases h), fun cur' h => (by rw [j3] at h; cases h)⟩
  · rcases e with e | e
    · obtain ⟨cur, hc⟩ := ty q e
      exact ⟨_, _, _, hc⟩
    · rw [e]; exact ⟨_, _, _, j3⟩
  · rcases e with e | e
    · have := own_low j4 e; omega
    · omega
end Go.Proofs.YthamjjhioafkjaaGreat
