/- The walks of trail's path, of Path and Depth of package term. -/
import Derived.Test.YtgoifkbdiicmkaaTermTrail
namespace Go.Proofs.Ytgoifkbdiicmkaa
set_option linter.unusedVariables false
open Go.RowKit
attribute [local go_sem ↓] Go.wp_at_zero Go.wp_at_succ
def firsts (st : List (Nat × Nat)) : List Int := ofN (st.reverse.map Prod.fst)
theorem firsts_length (st : List (Nat × Nat)) : (firsts st).length = st.length := by simp [firsts, ofN]
theorem firsts_take {st : List (Nat × Nat)} {k : Nat} (h : k < st.length) : (firsts st).take (k + 1) = (firsts st).take k ++ [((st.reverse[k]'(by simpa using h)).1 : Int)] := by
  rw [List.take_add_one, List.getElem?_eq_getElem (by rw [firsts_length]; exact h)]
  simp [firsts, ofN]
set_option maxHeartbeats 4000000 in
theorem tpathv_any {base : Nat} {w : World} {v : Value} {st : List (Nat × Nat)} (hr : w.ownsRow base 90 2 v st.length (turnCells st.reverse)) (hl : st.length ≤ 2000) :
    Calls Try.prog 47 #[v] w fun e w' => ∃ v', e = .returned v' ∧ Row w.heap.size w' v' (firsts st) ∧ Same0 w w' := by
  obtain ⟨vo, vcap, rfl⟩ := row_shape hr
  obtain ⟨i, hi, hz0, hz1, hz2⟩ := info_parts info_int
  go_enter Try.func47, Try.ntmps47
  go_wp2_with (first | (at_make; refine wpList_make_full _ rfl _ _ 24 rfl w.heap.size 3 i _ 1 Try.underlying24 hi hz0 hz1 _ _ _ _ st.length rfl rfl rfl rfl (by rw [hz2]; omega) (by unfold maxLen; omega) (Nat.le_refl _) ?_; intro w3 hown hgrow))
  have L0 : Laid w.heap.size w.heap.size st.length 0 ((firsts st).take 0) w w3 := ⟨_, hown, by simp [iv], Same0.grown (Kept.refl _ w) hgrow⟩
  clear hown hgrow hi hz0 hz1 hz2
  have HR : Hid (w.ownsRow base 90 2 (.slice vo st.length vcap) st.length (turnCells st.reverse)) := hr
  clear hr
  go_loopw [11] (fun kv wr => ∃ k : Nat, k ≤ st.length ∧ kv = .int .i64 (k : Int) ∧ Laid w.heap.size w.heap.size st.length k ((firsts st).take k) w wr) (fun kv _ => st.length - (intOf kv).toNat)
  case atStart => exact ⟨0, Nat.zero_le _, rfl, L0⟩
  case round =>
    clear L0
    obtain ⟨k, hk, rfl, hL⟩ := hrel
    by_cases hlt : k < st.length
    · have hsm : Same0 w wr := by obtain ⟨_, _, _, h3⟩ := hL; exact h3
      have hrw := Kept.row hsm HR.out (fun _ _ f => f)
      obtain ⟨g, cap, hv, _, hg⟩ := hrw.form (by omega)
      simp only [Value.slice.injEq, true_and] at hv
      obtain ⟨rfl, rfl⟩ := hv
      have hkr : k < st.reverse.length := by simpa using hlt
      obtain ⟨c1, c2⟩ := turnCells_at hkr
      have q1 : wr.cell? ⟨g, k * 2, none⟩ = some (.int .i64 (st.reverse[k].1 : Int)) := by rw [hrw.cellAt _ (by omega)]; exact c1
      have q2 : wr.cell? ⟨g, k * 2 + 1, none⟩ = some (.int .i64 (st.reverse[k].2 : Int)) := by rw [hrw.cellAt _ (by omega)]; exact c2
      have e2 : Hid ((firsts st).take (k + 1) = (firsts st).take k ++ [(st.reverse[k].1 : Int)]) := firsts_take hlt
      have i1 : (0 : Int) ≤ (k : Int) := by omega
      have i2 : (k : Int) < (st.length : Int) := by omega
      generalize st.reverse[k].1 = x1 at *
      generalize st.reverse[k].2 = x2 at *
      clear hrw c1 c2
      obtain ⟨old, f1, f2⟩ : ∃ old, wr.cell? ⟨w.heap.size, k, none⟩ = some old ∧ wr.frozen? ⟨w.heap.size, k, none⟩ = false := by obtain ⟨ys, h1, _⟩ := hL; exact row_put h1 hlt
      have hwl : w.heap.size < wr.heap.size := by obtain ⟨ys, h1, _⟩ := hL; exact (h1.lt _ rfl).2
      have hne : ¬ w.heap.size = wr.heap.size := by omega
      have hLn := (hL.next hlt (Nat.le_refl _) (x1 : Int)).same ((Kept.refl _ _).alloc (.cells #[.int .i64 (x1 : Int), .int .i64 (x2 : Int)] 90))
      go_wp2
      refine ⟨⟨k + 1, by omega, by go_num, ?_⟩, by simp [intOf]; omega⟩
      rw [e2.out]; exact hLn
    · obtain rfl : k = st.length := by omega
      have hrr := hL.row
      obtain ⟨_, _, _, hs⟩ := hL
      go_wp2
      go_ret
      refine ⟨_, rfl, ?_, hs⟩
      have := hrr.1
      rwa [List.take_of_length_le (by rw [firsts_length]; exact Nat.le_refl _)] at this
theorem way_length (L : List Sym) (t : List Int) (k : Nat) (hk : k ≤ t.length) : (way L t k).length ≤ k := by
  induction k with
  | zero => simp [way, run]
  | succ k ih =>
    rw [way_succ (by omega)]
    have := pass_length (way L t k) (arN L (t[k]'(by omega)))
    have := ih (by omega)
    omega
/-- A way of the call's own, as it goes on. -/
def WayAt (w : World) (a : Nat) (st : List (Nat × Nat)) (wr : World) : Prop := ∃ v, TrailAt w.heap.size wr a v st ∧ Same0 w wr ∧ w.heap.size ≤ a ∧ ∀ k, v.ownBlock = some k → w.heap.size ≤ k
theorem WayAt.start {w w1 : World} (k : Same0 w w1) : WayAt w w1.heap.size [] (w1.alloc (.cells #[.slice none 0 0] 70)) :=
  ⟨.slice none 0 0, ⟨heap_alloc_new w1 _, World.ownsRow_nil _ _ _ _, by simp [Value.ownBlock], fun x hx => by simp at hx, by simp⟩, k.alloc _, k.size, fun k e => by simp [Value.ownBlock] at e⟩
theorem WayAt.same {w wr wr' : World} {a : Nat} {st : List (Nat × Nat)} (h : WayAt w a st wr) (k : Same0 wr wr') : WayAt w a st wr' := by
  obtain ⟨v, h1, h2, h3, h4⟩ := h
  exact ⟨v, h1.same k, h2.trans' k, h3, h4⟩
theorem WayAt.pass {w wr : World} {a : Nat} {st : List (Nat × Nat)} (h : WayAt w a st wr) (n : Nat) (hn : n ≤ 6) (hl : st.length < 2000) :
    Calls Try.prog 42 #[.pointer (some ⟨a, 0, none⟩), .int .i64 (n : Int)] wr fun e w' => (∃ x, e = .returned x) ∧ WayAt w a (Proofs.Ytgoifkbdiicmkaa.pass st n) w' := by
  obtain ⟨v, h1, h2, h3, h4⟩ := h
  refine (pass_any h1 h2.size n hn hl).mono ?_
  rintro e w' ⟨hx, v', t1, t2, t3⟩
  have hf : ∀ k, TFoot a v k → w.heap.size ≤ k := fun k hk => hk.elim (fun e => by omega) (h4 k)
  refine ⟨hx, v', t1, Kept.trans h2 t2 (fun i hi e => by have := hf i e; omega), h3, fun k e => ?_⟩
  rcases t3 k (.inr e) with e1 | e1
  · exact hf k e1
  · have := h2.size; omega
theorem WayAt.cell {w wr : World} {a : Nat} {st : List (Nat × Nat)} (h : WayAt w a st wr) : ∃ vo vcap, wr.cell? ⟨a, 0, none⟩ = some (.slice vo st.length vcap) ∧ wr.ownsRow w.heap.size 90 2 (.slice vo st.length vcap) st.length (turnCells st.reverse) := by
  obtain ⟨v, h1, h2, h3, h4⟩ := h
  obtain ⟨vo, vcap, rfl⟩ := row_shape h1.row
  exact ⟨vo, vcap, cellAt h1.blk 0, h1.row⟩
def pathA (L : List Sym) (t : List Int) (a : Int) : List Int := if placeE L t a = 0 then firsts (way L t a.toNat) else []
set_option maxHeartbeats 4000000 in
theorem tpath_any {n b : Nat} {w : World} {L : List Sym} (h : Sg n w b L) {ao : Option Addr} {cap : Nat} {t : List Int} (ht : IntsAt w ao t) (hm : t.length ≤ maxLen) (hcap : t.length ≤ cap) (a : Int) :
    Calls Try.prog 25 #[.pointer (some ⟨b, 0, none⟩), .slice ao t.length cap, .int .i64 a] w fun e w' => ∃ v, e = .returned (.tuple #[v, .int .i64 (placeE L t a)]) ∧ Row w.heap.size w' v (pathA L t a) ∧ Same0 w w' := by
  have c := checkPlace_any (cap := cap) h ht hm a
  by_cases hz : placeE L t a = 0
  · obtain ⟨p, rfl, hp, h0, h1, h2⟩ := place_zero hz
    have H : Hid (placeE L t p = 0 ∧ pathA L t p = firsts (way L t p)) := by
      refine ⟨hz, ?_⟩
      rw [pathA, if_pos hz]; rfl
    have c1 : Hid (∀ w1 x, Same0 w w1 → Calls Try.prog 43 #[.pointer (some ⟨b, 0, none⟩), .int .i64 x] w1 fun e w' => e = .returned (.int .i64 ((arN L x : Nat) : Int)) ∧ Same0 w1 w') := fun w1 x hk => arity_any (h.same hk) x
    have HAR : Hid (∀ x, arN L x ≤ 6) := fun x => arN_le h.2 x
    have hpc : (p : Int) ≤ (cap : Int) := by omega
    have i0 : (0 : Int) ≤ (p : Int) := by omega
    obtain ⟨tb, off, rfl, htb, hc⟩ := ht.get hp
    clear hc
    rw [hz] at c
    go_enter Try.func25, Try.ntmps25
    go_wp2_with (first | (go_at_call 45; refine c.mono ?_; rintro e w1 ⟨rfl, hk1⟩))
    have W0 : WayAt w w1.heap.size (way L t 0) (w1.alloc (.cells #[.slice none 0 0] 70)) := WayAt.start hk1
    generalize hA : w1.heap.size = A at *
    clear c
    go_loopw [23] (fun kv wr => ∃ k : Nat, k ≤ p ∧ kv = .int .i64 (k : Int) ∧ WayAt w A (way L t k) wr) (fun kv _ => p - (intOf kv).toNat)
    case atStart => exact ⟨0, Nat.zero_le _, rfl, W0⟩
    case round =>
      clear W0
      obtain ⟨k, hk, rfl, hW⟩ := hrel
      have hs : Same0 w wr := by obtain ⟨_, _, h2, _⟩ := hW; exact h2
      by_cases hlt : k < p
      · have hkt : k < t.length := by omega
        obtain ⟨tb', off', e, _, hcc⟩ := (ht.same hs).get hkt
        simp only [Option.some.injEq, Addr.mk.injEq, and_true] at e
        obtain ⟨rfl, rfl⟩ := e
        have cA := c1.out wr t[k] hs
        have h6 := HAR.out t[k]
        have E : Hid (way L t (k + 1) = pass (way L t k) (arN L t[k])) := way_succ hkt
        have hwl := way_length L t k (by omega)
        have i1 : (0 : Int) ≤ (k : Int) := by omega
        have i2 : (k : Int) < (p : Int) := by omega
        generalize arN L t[k] = m at *
        go_wp2_with fail
        refine cA.mono ?_
        rintro e w4 ⟨rfl, k4⟩
        have cP := (hW.same k4).pass m h6 (by omega)
        clear hW cA
        go_wp2_with fail
        refine cP.mono ?_
        rintro e w5 ⟨⟨x, rfl⟩, hW5⟩
        clear cP
        go_wp2
        refine ⟨⟨k + 1, by omega, by go_num, ?_⟩, by simp [intOf]; omega⟩
        rw [E.out]; exact hW5
      · obtain rfl : k = p := by omega
        obtain ⟨vo, vcap, q0, q1⟩ := hW.cell
        have hwl := way_length L t k (by omega)
        have cp := tpathv_any q1 (by omega)
        clear hW q1
        go_wp2_with fail
        refine cp.mono ?_
        rintro e w6 ⟨v', rfl, hr, k6⟩
        clear cp
        have hr' := row_mono hr hs.size
        go_wp2
        go_ret2
        refine ⟨v', ?_, ?_, hs.trans' k6⟩
        · rw [H.out.1]; rfl
        · rw [H.out.2]; exact hr'
  · have H : Hid (pathA L t a = []) := by show _ = _; rw [pathA, if_neg hz]
    have hz' : (placeE L t a == 0) = false := by simpa using hz
    go_enter Try.func25, Try.ntmps25
    go_wp2_with (first | (go_at_call 45; refine c.mono ?_; rintro e w1 ⟨rfl, hk1⟩))
    go_ret2
    refine ⟨_, rfl, ?_, hk1⟩
    rw [H.out]
    exact World.ownsRow_nil _ _ _ _
/-- How deep the first k places stand. -/
def deepN (L : List Sym) (t : List Int) : Nat → Nat
  | 0 => 0
  | k + 1 => max (deepN L t k) ((way L t k).length + 1)
def depthA (L : List Sym) (t : List Int) : Int := if checkE L t = 0 then (deepN L t t.length : Int) else 0
theorem deepN_le (L : List Sym) (t : List Int) (k : Nat) (hk : k ≤ t.length) : deepN L t k ≤ k := by
  induction k with
  | zero => simp [deepN]
  | succ k ih =>
    have := way_length L t k (by omega)
    have := ih (by omega)
    simp [deepN]; omega
set_option maxHeartbeats 4000000 in
theorem tdepth_any {n b : Nat} {w : World} {L : List Sym} (h : Sg n w b L) {ao : Option Addr} {cap : Nat} {t : List Int} (ht : IntsAt w ao t) (hm : t.length ≤ maxLen) :
    Calls Try.prog 13 #[.pointer (some ⟨b, 0, none⟩), .slice ao t.length cap] w fun e w' => e = .returned (.tuple #[.int .i64 (depthA L t), .int .i64 (checkE L t)]) ∧ Same0 w w' := by
  have c := check_any (cap := cap) h ht hm
  by_cases hz : checkE L t = 0
  · obtain ⟨h1, _, h2⟩ := checkE_zero.1 hz
    have H : Hid (checkE L t = 0 ∧ depthA L t = (deepN L t t.length : Int)) := ⟨hz, by rw [depthA, if_pos hz]⟩
    have c1 : Hid (∀ w1 x, Same0 w w1 → Calls Try.prog 43 #[.pointer (some ⟨b, 0, none⟩), .int .i64 x] w1 fun e w' => e = .returned (.int .i64 ((arN L x : Nat) : Int)) ∧ Same0 w1 w') := fun w1 x hk => arity_any (h.same hk) x
    have HAR : Hid (∀ x, arN L x ≤ 6) := fun x => arN_le h.2 x
    rw [hz] at c
    go_enter Try.func13, Try.ntmps13
    go_wp2_with (first | (go_at_call 12; refine c.mono ?_; rintro e w1 ⟨rfl, hk1⟩))
    have W0 : WayAt w w1.heap.size (way L t 0) (w1.alloc (.cells #[.slice none 0 0] 70)) := WayAt.start hk1
    generalize hA : w1.heap.size = A at *
    clear c
    go_loopw [7, 19] (fun dv kv wr => ∃ k : Nat, k ≤ t.length ∧ kv = .int .i64 (k : Int) ∧ dv = .int .i64 (deepN L t k : Int) ∧ WayAt w A (way L t k) wr) (fun _ kv _ => t.length - (intOf kv).toNat)
    case atStart => exact ⟨0, Nat.zero_le _, rfl, rfl, W0⟩
    case round =>
      clear W0
      obtain ⟨k, hk, rfl, rfl, hW⟩ := hrel
      have hs : Same0 w wr := by obtain ⟨_, _, h2, _⟩ := hW; exact h2
      by_cases hlt : k < t.length
      · obtain ⟨tb, off, rfl, _, hcc⟩ := (ht.same hs).get hlt
        obtain ⟨vo, vcap, q0, _⟩ := hW.cell
        have cA := c1.out wr t[k] hs
        have h6 := HAR.out t[k]
        have E : Hid (way L t (k + 1) = pass (way L t k) (arN L t[k])) := way_succ hlt
        have E2 : Hid (deepN L t (k + 1) = max (deepN L t k) ((way L t k).length + 1)) := rfl
        have hwl := way_length L t k (by omega)
        have hdl := deepN_le L t k (by omega)
        have i1 : (0 : Int) ≤ (k : Int) := by omega
        have i2 : (k : Int) < (t.length : Int) := by omega
        generalize arN L t[k] = m at *
        generalize hD : deepN L t k = D at *
        generalize hl' : (way L t k).length = Wl at *
        by_cases hmx : D < Wl + 1
        · have hmi : (D : Int) < (Wl : Int) + 1 := by omega
          have hmj : ¬ (Wl : Int) + 1 ≤ (D : Int) := by omega
          have E3 : Hid ((deepN L t (k + 1) : Int) = (Wl : Int) + 1) := by have := E2.out; show _ = _; omega
          go_wp2_with fail
          all_goals
            refine cA.mono ?_
            rintro e w4 ⟨rfl, k4⟩
            have cP := (hW.same k4).pass m h6 (by omega)
            clear hW cA
            go_wp2_with fail
            refine cP.mono ?_
            rintro e w5 ⟨⟨x, rfl⟩, hW5⟩
            clear cP
            rw [← E.out] at hW5
            go_wp2
            refine ⟨⟨k + 1, by omega, by go_num, ?_, hW5⟩, by simp [intOf]; omega⟩
            rw [E3.out]
            try (congr 1; omega)
        · have hmi : ¬ (D : Int) < (Wl : Int) + 1 := by omega
          have hmj : (Wl : Int) + 1 ≤ (D : Int) := by omega
          have E3 : Hid ((deepN L t (k + 1) : Int) = (D : Int)) := by have := E2.out; show _ = _; omega
          go_wp2_with fail
          all_goals
            refine cA.mono ?_
            rintro e w4 ⟨rfl, k4⟩
            have cP := (hW.same k4).pass m h6 (by omega)
            clear hW cA
            go_wp2_with fail
            refine cP.mono ?_
            rintro e w5 ⟨⟨x, rfl⟩, hW5⟩
            clear cP
            rw [← E.out] at hW5
            go_wp2
            refine ⟨⟨k + 1, by omega, by go_num, ?_, hW5⟩, by simp [intOf]; omega⟩
            rw [E3.out]
            try (congr 1; omega)
      · obtain rfl : k = t.length := by omega
        clear hW
        go_wp2
        go_ret2
        exact ⟨by rw [H.out.1, H.out.2]; rfl, hs⟩
  · have H : Hid (depthA L t = 0) := by show _ = _; rw [depthA, if_neg hz]
    have hz' : (checkE L t == 0) = false := by simpa using hz
    go_enter Try.func13, Try.ntmps13
    go_wp2_with (first | (go_at_call 12; refine c.mono ?_; rintro e w1 ⟨rfl, hk1⟩))
    go_ret2
    exact ⟨by rw [H.out]; rfl, hk1⟩
end Go.Proofs.Ytgoifkbdiicmkaa
