/- The walks of join, Sub and Put of package term. -/
import Derived.Test.YtbcchplcppogoaaTermArgs
import Derived.Laws.CopyOwn
namespace Go.Proofs.Ytbcchplcppogoaa
set_option maxRecDepth 100000
set_option linter.unusedVariables false
open Go.RowKit
attribute [local go_sem ↓] Go.wp_at_zero Go.wp_at_succ
/-- A part that is laid behind another. -/
structure Part where
  ao : Option Addr
  cap : Nat
  xs : List Int
def PartsAt (w : World) (pb : Nat) (ps : List Part) : Prop := pb < w.heap.size ∧ ∀ i (h : i < ps.length), w.cell? ⟨pb, i, none⟩ = some (.slice ps[i].ao ps[i].xs.length ps[i].cap) ∧ IntsAt w ps[i].ao ps[i].xs
def allOf (ps : List Part) : List Int := ps.flatMap Part.xs
theorem PartsAt.same {w w' : World} {pb : Nat} {ps : List Part} (h : PartsAt w pb ps) (hk : Same0 w w') : PartsAt w' pb ps :=
  ⟨Nat.lt_of_lt_of_le h.1 hk.size, fun i hi => ⟨(hk.cell (p := ⟨pb, i, none⟩) h.1 (fun f => f)).trans (h.2 i hi).1, (h.2 i hi).2.same hk⟩⟩
theorem allOf_snoc {ps : List Part} {k : Nat} (h : k < ps.length) : allOf (ps.take (k + 1)) = allOf (ps.take k) ++ ps[k].xs := by
  simp only [allOf]; rw [List.take_add_one, List.getElem?_eq_getElem h, List.flatMap_append]; simp
theorem allOf_le (ps : List Part) (k : Nat) : (allOf (ps.take k)).length ≤ (allOf ps).length := by
  have e : allOf ps = allOf (ps.take k) ++ allOf (ps.drop k) := by rw [allOf, allOf, allOf, ← List.flatMap_append, List.take_append_drop]
  rw [e]; simp
theorem Same0.of {w w' : World} (h : Below w.heap.size w w') : Same0 w w' := ⟨h.os, h.tape, h.output, h.size, fun k hk _ => h.block k hk⟩
/-- What lies in the row that join fills, when m numbers are laid. -/
def Joins (g N m : Nat) (xs : List Int) (w wr : World) : Prop := ∃ cur : List Value, wr.heap[g]? = some (.cells cur.toArray 3 (0, 0)) ∧ cur.length = N ∧ cur.take m = iv xs ∧ xs.length = m ∧ Same0 w wr
theorem Joins.start {g N : Nat} {v : Value} {ys : List Value} {w wr : World} (hv : v = .slice (some ⟨g, 0, none⟩) N N) (h : wr.ownsRow w.heap.size 3 1 v N ys) (hs : Same0 w wr) : Joins g N 0 [] w wr := by
  rcases h.2 with ⟨e, _⟩ | ⟨g', cap, cur, e, hb, hg, _, _, hsz, _⟩
  · rw [hv] at e; cases e
  · rw [hv] at e
    simp only [Value.slice.injEq, Option.some.injEq, Addr.mk.injEq, and_true, true_and] at e
    obtain ⟨rfl, rfl⟩ := e
    exact ⟨cur.toList, by simpa using hg, by simpa using hsz, by simp [iv], rfl, hs⟩
theorem splice_take {α : Type} (cur cs : List α) (m : Nat) (h : m + cs.length ≤ cur.length) : (splice cur m cs).take (m + cs.length) = cur.take m ++ cs := by
  unfold splice
  rw [← List.append_assoc, List.take_left' (by simp; omega)]
theorem Joins.next {g N m : Nat} {xs zs : List Int} {cur : List Value} {w w' : World} (h1 : cur.length = N) (h2 : cur.take m = iv xs) (h3 : xs.length = m) (hm : m + zs.length ≤ N)
    (hg : w'.heap[g]? = some (.cells (splice cur m (iv zs)).toArray 3 (0, 0))) (hb : Below w.heap.size w w') : Joins g N (m + zs.length) (xs ++ zs) w w' := by
  refine ⟨_, hg, ?_, ?_, by simp; omega, Same0.of hb⟩
  · rw [length_splice _ _ _ (by rw [iv_length]; omega)]; exact h1
  · have := splice_take cur (iv zs) m (by rw [iv_length]; omega)
    rw [iv_length] at this
    rw [this, h2, iv_append]
theorem Joins.row {g N : Nat} {xs : List Int} {w wr : World} (h : Joins g N N xs w wr) (hg : w.heap.size ≤ g) (hN : N ≤ maxLen) : Row w.heap.size wr (.slice (some ⟨g, 0, none⟩) N N) xs := by
  obtain ⟨cur, h1, h2, h3, h4, _⟩ := h
  subst h4
  exact ⟨by simp [iv], .inr ⟨g, xs.length, cur.toArray, rfl, hg, h1, Nat.le_refl _, hN, by simpa using h2, by simpa using h3⟩⟩
theorem iv_oneCell (xs : List Int) : ∀ v ∈ iv xs, v.oneCell' = true := by
  intro v hv
  simp only [iv, List.mem_map] at hv
  obtain ⟨x, _, rfl⟩ := hv
  rfl
theorem IntsAt.src {w : World} {ao : Option Addr} {xs : List Int} (h : IntsAt w ao xs) (hn : 0 < (iv xs).length) : ∃ ad, ao = some ad ∧ ∀ j v, (iv xs)[j]? = some v → w.cell? (ad.add j) = some v := by
  rcases h with rfl | ⟨b, off, rfl, _, hc⟩
  · simp [iv] at hn
  · refine ⟨_, rfl, fun j v hj => ?_⟩
    have hlt : j < xs.length := by
      have := (List.getElem?_eq_some_iff.1 hj).1
      rwa [iv_length] at this
    rw [iv_get hlt] at hj
    cases hj
    have := hc j hlt
    unfold Addr.add
    split
    · rename_i h0; subst h0; first | (simp; done) | (simpa using this)
    · exact this
theorem iv_min {m N d : Nat} {xs : List Int} (h : m + xs.length ≤ N) (hd : d = N - m) : (iv xs).length = Nat.min xs.length d := by rw [iv_length]; exact (Nat.min_eq_left (by omega)).symm
theorem size_int : (Try.prog.info? 3).map (·.size) = some 1 := by kernel_rfl
set_option maxRecDepth 10000 in
set_option maxHeartbeats 2000000 in
theorem join_any {w : World} {pb : Nat} {ps : List Part} (h : PartsAt w pb ps) {pc : Nat} (hn : ps.length ≤ 3) (hs : (allOf ps).length ≤ 17592186044416) :
    Calls Try.prog 52 #[.slice (some ⟨pb, 0, none⟩) ps.length pc] w fun e w' => ∃ v, e = .returned v ∧ Row w.heap.size w' v (allOf ps) ∧ Same0 w w' := by
  go_enter Try.func52, Try.ntmps52
  go_wp2
  go_loop [3, 12] (fun sz i => ∃ k : Nat, k ≤ ps.length ∧ i = .int .i64 (k : Int) ∧ sz = .int .i64 ((allOf (ps.take k)).length : Int)) (fun _ i => ps.length - (intOf i).toNat)
  case atStart => exact ⟨0, Nat.zero_le _, rfl, rfl⟩
  case round =>
    obtain ⟨k, hk, rfl, rfl⟩ := hrel
    by_cases hlt : k < ps.length
    · have i1 : (0 : Int) ≤ (k : Int) := by omega
      have i2 : (k : Int) < (ps.length : Int) := by omega
      obtain ⟨hc, _⟩ := h.2 k hlt
      have hb := h.1
      have e1 := congrArg List.length (allOf_snoc hlt)
      rw [List.length_append] at e1
      have e2 := allOf_le ps (k + 1)
      have E1 : Hid ((allOf (ps.take (k + 1))).length = (allOf (ps.take k)).length + ps[k].xs.length) := e1
      have b1 : (allOf (ps.take k)).length + ps[k].xs.length ≤ 17592186044416 := by omega
      clear e1 e2
      generalize (allOf (ps.take k)).length = S at *
      generalize ps[k].xs.length = X at *
      go_wp2
      refine ⟨⟨k + 1, by omega, by go_num, ?_⟩, by simp [intOf]; omega⟩
      rw [E1.out]; go_num
    · obtain rfl : k = ps.length := by omega
      obtain ⟨i, hi, hz0, hz1, hz2⟩ := info_parts info_intT
      have e0 : ps.take ps.length = ps := List.take_length
      rw [e0]
      clear e0
      obtain ⟨N, hN⟩ : ∃ N, N = (allOf ps).length := ⟨_, rfl⟩
      have hN' : Hid (N = (allOf ps).length) := hN
      have hs' : N ≤ 17592186044416 := by omega
      rw [← hN]
      clear hN hs
      go_wp2_with (first | (at_make; refine wpList_make_full _ rfl _ _ 25 rfl w.heap.size 3 i _ 1 Try.underlying25 hi hz0 hz1 _ _ _ _ N rfl rfl rfl rfl (by rw [hz2]; omega) (by unfold maxLen; omega) (Nat.le_refl _) ?_; intro w3 hown hgrow))
      have J0 : Joins w.heap.size N 0 (allOf (ps.take 0)) w w3 := Joins.start rfl hown (Same0.grown (Kept.refl _ w) hgrow)
      clear hown hgrow
      go_loopw [7, 25] (fun at' i wr => ∃ (k m : Nat), k ≤ ps.length ∧ i = .int .i64 (k : Int) ∧ at' = .int .i64 (m : Int) ∧ Joins w.heap.size N m (allOf (ps.take k)) w wr) (fun _ i _ => ps.length - (intOf i).toNat)
      case atStart => exact ⟨0, 0, Nat.zero_le _, rfl, rfl, J0⟩
      case round =>
        obtain ⟨k, m, hk, rfl, rfl, cur, q1, q2, q3, q4, q5⟩ := hrel
        by_cases hlt : k < ps.length
        · have i1 : (0 : Int) ≤ (k : Int) := by omega
          have i2 : (k : Int) < (ps.length : Int) := by omega
          have h' := h.same q5
          obtain ⟨hc, hx⟩ := h'.2 k hlt
          have hb := h'.1
          have e1 := congrArg List.length (allOf_snoc hlt)
          rw [List.length_append, q4] at e1
          have e2 := allOf_le ps (k + 1)
          have hN2 := hN'.out
          have b1 : m + ps[k].xs.length ≤ N := by omega
          have E2 : Hid (allOf (ps.take (k + 1)) = allOf (ps.take k) ++ ps[k].xs) := allOf_snoc hlt
          have Q3 : Hid (cur.take m = iv (allOf (ps.take k))) := q3
          have Q4 : Hid ((allOf (ps.take k)).length = m) := q4
          have hbl := q5.below
          clear e1 e2 hN2 q3 q4 h'
          have m1 : (m : Int) ≤ (N : Int) := by omega
          have m0 : (0 : Int) ≤ (m : Int) := by omega
          obtain ⟨pao, hpao⟩ : ∃ pao, pao = ps[k].ao := ⟨_, rfl⟩
          obtain ⟨pcap, hpcap⟩ : ∃ pcap, pcap = ps[k].cap := ⟨_, rfl⟩
          obtain ⟨pxs, hpxs⟩ : ∃ pxs, pxs = ps[k].xs := ⟨_, rfl⟩
          rw [← hpao, ← hpxs, ← hpcap] at hc
          rw [← hpao, ← hpxs] at hx
          rw [← hpxs] at b1 E2
          clear hpao hpcap hpxs
          have hfit : Hid (m + (iv pxs).length ≤ cur.length) := by show _ ≤ _; rw [iv_length]; omega
          go_upto_region 12 with fail
          go_wp2_with (first | (refine wpList_copy_splice rfl (.tmp 32) (.tmp 33) 25 25 rfl 3 Try.underlying25 size_int _ _ _ _ _ _ rfl rfl w.heap.size m cur 3 q1 (iv pxs) (iv_min b1 (by omega)) (fun h0 => ⟨by first | rfl | (exfalso; rw [iv_length] at h0; omega) | (split <;> first | rfl | (exfalso; rw [iv_length] at h0; omega)), hx.src h0⟩) hfit.out (iv_oneCell pxs) w.heap.size w hbl (Nat.le_refl _) ?_; intro w4 hg4 hb4))
          have ew : wrap64 ((m : Int) + ((iv pxs).length : Int)) = ((m + pxs.length : Nat) : Int) := by rw [iv_length]; unfold wrap64; omega
          refine ⟨⟨k + 1, m + pxs.length, by omega, by go_num, by rw [ew], ?_⟩, by simp [intOf]; omega⟩
          rw [E2.out]
          exact Joins.next q2 Q3.out Q4.out b1 hg4.out hb4
        · obtain rfl : k = ps.length := by omega
          rw [List.take_length] at q3 q4
          obtain rfl : N = m := by rw [← q4]; exact hN'.out
          have hr : Row w.heap.size wr (.slice (some ⟨w.heap.size, 0, none⟩) N N) (allOf ps) := Joins.row ⟨cur, q1, q2, q3, q4, q5⟩ (Nat.le_refl _) (by unfold maxLen; omega)
          clear q1 q2 q3 q4
          go_wp2
          go_ret
          exact ⟨_, rfl, hr, q5⟩
theorem IntsAt.cut {w : World} {b off : Nat} {t : List Int} (h : IntsAt w (some ⟨b, off, none⟩) t) (lo hi : Nat) : IntsAt w (some ⟨b, off + lo, none⟩) ((t.take hi).drop lo) := by
  rcases h with rfl | ⟨b', off', e, hlt, hc⟩
  · left; simp
  · simp only [Option.some.injEq, Addr.mk.injEq, and_true] at e
    obtain ⟨rfl, rfl⟩ := e
    refine .inr ⟨b, off + lo, rfl, hlt, fun i hi' => ?_⟩
    have h1 : lo + i < t.length := by simp at hi'; omega
    have := hc (lo + i) h1
    rw [Nat.add_assoc, this]
    simp
theorem IntsAt.nil (w : World) (ao : Option Addr) : IntsAt w ao [] := .inl rfl
theorem parts_one {w : World} {ao : Option Addr} {cap m : Nat} {xs : List Int} {T : TypeId} (h : IntsAt w ao xs) (hm : m = xs.length) : PartsAt (w.alloc (.cells #[.slice ao m cap] T)) w.heap.size [⟨ao, cap, xs⟩] := by
  subst hm
  refine ⟨by simp, fun i hi => ?_⟩
  obtain rfl : i = 0 := by simpa using hi
  exact ⟨cellAt (heap_alloc_new w _) 0, h.same ((Kept.refl _ w).alloc _)⟩
theorem parts_three {w : World} {a0 a1 a2 : Option Addr} {c0 c1 c2 m0 m1 m2 : Nat} {x0 x1 x2 : List Int} {T : TypeId} (h0 : IntsAt w a0 x0) (h1 : IntsAt w a1 x1) (h2 : IntsAt w a2 x2) (e0 : m0 = x0.length) (e1 : m1 = x1.length) (e2 : m2 = x2.length) :
    PartsAt (w.alloc (.cells #[.slice a0 m0 c0, .slice a1 m1 c1, .slice a2 m2 c2] T)) w.heap.size [⟨a0, c0, x0⟩, ⟨a1, c1, x1⟩, ⟨a2, c2, x2⟩] := by
  subst e0 e1 e2
  have k : Same0 w (w.alloc (.cells #[.slice a0 x0.length c0, .slice a1 x1.length c1, .slice a2 x2.length c2] T)) := (Kept.refl _ w).alloc _
  refine ⟨by simp, fun i hi => ?_⟩
  have hi' : i < 3 := by simpa using hi
  match i, hi' with
  | 0, _ => exact ⟨cellAt (heap_alloc_new w _) 0, h0.same k⟩
  | 1, _ => exact ⟨cellAt (heap_alloc_new w _) 1, h1.same k⟩
  | 2, _ => exact ⟨cellAt (heap_alloc_new w _) 2, h2.same k⟩
def subA (L : List Sym) (t : List Int) (a : Int) : List Int := if placeE L t a = 0 then subN L t a.toNat else []
set_option maxHeartbeats 2000000 in
theorem sub_any {n b : Nat} {w : World} {L : List Sym} (h : Sg n w b L) {ao : Option Addr} {cap : Nat} {t : List Int} (ht : IntsAt w ao t) (hm : t.length ≤ maxLen) (hcap : t.length ≤ cap) (a : Int) :
    Calls Try.prog 32 #[.pointer (some ⟨b, 0, none⟩), .slice ao t.length cap, .int .i64 a] w fun e w' => ∃ v, e = .returned (.tuple #[v, .int .i64 (placeE L t a)]) ∧ Row w.heap.size w' v (subA L t a) ∧ Same0 w w' := by
  have c := checkPlace_any (cap := cap) h ht hm a
  by_cases hz : placeE L t a = 0
  · obtain ⟨p, rfl, hp, h0, h1, h2⟩ := place_zero hz
    have H : Hid (placeE L t p = 0 ∧ subA L t p = subN L t p) := by
      refine ⟨hz, ?_⟩
      rw [subA, if_pos hz]; rfl
    have c2 : ∀ w1 q, Same0 w w1 → q < t.length → Calls Try.prog 50 #[.pointer (some ⟨b, 0, none⟩), .slice ao t.length cap, .int .i64 (q : Int)] w1 fun e w' => e = .returned (.int .i64 (endN L t q : Int)) ∧ Same0 w1 w' := fun w1 q hk hq => by
      have := end_any (cap := cap) (h.same hk) (ht.same hk) h1 q (by omega)
      rwa [endI_of h2 hq] at this
    obtain ⟨hl1, hl2⟩ := endN_le h2 hp
    obtain ⟨tb, off, rfl, htb, hc⟩ := ht.get hp
    rw [hz] at c
    have i1 : (0 : Int) ≤ (p : Int) := by omega
    have i2 : (p : Int) ≤ (endN L t p : Int) := by omega
    have i3 : (endN L t p : Int) ≤ (cap : Int) := by omega
    have i4 : ¬ cap = p := by omega
    go_enter Try.func32, Try.ntmps32
    go_wp2_with (first | (go_at_call 51; refine c.mono ?_; rintro e w1 ⟨rfl, hk1⟩) | (go_at_call 50; refine (c2 _ _ hk1 hp).mono ?_; rintro e w2 ⟨rfl, hk2⟩))
    have hk3 : Same0 w w2 := hk1.trans' hk2
    have hparts : PartsAt (w2.alloc (.cells #[.slice (some ⟨tb, off + p, none⟩) (endN L t p - p) (cap - p)] 25)) w2.heap.size [⟨some ⟨tb, off + p, none⟩, cap - p, subN L t p⟩] := parts_one ((ht.same hk3).cut p (endN L t p)) (sub_length h2 hp).symm
    have hlen : (subN L t p).length ≤ 2000 := by rw [sub_length h2 hp]; omega
    refine (join_any hparts (pc := 1) (by simp) (by simp [allOf]; omega)).mono ?_
    rintro e w4 ⟨v, rfl, hr, hk4⟩
    have e5 : allOf [⟨some ⟨tb, off + p, none⟩, cap - p, subN L t p⟩] = subN L t p := by simp [allOf]
    rw [e5] at hr
    have hk5 : Same0 w (w2.alloc (.cells #[.slice (some ⟨tb, off + p, none⟩) (endN L t p - p) (cap - p)] 25)) := hk3.alloc _
    have hr' := row_mono hr hk5.size
    have hk6 := hk5.trans' hk4
    clear hr hparts hk4 hk5 c c2
    go_wp2
    go_ret2
    refine ⟨v, ?_, ?_, hk6⟩
    · rw [H.out.1]; rfl
    · rw [H.out.2]; exact hr'
  · have H : Hid (subA L t a = []) := by show _ = _; rw [subA, if_neg hz]
    have hz' : (placeE L t a == 0) = false := by simpa using hz
    go_enter Try.func32, Try.ntmps32
    go_wp2_with (first | (go_at_call 51; refine c.mono ?_; rintro e w1 ⟨rfl, hk1⟩))
    go_ret2
    refine ⟨_, rfl, ?_, hk1⟩
    rw [H.out]
    exact World.ownsRow_nil _ _ _ _
def putE (L : List Sym) (t : List Int) (a : Int) (u : List Int) : Int := if placeE L t a ≠ 0 then placeE L t a else if checkE L u ≠ 0 then checkE L u else if 2000 < (putN L t a.toNat u).length then 20 else 0
def putA (L : List Sym) (t : List Int) (a : Int) (u : List Int) : List Int := if putE L t a u = 0 then putN L t a.toNat u else []
end Go.Proofs.Ytbcchplcppogoaa
