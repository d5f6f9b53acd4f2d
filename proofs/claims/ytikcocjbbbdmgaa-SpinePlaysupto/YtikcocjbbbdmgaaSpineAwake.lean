/- The walks of awake and filled, the helpers of layer 14's statements. -/
import Derived.Test.YtikcocjbbbdmgaaSpineTell
import Derived.Test.YtikcocjbbbdmgaaSpineTurn
import Derived.Test.YtikcocjbbbdmgaaSpineSame
namespace Go.Proofs.Ytikcocjbbbdmgaa
set_option maxRecDepth 100000
set_option linter.unusedVariables false
open Go.RowKit
attribute [local go_sem ↓] Go.wp_at_zero Go.wp_at_succ
/-- Numbers laid at a call. -/
theorem arg_new2 (w : World) (a b : Int) : Arg (w.alloc (.cells #[.int .i64 a, .int .i64 b] 3)) (some ⟨w.heap.size, 0, none⟩) [a, b] 2 := by
  refine ⟨.inr ⟨_, 0, rfl, by simp, fun i hi => ?_⟩, by simp, (fun e => by cases e), by simp⟩
  have h := heap_alloc_new w (.cells #[.int .i64 a, .int .i64 b] 3)
  match i, hi with
  | 0, _ => exact cellAt h 0
  | 1, _ => exact cellAt h 1
theorem arg_new1 (w : World) (a : Int) : Arg (w.alloc (.cells #[.int .i64 a] 3)) (some ⟨w.heap.size, 0, none⟩) [a] 1 := by
  refine ⟨.inr ⟨_, 0, rfl, by simp, fun i hi => ?_⟩, by simp, (fun e => by cases e), by simp⟩
  have h := heap_alloc_new w (.cells #[.int .i64 a] 3)
  obtain rfl : i = 0 := by simp at hi; omega
  exact cellAt h 0
/-- A call's own spine behind a Push. -/
theorem PushQ.own {t : TypeId} {B : Nat → Prop} {w0 w w' : World} {s : Nat} {v : Value} {l : List Fr} {x : Fr} (h : PushQ t B w0.heap.size w s v l x w') (hk : Same0 w0 w) (p : SpT t B w0.heap.size w s v l) : ∃ v', SpT t B w0.heap.size w' s v' (l ++ [x]) ∧ Same0 w0 w' := by
  obtain ⟨v', q1, _, q3⟩ := h
  refine ⟨v', q1, hk.trans q3 (fun i hi e => ?_)⟩
  have := p.low
  rcases e with e | e
  · omega
  · have := (p.row.block e).1; omega
set_option maxHeartbeats 2000000 in
theorem awake14_any (w : World) : Calls Try.prog 9 #[] w fun e w' => e = .returned (.bool true) ∧ Same0 w w' := by
  have C0 := snewF_any w 7 (fun k => w.heap.size ≤ k) (fun k h => h)
  have HN : Hid (∀ w1 v, SpT 53 (fun k => w.heap.size ≤ k) w.heap.size w1 w.heap.size v [(7, true, 0, [])] → Same0 w w1 → ∀ W2, W2 = w1.alloc (.cells #[.int .i64 1, .int .i64 0] 3) → Calls Try.prog 19 #[.pointer (some ⟨w.heap.size, 0, none⟩), frV (4, false, 0, [1, 0]) (some ⟨w1.heap.size, 0, none⟩) 2] W2 fun e w' => (∃ u, e = .returned u) ∧ ∃ v', Hid (SpT 53 (fun k => w.heap.size ≤ k) w.heap.size w' w.heap.size v' ([(7, true, 0, [])] ++ [(4, false, 0, [1, 0])]) ∧ Same0 w w')) := fun w1 v p k W2 hW2 => by
    have k2 : Same0 w1 W2 := by rw [hW2]; exact (Kept.refl _ _).alloc _
    have kk := k.trans' k2
    have pp := p.same k2
    refine (push_any pp (x := (4, false, 0, [1, 0])) (by rw [hW2]; exact arg_new2 w1 1 0) (fun j hj => Nat.le_trans kk.size hj) (by simp)).mono (fun e w' ⟨h1, h2⟩ => ?_)
    obtain ⟨v', q1, q2⟩ := h2.own kk pp
    exact ⟨h1, v', q1, q2⟩
  have HM : Hid (∀ w1 v, SpT 53 (fun k => w.heap.size ≤ k) w.heap.size w1 w.heap.size v ([(7, true, 0, [])] ++ [(4, false, 0, [1, 0])]) → Same0 w w1 → ∀ W2, W2 = w1.alloc (.cells #[.int .i64 2] 3) → Calls Try.prog 19 #[.pointer (some ⟨w.heap.size, 0, none⟩), frV (2, true, 3, [2]) (some ⟨w1.heap.size, 0, none⟩) 1] W2 fun e w' => (∃ u, e = .returned u) ∧ ∃ v', Hid (SpT 53 (fun k => w.heap.size ≤ k) w.heap.size w' w.heap.size v' ([(7, true, 0, [])] ++ [(4, false, 0, [1, 0])] ++ [(2, true, 3, [2])]) ∧ Same0 w w')) := fun w1 v p k W2 hW2 => by
    have k2 : Same0 w1 W2 := by rw [hW2]; exact (Kept.refl _ _).alloc _
    have kk := k.trans' k2
    have pp := p.same k2
    refine (push_any pp (x := (2, true, 3, [2])) (by rw [hW2]; exact arg_new1 w1 2) (fun j hj => Nat.le_trans kk.size hj) (by simp)).mono (fun e w' ⟨h1, h2⟩ => ?_)
    obtain ⟨v', q1, q2⟩ := h2.own kk pp
    exact ⟨h1, v', q1, q2⟩
  have HE : Hid (pathsL ([(7, true, 0, [])] ++ [(4, false, 0, [1, 0])] ++ [(2, true, 3, [2])]) = [1, 0, 2]) := rfl
  go_enter Try.func9, Try.ntmps9
  go_upto_region 2 with (first | (go_at_call 10; refine C0.mono ?_; rintro e w1 ⟨rfl, v1, p1, k1⟩))
  have CL1 := slenF_any p1
  have HP1 : Hid (SpT 53 (fun k => w.heap.size ≤ k) w.heap.size w1 w.heap.size v1 [(7, true, 0, [])] ∧ Same0 w w1) := ⟨p1, k1⟩
  clear p1 k1 C0
  go_upto_region 4 with (first | (go_at_call 14; refine CL1.mono ?_; rintro e w3 ⟨rfl, h3⟩; have h3 := h3.symm; subst h3))
  have C4 := HN.out w1 v1 HP1.out.1 HP1.out.2 _ rfl
  clear CL1 HN HP1
  go_upto_region 5 with (first | (go_at_call 19; refine C4.mono ?_; rintro e w3 ⟨⟨u, rfl⟩, v3, HP3⟩))
  have C5 := HM.out w3 v3 HP3.out.1 HP3.out.2 _ rfl
  clear C4 HM HP3
  go_upto_region 6 with (first | (go_at_call 19; refine C5.mono ?_; rintro e w4 ⟨⟨u, rfl⟩, v4, HP4⟩))
  have C6 := path_any HP4.out.1 (by rw [HE.out]; simp)
  clear C5
  go_upto_region 7 with (first | (go_at_call 20; refine C6.mono ?_; rintro e w5 ⟨u5, rfl, r5, k5⟩))
  rw [HE.out] at r5
  have p5 := HP4.out.1.same k5
  have C7 := top_yes p5
  have K5 : Hid (Same0 w w5) := HP4.out.2.trans' k5
  have P5 : Hid (SpT 53 (fun k => w.heap.size ≤ k) w.heap.size w5 w.heap.size v4 ([(7, true, 0, [])] ++ [(4, false, 0, [1, 0])] ++ [(2, true, 3, [2])])) := p5
  have R5 : Hid (Row w4.heap.size w5 u5 [1, 0, 2]) := r5
  obtain ⟨uo, uc, rfl⟩ := row_shape r5
  clear C6 HP4 p5 k5 r5 HE
  go_upto_region 8 with (first | (go_at_call 15; refine C7.mono ?_; rintro e w6 ⟨bo, bc, rfl, r6, k6⟩))
  have k7 : Same0 w6 (w6.alloc (.cells #[.int .i64 2, .bool true, .int .i64 3, .slice bo 1 bc] 30)) := (Kept.refl _ _).alloc _
  obtain ⟨W7, hW7⟩ : ∃ W7, W7 = w6.alloc (.cells #[.int .i64 2, .bool true, .int .i64 3, .slice bo 1 bc] 30) := ⟨_, rfl⟩
  obtain ⟨f0, f1, f2, f3⟩ := box4 (show W7.heap[w6.heap.size]? = some (.cells #[.int .i64 2, .bool true, .int .i64 3, .slice bo 1 bc] 30 (0, 0)) by rw [hW7]; exact heap_alloc_new w6 _)
  rw [← hW7] at k7
  have K7 : Hid (Same0 w W7) := K5.out.trans' (k6.trans' k7)
  have C8 := slenF_any (P5.out.same (k6.trans' k7))
  have hI : IntsAt W7 uo [1, 0, 2] := by
    obtain ⟨ao, ac, e, h1, h2, h3⟩ := (show Row w4.heap.size W7 (.slice uo 3 uc) [1, 0, 2] from (k6.trans' k7).row R5.out (fun _ _ f => f)).ints
    simp only [Value.slice.injEq] at e
    obtain ⟨rfl, _, rfl⟩ := e
    exact h1
  obtain ⟨b, off, rfl, -, hc⟩ := hI.get (i := 0) (by simp)
  obtain ⟨_, _, e2, -, hc2⟩ := hI.get (i := 2) (by simp)
  simp only [Option.some.injEq, Addr.mk.injEq, and_true] at e2
  obtain ⟨rfl, rfl⟩ := e2
  simp only [List.getElem_cons_zero, List.getElem_cons_succ, Nat.add_zero] at hc hc2
  first | rw [← hW7] | (have hW8 : W7 = w6.alloc (.cells #[.int .i64 2, .bool true, .int .i64 3, .slice bo ([2] : List Int).length bc] 30) := hW7; rw [← hW8]; clear hW8)
  clear hW7 hI C7
  go_wp2_with (first | (go_at_call 14; refine C8.mono ?_; rintro e w9 ⟨rfl, h9⟩; have h9 := h9.symm; subst h9))
  go_ret
  exact ⟨rfl, K7.out⟩
set_option maxHeartbeats 2000000 in
theorem filled_any {B : Nat → Prop} {w : World} (root : Int) {ao : Option Addr} {l : List Fr} (h : FsM B w ao l) (ac : Nat) (hl : l.length * 48 ≤ 140737488351232) :
    Calls Try.prog 13 #[.int .i64 root, .slice ao l.length ac] w fun e w' => e = .returned (.pointer (some ⟨w.heap.size, 0, none⟩)) ∧ ∃ v, SpT 53 (fun k => w.heap.size ≤ k) w.heap.size w' w.heap.size v ((root, true, 0, []) :: l) ∧ Same0 w w' := by
  have C0 := snewF_any w root (fun k => w.heap.size ≤ k) (fun k h => h)
  have HX : Hid (∀ ww, Same0 w ww → FsM B ww ao l) := fun ww hk => h.same hk
  have HP : Hid (∀ k (hk : k < l.length) ww v xo xc, Same0 w ww → SpT 53 (fun k => w.heap.size ≤ k) w.heap.size ww w.heap.size v ((root, true, 0, []) :: l.take k) → Arg ww xo l[k].2.2.2 xc → Calls Try.prog 19 #[.pointer (some ⟨w.heap.size, 0, none⟩), frV l[k] xo xc] ww fun e w' => (∃ u, e = .returned u) ∧ ∃ v', Hid (SpT 53 (fun k => w.heap.size ≤ k) w.heap.size w' w.heap.size v' ((root, true, 0, []) :: l.take (k + 1)) ∧ Same0 w w')) := fun k hk ww v xo xc k2 pp ha => by
    refine (push_any pp ha (fun j hj => Nat.le_trans k2.size hj) (by simp; omega)).mono (fun e w' ⟨h1, h2⟩ => ?_)
    obtain ⟨v', q1, q2⟩ := h2.own k2 pp
    refine ⟨h1, v', ?_, q2⟩
    rw [List.take_succ_eq_append_getElem hk]
    exact q1
  have KR : Hid (Same0 w w) := Kept.refl _ _
  have hl2 : l.length < 9223372036854775807 := by omega
  clear h hl
  go_enter Try.func13, Try.ntmps13
  go_upto_region 3 with (first | (go_at_call 10; refine C0.mono ?_; rintro e w1 ⟨rfl, v1, p1, k1⟩))
  have H1 : Hid (SpT 53 (fun k => w.heap.size ≤ k) w.heap.size w1 w.heap.size v1 ((root, true, 0, []) :: l.take 0) ∧ Same0 w w1) := ⟨by simpa using p1, k1⟩
  clear p1 k1 C0
  go_loopw [6] (fun i wr => ∃ k : Nat, i = .int .i64 (k : Int) ∧ k ≤ l.length ∧ ∃ v, Hid (SpT 53 (fun k => w.heap.size ≤ k) w.heap.size wr w.heap.size v ((root, true, 0, []) :: l.take k) ∧ Same0 w wr)) (fun i _ => l.length - (intOf i).toNat)
  case atStart => exact ⟨0, rfl, Nat.zero_le _, _, H1⟩
  case round =>
    clear H1
    obtain ⟨k, rfl, hk, v, hI⟩ := hrel
    by_cases hlt : k < l.length
    · have j0 : (0 : Int) ≤ (k : Int) := by omega
      have j1 : (k : Int) < (l.length : Int) := by omega
      obtain ⟨b, off, xo, xc, e, -, m0, m1, m2, m3, m4, -⟩ := (HX.out wr hI.out.2).get hlt
      subst e
      have CP := HP.out k hlt wr v xo xc hI.out.2 hI.out.1 m4
      have hl3 : IntKind.i64.wrap ((k : Int) + 1) = (k : Int) + 1 := fwrap (by omega) (by omega)
      clear m4 hI
      go_wp2_with (first | (go_at_call 19; refine CP.mono ?_; rintro e w4 ⟨⟨u, rfl⟩, v4, HI4⟩))
      go_roundw
      case rel => first | exact ⟨k + 1, by go_num, by omega, _, HI4⟩ | ((repeat apply Exists.intro); exact ⟨⟨k + 1, by go_num, by omega, _, HI4⟩, rfl⟩)
      case measure => simp [intOf]; omega
    · have hkl : k = l.length := by omega
      subst hkl
      go_wp2
      go_ret
      have q := hI.out
      rw [List.take_length] at q
      exact ⟨rfl, _, q.1, q.2⟩
end Go.Proofs.Ytikcocjbbbdmgaa
