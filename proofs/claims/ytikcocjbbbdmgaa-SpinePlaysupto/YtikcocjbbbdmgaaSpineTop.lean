/- The walks of New, Len, refusal, Top; of the document's New and Top. -/
import Derived.Test.YtikcocjbbbdmgaaSpinePush
namespace Go.Proofs.Ytikcocjbbbdmgaa
set_option maxRecDepth 100000
set_option linter.unusedVariables false
open Go.RowKit
attribute [local go_sem ↓] Go.wp_at_zero Go.wp_at_succ
theorem fwrap {c : Int} (h1 : -9223372036854775808 ≤ c) (h2 : c < 9223372036854775808) : IntKind.i64.wrap c = c := by
  simp [IntKind.wrap, IntKind.bits, IntKind.signed]; omega
theorem arg_none (w : World) : Arg w none [] 0 := ⟨.inl rfl, Nat.le_refl _, fun _ => ⟨rfl, rfl⟩, by simp⟩
theorem FRow.top {B : Nat → Prop} {base : Nat} {w : World} {v : Value} {l0 : List Fr} {x : Fr} (h : FRow B base w v (l0 ++ [x])) :
    ∃ g cap xo xc, v = .slice (some ⟨g, 0, none⟩) (l0.length + 1) cap ∧ w.cell? ⟨g, l0.length * 4, none⟩ = some (.int .i64 x.1) ∧ w.cell? ⟨g, l0.length * 4 + 1, none⟩ = some (.bool x.2.1) ∧ w.cell? ⟨g, l0.length * 4 + 2, none⟩ = some (.int .i64 x.2.2.1) ∧ w.cell? ⟨g, l0.length * 4 + 3, none⟩ = some (.slice xo x.2.2.2.length xc) ∧ ArgR w xo x.2.2.2 xc ∧ (∀ a, xo = some a → B a.block) ∧ l0.length + 1 ≤ cap ∧ l0.length + 1 ≤ 9223372036854775807 := by
  obtain ⟨vs, h1, h2, -⟩ := h
  have h1' := h1
  have hll : (l0 ++ [x]).length = l0.length + 1 := by simp
  rcases h1.2 with ⟨q, h0⟩ | ⟨g, cap, cur, rfl, hb, hg, hle, hmx, _⟩
  · rw [hll] at h0; omega
  · obtain ⟨xo, xc, g0, g1, g2, g3, g4, g5⟩ := h2.2 l0.length (by simp)
    have hx : (l0 ++ [x])[l0.length]'(by simp) = x := by simp
    simp only [hx] at g0 g1 g2 g3 g4
    have t : ∀ j u, vs[j]? = some u → w.cell? ⟨g, j, none⟩ = some u := fun j u hj => by
      have := h1'.cells (g := g) rfl j u hj
      by_cases q : j = 0
      · subst q; simpa [Addr.add] using this
      · simpa [Addr.add, q] using this
    rw [hll] at hle
    unfold maxLen at hmx
    exact ⟨g, cap, xo, xc, by rw [hll], t _ _ g0, t _ _ g1, t _ _ g2, t _ _ g3, g4, g5, hle, by omega⟩
theorem refusal_none (w : World) : Calls Try.prog 36 #[.pointer none] w fun e w' => e = .returned (.int .i64 1) ∧ w' = w := by
  go_enter Try.func36, Try.ntmps36
  go_wp2
  go_ret
  exact ⟨rfl, rfl⟩
theorem refusal_no {B : Nat → Prop} {base : Nat} {w : World} {s : Nat} {v : Value} (p : SpT 53 B base w s v []) : Calls Try.prog 36 #[.pointer (some ⟨s, 0, none⟩)] w fun e w' => e = .returned (.int .i64 140) ∧ w' = w := by
  have c0 := p.cell.1
  obtain ⟨vo, vc, rfl⟩ := p.row.shape
  clear p
  go_enter Try.func36, Try.ntmps36
  go_wp2
  go_ret
  exact ⟨rfl, rfl⟩
theorem refusal_yes {B : Nat → Prop} {base : Nat} {w : World} {s : Nat} {v : Value} {l0 : List Fr} {x : Fr} (p : SpT 53 B base w s v (l0 ++ [x])) : Calls Try.prog 36 #[.pointer (some ⟨s, 0, none⟩)] w fun e w' => e = .returned (.int .i64 0) ∧ w' = w := by
  have c0 := p.cell.1
  obtain ⟨g, cap, xo, xc, rfl, -⟩ := p.row.top
  have i3 : ¬ ((l0.length : Int) + 1 = 0) := by omega
  clear p
  go_enter Try.func36, Try.ntmps36
  go_wp2
  go_ret
  exact ⟨rfl, rfl⟩
theorem slen_none (w : World) : Calls Try.prog 14 #[.pointer none] w fun e w' => e = .returned (.int .i64 0) ∧ w' = w := by
  go_enter Try.func14, Try.ntmps14
  go_wp2
  go_ret
  exact ⟨rfl, rfl⟩
theorem slenF_any {B : Nat → Prop} {base : Nat} {w : World} {s : Nat} {v : Value} {l : List Fr} (p : SpT 53 B base w s v l) : Calls Try.prog 14 #[.pointer (some ⟨s, 0, none⟩)] w fun e w' => e = .returned (.int .i64 (l.length : Int)) ∧ w' = w := by
  have c0 := p.cell.1
  obtain ⟨vo, vc, rfl⟩ := p.row.shape
  clear p
  go_enter Try.func14, Try.ntmps14
  go_wp2
  go_ret
  exact ⟨rfl, rfl⟩
/-- A new box with no frames. -/
theorem sp_new (t : TypeId) (ht : t ≠ 3 ∧ t ≠ 30) (B : Nat → Prop) (w : World) (v : Value) (base : Nat) (hb : base ≤ w.heap.size) {l : List Fr} (hr : FRow B base w v l) : SpT t B base (w.alloc (.cells #[v] t)) w.heap.size v l :=
  ⟨heap_alloc_new w _, hr.same ((Kept.refl _ w).alloc _), hb, ht⟩
set_option maxHeartbeats 1000000 in
theorem snewF_any (w : World) (root : Int) (B : Nat → Prop) (hB : ∀ k, w.heap.size ≤ k → B k) :
    Calls Try.prog 10 #[.int .i64 root] w fun e w' => e = .returned (.pointer (some ⟨w.heap.size, 0, none⟩)) ∧ ∃ v, SpT 53 B w.heap.size w' w.heap.size v [(root, true, 0, [])] ∧ Same0 w w' := by
  obtain ⟨W0, hW0⟩ : ∃ W0, W0 = w.alloc (.cells #[.slice none 0 0] 53) := ⟨_, rfl⟩
  have k0 : Same0 w W0 := by rw [hW0]; exact (Kept.refl _ w).alloc _
  have p0 : SpT 53 B w.heap.size W0 w.heap.size (.slice none 0 0) [] := by rw [hW0]; exact sp_new _ (by decide) B w _ _ (Nat.le_refl _) (FRow.nil _ _ _)
  have CP := push_any p0 (x := (root, true, 0, [])) (arg_none W0) (fun k h => hB k (Nat.le_trans k0.size h)) (by simp)
  have HK : Hid (∀ w', PushQ 53 B w.heap.size W0 w.heap.size (.slice none 0 0) [] (root, true, 0, []) w' → ∃ v, SpT 53 B w.heap.size w' w.heap.size v [(root, true, 0, [])] ∧ Same0 w w') := fun w' ⟨v, q1, q2, q3⟩ => ⟨v, q1, k0.trans q3 (fun i hi e => e.elim (fun e => by omega) (fun e => by cases e))⟩
  clear p0 k0 hB
  go_enter Try.func10, Try.ntmps10
  go_upto_region 2 with fail
  rw [← hW0]
  clear hW0
  go_wp2_with (first | (go_at_call 19; refine CP.mono ?_; rintro e w1 ⟨⟨u, rfl⟩, hq⟩))
  go_ret
  exact ⟨rfl, HK.out _ hq⟩
set_option maxHeartbeats 1000000 in
theorem rnewF_any (w : World) (root : Int) (B : Nat → Prop) :
    Calls Try.prog 11 #[.int .i64 root] w fun e w' => ∃ s v, e = .returned (.pointer (some ⟨s, 0, none⟩)) ∧ SpT 55 B w.heap.size w' s v [(root, true, 0, [])] ∧ Same0 w w' := by
  have k1 : Same0 w (w.alloc (.cells #[.int .i64 root, .bool true, .int .i64 0, .slice none 0 0] 30)) := (Kept.refl _ w).alloc _
  have hr : FRow B w.heap.size (w.alloc (.cells #[.int .i64 root, .bool true, .int .i64 0, .slice none 0 0] 30)) (.slice (some ⟨w.heap.size, 0, none⟩) 1 1) [(root, true, 0, [])] := by
    refine ⟨[.int .i64 root, .bool true, .int .i64 0, .slice none 0 0], ⟨rfl, .inr ⟨w.heap.size, 1, _, rfl, Nat.le_refl _, heap_alloc_new w _, by simp, by unfold maxLen; simp, rfl, rfl⟩⟩, ?_, fun i j hij hj => absurd hij (by simp at hj; omega)⟩
    exact (FCl.nil B _).snoc (x := (root, true, 0, [])) (ao := none) (ac := 0) (argR_none _) (fun a e => by cases e)
  have F : Hid (SpT 55 B w.heap.size ((w.alloc (.cells #[.int .i64 root, .bool true, .int .i64 0, .slice none 0 0] 30)).alloc (.cells #[.slice (some ⟨w.heap.size, 0, none⟩) 1 1] 55)) (w.heap.size + 1) (.slice (some ⟨w.heap.size, 0, none⟩) 1 1) [(root, true, 0, [])] ∧ Same0 w ((w.alloc (.cells #[.int .i64 root, .bool true, .int .i64 0, .slice none 0 0] 30)).alloc (.cells #[.slice (some ⟨w.heap.size, 0, none⟩) 1 1] 55))) := by
    have q := sp_new 55 (by decide) B _ _ w.heap.size (by simp) hr
    simp only [World.size_alloc] at q
    exact ⟨q, k1.alloc _⟩
  clear hr k1
  go_enter Try.func11, Try.ntmps11
  go_wp2
  go_ret
  exact ⟨_, _, rfl, F.out.1, F.out.2⟩
set_option maxHeartbeats 1000000 in
theorem top_no {B : Nat → Prop} {base : Nat} {w : World} {s : Nat} {v : Value} (p : SpT 53 B base w s v []) :
    Calls Try.prog 15 #[.pointer (some ⟨s, 0, none⟩)] w fun e w' => e = .returned (.tuple #[frV (0, false, 0, []) none 0, .int .i64 140]) ∧ Same0 w w' := by
  obtain ⟨W0, hW0⟩ : ∃ W0, W0 = w.alloc (.cells #[.int .i64 0, .bool false, .int .i64 0, .slice none 0 0] 30) := ⟨_, rfl⟩
  have k0 : Same0 w W0 := by rw [hW0]; exact (Kept.refl _ w).alloc _
  have hb0 : W0.heap[w.heap.size]? = some (.cells #[.int .i64 0, .bool false, .int .i64 0, .slice none 0 0] 30 (0, 0)) := by rw [hW0]; exact heap_alloc_new w _
  have c0 := (p.same k0).cell.1
  obtain ⟨b0, b1, b2, b3⟩ := box4 hb0
  obtain ⟨g0, g1, g2, g3⟩ := free4 hb0
  obtain ⟨vo, vc, rfl⟩ := p.row.shape
  have CR := refusal_no (p.same k0)
  have K5 := put4F_kept W0 w.heap.size 0 (.int .i64 0) (.bool false) (.int .i64 0) (.slice none 0 0)
  have R2 : Hid (Same0 w (put4F W0 w.heap.size 0 (.int .i64 0) (.bool false) (.int .i64 0) (.slice none 0 0))) := k0.trans K5 (fun i hi e => by omega)
  clear p k0 hb0 K5
  go_enter Try.func15, Try.ntmps15
  go_upto_region 1 with fail
  rw [← hW0]
  clear hW0
  go_wp2_with (first | (go_at_call 36; refine CR.mono ?_; rintro e w' ⟨rfl, h'⟩; have h' := h'.symm; subst h'))
  exact bodyPost_ret (v := .tuple #[frV (0, false, 0, []) none 0, .int .i64 140]) (by simp [results, Try.results15, go_sem, b0, b1, b2, b3]) rfl ⟨rfl, R2.out⟩
set_option maxHeartbeats 1000000 in
theorem rtop_no {B : Nat → Prop} {base : Nat} {w : World} {s : Nat} {v : Value} (p : SpT 55 B base w s v []) :
    Calls Try.prog 29 #[.pointer (some ⟨s, 0, none⟩)] w fun e w' => e = .returned (.tuple #[frV (0, false, 0, []) none 0, .int .i64 140]) ∧ Same0 w w' := by
  obtain ⟨W0, hW0⟩ : ∃ W0, W0 = w.alloc (.cells #[.int .i64 0, .bool false, .int .i64 0, .slice none 0 0] 30) := ⟨_, rfl⟩
  have k0 : Same0 w W0 := by rw [hW0]; exact (Kept.refl _ w).alloc _
  have hb0 : W0.heap[w.heap.size]? = some (.cells #[.int .i64 0, .bool false, .int .i64 0, .slice none 0 0] 30 (0, 0)) := by rw [hW0]; exact heap_alloc_new w _
  have c0 := (p.same k0).cell.1
  obtain ⟨b0, b1, b2, b3⟩ := box4 hb0
  obtain ⟨g0, g1, g2, g3⟩ := free4 hb0
  obtain ⟨vo, vc, rfl⟩ := p.row.shape
  have K5 := put4F_kept W0 w.heap.size 0 (.int .i64 0) (.bool false) (.int .i64 0) (.slice none 0 0)
  have R2 : Hid (Same0 w (put4F W0 w.heap.size 0 (.int .i64 0) (.bool false) (.int .i64 0) (.slice none 0 0))) := k0.trans K5 (fun i hi e => by omega)
  clear p k0 hb0 K5
  go_enter Try.func29, Try.ntmps29
  go_upto_region 1 with fail
  rw [← hW0]
  clear hW0
  go_wp2_with fail
  exact bodyPost_ret (v := .tuple #[frV (0, false, 0, []) none 0, .int .i64 140]) (by simp [results, Try.results29, go_sem, b0, b1, b2, b3]) rfl ⟨rfl, R2.out⟩
set_option maxHeartbeats 2000000 in
theorem top_yes {B : Nat → Prop} {base : Nat} {w : World} {s : Nat} {v : Value} {l0 : List Fr} {x : Fr} (p : SpT 53 B base w s v (l0 ++ [x])) :
    Calls Try.prog 15 #[.pointer (some ⟨s, 0, none⟩)] w fun e w' => ∃ bo bc, e = .returned (.tuple #[frV x bo bc, .int .i64 0]) ∧ Row w.heap.size w' (.slice bo x.2.2.2.length bc) x.2.2.2 ∧ Same0 w w' := by
  obtain ⟨W0, hW0⟩ : ∃ W0, W0 = w.alloc (.cells #[.int .i64 0, .bool false, .int .i64 0, .slice none 0 0] 30) := ⟨_, rfl⟩
  have k0 : Same0 w W0 := by rw [hW0]; exact (Kept.refl _ w).alloc _
  have hb0 : W0.heap[w.heap.size]? = some (.cells #[.int .i64 0, .bool false, .int .i64 0, .slice none 0 0] 30 (0, 0)) := by rw [hW0]; exact heap_alloc_new w _
  have hz : w.heap.size + 1 = W0.heap.size := by rw [hW0]; simp
  obtain ⟨g, cap, -, -, rfl, -⟩ := p.row.top
  have CELLS : Hid (∀ ww, Same0 W0 ww → ∃ xo xc, ww.cell? ⟨s, 0, none⟩ = some (.slice (some ⟨g, 0, none⟩) (l0.length + 1) cap) ∧ ww.cell? ⟨g, l0.length * 4, none⟩ = some (.int .i64 x.1) ∧ ww.cell? ⟨g, l0.length * 4 + 1, none⟩ = some (.bool x.2.1) ∧ ww.cell? ⟨g, l0.length * 4 + 2, none⟩ = some (.int .i64 x.2.2.1) ∧ ww.cell? ⟨g, l0.length * 4 + 3, none⟩ = some (.slice xo x.2.2.2.length xc) ∧ Arg ww xo x.2.2.2 xc) := fun ww hk => by
    have pw := p.same (k0.trans' hk)
    obtain ⟨g', cap', xo, xc, e, c0, c1, c2, c3, ha, _⟩ := pw.row.top
    simp only [Value.slice.injEq, Option.some.injEq, Addr.mk.injEq, and_true, true_and] at e
    obtain ⟨rfl, rfl⟩ := e
    exact ⟨xo, xc, pw.cell.1, c0, c1, c2, c3, ha.1.1⟩
  have HB : Hid (∀ ww, Same0 W0 ww → ww.heap[w.heap.size]? = some (.cells #[.int .i64 0, .bool false, .int .i64 0, .slice none 0 0] 30 (0, 0))) := fun ww hk => hk.at0 hb0
  obtain ⟨_, _, _, _, e, -, -, -, -, -, -, hm1, hm2⟩ := p.row.top
  simp only [Value.slice.injEq, Option.some.injEq, Addr.mk.injEq, and_true, true_and] at e
  obtain ⟨rfl, rfl⟩ := e
  have CR := refusal_yes (p.same k0)
  have HK : Hid (∀ ww, Same0 W0 ww → Same0 w ww) := fun ww hk => k0.trans' hk
  have HW : Hid (Same0 W0 W0.drew) := (Kept.refl _ _).drew
  have HW1 : Hid (Same0 W0 W0) := Kept.refl _ _
  have HZ : Hid (w.heap.size + 1 = W0.heap.size) := hz
  have i3 : ¬ ((l0.length : Int) + 1 = 0) := by omega
  have HM : Hid (l0.length + 1 ≤ 9223372036854775807) := hm2
  clear p k0 hb0 hz hm1 hm2
  go_enter Try.func15, Try.ntmps15
  go_upto_region 1 with fail
  rw [← hW0]
  clear hW0
  obtain ⟨yo, yc, y0, -⟩ := CELLS.out W0 HW1.out
  go_upto_region 4 with (first | (go_at_call 36; refine CR.mono ?_; rintro e w' ⟨rfl, h'⟩; have h' := h'.symm; subst h'))
  clear y0
  have hm := HM.out
  have i0 : (0 : Int) ≤ (l0.length : Int) := by omega
  have i1 : (l0.length : Int) < (l0.length : Int) + 1 := by omega
  have i2 : (l0.length : Int) < 9223372036854775807 := by omega
  have i4 : IntKind.i64.wrap (l0.length : Int) = (l0.length : Int) := fwrap (by omega) (by omega)
  clear hm
  obtain ⟨xo, xc, d0, d1, d2, d3, d4, dA⟩ := CELLS.out W0.drew HW.out
  have CC := fcopied_any (x := x) (ac := xc) dA
  go_region_law (first
    | (refine step_callF rfl CC (by simp [go_sem]) ?_; rintro e w1 ⟨bo, bc, rfl, hr, hk⟩; refine ⟨_, rfl, ?_⟩; have q := HB.out w1 (HW.out.trans' hk); obtain ⟨b0, b1, b2, b3⟩ := box4 q; obtain ⟨g0, g1, g2, g3⟩ := free4 q; clear q d0 d1 d2 d3 d4))
  all_goals
    go_wp2
    have K5 := put4F_kept w1 w.heap.size 0 (.int .i64 x.1) (.bool x.2.1) (.int .i64 x.2.2.1) (.slice bo x.2.2.2.length bc)
    have hsz : W0.drew.heap.size = W0.heap.size := rfl
    have R1 := row_mono (K5.row hr (fun k e q => by
      have := (hr.lt k e).1
      have := HZ.out
      omega)) (show w.heap.size ≤ W0.drew.heap.size by have := HZ.out; omega)
    have R2 : Same0 w _ := (HK.out w1 (HW.out.trans' hk)).trans K5 (fun i hi e => by omega)
    exact bodyPost_ret (v := .tuple #[frV x bo bc, .int .i64 0]) (by simp [results, Try.results15, go_sem, b0, b1, b2, b3]) rfl ⟨bo, bc, rfl, R1, R2⟩
set_option maxHeartbeats 2000000 in
theorem rtop_yes {B : Nat → Prop} {base : Nat} {w : World} {s : Nat} {v : Value} {l0 : List Fr} {x : Fr} (p : SpT 55 B base w s v (l0 ++ [x])) :
    Calls Try.prog 29 #[.pointer (some ⟨s, 0, none⟩)] w fun e w' => ∃ bo bc, e = .returned (.tuple #[frV x bo bc, .int .i64 0]) ∧ Row w.heap.size w' (.slice bo x.2.2.2.length bc) x.2.2.2 ∧ Same0 w w' := by
  obtain ⟨W0, hW0⟩ : ∃ W0, W0 = w.alloc (.cells #[.int .i64 0, .bool false, .int .i64 0, .slice none 0 0] 30) := ⟨_, rfl⟩
  have k0 : Same0 w W0 := by rw [hW0]; exact (Kept.refl _ w).alloc _
  have hb0 : W0.heap[w.heap.size]? = some (.cells #[.int .i64 0, .bool false, .int .i64 0, .slice none 0 0] 30 (0, 0)) := by rw [hW0]; exact heap_alloc_new w _
  have hz : w.heap.size + 1 = W0.heap.size := by rw [hW0]; simp
  obtain ⟨g, cap, -, -, rfl, -⟩ := p.row.top
  have CELLS : Hid (∀ ww, Same0 W0 ww → ∃ xo xc, ww.cell? ⟨s, 0, none⟩ = some (.slice (some ⟨g, 0, none⟩) (l0.length + 1) cap) ∧ ww.cell? ⟨g, l0.length * 4, none⟩ = some (.int .i64 x.1) ∧ ww.cell? ⟨g, l0.length * 4 + 1, none⟩ = some (.bool x.2.1) ∧ ww.cell? ⟨g, l0.length * 4 + 2, none⟩ = some (.int .i64 x.2.2.1) ∧ ww.cell? ⟨g, l0.length * 4 + 3, none⟩ = some (.slice xo x.2.2.2.length xc) ∧ Arg ww xo x.2.2.2 xc) := fun ww hk => by
    have pw := p.same (k0.trans' hk)
    obtain ⟨g', cap', xo, xc, e, c0, c1, c2, c3, ha, _⟩ := pw.row.top
    simp only [Value.slice.injEq, Option.some.injEq, Addr.mk.injEq, and_true, true_and] at e
    obtain ⟨rfl, rfl⟩ := e
    exact ⟨xo, xc, pw.cell.1, c0, c1, c2, c3, ha.1.1⟩
  have HB : Hid (∀ ww, Same0 W0 ww → ww.heap[w.heap.size]? = some (.cells #[.int .i64 0, .bool false, .int .i64 0, .slice none 0 0] 30 (0, 0))) := fun ww hk => hk.at0 hb0
  obtain ⟨_, _, _, _, e, -, -, -, -, -, -, hm1, hm2⟩ := p.row.top
  simp only [Value.slice.injEq, Option.some.injEq, Addr.mk.injEq, and_true, true_and] at e
  obtain ⟨rfl, rfl⟩ := e
  have HK : Hid (∀ ww, Same0 W0 ww → Same0 w ww) := fun ww hk => k0.trans' hk
  have HW : Hid (Same0 W0 W0.drew) := (Kept.refl _ _).drew
  have HW1 : Hid (Same0 W0 W0) := Kept.refl _ _
  have HZ : Hid (w.heap.size + 1 = W0.heap.size) := hz
  have i3 : ¬ ((l0.length : Int) + 1 = 0) := by omega
  have HM : Hid (l0.length + 1 ≤ 9223372036854775807) := hm2
  clear p k0 hb0 hz hm1 hm2
  go_enter Try.func29, Try.ntmps29
  go_upto_region 1 with fail
  rw [← hW0]
  clear hW0
  obtain ⟨yo, yc, y0, -⟩ := CELLS.out W0 HW1.out
  go_upto_region 3 with fail
  clear y0
  have hm := HM.out
  have i0 : (0 : Int) ≤ (l0.length : Int) := by omega
  have i1 : (l0.length : Int) < (l0.length : Int) + 1 := by omega
  have i2 : (l0.length : Int) < 9223372036854775807 := by omega
  have i4 : IntKind.i64.wrap (l0.length : Int) = (l0.length : Int) := fwrap (by omega) (by omega)
  clear hm
  obtain ⟨xo, xc, d0, d1, d2, d3, d4, dA⟩ := CELLS.out W0.drew HW.out
  have CC := fown_any (x := x) (ac := xc) dA
  go_region_law (first
    | (refine step_callF rfl CC (by simp [go_sem]) ?_; rintro e w1 ⟨bo, bc, rfl, hr, hk⟩; refine ⟨_, rfl, ?_⟩; have q := HB.out w1 (HW.out.trans' hk); obtain ⟨b0, b1, b2, b3⟩ := box4 q; obtain ⟨g0, g1, g2, g3⟩ := free4 q; clear q d0 d1 d2 d3 d4))
  all_goals
    go_wp2
    have K5 := put4F_kept w1 w.heap.size 0 (.int .i64 x.1) (.bool x.2.1) (.int .i64 x.2.2.1) (.slice bo x.2.2.2.length bc)
    have hsz : W0.drew.heap.size = W0.heap.size := rfl
    have R1 := row_mono (K5.row hr (fun k e q => by
      have := (hr.lt k e).1
      have := HZ.out
      omega)) (show w.heap.size ≤ W0.drew.heap.size by have := HZ.out; omega)
    have R2 : Same0 w _ := (HK.out w1 (HW.out.trans' hk)).trans K5 (fun i hi e => by omega)
    exact bodyPost_ret (v := .tuple #[frV x bo bc, .int .i64 0]) (by simp [results, Try.results29, go_sem, b0, b1, b2, b3]) rfl ⟨bo, bc, rfl, R1, R2⟩
end Go.Proofs.Ytikcocjbbbdmgaa
