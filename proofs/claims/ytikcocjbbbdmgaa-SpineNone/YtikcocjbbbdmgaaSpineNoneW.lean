/- The walk of SpineNone: of a nil spine. -/
import Derived.Test.YtikcocjbbbdmgaaSpineAwake
namespace Go.Proofs.Ytikcocjbbbdmgaa
set_option maxRecDepth 100000
set_option linter.unusedVariables false
open Go.RowKit
attribute [local go_sem ↓] Go.wp_at_zero Go.wp_at_succ
theorem push_none (w : World) (x : Fr) (ao : Option Addr) (ac : Nat) : Calls Try.prog 19 #[.pointer none, frV x ao ac] w fun e w' => (∃ u, e = .returned u) ∧ Same0 w w' := by
  have HK : Hid (Same0 w (w.alloc (.cells #[.int .i64 x.1, .bool x.2.1, .int .i64 x.2.2.1, .slice ao x.2.2.2.length ac] 30))) := (Kept.refl _ w).alloc _
  go_enter Try.func19, Try.ntmps19
  go_wp2
  first | go_end0 | (refine bodyPost_ret (results_none rfl _ _ _) rfl ?_)
  exact ⟨⟨_, rfl⟩, HK.out⟩
theorem turn_none (w : World) (x : Fr) (ao : Option Addr) (ac : Nat) : Calls Try.prog 18 #[.pointer none, frV x ao ac] w fun e w' => e = .returned (.int .i64 1) ∧ Same0 w w' := by
  have HK : Hid (Same0 w (w.alloc (.cells #[.int .i64 x.1, .bool x.2.1, .int .i64 x.2.2.1, .slice ao x.2.2.2.length ac] 30))) := (Kept.refl _ w).alloc _
  have CR := refusal_none
  go_enter Try.func18, Try.ntmps18
  go_wp2_with (first | (go_at_call 36; refine (CR _).mono ?_; rintro e w' ⟨rfl, h'⟩; have h' := h'.symm; subst h'))
  go_ret
  exact ⟨rfl, HK.out⟩
theorem top_none (w : World) : Calls Try.prog 15 #[.pointer none] w fun e w' => e = .returned (.tuple #[frV (0, false, 0, []) none 0, .int .i64 1]) ∧ Same0 w w' := by
  obtain ⟨W0, hW0⟩ : ∃ W0, W0 = w.alloc (.cells #[.int .i64 0, .bool false, .int .i64 0, .slice none 0 0] 30) := ⟨_, rfl⟩
  have k0 : Same0 w W0 := by rw [hW0]; exact (Kept.refl _ w).alloc _
  have hb0 : W0.heap[w.heap.size]? = some (.cells #[.int .i64 0, .bool false, .int .i64 0, .slice none 0 0] 30 (0, 0)) := by rw [hW0]; exact heap_alloc_new w _
  obtain ⟨b0, b1, b2, b3⟩ := box4 hb0
  obtain ⟨g0, g1, g2, g3⟩ := free4 hb0
  have CR := refusal_none W0
  have K5 := put4F_kept W0 w.heap.size 0 (.int .i64 0) (.bool false) (.int .i64 0) (.slice none 0 0)
  have R2 : Hid (Same0 w (put4F W0 w.heap.size 0 (.int .i64 0) (.bool false) (.int .i64 0) (.slice none 0 0))) := k0.trans K5 (fun i hi e => by omega)
  clear k0 hb0 K5
  go_enter Try.func15, Try.ntmps15
  go_upto_region 1 with fail
  rw [← hW0]
  clear hW0
  go_wp2_with (first | (go_at_call 36; refine CR.mono ?_; rintro e w' ⟨rfl, h'⟩; have h' := h'.symm; subst h'))
  exact bodyPost_ret (v := .tuple #[frV (0, false, 0, []) none 0, .int .i64 1]) (by simp [results, Try.results15, go_sem, b0, b1, b2, b3]) rfl ⟨rfl, R2.out⟩
theorem pop_none (w : World) : Calls Try.prog 16 #[.pointer none] w fun e w' => e = .returned (.tuple #[frV (0, false, 0, []) none 0, .int .i64 1]) ∧ Same0 w w' := by
  obtain ⟨W0, hW0⟩ : ∃ W0, W0 = w.alloc (.cells #[.int .i64 0, .bool false, .int .i64 0, .slice none 0 0] 30) := ⟨_, rfl⟩
  have k0 : Same0 w W0 := by rw [hW0]; exact (Kept.refl _ w).alloc _
  have hb0 : W0.heap[w.heap.size]? = some (.cells #[.int .i64 0, .bool false, .int .i64 0, .slice none 0 0] 30 (0, 0)) := by rw [hW0]; exact heap_alloc_new w _
  have CT := top_none W0
  have F : Hid (∀ w1, Same0 W0 w1 → (w1.alloc (.cells #[.int .i64 0, .bool false, .int .i64 0, .slice none 0 0] 30)).heap[w.heap.size]? = some (.cells #[.int .i64 0, .bool false, .int .i64 0, .slice none 0 0] 30 (0, 0)) ∧ (w1.alloc (.cells #[.int .i64 0, .bool false, .int .i64 0, .slice none 0 0] 30)).heap[w1.heap.size]? = some (.cells #[.int .i64 0, .bool false, .int .i64 0, .slice none 0 0] 30 (0, 0)) ∧ Same0 w (put4F (w1.alloc (.cells #[.int .i64 0, .bool false, .int .i64 0, .slice none 0 0] 30)) w.heap.size 0 (.int .i64 0) (.bool false) (.int .i64 0) (.slice none 0 0))) := fun w1 hk => ⟨(show Same0 W0 _ from hk.alloc _).at0 hb0, heap_alloc_new w1 _, ((k0.trans' hk).alloc _).trans (put4F_kept _ _ _ _ _ _ _) (fun i hi e => by omega)⟩
  clear k0 hb0
  go_enter Try.func16, Try.ntmps16
  go_upto_region 1 with fail
  rw [← hW0]
  clear hW0
  go_upto_region 2 with (first | (go_at_call 15; refine CT.mono ?_; rintro e w1 ⟨rfl, hk⟩))
  obtain ⟨q1, q2, q3⟩ := F.out w1 hk
  have Q3 : Hid (Same0 w (put4F (w1.alloc (.cells #[.int .i64 0, .bool false, .int .i64 0, .slice none 0 0] 30)) w.heap.size 0 (.int .i64 0) (.bool false) (.int .i64 0) (.slice none 0 0))) := q3
  clear q3
  obtain ⟨W3, hW3⟩ : ∃ W3, W3 = w1.alloc (.cells #[.int .i64 0, .bool false, .int .i64 0, .slice none 0 0] 30) := ⟨_, rfl⟩
  rw [← hW3] at q1 q2 Q3 ⊢
  obtain ⟨b0, b1, b2, b3⟩ := box4 q1
  obtain ⟨g0, g1, g2, g3⟩ := free4 q1
  obtain ⟨c0, c1, c2, c3⟩ := box4 q2
  clear q1 q2 hW3
  go_wp2
  exact bodyPost_ret (v := .tuple #[frV (0, false, 0, []) none 0, .int .i64 1]) (by simp [results, Try.results16, go_sem, b0, b1, b2, b3]) rfl ⟨rfl, Q3.out⟩
theorem move_none (w : World) (v : Value) : Calls Try.prog 23 #[.pointer none, v] w fun e w' => e = .returned (.int .i64 1) ∧ w' = w := by
  go_enter Try.func23, Try.ntmps23
  go_wp2
  go_ret
  exact ⟨rfl, rfl⟩
theorem nodes_none (w : World) : Calls Try.prog 25 #[.pointer none] w fun e w' => ∃ uo uc, e = .returned (.slice uo 0 uc) ∧ Same0 w w' := by
  obtain ⟨i, hi, hz0, hz1, hz2⟩ := info_parts info_intT
  have CL := slen_none w
  have HW : Hid (∀ w1, w.grownBy w1 none → Same0 w (w1.alloc (.cells #[.slice (some ⟨w.heap.size, 0, none⟩) 0 0] 63)) ∧ (w1.alloc (.cells #[.slice (some ⟨w.heap.size, 0, none⟩) 0 0] 63)).cell? ⟨w1.heap.size, 0, none⟩ = some (.slice (some ⟨w.heap.size, 0, none⟩) 0 0)) := fun w1 hg => ⟨(Same0.grown (Kept.refl _ w) hg).alloc _, cellAt (heap_alloc_new w1 _) 0⟩
  go_enter Try.func25, Try.ntmps25
  go_upto_region 2 with (first | (go_at_call 14; refine CL.mono ?_; rintro e w3 ⟨rfl, h3⟩; have h3 := h3.symm; subst h3) | (at_make; refine wpList_make_own _ rfl _ _ 63 rfl w.heap.size 3 i _ 1 Try.underlying63 hi hz0 hz1 _ _ _ 0 rfl rfl rfl (by rw [hz2]; omega) (by unfold maxLen; omega) (Nat.le_refl _) ?_; intro w1 hown hgrow))
  obtain ⟨q1, q2⟩ := HW.out w1 hgrow
  obtain ⟨W2, hW2⟩ : ∃ W2, W2 = w1.alloc (.cells #[.slice (some ⟨w.heap.size, 0, none⟩) 0 0] 63) := ⟨_, rfl⟩
  rw [← hW2] at q1 q2 ⊢
  have Q1 : Hid (Same0 w W2) := q1
  have CE := each_nodes_none W2 w1.heap.size
  clear hW2 q1 hown hgrow hi hz0 hz1 hz2 HW
  go_wp2_with (first | (go_at_call 38; refine CE.mono ?_; rintro e w4 ⟨⟨u, rfl⟩, h4⟩; have h4 := h4.symm; subst h4))
  go_ret
  exact ⟨_, _, rfl, Q1.out⟩
theorem frames_none (w : World) : Calls Try.prog 22 #[.pointer none] w fun e w' => ∃ uo uc, e = .returned (.slice uo 0 uc) ∧ Same0 w w' := by
  obtain ⟨i, hi, hz0, hz1, hz2⟩ := info_parts info_frame
  have CL := slen_none w
  have HW : Hid (∀ w1, w.grownBy w1 none → Same0 w (w1.alloc (.cells #[.slice (some ⟨w.heap.size, 0, none⟩) 0 0] 62)) ∧ (w1.alloc (.cells #[.slice (some ⟨w.heap.size, 0, none⟩) 0 0] 62)).cell? ⟨w1.heap.size, 0, none⟩ = some (.slice (some ⟨w.heap.size, 0, none⟩) 0 0)) := fun w1 hg => ⟨(Same0.grown (Kept.refl _ w) hg).alloc _, cellAt (heap_alloc_new w1 _) 0⟩
  go_enter Try.func22, Try.ntmps22
  go_upto_region 2 with (first | (go_at_call 14; refine CL.mono ?_; rintro e w3 ⟨rfl, h3⟩; have h3 := h3.symm; subst h3) | (at_make; refine wpList_make_own _ rfl _ _ 62 rfl w.heap.size 30 i _ 4 Try.underlying62 hi hz0 hz1 _ _ _ 0 rfl rfl rfl (by rw [hz2]; omega) (by unfold maxLen; omega) (Nat.le_refl _) ?_; intro w1 hown hgrow))
  obtain ⟨q1, q2⟩ := HW.out w1 hgrow
  obtain ⟨W2, hW2⟩ : ∃ W2, W2 = w1.alloc (.cells #[.slice (some ⟨w.heap.size, 0, none⟩) 0 0] 62) := ⟨_, rfl⟩
  rw [← hW2] at q1 q2 ⊢
  have Q1 : Hid (Same0 w W2) := q1
  have CE := each_frames_none W2 w1.heap.size
  clear hW2 q1 hown hgrow hi hz0 hz1 hz2 HW
  go_wp2_with (first | (go_at_call 38; refine CE.mono ?_; rintro e w4 ⟨⟨u, rfl⟩, h4⟩; have h4 := h4.symm; subst h4))
  go_ret
  exact ⟨_, _, rfl, Q1.out⟩
set_option maxHeartbeats 1000000 in
theorem snone14_walk (w : World) : Calls Try.prog 8 #[] w fun e w' => e = .returned (.bool true) ∧ Below w.heap.size w w' := by
  have C0 := awake14_any w
  have HB : Hid (∀ ww, Same0 w ww → Below w.heap.size w ww) := fun ww hk => Kept.below hk (Nat.le_refl _) (fun _ _ f => f)
  go_enter Try.func8, Try.ntmps8
  go_upto_region 3 with (first | (go_at_call 9; refine C0.mono ?_; rintro e w1 ⟨rfl, k1⟩))
  have C1 := push_none w1 (0, false, 0, []) none 0
  clear C0
  go_upto_region 4 with (first | (go_at_call 19; refine C1.mono ?_; rintro e w2 ⟨⟨u, rfl⟩, k2⟩))
  have C2 := pop_none w2
  have K2 := k1.trans' k2
  clear C1 k1 k2
  go_upto_region 5 with (first | (go_at_call 16; refine C2.mono ?_; rintro e w3 ⟨rfl, k3⟩))
  obtain ⟨W3, hW3⟩ : ∃ W3, W3 = w3.alloc (.cells #[.int .i64 0, .bool false, .int .i64 0, .slice none 0 0] 30) := ⟨_, rfl⟩
  have K3 : Same0 w W3 := by rw [hW3]; exact (K2.trans' k3).alloc _
  rw [← hW3]
  have C3 := top_none W3
  clear C2 k3 K2 hW3
  go_upto_region 6 with (first | (go_at_call 15; refine C3.mono ?_; rintro e w4 ⟨rfl, k4⟩))
  obtain ⟨W4, hW4⟩ : ∃ W4, W4 = w4.alloc (.cells #[.int .i64 0, .bool false, .int .i64 0, .slice none 0 0] 30) := ⟨_, rfl⟩
  have K4 : Same0 w W4 := by rw [hW4]; exact (K3.trans' k4).alloc _
  rw [← hW4]
  have C4 := turn_none W4 (0, false, 0, []) none 0
  clear C3 k4 K3 hW4
  go_upto_region 7 with (first | (go_at_call 18; refine C4.mono ?_; rintro e w5 ⟨rfl, k5⟩))
  have K5 : Same0 w w5 := K4.trans' k5
  have C5 := move_none w5 (.slice none 0 0)
  clear C4 k5 K4
  go_upto_region 8 with (first | (go_at_call 23; refine C5.mono ?_; rintro e w6 ⟨rfl, h6⟩; have h6 := h6.symm; subst h6))
  have C6 := slen_none w5
  have C7 := path_none w5
  clear C5
  go_wp2_with (first | (go_at_call 14; refine C6.mono ?_; rintro e w6 ⟨rfl, h6⟩; have h6 := h6.symm; subst h6) | (go_at_call 20; refine C7.mono ?_; rintro e w7 ⟨rfl, k7⟩; have C8 := nodes_none w7) | (go_at_call 25; refine C8.mono ?_; rintro e w8 ⟨uo, uc, rfl, k8⟩; have C9 := frames_none w8) | (go_at_call 22; refine C9.mono ?_; rintro e w9 ⟨xo, xc, rfl, k9⟩))
  go_ret
  exact ⟨rfl, HB.out _ (K5.trans' (k7.trans' (k8.trans' k9)))⟩
end Go.Proofs.Ytikcocjbbbdmgaa
