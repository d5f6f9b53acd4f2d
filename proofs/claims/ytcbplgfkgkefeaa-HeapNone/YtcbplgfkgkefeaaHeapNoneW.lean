/- The walk of HeapNone. -/
import Derived.Test.YtcbplgfkgkefeaaHeapAll
namespace Go.Proofs.Ytcbplgfkgkefeaa
set_option maxRecDepth 100000
set_option linter.unusedVariables false
open Go.RowKit
attribute [local go_sem ↓] Go.wp_at_zero Go.wp_at_succ
set_option maxHeartbeats 400000 in
theorem make_none (w : World) : Calls Try.prog 29 #[.pointer none, .int .i64 1, .slice none 0 0] w fun e w' => e = .returned (.tuple #[.int .i64 0, .int .i64 1]) ∧ w' = w := by
  go_enter Try.func29, Try.ntmps29
  go_wp2
  go_ret2
  exact ⟨rfl, rfl⟩
set_option maxHeartbeats 400000 in
theorem at_none (w : World) : Calls Try.prog 21 #[.pointer none, .int .i64 0] w fun e w' => e = .returned (.tuple #[nodeV (0, [], 0, false, 0) none 0, .int .i64 1]) ∧ Same0 w w' := by
  obtain ⟨W0, hW0⟩ : ∃ W0, W0 = w.alloc (.cells #[.int .i64 0, .slice none 0 0, .int .i64 0, .bool false, .int .i64 0] 45) := ⟨_, rfl⟩
  have k0 : Same0 w W0 := by rw [hW0]; exact (Kept.refl _ w).alloc _
  have hb : W0.heap[w.heap.size]? = some (.cells #[.int .i64 0, .slice none 0 0, .int .i64 0, .bool false, .int .i64 0] 45 (0, 0)) := by rw [hW0]; exact heap_alloc_new w _
  have k1 : Same0 W0 (W0.alloc (.cells #[.int .i64 0] 3)) := (Kept.refl _ _).alloc _
  obtain ⟨b0, b1, b2, b3, b4⟩ := box5 (k1.at0 hb)
  obtain ⟨g0, g1, g2, g3, g4⟩ := free5 (k1.at0 hb)
  have K : Hid (Same0 w (put5 (W0.alloc (.cells #[.int .i64 0] 3)) w.heap.size 0 (.int .i64 0) (.slice none 0 0) (.int .i64 0) (.bool false) (.int .i64 0))) := (k0.trans' k1).trans (put5_kept _ _ _ _ _ _ _ _) (fun i hi e => by omega)
  have C := refusal_none
  clear k0 hb k1
  go_enter Try.func21, Try.ntmps21
  go_upto_region 1 with fail
  rw [← hW0]
  clear hW0
  go_wp2_with (first | (go_at_call 46; refine (C _ _).mono ?_; rintro e w' ⟨rfl, rfl⟩))
  exact bodyPost_ret (v := .tuple #[nodeV (0, [], 0, false, 0) none 0, .int .i64 1]) (by simp [results, Try.results21, go_sem, b0, b1, b2, b3, b4]) rfl ⟨rfl, K.out⟩
set_option maxHeartbeats 400000 in
theorem res_none (w : World) : Calls Try.prog 22 #[.pointer none, .int .i64 0] w fun e w' => e = .returned (.tuple #[.int .i64 0, .int .i64 1]) ∧ Same0 w w' := by
  have C := refusal_none
  have k : Hid (Same0 w (w.alloc (.cells #[.int .i64 0] 3))) := (Kept.refl _ _).alloc _
  go_enter Try.func22, Try.ntmps22
  go_wp2_with (first | (go_at_call 46; refine (C _ _).mono ?_; rintro e w' ⟨rfl, rfl⟩))
  go_ret2
  exact ⟨rfl, k.out⟩
set_option maxHeartbeats 400000 in
theorem point_none (w : World) : Calls Try.prog 31 #[.pointer none, .int .i64 0, .int .i64 0] w fun e w' => e = .returned (.int .i64 1) ∧ Same0 w w' := by
  have C := refusal_none
  have k : Hid (Same0 w (w.alloc (.cells #[.int .i64 0, .int .i64 0] 3))) := (Kept.refl _ _).alloc _
  go_enter Try.func31, Try.ntmps31
  go_wp2_with (first | (go_at_call 46; refine (C _ _).mono ?_; rintro e w' ⟨rfl, rfl⟩))
  go_ret
  exact ⟨rfl, k.out⟩
set_option maxHeartbeats 400000 in
theorem mark_none (w : World) : Calls Try.prog 32 #[.pointer none, .int .i64 0, .int .i64 0] w fun e w' => e = .returned (.int .i64 1) ∧ Same0 w w' := by
  have C := refusal_none
  have k : Hid (Same0 w (w.alloc (.cells #[.int .i64 0] 3))) := (Kept.refl _ _).alloc _
  go_enter Try.func32, Try.ntmps32
  go_wp2_with (first | (go_at_call 46; refine (C _ _).mono ?_; rintro e w' ⟨rfl, rfl⟩))
  go_ret
  exact ⟨rfl, k.out⟩
set_option maxHeartbeats 400000 in
theorem refill_none (w : World) : Calls Try.prog 26 #[.pointer none, .slice none 0 0] w fun e w' => e = .returned (.int .i64 1) ∧ w' = w := by
  go_enter Try.func26, Try.ntmps26
  go_wp2
  go_ret
  exact ⟨rfl, rfl⟩
set_option maxHeartbeats 400000 in
theorem room_none (w : World) : Calls Try.prog 28 #[.pointer none] w fun e w' => e = .returned (.int .i64 0) ∧ w' = w := by
  go_enter Try.func28, Try.ntmps28
  go_wp2
  go_ret
  exact ⟨rfl, rfl⟩
set_option maxHeartbeats 400000 in
theorem used_none (w : World) : Calls Try.prog 18 #[.pointer none] w fun e w' => e = .returned (.int .i64 0) ∧ w' = w := by
  go_enter Try.func18, Try.ntmps18
  go_wp2
  go_ret
  exact ⟨rfl, rfl⟩
set_option maxHeartbeats 400000 in
theorem clear_none (w : World) : Calls Try.prog 33 #[.pointer none] w fun e w' => (∃ v, e = .returned v) ∧ w' = w := by
  go_enter Try.func33, Try.ntmps33
  go_wp2
  refine bodyPost_ret (results_none rfl _ _ _) rfl ?_
  exact ⟨⟨_, rfl⟩, rfl⟩
set_option maxHeartbeats 2000000 in
theorem hnone_walk (w : World) : Calls Try.prog 11 #[] w fun e w' => e = .returned (.bool true) ∧ Below w.heap.size w w' := by
  have CA := awake11_any w
  go_enter Try.func11, Try.ntmps11
  go_upto_region 3 with (first | (go_at_call 12; refine CA.mono ?_; rintro e w1 ⟨rfl, k1⟩))
  have C1 := make_none w1
  go_upto_region 4 with (first | (go_at_call 29; refine C1.mono ?_; rintro e w1' ⟨rfl, h1⟩; have h1 := h1.symm; subst h1))
  have C2 := at_none w1
  clear CA C1
  go_upto_region 5 with (first | (go_at_call 21; refine C2.mono ?_; rintro e w2 ⟨rfl, k2⟩))
  obtain ⟨W2, hW2⟩ : ∃ W2, W2 = w2.alloc (.cells #[.int .i64 0, .slice none 0 0, .int .i64 0, .bool false, .int .i64 0] 45) := ⟨_, rfl⟩
  have K2 : Same0 w W2 := by rw [hW2]; exact (k1.trans' k2).trans' ((Kept.refl _ _).alloc _)
  rw [← hW2]
  clear hW2 C2
  have C3 := res_none W2
  go_upto_region 6 with (first | (go_at_call 22; refine C3.mono ?_; rintro e w3 ⟨rfl, k3⟩))
  have C4 := point_none w3
  go_upto_region 7 with (first | (go_at_call 31; refine C4.mono ?_; rintro e w4 ⟨rfl, k4⟩))
  have C5 := mark_none w4
  go_upto_region 8 with (first | (go_at_call 32; refine C5.mono ?_; rintro e w5 ⟨rfl, k5⟩))
  have C6 := refill_none w5
  go_upto_region 9 with (first | (go_at_call 26; refine C6.mono ?_; rintro e w6 ⟨rfl, h6⟩; have h6 := h6.symm; subst h6))
  have C7 := clear_none w5
  go_upto_region 10 with (first | (go_at_call 33; refine C7.mono ?_; rintro e w6 ⟨⟨v6, rfl⟩, h6⟩; have h6 := h6.symm; subst h6))
  have C8 := ranged_none w5
  have K5 := ((K2.trans' k3).trans' k4).trans' k5
  clear C3 C4 C5 C6 C7
  go_upto_region 11 with (first | (go_at_call 34; refine C8.mono ?_; rintro e w8 ⟨rfl, k8⟩))
  have C9 := room_none w8
  have C10 := used_none w8
  have K8 : Hid (Below w.heap.size w w8) := Same0.below (K5.trans' k8)
  clear C8
  go_wp2_with (first | (go_at_call 28; refine C9.mono ?_; rintro e w9 ⟨rfl, h9⟩; have h9 := h9.symm; subst h9) | (go_at_call 18; refine C10.mono ?_; rintro e w9 ⟨rfl, h9⟩; have h9 := h9.symm; subst h9))
  go_ret
  exact ⟨rfl, K8.out⟩
end Go.Proofs.Ytcbplgfkgkefeaa
