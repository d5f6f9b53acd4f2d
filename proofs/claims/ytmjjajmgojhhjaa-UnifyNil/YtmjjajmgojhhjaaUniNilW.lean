/- The walks of package unify of no signature, and of the statement UnifyNil. -/
import Derived.Test.YtmjjajmgojhhjaaUniAwake
namespace Go.Proofs.Ytmjjajmgojhhjaa
set_option maxRecDepth 100000
set_option linter.unusedVariables false
open Go.RowKit
attribute [local go_sem ↓] Go.wp_at_zero Go.wp_at_succ
set_option maxHeartbeats 1000000 in
theorem solve_nil (po ao : Option Addr) (pl' pc al ac : Nat) (a : Int) (w : World) : Calls Try.prog 27 #[.pointer none, .slice po pl' pc, .slice ao al ac, .int .i64 a] w fun e w' => e = .returned (.tuple #[.pointer none, .int .i64 0, .int .i64 1]) ∧ w' = w := by
  go_enter Try.func27, Try.ntmps27
  go_wp2_with (first | (go_at_call 42; refine (check_nil _ _ _ _).mono ?_; rintro e w' ⟨rfl, rfl⟩))
  go_ret3
  exact ⟨rfl, rfl⟩
set_option maxHeartbeats 1000000 in
theorem common_nil (po ao : Option Addr) (pl' pc al ac : Nat) (a : Int) (w : World) : Calls Try.prog 24 #[.pointer none, .slice po pl' pc, .slice ao al ac, .int .i64 a] w fun e w' => e = .returned (.tuple #[.slice none 0 0, .int .i64 1]) ∧ w' = w := by
  go_enter Try.func24, Try.ntmps24
  go_wp2_with (first | (go_at_call 27; refine (solve_nil _ _ _ _ _ _ _ _).mono ?_; rintro e w' ⟨rfl, rfl⟩))
  go_ret2
  exact ⟨rfl, rfl⟩
set_option maxHeartbeats 1000000 in
theorem unify_nil (po ao : Option Addr) (pl' pc al ac : Nat) (w : World) : Calls Try.prog 11 #[.pointer none, .slice po pl' pc, .slice ao al ac] w fun e w' => e = .returned (.tuple #[.slice none 0 0, .int .i64 1]) ∧ w' = w := by
  go_enter Try.func11, Try.ntmps11
  go_wp2_with (first | (go_at_call 24; refine (common_nil _ _ _ _ _ _ _ _).mono ?_; rintro e w' ⟨rfl, rfl⟩))
  go_ret2
  exact ⟨rfl, rfl⟩
set_option maxHeartbeats 1000000 in
theorem overlap_nil (po ao : Option Addr) (pl' pc al ac : Nat) (w : World) : Calls Try.prog 14 #[.pointer none, .slice po pl' pc, .slice ao al ac] w fun e w' => e = .returned (.tuple #[.slice none 0 0, .int .i64 1]) ∧ w' = w := by
  go_enter Try.func14, Try.ntmps14
  go_wp2_with (first | (go_at_call 24; refine (common_nil _ _ _ _ _ _ _ _).mono ?_; rintro e w' ⟨rfl, rfl⟩))
  go_ret2
  exact ⟨rfl, rfl⟩
set_option maxHeartbeats 1000000 in
theorem clash_nil (po ao : Option Addr) (pl' pc al ac : Nat) (w : World) : Calls Try.prog 17 #[.pointer none, .slice po pl' pc, .slice ao al ac] w fun e w' => e = .returned (.tuple #[.bool false, .int .i64 1]) ∧ w' = w := by
  go_enter Try.func17, Try.ntmps17
  go_wp2_with (first | (go_at_call 27; refine (solve_nil _ _ _ _ _ _ _ _).mono ?_; rintro e w' ⟨rfl, rfl⟩))
  go_ret2
  exact ⟨rfl, rfl⟩
set_option maxHeartbeats 2000000 in
theorem unil_walk (ao : Option Addr) (len cap : Nat) (w : World) : Calls Try.prog 8 #[.slice ao len cap] w fun e w' => e = .returned (.bool true) ∧ Below w.heap.size w w' := by
  go_enter Try.func8, Try.ntmps8
  go_wp2_with (first | (go_at_call 9; refine (awake6_any _).mono ?_; rintro e w1 ⟨rfl, k1⟩) | (go_at_call 11; refine (unify_nil _ _ _ _ _ _ _).mono ?_; rintro e w' ⟨rfl, rfl⟩) | (go_at_call 14; refine (overlap_nil _ _ _ _ _ _ _).mono ?_; rintro e w' ⟨rfl, rfl⟩) | (go_at_call 17; refine (clash_nil _ _ _ _ _ _ _).mono ?_; rintro e w' ⟨rfl, rfl⟩))
  go_ret
  exact ⟨rfl, Same0.below k1⟩
end Go.Proofs.Ytmjjajmgojhhjaa
