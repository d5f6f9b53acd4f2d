/- The walks of package match of no signature, and of the statement MatchNil. -/
import Derived.Test.YtbbdcmjchhejbaaMatchAwake
namespace Go.Proofs.Ytbbdcmjchhejbaa
set_option maxRecDepth 100000
set_option linter.unusedVariables false
open Go.RowKit
attribute [local go_sem ↓] Go.wp_at_zero Go.wp_at_succ
set_option maxHeartbeats 1000000 in
theorem match_nil (po ao : Option Addr) (pl' pc al ac : Nat) (a : Int) (w : World) : Calls Try.prog 14 #[.pointer none, .slice po pl' pc, .slice ao al ac, .int .i64 a] w fun e w' => e = .returned (.tuple #[.slice none 0 0, .bool false, .int .i64 1]) ∧ w' = w := by
  go_enter Try.func14, Try.ntmps14
  go_wp2_with (first | (go_at_call 31; refine (check_nil _ _ _ _).mono ?_; rintro e w' ⟨rfl, rfl⟩))
  go_ret3
  exact ⟨rfl, rfl⟩
set_option maxHeartbeats 1000000 in
theorem apply_nil (po lo : Option Addr) (pl' pc ll lc : Nat) (w : World) : Calls Try.prog 19 #[.pointer none, .slice po pl' pc, .slice lo ll lc] w fun e w' => e = .returned (.tuple #[.slice none 0 0, .int .i64 1]) ∧ w' = w := by
  go_enter Try.func19, Try.ntmps19
  go_wp2_with (first | (go_at_call 31; refine (check_nil _ _ _ _).mono ?_; rintro e w' ⟨rfl, rfl⟩))
  go_ret2
  exact ⟨rfl, rfl⟩
set_option maxHeartbeats 1000000 in
theorem msame_nil (po lo : Option Addr) (pl' pc ll lc : Nat) (w : World) : Calls Try.prog 22 #[.pointer none, .slice po pl' pc, .slice lo ll lc] w fun e w' => e = .returned (.tuple #[.bool false, .int .i64 1]) ∧ w' = w := by
  go_enter Try.func22, Try.ntmps22
  go_wp2_with (first | (go_at_call 31; refine (check_nil _ _ _ _).mono ?_; rintro e w' ⟨rfl, rfl⟩))
  go_ret2
  exact ⟨rfl, rfl⟩
set_option maxHeartbeats 2000000 in
theorem mnil_walk (ao : Option Addr) (len cap : Nat) (a : Int) (w : World) : Calls Try.prog 8 #[.slice ao len cap, .int .i64 a] w fun e w' => e = .returned (.bool true) ∧ Below w.heap.size w w' := by
  go_enter Try.func8, Try.ntmps8
  go_wp2_with (first | (go_at_call 9; refine (awake5_any _).mono ?_; rintro e w1 ⟨rfl, k1⟩) | (go_at_call 14; refine (match_nil _ _ _ _ _ _ _ _).mono ?_; rintro e w' ⟨rfl, rfl⟩) | (go_at_call 19; refine (apply_nil _ _ _ _ _ _ _).mono ?_; rintro e w' ⟨rfl, rfl⟩) | (go_at_call 22; refine (msame_nil _ _ _ _ _ _ _).mono ?_; rintro e w' ⟨rfl, rfl⟩))
  go_ret
  exact ⟨rfl, Same0.below (k1.alloc _)⟩
end Go.Proofs.Ytbbdcmjchhejbaa
