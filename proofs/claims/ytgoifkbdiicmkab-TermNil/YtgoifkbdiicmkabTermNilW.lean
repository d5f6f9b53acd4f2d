/- The walk of TermNil: every call of no signature. -/
import Derived.Test.YtgoifkbdiicmkabAwake2
namespace Go.Proofs.Ytgoifkbdiicmkab
set_option linter.unusedVariables false
open Go.RowKit
attribute [local go_sem ↓] Go.wp_at_zero Go.wp_at_succ
theorem tend_nil (ao : Option Addr) (len cap : Nat) (a : Int) (w : World) : Calls Try.prog 15 #[.pointer none, .slice ao len cap, .int .i64 a] w fun e w' => e = .returned (.tuple #[.int .i64 0, .int .i64 1]) ∧ w' = w := by
  go_enter Try.func15, Try.ntmps15
  go_wp2_with (first | (go_at_call 23; refine (checkPlace_nil _ _ _ _ _).mono ?_; rintro e w' ⟨rfl, rfl⟩))
  go_ret2
  exact ⟨rfl, rfl⟩
theorem args_nil (ao : Option Addr) (len cap : Nat) (a : Int) (w : World) : Calls Try.prog 16 #[.pointer none, .slice ao len cap, .int .i64 a] w fun e w' => e = .returned (.tuple #[.slice none 0 0, .int .i64 1]) ∧ w' = w := by
  go_enter Try.func16, Try.ntmps16
  go_wp2_with (first | (go_at_call 23; refine (checkPlace_nil _ _ _ _ _).mono ?_; rintro e w' ⟨rfl, rfl⟩))
  go_ret2
  exact ⟨rfl, rfl⟩
theorem sub_nil (ao : Option Addr) (len cap : Nat) (a : Int) (w : World) : Calls Try.prog 10 #[.pointer none, .slice ao len cap, .int .i64 a] w fun e w' => e = .returned (.tuple #[.slice none 0 0, .int .i64 1]) ∧ w' = w := by
  go_enter Try.func10, Try.ntmps10
  go_wp2_with (first | (go_at_call 23; refine (checkPlace_nil _ _ _ _ _).mono ?_; rintro e w' ⟨rfl, rfl⟩))
  go_ret2
  exact ⟨rfl, rfl⟩
theorem path_nil (ao : Option Addr) (len cap : Nat) (a : Int) (w : World) : Calls Try.prog 13 #[.pointer none, .slice ao len cap, .int .i64 a] w fun e w' => e = .returned (.tuple #[.slice none 0 0, .int .i64 1]) ∧ Same0 w w' := by
  go_enter Try.func13, Try.ntmps13
  go_wp2_with (first | (go_at_call 23; refine (checkPlace_nil _ _ _ _ _).mono ?_; rintro e w' ⟨rfl, rfl⟩))
  go_ret2
  exact ⟨rfl, by first | exact Kept.refl _ _ | exact (Kept.refl _ _).alloc _⟩
theorem put_nil (ao uo : Option Addr) (len cap ulen ucap : Nat) (a : Int) (w : World) : Calls Try.prog 11 #[.pointer none, .slice ao len cap, .int .i64 a, .slice uo ulen ucap] w fun e w' => e = .returned (.tuple #[.slice none 0 0, .int .i64 1]) ∧ w' = w := by
  go_enter Try.func11, Try.ntmps11
  go_wp2_with (first | (go_at_call 23; refine (checkPlace_nil _ _ _ _ _).mono ?_; rintro e w' ⟨rfl, rfl⟩))
  go_ret2
  exact ⟨rfl, rfl⟩
theorem place_nil (ao po : Option Addr) (len cap plen pcap : Nat) (w : World) : Calls Try.prog 14 #[.pointer none, .slice ao len cap, .slice po plen pcap] w fun e w' => e = .returned (.tuple #[.int .i64 0, .int .i64 1]) ∧ w' = w := by
  go_enter Try.func14, Try.ntmps14
  go_wp2_with (first | (go_at_call 18; refine (check_nil _ _ _ _).mono ?_; rintro e w' ⟨rfl, rfl⟩))
  go_ret2
  exact ⟨rfl, rfl⟩
theorem depth_nil (ao : Option Addr) (len cap : Nat) (w : World) : Calls Try.prog 17 #[.pointer none, .slice ao len cap] w fun e w' => e = .returned (.tuple #[.int .i64 0, .int .i64 1]) ∧ Same0 w w' := by
  go_enter Try.func17, Try.ntmps17
  go_wp2_with (first | (go_at_call 18; refine (check_nil _ _ _ _).mono ?_; rintro e w' ⟨rfl, rfl⟩))
  go_ret2
  exact ⟨rfl, by first | exact Kept.refl _ _ | exact (Kept.refl _ _).alloc _⟩
set_option maxHeartbeats 2000000 in
theorem tnil_walk (ao : Option Addr) (len cap : Nat) (a : Int) (w : World) : Calls Try.prog 5 #[.slice ao len cap, .int .i64 a] w fun e w' => e = .returned (.bool true) ∧ Below w.heap.size w w' := by
  go_enter Try.func5, Try.ntmps5
  go_wp2_with (first
    | (go_at_call 6; refine (awake2_any _).mono ?_; rintro e w1 ⟨rfl, hk1⟩)
    | (go_at_call 15; refine (tend_nil _ _ _ _ _).mono ?_; rintro e w' ⟨rfl, rfl⟩)
    | (go_at_call 16; refine (args_nil _ _ _ _ _).mono ?_; rintro e w' ⟨rfl, rfl⟩)
    | (go_at_call 10; refine (sub_nil _ _ _ _ _).mono ?_; rintro e w' ⟨rfl, rfl⟩)
    | (go_at_call 11; refine (put_nil _ _ _ _ _ _ _ _).mono ?_; rintro e w' ⟨rfl, rfl⟩)
    | (go_at_call 13; refine (path_nil _ _ _ _ _).mono ?_; rintro e w2 ⟨rfl, hk2⟩)
    | (go_at_call 14; refine (place_nil _ _ _ _ _ _ _).mono ?_; rintro e w' ⟨rfl, rfl⟩)
    | (go_at_call 17; refine (depth_nil _ _ _ _).mono ?_; rintro e w3 ⟨rfl, hk3⟩)
    | (go_at_call 18; refine (check_nil _ _ _ _).mono ?_; rintro e w' ⟨rfl, rfl⟩))
  go_ret
  exact ⟨rfl, ((hk1.trans' hk2).trans' (Same0.new hk3)).below⟩
end Go.Proofs.Ytgoifkbdiicmkab
