/- The walk of the law's step: All and Of. -/
import Derived.Test.YtaaoomociddopaaStep2
namespace Go.Proofs.Ytaaoomociddopaa
open Go.RowKit
attribute [local go_sem ↓] Go.wp_at_zero Go.wp_at_succ
theorem wrap_small {a : Int} (h0 : 0 ≤ a) (h1 : a ≤ 1000) : IntKind.i64.wrap a = a := by
  unfold IntKind.wrap
  simp [IntKind.signed, IntKind.bits]
  omega
set_option maxHeartbeats 1000000 in
theorem step_all {w : World} {b rb : Nat} {L : List Sym} {sv : Value} {mr : Option Nat} {rv : Value} (h : Pair w b rb L sv mr rv) (on n : Int) (x : Sym) (hwf : (Lit.int .i64 n).wf = true) :
    Calls Try.prog 15 #[.pointer (some ⟨b, 0, none⟩), .pointer (some ⟨rb, 0, none⟩), opV on 4 n x] w fun e w' => e = .returned (.bool true) ∧ Stepped w b rb sv mr rv w' := by
  have hka : Kept (fun _ => False) w (w.alloc (opO on 4 n x)) := Kept.alloc (Kept.refl _ w) _
  have h1 := h.kept hka (fun _ _ f => f)
  have hkd : Kept (fun _ => False) w (w.alloc (opO on 4 n x)).drew := hka.drew
  have h2 := h.kept hkd (fun _ _ f => f)
  obtain ⟨ao, cap, rfl⟩ := row_shape h.rf.row
  have r0 := h1.rf.c0
  go_enter Try.func15, Try.ntmps15
  go_wp2_with fail
  go_region_with (first
    | (go_at_call 14; refine (pick_any _ 70 _ hwf (by omega) (by omega)).mono ?_; rintro e w' ⟨⟨rr, hr0, hr1, rfl⟩, rfl⟩)
    | (go_at_call 17; rw [wrap_small (a := 1 + rr) (by omega) (by omega)]; refine ((callsIn_wide (n := 9)).1 (ranged_in h2.sg h2.rf.row (1 + rr) (by omega) (by omega))).mono ?_; rintro e w5 ⟨rfl, hb5⟩))
  all_goals
    go_wp2
    go_ret
    exact ⟨rfl, stepped_same h (hkd.trans (Kept.ofBelow hb5) (fun _ _ f => f))⟩
set_option maxHeartbeats 1000000 in
theorem step_of {w : World} {b rb : Nat} {L : List Sym} {sv : Value} {mr : Option Nat} {rv : Value} (h : Pair w b rb L sv mr rv) (on n : Int) (x : Sym) :
    Calls Try.prog 15 #[.pointer (some ⟨b, 0, none⟩), .pointer (some ⟨rb, 0, none⟩), opV on 5 n x] w fun e w' => e = .returned (.bool true) ∧ Stepped w b rb sv mr rv w' := by
  have hka : Kept (fun _ => False) w (w.alloc (opO on 5 n x)) := Kept.alloc (Kept.refl _ w) _
  have h1 := h.kept hka (fun _ _ f => f)
  have hkd : Kept (fun _ => False) w (w.alloc (opO on 5 n x)).drew := hka.drew
  have h2 := h.kept hkd (fun _ _ f => f)
  obtain ⟨ao, cap, rfl⟩ := row_shape h.rf.row
  have r0 := h1.rf.c0
  go_enter Try.func15, Try.ntmps15
  go_wp2_with fail
  go_region_with (first | (go_at_call 33; refine (numbers_any h2.sg h2.rf.row x.df).mono ?_; rintro e w5 ⟨rfl, hk5⟩))
  all_goals
    go_wp2
    go_ret
    exact ⟨rfl, stepped_same h (hkd.trans hk5 (fun _ _ f => f))⟩
theorem step_any {w : World} {b rb : Nat} {L : List Sym} {sv : Value} {mr : Option Nat} {rv : Value} (h : Pair w b rb L sv mr rv) (on kd n : Int) (x : Sym) (hs : x.name.size ≤ maxLen) (hwf : (Lit.int .i64 n).wf = true) :
    Calls Try.prog 15 #[.pointer (some ⟨b, 0, none⟩), .pointer (some ⟨rb, 0, none⟩), opV on kd n x] w fun e w' => e = .returned (.bool true) ∧ Stepped w b rb sv mr rv w' := by
  by_cases h1 : kd = 1
  · subst h1; exact step_add h on n x hs
  by_cases h2 : kd = 2
  · subst h2; exact step_at h on n x
  by_cases h3 : kd = 3
  · subst h3; exact step_find h on n x hs
  by_cases h4 : kd = 4
  · subst h4; exact step_all h on n x hwf
  by_cases h5 : kd = 5
  · subst h5; exact step_of h on n x
  by_cases h7 : kd = 7
  · subst h7; exact step_len h on n x
  exact step_other h on kd n x h1 h2 h3 h4 h5 h7
end Go.Proofs.Ytaaoomociddopaa
