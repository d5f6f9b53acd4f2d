/- The walk of the law's step, the other kinds. -/
import Derived.Test.YtaaoomociddopaaStep
namespace Go.Proofs.Ytaaoomociddopaa
open Go.RowKit
attribute [local go_sem ↓] Go.wp_at_zero Go.wp_at_succ
set_option maxHeartbeats 2000000 in
theorem step_other {w : World} {b rb : Nat} {L : List Sym} {sv : Value} {mr : Option Nat} {rv : Value} (h : Pair w b rb L sv mr rv) (on kd n : Int) (x : Sym) (h1 : kd ≠ 1) (h2 : kd ≠ 2) (h3 : kd ≠ 3) (h4 : kd ≠ 4) (h5 : kd ≠ 5) (h7 : kd ≠ 7) :
    Calls Try.prog 15 #[.pointer (some ⟨b, 0, none⟩), .pointer (some ⟨rb, 0, none⟩), opV on kd n x] w fun e w' => e = .returned (.bool true) ∧ Stepped w b rb sv mr rv w' := by
  have k1 : (kd == 1) = false := by simpa using h1
  have k2 : (kd == 2) = false := by simpa using h2
  have k3 : (kd == 3) = false := by simpa using h3
  have k4 : (kd == 4) = false := by simpa using h4
  have k5 : (kd == 5) = false := by simpa using h5
  have k7 : (kd == 7) = false := by simpa using h7
  go_enter Try.func15, Try.ntmps15
  go_wp2
  go_ret
  exact ⟨rfl, stepped_same h (Kept.alloc (Kept.refl _ w) _)⟩
set_option maxHeartbeats 4000000 in
theorem step_at {w : World} {b rb : Nat} {L : List Sym} {sv : Value} {mr : Option Nat} {rv : Value} (h : Pair w b rb L sv mr rv) (on n : Int) (x : Sym) :
    Calls Try.prog 15 #[.pointer (some ⟨b, 0, none⟩), .pointer (some ⟨rb, 0, none⟩), opV on 2 n x] w fun e w' => e = .returned (.bool true) ∧ Stepped w b rb sv mr rv w' := by
  have hka : Kept (fun _ => False) w (w.alloc (opO on 2 n x)) := Kept.alloc (Kept.refl _ w) _
  have h1 := h.kept hka (fun _ _ f => f)
  have hlen := h.sg.len
  obtain ⟨ao, cap, rfl⟩ := row_shape h.rf.row
  by_cases hn : 0 ≤ n ∧ n < (L.length : Int)
  · obtain ⟨i, rfl⟩ := Int.eq_ofNat_of_zero_le hn.1
    have hi : i < L.length := by omega
    have i1 : (0 : Int) ≤ (i : Int) := by omega
    have i2 : (i : Int) < (L.length : Int) := by omega
    have i3 : decide ((i : Int) < 0) = false := by simp
    clear hn
    go_enter Try.func15, Try.ntmps15
    go_wp2_with fail
    refine (at_yes h1.sg i hi).mono ?_
    rintro e w2 ⟨rfl, hk2⟩
    have hk3 : Kept (fun _ => False) w (w2.alloc (.cells #[.string L[i].name, .int .i64 L[i].ar, .bool L[i].df] 35)) := (hka.trans hk2 (fun _ _ f => f)).alloc _
    have hbx : (w2.alloc (.cells #[.string L[i].name, .int .i64 L[i].ar, .bool L[i].df] 35)).heap[w.heap.size]? = some (opO on 2 (i : Int) x) := (hk2.alloc _).at (heap_alloc_new w _) (fun f => f)
    have y2 : (w2.alloc (.cells #[.string L[i].name, .int .i64 L[i].ar, .bool L[i].df] 35)).cell? ⟨w.heap.size, 2, none⟩ = some (.int .i64 (i : Int)) := cellAt hbx 2
    have h3 := h.kept hk3 (fun _ _ f => f)
    have r0 := h3.rf.c0
    obtain ⟨g, rfl, hg, z0, z1, z2⟩ := row_sym h3.rf.row hi
    go_wp2_with fail
    go_quiet (fail)
    go_wp2_with fail
    go_quiet (fail)
    go_wp2
    go_ret
    exact ⟨rfl, stepped_same h ((hk3.drewN _).drewN _)⟩
  · have hno : n < 0 ∨ (L.length : Int) ≤ n := by omega
    clear hn
    by_cases h0 : n < 0
    ·
      have i3 : decide (n < 0) = true := by simp; omega
      go_enter Try.func15, Try.ntmps15
      go_wp2_with fail
      refine (at_no h1.sg n hno).mono ?_
      rintro e w2 ⟨rfl, hk2⟩
      have hk3 : Kept (fun _ => False) w (w2.alloc (.cells #[.string ⟨#[]⟩, .int .i64 0, .bool false] 35)) := (hka.trans hk2 (fun _ _ f => f)).alloc _
      have hbx : (w2.alloc (.cells #[.string ⟨#[]⟩, .int .i64 0, .bool false] 35)).heap[w.heap.size]? = some (opO on 2 n x) := (hk2.alloc _).at (heap_alloc_new w _) (fun f => f)
      have y2 : (w2.alloc (.cells #[.string ⟨#[]⟩, .int .i64 0, .bool false] 35)).cell? ⟨w.heap.size, 2, none⟩ = some (.int .i64 n) := cellAt hbx 2
      have h3 := h.kept hk3 (fun _ _ f => f)
      have r0 := h3.rf.c0
      go_wp2_with fail
      go_quiet (fail)
      go_wp2
      go_ret
      exact ⟨rfl, stepped_same h (hk3.drewN _)⟩
    · have h0' : (L.length : Int) ≤ n := by omega
      have i3 : decide (n < 0) = false := by simp; omega
      go_enter Try.func15, Try.ntmps15
      go_wp2_with fail
      refine (at_no h1.sg n hno).mono ?_
      rintro e w2 ⟨rfl, hk2⟩
      have hk3 : Kept (fun _ => False) w (w2.alloc (.cells #[.string ⟨#[]⟩, .int .i64 0, .bool false] 35)) := (hka.trans hk2 (fun _ _ f => f)).alloc _
      have hbx : (w2.alloc (.cells #[.string ⟨#[]⟩, .int .i64 0, .bool false] 35)).heap[w.heap.size]? = some (opO on 2 n x) := (hk2.alloc _).at (heap_alloc_new w _) (fun f => f)
      have y2 : (w2.alloc (.cells #[.string ⟨#[]⟩, .int .i64 0, .bool false] 35)).cell? ⟨w.heap.size, 2, none⟩ = some (.int .i64 n) := cellAt hbx 2
      have h3 := h.kept hk3 (fun _ _ f => f)
      have r0 := h3.rf.c0
      go_wp2_with fail
      go_quiet (fail)
      go_wp2
      go_ret
      exact ⟨rfl, stepped_same h (hk3.drewN _)⟩
end Go.Proofs.Ytaaoomociddopaa
