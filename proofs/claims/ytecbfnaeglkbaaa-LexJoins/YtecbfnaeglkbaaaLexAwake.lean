/- The walk of the laws' first calls, whose answers the document fixes. -/
import Derived.Test.YtecbfnaeglkbaaaLexSame
import Derived.Deep.RegionLaw
import Derived.Deep.DeepCutAuto
namespace Go.Proofs.Ytecbfnaeglkbaaa
open Go.RowKit
set_option linter.unusedVariables false
theorem wake1 : scanL [97, 50, 66, 51, 32, 45, 62, 32, 37, 32, 120] = .ok [⟨1, 0, [97, 50]⟩, ⟨2, 2, [66, 51]⟩, ⟨8, 5, [45, 62]⟩, ⟨13, 11, []⟩] := by
  unfold scanL
  simp [lexF, lexG, blankB, beginsK, lenK, wrongK, goesB, smU, grU, dgU, smB, grB, dgB, Except.map]
theorem wake2 : scanL [97, 32, 45, 32, 98] = .error (31, 2) := by
  unfold scanL
  simp [lexF, lexG, blankB, beginsK, markK, lenK, wrongK, goesB, smU, grU, dgU, smB, grB, dgB, Except.map]
theorem wake_scan1 (w : World) : Calls Try.prog 9 #[.string ⟨#[97, 50, 66, 51, 32, 45, 62, 32, 37, 32, 120]⟩] w fun e w' => ∃ g cap, e = .returned (.tuple #[.slice (some ⟨g, 0, none⟩) 4 cap, .nilIface]) ∧ g < w'.heap.size ∧ Hid (TRow w.heap.size w' (.slice (some ⟨g, 0, none⟩) 4 cap) [⟨1, 0, [97, 50]⟩, ⟨2, 2, [66, 51]⟩, ⟨8, 5, [45, 62]⟩, ⟨13, 11, []⟩]) ∧ Same0 w w' := by
  refine (scan_any _ w (Nat.le_trans (show _ ≤ 20 by decide) (by unfold maxLen; omega))).mono ?_
  rintro e w1 ⟨v, er, rfl, hT, hs⟩
  have hT' : Told w.heap.size w1 v er (scanL [97, 50, 66, 51, 32, 45, 62, 32, 37, 32, 120]) := hT
  rw [wake1] at hT'
  obtain ⟨hr, rfl⟩ := hT'
  obtain ⟨ao, cap, rfl⟩ := row_shape hr
  obtain ⟨g, rfl, hg, hlt, _⟩ := TRow.get hr (i := 0) (by simp)
  exact ⟨g, cap, rfl, hlt, hr, hs⟩
theorem wake_scan2 (w : World) : Calls Try.prog 9 #[.string ⟨#[97, 32, 45, 32, 98]⟩] w fun e w' => ∃ er, e = .returned (.tuple #[.slice none 0 0, er]) ∧ FaultAt w.heap.size w' er 31 2 ∧ Same0 w w' := by
  refine (scan_any _ w (Nat.le_trans (show _ ≤ 20 by decide) (by unfold maxLen; omega))).mono ?_
  rintro e w1 ⟨v, er, rfl, hT, hs⟩
  have hT' : Told w.heap.size w1 v er (scanL [97, 32, 45, 32, 98]) := hT
  rw [wake2] at hT'
  obtain ⟨rfl, hf⟩ := hT'
  exact ⟨er, rfl, hf, hs⟩
theorem wake_cells {base : Nat} {w : World} {g cap : Nat} (h : TRow base w (.slice (some ⟨g, 0, none⟩) 4 cap) [⟨1, 0, [97, 50]⟩, ⟨2, 2, [66, 51]⟩, ⟨8, 5, [45, 62]⟩, ⟨13, 11, []⟩]) :
    w.cell? ⟨g, 3, none⟩ = some (.int .i64 2) ∧ w.cell? ⟨g, 4, none⟩ = some (.int .i64 2) ∧ w.cell? ⟨g, 5, none⟩ = some (.string ⟨#[66, 51]⟩) ∧ w.cell? ⟨g, 9, none⟩ = some (.int .i64 13) ∧ w.cell? ⟨g, 10, none⟩ = some (.int .i64 11) ∧ w.cell? ⟨g, 11, none⟩ = some (.string ⟨#[]⟩) := by
  obtain ⟨g', e, _, _, a1, a2, a3⟩ := TRow.get h (i := 1) (by simp)
  cases e
  obtain ⟨g', e, _, _, b1, b2, b3⟩ := TRow.get h (i := 3) (by simp)
  cases e
  exact ⟨a1, a2, a3, b1, b2, b3⟩
set_option maxHeartbeats 1000000 in
theorem awake_any (w : World) : Calls Try.prog 7 #[] w fun e w' => e = .returned (.bool true) ∧ Same0 w w' := by
  go_enter Try.func7, Try.ntmps7
  go_upto_region 2 with (go_at_call 9; refine (wake_scan1 _).mono ?_; rintro e w1 ⟨g, cap, rfl, hg1, hr1, hs1⟩)
  go_upto_region 3 with (go_at_call 9; refine (wake_scan2 _).mono ?_; rintro e w2 ⟨er, rfl, hf2, hs2⟩)
  go_upto_region 4 with (go_at_call 10; refine (same_none _).mono ?_; rintro e w' ⟨rfl, rfl⟩)
  go_upto_region 5 with (go_at_call 10; refine (same_fault (hf2.same (Kept.alloc (Kept.refl _ _) _)) ⟨_, rfl, heap_alloc_new _ _⟩).mono ?_; rintro e w3 ⟨rfl, hs3⟩)
  obtain ⟨c1, c2, c3, c4, c5, c6⟩ := wake_cells (hr1.out.same (Same0.trans' (Kept.alloc hs2 _) hs3))
  have hs4 := hs1.trans' (Same0.trans' (Kept.alloc hs2 _) hs3)
  clear hs1 hs2 hs3 hr1 hf2
  go_wp2
  go_ret
  exact ⟨rfl, hs4⟩
end Go.Proofs.Ytecbfnaeglkbaaa
