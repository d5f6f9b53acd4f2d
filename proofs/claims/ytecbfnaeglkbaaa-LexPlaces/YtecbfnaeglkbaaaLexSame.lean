/- The walks of the laws' question whether an error is what the document says. -/
import Derived.Test.YtecbfnaeglkbaaaLexScan
import Derived.Deep.QuietTactic
import Derived.BigQuiet
namespace Go.Proofs.Ytecbfnaeglkbaaa
open Go.RowKit
set_option linter.unusedVariables false
theorem assert_fault (W : World) (v : Value) : (Instr.typeAssert (.iface 30 v) 27 30 true).run Try.prog W = .ok (.tuple #[v, .bool true]) W := by kernel_rfl
theorem nil_nil (W : World) : (binOp .eql 27 .nilIface .nilIface).run Try.prog W = .ok (.bool true) W := by kernel_rfl
theorem fault_nil (W : World) (v : Value) : (binOp .eql 27 (.iface 30 v) .nilIface).run Try.prog W = .ok (.bool false) W := by kernel_rfl
set_option maxHeartbeats 1000000 in
theorem same_none (w : World) : Calls Try.prog 10 #[.nilIface, .slice none 0 0] w fun e w' => e = .returned (.bool true) ∧ w' = w := by
  have hnn := nil_nil w
  go_enter Try.func10, Try.ntmps10
  go_wp2
  go_loop [0, 5] (fun er i => er = .nilIface ∧ i = .int .i64 0) (fun _ i => 1)
  case atStart => exact ⟨rfl, rfl⟩
  case round =>
    obtain ⟨rfl, rfl⟩ := hrel
    go_wp2
    go_ret
    exact ⟨rfl, rfl⟩
/-- One error of the document's, in a row. -/
def WrongAt (w : World) (lv : Value) (c p : Int) : Prop := ∃ b, lv = .slice (some ⟨b, 0, none⟩) 1 1 ∧ w.heap[b]? = some (.cells #[.int .i64 c, .int .i64 p] 37 (0, 0))
theorem WrongAt.same {w w' : World} {lv : Value} {c p : Int} (h : WrongAt w lv c p) (hk : Same0 w w') : WrongAt w' lv c p := by
  obtain ⟨b, e, hb⟩ := h
  exact ⟨b, e, hk.at0 hb⟩
set_option maxHeartbeats 4000000 in
set_option maxRecDepth 100000 in
theorem same_fault {w : World} {base : Nat} {er lv : Value} {c p : Nat} (h : FaultAt base w er c p) (hl : WrongAt w lv (c : Int) (p : Int)) :
    Calls Try.prog 10 #[er, lv] w fun e w' => e = .returned (.bool true) ∧ Same0 w w' := by
  obtain ⟨b, rfl, _, hb⟩ := h
  obtain ⟨g, rfl, hg⟩ := hl
  go_enter Try.func10, Try.ntmps10
  go_wp2
  go_loopw [0, 5] (fun er i wr => ∃ m, wr = w.drewN m ∧ ((i = .int .i64 0 ∧ er = .iface 30 (.pointer (some ⟨b, 0, none⟩))) ∨ (i = .int .i64 1 ∧ er = .nilIface))) (fun _ i _ => 2 - (intOf i).toNat)
  case atStart => exact ⟨0, rfl, .inl ⟨rfl, rfl⟩⟩
  case round =>
    obtain ⟨m, rfl, ⟨rfl, rfl⟩ | ⟨rfl, rfl⟩⟩ := hrel
    · have b0 := cellAt hb 0
      have b1 := cellAt hb 1
      have b2 := cellAt hb 2
      have g0 := cellAt hg 0
      have g1 := cellAt hg 1
      simp only [List.getElem?_toArray, List.getElem?_cons_zero, List.getElem?_cons_succ] at b0 b1 b2 g0 g1
      have hp1 : ((p : Int) == -1) = false := by simp
      have hta := fun v => assert_fault (w.drewN m) v
      clear hb hg
      go_wp2
      clear hta hp1
      go_quiet (fail)
      go_wp2
      exact ⟨⟨m + nq, rfl, .inr ⟨rfl, rfl⟩⟩, by simp [intOf]⟩
    · have hnn := nil_nil (w.drewN m)
      go_wp2
      go_ret
      exact ⟨rfl, (Kept.refl _ w).drewN m⟩
end Go.Proofs.Ytecbfnaeglkbaaa
