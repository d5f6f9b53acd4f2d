/- The walk of LexJoins where the second text is refused. -/
import Derived.Test.YtecbfnaeglkbaaaJoins1
import Derived.Deep.RegionHeld3
namespace Go.Proofs.Ytecbfnaeglkbaaa
open Go.RowKit
set_option linter.unusedVariables false
theorem wrap_small {x : Int} (h0 : 0 ≤ x) (h1 : x ≤ 1000000) : IntKind.i64.wrap x = x := by
  unfold IntKind.wrap
  simp [IntKind.signed, IntKind.bits]
  omega
set_option maxRecDepth 100000 in
set_option maxHeartbeats 2000000 in
theorem joins_e2 (a b : ByteArray) (w : World) (h : a.size + 1 + b.size ≤ 20000) {l : List Tok} {c p : Nat} (hRa : lexF 0 a.data.toList = .ok l) (hRb : lexF 0 b.data.toList = .error (c, p)) : Calls Try.prog 5 #[.string a, .string b] w fun e w' => e = .returned (.bool true) ∧ Below w.heap.size w w' := by
  have m1 : a.size ≤ maxLen := by unfold maxLen; omega
  have m2 : b.size ≤ maxLen := by unfold maxLen; omega
  have hcat : (a ++ ⟨#[10]⟩ ++ b : ByteArray).data.toList = a.data.toList ++ 10 :: b.data.toList := by simp
  have m3 : (a ++ ⟨#[10]⟩ ++ b : ByteArray).size ≤ maxLen := by rw [size_list, hcat]; simp only [List.length_append, List.length_cons, ← size_list]; unfold maxLen; omega
  have d1 : decide ((20000 : Int) < (a.size : Int)) = false := by simp; omega
  have d1' : ((20000 : Int) < (a.size : Int)) = False := by simp; omega
  have d2 : decide ((20000 : Int) < (b.size : Int)) = false := by simp; omega
  have d2' : ((20000 : Int) < (b.size : Int)) = False := by simp; omega
  have d3 : decide ((20000 : Int) < (a.size : Int) + 1 + (b.size : Int)) = false := by simp; omega
  have d3' : ((20000 : Int) < (a.size : Int) + 1 + (b.size : Int)) = False := by simp; omega
  go_enter Try.func5, Try.ntmps5
  go_upto_region 5 with (first | (go_at_call 7; refine (awake_any _).mono ?_; rintro e w1 ⟨rfl, k1⟩) | (go_at_call 9; refine (scan_any _ _ m1).mono ?_; rintro e w2 ⟨x, ea, rfl, t2, k2⟩))
  go_upto_region 6 with (go_at_call 9; refine (scan_any _ _ m2).mono ?_; rintro e w3 ⟨y, eb, rfl, t3, k3⟩)
  go_upto_region 7 with (go_at_call 9; refine (scan_any _ _ m3).mono ?_; rintro e w4 ⟨z, eg, rfl, t4, k4⟩)
  have T1 := (t2.same k3).same k4
  have T2 := t3.same k4
  have T3 := t4
  rw [scan_le (by omega)] at T1 T2
  rw [join_scan hcat h] at T3
  have K4 : Same0 w w4 := ((k1.trans' k2).trans' k3).trans' k4
  have z3 : w2.heap.size ≤ w3.heap.size := k3.size
  clear t2 t3 t4 k1 k2 k3 k4
  have WA := lexF_within (s := a) (by omega)
  have WB := lexF_within (s := b) (by omega)
  rw [hRa] at T1 T3 WA
  rw [hRb] at T2 T3 WB
  obtain ⟨hrl, rfl⟩ := T1
  obtain ⟨rfl, b1, rfl, _, hb1⟩ := T2
  obtain ⟨rfl, hfz⟩ := T3
  have HZ : Hid (FaultAt w3.heap.size w4 eg c (p + (a.size + 1))) := hfz
  obtain ⟨b3, rfl, _, hb3⟩ := hfz
  have q0 := cellAt hb1 0
  have q1 := cellAt hb1 1
  simp only [List.getElem?_toArray, List.getElem?_cons_zero, List.getElem?_cons_succ] at q0 q1
  have hta := fun W v => assert_fault W v
  have htn := fun W => assert_nil W
  have hfn := fun W v => fault_nil W v
  have hnn := fun W => nil_nil W
  have hfne := fun W v => fault_nil_ne W v
  have hnne := fun W => nil_nil_ne W
  have hpb : p ≤ b.size := WB
  clear hb1 hb3 WA WB hrl
  go_quiet (fail)
  go_wp2
  clear hta htn hfn hnn hfne hnne
  obtain ⟨w5, hw5⟩ : ∃ w5, w4.drewN nq = w5 := ⟨_, rfl⟩
  have q0' : w5.cell? ⟨b1, 0, none⟩ = some (.int .i64 (c : Int)) := by rw [← hw5]; exact q0
  have q1' : w5.cell? ⟨b1, 1, none⟩ = some (.int .i64 (p : Int)) := by rw [← hw5]; exact q1
  have HZ5 : FaultAt w3.heap.size w5 (.iface 30 (.pointer (some ⟨b3, 0, none⟩))) c (p + (a.size + 1)) := by rw [← hw5]; exact HZ.out.same ((Kept.refl _ _).drewN nq)
  have K5 : Same0 w w5 := by rw [← hw5]; exact Kept.drewN K4 nq
  rw [hw5]
  clear hw5 q0 q1 HZ K4
  have cS : Calls Try.prog 10 #[.iface 30 (.pointer (some ⟨b3, 0, none⟩)), .slice (some ⟨w5.heap.size, 0, none⟩) 1 1] (w5.alloc (.cells #[.int .i64 (c : Int), .int .i64 (IntKind.i64.wrap ((p : Int) + ((a.size : Int) + 1)))] 37)).drew fun e w' => e = .returned (.bool true) ∧ w'.cell? ⟨b1, 0, none⟩ = some (.int .i64 (c : Int)) ∧ w'.cell? ⟨b1, 1, none⟩ = some (.int .i64 (p : Int)) ∧ Same0 w5 w' := by
    refine (fault_call HZ5 (cz := (c : Int)) (pz := IntKind.i64.wrap ((p : Int) + ((a.size : Int) + 1))) rfl (by rw [wrap_small (by omega) (by omega)]; omega)).mono ?_
    rintro e w' ⟨rfl, k⟩
    have hlt : b1 < w5.heap.size := by
      have := World.block_lt_of_cell? w5 ⟨b1, 0, none⟩ q0'
      exact this
    exact ⟨rfl, (Kept.cell k (p := ⟨b1, 0, none⟩) hlt (fun f => f)).trans q0', (Kept.cell k (p := ⟨b1, 1, none⟩) hlt (fun f => f)).trans q1', k⟩
  clear HZ5
  have hlt1 : b1 < w5.heap.size := World.block_lt_of_cell? w5 ⟨b1, 0, none⟩ q0'
  go_region_held3 (fun w' => w'.cell? ⟨b1, 0, none⟩ = some (.int .i64 (c : Int)) ∧ w'.cell? ⟨b1, 1, none⟩ = some (.int .i64 (p : Int))) (go_keep) (first | (go_at_call 10; refine cS.mono ?_; rintro e w6 ⟨rfl, g0, g1, k6⟩))
  all_goals
    go_wp2
    go_ret
    exact ⟨rfl, (K5.trans' k6).below⟩
end Go.Proofs.Ytecbfnaeglkbaaa
