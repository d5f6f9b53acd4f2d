import Derived.Test.YtbjfpfnfbgncnaaGreatDoorM05
import Derived.Deep.QuietTactic
import Derived.BigQuiet
import Derived.Test.YtbjfpfnfbgncnaaGreatDoorM13
import Derived.Defers
import Derived.Recover
/- The walks of the laws' question whether an error is what the document says. -/
namespace Go.Proofs.YtbjfpfnfbgncnaaGreatDoor
open Go.RowKit
set_option linter.unusedVariables false
theorem assert_fault (W : World) (v : Value) : (Instr.typeAssert (.iface 83 v) 26 83 true).run Tryz.prog W = .ok (.tuple #[v, .bool true]) W := by kernel_rfl
theorem nil_nil (W : World) : (binOp .eql 26 .nilIface .nilIface).run Tryz.prog W = .ok (.bool true) W := by kernel_rfl
theorem fault_nil (W : World) (v : Value) : (binOp .eql 26 (.iface 83 v) .nilIface).run Tryz.prog W = .ok (.bool false) W := by kernel_rfl
set_option maxHeartbeats 1000000 in
theorem same_none (w : World) : Calls Tryz.prog 10 #[.nilIface, .slice none 0 0] w fun e w' => e = .returned (.bool true) ∧ w' = w := by
  have hnn := nil_nil w
  go_enter Tryz.func10, Tryz.ntmps10
  go_wp2
  go_loop [0, 5] (fun er i => er = .nilIface ∧ i = .int .i64 0) (fun _ i => 1)
  case atStart => exact ⟨rfl, rfl⟩
  case round =>
    obtain ⟨rfl, rfl⟩ := hrel
    go_wp2
    go_ret
    exact ⟨rfl, rfl⟩
/-- One error of the document's, in a row. -/
def WrongAt (w : World) (lv : Value) (c p : Int) : Prop := ∃ b, lv = .slice (some ⟨b, 0, none⟩) 1 1 ∧ w.heap[b]? = some (.cells #[.int .i64 c, .int .i64 p] 39 (0, 0))
theorem WrongAt.same {w w' : World} {lv : Value} {c p : Int} (h : WrongAt w lv c p) (hk : Same0 w w') : WrongAt w' lv c p := by
  obtain ⟨b, e, hb⟩ := h
  exact ⟨b, e, hk.at0 hb⟩
set_option maxHeartbeats 4000000 in
set_option maxRecDepth 100000 in
theorem same_fault {w : World} {base : Nat} {er lv : Value} {c p : Nat} (h : FaultAt base w er c p) (hl : WrongAt w lv (c : Int) (p : Int)) :
    Calls Tryz.prog 10 #[er, lv] w fun e w' => e = .returned (.bool true) ∧ Same0 w w' := by
  obtain ⟨b, rfl, _, hb⟩ := h
  obtain ⟨g, rfl, hg⟩ := hl
  go_enter Tryz.func10, Tryz.ntmps10
  go_wp2
  go_loopw [0, 5] (fun er i wr => ∃ m, wr = w.drewN m ∧ ((i = .int .i64 0 ∧ er = .iface 83 (.pointer (some ⟨b, 0, none⟩))) ∨ (i = .int .i64 1 ∧ er = .nilIface))) (fun _ i _ => 2 - (intOf i).toNat)
  case atStart => exact ⟨0, rfl, .inl ⟨rfl, rfl⟩⟩
  case round =>
    obtain ⟨m, rfl, ⟨rfl, rfl⟩ | ⟨rfl, rfl⟩⟩ := hrel
    · have b0 := cellAt hb 0
      have b1 := cellAt hb 1
      have b2 := cellAt hb 2
      have g0 := cellAt hg 0
      have g1 := cellAt hg 1
      simp only [List.getElem?_toArray, List.getElem?_cons_zero, List.getElem?_cons_succ] at b0 b1 b2 g0 g1
      have hp1 : ((p : Int) == -1) = false := by simp
      have hta := fun v => assert_fault (w.drewN m) v
      clear hb hg
      go_wp2
      clear hta hp1
      go_quiet (fail)
      go_wp2
      exact ⟨⟨m + nq, rfl, .inr ⟨rfl, rfl⟩⟩, by simp [intOf]⟩
    · have hnn := nil_nil (w.drewN m)
      go_wp2
      go_ret
      exact ⟨rfl, (Kept.refl _ w).drewN m⟩
end Go.Proofs.YtbjfpfnfbgncnaaGreatDoor
/- The walks of how a text is opened, how what was given up is told, and of the functions that recover it. -/
namespace Go.Proofs.YtbjfpfnfbgncnaaGreatDoor
open Go.RowKit
set_option linter.unusedVariables false
set_option maxRecDepth 100000
set_option maxHeartbeats 1000000 in
theorem as_nil (v : Value) (w : World) : Calls Tryz.prog 51 #[.nilIface, v] w fun e w' => e = .returned (.bool false) ∧ w' = w := by
  have hnn := nil_nil w
  go_enter Tryz.func51, Tryz.ntmps51
  go_wp2_with fail
  go_ret
  exact ⟨rfl, rfl⟩
theorem rd_open {base : Nat} {w : World} {v : Value} {l : List Tok} (h : TRow base w v l) (hl : 0 < l.length) (hb : base ≤ w.heap.size) (o : Obj) : ∃ tb, base ≤ tb ∧ RdAt ((w.alloc o).alloc (.cells #[v] 111)) (w.heap.size + 1) tb l := by
  obtain ⟨ao, cap, rfl⟩ : ∃ ao cap, v = .slice ao l.length cap := row_shape h
  obtain ⟨g, rfl, hg, hlt, _⟩ := h.get hl
  have hcap : l.length ≤ cap ∧ cap ≤ maxLen := by
    rcases h.2 with ⟨e, _⟩ | ⟨g', cap', cur, e, _, _, h1, h2, _⟩
    · cases e
    · cases e; exact ⟨h1, h2⟩
  have k : Same0 w ((w.alloc o).alloc (.cells #[.slice (some ⟨g, 0, none⟩) l.length cap] 111)) := Kept.alloc (Kept.alloc (Kept.refl _ w) _) _
  refine ⟨g, hg, by omega, 0, cap, alloc_at1 w _ _, hcap.1, hcap.2, ?_⟩
  refine ⟨Nat.lt_of_lt_of_le hlt k.size, fun i hi => ?_⟩
  obtain ⟨g2, e2, _, _, c1, c2, c3⟩ := (h.same k).get hi
  cases e2
  simp only [Nat.zero_add]
  exact ⟨c1, c2, c3⟩
set_option maxHeartbeats 1000000 in
theorem open_ok {s : ByteArray} {w : World} {l : List Tok} (hs : s.size ≤ maxLen) (h : scanL s.data.toList = .ok l) : Calls Tryz.prog 22 #[.string s] w fun e w' => ∃ rb tb, e = .returned (.pointer (some ⟨rb, 0, none⟩)) ∧ RdAt w' rb tb l ∧ w.heap.size ≤ rb ∧ w.heap.size ≤ tb ∧ Same0 w w' := by
  have c1 := scan_any s w hs
  rw [h] at c1
  have hl : 0 < l.length := List.length_pos_iff.2 (scan_ends h).ne
  clear h
  go_enter Tryz.func22, Tryz.ntmps22
  go_wp2_with (first | (go_at_call 50; refine c1.mono ?_; rintro e w1 ⟨v, er, rfl, ⟨k1, rfl⟩, k2⟩; obtain ⟨ao, cap, rfl⟩ : ∃ ao cap, v = .slice ao l.length cap := row_shape k1) | (go_at_call 51; refine (as_nil _ _).mono ?_; rintro e w2 ⟨rfl, rfl⟩))
  obtain ⟨tb, h1, h2⟩ := rd_open k1 hl k2.size (.cells #[.pointer none] 83)
  go_ret
  exact ⟨_, tb, rfl, h2, by have := k2.size; omega, h1, Kept.alloc (Kept.alloc k2 _) _⟩
set_option maxHeartbeats 1000000 in
theorem refusal_nil (w : World) : Calls Tryz.prog 20 #[.nilIface] w fun e w' => e = .returned .nilIface ∧ w' = w := by
  have hnn : (binOp .eql 20 .nilIface .nilIface).run Tryz.prog w = .ok (.bool true) w := by kernel_rfl
  go_enter Tryz.func20, Tryz.ntmps20
  go_wp2_with fail
  go_ret
  exact ⟨rfl, rfl⟩
set_option maxHeartbeats 1000000 in
theorem refusal_fault (v : Value) (w : World) : Calls Tryz.prog 20 #[.iface 83 v] w fun e w' => e = .returned (.iface 83 v) ∧ w' = w := by
  have hnn : (binOp .eql 20 (.iface 83 v) .nilIface).run Tryz.prog w = .ok (.bool false) w := by kernel_rfl
  have hta : (Instr.typeAssert (.iface 83 v) 20 83 true).run Tryz.prog w = .ok (.tuple #[v, .bool true]) w := by kernel_rfl
  go_enter Tryz.func20, Tryz.ntmps20
  go_wp2_with fail
  go_ret
  exact ⟨rfl, rfl⟩
set_option maxHeartbeats 1000000 in
theorem catch_fault_Symbols (p : Addr) (x v : Value) (w : World) (hc : w.cell? p = some x) (hz : w.frozen? p = false) :
    CallsD Tryz.prog 41 #[.pointer (some p)] (.panicking [{ v := .iface 83 v, recovered := false }]) w fun e u' w' =>
      e = .returned (.tuple #[]) ∧ u' = .panicking [{ v := .iface 83 v, recovered := true }] ∧ w' = w.setCell p (.iface 83 v) := by
  refine callsD_of_wpS Tryz.func41 rfl fun c₀ cs hu => ?_
  apply wpS_region
  simp [wpOpsS, go_sem, recoverD, hu, Tryz.ntmps41]
  refine (refusal_fault v w).mono ?_
  rintro e w' ⟨rfl, rfl⟩
  simp [go_sem, hc, hz, bodyPostS, results, Tryz.results41]
set_option maxHeartbeats 1000000 in
theorem catch_idle_Symbols (p : Addr) (x : Value) (w : World) (hc : w.cell? p = some x) (hz : w.frozen? p = false) :
    CallsD Tryz.prog 41 #[.pointer (some p)] .returning w fun e u' w' => e = .returned (.tuple #[]) ∧ u' = .returning ∧ w' = w.setCell p .nilIface := by
  refine callsD_of_wpS Tryz.func41 rfl fun c₀ cs hu => ?_
  apply wpS_region
  simp [wpOpsS, go_sem, recoverD, hu, Tryz.ntmps41]
  refine (refusal_nil w).mono ?_
  rintro e w' ⟨rfl, rfl⟩
  simp [go_sem, hc, hz, bodyPostS, results, Tryz.results41]
  cases c₀
  simp only at hu
  subst hu
  rfl
set_option maxHeartbeats 1000000 in
theorem catch_fault_Term (p : Addr) (x v : Value) (w : World) (hc : w.cell? p = some x) (hz : w.frozen? p = false) :
    CallsD Tryz.prog 19 #[.pointer (some p)] (.panicking [{ v := .iface 83 v, recovered := false }]) w fun e u' w' =>
      e = .returned (.tuple #[]) ∧ u' = .panicking [{ v := .iface 83 v, recovered := true }] ∧ w' = w.setCell p (.iface 83 v) := by
  refine callsD_of_wpS Tryz.func19 rfl fun c₀ cs hu => ?_
  apply wpS_region
  simp [wpOpsS, go_sem, recoverD, hu, Tryz.ntmps19]
  refine (refusal_fault v w).mono ?_
  rintro e w' ⟨rfl, rfl⟩
  simp [go_sem, hc, hz, bodyPostS, results, Tryz.results19]
set_option maxHeartbeats 1000000 in
theorem catch_idle_Term (p : Addr) (x : Value) (w : World) (hc : w.cell? p = some x) (hz : w.frozen? p = false) :
    CallsD Tryz.prog 19 #[.pointer (some p)] .returning w fun e u' w' => e = .returned (.tuple #[]) ∧ u' = .returning ∧ w' = w.setCell p .nilIface := by
  refine callsD_of_wpS Tryz.func19 rfl fun c₀ cs hu => ?_
  apply wpS_region
  simp [wpOpsS, go_sem, recoverD, hu, Tryz.ntmps19]
  refine (refusal_nil w).mono ?_
  rintro e w' ⟨rfl, rfl⟩
  simp [go_sem, hc, hz, bodyPostS, results, Tryz.results19]
  cases c₀
  simp only at hu
  subst hu
  rfl
set_option maxHeartbeats 1000000 in
theorem catch_fault_Rules (p : Addr) (x v : Value) (w : World) (hc : w.cell? p = some x) (hz : w.frozen? p = false) :
    CallsD Tryz.prog 28 #[.pointer (some p)] (.panicking [{ v := .iface 83 v, recovered := false }]) w fun e u' w' =>
      e = .returned (.tuple #[]) ∧ u' = .panicking [{ v := .iface 83 v, recovered := true }] ∧ w' = w.setCell p (.iface 83 v) := by
  refine callsD_of_wpS Tryz.func28 rfl fun c₀ cs hu => ?_
  apply wpS_region
  simp [wpOpsS, go_sem, recoverD, hu, Tryz.ntmps28]
  refine (refusal_fault v w).mono ?_
  rintro e w' ⟨rfl, rfl⟩
  simp [go_sem, hc, hz, bodyPostS, results, Tryz.results28]
set_option maxHeartbeats 1000000 in
theorem catch_idle_Rules (p : Addr) (x : Value) (w : World) (hc : w.cell? p = some x) (hz : w.frozen? p = false) :
    CallsD Tryz.prog 28 #[.pointer (some p)] .returning w fun e u' w' => e = .returned (.tuple #[]) ∧ u' = .returning ∧ w' = w.setCell p .nilIface := by
  refine callsD_of_wpS Tryz.func28 rfl fun c₀ cs hu => ?_
  apply wpS_region
  simp [wpOpsS, go_sem, recoverD, hu, Tryz.ntmps28]
  refine (refusal_nil w).mono ?_
  rintro e w' ⟨rfl, rfl⟩
  simp [go_sem, hc, hz, bodyPostS, results, Tryz.results28]
  cases c₀
  simp only at hu
  subst hu
  rfl
set_option maxHeartbeats 1000000 in
theorem catch_fault_Moves (p : Addr) (x v : Value) (w : World) (hc : w.cell? p = some x) (hz : w.frozen? p = false) :
    CallsD Tryz.prog 44 #[.pointer (some p)] (.panicking [{ v := .iface 83 v, recovered := false }]) w fun e u' w' =>
      e = .returned (.tuple #[]) ∧ u' = .panicking [{ v := .iface 83 v, recovered := true }] ∧ w' = w.setCell p (.iface 83 v) := by
  refine callsD_of_wpS Tryz.func44 rfl fun c₀ cs hu => ?_
  apply wpS_region
  simp [wpOpsS, go_sem, recoverD, hu, Tryz.ntmps44]
  refine (refusal_fault v w).mono ?_
  rintro e w' ⟨rfl, rfl⟩
  simp [go_sem, hc, hz, bodyPostS, results, Tryz.results44]
set_option maxHeartbeats 1000000 in
theorem catch_idle_Moves (p : Addr) (x : Value) (w : World) (hc : w.cell? p = some x) (hz : w.frozen? p = false) :
    CallsD Tryz.prog 44 #[.pointer (some p)] .returning w fun e u' w' => e = .returned (.tuple #[]) ∧ u' = .returning ∧ w' = w.setCell p .nilIface := by
  refine callsD_of_wpS Tryz.func44 rfl fun c₀ cs hu => ?_
  apply wpS_region
  simp [wpOpsS, go_sem, recoverD, hu, Tryz.ntmps44]
  refine (refusal_nil w).mono ?_
  rintro e w' ⟨rfl, rfl⟩
  simp [go_sem, hc, hz, bodyPostS, results, Tryz.results44]
  cases c₀
  simp only at hu
  subst hu
  rfl
set_option maxHeartbeats 1000000 in
theorem end_ok {w : World} {rb tb : Nat} {t : Tok} {r : List Tok} (h : RdAt w rb tb (t :: r)) (hk : t.kind = 13) :
    Calls Tryz.prog 24 #[.pointer (some ⟨rb, 0, none⟩)] w fun e w' => e = .returned (.tuple #[]) ∧ Kept (fun i => i = rb) w w' := by
  have c := take1_ok h 13 (by omega)
  clear h hk
  go_enter Tryz.func24, Tryz.ntmps24
  go_wp2_with (first | (go_at_call 52; refine c.mono ?_; rintro e w' ⟨rfl, h1, h2⟩))
  go_end0
  exact ⟨rfl, h2⟩
set_option maxHeartbeats 1000000 in
theorem end_bad {w : World} {rb tb : Nat} {t : Tok} {r : List Tok} (h : RdAt w rb tb (t :: r)) (hk : ¬ t.kind = 13) :
    Calls Tryz.prog 24 #[.pointer (some ⟨rb, 0, none⟩)] w fun e w' => GaveUp w.heap.size w' e 41 t.at' ∧ Same0 w w' := by
  have c := take1_bad h 13 (by omega)
  clear h hk
  go_enter Tryz.func24, Tryz.ntmps24
  go_wp2_with (first | (go_at_call 52; refine c.mono ?_; rintro e w' ⟨⟨b, rfl, k1, k2⟩, k3⟩))
  exact ⟨rfl, ⟨b, rfl, k1, k2⟩, k3⟩
/-- An error that the faces tell: a Fault of that number at that place. -/
def ErrAt (base : Nat) (w : World) (er : Value) (cp : Nat × Nat) : Prop := FaultAt base w er cp.1 cp.2
theorem errvar {w wc : World} {S : Nat → Prop} (hk : Kept S (w.alloc (.cells #[.nilIface] 26)) wc) (hs : ¬ S w.heap.size) :
    wc.cell? ⟨w.heap.size, 0, none⟩ = some .nilIface ∧ wc.frozen? ⟨w.heap.size, 0, none⟩ = false ∧ w.heap.size < wc.heap.size := by
  have h := hk.at (heap_alloc_new w _) hs
  have c := cellAt h 0
  simp only [List.getElem?_toArray, List.getElem?_cons_zero] at c
  exact ⟨c, frozenAt h 0, lt_of_at h⟩
theorem setErr {w wc : World} (k : Same0 w wc) (x : Value) : Same0 w (wc.setCell ⟨w.heap.size, 0, none⟩ x) := Kept.setCell (p := ⟨w.heap.size, 0, none⟩) k (fun h => absurd h (Nat.lt_irrefl _)) x
theorem setTwice {w : World} {p : Addr} {x : Value} (y : Value) (h : w.cell? p = some x) (hz : w.frozen? p = false) : (w.setCell p y).cell? p = some y ∧ (w.setCell p y).frozen? p = false := by
  constructor
  · simp [go_sem, h]
  · simp [go_sem, hz]
theorem fault_set {w w2 : World} {b c p : Nat} {x : Value} (h : w2.heap[b]? = some (.cells #[.int .i64 (c : Int), .int .i64 (p : Int), .nilIface] 86 (0, 0))) (hb : w.heap.size < b) : ErrAt w.heap.size (w2.setCell ⟨w.heap.size, 0, none⟩ x) (.iface 83 (.pointer (some ⟨b, 0, none⟩))) (c, p) :=
  ⟨b, rfl, by omega, Kept.at (Kept.setCell (p := ⟨w.heap.size, 0, none⟩) (Kept.refl (fun i => i = w.heap.size) w2) (fun _ => rfl) x) h (by omega)⟩
theorem own_below {w w2 : World} {rb : Nat} (k : Kept (fun i => i = rb) (w.alloc (.cells #[.nilIface] 26)) w2) (hr : (w.alloc (.cells #[.nilIface] 26)).heap.size ≤ rb) : Same0 w w2 := by
  have := (Kept.alloc (Kept.refl (fun i => i = rb) w) (.cells #[.nilIface] 26)).trans k (fun _ _ e => e)
  exact Kept.mono this (fun i hi e => by simp only [World.size_alloc] at hr; omega)
end Go.Proofs.YtbjfpfnfbgncnaaGreatDoor
