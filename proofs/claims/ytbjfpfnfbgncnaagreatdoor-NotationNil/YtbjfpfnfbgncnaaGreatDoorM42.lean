import Derived.Test.YtbjfpfnfbgncnaaGreatDoorM37
import Derived.Test.YtbjfpfnfbgncnaaGreatDoorRows
import Derived.Test.YtbjfpfnfbgncnaaGreatDoorM38
import Derived.WalkKit
import Derived.ProofKit
import Derived.OpenShut
import Derived.ShutString
import Derived.ChangeOld
import Derived.Below
import Derived.Test.YtbjfpfnfbgncnaaGreatDoorCards
import Derived.Test.YtbjfpfnfbgncnaaGreatDoorTie
import Derived.SevenTiedAt
/- Without a signature: the faces of package notation, and the walk of NotationNil. -/
namespace Go.Proofs.YtbjfpfnfbgncnaaGreatDoor
open Go.RowKit
set_option linter.unusedVariables false
set_option maxRecDepth 100000
set_option maxHeartbeats 2000000 in
theorem nTerm_nil (s : ByteArray) (w : World) : Calls Tryz.prog 6 #[.pointer none, .string s] w fun e w' => ∃ er, e = .returned (.tuple #[.slice none 0 0, er]) ∧ FaultAt w.heap.size w' er 1 0 ∧ Same0 w w' := by
  have ka : Same0 w (w.alloc (.cells #[.nilIface] 26)) := Kept.alloc (Kept.refl _ _) _
  have c1 := demand_none (w.alloc (.cells #[.nilIface] 26))
  go_enter_defers Tryz.func6, Tryz.ntmps6
  go_wp2_with (first | (go_at_call 21; refine c1.mono ?_; rintro e w1 ⟨⟨b, rfl, hb, k1⟩, k2⟩))
  obtain ⟨v1, v2, v3⟩ := errvar k2 (fun f => f)
  have hb' : w.heap.size < b := by simp only [World.size_alloc] at hb; omega
  refine leaves_cons (f := 19) (args := #[.pointer (some ⟨w.heap.size, 0, none⟩)]) (by simp) (by simp [go_sem]) ?_
  refine (catch_fault_Term ⟨w.heap.size, 0, none⟩ .nilIface _ _ v1 v2).mono ?_
  rintro e u' w'' ⟨rfl, rfl, rfl⟩
  simp [Leaves, settle, results, Tryz.results6, go_sem, v1]
  exact ⟨fault_set k1 hb', setErr (ka.trans' k2) _⟩
set_option maxHeartbeats 2000000 in
theorem nRules_nil (s : ByteArray) (w : World) : Calls Tryz.prog 7 #[.pointer none, .string s] w fun e w' => ∃ er, e = .returned (.tuple #[.slice none 0 0, er]) ∧ FaultAt w.heap.size w' er 1 0 ∧ Same0 w w' := by
  have ka : Same0 w (w.alloc (.cells #[.nilIface] 26)) := Kept.alloc (Kept.refl _ _) _
  have c1 := demand_none (w.alloc (.cells #[.nilIface] 26))
  go_enter_defers Tryz.func7, Tryz.ntmps7
  go_wp2_with (first | (go_at_call 21; refine c1.mono ?_; rintro e w1 ⟨⟨b, rfl, hb, k1⟩, k2⟩))
  obtain ⟨v1, v2, v3⟩ := errvar k2 (fun f => f)
  have hb' : w.heap.size < b := by simp only [World.size_alloc] at hb; omega
  refine leaves_cons (f := 28) (args := #[.pointer (some ⟨w.heap.size, 0, none⟩)]) (by simp) (by simp [go_sem]) ?_
  refine (catch_fault_Rules ⟨w.heap.size, 0, none⟩ .nilIface _ _ v1 v2).mono ?_
  rintro e u' w'' ⟨rfl, rfl, rfl⟩
  simp [Leaves, settle, results, Tryz.results7, go_sem, v1]
  exact ⟨fault_set k1 hb', setErr (ka.trans' k2) _⟩
set_option maxHeartbeats 1000000 in
theorem pTerm_nil (ao : Option Addr) (len cap : Nat) (w : World) : Calls Tryz.prog 8 #[.pointer none, .slice ao len cap] w fun e w' => e = .returned (.tuple #[.string ⟨#[]⟩, .int .i64 1]) ∧ w' = w := by
  go_enter Tryz.func8, Tryz.ntmps8
  go_wp2_with (first | (go_at_call 31; refine (check_nil _ _ _ _).mono ?_; rintro e w' ⟨rfl, rfl⟩))
  go_ret2
  exact ⟨rfl, rfl⟩
set_option maxHeartbeats 1000000 in
theorem pRules_nil (ao : Option Addr) (len cap : Nat) (w : World) : Calls Tryz.prog 9 #[.pointer none, .slice ao len cap] w fun e w' => e = .returned (.tuple #[.string ⟨#[]⟩, .int .i64 1]) ∧ w' = w := by
  go_enter Tryz.func9, Tryz.ntmps9
  go_wp2_with fail
  go_ret2
  exact ⟨rfl, rfl⟩
set_option maxHeartbeats 4000000 in
theorem nnil_walk (s : ByteArray) (ao : Option Addr) (len cap : Nat) (w : World) : Calls Tryz.prog 4 #[.string s, .slice ao len cap] w fun e w' => e = .returned (.bool true) ∧ Below w.heap.size w w' := by
  go_enter Tryz.func4, Tryz.ntmps4
  go_wp2_with (first | (go_at_call 5; refine (awake4_any _).mono ?_; rintro e w1 ⟨rfl, k1⟩) | (go_at_call 6; refine (nTerm_nil _ _).mono ?_; rintro e w2 ⟨e1, rfl, h2, k2⟩) | (go_at_call 7; refine (nRules_nil _ _).mono ?_; rintro e w3 ⟨e2, rfl, h3, k3⟩) | (go_at_call 8; refine (pTerm_nil _ _ _ _).mono ?_; rintro e w' ⟨rfl, hw'⟩; obtain rfl : w3 = w' := hw'.symm) | (go_at_call 9; refine (pRules_nil _ _ _ _).mono ?_; rintro e w' ⟨rfl, hw'⟩; obtain rfl := hw'.symm))
  have kX : Same0 w3 (w3.alloc (.cells #[.slice ao len cap, .slice ao len cap] 37)) := (Kept.refl _ _).alloc _
  have kY : Same0 (w3.alloc (.cells #[.slice ao len cap, .slice ao len cap] 37)) ((w3.alloc (.cells #[.slice ao len cap, .slice ao len cap] 37)).alloc (.cells #[.int .i64 1, .int .i64 0] 39)) := (Kept.refl _ _).alloc _
  have hW : WrongAt ((w3.alloc (.cells #[.slice ao len cap, .slice ao len cap] 37)).alloc (.cells #[.int .i64 1, .int .i64 0] 39)) (.slice (some ⟨w3.heap.size + 1, 0, none⟩) 1 1) ((1 : Nat) : Int) ((0 : Nat) : Int) := ⟨_, rfl, by have := heap_alloc_new (w3.alloc (.cells #[.slice ao len cap, .slice ao len cap] 37)) (.cells #[.int .i64 1, .int .i64 0] 39 (0, 0)); rw [World.size_alloc] at this; exact this⟩
  have f2 := (h2.same k3).same (kX.trans' kY)
  have f3 := h3.same (kX.trans' kY)
  have K3 : Same0 w ((w3.alloc (.cells #[.slice ao len cap, .slice ao len cap] 37)).alloc (.cells #[.int .i64 1, .int .i64 0] 39)) := (((k1.trans' k2).trans' k3).trans' kX).trans' kY
  clear kX kY h2 h3 k1 k2 k3
  refine (same_fault f2 hW).mono ?_
  rintro e w4 ⟨rfl, k4⟩
  go_wp2_with fail
  refine (same_fault (f3.same k4) (hW.same k4)).mono ?_
  rintro e w5 ⟨rfl, k5⟩
  have K5 := K3.trans' (k4.trans' k5)
  have hn : nameB ⟨#[]⟩ = false := by decide
  clear f2 f3 hW k4 k5 K3
  go_wp2_with (first | (go_at_call 11; refine (rIsName_any _ _ (by decide)).mono ?_; rintro e w' ⟨rfl, hw'⟩; obtain rfl : w5 = w' := hw'.symm))
  go_ret
  exact ⟨rfl, K5.below⟩
end Go.Proofs.YtbjfpfnfbgncnaaGreatDoor
/- Proved here: NotationNil answers true for every text and list, and turns nothing that was there; no condition but the laid variables (tied). -/
namespace Go.Proofs.YtbjfpfnfbgncnaaGreatDoor.notationNil
open Go.ChangeShapes Go.WideShapes Go.ChangeAt Go.RowKit
open Go.ChangeMaps (open_string shut_string)
set_option linter.unusedVariables false
theorem own : ownKnob Tryz.prog.godebug = none := by kernel_rfl
theorem laidOut : laidOutB Tryz.prog = true := by kernel_rfl
set_option maxRecDepth 100000 in
theorem lifted (os : Os) (started : os.Started) (H : Type) (enc : TypeId × Value → H) :
    ReturnsInHanded {} Tryz.checked os 4 .any (fun w args => (Rows.notationNilSpec.pre enc Tryz.prog Tryz.f4 [] false w args ∧ laidMetH Tryz.prog Rows.notationNilRow.laid w) ∧ sizedMet enc Tryz.prog Tryz.f4 (OpenSpec.ofChange Rows.notationNilSpec) false w args)
      (Rows.notationNilSpec.post enc Tryz.prog Tryz.f4 false true false false) := by
  refine returnsInHanded_of_change_and (C := Tryz.checked) (X := fun w _ => laidMetH Tryz.prog Rows.notationNilRow.laid w) (fun _ _ _ hh h => h.of_heap hh) own started (by kernel_rfl) Tryz.func4
    (ChangeSpec.witness_shaped (enc := enc) (C := Tryz.checked) (os := os) (X := fun w _ => laidMetH Tryz.prog Rows.notationNilRow.laid w) false (World.doorLaid Tryz.prog 400 os) #[.string ByteArray.empty, .slice none 0 0] 8 rfl (World.shaped_of_RefB (by kernel_rfl) (by kernel_rfl)) (by kernel_rfl) (by kernel_rfl) (by kernel_rfl) (door_met os _)) ?_
  intro W base args ds gs before hval0 hW _ _ hL _
  have hval : ∀ (j : Nat) t v, Tryz.f4.params[j]? = some t → args[j]? = some v → Value.okWide Tryz.prog W .any base t v := hval0
  have hW' := hW
  obtain ⟨p, q, hA0, hV, rfl, hfz, hnd⟩ := hW
  have hA : DataW.TrodAll enc Tryz.prog W 0 (fun _ => true) true Tryz.f4.params.toList args.toList ds p := hA0
  rw [Tryz.params4] at hA hval
  obtain ⟨v0, vs0, d0, ds0, p0, q0, hargs, rfl, rfl, h0, r0⟩ := trodAll_cons hA
  obtain ⟨v1, vs1, d1, ds1, p1, q1, rfl, rfl, rfl, h1, r1⟩ := trodAll_cons r0
  obtain ⟨rfl, rfl, rfl⟩ := trodAll_nil r1
  obtain rfl : args = #[v0, v1] := by cases args; simp_all
  obtain ⟨rfl, rfl⟩ := trodVars_none hV
  have k0 := h0
  have lt0 : ∀ x ∈ p0, x.block < W.heap.size := by obtain ⟨m, hm⟩ := k0; exact DataW.trod_lt m _ _ _ hm
  have k1 := h1
  have lt1 : ∀ x ∈ p1, x.block < W.heap.size := by obtain ⟨m, hm⟩ := k1; exact DataW.trod_lt m _ _ _ hm
  obtain ⟨a0, rfl, rfl, rfl, w0⟩ := open_string Tryz.underlying9 (hval 0 9 v0 rfl rfl) h0
  obtain ⟨ao, len, cap, rfl⟩ := okWide_slice Tryz.underlying24 (hval 1 24 v1 rfl rfl)
  clear hA0 hval0
  refine (nnil_walk a0 ao len cap W).mono fun e W' ⟨he, bel⟩ => ?_
  subst he
  exact ⟨_, rfl, _, _, _, [], _, [], hW', trodAll_mk1 (shut_bool Tryz.underlying4 _), (trodAll_cons_mk (Below.trod laidOut (by kernel_rfl) (of_decide_eq_true (by kernel_rfl)) k0 bel lt0) (trodAll_cons_mk (Below.trod laidOut (by kernel_rfl) (of_decide_eq_true (by kernel_rfl)) k1 bel lt1) trodAll_mk0)), rfl, bel.frame _, fun h => by cases h⟩
theorem over : Rows.notationNilRow.holds Tryz.pinned (OpenSpec.ofChange Rows.notationNilSpec) :=
  OpenClaim.holds_of_wide 4 Tryz.f4 rfl rfl rfl rfl rfl rfl rfl ⟨rfl, rfl, rfl, rfl, rfl⟩ rfl rfl rfl rfl rfl (by kernel_rfl) Tryz.func4 (by kernel_rfl)
    (of_decide_eq_true (by kernel_rfl)) (by unfold Func.isWrapper; first | (rw [if_pos (by decide +kernel)]; kernel_rfl) | (rw [if_neg (by decide +kernel)]; exact ⟨rfl, rfl⟩))
    (fun os started H enc _ => lifted os started H enc)
theorem proved : Rows.NotationNilSaid := over
end Go.Proofs.YtbjfpfnfbgncnaaGreatDoor.notationNil
/- Proved here: the tied card of NotationNil. -/
namespace Go.Proofs.YtbjfpfnfbgncnaaGreatDoor
open Go
set_option maxRecDepth 100000
theorem NotationNilCard_holds : Rows.NotationNilCardSaid :=
  Claim7.holds_tied_plain_at .later [] [.data, .data, .data, .handle, .sentinel, .sentinel] true (true, "b3baded9328a066778e935fded9569f8077129f3a9843ab798e5522e209a6083") true
    notationNil.over (fun _ h => by cases h) (by kernel_rfl) (fun _ h => by cases h) notationNil_row_tie rfl ⟨rfl, rfl⟩ (by kernel_rfl) rfl
    (fun f fn hf hfn => by
      obtain rfl : f = 4 := Option.some.inj ((show Tryz.prog.funcNamed Rows.notationNilRow.func = some 4 by kernel_rfl).symm.trans hf) |>.symm
      obtain rfl : fn = Tryz.f4 := (Option.some.inj (Tryz.func4.symm.trans hfn)).symm
      exact ⟨by kernel_rfl, fun j t ht => by
        rw [Tryz.params4] at ht
        match j, ht with
        | 0, e => cases e; exact (show Tryz.prog.wantsStandIn 9 = false by kernel_rfl)
        | 1, e => cases e; exact (show Tryz.prog.wantsStandIn 24 = false by kernel_rfl)
        | j + 2, e => simp at e⟩)
    (by kernel_rfl)
#print axioms NotationNilCard_holds
end Go.Proofs.YtbjfpfnfbgncnaaGreatDoor
