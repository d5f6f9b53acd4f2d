/- Proved here: the tied card of SystemWraps. -/
import Derived.Test.YtmjgnfkbnofjoaaGreatDoorRows
import Derived.Test.YtmjgnfkbnofjoaaGreatDoorSWF
import Derived.Test.YtmjgnfkbnofjoaaGreatDoorSW01
import Derived.Test.YtmjgnfkbnofjoaaGreatDoorSW27
import Derived.WalkKit
import Derived.ProofKit
import Derived.OpenShut
import Derived.ShutString
import Derived.ChangeOld
import Derived.Below
import Derived.SizedLaws
import Derived.Test.YtmjgnfkbnofjoaaGreatDoorCards
import Derived.Test.YtmjgnfkbnofjoaaGreatDoorTie
import Derived.SevenTiedAt
namespace Go.Proofs.YtmjgnfkbnofjoaaGreatDoor.systemWraps
open Go.ChangeShapes Go.WideShapes Go.ChangeAt Go.RowKit
open Go.ChangeMaps (open_string shut_string)
set_option linter.unusedVariables false
theorem own : ownKnob Tryz.prog.godebug = none := by kernel_rfl
theorem laidOut : laidOutB Tryz.prog = true := by kernel_rfl
set_option maxRecDepth 100000 in
theorem lifted (os : Os) (started : os.Started) (H : Type) (enc : TypeId × Value → H) :
    ReturnsInHanded {} Tryz.checked os 5 .any (fun w args => (Rows.systemWrapsSpec.pre enc Tryz.prog Tryz.f5 [] false w args ∧ laidMetH Tryz.prog Rows.systemWrapsRow.laid w) ∧ sizedMet enc Tryz.prog Tryz.f5 (OpenSpec.ofChange Rows.systemWrapsSpec) false w args)
      (Rows.systemWrapsSpec.post enc Tryz.prog Tryz.f5 false true false false) := by
  refine returnsInHanded_of_change_and (C := Tryz.checked) (X := fun w _ => laidMetH Tryz.prog Rows.systemWrapsRow.laid w) (fun _ _ _ hh h => h.of_heap hh) own started (by kernel_rfl) Tryz.func5
    (ChangeSpec.witness_shaped (enc := enc) (C := Tryz.checked) (os := os) (X := fun w _ => laidMetH Tryz.prog Rows.systemWrapsRow.laid w) false (World.doorLaid Tryz.prog 400 os) #[.slice none 0 0, .slice none 0 0, .slice none 0 0] 8 rfl (World.shaped_of_RefB (by kernel_rfl) (by kernel_rfl)) (by kernel_rfl) (by kernel_rfl) (by kernel_rfl) (door_met10 os _)) ?_
  intro W base args ds gs before hval0 hW _ hsz0 hL _
  have hval : ∀ (j : Nat) t v, Tryz.f5.params[j]? = some t → args[j]? = some v → Value.okWide Tryz.prog W .any base t v := hval0
  have hW' := hW
  obtain ⟨p, q, hA0, hV, rfl, hfz, hnd⟩ := hW
  have hA : DataW.TrodAll enc Tryz.prog W 0 (fun _ => true) true Tryz.f5.params.toList args.toList ds p := hA0
  rw [Tryz.params5] at hA hval
  obtain ⟨v0, vs0, d0, ds0, p0, q0, hargs, rfl, rfl, h0, r0⟩ := trodAll_cons hA
  obtain ⟨v1, vs1, d1, ds1, p1, q1, rfl, rfl, rfl, h1, r1⟩ := trodAll_cons r0
  obtain ⟨v2, vs2, d2, ds2, p2, q2, rfl, rfl, rfl, h2, r2⟩ := trodAll_cons r1
  obtain ⟨rfl, rfl, rfl⟩ := trodAll_nil r2
  obtain rfl : args = #[v0, v1, v2] := by cases args; simp_all
  obtain ⟨rfl, rfl⟩ := trodVars_none hV
  have k0 := h0
  have lt0 : ∀ x ∈ p0, x.block < W.heap.size := by obtain ⟨m, hm⟩ := k0; exact DataW.trod_lt m _ _ _ hm
  have k1 := h1
  have lt1 : ∀ x ∈ p1, x.block < W.heap.size := by obtain ⟨m, hm⟩ := k1; exact DataW.trod_lt m _ _ _ hm
  have k2 := h2
  have lt2 : ∀ x ∈ p2, x.block < W.heap.size := by obtain ⟨m, hm⟩ := k2; exact DataW.trod_lt m _ _ _ hm
  have hsz : (DataW.weightsEach Tryz.prog (Tryz.f5.params.toList ++ Rows.systemWrapsSpec.plain.varTypes Tryz.prog) (_ ++ _)).all (· ≤ reachBytes) = true := hsz0
  rw [Tryz.params5] at hsz
  obtain ⟨ao, len, cap, rfl⟩ := okWide_slice Tryz.underlying28 (hval 0 28 v0 rfl rfl)
  obtain ⟨xs, hx, hm⟩ : ∃ xs, SymsAt W ao len xs ∧ len ≤ maxLen := by obtain ⟨fuel, hf⟩ := h0; exact open_syms (by simpa [Value.cells] using hf)
  obtain rfl : xs.length = len := by first | exact hx.1 | exact hx.1.symm
  have hw1 : ∀ n ∈ d1.weights Tryz.prog 29, n ≤ reachBytes := fun n hn => by have := List.all_eq_true.1 hsz n (DataW.weights_mem_each (j := 1) rfl rfl n hn); simpa using this
  obtain ⟨po, pl, pc, rfl⟩ := okWide_slice Tryz.underlying29 (hval 1 29 v1 rfl rfl)
  have hnilp : po = none → pc = 0 := by obtain ⟨fuel, hf⟩ := h1; exact rules_nil (by simpa [Value.cells] using hf) hw1
  obtain ⟨p, rfl, hp⟩ : ∃ l : List Ru, l.length = pl ∧ ArgR W po l pc := by obtain ⟨fuel, hf⟩ := h1; exact open_rules (by simpa [Value.cells] using hf) hw1
  have hw2 : ∀ n ∈ d2.weights Tryz.prog 29, n ≤ reachBytes := fun n hn => by have := List.all_eq_true.1 hsz n (DataW.weights_mem_each (j := 2) rfl rfl n hn); simpa using this
  obtain ⟨ro, rl, rc, rfl⟩ := okWide_slice Tryz.underlying29 (hval 2 29 v2 rfl rfl)
  have hnilr : ro = none → rc = 0 := by obtain ⟨fuel, hf⟩ := h2; exact rules_nil (by simpa [Value.cells] using hf) hw2
  obtain ⟨r, rfl, hr⟩ : ∃ l : List Ru, l.length = rl ∧ ArgR W ro l rc := by obtain ⟨fuel, hf⟩ := h2; exact open_rules (by simpa [Value.cells] using hf) hw2
  clear hA0 hval0
  have HET : ErrT W := errT_of_laid hL
  refine (wraps10_walk HET (fun h h2 d => is_any3 h h2 d) hx hm hp hnilp hr hnilr).mono fun e W' ⟨he, bel⟩ => ?_
  subst he
  exact ⟨_, rfl, _, _, _, [], _, [], hW', trodAll_mk1 (shut_bool Tryz.underlying4 _), (trodAll_cons_mk (Below.trod laidOut (by kernel_rfl) (of_decide_eq_true (by kernel_rfl)) k0 bel lt0) (trodAll_cons_mk (Below.trod laidOut (by kernel_rfl) (of_decide_eq_true (by kernel_rfl)) k1 bel lt1) (trodAll_cons_mk (Below.trod laidOut (by kernel_rfl) (of_decide_eq_true (by kernel_rfl)) k2 bel lt2) trodAll_mk0))), rfl, bel.frame _, fun h => by cases h⟩
theorem over : Rows.systemWrapsRow.holds Tryz.pinned (OpenSpec.ofChange Rows.systemWrapsSpec) :=
  OpenClaim.holds_of_wide 5 Tryz.f5 rfl rfl rfl rfl rfl rfl rfl ⟨rfl, rfl, rfl, rfl, rfl⟩ rfl rfl rfl rfl rfl (by as_aux_lemma => kernel_rfl) Tryz.func5 facts
    (of_decide_eq_true (by as_aux_lemma => kernel_rfl)) (by unfold Func.isWrapper; first | (rw [if_pos (by decide +kernel)]; kernel_rfl) | (rw [if_neg (by decide +kernel)]; exact ⟨rfl, rfl⟩))
    (fun os started H enc _ => lifted os started H enc)
theorem proved : Rows.SystemWrapsSaid := over
end Go.Proofs.YtmjgnfkbnofjoaaGreatDoor.systemWraps
namespace Go.Proofs.YtmjgnfkbnofjoaaGreatDoor
open Go
set_option maxRecDepth 100000
theorem SystemWrapsCard_holds : Rows.SystemWrapsCardSaid :=
  Claim7.holds_tied_plain_at .later [] [.handle] true (true, "8c9a0194de6bfb953d859ea1ef5e2cae68f8e074f2279c11b9ecc5677b6b4d49") true
    systemWraps.over (fun _ h => by cases h) (by as_aux_lemma => kernel_rfl) (fun _ h => by cases h) systemWraps_row_tie rfl ⟨rfl, rfl⟩ (by as_aux_lemma => kernel_rfl) rfl
    (fun f fn hf hfn => by
      obtain rfl : f = 5 := Option.some.inj ((show Tryz.prog.funcNamed Rows.systemWrapsRow.func = some 5 by as_aux_lemma => kernel_rfl).symm.trans hf) |>.symm
      obtain rfl : fn = Tryz.f5 := (Option.some.inj (Tryz.func5.symm.trans hfn)).symm
      exact ⟨by as_aux_lemma => kernel_rfl, fun j t ht => by
        rw [Tryz.params5] at ht
        match j, ht with
        | 0, e => cases e; exact (show Tryz.prog.wantsStandIn 28 = false by as_aux_lemma => kernel_rfl)
        | 1, e => cases e; exact (show Tryz.prog.wantsStandIn 29 = false by as_aux_lemma => kernel_rfl)
        | 2, e => cases e; exact (show Tryz.prog.wantsStandIn 29 = false by as_aux_lemma => kernel_rfl)
        | j + 3, e => simp at e⟩)
    (by as_aux_lemma => kernel_rfl)
#print axioms SystemWrapsCard_holds
end Go.Proofs.YtmjgnfkbnofjoaaGreatDoor
