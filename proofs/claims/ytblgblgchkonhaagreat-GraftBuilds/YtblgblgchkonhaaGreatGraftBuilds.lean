/- Proved here: GraftBuilds answers true for all lists of symbols, numbers, lists of nodes, right sides and tries, and turns nothing that was there; no condition. -/
import Derived.Test.YtblgblgchkonhaaGreatRows
import Derived.Test.YtblgblgchkonhaaGreatGB14
import Derived.Test.YtblgblgchkonhaaGreatGB12
import Derived.Test.YtblgblgchkonhaaGreatGB04
import Derived.Test.YtblgblgchkonhaaGreatGB02
import Derived.WalkKit
import Derived.ProofKit
import Derived.OpenShut
import Derived.ShutString
import Derived.ChangeOld
import Derived.Below
import Derived.SizedLaws
namespace Go.Proofs.YtblgblgchkonhaaGreat.graftBuilds
open Go.ChangeShapes Go.WideShapes Go.ChangeAt Go.RowKit
open Go.ChangeMaps (open_string shut_string)
set_option linter.unusedVariables false
theorem own : ownKnob Tryz.prog.godebug = none := by kernel_rfl
theorem laidOut : laidOutB Tryz.prog = true := by kernel_rfl
set_option maxRecDepth 100000 in
theorem lifted (os : Os) (started : os.Started) (H : Type) (enc : TypeId × Value → H) :
    ReturnsInHanded {} Tryz.checked os 4 .any (Rows.graftBuildsSpec.pre6 enc Tryz.prog Tryz.f4 Rows.graftBuildsRow.domain false) (Rows.graftBuildsSpec.post enc Tryz.prog Tryz.f4 false true false false) := by
  refine returnsInHanded_of_change_sized (C := Tryz.checked) own started (by kernel_rfl) Tryz.func4
    (ChangeSpec.witness6 (enc := enc) (C := Tryz.checked) false ⟨#[], #[.slice none 0 0, .int .i64 0, .slice none 0 0, .slice none 0 0, .slice none 0 0], []⟩ 8 (by kernel_rfl) (by kernel_rfl) (by kernel_rfl) (by kernel_rfl)) ?_
  intro W base args ds gs before hval0 hW hcnd hsz _
  have hval : ∀ (j : Nat) t v, Tryz.f4.params[j]? = some t → args[j]? = some v → Value.okWide Tryz.prog W .any base t v := hval0
  have hW' := hW
  obtain ⟨p, q, hA0, hV, rfl, hfz, hnd⟩ := hW
  have hA : DataW.TrodAll enc Tryz.prog W 0 (fun _ => true) true Tryz.f4.params.toList args.toList ds p := hA0
  rw [Tryz.params4] at hA hval
  have hsz : (DataW.weightsEach Tryz.prog (Tryz.f4.params.toList ++ Rows.graftBuildsSpec.plain.varTypes Tryz.prog) (ds ++ gs)).all (· ≤ reachBytes) = true := hsz
  rw [Tryz.params4] at hsz
  obtain ⟨v0, vs0, d0, ds0, p0, q0, hargs, rfl, rfl, h0, r0⟩ := trodAll_cons hA
  obtain ⟨v1, vs1, d1, ds1, p1, q1, rfl, rfl, rfl, h1, r1⟩ := trodAll_cons r0
  obtain ⟨v2, vs2, d2, ds2, p2, q2, rfl, rfl, rfl, h2, r2⟩ := trodAll_cons r1
  obtain ⟨v3, vs3, d3, ds3, p3, q3, rfl, rfl, rfl, h3, r3⟩ := trodAll_cons r2
  obtain ⟨v4, vs4, d4, ds4, p4, q4, rfl, rfl, rfl, h4, r4⟩ := trodAll_cons r3
  obtain ⟨rfl, rfl, rfl⟩ := trodAll_nil r4
  obtain rfl : args = #[v0, v1, v2, v3, v4] := by cases args; simp_all
  obtain ⟨rfl, rfl⟩ := trodVars_none hV
  have k0 := h0
  have lt0 : ∀ x ∈ p0, x.block < W.heap.size := by obtain ⟨m, hm⟩ := k0; exact DataW.trod_lt m _ _ _ hm
  have k1 := h1
  have lt1 : ∀ x ∈ p1, x.block < W.heap.size := by obtain ⟨m, hm⟩ := k1; exact DataW.trod_lt m _ _ _ hm
  have k2 := h2
  have lt2 : ∀ x ∈ p2, x.block < W.heap.size := by obtain ⟨m, hm⟩ := k2; exact DataW.trod_lt m _ _ _ hm
  have k3 := h3
  have lt3 : ∀ x ∈ p3, x.block < W.heap.size := by obtain ⟨m, hm⟩ := k3; exact DataW.trod_lt m _ _ _ hm
  have k4 := h4
  have lt4 : ∀ x ∈ p4, x.block < W.heap.size := by obtain ⟨m, hm⟩ := k4; exact DataW.trod_lt m _ _ _ hm
  obtain ⟨ao, len, cap, rfl⟩ := okWide_slice Tryz.underlying22 (hval 0 22 v0 rfl rfl)
  obtain ⟨xs, hx, hm⟩ : ∃ xs, SymsAt W ao len xs ∧ len ≤ maxLen := by obtain ⟨fuel, hf⟩ := h0; exact open_syms (by simpa [Value.cells] using hf)
  obtain ⟨a1, rfl, rfl, rfl, w1⟩ := open_int Tryz.underlying3 (hval 1 3 v1 rfl rfl) h1
  have hw2 : ∀ n ∈ d2.weights Tryz.prog 23, n ≤ reachBytes := fun n hn => by have := List.all_eq_true.1 hsz n (DataW.weights_mem_each (j := 2) rfl rfl n hn); simpa using this
  obtain ⟨lo, ll, lc, rfl⟩ := okWide_slice Tryz.underlying23 (hval 2 23 v2 rfl rfl)
  obtain ⟨l, rfl, l1, l2, -, -, l3⟩ : ∃ l : List Nd, l.length = ll ∧ NsW W lo l ∧ ll * 56 ≤ 140737488351232 ∧ ll ≤ lc ∧ (lo = none → ll = 0 ∧ lc = 0) ∧ ∀ y ∈ l, NdI y := by obtain ⟨fuel, hf⟩ := h2; exact open_nodes (by simpa [Value.cells] using hf) hw2
  have hw3 : ∀ n ∈ d3.weights Tryz.prog 53, n ≤ reachBytes := fun n hn => by have := List.all_eq_true.1 hsz n (DataW.weights_mem_each (j := 3) rfl rfl n hn); simpa using this
  obtain ⟨zzo, zzl, zzc, rfl⟩ := okWide_slice Tryz.underlying53 (hval 3 53 v3 rfl rfl)
  obtain ⟨zz, rfl, zz1, zz2⟩ : ∃ l : List (List (Int × List Int)), l.length = zzl ∧ RtS W zzo l ∧ zzl * 24 ≤ 140737488351232 := by obtain ⟨fuel, hf⟩ := h3; exact open_rightsS (by simpa [Value.cells] using hf) hw3
  have hw4 : ∀ n ∈ d4.weights Tryz.prog 54, n ≤ reachBytes := fun n hn => by have := List.all_eq_true.1 hsz n (DataW.weights_mem_each (j := 4) rfl rfl n hn); simpa using this
  obtain ⟨yyo, yyl, yyc, rfl⟩ := okWide_slice Tryz.underlying54 (hval 4 54 v4 rfl rfl)
  obtain ⟨yy, rfl, yy1, yy2⟩ : ∃ l : List (Int × Int), l.length = yyl ∧ TrAt W yyo l ∧ yyl ≤ maxLen := by obtain ⟨fuel, hf⟩ := h4; exact open_tries (by simpa [Value.cells] using hf) hw4
  clear hA0 hval0
  refine (gbuilds_walk (cap := cap) (lc := lc) (rc := zzc) (qc := yyc) hx hm a1 l1 l2 zz1 zz2 yy1 yy2).mono fun e W' ⟨he, bel⟩ => ?_
  subst he
  exact ⟨_, rfl, _, _, _, [], _, [], hW', trodAll_mk1 (shut_bool Tryz.underlying4 _), (trodAll_cons_mk (Below.trod laidOut (by kernel_rfl) (of_decide_eq_true (by kernel_rfl)) k0 bel lt0) (trodAll_cons_mk (Below.trod laidOut (by kernel_rfl) (of_decide_eq_true (by kernel_rfl)) k1 bel lt1) (trodAll_cons_mk (Below.trod laidOut (by kernel_rfl) (of_decide_eq_true (by kernel_rfl)) k2 bel lt2) (trodAll_cons_mk (Below.trod laidOut (by kernel_rfl) (of_decide_eq_true (by kernel_rfl)) k3 bel lt3) (trodAll_cons_mk (Below.trod laidOut (by kernel_rfl) (of_decide_eq_true (by kernel_rfl)) k4 bel lt4) trodAll_mk0))))), rfl, bel.frame _, fun h => by cases h⟩
theorem over : Rows.graftBuildsRow.holds Tryz.pinned (OpenSpec.ofChange Rows.graftBuildsSpec) :=
  OpenClaim.holds_of_wide 4 Tryz.f4 rfl rfl rfl rfl rfl rfl rfl ⟨rfl, rfl, rfl, rfl, rfl⟩ rfl rfl rfl rfl rfl (by kernel_rfl) Tryz.func4 (by kernel_rfl)
    (of_decide_eq_true (by kernel_rfl)) (by unfold Func.isWrapper; first | (rw [if_pos (by decide +kernel)]; kernel_rfl) | (rw [if_neg (by decide +kernel)]; exact ⟨rfl, rfl⟩))
    (fun os started H enc _ => lifted os started H enc)
theorem proved : Rows.GraftBuildsSaid := over
end Go.Proofs.YtblgblgchkonhaaGreat.graftBuilds
namespace Go.Proofs.YtblgblgchkonhaaGreat
theorem GraftBuilds_holds : Rows.GraftBuildsSaid := graftBuilds.proved
#print axioms GraftBuilds_holds
end Go.Proofs.YtblgblgchkonhaaGreat
