/- The walk of the head of layer 2's statements: calls whose answers the document fixes. -/
import Derived.Test.YtikcocjbbbdmgaaMade
namespace Go.Proofs.Ytikcocjbbbdmgaa
set_option maxRecDepth 100000
set_option linter.unusedVariables false
open Go.RowKit
attribute [local go_sem ↓] Go.wp_at_zero Go.wp_at_succ
theorem ints_new (w : World) (xs : List Int) (T : TypeId) {o : Obj} (ho : o = .cells (iv xs).toArray T (0, 0)) : IntsAt (w.alloc o) (some ⟨w.heap.size, 0, none⟩) xs := by
  subst ho
  refine .inr ⟨_, _, rfl, by simp, fun i hi => ?_⟩
  rw [Nat.zero_add, cellAt (heap_alloc_new w _)]
  simpa using iv_get hi
theorem Row.ints {base : Nat} {w : World} {v : Value} {xs : List Int} (h : Row base w v xs) : ∃ ao cap, v = .slice ao xs.length cap ∧ IntsAt w ao xs ∧ xs.length ≤ cap ∧ (∀ a, ao = some a → base ≤ a.block ∧ a.block < w.heap.size) := by
  rcases h.2 with ⟨rfl, h0⟩ | ⟨g, cap, cur, rfl, hb, hg, h1, h2, h3, h4⟩
  · have : xs = [] := List.eq_nil_of_length_eq_zero h0
    subst this
    exact ⟨none, 0, rfl, .inl rfl, Nat.le_refl _, fun a e => by cases e⟩
  · refine ⟨_, cap, rfl, .inr ⟨g, 0, rfl, lt_of_at hg, fun i hi => ?_⟩, h1, fun a e => by cases e; exact ⟨hb, lt_of_at hg⟩⟩
    rw [Nat.zero_add, h.cellAt i (by omega)]
    exact iv_get hi
theorem Same0.new {w w' : World} {o : Obj} (h : Same0 (w.alloc o) w') : Same0 w w' := Same0.trans' ((Kept.refl _ w).alloc o) h
abbrev zS : Sym := ⟨⟨#[122]⟩, 0, false⟩
theorem nm_z : nameB ⟨#[122]⟩ = true := by decide +kernel
theorem madeL_awake : madeL [zS, aS, aAdd] = [zS, aS, aAdd] := by
  simp [madeL, addL, addErr, nm_z, nm_s, nm_add, findI]
abbrev L3 : List Sym := [zS, aS, aAdd]
theorem aw_end : endA L3 [2, 1, 0, -1] 1 = 3 ∧ placeE L3 [2, 1, 0, -1] 1 = 0 := by decide +kernel
theorem aw_put : putA L3 [2, 1, 0, -1] 1 [-5] = [2, -5, -1] ∧ putE L3 [2, 1, 0, -1] 1 [-5] = 0 := by decide +kernel
theorem aw_lead : leadA L3 [2, 1, 0, -1] [0, 0] = 2 ∧ leadE L3 [2, 1, 0, -1] [0, 0] = 0 := by decide +kernel
theorem aw_check : checkE L3 [2, 1, 0] = 23 := by decide +kernel
end Go.Proofs.Ytikcocjbbbdmgaa
