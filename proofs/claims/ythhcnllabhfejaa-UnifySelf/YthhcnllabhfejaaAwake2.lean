/- The walk of the head of layer 2's statements: calls whose answers the document fixes. -/
import Derived.Test.YthhcnllabhfejaaMade
namespace Go.Proofs.Ythhcnllabhfejaa
set_option maxRecDepth 100000
set_option linter.unusedVariables false
open Go.RowKit
attribute [local go_sem ↓] Go.wp_at_zero Go.wp_at_succ
theorem ints_new (w : World) (xs : List Int) (T : TypeId) {o : Obj} (ho : o = .cells (iv xs).toArray T (0, 0)) : IntsAt (w.alloc o) (some ⟨w.heap.size, 0, none⟩) xs := by
  subst ho
  refine .inr ⟨_, _, rfl, by simp, fun i hi => ?_⟩
  rw [Nat.zero_add, cellAt (heap_alloc_new w _)]
  simpa using iv_get hi
theorem Row.ints {base : Nat} {w : World} {v : Value} {xs : List Int} (h : Row base w v xs) : ∃ ao cap, v = .slice ao xs.length cap ∧ IntsAt w ao xs ∧ xs.length ≤ cap ∧ (∀ a, ao = some a → base ≤ a.block ∧ a.block < w.heap.size) := by
  rcases h.2 with ⟨rfl, h0⟩ | ⟨g, cap, cur, rfl, hb, hg, h1, h2, h3, h4⟩
  · have : xs = [] := List.eq_nil_of_length_eq_zero h0
    subst this
    exact ⟨none, 0, rfl, .inl rfl, Nat.le_refl _, fun a e => by cases e⟩
  · refine ⟨_, cap, rfl, .inr ⟨g, 0, rfl, lt_of_at hg, fun i hi => ?_⟩, h1, fun a e => by cases e; exact ⟨hb, lt_of_at hg⟩⟩
    rw [Nat.zero_add, h.cellAt i (by omega)]
    exact iv_get hi
theorem Same0.new {w w' : World} {o : Obj} (h : Same0 (w.alloc o) w') : Same0 w w' := Same0.trans' ((Kept.refl _ w).alloc o) h
abbrev zS : Sym := ⟨⟨#[122]⟩, 0, false⟩
theorem nm_z : nameB ⟨#[122]⟩ = true := by decide +kernel
theorem madeL_awake : madeL [zS, aS, aAdd] = [zS, aS, aAdd] := by
  simp [madeL, addL, addErr, nm_z, nm_s, nm_add, findI]
theorem syms_awake (w : World) : SymsAt (w.alloc (.cells #[.string ⟨#[122]⟩, .int .i64 0, .bool false, .string ⟨#[115]⟩, .int .i64 1, .bool false, .string ⟨#[97, 100, 100]⟩, .int .i64 2, .bool true] 48)) (some ⟨w.heap.size, 0, none⟩) 3 [zS, aS, aAdd] := by
  refine ⟨rfl, .inr ⟨_, _, rfl, by simp, fun i hi => ?_⟩, ?_⟩
  · have hi' : i < 3 := by simpa using hi
    rw [cellAt (heap_alloc_new w _), cellAt (heap_alloc_new w _), cellAt (heap_alloc_new w _)]
    match i, hi' with
    | 0, _ => exact ⟨rfl, rfl, rfl⟩
    | 1, _ => exact ⟨rfl, rfl, rfl⟩
    | 2, _ => exact ⟨rfl, rfl, rfl⟩
  · intro x hx
    simp at hx
    rcases hx with rfl | rfl | rfl <;> exact ⟨by decide +kernel, by decide +kernel⟩
abbrev L3 : List Sym := [zS, aS, aAdd]
theorem aw_end : endA L3 [2, 1, 0, -1] 1 = 3 ∧ placeE L3 [2, 1, 0, -1] 1 = 0 := by decide +kernel
theorem aw_put : putA L3 [2, 1, 0, -1] 1 [-5] = [2, -5, -1] ∧ putE L3 [2, 1, 0, -1] 1 [-5] = 0 := by decide +kernel
theorem aw_lead : leadA L3 [2, 1, 0, -1] [0, 0] = 2 ∧ leadE L3 [2, 1, 0, -1] [0, 0] = 0 := by decide +kernel
theorem aw_check : checkE L3 [2, 1, 0] = 23 := by decide +kernel
theorem aw2_same {w : World} {T : TypeId} {ao : Option Addr} {cap : Nat} (h : IntsAt w ao [2, -5, -1]) : Calls Try.prog 13 #[.slice ao 3 cap, .slice (some ⟨w.heap.size, 0, none⟩) 3 3] (w.alloc (.cells #[.int .i64 2, .int .i64 (-5), .int .i64 (-1)] T)) fun e w' => e = .returned (.bool true) ∧ Same0 (w.alloc (.cells #[.int .i64 2, .int .i64 (-5), .int .i64 (-1)] T)) w' := by
  have k : Same0 w (w.alloc (.cells #[.int .i64 2, .int .i64 (-5), .int .i64 (-1)] T)) := (Kept.refl _ w).alloc _
  have c := same_any (acap := cap) (bcap := 3) (h.same k) (ints_new w [2, -5, -1] T rfl) (by decide)
  exact c
theorem aw2_check {n b : Nat} {w : World} {T : TypeId} (h : Sg n w b L3) : Calls Try.prog 42 #[.pointer (some ⟨b, 0, none⟩), .slice (some ⟨w.heap.size, 0, none⟩) 3 3] (w.alloc (.cells #[.int .i64 2, .int .i64 1, .int .i64 0] T)) fun e w' => e = .returned (.int .i64 23) ∧ Same0 (w.alloc (.cells #[.int .i64 2, .int .i64 1, .int .i64 0] T)) w' := by
  have c := check_any (cap := 3) (h.same ((Kept.refl _ w).alloc _)) (ints_new w [2, 1, 0] T rfl) (by decide)
  rw [aw_check] at c
  exact c
end Go.Proofs.Ythhcnllabhfejaa
