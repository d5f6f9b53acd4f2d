/- Copied of the document's layer 11; rows of numbers, and their last. -/
import Derived.Test.YtikcocjbbbdmgaaArgInts
import Derived.Test.YtikcocjbbbdmgaaCodeMore
namespace Go.Proofs.Ytikcocjbbbdmgaa
set_option maxRecDepth 100000
set_option linter.unusedVariables false
open Go.RowKit
attribute [local go_sem ↓] Go.wp_at_zero Go.wp_at_succ
theorem Row.argS {base : Nat} {w : World} {v : Value} {xs : List Int} (h : Row base w v xs) (hl : xs.length * 8 ≤ 140737488351232) : ∃ ao ac, v = .slice ao xs.length ac ∧ ArgT w ao xs ac ∧ ∀ a, ao = some a → base ≤ a.block := by
  obtain ⟨ao, ac, e, h1, h2, h3⟩ := h.ints
  rcases h.2 with ⟨e2, h0⟩ | ⟨g, cap, cur, e2, hb, hg, hle, _⟩
  · rw [e] at e2
    simp only [Value.slice.injEq] at e2
    obtain ⟨rfl, _, rfl⟩ := e2
    exact ⟨none, 0, e, ⟨⟨h1, by omega, fun _ => ⟨h0, rfl⟩, by omega⟩, fun a e => by cases e⟩, fun a e => by cases e⟩
  · rw [e] at e2
    simp only [Value.slice.injEq] at e2
    obtain ⟨rfl, _, rfl⟩ := e2
    exact ⟨_, ac, e, ⟨⟨h1, hle, (fun e => by cases e), by omega⟩, fun a e => by cases e; exact ⟨cur, hg⟩⟩, fun a e => by cases e; exact hb⟩
/-- A list of addresses in new memory. -/
theorem rcopied_any {w : World} {ao : Option Addr} {cap : Nat} {xs : List Int} (hx : Arg w ao xs cap) :
    Calls Try.prog 44 #[.slice ao xs.length cap] w fun e w' => ∃ bo bc, e = .returned (.slice bo xs.length bc) ∧ ArgT w' bo xs bc ∧ (∀ a, bo = some a → w.heap.size ≤ a.block) ∧ Same0 w w' := by
  have k0 : Same0 w (w.alloc (.cells #[] 3)) := (Kept.refl _ w).alloc _
  have r0 : Row w.heap.size (w.alloc (.cells #[] 3)) (.slice (some ⟨w.heap.size, 0, none⟩) 0 0) [] := row_empty w _ (Nat.le_refl _) rfl
  have cI := hx.at'.same k0
  have hn := hx.nil
  have hs : Hid (xs.length * 8 ≤ 140737488351232) := hx.size
  have z0 := k0.size
  clear hx
  go_enter Try.func44, Try.ntmps44
  go_wp2_with (first | (at_builtin; refine wpList_more9 rfl _ _ 28 rfl Try.underlying28 w.heap.size [] _ rfl r0 xs _ _ _ rfl rfl cI hn z0 (by have := hs.out; simp; omega) ?_; intro v' w4 hr4 hk4))
  go_ret
  obtain ⟨bo, bc, rfl, h1, h2⟩ := Row.argS (by simpa using hr4) hs.out
  exact ⟨bo, bc, rfl, h1, h2, k0.onto r0 hk4⟩
/-- The last of a row of numbers, and the row without it. -/
theorem Row.last {base : Nat} {w : World} {vo : Option Addr} {vc : Nat} {T : List Int} {z : Int} (h : Row base w (.slice vo (T.length + 1) vc) (T ++ [z])) :
    ∃ g, vo = some ⟨g, 0, none⟩ ∧ base ≤ g ∧ w.cell? ⟨g, T.length, none⟩ = some (.int .i64 z) ∧ Row base w (.slice (some ⟨g, 0, none⟩) T.length vc) T ∧ T.length + 1 ≤ vc := by
  have hi := h.ints
  obtain ⟨ao, ac, e, h1, h2, h3⟩ := hi
  simp only [Value.slice.injEq] at e
  obtain ⟨rfl, _, rfl⟩ := e
  obtain ⟨b, off, e1, hlt, hc⟩ := h1.get (i := T.length) (by simp)
  subst e1
  unfold Row at h
  rcases h.2 with ⟨e2, h0⟩ | ⟨g, cap, cur, e2, hb, hg, hle, hm, hsz, ht⟩
  · cases e2
  · simp only [Value.slice.injEq, Option.some.injEq, Addr.mk.injEq, and_true] at e2
    obtain ⟨⟨rfl, rfl⟩, e3, rfl⟩ := e2
    refine ⟨b, rfl, hb, by simpa using hc, ?_, by simpa using hle⟩
    unfold Row
    refine ⟨by simp [iv_length], .inr ⟨b, vc, cur, rfl, hb, hg, by simp at hle; omega, hm, hsz, ?_⟩⟩
    have := congrArg (List.take T.length) ht
    rw [List.take_take] at this
    simp [iv] at this
    simpa [iv, Nat.min_eq_left (Nat.le_succ _)] using this
set_option maxHeartbeats 1000000 in
theorem rcopied_row {w : World} {ao : Option Addr} {cap : Nat} {xs : List Int} (hx : Arg w ao xs cap) :
    Calls Try.prog 44 #[.slice ao xs.length cap] w fun e w' => ∃ v, e = .returned v ∧ Row w.heap.size w' v xs ∧ Same0 w w' := by
  have k0 : Same0 w (w.alloc (.cells #[] 3)) := (Kept.refl _ w).alloc _
  have r0 : Row w.heap.size (w.alloc (.cells #[] 3)) (.slice (some ⟨w.heap.size, 0, none⟩) 0 0) [] := row_empty w _ (Nat.le_refl _) rfl
  have cI := hx.at'.same k0
  have hn := hx.nil
  have hs : Hid (xs.length * 8 ≤ 140737488351232) := hx.size
  have z0 := k0.size
  clear hx
  go_enter Try.func44, Try.ntmps44
  go_wp2_with (first | (at_builtin; refine wpList_more9 rfl _ _ 28 rfl Try.underlying28 w.heap.size [] _ rfl r0 xs _ _ _ rfl rfl cI hn z0 (by have := hs.out; simp; omega) ?_; intro v' w4 hr4 hk4))
  go_ret
  exact ⟨_, rfl, by simpa using hr4, k0.onto r0 hk4⟩
end Go.Proofs.Ytikcocjbbbdmgaa
