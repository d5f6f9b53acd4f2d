/- The walks of trail's pass and path, of Path and Depth of package term. -/
import Derived.Test.YthhcnllabhfejaaTermPlace
namespace Go.Proofs.Ythhcnllabhfejaa
set_option linter.unusedVariables false
open Go.RowKit
attribute [local go_sem ↓] Go.wp_at_zero Go.wp_at_succ
def turnCells (l : List (Nat × Nat)) : List Value := l.flatMap fun x => [.int .i64 (x.1 : Int), .int .i64 (x.2 : Int)]
theorem turnCells_length (l : List (Nat × Nat)) : (turnCells l).length = l.length * 2 := by
  induction l with
  | nil => rfl
  | cons x r ih => simp [turnCells] at ih ⊢; omega
theorem turnCells_append (a b : List (Nat × Nat)) : turnCells (a ++ b) = turnCells a ++ turnCells b := by simp [turnCells]
theorem turnCells_at {l : List (Nat × Nat)} {i : Nat} (h : i < l.length) : (turnCells l)[i * 2]? = some (.int .i64 (l[i].1 : Int)) ∧ (turnCells l)[i * 2 + 1]? = some (.int .i64 (l[i].2 : Int)) := by
  induction l generalizing i with
  | nil => simp at h
  | cons x r ih =>
    have e : turnCells (x :: r) = .int .i64 (x.1 : Int) :: .int .i64 (x.2 : Int) :: turnCells r := by simp [turnCells]
    rw [e]
    cases i with
    | zero => simp
    | succ j =>
      have := ih (i := j) (by simpa using h)
      rw [show (j + 1) * 2 = j * 2 + 1 + 1 by omega]
      simpa using this
/-- The ways that a walk makes: no number beyond its arity. -/
def Fine (st : List (Nat × Nat)) : Prop := ∀ x ∈ st, x.1 < x.2 ∧ x.2 ≤ 6
theorem bump_fine {st : List (Nat × Nat)} (h : Fine st) : Fine (bump st) := by
  induction st with
  | nil => exact h
  | cons x r ih =>
    obtain ⟨j, a⟩ := x
    have hx := h (j, a) (by simp)
    have hr : Fine r := fun y hy => h y (by simp [hy])
    unfold bump
    split
    · intro y hy
      rcases List.mem_cons.1 hy with rfl | hy
      · exact ⟨by simpa using (by assumption : j + 1 < a), hx.2⟩
      · exact hr y hy
    · exact ih hr
theorem pass_fine {st : List (Nat × Nat)} (h : Fine st) {a : Nat} (ha : a ≤ 6) : Fine (pass st a) := by
  unfold pass
  split
  · intro y hy
    rcases List.mem_cons.1 hy with rfl | hy
    · exact ⟨by assumption, ha⟩
    · exact h y hy
  · exact bump_fine h
theorem bump_length (st : List (Nat × Nat)) : (bump st).length ≤ st.length := by
  induction st with
  | nil => simp [bump]
  | cons x r ih =>
    obtain ⟨j, a⟩ := x
    unfold bump
    split
    · simp
    · simp; omega
theorem pass_length (st : List (Nat × Nat)) (a : Nat) : (pass st a).length ≤ st.length + 1 := by
  unfold pass
  split
  · simp
  · have := bump_length st; omega
def TFoot (a : Nat) (v : Value) (k : Nat) : Prop := k = a ∨ v.ownBlock = some k
theorem row_take {w : World} {base g n cap size m : Nat} {e : TypeId} {xs : List Value} (h : w.ownsRow base e size (.slice (some ⟨g, 0, none⟩) n cap) n xs) (hm : m ≤ n) : w.ownsRow base e size (.slice (some ⟨g, 0, none⟩) m cap) m (xs.take (m * size)) := by
  have hl := h.1
  have hmn : m * size ≤ n * size := Nat.mul_le_mul_right _ hm
  refine ⟨by rw [List.length_take, hl]; omega, ?_⟩
  rcases h.2 with ⟨e1, _⟩ | ⟨g', cap', cur, hv, hb, hg, h1, h2, h3, h4⟩
  · cases e1
  · simp only [Value.slice.injEq, Option.some.injEq, Addr.mk.injEq, and_true, true_and] at hv
    obtain ⟨rfl, rfl⟩ := hv
    exact .inr ⟨g, cap, cur, rfl, hb, hg, by omega, h2, h3, by rw [← h4, List.take_take, Nat.min_eq_left hmn]⟩
end Go.Proofs.Ythhcnllabhfejaa
