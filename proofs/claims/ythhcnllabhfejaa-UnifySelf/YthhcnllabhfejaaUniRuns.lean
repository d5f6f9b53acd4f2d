/- The runs of package unify in memory. -/
import Derived.Test.YthhcnllabhfejaaUniLead
import Derived.Test.YthhcnllabhfejaaUniStep
namespace Go.Proofs.Ythhcnllabhfejaa
set_option maxRecDepth 100000
set_option linter.unusedVariables false
open Go.RowKit
def runCells (l : List (Nat × Nat × Nat)) : List Value := l.flatMap fun r => [.int .i64 (r.1 : Int), .int .i64 (r.2.1 : Int), .int .i64 (r.2.2 : Int)]
theorem runCells_length (l : List (Nat × Nat × Nat)) : (runCells l).length = l.length * 3 := by
  induction l with
  | nil => rfl
  | cons x r ih => simp [runCells] at ih ⊢; omega
theorem runCells_append (a b : List (Nat × Nat × Nat)) : runCells (a ++ b) = runCells a ++ runCells b := by simp [runCells]
theorem runCells_top (x y o : Nat) (rs : List (Nat × Nat × Nat)) : runCells ((x, y, o) :: rs).reverse = runCells rs.reverse ++ [.int .i64 (x : Int), .int .i64 (y : Int), .int .i64 (o : Int)] := by
  rw [List.reverse_cons, runCells_append]; simp [runCells]
theorem info_run : (Try.prog.info? 107).map (fun i => (i.zero, i.size, i.bytes)) = some (some (.agg #[.int .i64 0, .int .i64 0, .int .i64 0]), 3, 24) := by kernel_rfl
/-- The runs lie in a row of the call's own. -/
def RRow (base : Nat) (w : World) (v : Value) (rs : List (Nat × Nat × Nat)) : Prop := w.ownsRow base 107 3 v rs.length (runCells rs.reverse)
theorem RRow.top {base : Nat} {w : World} {v : Value} {x y o : Nat} {rs : List (Nat × Nat × Nat)} (h : RRow base w v ((x, y, o) :: rs)) :
    ∃ g cap, v = .slice (some ⟨g, 0, none⟩) (rs.length + 1) cap ∧ base ≤ g ∧ g < w.heap.size ∧ rs.length + 1 ≤ cap ∧ w.cell? ⟨g, rs.length * 3, none⟩ = some (.int .i64 (x : Int)) ∧ w.cell? ⟨g, rs.length * 3 + 1, none⟩ = some (.int .i64 (y : Int)) ∧ w.cell? ⟨g, rs.length * 3 + 2, none⟩ = some (.int .i64 (o : Int)) ∧ w.frozen? ⟨g, rs.length * 3, none⟩ = false ∧ w.frozen? ⟨g, rs.length * 3 + 2, none⟩ = false := by
  obtain ⟨g, cap, hv, hb, hlt⟩ := World.ownsRow.form h (by simp)
  have hcap : rs.length + 1 ≤ cap := by
    rcases h.2 with ⟨e, _⟩ | ⟨g', cap', cur, hv', _, _, hle, _⟩
    · rw [hv] at e; cases e
    · rw [hv] at hv'
      simp only [Value.slice.injEq] at hv'
      have := hv'.2.2
      simp at hle; omega
  subst hv
  have h' : w.ownsRow base 107 3 (.slice (some ⟨g, 0, none⟩) (rs.length + 1) cap) (rs.length + 1) (runCells rs.reverse ++ [.int .i64 (x : Int), .int .i64 (y : Int), .int .i64 (o : Int)]) := by rw [← runCells_top]; exact h
  have hl : (runCells rs.reverse).length = rs.length * 3 := by rw [runCells_length, List.length_reverse]
  refine ⟨g, cap, rfl, hb, hlt, hcap, ?_, ?_, ?_, h'.frozenAt _, h'.frozenAt _⟩
  · rw [h'.cellAt _ (by omega), List.getElem?_append_right (by omega), hl]; simp
  · rw [h'.cellAt _ (by omega), List.getElem?_append_right (by omega), hl]; simp
  · rw [h'.cellAt _ (by omega), List.getElem?_append_right (by omega), hl]; simp
theorem RRow.kept {base : Nat} {S : Nat → Prop} {w w' : World} {v : Value} {rs : List (Nat × Nat × Nat)} (h : RRow base w v rs) (hk : Kept S w w') (hs : ∀ k, base ≤ k → ¬ S k) : RRow base w' v rs := by
  refine hk.row h (fun k e => hs k ?_)
  rcases h.2 with ⟨e', _⟩ | ⟨g, cap, cur, hv, hb, _⟩
  · rw [e'] at e; simp [Value.ownBlock] at e
  · rw [hv] at e; simp [Value.ownBlock] at e; omega
/-- The run at the top goes on. -/
theorem RRow.on {base : Nat} {w : World} {g cap : Nat} {x y o : Nat} {rs : List (Nat × Nat × Nat)} (h : RRow base w (.slice (some ⟨g, 0, none⟩) (rs.length + 1) cap) ((x, y, o) :: rs)) (x' o' : Nat) :
    RRow base ((w.setCell ⟨g, rs.length * 3, none⟩ (.int .i64 (x' : Int))).setCell ⟨g, rs.length * 3 + 2, none⟩ (.int .i64 (o' : Int))) (.slice (some ⟨g, 0, none⟩) (rs.length + 1) cap) ((x', y, o') :: rs) := by
  have h' : w.ownsRow base 107 3 (.slice (some ⟨g, 0, none⟩) (rs.length + 1) cap) (rs.length + 1) (runCells rs.reverse ++ [.int .i64 (x : Int), .int .i64 (y : Int), .int .i64 (o : Int)]) := by rw [← runCells_top]; exact h
  have hl : (runCells rs.reverse).length = rs.length * 3 := by rw [runCells_length, List.length_reverse]
  have h1 := (h'.stored (rs.length * 3) (.int .i64 (x' : Int))).1
  have h2 := (h1.stored (rs.length * 3 + 2) (.int .i64 (o' : Int))).1
  have e : ((runCells rs.reverse ++ [Value.int .i64 (x : Int), .int .i64 (y : Int), .int .i64 (o : Int)]).set (rs.length * 3) (.int .i64 (x' : Int))).set (rs.length * 3 + 2) (.int .i64 (o' : Int)) = runCells rs.reverse ++ [.int .i64 (x' : Int), .int .i64 (y : Int), .int .i64 (o' : Int)] := by
    rw [List.set_append_right _ _ (by omega), List.set_append_right _ _ (by omega), hl]
    simp [show rs.length * 3 + 2 - rs.length * 3 = 2 by omega]
  rw [e] at h2
  unfold RRow
  rw [runCells_top]; exact h2
theorem RRow.less {base : Nat} {w : World} {g cap : Nat} {x y o : Nat} {rs : List (Nat × Nat × Nat)} (h : RRow base w (.slice (some ⟨g, 0, none⟩) (rs.length + 1) cap) ((x, y, o) :: rs)) : RRow base w (.slice (some ⟨g, 0, none⟩) rs.length cap) rs := by
  have hl : (runCells rs.reverse).length = rs.length * 3 := by rw [runCells_length, List.length_reverse]
  have h' : w.ownsRow base 107 3 (.slice (some ⟨g, 0, none⟩) (rs.length + 1) cap) (rs.length + 1) (runCells rs.reverse ++ [.int .i64 (x : Int), .int .i64 (y : Int), .int .i64 (o : Int)]) := by rw [← runCells_top]; exact h
  have hmn : rs.length * 3 ≤ (rs.length + 1) * 3 := by omega
  refine ⟨by rw [hl], ?_⟩
  rcases h'.2 with ⟨e1, _⟩ | ⟨g', cap', cur, hv, hb, hg, h1, h2, h3, h4⟩
  · cases e1
  · simp only [Value.slice.injEq, Option.some.injEq, Addr.mk.injEq, and_true, true_and] at hv
    obtain ⟨rfl, rfl⟩ := hv
    refine .inr ⟨g, cap, cur, rfl, hb, hg, by omega, h2, h3, ?_⟩
    have := congrArg (List.take (rs.length * 3)) h4
    rw [List.take_take, Nat.min_eq_left hmn, List.take_left' hl] at this
    exact this
end Go.Proofs.Ythhcnllabhfejaa
