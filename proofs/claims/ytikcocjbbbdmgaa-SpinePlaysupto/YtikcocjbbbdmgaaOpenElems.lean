/- The elements of a slice that came in, their weights among its own. -/
import Derived.Test.YtikcocjbbbdmgaaOpenCase
namespace Go.Proofs.Ytikcocjbbbdmgaa
set_option maxRecDepth 100000
set_option linter.unusedVariables false
open Go.RowKit Go.Deep
section
variable {H : Type} {enc : TypeId × Value → H} {w : World} {spare : Nat → Bool} {held : Bool}
theorem weightsAll_mem11 {P : Program} {e : TypeId} {l : List (DataW H)} {d : DataW H} (h : d ∈ l) {n : Nat} (hn : n ∈ d.weights P e) : n ∈ DataW.weightsAll P e l := by
  induction l with
  | nil => cases h
  | cons x r ih =>
    simp only [DataW.weightsAll, List.mem_append]
    rcases List.mem_cons.1 h with q | q
    · subst q; exact .inl hn
    · exact .inr (ih q)
set_option maxRecDepth 100000 in
/-- The elements of a slice, their weights among its own. -/
theorem open_elems11 {t e c fuel : Nat} {ao : Option Addr} {len cap : Nat} {x : DataW H × List MemPlace} (ht : Try.prog.underlying t = some (.slice e)) (hc : Try.prog.cellsOf e = c) (h0 : 0 < c) (h : DataW.trod enc Try.prog w 0 spare held fuel t [.slice ao len cap] = some x) (hw : ∀ n ∈ x.1.weights Try.prog t, n ≤ reachBytes) :
    (ao = none ∧ len = 0 ∧ cap = 0) ∨ ∃ a, ao = some a ∧ len ≤ cap ∧ cap ≤ maxLen ∧ len * Try.prog.bytesOf e ≤ reachBytes ∧ ∀ i, i < len → a = ⟨a.block, a.off, none⟩ ∧ a.block < w.heap.size ∧ ∃ cs n y, cs.length = c ∧ (∀ j, j < c → w.cell? ⟨a.block, a.off + i * c + j, none⟩ = cs[j]?) ∧ DataW.trod enc Try.prog w 0 spare held n e cs = some y ∧ ∀ n ∈ y.1.weights Try.prog e, n ≤ reachBytes := by
  rcases open_slice ht h with ⟨hcs, _⟩ | ⟨a, len', cap', m, n, D, Pl, hcs, _, hl, hm, hmm, rfl, hx⟩
  · simp at hcs; exact .inl ⟨hcs.1, hcs.2.1, hcs.2.2⟩
  · simp at hcs
    obtain ⟨rfl, rfl, rfl⟩ := hcs
    have hb : len * Try.prog.bytesOf e ≤ reachBytes := by
      have := hw ((((List.range len).map D).length + ((List.range (m - len)).map fun j => D (len + j)).length) * Try.prog.bytesOf e) (by simp [DataW.weights, ht])
      refine Nat.le_trans (Nat.mul_le_mul_right _ ?_) this
      simp
    refine .inr ⟨a, rfl, hl, hm, hb, fun i hi => ?_⟩
    have hmi : i < m := by rw [hmm]; split <;> omega
    have hm0 : 0 < m := by omega
    obtain ⟨cs0, g0, _⟩ := hx 0 hm0
    rw [hc] at g0
    obtain ⟨_, gl, gc⟩ := World.cells?_some g0
    have hsp : a.spot = none := by
      have := gc 0 h0
      have hv : cs0[0]? = some (cs0[0]'(by omega)) := List.getElem?_eq_getElem (by omega)
      rw [hv] at this
      simp [Addr.add] at this
      exact World.cell?_spot this
    have hlt : a.block < w.heap.size := World.cells?_block (by simpa [Addr.add] using g0) h0
    have ea : a = ⟨a.block, a.off, none⟩ := by cases a; simp_all
    obtain ⟨cs, g1, g2⟩ := hx i hmi
    rw [hc] at g1
    obtain ⟨_, gl1, gc1⟩ := World.cells?_some g1
    refine ⟨ea, hlt, cs, n, _, gl1, fun j hj => ?_, g2, fun k hk => hw k ?_⟩
    · rw [← gc1 j hj, add_add]
      congr 1
      unfold Addr.add
      split
      · rw [ea]; simp; omega
      · simp
    · simp only [DataW.weights, ht, List.mem_cons, List.mem_append]
      exact .inr (.inl (weightsAll_mem11 (List.mem_map.2 ⟨i, by simpa using hi, rfl⟩) hk))
end
end Go.Proofs.Ytikcocjbbbdmgaa
