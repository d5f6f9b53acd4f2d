/- The argument of TermPlains, opened: lists of numbers, and how many there are at the most. -/
import Derived.Test.YtgoifkbdiicmkaaRows
import Derived.Test.YtgoifkbdiicmkaaOpen
import Derived.Test.YtgoifkbdiicmkaaPlainW
namespace Go.Proofs.Ytgoifkbdiicmkaa
set_option linter.unusedVariables false
open Go.RowKit Go.Deep
theorem bulk_one {H : Type} (d : DataW H) : 1 ≤ Rows.uptoBulk d := by
  cases d with
  | lit l => cases l <;> simp [Rows.uptoBulk]
  | nil => simp [Rows.uptoBulk]
  | ptr d => simp [Rows.uptoBulk]
  | slice elems spare => simp [Rows.uptoBulk]
  | agg parts => simp [Rows.uptoBulk]
  | iface t d => simp [Rows.uptoBulk]
  | map entries => simp [Rows.uptoBulk]
  | held h => simp [Rows.uptoBulk]
theorem bulk_part {H : Type} {d : DataW H} {l : List (DataW H)} (h : d ∈ l) : Rows.uptoBulk d ≤ Rows.uptoBulkAll l := by
  induction l with
  | nil => cases h
  | cons x r ih =>
    simp only [Rows.uptoBulkAll]
    rcases List.mem_cons.1 h with e | e
    · subst e; omega
    · have := ih e; omega
theorem bulk_length {H : Type} (l : List (DataW H)) : l.length ≤ Rows.uptoBulkAll l := by
  induction l with
  | nil => simp [Rows.uptoBulkAll]
  | cons x r ih => have := bulk_one x; simp only [Rows.uptoBulkAll, List.length_cons]; omega
theorem bulk_slice {H : Type} (elems spare : List (DataW H)) : Rows.uptoBulkAll elems ≤ Rows.uptoBulk (.slice elems spare) := by
  simp only [Rows.uptoBulk]; omega
section
variable {H : Type} {enc : TypeId × Value → H} {w : World} {spare : Nat → Bool} {held : Bool}
theorem open_list {fuel : Nat} {cs : List Value} {x : DataW H × List MemPlace} (h : DataW.trod enc Try.prog w 0 spare held fuel 25 cs = some x) :
    ∃ ao cap xs, cs = [.slice ao xs.length cap] ∧ IntsAt w ao xs ∧ (ao = none → xs.length = 0 ∧ cap = 0) ∧ xs.length ≤ Rows.uptoBulk x.1 := by
  have h' := h
  rcases open_slice Try.underlying25 h with ⟨hcs, _⟩ | ⟨a, len, cap, m, n, D, Pl, hcs, _, hl, hm, hmm, rfl, hx⟩
  · exact ⟨none, 0, [], hcs, .inl rfl, fun _ => ⟨rfl, rfl⟩, by simp⟩
  · subst hcs
    rcases open_elems Try.underlying25 cells_int (by omega) h' with ⟨e, _, _⟩ | ⟨a', e, hl1, hl2, hall⟩
    · cases e
    · cases e
      have each : ∀ i, i < len → ∃ z : Int, w.cell? ⟨a.block, a.off + i, none⟩ = some (.int .i64 z) := by
        intro i hi
        obtain ⟨_, _, cs, n, y, hl, hcell, hy⟩ := hall i hi
        obtain ⟨z, e1, _, _⟩ := DataW.trod_int Try.underlying3 hy
        subst e1
        exact ⟨z, by simpa using hcell 0 (by omega)⟩
      obtain ⟨f, hf⟩ := Classical.axiomOfChoice (fun i : Fin len => each i i.2)
      refine ⟨some a, cap, List.ofFn f, by simp, ?_, (fun e => by cases e), ?_⟩
      · by_cases h0 : len = 0
        · subst h0; exact .inl (by simp)
        · obtain ⟨ea, hlt, _⟩ := hall 0 (by omega)
          refine .inr ⟨a.block, a.off, by rw [← ea], hlt, fun i hi => ?_⟩
          have hi' : i < len := by simpa using hi
          simpa using hf ⟨i, hi'⟩
      · have h1 := bulk_length ((List.range len).map D)
        have h2 := bulk_slice ((List.range len).map D) ((List.range (m - len)).map fun j => D (len + j))
        simp at h1 ⊢
        omega
theorem cells_Term : Try.prog.cellsOf 25 = 1 := by kernel_rfl
theorem open_lists {fuel : Nat} {lo : Option Addr} {n cap : Nat} {x : DataW H × List MemPlace} (h : DataW.trod enc Try.prog w 0 spare held fuel 54 [.slice lo n cap] = some x) :
    ∃ ls : List (List Int), ls.length = n ∧ Lists w lo ls ∧ (∀ t ∈ ls, t.length ≤ Rows.uptoBulk x.1) ∧ n ≤ Rows.uptoBulk x.1 := by
  have h' := h
  rcases open_slice Try.underlying54 h with ⟨hcs, _⟩ | ⟨a, len, cap', m, nn, D, Pl, hcs, _, hl, hm, hmm, rfl, hx⟩
  · simp at hcs
    obtain ⟨rfl, rfl, rfl⟩ := hcs
    exact ⟨[], rfl, .inl rfl, by simp, by simp⟩
  · simp at hcs
    obtain ⟨rfl, rfl, rfl⟩ := hcs
    have h1 := bulk_length ((List.range n).map D)
    have h2 := bulk_slice ((List.range n).map D) ((List.range (m - n)).map fun j => D (n + j))
    have hb : n ≤ Rows.uptoBulk (DataW.slice ((List.range n).map D) ((List.range (m - n)).map fun j => D (n + j))) := by simp at h1; omega
    rcases open_elems Try.underlying54 cells_Term (by omega) h' with ⟨e, _, _⟩ | ⟨a', e, hl1, hl2, hall⟩
    · cases e
    · cases e
      have each : ∀ i, i < n → ∃ xs : List Int, (∃ ao c, w.cell? ⟨a.block, a.off + i, none⟩ = some (.slice ao xs.length c) ∧ IntsAt w ao xs ∧ (ao = none → xs.length = 0 ∧ c = 0)) ∧ xs.length ≤ Rows.uptoBulk (DataW.slice ((List.range n).map D) ((List.range (m - n)).map fun j => D (n + j))) := by
        intro i hi
        have hmi : i < m := by rw [hmm]; split <;> omega
        obtain ⟨cs', g1, g2⟩ := hx i hmi
        rw [cells_Term] at g1
        obtain ⟨ao, c, xs, e1, e2, e3, e4⟩ := open_list g2
        subst e1
        obtain ⟨ea, hlt, cs2, n2, y2, hl2', hcell2, _⟩ := hall i hi
        obtain ⟨_, _, gc⟩ := World.cells?_some g1
        have hc0 := gc 0 (by omega)
        refine ⟨xs, ⟨ao, c, ?_, e2, e3⟩, ?_⟩
        · have e5 : ((a.add (i * 1)).add 0) = ⟨a.block, a.off + i, none⟩ := by
            rw [ea]
            unfold Addr.add
            by_cases h0 : i = 0
            · subst h0; simp
            · simp [h0]
          rw [e5] at hc0
          simpa using hc0
        · have := bulk_part (d := D i) (l := (List.range n).map D) (List.mem_map.2 ⟨i, List.mem_range.2 hi, rfl⟩)
          have e6 : xs.length ≤ Rows.uptoBulk (D i) := e4
          omega
      obtain ⟨f, hf⟩ := Classical.axiomOfChoice (fun i : Fin n => each i i.2)
      refine ⟨List.ofFn f, by simp, ?_, ?_, hb⟩
      · by_cases h0 : n = 0
        · subst h0; exact .inl (by simp)
        · obtain ⟨ea, hlt, _⟩ := hall 0 (by omega)
          refine .inr ⟨a.block, a.off, by rw [← ea], hlt, fun i hi => ?_⟩
          have hi' : i < n := by simpa using hi
          obtain ⟨⟨ao, c, q1, q2, q3⟩, _⟩ := hf ⟨i, hi'⟩
          exact ⟨ao, c, by simpa using q1, by simpa using q2, by simpa using q3⟩
      · intro t ht
        obtain ⟨i, rfl⟩ := List.mem_ofFn.1 ht
        exact (hf i).2
end
end Go.Proofs.Ytgoifkbdiicmkaa
