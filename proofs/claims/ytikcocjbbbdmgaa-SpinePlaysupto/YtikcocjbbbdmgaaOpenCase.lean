/- The argument of layer 2's statements, opened: symbols, a list, a place, another list, a path. -/
import Derived.Test.YtikcocjbbbdmgaaOpen
import Derived.Test.YtikcocjbbbdmgaaLentKept
import Derived.SizedLaws
namespace Go.Proofs.Ytikcocjbbbdmgaa
set_option linter.unusedVariables false
open Go.RowKit Go.Deep
/-- A list of numbers that came in. -/
structure Arg (w : World) (ao : Option Addr) (xs : List Int) (cap : Nat) : Prop where
  at' : IntsAt w ao xs
  cap' : xs.length ≤ cap
  nil : ao = none → xs.length = 0 ∧ cap = 0
  size : xs.length * 8 ≤ 140737488351232
section
variable {H : Type} {enc : TypeId × Value → H} {w : World} {spare : Nat → Bool} {held : Bool}
theorem trod_struct5 {P : Program} {base : Nat} {t : TypeId} {f0 f1 f2 f3 f4 : Field} {fuel : Nat} {cs : List Value} {x : DataW H × List MemPlace} (ht : P.underlying t = some (.struct #[f0, f1, f2, f3, f4])) (h : DataW.trod enc P w base spare held fuel t cs = some x) :
    ∃ y0 y1 y2 y3 y4 n, x.1 = .agg [y0.1, y1.1, y2.1, y3.1, y4.1] ∧ cs.length = P.cellsOf t ∧ DataW.trod enc P w base spare held n f0.type ((cs.drop f0.offset).take (P.cellsOf f0.type)) = some y0 ∧
      DataW.trod enc P w base spare held n f1.type ((cs.drop f1.offset).take (P.cellsOf f1.type)) = some y1 ∧ DataW.trod enc P w base spare held n f2.type ((cs.drop f2.offset).take (P.cellsOf f2.type)) = some y2 ∧
      DataW.trod enc P w base spare held n f3.type ((cs.drop f3.offset).take (P.cellsOf f3.type)) = some y3 ∧ DataW.trod enc P w base spare held n f4.type ((cs.drop f4.offset).take (P.cellsOf f4.type)) = some y4 := by
  obtain ⟨xs, n, _, rfl, hl, hlen, hf⟩ := DataW.trod_struct ht h
  match xs, hlen with
  | [y0, y1, y2, y3, y4], _ => exact ⟨y0, y1, y2, y3, y4, n, by simp, hl, by simpa using hf 0 f0 rfl, by simpa using hf 1 f1 rfl, by simpa using hf 2 f2 rfl, by simpa using hf 3 f3 rfl, by simpa using hf 4 f4 rfl⟩
theorem bytes_int : Try.prog.bytesOf 3 = 8 := by kernel_rfl
theorem open_ints {t fuel : Nat} {cs : List Value} {x : DataW H × List MemPlace} (ht : Try.prog.underlying t = some (.slice 3)) (h : DataW.trod enc Try.prog w 0 spare held fuel t cs = some x) (hw : ∀ n ∈ x.1.weights Try.prog t, n ≤ reachBytes) :
    ∃ ao cap xs, cs = [.slice ao xs.length cap] ∧ Arg w ao xs cap := by
  have h' := h
  rcases open_slice ht h with ⟨hcs, _⟩ | ⟨a, len, cap, m, n, D, Pl, hcs, _, hl, hm, hmm, rfl, hx⟩
  · exact ⟨none, 0, [], hcs, .inl rfl, Nat.le_refl _, fun _ => ⟨rfl, rfl⟩, by simp⟩
  · subst hcs
    have hsz : len * 8 ≤ 140737488351232 := by
      have := hw ((((List.range len).map D).length + ((List.range (m - len)).map fun j => D (len + j)).length) * Try.prog.bytesOf 3) (by simp [DataW.weights, ht])
      rw [bytes_int] at this
      simp [reachBytes] at this
      omega
    rcases open_elems ht cells_int (by omega) h' with ⟨e, _, _⟩ | ⟨a', e, hl1, hl2, hall⟩
    · cases e
    · cases e
      have each : ∀ i, i < len → ∃ z : Int, w.cell? ⟨a.block, a.off + i, none⟩ = some (.int .i64 z) := by
        intro i hi
        obtain ⟨_, _, cs, n, y, hl, hcell, hy⟩ := hall i hi
        obtain ⟨z, e1, _, _⟩ := DataW.trod_int Try.underlying3 hy
        subst e1
        exact ⟨z, by simpa using hcell 0 (by omega)⟩
      obtain ⟨f, hf⟩ := Classical.axiomOfChoice (fun i : Fin len => each i i.2)
      refine ⟨some a, cap, List.ofFn f, by simp, ?_, by simpa using hl, (fun e => by cases e), by simpa using hsz⟩
      by_cases h0 : len = 0
      · subst h0; exact .inl (by simp)
      · obtain ⟨ea, hlt, _⟩ := hall 0 (by omega)
        refine .inr ⟨a.block, a.off, by rw [← ea], hlt, fun i hi => ?_⟩
        have hi' : i < len := by simpa using hi
        simpa using hf ⟨i, hi'⟩
theorem cells_ints : Try.prog.cellsOf 28 = 1 := by kernel_rfl
theorem slice_one {t e fuel : Nat} {c : Value} {x : DataW H × List MemPlace} (ht : Try.prog.underlying t = some (.slice e)) (h : DataW.trod enc Try.prog w 0 spare held fuel t [c] = some x) : ∃ ao len cap, c = .slice ao len cap := by
  rcases open_slice ht h with ⟨hcs, _⟩ | ⟨a, len, cap, m, n, D, Pl, hcs, _⟩
  · simp at hcs; exact ⟨_, _, _, hcs⟩
  · simp at hcs; exact ⟨_, _, _, hcs⟩
/-- What a Case holds. -/
structure CaseIs (w : World) (v : Value) (lo : Option Addr) (ll lc : Nat) (ls : List Sym) (so : Option Addr) (tc : Nat) (t : List Int) (at' : Int) (uo : Option Addr) (uc : Nat) (u : List Int) (po : Option Addr) (pc : Nat) (path : List Int) : Prop where
  eq : v = .agg #[.slice lo ll lc, .slice so t.length tc, .int .i64 at', .slice uo u.length uc, .slice po path.length pc]
  syms : SymsAt w lo ll ls
  sl : ll ≤ maxLen
  t' : Arg w so t tc
  u' : Arg w uo u uc
  p' : Arg w po path pc
end
end Go.Proofs.Ytikcocjbbbdmgaa
