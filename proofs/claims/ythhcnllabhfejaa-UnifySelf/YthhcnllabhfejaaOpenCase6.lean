/- The argument of layer 6's statements, opened: symbols, two terms, a third one. -/
import Derived.Test.YthhcnllabhfejaaOpenCase
namespace Go.Proofs.Ythhcnllabhfejaa
set_option linter.unusedVariables false
open Go.RowKit Go.Deep
section
variable {H : Type} {enc : TypeId × Value → H} {w : World} {spare : Nat → Bool} {held : Bool}
theorem trod_struct4 {P : Program} {base : Nat} {t : TypeId} {f0 f1 f2 f3 : Field} {fuel : Nat} {cs : List Value} {x : DataW H × List MemPlace} (ht : P.underlying t = some (.struct #[f0, f1, f2, f3])) (h : DataW.trod enc P w base spare held fuel t cs = some x) :
    ∃ y0 y1 y2 y3 n, x.1 = .agg [y0.1, y1.1, y2.1, y3.1] ∧ cs.length = P.cellsOf t ∧ DataW.trod enc P w base spare held n f0.type ((cs.drop f0.offset).take (P.cellsOf f0.type)) = some y0 ∧
      DataW.trod enc P w base spare held n f1.type ((cs.drop f1.offset).take (P.cellsOf f1.type)) = some y1 ∧ DataW.trod enc P w base spare held n f2.type ((cs.drop f2.offset).take (P.cellsOf f2.type)) = some y2 ∧
      DataW.trod enc P w base spare held n f3.type ((cs.drop f3.offset).take (P.cellsOf f3.type)) = some y3 := by
  obtain ⟨xs, n, _, rfl, hl, hlen, hf⟩ := DataW.trod_struct ht h
  match xs, hlen with
  | [y0, y1, y2, y3], _ => exact ⟨y0, y1, y2, y3, n, by simp, hl, by simpa using hf 0 f0 rfl, by simpa using hf 1 f1 rfl, by simpa using hf 2 f2 rfl, by simpa using hf 3 f3 rfl⟩
theorem cells_Case6 : Try.prog.cellsOf 27 = 4 := by kernel_rfl
/-- What a Case holds. -/
structure Case6Is (w : World) (v : Value) (lo : Option Addr) (ll lc : Nat) (ls : List Sym) (ao : Option Addr) (ac : Nat) (a : List Int) (bo : Option Addr) (bc : Nat) (b : List Int) (so : Option Addr) (tc : Nat) (t : List Int) : Prop where
  eq : v = .agg #[.slice lo ll lc, .slice ao a.length ac, .slice bo b.length bc, .slice so t.length tc]
  syms : SymsAt w lo ll ls
  sl : ll ≤ maxLen
  a' : Arg w ao a ac
  b' : Arg w bo b bc
  t' : Arg w so t tc
set_option maxRecDepth 100000 in
theorem open_case6 {r : Go.Reach} {b0 : Nat} {v : Value} {d : DataW H} {p : List MemPlace} (hv : Value.okWide Try.prog w r b0 27 v) (h : DataW.Trod enc Try.prog w 0 spare held 27 v d p) (hw : ∀ n ∈ d.weights Try.prog 27, n ≤ reachBytes) :
    ∃ lo ll lc ls ao ac a bo bc b so tc t, Case6Is w v lo ll lc ls ao ac a bo bc b so tc t := by
  obtain ⟨cs, rfl, _⟩ := Go.WideShapes.okWide_struct Try.underlying27 hv
  obtain ⟨fuel, hf⟩ := h
  have hf' : DataW.trod enc Try.prog w 0 spare held fuel 27 cs.toList = some (d, p) := by simpa [Value.cells] using hf
  obtain ⟨y0, y1, y2, y3, n, hd, hl, h0, h1, h2, h3⟩ := trod_struct4 Try.underlying27 hf'
  rw [cells_Case6] at hl
  obtain ⟨l⟩ := cs
  match l, hl with
  | [c0, c1, c2, c3], _ =>
    simp only [cells_syms, cells_term, List.drop_zero, List.take_succ_cons, List.take_zero, List.drop_succ_cons] at h0 h1 h2 h3
    have hd' : d = .agg [y0.1, y1.1, y2.1, y3.1] := hd
    subst hd'
    have hww : ∀ n ∈ DataW.weightsEach Try.prog [23, 25, 25, 25] [y0.1, y1.1, y2.1, y3.1], n ≤ reachBytes := by
      intro n hn
      apply hw
      simpa [DataW.weights, Try.underlying27] using hn
    simp only [DataW.weightsEach, List.mem_append] at hww
    obtain ⟨lo, ll, lc, rfl⟩ := slice_one Try.underlying23 h0
    obtain ⟨ls, g1, g2⟩ := open_syms h0
    obtain ⟨ao, ac, a, e1, k1⟩ := open_ints Try.underlying25 h1 (fun n hn => hww n (by simp [hn]))
    obtain ⟨bo, bc, b, e2, k2⟩ := open_ints Try.underlying25 h2 (fun n hn => hww n (by simp [hn]))
    obtain ⟨so, tc, t, e3, k3⟩ := open_ints Try.underlying25 h3 (fun n hn => hww n (by simp [hn]))
    simp only [List.cons.injEq, and_true] at e1 e2 e3
    subst e1 e2 e3
    exact ⟨lo, ll, lc, ls, ao, ac, a, bo, bc, b, so, tc, t, rfl, g1, g2, k1, k2, k3⟩
end
end Go.Proofs.Ythhcnllabhfejaa
