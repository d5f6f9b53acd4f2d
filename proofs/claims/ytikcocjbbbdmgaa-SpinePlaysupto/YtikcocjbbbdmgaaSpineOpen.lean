/- Frames that came in, opened. -/
import Derived.Test.YtikcocjbbbdmgaaOpenElems
import Derived.Test.YtikcocjbbbdmgaaSpineMem
namespace Go.Proofs.Ytikcocjbbbdmgaa
set_option maxRecDepth 100000
set_option linter.unusedVariables false
open Go.RowKit Go.Deep
theorem cells_frame : Try.prog.cellsOf 30 = 4 := by kernel_rfl
theorem bytes_frame : Try.prog.bytesOf 30 = 48 := by kernel_rfl
theorem cells_boolF : Try.prog.cellsOf 4 = 1 := by kernel_rfl
theorem cells_intsF : Try.prog.cellsOf 28 = 1 := by kernel_rfl
section
variable {H : Type} {enc : TypeId × Value → H} {w : World} {spare : Nat → Bool} {held : Bool}
theorem trod_struct4F {P : Program} {base : Nat} {t : TypeId} {f0 f1 f2 f3 : Field} {fuel : Nat} {cs : List Value} {x : DataW H × List MemPlace} (ht : P.underlying t = some (.struct #[f0, f1, f2, f3])) (h : DataW.trod enc P w base spare held fuel t cs = some x) :
    ∃ y0 y1 y2 y3 n, x.1 = .agg [y0.1, y1.1, y2.1, y3.1] ∧ cs.length = P.cellsOf t ∧ DataW.trod enc P w base spare held n f0.type ((cs.drop f0.offset).take (P.cellsOf f0.type)) = some y0 ∧
      DataW.trod enc P w base spare held n f1.type ((cs.drop f1.offset).take (P.cellsOf f1.type)) = some y1 ∧ DataW.trod enc P w base spare held n f2.type ((cs.drop f2.offset).take (P.cellsOf f2.type)) = some y2 ∧
      DataW.trod enc P w base spare held n f3.type ((cs.drop f3.offset).take (P.cellsOf f3.type)) = some y3 := by
  obtain ⟨xs, n, _, rfl, hl, hlen, hf⟩ := DataW.trod_struct ht h
  match xs, hlen with
  | [y0, y1, y2, y3], _ => exact ⟨y0, y1, y2, y3, n, by simp, hl, by simpa using hf 0 f0 rfl, by simpa using hf 1 f1 rfl, by simpa using hf 2 f2 rfl, by simpa using hf 3 f3 rfl⟩
/-- A frame's cells. -/
theorem trod_frame {fuel : Nat} {cs : List Value} {x : DataW H × List MemPlace} (hl : cs.length = 4) (h : DataW.trod enc Try.prog w 0 spare held fuel 30 cs = some x) (hw : ∀ n ∈ x.1.weights Try.prog 30, n ≤ reachBytes) : ∃ (y : Fr) (xo : Option Addr) (xc : Nat), Arg w xo y.2.2.2 xc ∧ cs = [.int .i64 y.1, .bool y.2.1, .int .i64 y.2.2.1, .slice xo y.2.2.2.length xc] := by
  obtain ⟨y0, y1, y2, y3, n', hyd, hl', g0, g1, g2, g3⟩ := trod_struct4F Try.underlying30 h
  match cs, hl with
  | [c0, c1, c2, c3], _ =>
    simp only [cells_int, cells_boolF, cells_intsF, List.drop_zero, List.take_succ_cons, List.take_zero, List.drop_succ_cons] at g0 g1 g2 g3
    obtain ⟨z0, e0, _, _⟩ := DataW.trod_int Try.underlying3 g0
    obtain ⟨z1, e1, _⟩ := DataW.trod_bool Try.underlying4 g1
    obtain ⟨z2, e2, _, _⟩ := DataW.trod_int Try.underlying3 g2
    have hyw : ∀ n ∈ y3.1.weights Try.prog 28, n ≤ reachBytes := fun n hn => hw n (by
      rw [hyd]
      simp only [DataW.weights, Try.underlying30]
      simp [DataW.weightsEach, hn])
    obtain ⟨xo, xc, xs, e3, hxa⟩ := open_ints Try.underlying28 g3 hyw
    simp only [List.cons.injEq, and_true] at e0 e1 e2 e3
    subst e0 e1 e2 e3
    exact ⟨(z0, z1, z2, xs), xo, xc, hxa, rfl⟩
theorem open_frames {fuel : Nat} {ao : Option Addr} {len cap : Nat} {x : DataW H × List MemPlace} (h : DataW.trod enc Try.prog w 0 spare held fuel 35 [.slice ao len cap] = some x) (hw : ∀ n ∈ x.1.weights Try.prog 35, n ≤ reachBytes) :
    ∃ l : List Fr, l.length = len ∧ FsM (fun k => k < w.heap.size) w ao l ∧ len * 48 ≤ 140737488351232 ∧ len ≤ cap := by
  rcases open_elems11 Try.underlying35 cells_frame (by omega) h hw with ⟨rfl, rfl, rfl⟩ | ⟨a, rfl, hl1, hl2, hsz, hall⟩
  · exact ⟨[], rfl, .inl rfl, by omega, Nat.le_refl _⟩
  · rw [bytes_frame] at hsz
    have each : ∀ i, i < len → ∃ y : Fr, ∃ xo xc, w.cell? ⟨a.block, a.off + i * 4, none⟩ = some (.int .i64 y.1) ∧ w.cell? ⟨a.block, a.off + i * 4 + 1, none⟩ = some (.bool y.2.1) ∧ w.cell? ⟨a.block, a.off + i * 4 + 2, none⟩ = some (.int .i64 y.2.2.1) ∧ w.cell? ⟨a.block, a.off + i * 4 + 3, none⟩ = some (.slice xo y.2.2.2.length xc) ∧ Arg w xo y.2.2.2 xc := by
      intro i hi
      obtain ⟨_, _, cs, n, y, hl, hcell, hy, hyw⟩ := hall i hi
      obtain ⟨z, xo, xc, h2, rfl⟩ := trod_frame hl hy hyw
      exact ⟨z, xo, xc, by simpa using hcell 0 (by omega), by simpa using hcell 1 (by omega), by simpa using hcell 2 (by omega), by simpa using hcell 3 (by omega), h2⟩
    obtain ⟨f, hf⟩ := Classical.axiomOfChoice (fun i : Fin len => each i i.2)
    refine ⟨List.ofFn f, by simp, ?_, by simpa [reachBytes] using hsz, hl1⟩
    by_cases h0 : len = 0
    · subst h0; exact .inl (by simp)
    · obtain ⟨ea, hlt, _⟩ := hall 0 (by omega)
      refine .inr ⟨a.block, a.off, by rw [← ea], hlt, fun i hi => ?_⟩
      have hi' : i < len := by simpa using hi
      obtain ⟨xo, xc, n0, n1, n2, n3, n4⟩ := hf ⟨i, hi'⟩
      refine ⟨xo, xc, by simpa using n0, by simpa using n1, by simpa using n2, by simpa using n3, by simpa using n4, fun hne a q => ?_⟩
      simp at hne
      exact n4.at'.ltF (by simpa using hne) q
end
end Go.Proofs.Ytikcocjbbbdmgaa
