/- Calls of layer 14 that came in, opened, and how much there is of them. -/
import Derived.Test.YtikcocjbbbdmgaaSpinePlaysW
import Derived.Test.YtikcocjbbbdmgaaSpineOpenU
namespace Go.Proofs.Ytikcocjbbbdmgaa
set_option maxRecDepth 100000
set_option linter.unusedVariables false
open Go.RowKit Go.Deep
theorem cells_op14 : Try.prog.cellsOf 32 = 7 := by kernel_rfl
section
variable {H : Type} {enc : TypeId × Value → H} {w : World} {spare : Nat → Bool} {held : Bool}
theorem trod_op14 {fuel : Nat} {cs : List Value} {x : DataW H × List MemPlace} (hl : cs.length = 7) (h : DataW.trod enc Try.prog w 0 spare held fuel 32 cs = some x) (hb : Rows.uptoBulk x.1 ≤ 1048576) : ∃ (o : OpF) (fo : Option Addr) (fc : Nat) (dao : Option Addr) (dac : Nat), Arg w fo o.2.2.1.2.2.2 fc ∧ Arg w dao o.2.2.2 dac ∧ o.2.2.1.2.2.2.length ≤ 1048576 ∧ o.2.2.2.length ≤ 1048576 ∧ cs = [.int .i64 o.1, .bool o.2.1, .int .i64 o.2.2.1.1, .bool o.2.2.1.2.1, .int .i64 o.2.2.1.2.2.1, .slice fo o.2.2.1.2.2.2.length fc, .slice dao o.2.2.2.length dac] := by
  obtain ⟨y0, y1, y2, y3, n', hyd, hl', g0, g1, g2, g3⟩ := trod_struct4F Try.underlying32 h
  match cs, hl with
  | [c0, c1, c2, c3, c4, c5, c6], _ =>
    simp only [cells_int, cells_boolF, cells_intsF, cells_frame, List.drop_zero, List.take_succ_cons, List.take_zero, List.drop_succ_cons] at g0 g1 g2 g3
    obtain ⟨z0, e0, _, _⟩ := DataW.trod_int Try.underlying3 g0
    obtain ⟨z1, e1, _⟩ := DataW.trod_bool Try.underlying4 g1
    have hbs : Rows.uptoBulk y2.1 ≤ 1048576 ∧ Rows.uptoBulk y3.1 ≤ 1048576 := by
      rw [hyd] at hb
      have q1 := bulkF_agg [y0.1, y1.1, y2.1, y3.1]
      have q2 := bulkF_part (d := y3.1) (l := [y0.1, y1.1, y2.1, y3.1]) (by simp)
      have q3 := bulkF_part (d := y2.1) (l := [y0.1, y1.1, y2.1, y3.1]) (by simp)
      omega
    obtain ⟨f, fo, fc, hf, hfl, e2⟩ := trod_frameB rfl g2 hbs.1
    obtain ⟨dao, dac, xs, e3, hxa, hxl⟩ := open_intsB g3 hbs.2
    simp only [List.cons.injEq, and_true] at e0 e1 e2 e3
    obtain ⟨r2, r3, r4, r5⟩ := e2
    subst e0 e1 e3 r2 r3 r4 r5
    exact ⟨(z0, z1, f, xs), fo, fc, dao, dac, hf, hxa, hfl, Nat.le_trans hxl hbs.2, rfl⟩
theorem open_ops14 {fuel : Nat} {ao : Option Addr} {len cap : Nat} {x : DataW H × List MemPlace} (h : DataW.trod enc Try.prog w 0 spare held fuel 22 [.slice ao len cap] = some x) (hb : Rows.uptoBulk x.1 ≤ 1048576) :
    ∃ os : List OpF, os.length = len ∧ OpsF w ao os ∧ len ≤ 1048576 ∧ ∀ o ∈ os, o.2.2.1.2.2.2.length ≤ 1048576 ∧ o.2.2.2.length ≤ 1048576 := by
  rcases open_elemsB Try.underlying22 cells_op14 (by omega) h with ⟨rfl, rfl, rfl⟩ | ⟨a, rfl, hl1, hl2, hln, hall⟩
  · exact ⟨[], rfl, .inl rfl, by omega, by simp⟩
  · have each : ∀ i, i < len → ∃ y : OpF, (y.2.2.1.2.2.2.length ≤ 1048576 ∧ y.2.2.2.length ≤ 1048576) ∧ ∃ fo fc dao dac, w.cell? ⟨a.block, a.off + i * 7, none⟩ = some (.int .i64 y.1) ∧ w.cell? ⟨a.block, a.off + i * 7 + 1, none⟩ = some (.bool y.2.1) ∧ w.cell? ⟨a.block, a.off + i * 7 + 2, none⟩ = some (.int .i64 y.2.2.1.1) ∧ w.cell? ⟨a.block, a.off + i * 7 + 3, none⟩ = some (.bool y.2.2.1.2.1) ∧ w.cell? ⟨a.block, a.off + i * 7 + 4, none⟩ = some (.int .i64 y.2.2.1.2.2.1) ∧ w.cell? ⟨a.block, a.off + i * 7 + 5, none⟩ = some (.slice fo y.2.2.1.2.2.2.length fc) ∧ w.cell? ⟨a.block, a.off + i * 7 + 6, none⟩ = some (.slice dao y.2.2.2.length dac) ∧ Arg w fo y.2.2.1.2.2.2 fc ∧ Arg w dao y.2.2.2 dac := by
      intro i hi
      obtain ⟨_, _, cs, n, y, hl, hcell, hy, hyb⟩ := hall i hi
      obtain ⟨z, fo, fc, dao, dac, h2, h3, h4, h5, rfl⟩ := trod_op14 hl hy (Nat.le_trans hyb hb)
      exact ⟨z, ⟨h4, h5⟩, fo, fc, dao, dac, by simpa using hcell 0 (by omega), by simpa using hcell 1 (by omega), by simpa using hcell 2 (by omega), by simpa using hcell 3 (by omega), by simpa using hcell 4 (by omega), by simpa using hcell 5 (by omega), by simpa using hcell 6 (by omega), h2, h3⟩
    obtain ⟨f, hf⟩ := Classical.axiomOfChoice (fun i : Fin len => each i i.2)
    refine ⟨List.ofFn f, by simp, ?_, Nat.le_trans hln hb, fun y hy => ?_⟩
    · by_cases h0 : len = 0
      · subst h0; exact .inl (by simp)
      · obtain ⟨ea, hlt, _⟩ := hall 0 (by omega)
        refine .inr ⟨a.block, a.off, by rw [← ea], hlt, fun i hi => ?_⟩
        have hi' : i < len := by simpa using hi
        simpa using (hf ⟨i, hi'⟩).2
    · obtain ⟨i, rfl⟩ := List.mem_ofFn.1 hy
      exact (hf i).1
end
end Go.Proofs.Ytikcocjbbbdmgaa
