/- The arguments of layer 11's statements, opened: numbers of the machine's range, raw calls. -/
import Derived.Test.YtcbplgfkgkefeaaHeapPick
import Derived.SizedLaws
namespace Go.Proofs.Ytcbplgfkgkefeaa
set_option linter.unusedVariables false
open Go.RowKit Go.Deep
theorem i64_wf {n : Int} (h : (Lit.int .i64 n).wf = true) : I64 n := by
  have h1 : (IntKind.i64.min ≤ n) ∧ n ≤ IntKind.i64.max := by simpa [Lit.wf] using h
  have e1 : IntKind.i64.min = -9223372036854775808 := by decide
  have e2 : IntKind.i64.max = 9223372036854775807 := by decide
  omega
/-- A raw call: kind, and three numbers. -/
abbrev Raw4 := Int × Int × Int × Int
def Raw4.ok (x : Raw4) : Prop := I64 x.1 ∧ I64 x.2.1 ∧ I64 x.2.2.1 ∧ I64 x.2.2.2
abbrev rawV (x : Raw4) : Value := .agg #[.int .i64 x.1, .int .i64 x.2.1, .int .i64 x.2.2.1, .int .i64 x.2.2.2]
/-- Raw calls in memory. -/
def RawsAt (w : World) (ro : Option Addr) (rs : List Raw4) : Prop :=
  rs = [] ∨ ∃ b off, ro = some ⟨b, off, none⟩ ∧ b < w.heap.size ∧ ∀ i (h : i < rs.length), w.cell? ⟨b, off + i * 4, none⟩ = some (.int .i64 rs[i].1) ∧ w.cell? ⟨b, off + i * 4 + 1, none⟩ = some (.int .i64 rs[i].2.1) ∧ w.cell? ⟨b, off + i * 4 + 2, none⟩ = some (.int .i64 rs[i].2.2.1) ∧ w.cell? ⟨b, off + i * 4 + 3, none⟩ = some (.int .i64 rs[i].2.2.2)
theorem RawsAt.same {w w' : World} {ro : Option Addr} {rs : List Raw4} (h : RawsAt w ro rs) (hk : Same0 w w') : RawsAt w' ro rs := by
  refine h.imp id ?_
  rintro ⟨b, off, rfl, hlt, hc⟩
  refine ⟨b, off, rfl, Nat.lt_of_lt_of_le hlt hk.size, fun i hi => ?_⟩
  obtain ⟨h0, h1, h2, h3⟩ := hc i hi
  exact ⟨(hk.cell (p := ⟨b, off + i * 4, none⟩) hlt (fun f => f)).trans h0, (hk.cell (p := ⟨b, off + i * 4 + 1, none⟩) hlt (fun f => f)).trans h1, (hk.cell (p := ⟨b, off + i * 4 + 2, none⟩) hlt (fun f => f)).trans h2, (hk.cell (p := ⟨b, off + i * 4 + 3, none⟩) hlt (fun f => f)).trans h3⟩
theorem RawsAt.get {w : World} {ro : Option Addr} {rs : List Raw4} (h : RawsAt w ro rs) {i : Nat} (hi : i < rs.length) : ∃ b off, ro = some ⟨b, off, none⟩ ∧ w.cell? ⟨b, off + i * 4, none⟩ = some (.int .i64 rs[i].1) ∧ w.cell? ⟨b, off + i * 4 + 1, none⟩ = some (.int .i64 rs[i].2.1) ∧ w.cell? ⟨b, off + i * 4 + 2, none⟩ = some (.int .i64 rs[i].2.2.1) ∧ w.cell? ⟨b, off + i * 4 + 3, none⟩ = some (.int .i64 rs[i].2.2.2) := by
  rcases h with rfl | ⟨b, off, e, hlt, hc⟩
  · simp at hi
  · exact ⟨b, off, e, hc i hi⟩
theorem cells_raw : Try.prog.cellsOf 53 = 4 := by kernel_rfl
section
variable {H : Type} {enc : TypeId × Value → H} {w : World} {spare : Nat → Bool} {held : Bool}
theorem trod_four {t : TypeId} {f0 f1 f2 f3 : Field} {fuel : Nat} {cs : List Value} {x : DataW H × List MemPlace} (ht : Try.prog.underlying t = some (.struct #[f0, f1, f2, f3])) (h : DataW.trod enc Try.prog w 0 spare held fuel t cs = some x) :
    ∃ y0 y1 y2 y3 n, DataW.trod enc Try.prog w 0 spare held n f0.type ((cs.drop f0.offset).take (Try.prog.cellsOf f0.type)) = some y0 ∧
      DataW.trod enc Try.prog w 0 spare held n f1.type ((cs.drop f1.offset).take (Try.prog.cellsOf f1.type)) = some y1 ∧ DataW.trod enc Try.prog w 0 spare held n f2.type ((cs.drop f2.offset).take (Try.prog.cellsOf f2.type)) = some y2 ∧
      DataW.trod enc Try.prog w 0 spare held n f3.type ((cs.drop f3.offset).take (Try.prog.cellsOf f3.type)) = some y3 := by
  obtain ⟨xs, n, hn, rfl, hl, hlen, hf⟩ := DataW.trod_struct ht h
  match xs, hlen with
  | [y0, y1, y2, y3], _ => exact ⟨y0, y1, y2, y3, n, by simpa using hf 0 f0 rfl, by simpa using hf 1 f1 rfl, by simpa using hf 2 f2 rfl, by simpa using hf 3 f3 rfl⟩
/-- A raw call's cells. -/
theorem trod_raw {fuel : Nat} {cs : List Value} {x : DataW H × List MemPlace} (hl : cs.length = 4) (h : DataW.trod enc Try.prog w 0 spare held fuel 53 cs = some x) : ∃ r : Raw4, r.ok ∧ cs = [.int .i64 r.1, .int .i64 r.2.1, .int .i64 r.2.2.1, .int .i64 r.2.2.2] := by
  obtain ⟨y0, y1, y2, y3, n', g0, g1, g2, g3⟩ := trod_four Try.underlying53 h
  match cs, hl with
  | [c0, c1, c2, c3], _ =>
    simp only [cells_int, List.drop_zero, List.take_succ_cons, List.take_zero, List.drop_succ_cons] at g0 g1 g2 g3
    obtain ⟨z0, e0, _, w0⟩ := DataW.trod_int Try.underlying3 g0
    obtain ⟨z1, e1, _, w1⟩ := DataW.trod_int Try.underlying3 g1
    obtain ⟨z2, e2, _, w2⟩ := DataW.trod_int Try.underlying3 g2
    obtain ⟨z3, e3, _, w3⟩ := DataW.trod_int Try.underlying3 g3
    simp only [List.cons.injEq, and_true] at e0 e1 e2 e3
    subst e0 e1 e2 e3
    exact ⟨(z0, z1, z2, z3), ⟨i64_wf w0, i64_wf w1, i64_wf w2, i64_wf w3⟩, rfl⟩
theorem open_raws {fuel : Nat} {ao : Option Addr} {len cap : Nat} {x : DataW H × List MemPlace} (h : DataW.trod enc Try.prog w 0 spare held fuel 38 [.slice ao len cap] = some x) :
    ∃ rs : List Raw4, rs.length = len ∧ RawsAt w ao rs ∧ len ≤ maxLen ∧ ∀ r ∈ rs, r.ok := by
  rcases open_elems Try.underlying38 cells_raw (by omega) h with ⟨rfl, rfl, rfl⟩ | ⟨a, rfl, hl1, hl2, hall⟩
  · exact ⟨[], rfl, .inl rfl, Nat.zero_le _, by simp⟩
  · have each : ∀ i, i < len → ∃ r : Raw4, r.ok ∧ w.cell? ⟨a.block, a.off + i * 4, none⟩ = some (.int .i64 r.1) ∧ w.cell? ⟨a.block, a.off + i * 4 + 1, none⟩ = some (.int .i64 r.2.1) ∧ w.cell? ⟨a.block, a.off + i * 4 + 2, none⟩ = some (.int .i64 r.2.2.1) ∧ w.cell? ⟨a.block, a.off + i * 4 + 3, none⟩ = some (.int .i64 r.2.2.2) := by
      intro i hi
      obtain ⟨_, _, cs, n, y, hl, hcell, hy⟩ := hall i hi
      obtain ⟨r, hr, rfl⟩ := trod_raw hl hy
      exact ⟨r, hr, by simpa using hcell 0 (by omega), by simpa using hcell 1 (by omega), by simpa using hcell 2 (by omega), by simpa using hcell 3 (by omega)⟩
    obtain ⟨f, hf⟩ := Classical.axiomOfChoice (r := fun (i : Fin len) (r : Raw4) => r.ok ∧ w.cell? ⟨a.block, a.off + i * 4, none⟩ = some (.int .i64 r.1) ∧ w.cell? ⟨a.block, a.off + i * 4 + 1, none⟩ = some (.int .i64 r.2.1) ∧ w.cell? ⟨a.block, a.off + i * 4 + 2, none⟩ = some (.int .i64 r.2.2.1) ∧ w.cell? ⟨a.block, a.off + i * 4 + 3, none⟩ = some (.int .i64 r.2.2.2)) (fun i => each i i.2)
    refine ⟨List.ofFn f, by simp, ?_, by omega, fun r hr => ?_⟩
    · by_cases h0 : len = 0
      · subst h0; exact .inl (by simp)
      · obtain ⟨ea, hlt, _⟩ := hall 0 (by omega)
        refine .inr ⟨a.block, a.off, by rw [← ea], hlt, fun i hi => ?_⟩
        have hi' : i < len := by simpa using hi
        simpa using (hf ⟨i, hi'⟩).2
    · obtain ⟨i, rfl⟩ := List.mem_ofFn.1 hr
      exact (hf i).1
theorem open_raw1 {r : Go.Reach} {b0 : Nat} {v : Value} {d : DataW H} {p : List MemPlace} (hv : Value.okWide Try.prog w r b0 53 v) (h : DataW.Trod enc Try.prog w 0 spare held 53 v d p) : ∃ x : Raw4, x.ok ∧ v = rawV x := by
  obtain ⟨cs, rfl, _⟩ := Go.WideShapes.okWide_struct Try.underlying53 hv
  obtain ⟨fuel, hf⟩ := h
  have hf' : DataW.trod enc Try.prog w 0 spare held fuel 53 cs.toList = some (d, p) := by simpa [Value.cells] using hf
  obtain ⟨xs, n, hn, _, hl, _, _⟩ := DataW.trod_struct Try.underlying53 hf'
  rw [cells_raw] at hl
  obtain ⟨x, hx, e⟩ := trod_raw hl hf'
  refine ⟨x, hx, ?_⟩
  obtain ⟨l⟩ := cs
  simp at e
  rw [e]
theorem open_ints64 {t fuel : Nat} {ao : Option Addr} {len cap : Nat} {x : DataW H × List MemPlace} (ht : Try.prog.underlying t = some (.slice 3)) (h : DataW.trod enc Try.prog w 0 spare held fuel t [.slice ao len cap] = some x) (hw : ∀ n ∈ x.1.weights Try.prog t, n ≤ reachBytes) :
    ∃ xs : List Int, xs.length = len ∧ Arg w ao xs cap ∧ ∀ z ∈ xs, I64 z := by
  obtain ⟨ao', cap', xs, e, ha⟩ := open_ints ht h hw
  simp only [List.cons.injEq, Value.slice.injEq, and_true] at e
  obtain ⟨rfl, rfl, rfl⟩ := e
  refine ⟨xs, rfl, ha, fun z hz => ?_⟩
  obtain ⟨i, hi, rfl⟩ := List.mem_iff_getElem.1 hz
  obtain ⟨b, off, e, hlt, hc⟩ := ha.at'.get hi
  rcases open_elems ht cells_int (by omega) h with ⟨e1, _, _⟩ | ⟨a', e1, hl1, hl2, hall⟩
  · rw [e] at e1; cases e1
  · rw [e] at e1
    cases e1
    obtain ⟨_, _, cs, n, y, hl, hcell, hy⟩ := hall i hi
    obtain ⟨z, e2, _, wf⟩ := DataW.trod_int Try.underlying3 hy
    subst e2
    have q := hcell 0 (by omega)
    simp at q
    rw [hc] at q
    simp at q
    rw [q]
    exact i64_wf wf
end
end Go.Proofs.Ytcbplgfkgkefeaa
