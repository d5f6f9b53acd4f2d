/- Frames that came in, opened, and how much there is of them. -/
import Derived.Test.YtikcocjbbbdmgaaRows
import Derived.Test.YtikcocjbbbdmgaaSpineOpen
import Derived.OpenShut
namespace Go.Proofs.Ytikcocjbbbdmgaa
set_option maxRecDepth 100000
set_option linter.unusedVariables false
open Go.RowKit Go.Deep
theorem bulkF_one {H : Type} (d : DataW H) : 1 ≤ Rows.uptoBulk d := by
  cases d with
  | lit l => cases l <;> simp [Rows.uptoBulk]
  | nil => simp [Rows.uptoBulk]
  | ptr d => simp [Rows.uptoBulk]
  | slice elems spare => simp [Rows.uptoBulk]
  | agg parts => simp [Rows.uptoBulk]
  | iface t d => simp [Rows.uptoBulk]
  | map entries => simp [Rows.uptoBulk]
  | held h => simp [Rows.uptoBulk]
theorem bulkF_part {H : Type} {d : DataW H} {l : List (DataW H)} (h : d ∈ l) : Rows.uptoBulk d ≤ Rows.uptoBulkAll l := by
  induction l with
  | nil => cases h
  | cons x r ih =>
    simp only [Rows.uptoBulkAll]
    rcases List.mem_cons.1 h with e | e
    · subst e; omega
    · have := ih e; omega
theorem bulkF_length {H : Type} (l : List (DataW H)) : l.length ≤ Rows.uptoBulkAll l := by
  induction l with
  | nil => simp [Rows.uptoBulkAll]
  | cons x r ih => have := bulkF_one x; simp only [Rows.uptoBulkAll, List.length_cons]; omega
theorem bulkF_slice {H : Type} (elems spare : List (DataW H)) : Rows.uptoBulkAll elems ≤ Rows.uptoBulk (.slice elems spare) := by
  simp only [Rows.uptoBulk]; omega
theorem bulkF_agg {H : Type} (parts : List (DataW H)) : Rows.uptoBulkAll parts ≤ Rows.uptoBulk (.agg parts) := by
  simp only [Rows.uptoBulk]; omega
section
variable {H : Type} {enc : TypeId × Value → H} {w : World} {spare : Nat → Bool} {held : Bool}
set_option maxRecDepth 100000 in
/-- The elements of a slice, their weights among its own. -/
theorem open_elemsB {t e c fuel : Nat} {ao : Option Addr} {len cap : Nat} {x : DataW H × List MemPlace} (ht : Try.prog.underlying t = some (.slice e)) (hc : Try.prog.cellsOf e = c) (h0 : 0 < c) (h : DataW.trod enc Try.prog w 0 spare held fuel t [.slice ao len cap] = some x) :
    (ao = none ∧ len = 0 ∧ cap = 0) ∨ ∃ a, ao = some a ∧ len ≤ cap ∧ cap ≤ maxLen ∧ len ≤ Rows.uptoBulk x.1 ∧ ∀ i, i < len → a = ⟨a.block, a.off, none⟩ ∧ a.block < w.heap.size ∧ ∃ cs n y, cs.length = c ∧ (∀ j, j < c → w.cell? ⟨a.block, a.off + i * c + j, none⟩ = cs[j]?) ∧ DataW.trod enc Try.prog w 0 spare held n e cs = some y ∧ Rows.uptoBulk y.1 ≤ Rows.uptoBulk x.1 := by
  rcases open_slice ht h with ⟨hcs, _⟩ | ⟨a, len', cap', m, n, D, Pl, hcs, _, hl, hm, hmm, rfl, hx⟩
  · simp at hcs; exact .inl ⟨hcs.1, hcs.2.1, hcs.2.2⟩
  · simp at hcs
    obtain ⟨rfl, rfl, rfl⟩ := hcs
    have h1 := bulkF_length ((List.range len).map D)
    have h2 := bulkF_slice ((List.range len).map D) ((List.range (m - len)).map fun j => D (len + j))
    have hb : len ≤ Rows.uptoBulk (DataW.slice ((List.range len).map D) ((List.range (m - len)).map fun j => D (len + j))) := by simp at h1; omega
    refine .inr ⟨a, rfl, hl, hm, hb, fun i hi => ?_⟩
    have hmi : i < m := by rw [hmm]; split <;> omega
    have hm0 : 0 < m := by omega
    obtain ⟨cs0, g0, _⟩ := hx 0 hm0
    rw [hc] at g0
    obtain ⟨_, gl, gc⟩ := World.cells?_some g0
    have hsp : a.spot = none := by
      have := gc 0 h0
      have hv : cs0[0]? = some (cs0[0]'(by omega)) := List.getElem?_eq_getElem (by omega)
      rw [hv] at this
      simp [Addr.add] at this
      exact World.cell?_spot this
    have hlt : a.block < w.heap.size := World.cells?_block (by simpa [Addr.add] using g0) h0
    have ea : a = ⟨a.block, a.off, none⟩ := by cases a; simp_all
    obtain ⟨cs, g1, g2⟩ := hx i hmi
    rw [hc] at g1
    obtain ⟨_, gl1, gc1⟩ := World.cells?_some g1
    refine ⟨ea, hlt, cs, n, _, gl1, fun j hj => ?_, g2, ?_⟩
    · rw [← gc1 j hj, add_add]
      congr 1
      unfold Addr.add
      split
      · rw [ea]; simp; omega
      · simp
    · have := bulkF_part (d := D i) (l := (List.range len).map D) (List.mem_map.2 ⟨i, List.mem_range.2 hi, rfl⟩)
      show Rows.uptoBulk (D i) ≤ Rows.uptoBulk (DataW.slice ((List.range len).map D) ((List.range (m - len)).map fun j => D (len + j)))
      omega
/-- Numbers that came in. -/
theorem open_intsB {fuel : Nat} {cs : List Value} {x : DataW H × List MemPlace} (h : DataW.trod enc Try.prog w 0 spare held fuel 28 cs = some x) (hb : Rows.uptoBulk x.1 ≤ 1048576) :
    ∃ ao cap xs, cs = [.slice ao xs.length cap] ∧ Arg w ao xs cap ∧ xs.length ≤ Rows.uptoBulk x.1 := by
  have h' := h
  rcases open_slice Try.underlying28 h with ⟨hcs, _⟩ | ⟨a, len, cap, m, n, D, Pl, hcs, _⟩
  · exact ⟨none, 0, [], hcs, ⟨.inl rfl, Nat.le_refl _, fun _ => ⟨rfl, rfl⟩, by simp⟩, by simp⟩
  · subst hcs
    rcases open_elemsB Try.underlying28 cells_int (by omega) h' with ⟨e, _, _⟩ | ⟨a', e, hl1, hl2, hln, hall⟩
    · cases e
    · cases e
      have each : ∀ i, i < len → ∃ z : Int, w.cell? ⟨a.block, a.off + i, none⟩ = some (.int .i64 z) := by
        intro i hi
        obtain ⟨_, _, cs, n, y, hl, hcell, hy, _⟩ := hall i hi
        obtain ⟨z, e1, _, _⟩ := DataW.trod_int Try.underlying3 hy
        subst e1
        exact ⟨z, by simpa using hcell 0 (by omega)⟩
      obtain ⟨f, hf⟩ := Classical.axiomOfChoice (fun i : Fin len => each i i.2)
      refine ⟨some a, cap, List.ofFn f, by simp, ⟨?_, by simpa using hl1, (fun e => by cases e), by simp; omega⟩, by simpa using hln⟩
      by_cases h0 : len = 0
      · subst h0; exact .inl (by simp)
      · obtain ⟨ea, hlt, _⟩ := hall 0 (by omega)
        refine .inr ⟨a.block, a.off, by rw [← ea], hlt, fun i hi => ?_⟩
        have hi' : i < len := by simpa using hi
        simpa using hf ⟨i, hi'⟩
/-- A frame's cells. -/
theorem trod_frameB {fuel : Nat} {cs : List Value} {x : DataW H × List MemPlace} (hl : cs.length = 4) (h : DataW.trod enc Try.prog w 0 spare held fuel 30 cs = some x) (hb : Rows.uptoBulk x.1 ≤ 1048576) : ∃ (y : Fr) (xo : Option Addr) (xc : Nat), Arg w xo y.2.2.2 xc ∧ y.2.2.2.length ≤ 1048576 ∧ cs = [.int .i64 y.1, .bool y.2.1, .int .i64 y.2.2.1, .slice xo y.2.2.2.length xc] := by
  obtain ⟨y0, y1, y2, y3, n', hyd, hl', g0, g1, g2, g3⟩ := trod_struct4F Try.underlying30 h
  match cs, hl with
  | [c0, c1, c2, c3], _ =>
    simp only [cells_int, cells_boolF, cells_intsF, List.drop_zero, List.take_succ_cons, List.take_zero, List.drop_succ_cons] at g0 g1 g2 g3
    obtain ⟨z0, e0, _, _⟩ := DataW.trod_int Try.underlying3 g0
    obtain ⟨z1, e1, _⟩ := DataW.trod_bool Try.underlying4 g1
    obtain ⟨z2, e2, _, _⟩ := DataW.trod_int Try.underlying3 g2
    have hb3 : Rows.uptoBulk y3.1 ≤ 1048576 := by
      rw [hyd] at hb
      have q1 := bulkF_agg [y0.1, y1.1, y2.1, y3.1]
      have q2 := bulkF_part (d := y3.1) (l := [y0.1, y1.1, y2.1, y3.1]) (by simp)
      omega
    obtain ⟨xo, xc, xs, e3, hxa, hxl⟩ := open_intsB g3 hb3
    simp only [List.cons.injEq, and_true] at e0 e1 e2 e3
    subst e0 e1 e2 e3
    exact ⟨(z0, z1, z2, xs), xo, xc, hxa, Nat.le_trans hxl hb3, rfl⟩
theorem open_framesB {fuel : Nat} {ao : Option Addr} {len cap : Nat} {x : DataW H × List MemPlace} (h : DataW.trod enc Try.prog w 0 spare held fuel 35 [.slice ao len cap] = some x) (hb : Rows.uptoBulk x.1 ≤ 1048576) :
    ∃ l : List Fr, l.length = len ∧ FsM (fun k => k < w.heap.size) w ao l ∧ len ≤ 1048576 ∧ ∀ y ∈ l, y.2.2.2.length ≤ 1048576 := by
  rcases open_elemsB Try.underlying35 cells_frame (by omega) h with ⟨rfl, rfl, rfl⟩ | ⟨a, rfl, hl1, hl2, hln, hall⟩
  · exact ⟨[], rfl, .inl rfl, by omega, by simp⟩
  · have each : ∀ i, i < len → ∃ y : Fr, y.2.2.2.length ≤ 1048576 ∧ ∃ xo xc, w.cell? ⟨a.block, a.off + i * 4, none⟩ = some (.int .i64 y.1) ∧ w.cell? ⟨a.block, a.off + i * 4 + 1, none⟩ = some (.bool y.2.1) ∧ w.cell? ⟨a.block, a.off + i * 4 + 2, none⟩ = some (.int .i64 y.2.2.1) ∧ w.cell? ⟨a.block, a.off + i * 4 + 3, none⟩ = some (.slice xo y.2.2.2.length xc) ∧ Arg w xo y.2.2.2 xc := by
      intro i hi
      obtain ⟨_, _, cs, n, y, hl, hcell, hy, hyb⟩ := hall i hi
      obtain ⟨z, xo, xc, h2, h3, rfl⟩ := trod_frameB hl hy (Nat.le_trans hyb hb)
      exact ⟨z, h3, xo, xc, by simpa using hcell 0 (by omega), by simpa using hcell 1 (by omega), by simpa using hcell 2 (by omega), by simpa using hcell 3 (by omega), h2⟩
    obtain ⟨f, hf⟩ := Classical.axiomOfChoice (fun i : Fin len => each i i.2)
    refine ⟨List.ofFn f, by simp, ?_, Nat.le_trans hln hb, fun y hy => ?_⟩
    · by_cases h0 : len = 0
      · subst h0; exact .inl (by simp)
      · obtain ⟨ea, hlt, _⟩ := hall 0 (by omega)
        refine .inr ⟨a.block, a.off, by rw [← ea], hlt, fun i hi => ?_⟩
        have hi' : i < len := by simpa using hi
        obtain ⟨_, xo, xc, n0, n1, n2, n3, n4⟩ := hf ⟨i, hi'⟩
        refine ⟨xo, xc, by simpa using n0, by simpa using n1, by simpa using n2, by simpa using n3, by simpa using n4, fun hne a q => ?_⟩
        simp at hne
        exact n4.at'.ltF (by simpa using hne) q
    · obtain ⟨i, rfl⟩ := List.mem_ofFn.1 hy
      exact (hf i).1
/-- One frame that came in. -/
theorem open_framev {r : Go.Reach} {b0 : Nat} {v : Value} {d : DataW H} {p : List MemPlace} (hv : Value.okWide Try.prog w r b0 30 v) (h : DataW.Trod enc Try.prog w 0 spare held 30 v d p) (hb : Rows.uptoBulk d ≤ 1048576) :
    ∃ (y : Fr) (xo : Option Addr) (xc : Nat), v = frV y xo xc ∧ Arg w xo y.2.2.2 xc ∧ y.2.2.2.length ≤ 1048576 := by
  obtain ⟨cs, rfl, _⟩ := Go.WideShapes.okWide_struct Try.underlying30 hv
  obtain ⟨fuel, hf⟩ := h
  have hl : (Value.agg cs).cells.toList.length = 4 := by
    obtain ⟨_, _, _, _, _, _, hl', _⟩ := trod_struct4F Try.underlying30 hf
    rw [hl', cells_frame]
  obtain ⟨y, xo, xc, h1, h2, h3⟩ := trod_frameB hl hf hb
  refine ⟨y, xo, xc, ?_, h1, h2⟩
  have : cs = #[.int .i64 y.1, .bool y.2.1, .int .i64 y.2.2.1, .slice xo y.2.2.2.length xc] := by
    apply Array.toList_inj.1
    simpa [Value.cells] using h3
  rw [this]
end
end Go.Proofs.Ytikcocjbbbdmgaa
