/- The argument of layer 5's statements, opened: symbols, a pattern, a term, a place, binds. -/
import Derived.Test.YtbcchplcppogoaaOpenCase
import Derived.Test.YtbcchplcppogoaaMatchTable
namespace Go.Proofs.Ytbcchplcppogoaa
set_option linter.unusedVariables false
open Go.RowKit Go.Deep
section
variable {H : Type} {enc : TypeId × Value → H} {w : World} {spare : Nat → Bool} {held : Bool}
theorem weightsAll_mem {P : Program} {e : TypeId} {l : List (DataW H)} {d : DataW H} (h : d ∈ l) {n : Nat} (hn : n ∈ d.weights P e) : n ∈ DataW.weightsAll P e l := by
  induction l with
  | nil => cases h
  | cons x r ih =>
    simp only [DataW.weightsAll, List.mem_append]
    rcases List.mem_cons.1 h with q | q
    · subst q; exact .inl hn
    · exact .inr (ih q)
set_option maxRecDepth 100000 in
/-- The elements of a slice, their weights among its own. -/
theorem open_elemsW {t e c fuel : Nat} {ao : Option Addr} {len cap : Nat} {x : DataW H × List MemPlace} (ht : Try.prog.underlying t = some (.slice e)) (hc : Try.prog.cellsOf e = c) (h0 : 0 < c) (h : DataW.trod enc Try.prog w 0 spare held fuel t [.slice ao len cap] = some x) (hw : ∀ n ∈ x.1.weights Try.prog t, n ≤ reachBytes) :
    (ao = none ∧ len = 0 ∧ cap = 0) ∨ ∃ a, ao = some a ∧ len ≤ cap ∧ cap ≤ maxLen ∧ len * Try.prog.bytesOf e ≤ reachBytes ∧ ∀ i, i < len → a = ⟨a.block, a.off, none⟩ ∧ a.block < w.heap.size ∧ ∃ cs n y, cs.length = c ∧ (∀ j, j < c → w.cell? ⟨a.block, a.off + i * c + j, none⟩ = cs[j]?) ∧ DataW.trod enc Try.prog w 0 spare held n e cs = some y ∧ ∀ n ∈ y.1.weights Try.prog e, n ≤ reachBytes := by
  rcases open_slice ht h with ⟨hcs, _⟩ | ⟨a, len', cap', m, n, D, Pl, hcs, _, hl, hm, hmm, rfl, hx⟩
  · simp at hcs; exact .inl ⟨hcs.1, hcs.2.1, hcs.2.2⟩
  · simp at hcs
    obtain ⟨rfl, rfl, rfl⟩ := hcs
    have hb : len * Try.prog.bytesOf e ≤ reachBytes := by
      have := hw ((((List.range len).map D).length + ((List.range (m - len)).map fun j => D (len + j)).length) * Try.prog.bytesOf e) (by simp [DataW.weights, ht])
      refine Nat.le_trans (Nat.mul_le_mul_right _ ?_) this
      simp
    refine .inr ⟨a, rfl, hl, hm, hb, fun i hi => ?_⟩
    have hmi : i < m := by rw [hmm]; split <;> omega
    have hm0 : 0 < m := by omega
    obtain ⟨cs0, g0, _⟩ := hx 0 hm0
    rw [hc] at g0
    obtain ⟨_, gl, gc⟩ := World.cells?_some g0
    have hsp : a.spot = none := by
      have := gc 0 h0
      have hv : cs0[0]? = some (cs0[0]'(by omega)) := List.getElem?_eq_getElem (by omega)
      rw [hv] at this
      simp [Addr.add] at this
      exact World.cell?_spot this
    have hlt : a.block < w.heap.size := World.cells?_block (by simpa [Addr.add] using g0) h0
    have ea : a = ⟨a.block, a.off, none⟩ := by cases a; simp_all
    obtain ⟨cs, g1, g2⟩ := hx i hmi
    rw [hc] at g1
    obtain ⟨_, gl1, gc1⟩ := World.cells?_some g1
    refine ⟨ea, hlt, cs, n, _, gl1, fun j hj => ?_, g2, fun k hk => hw k ?_⟩
    · rw [← gc1 j hj, add_add]
      congr 1
      unfold Addr.add
      split
      · rw [ea]; simp; omega
      · simp
    · simp only [DataW.weights, ht, List.mem_cons, List.mem_append]
      exact .inr (.inl (weightsAll_mem (List.mem_map.2 ⟨i, by simpa using hi, rfl⟩) hk))
theorem trod_pair {P : Program} {base : Nat} {t : TypeId} {f0 f1 : Field} {fuel : Nat} {cs : List Value} {x : DataW H × List MemPlace} (ht : P.underlying t = some (.struct #[f0, f1])) (h : DataW.trod enc P w base spare held fuel t cs = some x) :
    ∃ y0 y1 n, x.1 = .agg [y0.1, y1.1] ∧ cs.length = P.cellsOf t ∧ DataW.trod enc P w base spare held n f0.type ((cs.drop f0.offset).take (P.cellsOf f0.type)) = some y0 ∧ DataW.trod enc P w base spare held n f1.type ((cs.drop f1.offset).take (P.cellsOf f1.type)) = some y1 := by
  obtain ⟨xs, n, _, rfl, hl, hlen, hf⟩ := DataW.trod_struct ht h
  match xs, hlen with
  | [y0, y1], _ => exact ⟨y0, y1, n, by simp, hl, by simpa using hf 0 f0 rfl, by simpa using hf 1 f1 rfl⟩
theorem cells_bind : Try.prog.cellsOf 46 = 2 := by kernel_rfl
theorem bytes_bind : Try.prog.bytesOf 46 = 32 := by kernel_rfl
theorem cells_binds : Try.prog.cellsOf 26 = 1 := by kernel_rfl
/-- Binds that came in. -/
structure ArgB (w : World) (lo : Option Addr) (bs : List Bd) (cap : Nat) : Prop where
  at' : BindsAt w lo bs
  cap' : bs.length ≤ cap
  size : bs.length * 32 ≤ 140737488351232
  each : ∀ x ∈ bs, x.2.length * 8 ≤ 140737488351232
set_option maxRecDepth 100000 in
theorem open_binds {fuel : Nat} {ao : Option Addr} {len cap : Nat} {x : DataW H × List MemPlace} (h : DataW.trod enc Try.prog w 0 spare held fuel 26 [.slice ao len cap] = some x) (hw : ∀ n ∈ x.1.weights Try.prog 26, n ≤ reachBytes) :
    ∃ bs, bs.length = len ∧ ArgB w ao bs cap := by
  rcases open_elemsW Try.underlying26 cells_bind (by omega) h hw with ⟨rfl, rfl, rfl⟩ | ⟨a, rfl, hl1, hl2, hsz, hall⟩
  · exact ⟨[], rfl, .inl rfl, Nat.le_refl _, by simp, by simp⟩
  · rw [bytes_bind] at hsz
    have each : ∀ i, i < len → ∃ b : Bd, w.cell? ⟨a.block, a.off + i * 2, none⟩ = some (.int .i64 b.1) ∧ (∃ to' c, w.cell? ⟨a.block, a.off + i * 2 + 1, none⟩ = some (.slice to' b.2.length c) ∧ Arg w to' b.2 c) := by
      intro i hi
      obtain ⟨_, _, cs, n, y, hl, hcell, hy, hyw⟩ := hall i hi
      obtain ⟨y0, y1, n', hyd, hl', g0, g1⟩ := trod_pair Try.underlying46 hy
      match cs, hl with
      | [c0, c1], _ =>
        simp only [cells_int, cells_term, List.drop_zero, List.take_succ_cons, List.take_zero, List.drop_succ_cons] at g0 g1
        obtain ⟨z, e0, _, _⟩ := DataW.trod_int Try.underlying3 g0
        have hyw1 : ∀ n ∈ y1.1.weights Try.prog 25, n ≤ reachBytes := fun n hn => hyw n (by
          rw [hyd]
          simp only [DataW.weights, Try.underlying46]
          simp [DataW.weightsEach, hn])
        obtain ⟨to', c, xs, e1, k1⟩ := open_ints Try.underlying25 g1 hyw1
        simp only [List.cons.injEq, and_true] at e0 e1
        subst e0 e1
        exact ⟨(z, xs), by simpa using hcell 0 (by omega), to', c, by simpa using hcell 1 (by omega), k1⟩
    obtain ⟨f, hf⟩ := Classical.axiomOfChoice (r := fun (i : Fin len) (b : Bd) => w.cell? ⟨a.block, a.off + i * 2, none⟩ = some (.int .i64 b.1) ∧ (∃ to' c, w.cell? ⟨a.block, a.off + i * 2 + 1, none⟩ = some (.slice to' b.2.length c) ∧ Arg w to' b.2 c)) (fun i => each i i.2)
    refine ⟨List.ofFn f, by simp, ?_, by simpa using hl1, by simpa [reachBytes] using hsz, ?_⟩
    · by_cases h0 : len = 0
      · subst h0; exact .inl (by simp)
      · obtain ⟨ea, hlt, _⟩ := hall 0 (by omega)
        refine .inr ⟨a.block, a.off, by rw [← ea], hlt, fun i hi => ?_⟩
        have hi' : i < len := by simpa using hi
        obtain ⟨q1, to', c, q2, q3⟩ := hf ⟨i, hi'⟩
        simp only [List.getElem_ofFn]
        exact ⟨q1, to', c, q2, q3.at', q3.cap', q3.nil⟩
    · intro x hx
      obtain ⟨i, rfl⟩ := (List.mem_ofFn.1 hx)
      obtain ⟨_, _, _, _, q3⟩ := hf i
      exact q3.size
theorem cells_Case5 : Try.prog.cellsOf 28 = 5 := by kernel_rfl
/-- What a Case holds. -/
structure Case5Is (w : World) (v : Value) (lo : Option Addr) (ll lc : Nat) (ls : List Sym) (po : Option Addr) (pc : Nat) (p : List Int) (so : Option Addr) (tc : Nat) (t : List Int) (at' : Int) (bo : Option Addr) (bc : Nat) (bs : List Bd) : Prop where
  eq : v = .agg #[.slice lo ll lc, .slice po p.length pc, .slice so t.length tc, .int .i64 at', .slice bo bs.length bc]
  syms : SymsAt w lo ll ls
  sl : ll ≤ maxLen
  p' : Arg w po p pc
  t' : Arg w so t tc
  b' : ArgB w bo bs bc
theorem open_case5 {r : Go.Reach} {b0 : Nat} {v : Value} {d : DataW H} {p : List MemPlace} (hv : Value.okWide Try.prog w r b0 28 v) (h : DataW.Trod enc Try.prog w 0 spare held 28 v d p) (hw : ∀ n ∈ d.weights Try.prog 28, n ≤ reachBytes) :
    ∃ lo ll lc ls po pc p so tc t at' bo bc bs, Case5Is w v lo ll lc ls po pc p so tc t at' bo bc bs := by
  obtain ⟨cs, rfl, _⟩ := Go.WideShapes.okWide_struct Try.underlying28 hv
  obtain ⟨fuel, hf⟩ := h
  have hf' : DataW.trod enc Try.prog w 0 spare held fuel 28 cs.toList = some (d, p) := by simpa [Value.cells] using hf
  obtain ⟨y0, y1, y2, y3, y4, n, hd, hl, h0, h1, h2, h3, h4⟩ := trod_struct5 Try.underlying28 hf'
  rw [cells_Case5] at hl
  obtain ⟨l⟩ := cs
  match l, hl with
  | [c0, c1, c2, c3, c4], _ =>
    simp only [cells_syms, cells_term, cells_int, cells_binds, List.drop_zero, List.take_succ_cons, List.take_zero, List.drop_succ_cons] at h0 h1 h2 h3 h4
    have hd' : d = .agg [y0.1, y1.1, y2.1, y3.1, y4.1] := hd
    subst hd'
    have hww : ∀ n ∈ DataW.weightsEach Try.prog [23, 25, 25, 3, 26] [y0.1, y1.1, y2.1, y3.1, y4.1], n ≤ reachBytes := by
      intro n hn
      apply hw
      simpa [DataW.weights, Try.underlying28] using hn
    simp only [DataW.weightsEach, List.mem_append] at hww
    obtain ⟨lo, ll, lc, rfl⟩ := slice_one Try.underlying23 h0
    obtain ⟨ls, g1, g2⟩ := open_syms h0
    obtain ⟨po, pc, p, e1, k1⟩ := open_ints Try.underlying25 h1 (fun n hn => hww n (by simp [hn]))
    obtain ⟨so, tc, t, e2, k2⟩ := open_ints Try.underlying25 h2 (fun n hn => hww n (by simp [hn]))
    obtain ⟨z, e3, _, _⟩ := DataW.trod_int Try.underlying3 h3
    obtain ⟨bo, bl, bc, rfl⟩ := slice_one Try.underlying26 h4
    obtain ⟨bs, e4, k4⟩ := open_binds h4 (fun n hn => hww n (by simp [hn]))
    simp only [List.cons.injEq, and_true] at e1 e2 e3
    subst e1 e2 e3 e4
    exact ⟨lo, ll, lc, ls, po, pc, p, so, tc, t, z, bo, bc, bs, rfl, g1, g2, k1, k2, k4⟩
end
end Go.Proofs.Ytbcchplcppogoaa
