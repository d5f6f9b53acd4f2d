/- Two signatures, each with the document's, apart in memory: what a step and a copy leave of them. -/
import Derived.Test.YtaaoomociddopaaStep3
import Derived.Test.YtaaoomociddopaaOpen
import Derived.Lib.SmallJoins
namespace Go.Proofs.Ytaaoomociddopaa
open Go.RowKit Go.Deep
structure Half where
  b : Nat
  rb : Nat
  L : List Sym
  sv : Value
  mr : Option Nat
  rv : Value
def Half.ok (h : Half) (w : World) : Prop := Pair w h.b h.rb h.L h.sv h.mr h.rv
def Half.foot (h : Half) (k : Nat) : Prop := PFoot h.b h.rb h.sv h.mr h.rv k
/-- x and y lie from n₀ on, apart from each other and from the two lists that lead to them. -/
structure Core (n₀ : Nat) (wa : World) (x y : Half) (w : World) : Prop where
  p0 : x.ok w
  p1 : y.ok w
  ap : ∀ k, x.foot k → ¬ y.foot k
  nx : ∀ k, x.foot k → n₀ ≤ k ∧ k ≠ n₀ + 2 ∧ k ≠ n₀ + 5
  ny : ∀ k, y.foot k → n₀ ≤ k ∧ k ≠ n₀ + 2 ∧ k ≠ n₀ + 5
  kp : Kept (From n₀) wa w
  sz : n₀ + 5 < w.heap.size
theorem Core.symm {n₀ : Nat} {wa w : World} {x y : Half} (h : Core n₀ wa x y w) : Core n₀ wa y x w := ⟨h.p1, h.p0, fun k e e' => h.ap k e' e, h.ny, h.nx, h.kp, h.sz⟩
theorem Half.lt {x : Half} {w : World} (h : x.ok w) : ∀ k, x.foot k → k < w.heap.size := Pair.lt h
/-- Nothing that matters has turned. -/
theorem Core.kept {n₀ : Nat} {wa w w' : World} {x y : Half} {S : Nat → Prop} (h : Core n₀ wa x y w) (hk : Kept S w w') (hx : ∀ k, x.foot k → ¬ S k) (hy : ∀ k, y.foot k → ¬ S k) (hn : ∀ k, S k → n₀ ≤ k) : Core n₀ wa x y w' :=
  ⟨Pair.kept h.p0 hk hx, Pair.kept h.p1 hk hy, h.ap, h.nx, h.ny, h.kp.trans hk (fun k _ e => hn k e), Nat.lt_of_lt_of_le h.sz hk.size⟩
theorem Core.step {n₀ : Nat} {wa w w' : World} {x y : Half} (h : Core n₀ wa x y w) (hs : Stepped w x.b x.rb x.sv x.mr x.rv w') :
    ∃ L' sv' mr' rv', Core n₀ wa ⟨x.b, x.rb, L', sv', mr', rv'⟩ y w' ∧ Kept x.foot w w' := by
  obtain ⟨L', sv', mr', rv', hp, hk, hf⟩ := hs
  have hz := h.sz
  refine ⟨L', sv', mr', rv', ⟨hp, Pair.kept h.p1 hk (fun k e e' => h.ap k e' e), fun k e e' => ?_, fun k e => ?_, h.ny, h.kp.trans hk (fun k _ e => (h.nx k e).1), Nat.lt_of_lt_of_le h.sz hk.size⟩, hk⟩
  · rcases hf k e with e1 | e1
    · exact h.ap k e1 e'
    · have := Half.lt h.p1 k e'; omega
  · rcases hf k e with e1 | e1
    · exact h.nx k e1
    · omega
/-- The other one comes to be a copy. -/
theorem Core.copy {n₀ : Nat} {wa w w' : World} {x y z : Half} (h : Core n₀ wa x y w) (hk : Kept (fun k => k = n₀ + 2 ∨ k = n₀ + 5) w w') (hz : z.ok w') (hn : ∀ k, z.foot k → w.heap.size ≤ k) : Core n₀ wa x z w' := by
  have hsz := h.sz
  refine ⟨Pair.kept h.p0 hk (fun k e e' => ?_), hz, fun k e e' => ?_, h.nx, fun k e => ?_, h.kp.trans hk (fun k _ e => by show n₀ ≤ k; omega), Nat.lt_of_lt_of_le h.sz hk.size⟩
  · have := h.nx k e; omega
  · have h1 := Half.lt h.p0 k e
    have h2 := hn k e'
    omega
  · have := hn k e; omega
/-! ### the script -/
structure OpD where
  on : Int
  kd : Int
  n : Int
  x : Sym
def OpsAt (w : World) (ao : Option Addr) (len : Nat) (xs : List OpD) : Prop :=
  xs.length = len ∧ (len = 0 ∨ ∃ b off, ao = some ⟨b, off, none⟩ ∧ b < w.heap.size ∧ ∀ i (h : i < xs.length), w.cell? ⟨b, off + i * 6, none⟩ = some (.int .i64 xs[i].on) ∧ w.cell? ⟨b, off + i * 6 + 1, none⟩ = some (.int .i64 xs[i].kd) ∧ w.cell? ⟨b, off + i * 6 + 2, none⟩ = some (.int .i64 xs[i].n) ∧
    w.cell? ⟨b, off + i * 6 + 3, none⟩ = some (.string xs[i].x.name) ∧ w.cell? ⟨b, off + i * 6 + 4, none⟩ = some (.int .i64 xs[i].x.ar) ∧ w.cell? ⟨b, off + i * 6 + 5, none⟩ = some (.bool xs[i].x.df)) ∧
  ∀ o ∈ xs, (Lit.int .i64 o.on).wf = true ∧ (Lit.int .i64 o.n).wf = true ∧ o.x.name.size ≤ maxLen
theorem OpsAt.kept {w w' : World} {ao : Option Addr} {len : Nat} {xs : List OpD} (h : OpsAt w ao len xs) (hb : Below w.heap.size w w') : OpsAt w' ao len xs := by
  obtain ⟨h1, h2, h3⟩ := h
  refine ⟨h1, h2.imp id ?_, h3⟩
  rintro ⟨b, off, e, hlt, hc⟩
  refine ⟨b, off, e, Nat.lt_of_lt_of_le hlt hb.size, fun i hi => ?_⟩
  obtain ⟨a1, a2, a3, a4, a5, a6⟩ := hc i hi
  exact ⟨by rw [hb.cell hlt]; exact a1, by rw [hb.cell hlt]; exact a2, by rw [hb.cell hlt]; exact a3, by rw [hb.cell hlt]; exact a4, by rw [hb.cell hlt]; exact a5, by rw [hb.cell hlt]; exact a6⟩
structure OpCells (w : World) (b off k : Nat) (o : OpD) : Prop where
  on : w.cell? ⟨b, off + k * 6, none⟩ = some (.int .i64 o.on)
  kd : w.cell? ⟨b, off + k * 6 + 1, none⟩ = some (.int .i64 o.kd)
  n : w.cell? ⟨b, off + k * 6 + 2, none⟩ = some (.int .i64 o.n)
  nm : w.cell? ⟨b, off + k * 6 + 3, none⟩ = some (.string o.x.name)
  ar : w.cell? ⟨b, off + k * 6 + 4, none⟩ = some (.int .i64 o.x.ar)
  df : w.cell? ⟨b, off + k * 6 + 5, none⟩ = some (.bool o.x.df)
theorem OpsAt.op {w : World} {ao : Option Addr} {len k : Nat} {xs : List OpD} (h : OpsAt w ao len xs) (hk : k < len) : ∃ b off o, ao = some ⟨b, off, none⟩ ∧ b < w.heap.size ∧ OpCells w b off k o ∧ (Lit.int .i64 o.on).wf = true ∧ (Lit.int .i64 o.n).wf = true ∧ o.x.name.size ≤ maxLen := by
  obtain ⟨h1, h2, h3⟩ := h
  obtain ⟨b, off, e, hb, hc⟩ := h2.resolve_left (by omega)
  have hk' : k < xs.length := by omega
  obtain ⟨a0, a1, a2, a3, a4, a5⟩ := hc k hk'
  exact ⟨b, off, xs[k], e, hb, ⟨a0, a1, a2, a3, a4, a5⟩, h3 _ (List.getElem_mem hk')⟩
theorem OpCells.kept {w w' : World} {b off k n : Nat} {o : OpD} (h : OpCells w b off k o) (hb : Below n w w') (hlt : b < n) : OpCells w' b off k o :=
  ⟨by rw [hb.cell hlt]; exact h.on, by rw [hb.cell hlt]; exact h.kd, by rw [hb.cell hlt]; exact h.n, by rw [hb.cell hlt]; exact h.nm, by rw [hb.cell hlt]; exact h.ar, by rw [hb.cell hlt]; exact h.df⟩
section
variable {H : Type} {enc : TypeId × Value → H} {w : World} {spare : Nat → Bool} {held : Bool}
theorem cells_Op : Try.prog.cellsOf 37 = 6 := by kernel_rfl
theorem open_op {fuel : Nat} {cs : List Value} {x : DataW H × List MemPlace} (h : DataW.trod enc Try.prog w 0 spare held fuel 37 cs = some x) :
    ∃ o : OpD, cs = [.int .i64 o.on, .int .i64 o.kd, .int .i64 o.n, .string o.x.name, .int .i64 o.x.ar, .bool o.x.df] ∧ (Lit.int .i64 o.on).wf = true ∧ (Lit.int .i64 o.n).wf = true ∧ o.x.name.size ≤ maxLen := by
  obtain ⟨y0, y1, y2, y3, n, _, hl, h0, h1, h2, h3⟩ := Go.Joins.trod_struct4 Try.underlying37 h
  rw [cells_Op] at hl
  match cs, hl with
  | [c0, c1, c2, c3, c4, c5], _ =>
    simp only [cells_int, cells_Symbol, List.drop_zero, List.take_succ_cons, List.take_zero, List.drop_succ_cons] at h0 h1 h2 h3
    obtain ⟨a, e0, _, ha⟩ := DataW.trod_int Try.underlying3 h0
    obtain ⟨k, e1, _, _⟩ := DataW.trod_int Try.underlying3 h1
    obtain ⟨m, e2, _, hm⟩ := DataW.trod_int Try.underlying3 h2
    obtain ⟨s, e3, hs, _⟩ := open_sym h3
    simp only [List.cons.injEq, and_true] at e0 e1 e2 e3
    exact ⟨⟨a, k, m, s⟩, by rw [e0, e1, e2, e3.1, e3.2.1, e3.2.2], ha, hm, hs⟩
theorem open_ops {fuel : Nat} {ao : Option Addr} {len cap : Nat} {x : DataW H × List MemPlace} (h : DataW.trod enc Try.prog w 0 spare held fuel 24 [.slice ao len cap] = some x) : ∃ xs, OpsAt w ao len xs ∧ len ≤ maxLen := by
  rcases open_elems Try.underlying24 cells_Op (by omega) h with ⟨rfl, rfl, rfl⟩ | ⟨a, rfl, hl1, hl2, hall⟩
  · exact ⟨[], ⟨rfl, .inl rfl, by simp⟩, by simp⟩
  · have each : ∀ i, i < len → ∃ o : OpD, (w.cell? ⟨a.block, a.off + i * 6, none⟩ = some (.int .i64 o.on) ∧ w.cell? ⟨a.block, a.off + i * 6 + 1, none⟩ = some (.int .i64 o.kd) ∧ w.cell? ⟨a.block, a.off + i * 6 + 2, none⟩ = some (.int .i64 o.n) ∧
        w.cell? ⟨a.block, a.off + i * 6 + 3, none⟩ = some (.string o.x.name) ∧ w.cell? ⟨a.block, a.off + i * 6 + 4, none⟩ = some (.int .i64 o.x.ar) ∧ w.cell? ⟨a.block, a.off + i * 6 + 5, none⟩ = some (.bool o.x.df)) ∧ (Lit.int .i64 o.on).wf = true ∧ (Lit.int .i64 o.n).wf = true ∧ o.x.name.size ≤ maxLen := by
      intro i hi
      obtain ⟨_, _, cs, n, y, hl, hcell, hy⟩ := hall i hi
      obtain ⟨o, rfl, h1, h2, h3⟩ := open_op hy
      exact ⟨o, ⟨by simpa using hcell 0 (by omega), by simpa using hcell 1 (by omega), by simpa using hcell 2 (by omega), by simpa using hcell 3 (by omega), by simpa using hcell 4 (by omega), by simpa using hcell 5 (by omega)⟩, h1, h2, h3⟩
    obtain ⟨f, hf⟩ := Classical.axiomOfChoice (fun i : Fin len => each i i.2)
    refine ⟨List.ofFn f, ⟨by simp, ?_, ?_⟩, by omega⟩
    · by_cases h0 : len = 0
      · exact .inl h0
      · obtain ⟨ea, hlt, _⟩ := hall 0 (by omega)
        refine .inr ⟨a.block, a.off, by rw [← ea], hlt, fun i hi => ?_⟩
        have hi' : i < len := by simpa using hi
        have := hf ⟨i, hi'⟩
        simp only [List.getElem_ofFn]
        exact this.1
    · intro o ho
      obtain ⟨i, rfl⟩ := (List.mem_ofFn.1 ho)
      exact (hf i).2
end
end Go.Proofs.Ytaaoomociddopaa
