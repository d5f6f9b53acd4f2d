/- A pair of spines, the program's and the document's, of the same frames; a call on both. -/
import Derived.Test.YtikcocjbbbdmgaaSpineRTell
import Derived.Test.YtikcocjbbbdmgaaSpineMove
namespace Go.Proofs.Ytikcocjbbbdmgaa
set_option maxRecDepth 100000
set_option linter.unusedVariables false
open Go.RowKit
/-- The blocks of a pair. -/
def OwnP (s : Nat) (v : Value) (r : Nat) (u : Value) (k : Nat) : Prop := k = s ∨ v.ownBlock = some k ∨ k = r ∨ u.ownBlock = some k
/-- A pair of spines of the same frames; of their paths' blocks B holds. -/
structure PB (B : Nat → Prop) (base : Nat) (w : World) (s : Nat) (v : Value) (r : Nat) (u : Value) (l : List Fr) (m : Nat) : Prop where
  p : SpT 53 B base w s v l
  q : SpT 55 B base w r u l
  dj : ∀ k, v.ownBlock = some k → u.ownBlock ≠ some k
  len : l.length ≤ m
  pth : ∀ x ∈ l, x.2.2.2.length ≤ 1048576
abbrev Pr (base : Nat) := PB (fun k => base ≤ k) base
theorem SpT.apart {t1 t2 : TypeId} {B1 B2 : Nat → Prop} {b1 b2 : Nat} {w : World} {s r : Nat} {v u : Value} {l l' : List Fr} (p : SpT t1 B1 b1 w s v l) (q : SpT t2 B2 b2 w r u l') (ht : t1 ≠ t2) : s ≠ r ∧ v.ownBlock ≠ some r ∧ u.ownBlock ≠ some s := by
  refine ⟨fun e => ?_, fun e => ?_, fun e => ?_⟩
  · have h1 := p.box
    rw [e, q.box] at h1
    simp only [Option.some.injEq, Obj.cells.injEq] at h1
    exact ht h1.2.1.symm
  · obtain ⟨_, _, _, cur, hc⟩ := p.row.block e
    have h1 := q.box
    rw [hc] at h1
    simp only [Option.some.injEq, Obj.cells.injEq] at h1
    exact q.dif.2 h1.2.1.symm
  · obtain ⟨_, _, _, cur, hc⟩ := q.row.block e
    have h1 := p.box
    rw [hc] at h1
    simp only [Option.some.injEq, Obj.cells.injEq] at h1
    exact p.dif.2 h1.2.1.symm
section
variable {B : Nat → Prop} {base : Nat} {w : World} {s : Nat} {v : Value} {r : Nat} {u : Value} {l : List Fr} {m : Nat}
theorem PB.notI (h : PB B base w s v r u l m) {k : Nat} (hk : OwnP s v r u k) : NotI w k ∧ base ≤ k ∧ k < w.heap.size := by
  rcases hk with e | e | e | e
  · subst e; exact ⟨h.p.notI, h.p.low, h.p.lt⟩
  · have := h.p.row.block e; exact ⟨this.2.2.1, this.1, this.2.1⟩
  · subst e; exact ⟨h.q.notI, h.q.low, h.q.lt⟩
  · have := h.q.row.block e; exact ⟨this.2.2.1, this.1, this.2.1⟩
theorem PB.mono {B' : Nat → Prop} (h : PB B base w s v r u l m) (hB : ∀ k, k < w.heap.size → B k → B' k) : PB B' base w s v r u l m := ⟨h.p.mono hB, h.q.mono hB, h.dj, h.len, h.pth⟩
theorem PB.kept {w' : World} {S : Nat → Prop} (h : PB B base w s v r u l m) (hk : Kept S w w') (hn : ∀ k, OwnP s v r u k → ¬ S k) (hS : ∀ k, B k → S k → NotI w k) : PB B base w' s v r u l m :=
  ⟨h.p.kept hk (hn _ (.inl rfl)) (fun k e => hn k (.inr (.inl e))) hS, h.q.kept hk (hn _ (.inr (.inr (.inl rfl)))) (fun k e => hn k (.inr (.inr (.inr e)))) hS, h.dj, h.len, h.pth⟩
theorem PB.same {w' : World} (h : PB B base w s v r u l m) (hk : Same0 w w') : PB B base w' s v r u l m := h.kept hk (fun _ _ f => f) (fun _ _ f => f.elim)
theorem PB.more (h : PB B base w s v r u l m) : PB B base w s v r u l (m + 1) := ⟨h.p, h.q, h.dj, Nat.le_succ_of_le h.len, h.pth⟩
theorem PB.paths (h : PB B base w s v r u l m) (hm : m ≤ 1048578) : (pathsL l).length ≤ 1048578 * 1048576 ∧ l.length ≤ 1048578 :=
  ⟨Nat.le_trans (pathsL_bound h.pth) (Nat.mul_le_mul_right _ (Nat.le_trans h.len hm)), Nat.le_trans h.len hm⟩
/-- The program's one is turned: the document's stays. -/
theorem PB.left {w1 : World} {v1 : Value} {l1 : List Fr} (h : PB B base w s v r u l m) (p1 : SpT 53 B base w1 s v1 l1) (k1 : Kept (fun k => k = s ∨ v.ownBlock = some k) w w1) : SpT 55 B base w1 r u l := by
  obtain ⟨a1, a2, a3⟩ := h.p.apart h.q (by decide)
  refine h.q.kept k1 (fun e => ?_) (fun k e f => ?_) (fun k _ f => ?_)
  · rcases e with e | e
    · exact a1 e.symm
    · exact a2 e
  · rcases f with f | f
    · rw [f] at e; exact a3 e
    · exact h.dj k f e
  · rcases f with f | f
    · rw [f]; exact h.p.notI
    · exact (h.p.row.block f).2.2.1
/-- The two of them are turned. -/
theorem PB.both {w1 w2 : World} {v1 u2 : Value} {l1 : List Fr} {m1 : Nat} (h : PB B base w s v r u l m) (p1 : SpT 53 B base w1 s v1 l1) (o1 : ∀ k, v1.ownBlock = some k → v.ownBlock = some k ∨ w.heap.size ≤ k) (k1 : Kept (fun k => k = s ∨ v.ownBlock = some k) w w1)
    (q2 : SpT 55 B base w2 r u2 l1) (o2 : ∀ k, u2.ownBlock = some k → u.ownBlock = some k ∨ w1.heap.size ≤ k) (k2 : Kept (fun k => k = r ∨ u.ownBlock = some k) w1 w2) (hl : l1.length ≤ m1) (hp : ∀ x ∈ l1, x.2.2.2.length ≤ 1048576) :
    PB B base w2 s v1 r u2 l1 m1 ∧ (∀ k, OwnP s v1 r u2 k → OwnP s v r u k ∨ w.heap.size ≤ k) ∧ Kept (OwnP s v r u) w w2 := by
  have q1 := h.left p1 k1
  obtain ⟨a1, a2, a3⟩ := h.p.apart h.q (by decide)
  obtain ⟨b1, b2, b3⟩ := p1.apart q1 (by decide)
  have hz := k1.size
  have hvu : ∀ k, v1.ownBlock = some k → u.ownBlock ≠ some k := fun k e f => by
    rcases o1 k e with q | q
    · exact h.dj k q f
    · have := (h.q.row.block f).2.1; omega
  refine ⟨⟨p1.kept k2 (fun e => ?_) (fun k e f => ?_) (fun k _ f => ?_), q2, fun k e f => ?_, hl, hp⟩, fun k e => ?_, (k1.mono (fun k _ e => e.elim .inl (fun e => .inr (.inl e)))).trans k2 (fun k _ e => e.elim (fun e => .inr (.inr (.inl e))) (fun e => .inr (.inr (.inr e))))⟩
  · rcases e with e | e
    · exact b1 e
    · exact a3 e
  · rcases f with f | f
    · rw [f] at e; exact b2 e
    · exact hvu k e f
  · rcases f with f | f
    · rw [f]; exact q1.notI
    · exact (q1.row.block f).2.2.1
  · rcases o2 k f with q | q
    · exact hvu k e q
    · have := (p1.row.block e).2.1; omega
  · rcases e with e | e | e | e
    · exact .inl (.inl e)
    · exact (o1 k e).imp (fun q => .inr (.inl q)) id
    · exact .inl (.inr (.inr (.inl e)))
    · exact (o2 k e).imp (fun q => .inr (.inr (.inr q))) (fun q => by omega)
/-- What there is behind a call on both. -/
def DoQ (base : Nat) (w : World) (s : Nat) (v : Value) (r : Nat) (u : Value) (m : Nat) (w' : World) : Prop :=
  ∃ v' u' l', Pr base w' s v' r u' l' (m + 1) ∧ (∀ k, OwnP s v' r u' k → OwnP s v r u k ∨ w.heap.size ≤ k) ∧ Kept (OwnP s v r u) w w'
/-- A call that changes nothing that was there. -/
theorem DoQ.still {w' : World} (h : Pr base w s v r u l m) (hk : Same0 w w') : DoQ base w s v r u m w' :=
  ⟨v, u, l, (h.same hk).more, fun k e => .inl e, hk.mono (fun _ _ f => f.elim)⟩
end
/-- A call's value. -/
abbrev opV (K : Int) (two : Bool) (f : Fr) (fo : Option Addr) (fc : Nat) (dao : Option Addr) (n dac : Nat) : Value := .agg #[.int .i64 K, .bool two, .int .i64 f.1, .bool f.2.1, .int .i64 f.2.2.1, .slice fo f.2.2.2.length fc, .slice dao n dac]
/-- The head of a call on both: the call in a box, its frame with a list that is lent. -/
structure DoH (w W3 : World) (K : Int) (two : Bool) (f : Fr) (fo : Option Addr) (fc : Nat) (dao : Option Addr) (n dac : Nat) (g c : Nat) : Prop where
  ob : W3.heap[w.heap.size]? = some (.cells #[.int .i64 K, .bool two, .int .i64 f.1, .bool f.2.1, .int .i64 f.2.2.1, .slice fo f.2.2.2.length fc, .slice dao n dac] 32 (0, 0))
  fb : W3.heap[w.heap.size + 1]? = some (.cells #[.int .i64 f.1, .bool f.2.1, .int .i64 f.2.2.1, .slice (some ⟨g, 0, none⟩) f.2.2.2.length c] 30 (0, 0))
  lr : Row (w.heap.size + 2) W3 (.slice (some ⟨g, 0, none⟩) (f.2.2.2.length + 3) c) (lentF f.2.2.2)
  lc : f.2.2.2.length + 3 ≤ c
  k : Same0 w W3
theorem box7 {w : World} {b : Nat} {v0 v1 v2 v3 v4 v5 v6 : Value} {t : TypeId} (h : w.heap[b]? = some (.cells #[v0, v1, v2, v3, v4, v5, v6] t (0, 0))) : w.cell? ⟨b, 0, none⟩ = some v0 ∧ w.cell? ⟨b, 1, none⟩ = some v1 ∧ w.cell? ⟨b, 2, none⟩ = some v2 ∧ w.cell? ⟨b, 3, none⟩ = some v3 ∧ w.cell? ⟨b, 4, none⟩ = some v4 ∧ w.cell? ⟨b, 5, none⟩ = some v5 ∧ w.cell? ⟨b, 6, none⟩ = some v6 :=
  ⟨cellAt h 0, cellAt h 1, cellAt h 2, cellAt h 3, cellAt h 4, cellAt h 5, cellAt h 6⟩
theorem do_head {w W2 w3 : World} {K : Int} {two : Bool} {f : Fr} {fo : Option Addr} {fc : Nat} {dao : Option Addr} {n dac g c : Nat} (hW2 : W2 = (w.alloc (.cells #[.int .i64 K, .bool two, .int .i64 f.1, .bool f.2.1, .int .i64 f.2.2.1, .slice fo f.2.2.2.length fc, .slice dao n dac] 32)).alloc (.cells #[.int .i64 f.1, .bool f.2.1, .int .i64 f.2.2.1, .slice fo f.2.2.2.length fc] 30))
    (k3 : Same0 W2 w3) (r3 : Row W2.heap.size w3 (.slice (some ⟨g, 0, none⟩) (f.2.2.2.length + 3) c) (lentF f.2.2.2)) (hc : f.2.2.2.length + 3 ≤ c) :
    DoH w (w3.setCell ⟨w.heap.size + 1, 3, none⟩ (.slice (some ⟨g, 0, none⟩) f.2.2.2.length c)) K two f fo fc dao n dac g c ∧ w3.cell? ⟨w.heap.size + 1, 3, none⟩ = some (.slice fo f.2.2.2.length fc) ∧ w3.frozen? ⟨w.heap.size + 1, 3, none⟩ = false := by
  have z2 : W2.heap.size = w.heap.size + 2 := by rw [hW2]; simp
  have b1 : W2.heap[w.heap.size]? = some (.cells #[.int .i64 K, .bool two, .int .i64 f.1, .bool f.2.1, .int .i64 f.2.2.1, .slice fo f.2.2.2.length fc, .slice dao n dac] 32 (0, 0)) := by rw [hW2]; exact (Below.heap_alloc _ _ _ (by simp)).trans (heap_alloc_new w _)
  have b2 : W2.heap[w.heap.size + 1]? = some (.cells #[.int .i64 f.1, .bool f.2.1, .int .i64 f.2.2.1, .slice fo f.2.2.2.length fc] 30 (0, 0)) := by
    rw [hW2]
    have := heap_alloc_new (w.alloc (.cells #[.int .i64 K, .bool two, .int .i64 f.1, .bool f.2.1, .int .i64 f.2.2.1, .slice fo f.2.2.2.length fc, .slice dao n dac] 32)) (.cells #[.int .i64 f.1, .bool f.2.1, .int .i64 f.2.2.1, .slice fo f.2.2.2.length fc] 30)
    simpa using this
  have b3 := k3.at0 b2
  have ks : Kept (fun k => k = w.heap.size + 1) w3 (w3.setCell ⟨w.heap.size + 1, 3, none⟩ (.slice (some ⟨g, 0, none⟩) f.2.2.2.length c)) := Kept.setCell (S := fun k => k = w.heap.size + 1) (Kept.refl _ _) (p := ⟨w.heap.size + 1, 3, none⟩) (fun _ => rfl) _
  have kw : Same0 w W2 := by rw [hW2]; exact ((Kept.refl _ w).alloc _).alloc _
  have lg := (r3.lt g rfl).1
  refine ⟨⟨ks.at (k3.at0 b1) (by omega), by rw [setAt b3]; rfl, ?_, hc, (kw.trans' k3).trans ks (fun i hi e => by omega)⟩, cellAt b3 3, frozenAt b3 3⟩
  rw [← z2]
  exact ks.row r3 (fun k e q => by
    have : g = k := Option.some.inj e
    omega)
theorem DoH.arg {w W3 : World} {K : Int} {two : Bool} {f : Fr} {fo : Option Addr} {fc : Nat} {dao : Option Addr} {n dac g c : Nat} (h : DoH w W3 K two f fo fc dao n dac g c) (hfp : f.2.2.2.length ≤ 1048576) : Arg W3 (some ⟨g, 0, none⟩) f.2.2.2 c :=
  ⟨(Row.intsX h.lr).first, by have := h.lc; omega, (fun e => by cases e), by omega⟩
end Go.Proofs.Ytikcocjbbbdmgaa
