/- Nodes in memory: their cells, a block of them, a heap. -/
import Derived.Test.YtcbplgfkgkefeaaHeapPlain
import Derived.Test.YtcbplgfkgkefeaaArgInts
namespace Go.Proofs.Ytcbplgfkgkefeaa
set_option maxRecDepth 100000
set_option linter.unusedVariables false
open Go.RowKit
/-- Whether a node may be in a list of so many. -/
def mayB (n : Nat) (x : Nd) : Bool :=
  decide (0 ≤ x.1) && decide (x.2.1.length ≤ 6) && decide (0 ≤ x.2.2.1) && decide (x.2.2.1 ≤ 2) && x.2.1.all (fun z => decide (0 ≤ z) && decide (z < (n : Int))) &&
    (if x.2.2.2.1 = true then decide (0 ≤ x.2.2.2.2) && decide (x.2.2.2.2 < (n : Int)) && decide (x.1 = 0) && decide (x.2.2.1 = 0) && decide (x.2.1.length = 0) else decide (x.2.2.2.2 = 0))
theorem may_facts {n : Nat} {x : Nd} (h : mayB n x = true) : 0 ≤ x.1 ∧ x.2.1.length ≤ 6 ∧ 0 ≤ x.2.2.1 ∧ x.2.2.1 ≤ 2 ∧ (∀ z ∈ x.2.1, 0 ≤ z ∧ z < (n : Int)) ∧ (x.2.2.2.1 = true → 0 ≤ x.2.2.2.2 ∧ x.2.2.2.2 < (n : Int) ∧ x.1 = 0 ∧ x.2.2.1 = 0 ∧ x.2.1 = []) ∧ (x.2.2.2.1 = false → x.2.2.2.2 = 0) := by
  unfold mayB at h
  cases hp : x.2.2.2.1
  · simp [hp] at h
    refine ⟨h.1.1.1.1.1, h.1.1.1.1.2, h.1.1.1.2, h.1.1.2, h.1.2, by simp, fun _ => h.2⟩
  · simp [hp] at h
    refine ⟨h.1.1.1.1.1, h.1.1.1.1.2, h.1.1.1.2, h.1.1.2, h.1.2, fun _ => ⟨h.2.1.1.1.1, h.2.1.1.1.2, h.2.1.1.2, h.2.1.2, h.2.2⟩, by simp⟩
theorem may_down {n : Nat} {x : Nd} (h : mayB n x = true) : ∀ z ∈ downL x, 0 ≤ z ∧ z < (n : Int) := by
  obtain ⟨_, _, _, _, h5, h6, _⟩ := may_facts h
  intro z hz
  unfold downL at hz
  split at hz
  · rename_i hp
    simp at hz
    subst hz
    exact ⟨(h6 hp).1, (h6 hp).2.1⟩
  · exact h5 z hz
theorem may_more {n m : Nat} {x : Nd} (h : mayB n x = true) (hn : n ≤ m) : mayB m x = true := by
  obtain ⟨h1, h2, h3, h4, h5, h6, h7⟩ := may_facts h
  unfold mayB
  have h8 : x.2.1.all (fun z => decide (0 ≤ z) && decide (z < (m : Int))) = true := by
    rw [List.all_eq_true]
    intro z hz
    have := h5 z hz
    simp; omega
  cases hp : x.2.2.2.1
  · simp [h1, h2, h3, h4, h8, h7 hp]
  · obtain ⟨a, b, c, d, e⟩ := h6 hp
    simp [a, c, d, e]
    omega
theorem inl_of_may {l : List Nd} (h : ∀ x ∈ l, mayB l.length x = true) : InL l := fun i hi z hz => may_down (h _ (List.getElem_mem hi)) z hz
/-- A node's cells in memory; its arguments lie in a block of which B holds. -/
def NdC (B : Nat → Prop) (w : World) (b off : Nat) (x : Nd) : Prop :=
  ∃ ao ac, w.cell? ⟨b, off, none⟩ = some (.int .i64 x.1) ∧ w.cell? ⟨b, off + 1, none⟩ = some (.slice ao x.2.1.length ac) ∧ w.cell? ⟨b, off + 2, none⟩ = some (.int .i64 x.2.2.1) ∧ w.cell? ⟨b, off + 3, none⟩ = some (.bool x.2.2.2.1) ∧ w.cell? ⟨b, off + 4, none⟩ = some (.int .i64 x.2.2.2.2) ∧ ArgT w ao x.2.1 ac ∧ ∀ a, ao = some a → B a.block
/-- Not a block of numbers. -/
def NotI (w : World) (k : Nat) : Prop := ∀ cur, w.heap[k]? ≠ some (.cells cur 3 (0, 0))
theorem ArgT.kept' {w w' : World} {ao : Option Addr} {xs : List Int} {cap : Nat} {S : Nat → Prop} (h : ArgT w ao xs cap) (hk : Kept S w w') (hS : ∀ a, ao = some a → ¬ S a.block) : ArgT w' ao xs cap := by
  refine ⟨⟨h.1.at'.kept hk hS, h.1.cap', h.1.nil, h.1.size⟩, fun a e => ?_⟩
  obtain ⟨cur, hc⟩ := h.2 a e
  exact ⟨cur, hk.at hc (hS a e)⟩
theorem ArgT.lt {w : World} {ao : Option Addr} {xs : List Int} {cap : Nat} (h : ArgT w ao xs cap) {a : Addr} (e : ao = some a) : a.block < w.heap.size := by
  obtain ⟨cur, hc⟩ := h.2 a e
  exact lt_of_at hc
theorem NdC.kept {B S : Nat → Prop} {w w' : World} {b off : Nat} {x : Nd} (h : NdC B w b off x) (hb : b < w.heap.size) (hk : Kept S w w') (nb : ¬ S b) (hS : ∀ k, B k → S k → NotI w k) : NdC B w' b off x := by
  obtain ⟨ao, ac, h0, h1, h2, h3, h4, h5, h6⟩ := h
  have t : ∀ o, w'.cell? ⟨b, o, none⟩ = w.cell? ⟨b, o, none⟩ := fun o => hk.cell (p := ⟨b, o, none⟩) hb nb
  refine ⟨ao, ac, (t _).trans h0, (t _).trans h1, (t _).trans h2, (t _).trans h3, (t _).trans h4, h5.kept' hk (fun a e s => ?_), h6⟩
  obtain ⟨cur, hc⟩ := h5.2 a e
  exact hS _ (h6 a e) s cur hc
theorem NdC.mono {B B' : Nat → Prop} {w : World} {b off : Nat} {x : Nd} (h : NdC B w b off x) (hB : ∀ k, k < w.heap.size → (∃ cur, w.heap[k]? = some (.cells cur 3 (0, 0))) → B k → B' k) : NdC B' w b off x := by
  obtain ⟨ao, ac, h0, h1, h2, h3, h4, h5, h6⟩ := h
  exact ⟨ao, ac, h0, h1, h2, h3, h4, h5, fun a e => hB _ (h5.lt e) (h5.2 a e) (h6 a e)⟩
/-- A heap in memory: its own block h, the block g of its nodes, the nodes l; the arguments' blocks are of B. -/
structure HpB (B : Nat → Prop) (w : World) (h g room : Nat) (l : List Nd) : Prop where
  box : w.heap[h]? = some (.cells #[.slice (some ⟨g, 0, none⟩) room room, .int .i64 (l.length : Int)] 69 (0, 0))
  blk : ∃ cs, w.heap[g]? = some (.cells cs 45 (0, 0)) ∧ cs.size = room * 5
  rm1 : 1 ≤ room
  rm2 : room ≤ 4000
  le : l.length ≤ room
  each : ∀ i (hi : i < l.length), NdC B w g (i * 5) l[i]
  may : ∀ x ∈ l, mayB l.length x = true
  ac : Ac l
theorem HpB.inl {B : Nat → Prop} {w : World} {h g room : Nat} {l : List Nd} (p : HpB B w h g room l) : InL l := inl_of_may p.may
theorem HpB.ne {B : Nat → Prop} {w : World} {h g room : Nat} {l : List Nd} (p : HpB B w h g room l) : h ≠ g := fun e => by
  obtain ⟨cs, h1, _⟩ := p.blk
  rw [← e, p.box] at h1
  cases h1
theorem HpB.ltH {B : Nat → Prop} {w : World} {h g room : Nat} {l : List Nd} (p : HpB B w h g room l) : h < w.heap.size := lt_of_at p.box
theorem HpB.ltG {B : Nat → Prop} {w : World} {h g room : Nat} {l : List Nd} (p : HpB B w h g room l) : g < w.heap.size := by
  obtain ⟨cs, h1, _⟩ := p.blk
  exact lt_of_at h1
theorem HpB.kept {B S : Nat → Prop} {w w' : World} {h g room : Nat} {l : List Nd} (p : HpB B w h g room l) (hk : Kept S w w') (n1 : ¬ S h) (n2 : ¬ S g) (hS : ∀ k, B k → S k → NotI w k) : HpB B w' h g room l := by
  refine ⟨hk.at p.box n1, ?_, p.rm1, p.rm2, p.le, fun i hi => (p.each i hi).kept p.ltG hk n2 hS, p.may, p.ac⟩
  obtain ⟨cs, h1, h2⟩ := p.blk
  exact ⟨cs, hk.at h1 n2, h2⟩
theorem HpB.same {B : Nat → Prop} {w w' : World} {h g room : Nat} {l : List Nd} (p : HpB B w h g room l) (hk : Same0 w w') : HpB B w' h g room l := p.kept hk (fun f => f) (fun f => f) (fun _ _ f => f.elim)
theorem HpB.mono {B B' : Nat → Prop} {w : World} {h g room : Nat} {l : List Nd} (p : HpB B w h g room l) (hB : ∀ k, k < w.heap.size → (∃ cur, w.heap[k]? = some (.cells cur 3 (0, 0))) → B k → B' k) : HpB B' w h g room l :=
  ⟨p.box, p.blk, p.rm1, p.rm2, p.le, fun i hi => (p.each i hi).mono hB, p.may, p.ac⟩
theorem HpB.cells {B : Nat → Prop} {w : World} {h g room : Nat} {l : List Nd} (p : HpB B w h g room l) : w.cell? ⟨h, 0, none⟩ = some (.slice (some ⟨g, 0, none⟩) room room) ∧ w.cell? ⟨h, 1, none⟩ = some (.int .i64 (l.length : Int)) := ⟨cellAt p.box 0, cellAt p.box 1⟩
theorem HpB.free {B : Nat → Prop} {w : World} {h g room : Nat} {l : List Nd} (p : HpB B w h g room l) : (∀ o, w.frozen? ⟨h, o, none⟩ = false) ∧ ∀ o, w.frozen? ⟨g, o, none⟩ = false := by
  obtain ⟨cs, h1, _⟩ := p.blk
  exact ⟨fun o => frozenAt p.box o, fun o => frozenAt h1 o⟩
/-- Whatever node is put there. -/
theorem HpB.there {B : Nat → Prop} {w : World} {h g room : Nat} {l : List Nd} (p : HpB B w h g room l) {i : Nat} (hi : i < room) : ∃ u0 u1 u2 u3 u4, w.cell? ⟨g, i * 5, none⟩ = some u0 ∧ w.cell? ⟨g, i * 5 + 1, none⟩ = some u1 ∧ w.cell? ⟨g, i * 5 + 2, none⟩ = some u2 ∧ w.cell? ⟨g, i * 5 + 3, none⟩ = some u3 ∧ w.cell? ⟨g, i * 5 + 4, none⟩ = some u4 := by
  obtain ⟨cs, h1, h2⟩ := p.blk
  have t : ∀ o, o < cs.size → w.cell? ⟨g, o, none⟩ = some cs[o]! := fun o ho => by rw [cellAt h1]; simp [ho]
  exact ⟨_, _, _, _, _, t _ (by omega), t _ (by omega), t _ (by omega), t _ (by omega), t _ (by omega)⟩
theorem box5 {w : World} {b : Nat} {v0 v1 v2 v3 v4 : Value} {t : TypeId} (h : w.heap[b]? = some (.cells #[v0, v1, v2, v3, v4] t (0, 0))) : w.cell? ⟨b, 0, none⟩ = some v0 ∧ w.cell? ⟨b, 1, none⟩ = some v1 ∧ w.cell? ⟨b, 2, none⟩ = some v2 ∧ w.cell? ⟨b, 3, none⟩ = some v3 ∧ w.cell? ⟨b, 4, none⟩ = some v4 :=
  ⟨cellAt h 0, cellAt h 1, cellAt h 2, cellAt h 3, cellAt h 4⟩
theorem free5 {w : World} {b : Nat} {cs : Array Value} {t : TypeId} (h : w.heap[b]? = some (.cells cs t (0, 0))) : w.frozen? ⟨b, 0, none⟩ = false ∧ w.frozen? ⟨b, 1, none⟩ = false ∧ w.frozen? ⟨b, 2, none⟩ = false ∧ w.frozen? ⟨b, 3, none⟩ = false ∧ w.frozen? ⟨b, 4, none⟩ = false :=
  ⟨frozenAt h 0, frozenAt h 1, frozenAt h 2, frozenAt h 3, frozenAt h 4⟩
/-- Five cells stored one behind the other. -/
def put5 (w : World) (g off : Nat) (v0 v1 v2 v3 v4 : Value) : World :=
  ((((w.setCell ⟨g, off, none⟩ v0).setCell ⟨g, off + 1, none⟩ v1).setCell ⟨g, off + 2, none⟩ v2).setCell ⟨g, off + 3, none⟩ v3).setCell ⟨g, off + 4, none⟩ v4
theorem put5_at {w : World} {g off : Nat} {v0 v1 v2 v3 v4 : Value} {cs : Array Value} {t : TypeId} {fr : Nat × Nat} (h : w.heap[g]? = some (.cells cs t fr)) : (put5 w g off v0 v1 v2 v3 v4).heap[g]? = some (.cells (((((cs.setIfInBounds off v0).setIfInBounds (off + 1) v1).setIfInBounds (off + 2) v2).setIfInBounds (off + 3) v3).setIfInBounds (off + 4) v4) t fr) :=
  setAt (setAt (setAt (setAt (setAt h _ _) _ _) _ _) _ _) _ _
theorem put5_kept (w : World) (g off : Nat) (v0 v1 v2 v3 v4 : Value) : Kept (fun k => k = g) w (put5 w g off v0 v1 v2 v3 v4) := by
  have t : ∀ (w' : World) (o : Nat) (v : Value), Kept (fun k => k = g) w w' → Kept (fun k => k = g) w (w'.setCell ⟨g, o, none⟩ v) := fun w' o v h => Kept.setCell (S := fun k => k = g) h (p := ⟨g, o, none⟩) (fun _ => rfl) v
  exact t _ _ _ (t _ _ _ (t _ _ _ (t _ _ _ (t _ _ _ (Kept.refl _ w)))))
theorem put5_new {w : World} {g off : Nat} {v0 v1 v2 v3 v4 : Value} {cs : Array Value} {t : TypeId} {fr : Nat × Nat} (h : w.heap[g]? = some (.cells cs t fr)) (hs : off + 5 ≤ cs.size) : (put5 w g off v0 v1 v2 v3 v4).cell? ⟨g, off, none⟩ = some v0 ∧ (put5 w g off v0 v1 v2 v3 v4).cell? ⟨g, off + 1, none⟩ = some v1 ∧ (put5 w g off v0 v1 v2 v3 v4).cell? ⟨g, off + 2, none⟩ = some v2 ∧ (put5 w g off v0 v1 v2 v3 v4).cell? ⟨g, off + 3, none⟩ = some v3 ∧ (put5 w g off v0 v1 v2 v3 v4).cell? ⟨g, off + 4, none⟩ = some v4 := by
  have q := put5_at (v0 := v0) (v1 := v1) (v2 := v2) (v3 := v3) (v4 := v4) (off := off) h
  refine ⟨?_, ?_, ?_, ?_, ?_⟩ <;> rw [cellAt q] <;> simp [Array.getElem?_setIfInBounds] <;> omega
theorem put5_old {w : World} {g off : Nat} {v0 v1 v2 v3 v4 : Value} {cs : Array Value} {t : TypeId} {fr : Nat × Nat} (h : w.heap[g]? = some (.cells cs t fr)) {o : Nat} (ho : o < off ∨ off + 5 ≤ o) : (put5 w g off v0 v1 v2 v3 v4).cell? ⟨g, o, none⟩ = w.cell? ⟨g, o, none⟩ := by
  have q := put5_at (v0 := v0) (v1 := v1) (v2 := v2) (v3 := v3) (v4 := v4) (off := off) h
  rw [cellAt q, cellAt h, Array.getElem?_setIfInBounds, if_neg (by omega), Array.getElem?_setIfInBounds, if_neg (by omega), Array.getElem?_setIfInBounds, if_neg (by omega), Array.getElem?_setIfInBounds, if_neg (by omega), Array.getElem?_setIfInBounds, if_neg (by omega)]
/-- A node that is put at a place: it is there, all others are as they were. -/
theorem put5_nodes {B B' : Nat → Prop} {w : World} {g room : Nat} {l : List Nd} (hb : ∃ cs, w.heap[g]? = some (.cells cs 45 (0, 0)) ∧ cs.size = room * 5) (hc : ∀ i (hi : i < l.length), NdC B w g (i * 5) l[i]) {i : Nat} (hi : i < room) {x : Nd} {ao : Option Addr} {ac : Nat} (ha : ArgT w ao x.2.1 ac) (hB : ∀ a, ao = some a → B' a.block) (hBB : ∀ k, B k → B' k) :
    let w' := put5 w g (i * 5) (.int .i64 x.1) (.slice ao x.2.1.length ac) (.int .i64 x.2.2.1) (.bool x.2.2.2.1) (.int .i64 x.2.2.2.2)
    NdC B' w' g (i * 5) x ∧ (∃ cs, w'.heap[g]? = some (.cells cs 45 (0, 0)) ∧ cs.size = room * 5) ∧ ∀ j (hj : j < l.length), j ≠ i → NdC B' w' g (j * 5) l[j] := by
  obtain ⟨cs, h1, h2⟩ := hb
  have hk := put5_kept w g (i * 5) (.int .i64 x.1) (.slice ao x.2.1.length ac) (.int .i64 x.2.2.1) (.bool x.2.2.2.1) (.int .i64 x.2.2.2.2)
  have gi : ∀ k, k = g → NotI w k := fun k e cur h => by rw [e, h1] at h; cases h
  have ka : ∀ {ao : Option Addr} {xs : List Int} {ac : Nat}, ArgT w ao xs ac → ArgT (put5 w g (i * 5) (.int .i64 x.1) (.slice ao x.2.1.length ac) (.int .i64 x.2.2.1) (.bool x.2.2.2.1) (.int .i64 x.2.2.2.2)) ao xs ac := fun h => h.kept (put5_kept _ _ _ _ _ _ _ _) (fun k e => gi k e)
  refine ⟨?_, ?_, fun j hj hne => ?_⟩
  · obtain ⟨q0, q1, q2, q3, q4⟩ := put5_new (v0 := .int .i64 x.1) (v1 := .slice ao x.2.1.length ac) (v2 := .int .i64 x.2.2.1) (v3 := .bool x.2.2.2.1) (v4 := .int .i64 x.2.2.2.2) h1 (show i * 5 + 5 ≤ cs.size by omega)
    exact ⟨ao, ac, q0, q1, q2, q3, q4, ha.kept hk gi, hB⟩
  · exact ⟨_, put5_at h1, by simpa using h2⟩
  · obtain ⟨bo, bc, q0, q1, q2, q3, q4, q5, q6⟩ := hc j hj
    have t := fun {o : Nat} (ho : o < i * 5 ∨ i * 5 + 5 ≤ o) => put5_old (v0 := .int .i64 x.1) (v1 := .slice ao x.2.1.length ac) (v2 := .int .i64 x.2.2.1) (v3 := .bool x.2.2.2.1) (v4 := .int .i64 x.2.2.2.2) h1 ho
    exact ⟨bo, bc, (t (by omega)).trans q0, (t (by omega)).trans q1, (t (by omega)).trans q2, (t (by omega)).trans q3, (t (by omega)).trans q4, q5.kept hk gi, fun a e => hBB _ (q6 a e)⟩
end Go.Proofs.Ytcbplgfkgkefeaa
