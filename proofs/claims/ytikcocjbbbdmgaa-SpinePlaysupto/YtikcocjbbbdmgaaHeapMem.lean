/- Nodes in memory: their cells, a block of them, a heap. -/
import Derived.Test.YtikcocjbbbdmgaaHeapPlain
import Derived.Test.YtikcocjbbbdmgaaArgInts
namespace Go.Proofs.Ytikcocjbbbdmgaa
set_option maxRecDepth 100000
set_option linter.unusedVariables false
open Go.RowKit
/-- Whether a node may be in a list of so many. -/
def mayB (n : Nat) (x : Nd) : Bool :=
  decide (0 ≤ x.1) && decide (x.2.1.length ≤ 6) && decide (0 ≤ x.2.2.1) && decide (x.2.2.1 ≤ 2) && x.2.1.all (fun z => decide (0 ≤ z) && decide (z < (n : Int))) &&
    (if x.2.2.2.1 = true then decide (0 ≤ x.2.2.2.2) && decide (x.2.2.2.2 < (n : Int)) && decide (x.1 = 0) && decide (x.2.2.1 = 0) && decide (x.2.1.length = 0) else decide (x.2.2.2.2 = 0))
theorem may_facts {n : Nat} {x : Nd} (h : mayB n x = true) : 0 ≤ x.1 ∧ x.2.1.length ≤ 6 ∧ 0 ≤ x.2.2.1 ∧ x.2.2.1 ≤ 2 ∧ (∀ z ∈ x.2.1, 0 ≤ z ∧ z < (n : Int)) ∧ (x.2.2.2.1 = true → 0 ≤ x.2.2.2.2 ∧ x.2.2.2.2 < (n : Int) ∧ x.1 = 0 ∧ x.2.2.1 = 0 ∧ x.2.1 = []) ∧ (x.2.2.2.1 = false → x.2.2.2.2 = 0) := by
  unfold mayB at h
  cases hp : x.2.2.2.1
  · simp [hp] at h
    refine ⟨h.1.1.1.1.1, h.1.1.1.1.2, h.1.1.1.2, h.1.1.2, h.1.2, by simp, fun _ => h.2⟩
  · simp [hp] at h
    refine ⟨h.1.1.1.1.1, h.1.1.1.1.2, h.1.1.1.2, h.1.1.2, h.1.2, fun _ => ⟨h.2.1.1.1.1, h.2.1.1.1.2, h.2.1.1.2, h.2.1.2, h.2.2⟩, by simp⟩
theorem may_down {n : Nat} {x : Nd} (h : mayB n x = true) : ∀ z ∈ downL x, 0 ≤ z ∧ z < (n : Int) := by
  obtain ⟨_, _, _, _, h5, h6, _⟩ := may_facts h
  intro z hz
  unfold downL at hz
  split at hz
  · rename_i hp
    simp at hz
    subst hz
    exact ⟨(h6 hp).1, (h6 hp).2.1⟩
  · exact h5 z hz
theorem may_more {n m : Nat} {x : Nd} (h : mayB n x = true) (hn : n ≤ m) : mayB m x = true := by
  obtain ⟨h1, h2, h3, h4, h5, h6, h7⟩ := may_facts h
  unfold mayB
  have h8 : x.2.1.all (fun z => decide (0 ≤ z) && decide (z < (m : Int))) = true := by
    rw [List.all_eq_true]
    intro z hz
    have := h5 z hz
    simp; omega
  cases hp : x.2.2.2.1
  · simp [h1, h2, h3, h4, h8, h7 hp]
  · obtain ⟨a, b, c, d, e⟩ := h6 hp
    simp [a, c, d, e]
    omega
theorem inl_of_may {l : List Nd} (h : ∀ x ∈ l, mayB l.length x = true) : InL l := fun i hi z hz => may_down (h _ (List.getElem_mem hi)) z hz
/-- A node's cells in memory; its arguments lie in a block of which B holds. -/
def NdC (B : Nat → Prop) (w : World) (b off : Nat) (x : Nd) : Prop :=
  ∃ ao ac, w.cell? ⟨b, off, none⟩ = some (.int .i64 x.1) ∧ w.cell? ⟨b, off + 1, none⟩ = some (.slice ao x.2.1.length ac) ∧ w.cell? ⟨b, off + 2, none⟩ = some (.int .i64 x.2.2.1) ∧ w.cell? ⟨b, off + 3, none⟩ = some (.bool x.2.2.2.1) ∧ w.cell? ⟨b, off + 4, none⟩ = some (.int .i64 x.2.2.2.2) ∧ ArgT w ao x.2.1 ac ∧ ∀ a, ao = some a → B a.block
/-- Not a block of numbers. -/
def NotI (w : World) (k : Nat) : Prop := ∀ cur, w.heap[k]? ≠ some (.cells cur 3 (0, 0))
theorem ArgT.kept' {w w' : World} {ao : Option Addr} {xs : List Int} {cap : Nat} {S : Nat → Prop} (h : ArgT w ao xs cap) (hk : Kept S w w') (hS : ∀ a, ao = some a → ¬ S a.block) : ArgT w' ao xs cap := by
  refine ⟨⟨h.1.at'.kept hk hS, h.1.cap', h.1.nil, h.1.size⟩, fun a e => ?_⟩
  obtain ⟨cur, hc⟩ := h.2 a e
  exact ⟨cur, hk.at hc (hS a e)⟩
theorem ArgT.lt {w : World} {ao : Option Addr} {xs : List Int} {cap : Nat} (h : ArgT w ao xs cap) {a : Addr} (e : ao = some a) : a.block < w.heap.size := by
  obtain ⟨cur, hc⟩ := h.2 a e
  exact lt_of_at hc
theorem NdC.kept {B S : Nat → Prop} {w w' : World} {b off : Nat} {x : Nd} (h : NdC B w b off x) (hb : b < w.heap.size) (hk : Kept S w w') (nb : ¬ S b) (hS : ∀ k, B k → S k → NotI w k) : NdC B w' b off x := by
  obtain ⟨ao, ac, h0, h1, h2, h3, h4, h5, h6⟩ := h
  have t : ∀ o, w'.cell? ⟨b, o, none⟩ = w.cell? ⟨b, o, none⟩ := fun o => hk.cell (p := ⟨b, o, none⟩) hb nb
  refine ⟨ao, ac, (t _).trans h0, (t _).trans h1, (t _).trans h2, (t _).trans h3, (t _).trans h4, h5.kept' hk (fun a e s => ?_), h6⟩
  obtain ⟨cur, hc⟩ := h5.2 a e
  exact hS _ (h6 a e) s cur hc
theorem NdC.mono {B B' : Nat → Prop} {w : World} {b off : Nat} {x : Nd} (h : NdC B w b off x) (hB : ∀ k, k < w.heap.size → (∃ cur, w.heap[k]? = some (.cells cur 3 (0, 0))) → B k → B' k) : NdC B' w b off x := by
  obtain ⟨ao, ac, h0, h1, h2, h3, h4, h5, h6⟩ := h
  exact ⟨ao, ac, h0, h1, h2, h3, h4, h5, fun a e => hB _ (h5.lt e) (h5.2 a e) (h6 a e)⟩
theorem box5 {w : World} {b : Nat} {v0 v1 v2 v3 v4 : Value} {t : TypeId} (h : w.heap[b]? = some (.cells #[v0, v1, v2, v3, v4] t (0, 0))) : w.cell? ⟨b, 0, none⟩ = some v0 ∧ w.cell? ⟨b, 1, none⟩ = some v1 ∧ w.cell? ⟨b, 2, none⟩ = some v2 ∧ w.cell? ⟨b, 3, none⟩ = some v3 ∧ w.cell? ⟨b, 4, none⟩ = some v4 :=
  ⟨cellAt h 0, cellAt h 1, cellAt h 2, cellAt h 3, cellAt h 4⟩
theorem free5 {w : World} {b : Nat} {cs : Array Value} {t : TypeId} (h : w.heap[b]? = some (.cells cs t (0, 0))) : w.frozen? ⟨b, 0, none⟩ = false ∧ w.frozen? ⟨b, 1, none⟩ = false ∧ w.frozen? ⟨b, 2, none⟩ = false ∧ w.frozen? ⟨b, 3, none⟩ = false ∧ w.frozen? ⟨b, 4, none⟩ = false :=
  ⟨frozenAt h 0, frozenAt h 1, frozenAt h 2, frozenAt h 3, frozenAt h 4⟩
/-- Five cells stored one behind the other. -/
def put5 (w : World) (g off : Nat) (v0 v1 v2 v3 v4 : Value) : World :=
  ((((w.setCell ⟨g, off, none⟩ v0).setCell ⟨g, off + 1, none⟩ v1).setCell ⟨g, off + 2, none⟩ v2).setCell ⟨g, off + 3, none⟩ v3).setCell ⟨g, off + 4, none⟩ v4
theorem put5_at {w : World} {g off : Nat} {v0 v1 v2 v3 v4 : Value} {cs : Array Value} {t : TypeId} {fr : Nat × Nat} (h : w.heap[g]? = some (.cells cs t fr)) : (put5 w g off v0 v1 v2 v3 v4).heap[g]? = some (.cells (((((cs.setIfInBounds off v0).setIfInBounds (off + 1) v1).setIfInBounds (off + 2) v2).setIfInBounds (off + 3) v3).setIfInBounds (off + 4) v4) t fr) :=
  setAt (setAt (setAt (setAt (setAt h _ _) _ _) _ _) _ _) _ _
theorem put5_kept (w : World) (g off : Nat) (v0 v1 v2 v3 v4 : Value) : Kept (fun k => k = g) w (put5 w g off v0 v1 v2 v3 v4) := by
  have t : ∀ (w' : World) (o : Nat) (v : Value), Kept (fun k => k = g) w w' → Kept (fun k => k = g) w (w'.setCell ⟨g, o, none⟩ v) := fun w' o v h => Kept.setCell (S := fun k => k = g) h (p := ⟨g, o, none⟩) (fun _ => rfl) v
  exact t _ _ _ (t _ _ _ (t _ _ _ (t _ _ _ (t _ _ _ (Kept.refl _ w)))))
theorem put5_new {w : World} {g off : Nat} {v0 v1 v2 v3 v4 : Value} {cs : Array Value} {t : TypeId} {fr : Nat × Nat} (h : w.heap[g]? = some (.cells cs t fr)) (hs : off + 5 ≤ cs.size) : (put5 w g off v0 v1 v2 v3 v4).cell? ⟨g, off, none⟩ = some v0 ∧ (put5 w g off v0 v1 v2 v3 v4).cell? ⟨g, off + 1, none⟩ = some v1 ∧ (put5 w g off v0 v1 v2 v3 v4).cell? ⟨g, off + 2, none⟩ = some v2 ∧ (put5 w g off v0 v1 v2 v3 v4).cell? ⟨g, off + 3, none⟩ = some v3 ∧ (put5 w g off v0 v1 v2 v3 v4).cell? ⟨g, off + 4, none⟩ = some v4 := by
  have q := put5_at (v0 := v0) (v1 := v1) (v2 := v2) (v3 := v3) (v4 := v4) (off := off) h
  refine ⟨?_, ?_, ?_, ?_, ?_⟩ <;> rw [cellAt q] <;> simp [Array.getElem?_setIfInBounds] <;> omega
theorem put5_old {w : World} {g off : Nat} {v0 v1 v2 v3 v4 : Value} {cs : Array Value} {t : TypeId} {fr : Nat × Nat} (h : w.heap[g]? = some (.cells cs t fr)) {o : Nat} (ho : o < off ∨ off + 5 ≤ o) : (put5 w g off v0 v1 v2 v3 v4).cell? ⟨g, o, none⟩ = w.cell? ⟨g, o, none⟩ := by
  have q := put5_at (v0 := v0) (v1 := v1) (v2 := v2) (v3 := v3) (v4 := v4) (off := off) h
  rw [cellAt q, cellAt h, Array.getElem?_setIfInBounds, if_neg (by omega), Array.getElem?_setIfInBounds, if_neg (by omega), Array.getElem?_setIfInBounds, if_neg (by omega), Array.getElem?_setIfInBounds, if_neg (by omega), Array.getElem?_setIfInBounds, if_neg (by omega)]
end Go.Proofs.Ytikcocjbbbdmgaa
