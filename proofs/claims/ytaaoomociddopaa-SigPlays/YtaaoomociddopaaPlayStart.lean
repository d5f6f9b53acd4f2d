/- How SigPlays begins: two new signatures, each with the document's. -/
import Derived.Test.YtaaoomociddopaaPlayPlain
import Derived.Test.YtaaoomociddopaaSigBackW
namespace Go.Proofs.Ytaaoomociddopaa
open Go.RowKit
attribute [local go_sem ↓] Go.wp_at_zero Go.wp_at_succ
abbrev pt (b : Nat) : Value := .pointer (some ⟨b, 0, none⟩)
/-- What stands at the head of each round. -/
def PlayRel (n₀ : Nat) (wa : World) (wr : World) : Prop :=
  ∃ x y : Half, Core n₀ wa x y wr ∧ wr.heap[n₀ + 2]? = some (.cells #[pt x.b, pt y.b] 25 (0, 0)) ∧ wr.heap[n₀ + 5]? = some (.cells #[pt x.rb, pt y.rb] 28 (0, 0))
abbrev startW (wa : World) : World := (((((wa.alloc (.cells #[.slice none 0 0, .map none] 59)).alloc (.cells #[.slice none 0 0, .map none] 59)).alloc (.cells #[pt wa.heap.size, pt (wa.heap.size + 1)] 25)).alloc (.cells #[.slice none 0 0] 31)).alloc (.cells #[.slice none 0 0] 31)).alloc (.cells #[pt (wa.heap.size + 1 + 1 + 1), pt (wa.heap.size + 1 + 1 + 1 + 1)] 28)
theorem foot_new {n rn k : Nat} (h : PFoot n rn (.slice none 0 0) none (.slice none 0 0) k) : k = n ∨ k = rn := by
  rcases h with (e | e | e) | (e | e)
  · exact .inl e
  · simp [Value.ownBlock] at e
  · simp at e
  · exact .inr e
  · simp [Value.ownBlock] at e
theorem pair_new {w : World} {n rn : Nat} (h1 : w.heap[n]? = some (.cells #[.slice none 0 0, .map none] 59 (0, 0))) (h2 : w.heap[rn]? = some (.cells #[.slice none 0 0] 31 (0, 0))) (hne : n ≠ rn) : Pair w n rn [] (.slice none 0 0) none (.slice none 0 0) :=
  ⟨⟨h1, World.ownsRow_nil _ _ _ _, rfl, by simp [Value.ownBlock], by simp, by simp⟩, ⟨h2, World.ownsRow_nil _ _ _ _, by simp [Value.ownBlock]⟩, fun k e e' => by
    rcases e with e | e | e
    · rcases e' with e' | e'
      · exact hne (by rw [← e, ← e'])
      · simp [Value.ownBlock] at e'
    · simp [Value.ownBlock] at e
    · simp at e⟩
theorem heap_alloc_at (w : World) (o : Obj) (k : Nat) : (w.alloc o).heap[k]? = if k = w.heap.size then some o else w.heap[k]? := by
  show (w.heap.push o)[k]? = _
  rw [Array.getElem?_push]
theorem play_start (wa : World) : PlayRel wa.heap.size wa (startW wa) := by
  refine ⟨⟨wa.heap.size, wa.heap.size + 3, [], .slice none 0 0, none, .slice none 0 0⟩, ⟨wa.heap.size + 1, wa.heap.size + 4, [], .slice none 0 0, none, .slice none 0 0⟩, ⟨?_, ?_, ?_, ?_, ?_, ?_, ?_⟩, ?_, ?_⟩
  · exact pair_new (by simp only [startW, heap_alloc_at, World.size_alloc]; repeat (first | rw [if_pos (by omega)] | rw [if_neg (by omega)] | rw [if_true])) (by simp only [startW, heap_alloc_at, World.size_alloc]; repeat (first | rw [if_pos (by omega)] | rw [if_neg (by omega)] | rw [if_true])) (by simp)
  · exact pair_new (by simp only [startW, heap_alloc_at, World.size_alloc]; repeat (first | rw [if_pos (by omega)] | rw [if_neg (by omega)] | rw [if_true])) (by simp only [startW, heap_alloc_at, World.size_alloc]; repeat (first | rw [if_pos (by omega)] | rw [if_neg (by omega)] | rw [if_true])) (by simp)
  · intro k e e'
    have h1 := foot_new e
    have h2 := foot_new e'
    dsimp only at h1 h2
    omega
  · intro k e
    have h1 := foot_new e
    dsimp only at h1
    omega
  · intro k e
    have h1 := foot_new e
    dsimp only at h1
    omega
  · exact (((((((Kept.refl _ wa).alloc _).alloc _).alloc _).alloc _).alloc _).alloc _)
  · simp
  · simp only [startW, heap_alloc_at, World.size_alloc]; repeat (first | rw [if_pos (by omega)] | rw [if_neg (by omega)] | rw [if_true])
  · simp only [startW, heap_alloc_at, World.size_alloc]; repeat (first | rw [if_pos (by omega)] | rw [if_neg (by omega)] | rw [if_true])
/-- What the law's copying leaves: w: ahead of it; w3: behind Copy; W5: the list of signatures written, an empty slice laid; w6: behind the append; then the document's copy is boxed, and the other list written. -/
theorem play_copy {w w3 w6 : World} {n₀ b' j : Nat} {L : List Sym} {v : Value} {la ra : Array Value} {own : Option Nat} (hz : n₀ + 5 < w.heap.size) (hl : w.heap[n₀ + 2]? = some (.cells la 25 (0, 0))) (hr : w.heap[n₀ + 5]? = some (.cells ra 28 (0, 0)))
    (hcp : Copied w L b' w3) (hown : w6.ownsRow w3.heap.size 35 3 v L.length (symCells L)) (hg : ((w3.setCell ⟨n₀ + 2, j, none⟩ (pt b')).alloc (.cells #[] 35)).grownBy w6 own) (ho : ∀ k, own = some k → w3.heap.size ≤ k) :
    ∃ sv mr, Half.ok ⟨b', w6.heap.size, L, sv, mr, v⟩ ((w6.alloc (.cells #[v] 31)).setCell ⟨n₀ + 5, j, none⟩ (pt w6.heap.size)) ∧ (∀ k, Half.foot ⟨b', w6.heap.size, L, sv, mr, v⟩ k → w.heap.size ≤ k) ∧
      Kept (fun k => k = n₀ + 2 ∨ k = n₀ + 5) w ((w6.alloc (.cells #[v] 31)).setCell ⟨n₀ + 5, j, none⟩ (pt w6.heap.size)) ∧
      ((w6.alloc (.cells #[v] 31)).setCell ⟨n₀ + 5, j, none⟩ (pt w6.heap.size)).heap[n₀ + 2]? = some (.cells (la.setIfInBounds j (pt b')) 25 (0, 0)) ∧
      ((w6.alloc (.cells #[v] 31)).setCell ⟨n₀ + 5, j, none⟩ (pt w6.heap.size)).heap[n₀ + 5]? = some (.cells (ra.setIfInBounds j (pt w6.heap.size)) 28 (0, 0)) := by
  obtain ⟨sv, mr, hs, hf, hk⟩ := hcp
  have z3 := hk.size
  have k4 : Kept (fun k => k = n₀ + 2) w3 (w3.setCell ⟨n₀ + 2, j, none⟩ (pt b')) := Kept.setCell (S := fun k => k = n₀ + 2) (p := ⟨n₀ + 2, j, none⟩) (Kept.refl _ _) (fun _ => rfl) _
  have k6 : Kept (fun k => k = n₀ + 2) w3 w6 := Kept.grown (k4.alloc _) hg (fun k e h => by have := ho k e; omega)
  have z6 := k6.size
  have k7 : Kept (fun k => k = n₀ + 2) w3 (w6.alloc (.cells #[v] 31)) := k6.alloc _
  have k8 : Kept (fun k => k = n₀ + 2 ∨ k = n₀ + 5) w3 ((w6.alloc (.cells #[v] 31)).setCell ⟨n₀ + 5, j, none⟩ (pt w6.heap.size)) := Kept.setCell (k7.mono (fun _ _ e => .inl e)) (fun _ => .inr rfl) _
  have k9 : Kept (fun k => k = n₀ + 5) w6 ((w6.alloc (.cells #[v] 31)).setCell ⟨n₀ + 5, j, none⟩ (pt w6.heap.size)) := Kept.setCell (S := fun k => k = n₀ + 5) (p := ⟨n₀ + 5, j, none⟩) ((Kept.refl _ w6).alloc _) (fun _ => rfl) _
  have k10 : Kept (fun k => k = n₀ + 5) (w6.alloc (.cells #[v] 31)) ((w6.alloc (.cells #[v] 31)).setCell ⟨n₀ + 5, j, none⟩ (pt w6.heap.size)) := Kept.setCell (S := fun k => k = n₀ + 5) (p := ⟨n₀ + 5, j, none⟩) (Kept.refl _ _) (fun _ => rfl) _
  have hl3 := hk.at hl (fun f => f)
  have hr3 := hk.at hr (fun f => f)
  have hl4 : (w3.setCell ⟨n₀ + 2, j, none⟩ (pt b')).heap[n₀ + 2]? = some (.cells (la.setIfInBounds j (pt b')) 25 (0, 0)) := setAt hl3 j _
  have kk : Kept (fun k => w3.heap.size ≤ k) (w3.setCell ⟨n₀ + 2, j, none⟩ (pt b')) w6 := Kept.grown ((Kept.refl _ _).alloc _) hg (fun k e _ => ho k e)
  have hl6 := kk.at hl4 (fun e => by omega)
  have hr7 := k7.at hr3 (fun e => by omega)
  refine ⟨sv, mr, ⟨hs.kept k8 (fun k e e' => ?_), ⟨k10.at (heap_alloc_new w6 _) (fun e => by dsimp only at e; omega), row_mono (k9.row hown (fun k e e' => ?_)) (Nat.zero_le _), fun e => ?_⟩, fun k e e' => ?_⟩, fun k e => ?_, hk.mono (fun _ _ f => f.elim) |>.trans k8 (fun _ _ e => e), k9.at hl6 (fun e => by omega), setAt hr7 j _⟩
  · have := hf k e; omega
  · have := (hown.lt k e).1; omega
  · have := (hown.lt _ e).2; dsimp only at this; omega
  · have h1 := sig_foot_lt hs k e
    rcases e' with e' | e'
    · dsimp only at e'; omega
    · have := (hown.lt k e').1; omega
  · rcases e with e | e | e
    · exact hf k e
    · dsimp only at e; omega
    · have := (hown.lt k e).1; omega
theorem symCells_one (L : List Sym) : ∀ u ∈ symCells L, u.oneCell' = true := by
  intro u hu
  simp only [symCells, List.mem_flatMap] at hu
  obtain ⟨x, _, hx⟩ := hu
  simp at hx
  rcases hx with rfl | rfl | rfl <;> rfl
/-- In the midst of the law's copying: the list of signatures written, an empty slice laid. -/
abbrev midW (w3 : World) (n₀ j b' : Nat) : World := (w3.setCell ⟨n₀ + 1 + 1, j, none⟩ (pt b')).alloc (.cells #[] 35)
theorem mid_kept (w3 : World) (n₀ j b' : Nat) : Kept (fun k => k = n₀ + 2) w3 (midW w3 n₀ j b') := Kept.alloc (Kept.setCell (S := fun k => k = n₀ + 2) (p := ⟨n₀ + 2, j, none⟩) (Kept.refl _ _) (fun _ => rfl) _) _
theorem mid_ref {n₀ j b' : Nat} {wa wc w3 : World} {x y : Half} (hc : Core n₀ wa x y wc) (hk : Kept (fun _ => False) wc w3) : RefAt (midW w3 n₀ j b') x.rb x.L x.rv :=
  (hc.p0.rf.kept hk (fun _ _ f => f)).kept (mid_kept w3 n₀ j b') (fun k e => (hc.nx k (.inr e)).2.1)
theorem mid_own (w3 : World) (n₀ j b' : Nat) : (midW w3 n₀ j b').ownsRow w3.heap.size 35 3 (.slice (some ⟨w3.heap.size, 0, none⟩) 0 0) 0 [] := by
  have h := World.ownsRow_made (w3.setCell ⟨n₀ + 1 + 1, j, none⟩ (pt b')) (e := 35) (base := w3.heap.size) (size := 3) #[] 0 (by simp [World.setCell]) (by simp) (by simp)
  have e : (w3.setCell ⟨n₀ + 1 + 1, j, none⟩ (pt b')).heap.size = w3.heap.size := by simp [World.setCell]
  rw [e] at h
  exact h
theorem mid_size (w3 : World) (n₀ j b' : Nat) : (midW w3 n₀ j b').heap.size = w3.heap.size + 1 := by simp [World.setCell]
theorem fin_cells {w3 w6 : World} {n₀ : Nat} {ra : Array Value} (hk : Kept (fun k => k = n₀ + 2) w3 w6) (hr : w3.heap[n₀ + 5]? = some (.cells ra 28 (0, 0))) (o : Obj) (j : Nat) :
    (w6.alloc o).cell? ⟨n₀ + 1 + 1 + 1 + 1 + 1, j, none⟩ = ra[j]? ∧ (w6.alloc o).frozen? ⟨n₀ + 1 + 1 + 1 + 1 + 1, j, none⟩ = false := by
  have h := (hk.alloc o).at hr (fun e => by omega)
  exact ⟨cellAt h j, frozenAt h j⟩
theorem play_copied {w w3 w6 : World} {n₀ b' j p : Nat} {L : List Sym} {v : Value} {la ra : Array Value} {own : Option Nat} (hz : n₀ + 5 < w.heap.size) (hl : w.heap[n₀ + 2]? = some (.cells la 25 (0, 0))) (hr : w.heap[n₀ + 5]? = some (.cells ra 28 (0, 0)))
    (hcp : Copied w L b' w3) (hown : w6.ownsRow w3.heap.size 35 3 v L.length (symCells L)) (hg : (midW w3 n₀ j b').grownBy w6 own) (ho : ∀ k, own = some k → w3.heap.size ≤ k) (hp : w6.heap.size = p) :
    ∃ sv mr, Half.ok ⟨b', p, L, sv, mr, v⟩ ((w6.alloc (.cells #[v] 31)).setCell ⟨n₀ + 1 + 1 + 1 + 1 + 1, j, none⟩ (pt p)) ∧ (∀ k, Half.foot ⟨b', p, L, sv, mr, v⟩ k → w.heap.size ≤ k) ∧
      Kept (fun k => k = n₀ + 2 ∨ k = n₀ + 5) w ((w6.alloc (.cells #[v] 31)).setCell ⟨n₀ + 1 + 1 + 1 + 1 + 1, j, none⟩ (pt p)) ∧
      ((w6.alloc (.cells #[v] 31)).setCell ⟨n₀ + 1 + 1 + 1 + 1 + 1, j, none⟩ (pt p)).heap[n₀ + 2]? = some (.cells (la.setIfInBounds j (pt b')) 25 (0, 0)) ∧
      ((w6.alloc (.cells #[v] 31)).setCell ⟨n₀ + 1 + 1 + 1 + 1 + 1, j, none⟩ (pt p)).heap[n₀ + 5]? = some (.cells (ra.setIfInBounds j (pt p)) 28 (0, 0)) := by
  subst hp
  exact play_copy hz hl hr hcp hown hg ho
end Go.Proofs.Ytaaoomociddopaa
