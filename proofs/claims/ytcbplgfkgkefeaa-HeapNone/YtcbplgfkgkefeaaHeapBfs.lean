/- Who stands beneath a node, gathered step by step: plain theory of stands. -/
import Derived.Test.YtcbplgfkgkefeaaHeapPlain
namespace Go.Proofs.Ytcbplgfkgkefeaa
set_option linter.unusedVariables false
/-- What was met from top on: marks of N nodes, and the list of those that were found. -/
structure Bf (l : List Nd) (top N : Nat) (met : List Bool) (F : List Nat) : Prop where
  len : met.length = N
  top' : top ∈ F
  each : ∀ j ∈ F, j < l.length ∧ Rc l top j
  iff : ∀ j, met[j]? = some true ↔ j ∈ F
  cnt : F.length = met.count true
/-- All that stands right beneath the first i of them was found. -/
def Cl (l : List Nd) (F : List Nat) (i : Nat) : Prop := ∀ k (h : k < F.length), k < i → ∀ j, Ed l F[k] j → j ∈ F
theorem Bf.le {l : List Nd} {top N : Nat} {met : List Bool} {F : List Nat} (h : Bf l top N met F) : F.length ≤ N := by
  rw [h.cnt, ← h.len]; exact List.count_le_length
theorem Bf.start {l : List Nd} {top N : Nat} (ht : top < l.length) (hN : l.length ≤ N) : Bf l top N ((List.replicate N false).set top true) [top] := by
  refine ⟨by simp, by simp, ?_, ?_, ?_⟩
  · intro j hj; simp at hj; subst hj; exact ⟨ht, Rc.refl l j⟩
  · intro j
    rw [List.getElem?_set]
    by_cases e : top = j
    · subst e; simp; omega
    · simp [e, List.getElem?_replicate]
      intro h; exact e h.symm
  · rw [List.count_set (by simp; omega), List.count_replicate]
    simp
theorem Bf.push {l : List Nd} {top N : Nat} {met : List Bool} {F : List Nat} (h : Bf l top N met F) {b : Nat} (hb : met[b]? = some false) (hl : b < l.length) (hr : Rc l top b) : Bf l top N (met.set b true) (F ++ [b]) := by
  obtain ⟨hlt, hv⟩ := List.getElem?_eq_some_iff.1 hb
  refine ⟨by simp [h.len], by simp [h.top'], ?_, ?_, ?_⟩
  · intro j hj
    rcases List.mem_append.1 hj with q | q
    · exact h.each j q
    · simp at q; subst q; exact ⟨hl, hr⟩
  · intro j
    rw [List.getElem?_set]
    by_cases e : b = j
    · subst e; simp [hlt]
    · rw [if_neg e, h.iff]
      simp
      intro q; exact absurd q.symm e
  · rw [List.count_set hlt, List.length_append, h.cnt]
    simp [hv]
theorem Cl.push {l : List Nd} {F : List Nat} {i : Nat} (h : Cl l F i) (hi : i ≤ F.length) (b : Nat) : Cl l (F ++ [b]) i := by
  intro k hk hki j e
  rw [List.getElem_append_left (by omega)] at e
  exact List.mem_append.2 (.inl (h k (by omega) hki j e))
theorem Bf.done {l : List Nd} {top N : Nat} {met : List Bool} {F : List Nat} (h : Bf l top N met F) (hc : Cl l F F.length) (a : Nat) : met[a]? = some true ↔ Rc l top a := by
  rw [h.iff]
  refine ⟨fun q => (h.each a q).2, fun q => ?_⟩
  refine Rc.in (S := fun j => j ∈ F) (fun i j hi e => ?_) h.top' q
  obtain ⟨k, hk, rfl⟩ := List.mem_iff_getElem.1 hi
  exact hc k hk hk j e
theorem Bf.has {l : List Nd} {top N : Nat} {met : List Bool} {F : List Nat} (h : Bf l top N met F) {a : Nat} (q : met[a]? = some true) : Rc l top a := (h.each a ((h.iff a).1 q)).2
theorem Cl.next {l : List Nd} {F : List Nat} {i : Nat} (h : Cl l F i) (hi : i < F.length) (hd : ∀ z ∈ (if h : F[i] < l.length then downL l[F[i]] else []), z.toNat ∈ F) : Cl l F (i + 1) := by
  intro k hk hki j e
  by_cases q : k = i
  · subst q
    obtain ⟨hlt, hm⟩ := e
    have := hd (j : Int) (by rw [dif_pos hlt]; exact hm)
    simpa using this
  · exact h k hk (by omega) j e
end Go.Proofs.Ytcbplgfkgkefeaa
