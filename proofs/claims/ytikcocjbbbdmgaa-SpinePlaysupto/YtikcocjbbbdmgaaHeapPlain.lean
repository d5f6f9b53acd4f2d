/- Nodes as plain data: who stands beneath whom, and that no node stands beneath itself. -/
import Derived.Test.YtikcocjbbbdmgaaBase
namespace Go.Proofs.Ytikcocjbbbdmgaa
set_option linter.unusedVariables false
/-- A node: symbol, arguments, mark, whether it points, where to. -/
abbrev Nd := Int × List Int × Int × Bool × Int
/-- The nodes right beneath one. -/
def downL (n : Nd) : List Int := if n.2.2.2.1 = true then [n.2.2.2.2] else n.2.1
/-- All that stands right beneath nodes of a list are nodes of it. -/
def InL (l : List Nd) : Prop := ∀ i (h : i < l.length), ∀ x ∈ downL l[i], 0 ≤ x ∧ x < (l.length : Int)
/-- j stands right beneath i. -/
def Ed (l : List Nd) (i j : Nat) : Prop := ∃ h : i < l.length, (j : Int) ∈ downL l[i]
/-- Ranks that fall downwards: so no node stands beneath itself. -/
def Ac (l : List Nd) : Prop := ∃ r : Nat → Nat, ∀ i j, Ed l i j → r j < r i
/-- k steps down from i to j. -/
def Rk (l : List Nd) : Nat → Nat → Nat → Prop
  | 0, i, j => i = j
  | k + 1, i, j => ∃ m, Ed l i m ∧ Rk l k m j
/-- j is i, or stands beneath it. -/
def Rc (l : List Nd) (i j : Nat) : Prop := ∃ k, Rk l k i j
theorem Rc.refl (l : List Nd) (i : Nat) : Rc l i i := ⟨0, rfl⟩
theorem Rc.step {l : List Nd} {i m j : Nat} (h : Ed l i m) (k : Rc l m j) : Rc l i j := by
  obtain ⟨n, hn⟩ := k
  exact ⟨n + 1, m, h, hn⟩
theorem Rk.snoc {l : List Nd} : ∀ {k i m j : Nat}, Rk l k i m → Ed l m j → Rk l (k + 1) i j
  | 0, i, m, j, h, e => by cases h; exact ⟨j, e, rfl⟩
  | k + 1, i, m, j, ⟨x, h1, h2⟩, e => ⟨x, h1, h2.snoc e⟩
theorem Rc.snoc {l : List Nd} {i m j : Nat} (h : Rc l i m) (e : Ed l m j) : Rc l i j := by
  obtain ⟨n, hn⟩ := h
  exact ⟨n + 1, hn.snoc e⟩
theorem Rk.trans {l : List Nd} : ∀ {k i m j : Nat}, Rk l k i m → Rc l m j → Rc l i j
  | 0, i, m, j, h, e => by cases h; exact e
  | k + 1, i, m, j, ⟨x, h1, h2⟩, e => (h2.trans e).step h1
theorem Rc.trans {l : List Nd} {i m j : Nat} (h : Rc l i m) (e : Rc l m j) : Rc l i j := by
  obtain ⟨n, hn⟩ := h
  exact hn.trans e
theorem Rk.rank {l : List Nd} {r : Nat → Nat} (hr : ∀ i j, Ed l i j → r j < r i) : ∀ {k i j : Nat}, Rk l k i j → r j + k ≤ r i
  | 0, i, j, h => by cases h; omega
  | k + 1, i, j, ⟨m, h1, h2⟩ => by
    have := Rk.rank hr h2
    have := hr i m h1
    omega
/-- Where ranks fall, no node stands beneath itself. -/
theorem Ac.no_ring {l : List Nd} (h : Ac l) {i j : Nat} (e : Ed l i j) : ¬ Rc l j i := by
  obtain ⟨r, hr⟩ := h
  rintro ⟨k, hk⟩
  have := Rk.rank hr hk
  have := hr i j e
  omega
/-- A set of nodes that is closed downwards and holds the first one holds all beneath it. -/
theorem Rc.in {l : List Nd} {S : Nat → Prop} (hS : ∀ i j, S i → Ed l i j → S j) {i j : Nat} (hi : S i) (h : Rc l i j) : S j := by
  obtain ⟨k, hk⟩ := h
  induction k generalizing i with
  | zero => cases hk; exact hi
  | succ k ih =>
    obtain ⟨m, h1, h2⟩ := hk
    exact ih (hS i m hi h1) h2
theorem ed_set {l : List Nd} {a : Nat} {x : Nd} {i j : Nat} (h : Ed (l.set a x) i j) : (i ≠ a ∧ Ed l i j) ∨ (i = a ∧ (j : Int) ∈ downL x) := by
  obtain ⟨hi, hm⟩ := h
  by_cases e : i = a
  · subst e
    rw [List.getElem_set_self] at hm
    exact .inr ⟨rfl, hm⟩
  · rw [List.getElem_set_ne (by omega)] at hm
    exact .inl ⟨e, by simpa using hi, hm⟩
/-- A node that comes to point at what it does not stand beneath: no ring comes of it. -/
theorem Ac.point {l : List Nd} (h : Ac l) {a t : Nat} (hn : ¬ Rc l t a) (x : Nd) (hx : ∀ j : Nat, (j : Int) ∈ downL x → j = t) : Ac (l.set a x) := by
  obtain ⟨r, hr⟩ := h
  have dec : ∀ i, Rc l t i ∨ ¬ Rc l t i := fun i => Classical.em _
  obtain ⟨f, hf⟩ := Classical.axiomOfChoice (r := fun (i : Nat) (n : Nat) => (Rc l t i → n = r i) ∧ (¬ Rc l t i → n = r i + (r t + 1))) (fun i => by
    rcases dec i with q | q
    · exact ⟨r i, fun _ => rfl, fun e => absurd q e⟩
    · exact ⟨r i + (r t + 1), fun e => absurd e q, fun _ => rfl⟩)
  refine ⟨f, fun i j e => ?_⟩
  have up : ∀ i, r i ≤ f i ∧ f i ≤ r i + (r t + 1) := fun i => by
    rcases dec i with q | q
    · have := (hf i).1 q; omega
    · have := (hf i).2 q; omega
  rcases ed_set e with ⟨hne, e1⟩ | ⟨rfl, e1⟩
  · have h1 := hr i j e1
    rcases dec i with q | q
    · have h2 := (hf i).1 q
      have h3 := (hf j).1 (q.snoc e1)
      omega
    · have h2 := (hf i).2 q
      have h3 := (up j).2
      omega
  · obtain rfl := hx j e1
    have h2 := (hf i).2 hn
    have h3 := (hf j).1 (Rc.refl l j)
    omega
theorem ed_snoc {l : List Nd} {x : Nd} {i j : Nat} (h : Ed (l ++ [x]) i j) : Ed l i j ∨ (i = l.length ∧ (j : Int) ∈ downL x) := by
  obtain ⟨hi, hm⟩ := h
  by_cases e : i < l.length
  · rw [List.getElem_append_left e] at hm
    exact .inl ⟨e, hm⟩
  · obtain rfl : i = l.length := by simp at hi; omega
    exact .inr ⟨rfl, by simpa using hm⟩
/-- The greatest of some ranks. -/
def topR (r : Nat → Nat) : List Int → Nat
  | [] => 0
  | x :: l => max (r x.toNat) (topR r l)
theorem topR_le {r : Nat → Nat} : ∀ {l : List Int} {j : Nat}, (j : Int) ∈ l → r j ≤ topR r l
  | x :: l, j, h => by
    rcases List.mem_cons.1 h with e | e
    · simp only [topR, ← e, Int.toNat_natCast]; omega
    · have := topR_le (r := r) e
      simp only [topR]; omega
/-- A node that is made of nodes that were there ahead of it. -/
theorem Ac.make {l : List Nd} (h : Ac l) (hl : InL l) (x : Nd) (hx : ∀ z ∈ downL x, 0 ≤ z ∧ z < (l.length : Int)) : Ac (l ++ [x]) := by
  obtain ⟨r, hr⟩ := h
  refine ⟨fun i => if i = l.length then topR r (downL x) + 1 else r i, fun i j e => ?_⟩
  rcases ed_snoc e with e1 | ⟨rfl, e1⟩
  · have hi : i < l.length := e1.1
    have hj : (j : Int) < (l.length : Int) := (hl i hi _ e1.2).2
    simp only [if_neg (show ¬ i = l.length by omega), if_neg (show ¬ j = l.length by omega)]
    exact hr i j e1
  · have hj := (hx _ e1).2
    simp only [if_neg (show ¬ j = l.length by omega), if_true]
    have := topR_le (r := r) e1
    omega
theorem InL.make {l : List Nd} (hl : InL l) (x : Nd) (hx : ∀ z ∈ downL x, 0 ≤ z ∧ z < (l.length : Int)) : InL (l ++ [x]) := by
  intro i hi z hz
  have e : ((l ++ [x]).length : Int) = (l.length : Int) + 1 := by simp
  by_cases h : i < l.length
  · rw [List.getElem_append_left h] at hz
    have := hl i h z hz
    omega
  · obtain rfl : i = l.length := by simp at hi; omega
    have := hx z (by simpa using hz)
    omega
theorem InL.set {l : List Nd} (hl : InL l) (a : Nat) (x : Nd) (hx : ∀ z ∈ downL x, 0 ≤ z ∧ z < (l.length : Int)) : InL (l.set a x) := by
  intro i hi z hz
  rw [List.length_set]
  by_cases e : i = a
  · subst e
    rw [List.getElem_set_self] at hz
    exact hx z hz
  · rw [List.getElem_set_ne (by omega)] at hz
    exact hl i (by simpa using hi) z hz
/-- Nodes of which ranks are known: all that stands right beneath one is one of them, of a lesser rank. -/
def Snd (l : List Nd) (S : Nat → Prop) : Prop := ∃ r : Nat → Nat, ∀ i j, S i → Ed l i j → S j ∧ r j < r i
theorem Snd.none (l : List Nd) : Snd l (fun _ => False) := ⟨fun _ => 0, fun _ _ h => h.elim⟩
theorem Snd.more {l : List Nd} {S : Nat → Prop} (h : Snd l S) {a : Nat} (ha : ∀ j, Ed l a j → S j) : Snd l (fun i => S i ∨ i = a) := by
  obtain ⟨r, hr⟩ := h
  by_cases hS : S a
  · refine ⟨r, fun i j hi e => ?_⟩
    have hi : S i := by rcases hi with q | q; exact q; rw [q]; exact hS
    exact ⟨.inl (hr i j hi e).1, (hr i j hi e).2⟩
  · by_cases hl : a < l.length
    · refine ⟨fun i => if i = a then topR r (downL l[a]) + 1 else r i, fun i j hi e => ?_⟩
      rcases hi with hi | rfl
      · have h1 := hr i j hi e
        have n1 : ¬ i = a := fun q => hS (q ▸ hi)
        have n2 : ¬ j = a := fun q => hS (q ▸ h1.1)
        simp only [if_neg n1, if_neg n2]
        exact ⟨.inl h1.1, h1.2⟩
      · have h1 := ha j e
        have n2 : ¬ j = i := fun q => hS (q ▸ h1)
        simp only [if_neg n2, if_true]
        have := topR_le (r := r) e.2
        exact ⟨.inl h1, by omega⟩
    · refine ⟨r, fun i j hi e => ?_⟩
      rcases hi with hi | rfl
      · exact ⟨.inl (hr i j hi e).1, (hr i j hi e).2⟩
      · exact absurd e.1 hl
/-- If all nodes came to be known, no node stands beneath itself. -/
theorem Snd.ac {l : List Nd} {S : Nat → Prop} (h : Snd l S) (ha : ∀ i, i < l.length → S i) : Ac l := by
  obtain ⟨r, hr⟩ := h
  exact ⟨r, fun i j e => (hr i j (ha i e.1) e).2⟩
/-- If no node stands beneath itself, a set to which nothing can be added holds all nodes. -/
theorem Ac.all {l : List Nd} (h : Ac l) (hl : InL l) {S : Nat → Prop} (hS : ∀ i, i < l.length → (∀ j, Ed l i j → S j) → S i) : ∀ i, i < l.length → S i := by
  obtain ⟨r, hr⟩ := h
  have : ∀ n i, r i < n → i < l.length → S i := by
    intro n
    induction n with
    | zero => intro i h; omega
    | succ n ih =>
      intro i h hi
      refine hS i hi (fun j e => ih j ?_ ?_)
      · have := hr i j e; omega
      · have := (hl i hi _ e.2).2; omega
  exact fun i hi => this (r i + 1) i (by omega) hi
end Go.Proofs.Ytikcocjbbbdmgaa
