/- Runes of a text, by the model's own decoding: how wide they are, which bytes they take, and that a text's end is decoded as it lies; no program in sight. -/
import Derived.Test.YtecbfnaeglkbaaaLexPlain
import Derived.Lib.OthersKept
namespace Go.Proofs.Ytecbfnaeglkbaaa
open Go.RowKit
set_option linter.unusedVariables false
def wd (s : ByteArray) (p : Nat) : Nat := (Utf8.decode s p).2
def ru (s : ByteArray) (p : Nat) : Nat := (Utf8.decode s p).1
theorem wd_ascii {s : ByteArray} {p : Nat} (h : p < s.size) (ha : s[p].toNat < 128) : wd s p = 1 := by unfold wd; rw [decode_ascii s p h ha]
theorem ru_ascii {s : ByteArray} {p : Nat} (h : p < s.size) (ha : s[p].toNat < 128) : ru s p = s[p].toNat := by unfold ru; rw [decode_ascii s p h ha]
theorem ru_high {s : ByteArray} {p : Nat} (h : p < s.size) (ha : 128 ≤ s[p].toNat) : 128 ≤ ru s p := (decode_high s p h ha).1
theorem wd_pos {s : ByteArray} {p : Nat} (h : p < s.size) : 1 ≤ wd s p := by
  by_cases ha : s[p].toNat < 128
  · rw [wd_ascii h ha]; exact Nat.le_refl _
  · exact (decode_high s p h (by omega)).2
theorem get_bang (s : ByteArray) (i : Nat) (h : i < s.size) : s.get! i = s[i] := get_at s i h
/-- All bytes of a rune but the first are 128 or more, and they lie in the text. -/
theorem wd_bytes {s : ByteArray} {p : Nat} (h : p < s.size) : ∀ k, 0 < k → k < wd s p → ∃ hk : p + k < s.size, 128 ≤ (s[p + k]).toNat := by
  intro k h0 hk
  have hc : ∀ k, (decide (p + k < s.size) && (s.get! (p + k)).toNat / 64 == 2) = true → ∃ hk : p + k < s.size, 128 ≤ (s[p + k]).toNat := by
    intro k e
    simp only [Bool.and_eq_true, decide_eq_true_eq, beq_iff_eq] at e
    refine ⟨e.1, ?_⟩
    rw [← get_bang s (p + k) e.1]
    omega
  unfold wd Utf8.decode at hk
  simp only at hk
  repeat' split at hk
  all_goals simp only at hk
  all_goals first
    | omega
    | (rcases (show k = 1 ∨ k = 2 ∨ k = 3 by omega) with rfl | rfl | rfl
       all_goals first
         | omega
         | exact hc _ (by simp_all))
theorem wd_le {s : ByteArray} {p : Nat} (h : p < s.size) : p + wd s p ≤ s.size := by
  have h1 := wd_pos h
  by_cases e : wd s p = 1
  · omega
  · obtain ⟨hk, _⟩ := wd_bytes h (wd s p - 1) (by omega) (by omega)
    omega
/-- The text from a place on. -/
def tail (s : ByteArray) (a : Nat) : ByteArray := s.extract a s.size
theorem tail_size (s : ByteArray) (a : Nat) (h : a ≤ s.size) : (tail s a).size = s.size - a := by simp [tail]
theorem tail_get (s : ByteArray) (a i : Nat) (h : i < (tail s a).size) (h' : a + i < s.size) : (tail s a)[i] = s[a + i] := by
  unfold tail
  exact ByteArray.getElem_extract h
theorem tail_bang (s : ByteArray) (a i : Nat) (ha : a ≤ s.size) : (tail s a).get! i = s.get! (a + i) := by
  by_cases h : a + i < s.size
  · rw [get_bang s _ h, get_bang (tail s a) i (by rw [tail_size s a ha]; omega), tail_get s a i _ h]
  · have h1 : ¬ i < (tail s a).size := by rw [tail_size s a ha]; omega
    simp only [ByteArray.get!]
    rw [getElem!_neg _ _ (by simpa using h1), getElem!_neg _ _ (by simpa using h)]
theorem decode_tail (s : ByteArray) (a p : Nat) (ha : a ≤ s.size) : Utf8.decode (tail s a) p = Utf8.decode s (a + p) := by
  unfold Utf8.decode
  have e1 : ∀ k, (tail s a).get! (p + k) = s.get! (a + p + k) := fun k => by rw [tail_bang s a _ ha, Nat.add_assoc]
  have e2 : ∀ k, decide (p + k < (tail s a).size) = decide (a + p + k < s.size) := fun k => by rw [decide_eq_decide, tail_size s a ha]; omega
  simp only [e1, e2]
/-- From one place to another, by so many runes. -/
def ReachN (s : ByteArray) : Nat → Nat → Nat → Prop
  | 0, p, q => p = q
  | n + 1, p, q => p < s.size ∧ ReachN s n (p + wd s p) q
/-- From one place to another, rune by rune. -/
def Reach (s : ByteArray) (p q : Nat) : Prop := ∃ n, ReachN s n p q
theorem Reach.refl {s : ByteArray} (p : Nat) : Reach s p p := ⟨0, rfl⟩
theorem Reach.step {s : ByteArray} (p q : Nat) (h : p < s.size) (hr : Reach s (p + wd s p) q) : Reach s p q := by
  obtain ⟨n, hn⟩ := hr
  exact ⟨n + 1, h, hn⟩
theorem ReachN.le {s : ByteArray} {n : Nat} : ∀ {p q : Nat}, ReachN s n p q → p ≤ q := by
  induction n with
  | zero => intro p q h; exact Nat.le_of_eq h
  | succ n ih => intro p q h; have := ih h.2; omega
theorem Reach.le {s : ByteArray} {p q : Nat} (h : Reach s p q) : p ≤ q := by
  obtain ⟨n, hn⟩ := h
  exact hn.le
theorem ReachN.snoc {s : ByteArray} {n : Nat} : ∀ {p q : Nat}, ReachN s n p q → q < s.size → ReachN s (n + 1) p (q + wd s q) := by
  induction n with
  | zero => intro p q h hq; cases h; exact ⟨hq, rfl⟩
  | succ n ih => intro p q h hq; exact ⟨h.1, ih h.2 hq⟩
theorem Reach.snoc {s : ByteArray} {p q : Nat} (h : Reach s p q) (hq : q < s.size) : Reach s p (q + wd s q) := by
  obtain ⟨n, hn⟩ := h
  exact ⟨n + 1, hn.snoc hq⟩
theorem Reach.next {s : ByteArray} {p q : Nat} (h : Reach s p q) (hpq : p < q) : Reach s (p + wd s p) q := by
  obtain ⟨n, hn⟩ := h
  cases n with
  | zero => have : p = q := hn; omega
  | succ n => exact ⟨n, hn.2⟩
theorem ReachN.tail {s : ByteArray} {a : Nat} (ha : a ≤ s.size) {n : Nat} : ∀ {p q : Nat}, ReachN (tail s a) n p q → ReachN s n (a + p) (a + q) := by
  induction n with
  | zero => intro p q h; cases h; exact rfl
  | succ n ih =>
    intro p q h
    obtain ⟨hp, h⟩ := h
    have h2 := ih h
    have e : wd (Ytecbfnaeglkbaaa.tail s a) p = wd s (a + p) := by unfold wd; rw [decode_tail s a p ha]
    rw [e] at h2
    refine ⟨by rw [tail_size s a ha] at hp; omega, ?_⟩
    rw [Nat.add_assoc]; exact h2
theorem Reach.tail {s : ByteArray} {a : Nat} (ha : a ≤ s.size) {p q : Nat} (h : Reach (tail s a) p q) : Reach s (a + p) (a + q) := by
  obtain ⟨n, hn⟩ := h
  exact ⟨n, hn.tail ha⟩
end Go.Proofs.Ytecbfnaeglkbaaa
