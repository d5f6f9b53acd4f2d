/- Which bytes and which byte strings are names, in plain words: no program in sight. -/
import Derived.WalkKit
namespace Go.Proofs.Ytikcocjbbbdmgaa
def smB (c : Int) : Bool := decide (97 ≤ c) && decide (c ≤ 122)
def grB (c : Int) : Bool := decide (65 ≤ c) && decide (c ≤ 90)
def dgB (c : Int) : Bool := decide (48 ≤ c) && decide (c ≤ 57)
/-- May this byte stand at place i of a name? -/
def nmAt (i : Nat) (c : Int) : Bool := smB c || (decide (0 < i) && dgB c)
/-- .. of a variable? -/
def vrAt (i : Nat) (c : Int) : Bool := grB c || (decide (0 < i) && (smB c || dgB c))
def NameP (s : ByteArray) : Prop := 1 ≤ s.size ∧ s.size ≤ 12 ∧ ∀ i (h : i < s.size), nmAt i (s[i].toNat : Int) = true
def VarP (s : ByteArray) : Prop := 1 ≤ s.size ∧ s.size ≤ 12 ∧ ∀ i (h : i < s.size), vrAt i (s[i].toNat : Int) = true
def nameB (s : ByteArray) : Bool := decide (1 ≤ s.size ∧ s.size ≤ 12 ∧ ∀ i (h : i < s.size), nmAt i (s[i].toNat : Int) = true)
def varB (s : ByteArray) : Bool := decide (1 ≤ s.size ∧ s.size ≤ 12 ∧ ∀ i (h : i < s.size), vrAt i (s[i].toNat : Int) = true)
theorem nameB_no {s : ByteArray} (h : ¬ NameP s) : nameB s = false := decide_eq_false h
theorem nameB_yes {s : ByteArray} (h : NameP s) : nameB s = true := decide_eq_true h
theorem varB_no {s : ByteArray} (h : ¬ VarP s) : varB s = false := decide_eq_false h
theorem varB_yes {s : ByteArray} (h : VarP s) : varB s = true := decide_eq_true h
theorem not_both (s : ByteArray) : (nameB s && varB s) = false := by
  by_cases h : NameP s
  · by_cases g : VarP s
    · have a := h.2.2 0 (by have := h.1; omega)
      have b := g.2.2 0 (by have := h.1; omega)
      simp [nmAt, vrAt, smB, grB] at a b
      omega
    · simp [varB_no g]
  · simp [nameB_no h]
end Go.Proofs.Ytikcocjbbbdmgaa
