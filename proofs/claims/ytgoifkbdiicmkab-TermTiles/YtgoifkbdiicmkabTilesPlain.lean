/- How often a place is an argument, in plain words. -/
import Derived.Test.YtgoifkbdiicmkabTermPlain
import Derived.Test.YtgoifkbdiicmkabTermBase
import Derived.Test.YtgoifkbdiicmkabTermArgs
namespace Go.Proofs.Ytgoifkbdiicmkab
set_option linter.unusedVariables false
/-- How often p is an argument of one of the n places from lo on. -/
def cntR (L : List Sym) (t : List Int) (p : Nat) : Nat → Nat → Nat
  | _, 0 => 0
  | lo, n + 1 => (argsN L t lo).count p + cntR L t p (lo + 1) n
theorem cntR_add (L : List Sym) (t : List Int) (p lo m n : Nat) : cntR L t p lo (m + n) = cntR L t p lo m + cntR L t p (lo + m) n := by
  induction m generalizing lo with
  | zero => simp [cntR]
  | succ m ih =>
    rw [show m + 1 + n = (m + n) + 1 by omega, cntR, cntR, ih (lo + 1), show lo + 1 + m = lo + (m + 1) by omega]
    omega
theorem cntR_succ (L : List Sym) (t : List Int) (p n : Nat) : cntR L t p 0 (n + 1) = cntR L t p 0 n + (argsN L t n).count p := by
  rw [cntR_add]; simp [cntR]
def one (b : Prop) [Decidable b] : Nat := if b then 1 else 0
theorem forest_count {L : List Sym} {t : List Int} (p : Nat) (n : Nat) : ∀ k lo hi, hi - lo ≤ n → Forest L t k lo hi → cntR L t p lo (hi - lo) + (starts L t k lo).count p = if lo ≤ p ∧ p < hi then 1 else 0 := by
  induction n with
  | zero =>
    intro k lo hi h hf
    cases k with
    | zero =>
      have := hf.zero
      subst this
      simp [cntR, starts]
    | succ k => have := hf.pos; omega
  | succ n ih =>
    intro k lo hi h hf
    cases k with
    | zero =>
      have := hf.zero
      subst this
      simp [cntR, starts]
    | succ k =>
      obtain ⟨f1, f2, f3⟩ := hf.succ
      have hle := f3.le
      obtain ⟨hp, fk⟩ := f1.kids
      have e1 := ih _ (lo + 1) (endN L t lo) (by omega) fk
      have e2 := ih k (endN L t lo) hi (by omega) f3
      have e3 : cntR L t p lo (hi - lo) = (argsN L t lo).count p + cntR L t p (lo + 1) (endN L t lo - (lo + 1)) + cntR L t p (endN L t lo) (hi - endN L t lo) := by
        rw [show hi - lo = (1 + (endN L t lo - (lo + 1))) + (hi - endN L t lo) by omega, cntR_add, cntR_add, show lo + (1 + (endN L t lo - (lo + 1))) = endN L t lo by omega]
        simp [cntR]
      rw [e3, starts, List.count_cons]
      rw [← argsN_eq hp] at e1
      by_cases c1 : lo = p
      · subst c1
        simp only [beq_self_eq_true, if_true]
        have q1 : ¬ (lo + 1 ≤ lo ∧ lo < endN L t lo) := by omega
        have q2 : ¬ (endN L t lo ≤ lo ∧ lo < hi) := by omega
        have q3 : lo ≤ lo ∧ lo < hi := by omega
        rw [if_neg q1] at e1
        rw [if_neg q2] at e2
        rw [if_pos q3]
        omega
      · have cb : (lo == p) = false := by simpa using c1
        rw [cb]
        simp only [Bool.false_eq_true, if_false]
        by_cases q : lo ≤ p ∧ p < hi
        · rw [if_pos q]
          by_cases q1 : p < endN L t lo
          · rw [if_pos (by omega)] at e1
            rw [if_neg (by omega)] at e2
            omega
          · rw [if_neg (by omega)] at e1
            rw [if_pos (by omega)] at e2
            omega
        · rw [if_neg q]
          rw [if_neg (by omega)] at e1
          rw [if_neg (by omega)] at e2
          omega
theorem tiles_all {L : List Sym} {t : List Int} (h : IsT L t) (p : Nat) (hp : p < t.length) : cntR L t p 0 t.length = if p = 0 then 0 else 1 := by
  have hf := Forest.one h (isT_pos h)
  rw [endN_zero h] at hf
  have := forest_count p t.length 1 0 t.length (by omega) hf
  rw [if_pos (by omega)] at this
  simp only [Nat.sub_zero, starts, List.count_cons, List.count_nil, Nat.zero_add] at this
  by_cases h0 : p = 0
  · subst h0; simp at this ⊢; omega
  · have : (0 == p) = false := by simp; omega
    simp_all
theorem argsN_len {L : List Sym} (ha : Ars L) (t : List Int) (i : Nat) : (argsN L t i).length ≤ 6 := by
  unfold argsN; rw [starts_length]; exact arN_le ha _
theorem cntR_le {L : List Sym} (ha : Ars L) (t : List Int) (p lo n : Nat) : cntR L t p lo n ≤ 6 * n := by
  induction n generalizing lo with
  | zero => simp [cntR]
  | succ n ih =>
    rw [cntR]
    have := ih (lo + 1)
    have h1 := List.count_le_length (a := p) (l := argsN L t lo)
    have := argsN_len ha t lo
    omega
/-- The counts when i places, and k arguments of the next one, are done. -/
def seenL (L : List Sym) (t : List Int) (N i k : Nat) : List Int := (List.range N).map fun p => ((cntR L t p 0 i + ((argsN L t i).take k).count p : Nat) : Int)
theorem seenL_length (L : List Sym) (t : List Int) (N i k : Nat) : (seenL L t N i k).length = N := by simp [seenL]
theorem seenL_zero (L : List Sym) (t : List Int) (N : Nat) : seenL L t N 0 0 = List.replicate N 0 := by
  apply List.ext_getElem
  · simp [seenL]
  · intro i h1 h2; simp [seenL, cntR]
theorem seenL_get {L : List Sym} {t : List Int} {N i k p : Nat} (hp : p < N) : (seenL L t N i k)[p]'(by rw [seenL_length]; exact hp) = ((cntR L t p 0 i + ((argsN L t i).take k).count p : Nat) : Int) := by simp [seenL]
theorem seenL_next {L : List Sym} {t : List Int} {N i k P : Nat} (hk : (argsN L t i)[k]? = some P) : seenL L t N i (k + 1) = (seenL L t N i k).set P ((cntR L t P 0 i + ((argsN L t i).take k).count P : Nat) + 1 : Int) := by
  apply List.ext_getElem
  · simp [seenL]
  · intro p h1 h2
    rw [List.getElem_set]
    simp only [seenL, List.getElem_map, List.getElem_range]
    rw [List.take_add_one, hk]
    simp only [Option.toList_some, List.count_append, List.count_cons, List.count_nil, Nat.zero_add]
    by_cases e : P = p
    · subst e; simp; omega
    · have : (P == p) = false := by simpa using e
      simp [e, this]
theorem seenL_row {L : List Sym} {t : List Int} {N i : Nat} : seenL L t N i (argsN L t i).length = seenL L t N (i + 1) 0 := by
  apply List.ext_getElem
  · simp [seenL]
  · intro p h1 h2
    simp only [seenL, List.getElem_map, List.getElem_range, List.take_length, List.take_zero, List.count_nil, Nat.add_zero]
    rw [cntR_succ]
end Go.Proofs.Ytgoifkbdiicmkab
