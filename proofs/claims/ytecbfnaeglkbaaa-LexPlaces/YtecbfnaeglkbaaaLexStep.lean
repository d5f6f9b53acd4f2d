/- One piece of a text: what the program's kinds of pieces say of the tokens; no program in sight but the names of LexBytes. -/
import Derived.Test.YtecbfnaeglkbaaaLexFirst
namespace Go.Proofs.Ytecbfnaeglkbaaa
open Go.RowKit
set_option linter.unusedVariables false
set_option linter.unusedSimpArgs false
/-- The kind of the piece that a byte begins. -/
def begunU (b : UInt8) : Int := if smU b = true then 1 else if grU b = true then 2 else if dgU b = true then 3 else if b = 9 ∨ b = 10 ∨ b = 13 ∨ b = 32 then -2 else if b = 37 then -1 else if b = 45 then 8 else (markK b : Int)
theorem begunZ_eq (b : UInt8) : begunZ (b.toNat : Int) = begunU b := by
  by_cases c9 : b = 9
  · subst c9; decide
  by_cases c10 : b = 10
  · subst c10; decide
  by_cases c13 : b = 13
  · subst c13; decide
  by_cases c32 : b = 32
  · subst c32; decide
  by_cases c37 : b = 37
  · subst c37; decide
  by_cases c40 : b = 40
  · subst c40; decide
  by_cases c41 : b = 41
  · subst c41; decide
  by_cases c44 : b = 44
  · subst c44; decide
  by_cases c59 : b = 59
  · subst c59; decide
  by_cases c45 : b = 45
  · subst c45; decide
  by_cases c47 : b = 47
  · subst c47; decide
  by_cases c46 : b = 46
  · subst c46; decide
  by_cases c58 : b = 58
  · subst c58; decide
  by_cases c42 : b = 42
  · subst c42; decide
  have e9 : ¬ (b.toNat : Int) = 9 := fun e => c9 ((u8_eq b 9 (by omega)).1 e)
  have e10 : ¬ (b.toNat : Int) = 10 := fun e => c10 ((u8_eq b 10 (by omega)).1 e)
  have e13 : ¬ (b.toNat : Int) = 13 := fun e => c13 ((u8_eq b 13 (by omega)).1 e)
  have e32 : ¬ (b.toNat : Int) = 32 := fun e => c32 ((u8_eq b 32 (by omega)).1 e)
  have e37 : ¬ (b.toNat : Int) = 37 := fun e => c37 ((u8_eq b 37 (by omega)).1 e)
  have e40 : ¬ (b.toNat : Int) = 40 := fun e => c40 ((u8_eq b 40 (by omega)).1 e)
  have e41 : ¬ (b.toNat : Int) = 41 := fun e => c41 ((u8_eq b 41 (by omega)).1 e)
  have e44 : ¬ (b.toNat : Int) = 44 := fun e => c44 ((u8_eq b 44 (by omega)).1 e)
  have e59 : ¬ (b.toNat : Int) = 59 := fun e => c59 ((u8_eq b 59 (by omega)).1 e)
  have e45 : ¬ (b.toNat : Int) = 45 := fun e => c45 ((u8_eq b 45 (by omega)).1 e)
  have e47 : ¬ (b.toNat : Int) = 47 := fun e => c47 ((u8_eq b 47 (by omega)).1 e)
  have e46 : ¬ (b.toNat : Int) = 46 := fun e => c46 ((u8_eq b 46 (by omega)).1 e)
  have e58 : ¬ (b.toNat : Int) = 58 := fun e => c58 ((u8_eq b 58 (by omega)).1 e)
  have e42 : ¬ (b.toNat : Int) = 42 := fun e => c42 ((u8_eq b 42 (by omega)).1 e)
  unfold begunZ begunU markK
  show (if smU b = true then _ else if grU b = true then _ else if dgU b = true then _ else _) = _
  simp only [e9, e10, e13, e32, e37, e40, e41, e44, e59, e45, e47, e46, e58, e42, c9, c10, c13, c32, c37, c40, c41, c44, c59, c45, c47, c46, c58, c42, if_false, or_self]
  rfl
theorem begunZ_high {r : Int} (h : 128 ≤ r) : begunZ r = 0 := by
  have h1 : smB r = false := by unfold smB; simp; omega
  have h2 : grB r = false := by unfold grB; simp; omega
  have h3 : dgB r = false := by unfold dgB; simp; omega
  unfold begunZ
  rw [h1, h2, h3]
  simp only [Bool.false_eq_true, if_false]
  repeat (rw [if_neg (by omega)])
/-- Why a piece may not stand in a text; 0: it may. -/
def refZ (kind : Int) (p : ByteArray) : Int := if kind = 0 then 31 else if kind = 8 then (if p = ⟨#[45, 62]⟩ then 0 else 31) else if kind = 1 ∨ kind = 2 then (if 12 < p.size then 32 else 0) else if kind = 3 then (if 9 < p.size ∨ (1 < p.size ∧ p.data.toList.head? = some 48) then 33 else 0) else 0
theorem not_blank_of {b : UInt8} (h : ¬ (b = 9 ∨ b = 10 ∨ b = 13 ∨ b = 32)) : blankB b = false := by unfold blankB; simpa using h
theorem u8_lo (b : UInt8) (n : Nat) (hn : n < 256) (h : b = UInt8.ofNat n) : b.toNat = n := by have := (u8_eq b n hn).2 h; omega
theorem letter_not {b : UInt8} (h : smU b = true ∨ grU b = true ∨ dgU b = true) : blankB b = false ∧ b ≠ 37 ∧ b ≠ 45 := by
  have hb : 48 ≤ b.toNat := by
    simp only [smU, grU, dgU, smB, grB, dgB, Bool.and_eq_true, decide_eq_true_eq] at h
    omega
  refine ⟨not_blank_of ?_, ?_, ?_⟩
  · intro e
    rcases e with e | e | e | e
    · have := u8_lo b 9 (by omega) e; omega
    · have := u8_lo b 10 (by omega) e; omega
    · have := u8_lo b 13 (by omega) e; omega
    · have := u8_lo b 32 (by omega) e; omega
  · intro e; have := u8_lo b 37 (by omega) e; omega
  · intro e; have := u8_lo b 45 (by omega) e; omega
/-- A row's length by a test of each byte. -/
theorem takeWhile_len {P : UInt8 → Bool} : ∀ {r : List UInt8} {n : Nat}, n ≤ r.length → (∀ j, (h : j < r.length) → j < n → P r[j] = true) → (∀ h : n < r.length, P r[n] = false) → (r.takeWhile P).length = n := by
  intro r
  induction r with
  | nil => intro n h _ _; simp at h; simp [h]
  | cons x r ih =>
    intro n hn ha hs
    cases n with
    | zero =>
      have := hs (by simp)
      simp at this
      simp [this]
    | succ n =>
      have h0 := ha 0 (by simp) (by omega)
      simp at h0
      rw [List.takeWhile_cons, if_pos h0, List.length_cons, ih (n := n) (by simpa using hn) (fun j h1 h2 => by have := ha (j + 1) (by simp; omega) (by omega); simpa using this) (fun h => by have := hs (by simp; omega); simpa using this)]
/-- A piece of the text b :: r, as lists. -/
structure PieceL (kind : Int) (b : UInt8) (r : List UInt8) (n : Nat) : Prop where
  pos : 1 ≤ n
  le : n ≤ r.length + 1
  all : ∀ j, (h : j < r.length) → j + 1 < n → pB kind (j + 1) r[j] = true
  stop : ∀ h : n - 1 < r.length, pB kind n r[n - 1] = false
theorem PieceL.len {kind : Int} {b : UInt8} {r : List UInt8} {n : Nat} (h : PieceL kind b r n) {P : UInt8 → Bool} (hP : ∀ j x, pB kind j x = P x) : n = 1 + (r.takeWhile P).length := by
  have := takeWhile_len (P := P) (r := r) (n := n - 1) (by have := h.le; omega) (fun j h1 h2 => by rw [← hP (j + 1)]; exact h.all j h1 (by omega)) (fun h1 => by rw [← hP n]; exact h.stop h1)
  have := h.pos
  omega
theorem list_head {t : ByteArray} (h : 0 < t.size) : t.data.toList = t[0] :: t.data.toList.drop 1 := by
  have e := (List.drop_eq_getElem_cons (l := t.data.toList) (i := 0) (by simpa using h))
  simp only [List.drop_zero] at e
  conv => lhs; rw [e]
  rfl
theorem piece_list {kind : Int} {t : ByteArray} {n : Nat} (h0 : 0 < t.size) (h : Piece kind t n) (ha : t[0].toNat < 128) : PieceL kind t[0] (t.data.toList.drop 1) n := by
  have hl : (t.data.toList.drop 1).length = t.size - 1 := by simp
  refine ⟨h.pos, by rw [hl]; have := h.le; omega, ?_, ?_⟩
  · intro j hj h1
    have := h.all (fun _ => ha) (j + 1) (by omega) h1 (by omega)
    have e : (t.data.toList.drop 1)[j] = t[j + 1]'(by omega) := by simp [Nat.add_comm]; rfl
    rw [e]; exact this
  · intro hn
    have hp := h.pos
    have := h.stop (by omega)
    have e : (t.data.toList.drop 1)[n - 1] = t[n]'(by omega) := by
      rw [List.getElem_drop]
      have : 1 + (n - 1) = n := by omega
      simp only [this]; rfl
    rw [e]; exact this
end Go.Proofs.Ytecbfnaeglkbaaa
