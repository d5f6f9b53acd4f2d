import Derived.Test.YtbjfpfnfbgncnaaGreatDoorM23
import Derived.Test.YtbjfpfnfbgncnaaGreatDoorM22
import Derived.Deep.RegionLaw
import Derived.Deep.DeepCutAuto
/- The walk of the document's Scan (ref03): it answers what the plain words say. -/
namespace Go.Proofs.YtbjfpfnfbgncnaaGreatDoor
open Go.RowKit
set_option linter.unusedVariables false
/-- The answer of the document's Scan. -/
def RTold (base : Nat) (w : World) (v lv : Value) (R : Except (Nat × Nat) (List Tok)) : Prop := match R with
  | .ok l => TRow base w v l ∧ lv = .slice none 0 0
  | .error (c, p) => v = .slice none 0 0 ∧ WrongAt w lv (c : Int) (p : Int)
theorem RTold.same {base : Nat} {w w' : World} {v lv : Value} {R : Except (Nat × Nat) (List Tok)} (h : RTold base w v lv R) (hk : Same0 w w') : RTold base w' v lv R := by
  cases R with
  | ok l => exact ⟨h.1.same hk, h.2⟩
  | error e => exact ⟨h.1, h.2.same hk⟩
/-- What holds at a round's head. -/
structure RAt (s : ByteArray) (w wr : World) (v : Value) (q : Nat) (acc : List Tok) : Prop where
  row : TRow w.heap.size wr v acc
  same : Same0 w wr
  le : q ≤ s.size
  few : acc.length ≤ q
  eq : lexF 0 s.data.toList = pre acc (lexF q (s.data.toList.drop q))
theorem RAt.start (s : ByteArray) (w : World) : RAt s w w (.slice none 0 0) 0 [] :=
  ⟨TRow.nil _ _, Kept.refl _ w, Nat.zero_le _, by simp, by rw [pre_nil, List.drop_zero]⟩
theorem RAt.blank {s : ByteArray} {w wr : World} {v : Value} {q : Nat} {acc : List Tok} (h : RAt s w wr v q acc) (hq : q < s.size) (hb : blankB s[q] = true) : RAt s w wr v (q + 1) acc := by
  refine ⟨h.row, h.same, hq, by have := h.few; omega, ?_⟩
  rw [h.eq, drop_at hq, lexF_blank hb]; rfl
/-- A comment from q up to p. -/
def Com (s : ByteArray) (q p : Nat) : Prop := q ≤ p ∧ p ≤ s.size ∧ ∀ j, q ≤ j → j < p → ∀ h : j < s.size, s[j] ≠ 10
theorem RAt.comment {s : ByteArray} {w wr : World} {v : Value} {q p : Nat} {acc : List Tok} (h : RAt s w wr v q acc) (hq : q < s.size) (hb : s[q] = 37) (hc : Com s q p) (he : ∀ hp : p < s.size, s[p] = 10) : RAt s w wr v p acc ∧ q < p := by
  obtain ⟨h1, h2, h3⟩ := hc
  have hlt : q < p := by
    by_cases e : q = p
    · subst e; have := he hq; rw [hb] at this; exact absurd this (by decide)
    · omega
  refine ⟨⟨h.row, h.same, h2, by have := h.few; omega, ?_⟩, hlt⟩
  have hl := rst_len s q
  have htl : ((rst s q).takeWhile (fun x : UInt8 => decide (x ≠ 10))).length = p - (q + 1) := by
    refine takeWhile_len (by omega) ?_ ?_
    · intro j hj hjp
      rw [rst_get (by omega) hj]
      have := h3 (q + 1 + j) (by omega) (by omega) (by omega)
      simpa using this
    · intro hj
      rw [rst_get (by omega) hj]
      have e : q + 1 + (p - (q + 1)) = p := by omega
      simp only [e]
      have := he (by omega)
      simpa using this
  rw [h.eq, drop_at hq, hb, lexF_comment, htl]
  congr 2
  · omega
  · conv => lhs; rw [← List.drop_left (l₁ := (rst s q).takeWhile (fun x : UInt8 => decide (x ≠ 10))) (l₂ := (rst s q).dropWhile (fun x : UInt8 => decide (x ≠ 10))), List.takeWhile_append_dropWhile, htl]
    rw [rst, List.drop_drop]
    congr 1; omega
theorem RAt.none {s : ByteArray} {w wr : World} {v : Value} {q : Nat} {acc : List Tok} (h : RAt s w wr v q acc) (hq : q < s.size) (h1 : blankB s[q] = false) (h2 : s[q] ≠ 37) (hk : beginsK s[q] (rst s q) = 0) : lexF 0 s.data.toList = .error (31, q) := by
  rw [h.eq, drop_at hq, lexF_none h1 h2 hk, pre_error]
theorem RAt.wrong {s : ByteArray} {w wr : World} {v : Value} {q k n : Nat} {acc : List Tok} (h : RAt s w wr v q acc) (hq : q < s.size) (h1 : blankB s[q] = false) (h2 : s[q] ≠ 37) (hk : beginsK s[q] (rst s q) = k) (hk0 : k ≠ 0) (hn : lenK k (rst s q) = n) {c : Nat} (hw : wrongK k n s[q] = c) (hc : c ≠ 0) : lexF 0 s.data.toList = .error (c, q) := by
  subst hk hn hw
  rw [h.eq, drop_at hq, lexF_wrong h1 h2 hk0 hc, pre_error]
theorem RAt.tok {s : ByteArray} {w wr : World} {v : Value} {q k n : Nat} {acc : List Tok} (h : RAt s w wr v q acc) (hq : q < s.size) (h1 : blankB s[q] = false) (h2 : s[q] ≠ 37) (hk : beginsK s[q] (rst s q) = k) (hk0 : k ≠ 0) (hn : lenK k (rst s q) = n) (hw : wrongK k n s[q] = 0) :
    ∃ x : Tok, tokV x = [.int .i64 (k : Int), .int .i64 (q : Int), .string (s.extract q (q + n))] ∧ lexF 0 s.data.toList = pre (acc ++ [x]) (lexF (q + n) (s.data.toList.drop (q + n))) := by
  subst hk hn
  have hpos := lenK_pos (beginsK s[q] (rst s q)) (rst s q)
  refine ⟨⟨beginsK s[q] (rst s q), q, (s[q] :: rst s q).take (lenK (beginsK s[q] (rst s q)) (rst s q))⟩, ?_, ?_⟩
  · simp only [tokV]
    rw [← txt_of (s := s.extract q (q + lenK (beginsK s[q] (rst s q)) (rst s q)))]
    rw [← drop_at hq]
    simp
  · rw [h.eq, drop_at hq, lexF_tok h1 h2 hk0 hw, pre_map]
    have e : (rst s q).drop (lenK (beginsK s[q] (rst s q)) (rst s q) - 1) = s.data.toList.drop (q + lenK (beginsK s[q] (rst s q)) (rst s q)) := by
      have e2 : q + 1 + (lenK (beginsK s[q] (rst s q)) (rst s q) - 1) = q + lenK (beginsK s[q] (rst s q)) (rst s q) := by omega
      conv => lhs; arg 2; rw [rst]
      rw [List.drop_drop, e2]
    rw [e]
theorem tok_le {s : ByteArray} {q k n : Nat} (hq : q < s.size) (hk : beginsK s[q] (rst s q) = k) (hn : lenK k (rst s q) = n) : 1 ≤ n ∧ q + n ≤ s.size := by
  subst hk hn
  have := lenK_le (b := s[q]) (r := rst s q)
  have := lenK_pos (beginsK s[q] (rst s q)) (rst s q)
  rw [rst_len] at *
  omega
theorem Com.start {s : ByteArray} {q : Nat} (h : q ≤ s.size) : Com s q q := ⟨Nat.le_refl _, h, fun j h1 h2 => by omega⟩
theorem Com.next {s : ByteArray} {q p : Nat} (h : Com s q p) (hp : p < s.size) (hn : s[p] ≠ 10) : Com s q (p + 1) := by
  refine ⟨by have := h.1; omega, hp, fun j h1 h2 hj => ?_⟩
  by_cases e : j = p
  · subst e; exact hn
  · exact h.2.2 j h1 (by omega) hj
end Go.Proofs.YtbjfpfnfbgncnaaGreatDoor
/- The walk of the document's Same: of two rows of the same tokens; how many tokens a text has. -/
namespace Go.Proofs.YtbjfpfnfbgncnaaGreatDoor
open Go.RowKit
set_option linter.unusedVariables false
theorem lexF_len (n : Nat) : ∀ (a : Nat) (t : List UInt8) (l : List Tok), t.length ≤ n → lexF a t = .ok l → l.length ≤ t.length + 1 := by
  induction n with
  | zero =>
    intro a t l h hl
    have : t = [] := List.eq_nil_of_length_eq_zero (by omega)
    subst this
    rw [lexF_nil] at hl
    cases hl
    simp
  | succ n ih =>
    intro a t l h hl
    cases t with
    | nil => rw [lexF_nil] at hl; cases hl; simp
    | cons b r =>
      simp only [List.length_cons] at h ⊢
      by_cases h1 : blankB b = true
      · rw [lexF_blank h1] at hl; have := ih _ _ _ (by omega) hl; omega
      · have h1 : blankB b = false := by simpa using h1
        by_cases h2 : b = 37
        · subst h2
          rw [lexF_comment] at hl
          have := (List.dropWhile_sublist (fun x : UInt8 => decide (x ≠ 10)) (l := r)).length_le
          have := ih _ _ _ (by omega) hl
          omega
        · by_cases h3 : beginsK b r = 0
          · rw [lexF_none h1 h2 h3] at hl; cases hl
          · by_cases h4 : wrongK (beginsK b r) (lenK (beginsK b r) r) b = 0
            · rw [lexF_tok h1 h2 h3 h4] at hl
              cases hx : lexF (a + lenK (beginsK b r) r) (r.drop (lenK (beginsK b r) r - 1)) with
              | error e => rw [hx] at hl; cases hl
              | ok m =>
                rw [hx] at hl
                cases hl
                have := ih _ _ _ (by simp; omega) hx
                simp at this ⊢
                omega
            · rw [lexF_wrong h1 h2 h3 h4] at hl; cases hl
theorem scanL_len {t : List UInt8} {l : List Tok} (h : scanL t = .ok l) : l.length ≤ 20001 := by
  unfold scanL at h
  split at h
  · cases h
  · have := lexF_len _ _ _ _ (Nat.le_refl _) h
    omega
end Go.Proofs.YtbjfpfnfbgncnaaGreatDoor
