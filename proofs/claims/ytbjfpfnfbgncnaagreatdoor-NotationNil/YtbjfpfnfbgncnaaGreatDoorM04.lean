import Derived.Test.YtbjfpfnfbgncnaaGreatDoorM03
import Derived.Shelf.LaysM
import Derived.Shelf.Strconv.Clone
import Derived.Test.YtbjfpfnfbgncnaaGreatDoorProg
import Derived.WalkKit
import Derived.WalkSpells
import Derived.WalkLawsBesides
import Derived.Below
/- One piece of a text: what the program's kinds of pieces say of the tokens; no program in sight but the names of LexBytes. -/
namespace Go.Proofs.YtbjfpfnfbgncnaaGreatDoor
open Go.RowKit
set_option linter.unusedVariables false
set_option linter.unusedSimpArgs false
/-- The kind of the piece that a byte begins. -/
def begunU (b : UInt8) : Int := if smU b = true then 1 else if grU b = true then 2 else if dgU b = true then 3 else if b = 9 ∨ b = 10 ∨ b = 13 ∨ b = 32 then -2 else if b = 37 then -1 else if b = 45 then 8 else (markK b : Int)
theorem begunZ_eq (b : UInt8) : begunZ (b.toNat : Int) = begunU b := by
  by_cases c9 : b = 9
  · subst c9; decide
  by_cases c10 : b = 10
  · subst c10; decide
  by_cases c13 : b = 13
  · subst c13; decide
  by_cases c32 : b = 32
  · subst c32; decide
  by_cases c37 : b = 37
  · subst c37; decide
  by_cases c40 : b = 40
  · subst c40; decide
  by_cases c41 : b = 41
  · subst c41; decide
  by_cases c44 : b = 44
  · subst c44; decide
  by_cases c59 : b = 59
  · subst c59; decide
  by_cases c45 : b = 45
  · subst c45; decide
  by_cases c47 : b = 47
  · subst c47; decide
  by_cases c46 : b = 46
  · subst c46; decide
  by_cases c58 : b = 58
  · subst c58; decide
  by_cases c42 : b = 42
  · subst c42; decide
  have e9 : ¬ (b.toNat : Int) = 9 := fun e => c9 ((u8_eq b 9 (by omega)).1 e)
  have e10 : ¬ (b.toNat : Int) = 10 := fun e => c10 ((u8_eq b 10 (by omega)).1 e)
  have e13 : ¬ (b.toNat : Int) = 13 := fun e => c13 ((u8_eq b 13 (by omega)).1 e)
  have e32 : ¬ (b.toNat : Int) = 32 := fun e => c32 ((u8_eq b 32 (by omega)).1 e)
  have e37 : ¬ (b.toNat : Int) = 37 := fun e => c37 ((u8_eq b 37 (by omega)).1 e)
  have e40 : ¬ (b.toNat : Int) = 40 := fun e => c40 ((u8_eq b 40 (by omega)).1 e)
  have e41 : ¬ (b.toNat : Int) = 41 := fun e => c41 ((u8_eq b 41 (by omega)).1 e)
  have e44 : ¬ (b.toNat : Int) = 44 := fun e => c44 ((u8_eq b 44 (by omega)).1 e)
  have e59 : ¬ (b.toNat : Int) = 59 := fun e => c59 ((u8_eq b 59 (by omega)).1 e)
  have e45 : ¬ (b.toNat : Int) = 45 := fun e => c45 ((u8_eq b 45 (by omega)).1 e)
  have e47 : ¬ (b.toNat : Int) = 47 := fun e => c47 ((u8_eq b 47 (by omega)).1 e)
  have e46 : ¬ (b.toNat : Int) = 46 := fun e => c46 ((u8_eq b 46 (by omega)).1 e)
  have e58 : ¬ (b.toNat : Int) = 58 := fun e => c58 ((u8_eq b 58 (by omega)).1 e)
  have e42 : ¬ (b.toNat : Int) = 42 := fun e => c42 ((u8_eq b 42 (by omega)).1 e)
  unfold begunZ begunU markK
  show (if smU b = true then _ else if grU b = true then _ else if dgU b = true then _ else _) = _
  simp only [e9, e10, e13, e32, e37, e40, e41, e44, e59, e45, e47, e46, e58, e42, c9, c10, c13, c32, c37, c40, c41, c44, c59, c45, c47, c46, c58, c42, if_false, or_self]
  rfl
theorem begunZ_high {r : Int} (h : 128 ≤ r) : begunZ r = 0 := by
  have h1 : smB r = false := by unfold smB; simp; omega
  have h2 : grB r = false := by unfold grB; simp; omega
  have h3 : dgB r = false := by unfold dgB; simp; omega
  unfold begunZ
  rw [h1, h2, h3]
  simp only [Bool.false_eq_true, if_false]
  repeat (rw [if_neg (by omega)])
/-- Why a piece may not stand in a text; 0: it may. -/
def refZ (kind : Int) (p : ByteArray) : Int := if kind = 0 then 31 else if kind = 8 then (if p = ⟨#[45, 62]⟩ then 0 else 31) else if kind = 1 ∨ kind = 2 then (if 12 < p.size then 32 else 0) else if kind = 3 then (if 9 < p.size ∨ (1 < p.size ∧ p.data.toList.head? = some 48) then 33 else 0) else 0
theorem not_blank_of {b : UInt8} (h : ¬ (b = 9 ∨ b = 10 ∨ b = 13 ∨ b = 32)) : blankB b = false := by unfold blankB; simpa using h
theorem u8_lo (b : UInt8) (n : Nat) (hn : n < 256) (h : b = UInt8.ofNat n) : b.toNat = n := by have := (u8_eq b n hn).2 h; omega
theorem letter_not {b : UInt8} (h : smU b = true ∨ grU b = true ∨ dgU b = true) : blankB b = false ∧ b ≠ 37 ∧ b ≠ 45 := by
  have hb : 48 ≤ b.toNat := by
    simp only [smU, grU, dgU, smB, grB, dgB, Bool.and_eq_true, decide_eq_true_eq] at h
    omega
  refine ⟨not_blank_of ?_, ?_, ?_⟩
  · intro e
    rcases e with e | e | e | e
    · have := u8_lo b 9 (by omega) e; omega
    · have := u8_lo b 10 (by omega) e; omega
    · have := u8_lo b 13 (by omega) e; omega
    · have := u8_lo b 32 (by omega) e; omega
  · intro e; have := u8_lo b 37 (by omega) e; omega
  · intro e; have := u8_lo b 45 (by omega) e; omega
/-- A row's length by a test of each byte. -/
theorem takeWhile_len {P : UInt8 → Bool} : ∀ {r : List UInt8} {n : Nat}, n ≤ r.length → (∀ j, (h : j < r.length) → j < n → P r[j] = true) → (∀ h : n < r.length, P r[n] = false) → (r.takeWhile P).length = n := by
  intro r
  induction r with
  | nil => intro n h _ _; simp at h; simp [h]
  | cons x r ih =>
    intro n hn ha hs
    cases n with
    | zero =>
      have := hs (by simp)
      simp at this
      simp [this]
    | succ n =>
      have h0 := ha 0 (by simp) (by omega)
      simp at h0
      rw [List.takeWhile_cons, if_pos h0, List.length_cons, ih (n := n) (by simpa using hn) (fun j h1 h2 => by have := ha (j + 1) (by simp; omega) (by omega); simpa using this) (fun h => by have := hs (by simp; omega); simpa using this)]
/-- A piece of the text b :: r, as lists. -/
structure PieceL (kind : Int) (b : UInt8) (r : List UInt8) (n : Nat) : Prop where
  pos : 1 ≤ n
  le : n ≤ r.length + 1
  all : ∀ j, (h : j < r.length) → j + 1 < n → pB kind (j + 1) r[j] = true
  stop : ∀ h : n - 1 < r.length, pB kind n r[n - 1] = false
theorem PieceL.len {kind : Int} {b : UInt8} {r : List UInt8} {n : Nat} (h : PieceL kind b r n) {P : UInt8 → Bool} (hP : ∀ j x, pB kind j x = P x) : n = 1 + (r.takeWhile P).length := by
  have := takeWhile_len (P := P) (r := r) (n := n - 1) (by have := h.le; omega) (fun j h1 h2 => by rw [← hP (j + 1)]; exact h.all j h1 (by omega)) (fun h1 => by rw [← hP n]; exact h.stop h1)
  have := h.pos
  omega
theorem list_head {t : ByteArray} (h : 0 < t.size) : t.data.toList = t[0] :: t.data.toList.drop 1 := by
  have e := (List.drop_eq_getElem_cons (l := t.data.toList) (i := 0) (by simpa using h))
  simp only [List.drop_zero] at e
  conv => lhs; rw [e]
  rfl
theorem piece_list {kind : Int} {t : ByteArray} {n : Nat} (h0 : 0 < t.size) (h : Piece kind t n) (ha : t[0].toNat < 128) : PieceL kind t[0] (t.data.toList.drop 1) n := by
  have hl : (t.data.toList.drop 1).length = t.size - 1 := by simp
  refine ⟨h.pos, by rw [hl]; have := h.le; omega, ?_, ?_⟩
  · intro j hj h1
    have := h.all (fun _ => ha) (j + 1) (by omega) h1 (by omega)
    have e : (t.data.toList.drop 1)[j] = t[j + 1]'(by omega) := by simp [Nat.add_comm]; rfl
    rw [e]; exact this
  · intro hn
    have hp := h.pos
    have := h.stop (by omega)
    have e : (t.data.toList.drop 1)[n - 1] = t[n]'(by omega) := by
      rw [List.getElem_drop]
      have : 1 + (n - 1) = n := by omega
      simp only [this]; rfl
    rw [e]; exact this
end Go.Proofs.YtbjfpfnfbgncnaaGreatDoor
/- One piece of a text, cut as the document cuts it. -/
namespace Go.Proofs.YtbjfpfnfbgncnaaGreatDoor
open Go.RowKit
set_option linter.unusedVariables false
set_option linter.unusedSimpArgs false
/-- What the piece of kind k, n bytes p of b :: r, says of the tokens from place q on. -/
structure Cut (q : Nat) (b : UInt8) (r : List UInt8) (k : Int) (n : Nat) (p : ByteArray) : Prop where
  bad : refZ k p ≠ 0 → lexF q (b :: r) = .error ((refZ k p).toNat, q) ∧ 0 < refZ k p
  tok : refZ k p = 0 → 0 < k → lexF q (b :: r) = (lexF (q + n) ((b :: r).drop n)).map (fun l => ⟨k.toNat, q, (b :: r).take n⟩ :: l)
  none : refZ k p = 0 → ¬ 0 < k → lexF q (b :: r) = lexF (q + n) ((b :: r).drop n)
theorem drop_one {b : UInt8} {r : List UInt8} {n : Nat} (h : 1 ≤ n) : (b :: r).drop n = r.drop (n - 1) := by
  obtain ⟨m, rfl⟩ : ∃ m, n = m + 1 := ⟨n - 1, by omega⟩
  simp
theorem cut_tok {q : Nat} {b : UInt8} {r : List UInt8} {k n : Nat} {p : ByteArray} (h1 : blankB b = false) (h2 : b ≠ 37) (hB : beginsK b r = k) (hk : k ≠ 0) (hl : lenK k r = n) (hw : refZ (k : Int) p = (wrongK k n b : Int)) : Cut q b r (k : Int) n p := by
  have hn : 1 ≤ n := by have := lenK_pos k r; omega
  refine ⟨fun e => ?_, fun e _ => ?_, fun e h => by omega⟩
  · rw [hw] at e ⊢
    have hw0 : wrongK k n b ≠ 0 := by omega
    rw [lexF_wrong h1 h2 (by rw [hB]; exact hk) (by rw [hB, hl]; exact hw0), hB, hl]
    exact ⟨by simp, by omega⟩
  · rw [hw] at e
    have hw0 : wrongK k n b = 0 := by omega
    rw [lexF_tok h1 h2 (by rw [hB]; exact hk) (by rw [hB, hl]; exact hw0), hB, hl, drop_one hn]
    rfl
theorem cut_none {q : Nat} {b : UInt8} {r : List UInt8} {k : Int} {n : Nat} {p : ByteArray} (h1 : blankB b = false) (h2 : b ≠ 37) (hB : beginsK b r = 0) (hw : refZ k p = 31) : Cut q b r k n p := by
  refine ⟨fun e => ?_, fun e => by omega, fun e => by omega⟩
  rw [hw, lexF_none h1 h2 hB]
  exact ⟨rfl, by omega⟩
theorem onZ_1 (j : Nat) (x : UInt8) : pB 1 j x = goesB 1 x := by
  simp [pB, onZ, goesB, smU, dgU, Bool.or_comm]
theorem onZ_2 (j : Nat) (x : UInt8) : pB 2 j x = goesB 2 x := by
  simp only [pB, onZ, goesB, smU, dgU, grU]
  simp
  cases smB (x.toNat : Int) <;> cases grB (x.toNat : Int) <;> cases dgB (x.toNat : Int) <;> rfl
theorem onZ_3 (j : Nat) (x : UInt8) : pB 3 j x = goesB 3 x := by
  simp [pB, onZ, goesB, dgU]
theorem onZ_c (j : Nat) (x : UInt8) : pB (-1) j x = decide (x ≠ 10) := by
  have h := u8_eq x 10 (by omega)
  have h' : ((x.toNat : Int) = 10) ↔ x = 10 := h
  simp only [pB, onZ]
  rw [Bool.eq_iff_iff]
  simp [h']
theorem onZ_else {k : Int} (h : k ≠ 1 ∧ k ≠ 2 ∧ k ≠ 3 ∧ k ≠ 8 ∧ k ≠ -1) (j : Nat) (x : UInt8) : pB k j x = (fun _ => false) x := by
  obtain ⟨h1, h2, h3, h4, h5⟩ := h
  simp [pB, onZ, h1, h2, h3, h4, h5]
theorem takeWhile_false (r : List UInt8) : (r.takeWhile (fun _ => false)).length = 0 := by cases r <;> simp
theorem lenK_n8 {k : Nat} (h : k ≠ 8) (r : List UInt8) : lenK k r = 1 + (r.takeWhile (goesB k)).length := by unfold lenK; rw [if_neg h]
theorem size_list (p : ByteArray) : p.size = p.data.toList.length := by simp
theorem begins_mark {b : UInt8} {r : List UInt8} (c1 : ¬ smU b = true) (c2 : ¬ grU b = true) (c3 : ¬ dgU b = true) (c : ¬ (b = 45 ∧ r.head? = some 62)) : beginsK b r = markK b := by
  unfold beginsK
  simp only [c1, c2, c3, if_neg c, Bool.false_eq_true, if_false]
theorem mark_cases (b : UInt8) : markK b = 0 ∨ markK b = 4 ∨ markK b = 5 ∨ markK b = 6 ∨ markK b = 7 ∨ markK b = 9 ∨ markK b = 10 ∨ markK b = 11 ∨ markK b = 12 := by
  unfold markK
  repeat' split
  all_goals simp
theorem goes_mark {k : Nat} (h : k ≠ 1 ∧ k ≠ 2 ∧ k ≠ 3) (x : UInt8) : goesB k x = false := by
  unfold goesB; rw [if_neg h.1, if_neg h.2.1, if_neg h.2.2]
theorem lenK_mark {k : Nat} (h : k ≠ 1 ∧ k ≠ 2 ∧ k ≠ 3 ∧ k ≠ 8) (r : List UInt8) : lenK k r = 1 := by
  rw [lenK_n8 h.2.2.2]
  have e : goesB k = fun _ => false := funext (goes_mark ⟨h.1, h.2.1, h.2.2.1⟩)
  rw [e, takeWhile_false]
theorem cut_piece {q : Nat} {b : UInt8} {r : List UInt8} {n : Nat} (h : PieceL (begunU b) b r n) {p : ByteArray} (hp : p.data.toList = (b :: r).take n) : Cut q b r (begunU b) n p := by
  have hn := h.pos
  have hle := h.le
  have hsz : p.size = n := by rw [size_list, hp, List.length_take]; simp; omega
  have hhd : p.data.toList.head? = some b := by
    rw [hp]
    obtain ⟨m, rfl⟩ : ∃ m, n = m + 1 := ⟨n - 1, by omega⟩
    simp
  by_cases c1 : smU b = true
  · obtain ⟨hb, h37, h45⟩ := letter_not (.inl c1)
    have e : begunU b = 1 := by unfold begunU; rw [if_pos c1]
    rw [e] at h ⊢
    have hB : beginsK b r = 1 := by unfold beginsK; rw [if_pos c1]
    refine cut_tok (k := 1) hb h37 hB (by omega) (by rw [lenK_n8 (by omega)]; exact (h.len onZ_1).symm) ?_
    simp only [refZ, wrongK, hsz]; simp; split <;> rfl
  · by_cases c2 : grU b = true
    · obtain ⟨hb, h37, h45⟩ := letter_not (.inr (.inl c2))
      have e : begunU b = 2 := by unfold begunU; rw [if_neg c1, if_pos c2]
      rw [e] at h ⊢
      have hB : beginsK b r = 2 := by unfold beginsK; rw [if_neg c1, if_pos c2]
      refine cut_tok (k := 2) hb h37 hB (by omega) (by rw [lenK_n8 (by omega)]; exact (h.len onZ_2).symm) ?_
      simp only [refZ, wrongK, hsz]; simp; split <;> rfl
    · by_cases c3 : dgU b = true
      · obtain ⟨hb, h37, h45⟩ := letter_not (.inr (.inr c3))
        have e : begunU b = 3 := by unfold begunU; rw [if_neg c1, if_neg c2, if_pos c3]
        rw [e] at h ⊢
        have hB : beginsK b r = 3 := by unfold beginsK; rw [if_neg c1, if_neg c2, if_pos c3]
        refine cut_tok (k := 3) hb h37 hB (by omega) (by rw [lenK_n8 (by omega)]; exact (h.len onZ_3).symm) ?_
        simp only [refZ, wrongK, hsz, hhd]; simp; split <;> rfl
      · by_cases c4 : b = 9 ∨ b = 10 ∨ b = 13 ∨ b = 32
        · have e : begunU b = -2 := by unfold begunU; rw [if_neg c1, if_neg c2, if_neg c3, if_pos c4]
          have hb : blankB b = true := by unfold blankB; simpa using c4
          rw [e] at h ⊢
          have hn1 : n = 1 := by rw [h.len (onZ_else ⟨by omega, by omega, by omega, by omega, by omega⟩), takeWhile_false]
          subst hn1
          refine ⟨fun x => absurd (by simp [refZ]) x, fun _ x => by omega, fun _ _ => ?_⟩
          rw [lexF_blank hb]; rfl
        · have hb := not_blank_of c4
          by_cases c5 : b = 37
          · have e : begunU b = -1 := by unfold begunU; rw [if_neg c1, if_neg c2, if_neg c3, if_neg c4, if_pos c5]
            rw [e] at h ⊢
            have hl := h.len onZ_c
            refine ⟨fun x => absurd (by simp [refZ]) x, fun _ x => by omega, fun _ _ => ?_⟩
            subst c5
            rw [lexF_comment, hl, drop_one (by omega)]
            congr 1
            conv => rhs; arg 2; rw [← List.takeWhile_append_dropWhile (p := fun x : UInt8 => decide (x ≠ 10)) (l := r)]
            rw [Nat.add_sub_cancel_left, List.drop_left]
          · by_cases c6 : b = 45
            · have e : begunU b = 8 := by unfold begunU; rw [if_neg c1, if_neg c2, if_neg c3, if_neg c4, if_neg c5, if_pos c6]
              rw [e] at h ⊢
              by_cases c7 : r.head? = some 62
              · have hB : beginsK b r = 8 := by unfold beginsK; simp only [c1, c2, c3, if_pos (And.intro c6 c7), Bool.false_eq_true, if_false]
                cases r with
                | nil => simp at c7
                | cons x r =>
                  simp only [List.head?_cons, Option.some.injEq] at c7
                  subst c7
                  have hn2 : n = 2 := by
                    have h8 : ∀ j (x : UInt8), j ≠ 1 → pB 8 j x = false := fun j x hj => by simp [pB, onZ]; omega
                    have h9 : pB 8 1 62 = true := by decide
                    by_cases g1 : n = 1
                    · have := h.stop (by subst g1; simp)
                      subst g1
                      simp [h9] at this
                    · by_cases g2 : n = 2
                      · exact g2
                      · have := h.all 1 (by simp at hle ⊢; omega) (by omega)
                        rw [h8 _ _ (by omega)] at this
                        exact absurd this (by simp)
                  subst hn2
                  refine cut_tok (k := 8) hb c5 hB (by omega) (by unfold lenK; rw [if_pos rfl]) ?_
                  have hpe : p = ⟨#[45, 62]⟩ := by
                    apply ByteArray.ext
                    apply Array.toList_inj.1
                    rw [hp, c6]; rfl
                  simp [refZ, hpe, wrongK]
              · refine cut_none hb c5 (by rw [begins_mark c1 c2 c3 (fun x => c7 x.2), c6]; rfl) ?_
                have hpe : ¬ p = ⟨#[45, 62]⟩ := by
                  intro e2
                  rw [e2] at hp
                  have h62 : (b :: r).take n = [45, 62] := by rw [← hp]
                  cases r with
                  | nil => have := congrArg List.length h62; simp at this; omega
                  | cons x r =>
                    have hn2 : 2 ≤ n := by have := congrArg List.length h62; simp at this; omega
                    obtain ⟨m, rfl⟩ : ∃ m, n = m + 2 := ⟨n - 2, by omega⟩
                    simp at h62
                    exact c7 (by simp [h62.2.1])
                simp [refZ, hpe]
            · have e : begunU b = (markK b : Int) := by unfold begunU; rw [if_neg c1, if_neg c2, if_neg c3, if_neg c4, if_neg c5, if_neg c6]
              have hB : beginsK b r = markK b := begins_mark c1 c2 c3 (fun x => c6 x.1)
              by_cases c7 : markK b = 0
              · exact cut_none hb c5 (by rw [hB, c7]) (by rw [e, c7]; simp [refZ])
              · have hm := mark_cases b
                have hne : markK b ≠ 1 ∧ markK b ≠ 2 ∧ markK b ≠ 3 ∧ markK b ≠ 8 := by omega
                rw [e] at h ⊢
                have hn1 : n = 1 := by rw [h.len (onZ_else ⟨by omega, by omega, by omega, by omega, by omega⟩), takeWhile_false]
                refine cut_tok hb c5 hB c7 (by rw [lenK_mark hne, hn1]) ?_
                have x0 : ¬ (markK b : Int) = 0 := by omega
                have x8 : ¬ (markK b : Int) = 8 := by omega
                have x1 : ¬ ((markK b : Int) = 1 ∨ (markK b : Int) = 2) := by omega
                have x3 : ¬ (markK b : Int) = 3 := by omega
                have y1 : ¬ ((markK b = 1 ∨ markK b = 2) ∧ 12 < n) := by omega
                have y3 : ¬ (markK b = 3 ∧ (9 < n ∨ (1 < n ∧ b = 48))) := by omega
                rw [refZ, if_neg x0, if_neg x8, if_neg x1, if_neg x3, wrongK, if_neg y1, if_neg y3]; rfl
/-- .. of a text in memory. -/
theorem cut_text {q : Nat} {t : ByteArray} {n : Nat} (h0 : 0 < t.size) (h : Piece (begunZ (ru t 0 : Int)) t n) : Cut q t[0] (t.data.toList.drop 1) (begunZ (ru t 0 : Int)) n (t.extract 0 n) := by
  by_cases ha : t[0].toNat < 128
  · have hk : begunZ (ru t 0 : Int) = begunU t[0] := by rw [ru_ascii h0 ha, begunZ_eq]
    rw [hk] at h ⊢
    refine cut_piece (piece_list h0 h ha) ?_
    rw [← list_head h0]
    simp
  · have hr := ru_high h0 (by omega)
    have hk : begunZ (ru t 0 : Int) = 0 := begunZ_high (by omega)
    rw [hk]
    have c1 : ¬ smU t[0] = true := by simp [smU, smB]; omega
    have c2 : ¬ grU t[0] = true := by simp [grU, grB]; omega
    have c3 : ¬ dgU t[0] = true := by simp [dgU, dgB]; omega
    have hne : ∀ m : Nat, m < 128 → t[0] ≠ UInt8.ofNat m := fun m hm e => by have := u8_lo t[0] m (by omega) e; omega
    have hm : markK t[0] = 0 := by
      have e40 : ¬ t[0] = 40 := hne 40 (by omega)
      have e41 : ¬ t[0] = 41 := hne 41 (by omega)
      have e44 : ¬ t[0] = 44 := hne 44 (by omega)
      have e59 : ¬ t[0] = 59 := hne 59 (by omega)
      have e47 : ¬ t[0] = 47 := hne 47 (by omega)
      have e46 : ¬ t[0] = 46 := hne 46 (by omega)
      have e58 : ¬ t[0] = 58 := hne 58 (by omega)
      have e42 : ¬ t[0] = 42 := hne 42 (by omega)
      unfold markK
      rw [if_neg e40, if_neg e41, if_neg e44, if_neg e59, if_neg e47, if_neg e46, if_neg e58, if_neg e42]
    refine cut_none (not_blank_of ?_) (hne 37 (by omega)) (by rw [begins_mark c1 c2 c3 (fun x => hne 45 (by omega) x.1), hm]) (by simp [refZ])
    rintro (e | e | e | e)
    · exact hne 9 (by omega) e
    · exact hne 10 (by omega) e
    · exact hne 13 (by omega) e
    · exact hne 32 (by omega) e
end Go.Proofs.YtbjfpfnfbgncnaaGreatDoor
/- The walk of why a piece may not stand in a text (package lex). -/
namespace Go.Proofs.YtbjfpfnfbgncnaaGreatDoor
open Go.RowKit
set_option linter.unusedVariables false
set_option linter.unusedSimpArgs false
theorem head48 {p : ByteArray} (h : 0 < p.size) : p.data.toList.head? = some 48 ↔ p[0] = 48 := by
  rw [list_head h]; simp
theorem refZ_3 {p : ByteArray} (h : 0 < p.size) : refZ 3 p = if 9 < p.size ∨ (1 < p.size ∧ p[0] = 48) then 33 else 0 := by
  unfold refZ
  simp only [head48 h]
  rfl
set_option maxHeartbeats 2000000 in
theorem lrefusal_any (kind : Int) (p : ByteArray) (w : World) (hp : 0 < p.size) (hs : p.size ≤ 20000) : Calls Tryz.prog 79 #[.int .i64 kind, .string p] w fun e w' => e = .returned (.int .i64 (refZ kind p)) ∧ w' = w := by
  by_cases h0 : kind = 0
  · subst h0
    go_enter Tryz.func79, Tryz.ntmps79
    go_wp2
    go_ret
    exact ⟨ret_int rfl, rfl⟩
  · by_cases h8 : kind = 8
    · subst h8
      by_cases he : p = ⟨#[45, 62]⟩
      · subst he
        go_enter Tryz.func79, Tryz.ntmps79
        go_wp2
        go_ret
        exact ⟨ret_int (by simp [refZ]), rfl⟩
      · have hne : (p.toList == [45, 62]) = false := by
          rw [beq_eq_false_iff_ne]
          intro e
          rw [ByteArray.toList_eq] at e
          exact he (Go.WideShapes.bytes_inj e)
        have H : Hid (refZ 8 p = 31) := by show _ = _; simp [refZ, he]
        go_enter Tryz.func79, Tryz.ntmps79
        go_wp2
        go_ret
        exact ⟨ret_int H.out.symm, rfl⟩
    · by_cases h3 : kind = 3
      · subst h3
        have i2 : (0 : Int) < (p.size : Int) := by omega
        by_cases h9 : 9 < p.size
        · have H : Hid (refZ 3 p = 33) := by show _ = _; rw [refZ_3 hp, if_pos (.inl h9)]
          have d9 : (9 : Int) < (p.size : Int) := by omega
          go_enter Tryz.func79, Tryz.ntmps79
          go_wp2
          go_ret
          exact ⟨ret_int H.out.symm, rfl⟩
        · have d9 : ¬ (9 : Int) < (p.size : Int) := by omega
          by_cases h1 : 1 < p.size
          · have d1 : (1 : Int) < (p.size : Int) := by omega
            by_cases h48 : p[0] = 48
            · have H : Hid (refZ 3 p = 33) := by show _ = _; rw [refZ_3 hp, if_pos (.inr ⟨h1, h48⟩)]
              have e48 : ((p[0].toNat : Int) == 48) = true := by rw [h48]; rfl
              clear h48
              go_enter Tryz.func79, Tryz.ntmps79
              go_wp2
              all_goals go_ret
              all_goals exact ⟨ret_int H.out.symm, rfl⟩
            · have H : Hid (refZ 3 p = 0) := by show _ = _; rw [refZ_3 hp, if_neg (fun x => x.elim h9 (fun y => h48 y.2))]
              have e48 : ((p[0].toNat : Int) == 48) = false := by
                rw [beq_eq_false_iff_ne]; intro e; exact h48 ((u8_eq p[0] 48 (by omega)).1 e)
              go_enter Tryz.func79, Tryz.ntmps79
              go_wp2
              all_goals go_ret
              all_goals exact ⟨ret_int H.out.symm, rfl⟩
          · have d1 : ¬ (1 : Int) < (p.size : Int) := by omega
            have H : Hid (refZ 3 p = 0) := by show _ = _; rw [refZ_3 hp, if_neg (by omega)]
            go_enter Tryz.func79, Tryz.ntmps79
            go_wp2
            all_goals go_ret
            all_goals exact ⟨ret_int H.out.symm, rfl⟩
      · by_cases h12 : 12 < p.size
        · have d12 : (12 : Int) < (p.size : Int) := by omega
          go_enter Tryz.func79, Tryz.ntmps79
          go_wp2
          all_goals go_ret
          all_goals exact ⟨ret_int (by simp_all [refZ]), rfl⟩
        · have d12 : ¬ (12 : Int) < (p.size : Int) := by omega
          go_enter Tryz.func79, Tryz.ntmps79
          go_wp2
          all_goals go_ret
          all_goals exact ⟨ret_int (by simp_all [refZ]), rfl⟩
end Go.Proofs.YtbjfpfnfbgncnaaGreatDoor
/- The library's copy of a string: laid by the shelf's program at this translation, in plain words; and the walk of strings.Clone over it. -/
namespace Go.Proofs
open Go.Shelf
def Tryz.laysM316_ren : Go.Shelf.Ren := ⟨fun | 316 => 101 | n => n, fun | 9 => 9 | 3 => 3 | 4 => 4 | 37 => 73 | 0 => 0 | 127 => 146 | 5 => 5 | n => n, fun | n => n⟩
theorem Tryz.laysM316 : Go.Proofs.LaysM.n316 Tryz.prog Tryz.laysM316_ren := {
  mixed := by kernel_rfl
  f316 := Tryz.func101.trans (congrArg some (by kernel_rfl))
  t0 := Tryz.underlying0
  a0 := Tryz.isAgg0
  z0 := Tryz.sizeOf0
  v0 := Tryz.zeroValue0
  t3 := Tryz.underlying3
  a3 := Tryz.isAgg3
  z3 := Tryz.sizeOf3
  v3 := Tryz.zeroValue3
  t4 := Tryz.underlying4
  a4 := Tryz.isAgg4
  z4 := Tryz.sizeOf4
  v4 := Tryz.zeroValue4
  t9 := Tryz.underlying9
  a9 := Tryz.isAgg9
  z9 := Tryz.sizeOf9
  v9 := Tryz.zeroValue9
  t37 := Tryz.underlying73
  a37 := Tryz.isAgg73
  z37 := Tryz.sizeOf73
  v37 := Tryz.zeroValue73
  t127 := Tryz.underlying146
  a127 := Tryz.isAgg146
  z127 := Tryz.sizeOf146
  v127 := Tryz.zeroValue146
  t5 := Tryz.underlying5
  a5 := Tryz.isAgg5
  z5 := Tryz.sizeOf5
  v5 := Tryz.zeroValue5
  i0 := by kernel_rfl
  i3 := by kernel_rfl
  i4 := by kernel_rfl
  i5 := by kernel_rfl
  i9 := by kernel_rfl
  i37 := by kernel_rfl
  i127 := by kernel_rfl }
open Go.RowKit in
theorem Tryz.stringslite_Clone (s : ByteArray) (w : World) (hlim : s.size ≤ 281474976710656) :
    Calls Tryz.prog 101 #[.string s] w fun e w' => e = .returned (.string s) ∧ Below w.heap.size w w' := Any.stringslite_Clone Tryz.laysM316 s w hlim
end Go.Proofs
namespace Go.Proofs.YtbjfpfnfbgncnaaGreatDoor
open Go.RowKit
set_option maxHeartbeats 400000 in
theorem sclone_any (s : ByteArray) (w : World) (hs : s.size ≤ 20000) : Calls Tryz.prog 81 #[.string s] w fun e w' => e = .returned (.string s) ∧ Below w.heap.size w w' := by
  go_enter Tryz.func81, Tryz.ntmps81
  go_wp2_with (go_at_call 101; refine (Tryz.stringslite_Clone _ _ (by omega)).mono ?_; rintro e w' ⟨rfl, hb⟩)
  go_ret
  exact ⟨rfl, hb⟩
end Go.Proofs.YtbjfpfnfbgncnaaGreatDoor
