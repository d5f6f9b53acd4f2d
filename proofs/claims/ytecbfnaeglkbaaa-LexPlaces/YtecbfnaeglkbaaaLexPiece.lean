/- One piece of a text, cut as the document cuts it. -/
import Derived.Test.YtecbfnaeglkbaaaLexStep
namespace Go.Proofs.Ytecbfnaeglkbaaa
open Go.RowKit
set_option linter.unusedVariables false
set_option linter.unusedSimpArgs false
/-- What the piece of kind k, n bytes p of b :: r, says of the tokens from place q on. -/
structure Cut (q : Nat) (b : UInt8) (r : List UInt8) (k : Int) (n : Nat) (p : ByteArray) : Prop where
  bad : refZ k p ≠ 0 → lexF q (b :: r) = .error ((refZ k p).toNat, q) ∧ 0 < refZ k p
  tok : refZ k p = 0 → 0 < k → lexF q (b :: r) = (lexF (q + n) ((b :: r).drop n)).map (fun l => ⟨k.toNat, q, (b :: r).take n⟩ :: l)
  none : refZ k p = 0 → ¬ 0 < k → lexF q (b :: r) = lexF (q + n) ((b :: r).drop n)
theorem drop_one {b : UInt8} {r : List UInt8} {n : Nat} (h : 1 ≤ n) : (b :: r).drop n = r.drop (n - 1) := by
  obtain ⟨m, rfl⟩ : ∃ m, n = m + 1 := ⟨n - 1, by omega⟩
  simp
theorem cut_tok {q : Nat} {b : UInt8} {r : List UInt8} {k n : Nat} {p : ByteArray} (h1 : blankB b = false) (h2 : b ≠ 37) (hB : beginsK b r = k) (hk : k ≠ 0) (hl : lenK k r = n) (hw : refZ (k : Int) p = (wrongK k n b : Int)) : Cut q b r (k : Int) n p := by
  have hn : 1 ≤ n := by have := lenK_pos k r; omega
  refine ⟨fun e => ?_, fun e _ => ?_, fun e h => by omega⟩
  · rw [hw] at e ⊢
    have hw0 : wrongK k n b ≠ 0 := by omega
    rw [lexF_wrong h1 h2 (by rw [hB]; exact hk) (by rw [hB, hl]; exact hw0), hB, hl]
    exact ⟨by simp, by omega⟩
  · rw [hw] at e
    have hw0 : wrongK k n b = 0 := by omega
    rw [lexF_tok h1 h2 (by rw [hB]; exact hk) (by rw [hB, hl]; exact hw0), hB, hl, drop_one hn]
    rfl
theorem cut_none {q : Nat} {b : UInt8} {r : List UInt8} {k : Int} {n : Nat} {p : ByteArray} (h1 : blankB b = false) (h2 : b ≠ 37) (hB : beginsK b r = 0) (hw : refZ k p = 31) : Cut q b r k n p := by
  refine ⟨fun e => ?_, fun e => by omega, fun e => by omega⟩
  rw [hw, lexF_none h1 h2 hB]
  exact ⟨rfl, by omega⟩
theorem onZ_1 (j : Nat) (x : UInt8) : pB 1 j x = goesB 1 x := by
  simp [pB, onZ, goesB, smU, dgU, Bool.or_comm]
theorem onZ_2 (j : Nat) (x : UInt8) : pB 2 j x = goesB 2 x := by
  simp only [pB, onZ, goesB, smU, dgU, grU]
  simp
  cases smB (x.toNat : Int) <;> cases grB (x.toNat : Int) <;> cases dgB (x.toNat : Int) <;> rfl
theorem onZ_3 (j : Nat) (x : UInt8) : pB 3 j x = goesB 3 x := by
  simp [pB, onZ, goesB, dgU]
theorem onZ_c (j : Nat) (x : UInt8) : pB (-1) j x = decide (x ≠ 10) := by
  have h := u8_eq x 10 (by omega)
  have h' : ((x.toNat : Int) = 10) ↔ x = 10 := h
  simp only [pB, onZ]
  rw [Bool.eq_iff_iff]
  simp [h']
theorem onZ_else {k : Int} (h : k ≠ 1 ∧ k ≠ 2 ∧ k ≠ 3 ∧ k ≠ 8 ∧ k ≠ -1) (j : Nat) (x : UInt8) : pB k j x = (fun _ => false) x := by
  obtain ⟨h1, h2, h3, h4, h5⟩ := h
  simp [pB, onZ, h1, h2, h3, h4, h5]
theorem takeWhile_false (r : List UInt8) : (r.takeWhile (fun _ => false)).length = 0 := by cases r <;> simp
theorem lenK_n8 {k : Nat} (h : k ≠ 8) (r : List UInt8) : lenK k r = 1 + (r.takeWhile (goesB k)).length := by unfold lenK; rw [if_neg h]
theorem size_list (p : ByteArray) : p.size = p.data.toList.length := by simp
theorem begins_mark {b : UInt8} {r : List UInt8} (c1 : ¬ smU b = true) (c2 : ¬ grU b = true) (c3 : ¬ dgU b = true) (c : ¬ (b = 45 ∧ r.head? = some 62)) : beginsK b r = markK b := by
  unfold beginsK
  simp only [c1, c2, c3, if_neg c, Bool.false_eq_true, if_false]
theorem mark_cases (b : UInt8) : markK b = 0 ∨ markK b = 4 ∨ markK b = 5 ∨ markK b = 6 ∨ markK b = 7 ∨ markK b = 9 ∨ markK b = 10 ∨ markK b = 11 ∨ markK b = 12 := by
  unfold markK
  repeat' split
  all_goals simp
theorem goes_mark {k : Nat} (h : k ≠ 1 ∧ k ≠ 2 ∧ k ≠ 3) (x : UInt8) : goesB k x = false := by
  unfold goesB; rw [if_neg h.1, if_neg h.2.1, if_neg h.2.2]
theorem lenK_mark {k : Nat} (h : k ≠ 1 ∧ k ≠ 2 ∧ k ≠ 3 ∧ k ≠ 8) (r : List UInt8) : lenK k r = 1 := by
  rw [lenK_n8 h.2.2.2]
  have e : goesB k = fun _ => false := funext (goes_mark ⟨h.1, h.2.1, h.2.2.1⟩)
  rw [e, takeWhile_false]
theorem cut_piece {q : Nat} {b : UInt8} {r : List UInt8} {n : Nat} (h : PieceL (begunU b) b r n) {p : ByteArray} (hp : p.data.toList = (b :: r).take n) : Cut q b r (begunU b) n p := by
  have hn := h.pos
  have hle := h.le
  have hsz : p.size = n := by rw [size_list, hp, List.length_take]; simp; omega
  have hhd : p.data.toList.head? = some b := by
    rw [hp]
    obtain ⟨m, rfl⟩ : ∃ m, n = m + 1 := ⟨n - 1, by omega⟩
    simp
  by_cases c1 : smU b = true
  · obtain ⟨hb, h37, h45⟩ := letter_not (.inl c1)
    have e : begunU b = 1 := by unfold begunU; rw [if_pos c1]
    rw [e] at h ⊢
    have hB : beginsK b r = 1 := by unfold beginsK; rw [if_pos c1]
    refine cut_tok (k := 1) hb h37 hB (by omega) (by rw [lenK_n8 (by omega)]; exact (h.len onZ_1).symm) ?_
    simp only [refZ, wrongK, hsz]; simp; split <;> rfl
  · by_cases c2 : grU b = true
    · obtain ⟨hb, h37, h45⟩ := letter_not (.inr (.inl c2))
      have e : begunU b = 2 := by unfold begunU; rw [if_neg c1, if_pos c2]
      rw [e] at h ⊢
      have hB : beginsK b r = 2 := by unfold beginsK; rw [if_neg c1, if_pos c2]
      refine cut_tok (k := 2) hb h37 hB (by omega) (by rw [lenK_n8 (by omega)]; exact (h.len onZ_2).symm) ?_
      simp only [refZ, wrongK, hsz]; simp; split <;> rfl
    · by_cases c3 : dgU b = true
      · obtain ⟨hb, h37, h45⟩ := letter_not (.inr (.inr c3))
        have e : begunU b = 3 := by unfold begunU; rw [if_neg c1, if_neg c2, if_pos c3]
        rw [e] at h ⊢
        have hB : beginsK b r = 3 := by unfold beginsK; rw [if_neg c1, if_neg c2, if_pos c3]
        refine cut_tok (k := 3) hb h37 hB (by omega) (by rw [lenK_n8 (by omega)]; exact (h.len onZ_3).symm) ?_
        simp only [refZ, wrongK, hsz, hhd]; simp; split <;> rfl
      · by_cases c4 : b = 9 ∨ b = 10 ∨ b = 13 ∨ b = 32
        · have e : begunU b = -2 := by unfold begunU; rw [if_neg c1, if_neg c2, if_neg c3, if_pos c4]
          have hb : blankB b = true := by unfold blankB; simpa using c4
          rw [e] at h ⊢
          have hn1 : n = 1 := by rw [h.len (onZ_else ⟨by omega, by omega, by omega, by omega, by omega⟩), takeWhile_false]
          subst hn1
          refine ⟨fun x => absurd (by simp [refZ]) x, fun _ x => by omega, fun _ _ => ?_⟩
          rw [lexF_blank hb]; rfl
        · have hb := not_blank_of c4
          by_cases c5 : b = 37
          · have e : begunU b = -1 := by unfold begunU; rw [if_neg c1, if_neg c2, if_neg c3, if_neg c4, if_pos c5]
            rw [e] at h ⊢
            have hl := h.len onZ_c
            refine ⟨fun x => absurd (by simp [refZ]) x, fun _ x => by omega, fun _ _ => ?_⟩
            subst c5
            rw [lexF_comment, hl, drop_one (by omega)]
            congr 1
            conv => rhs; arg 2; rw [← List.takeWhile_append_dropWhile (p := fun x : UInt8 => decide (x ≠ 10)) (l := r)]
            rw [Nat.add_sub_cancel_left, List.drop_left]
          · by_cases c6 : b = 45
            · have e : begunU b = 8 := by unfold begunU; rw [if_neg c1, if_neg c2, if_neg c3, if_neg c4, if_neg c5, if_pos c6]
              rw [e] at h ⊢
              by_cases c7 : r.head? = some 62
              · have hB : beginsK b r = 8 := by unfold beginsK; simp only [c1, c2, c3, if_pos (And.intro c6 c7), Bool.false_eq_true, if_false]
                cases r with
                | nil => simp at c7
                | cons x r =>
                  simp only [List.head?_cons, Option.some.injEq] at c7
                  subst c7
                  have hn2 : n = 2 := by
                    have h8 : ∀ j (x : UInt8), j ≠ 1 → pB 8 j x = false := fun j x hj => by simp [pB, onZ]; omega
                    have h9 : pB 8 1 62 = true := by decide
                    by_cases g1 : n = 1
                    · have := h.stop (by subst g1; simp)
                      subst g1
                      simp [h9] at this
                    · by_cases g2 : n = 2
                      · exact g2
                      · have := h.all 1 (by simp at hle ⊢; omega) (by omega)
                        rw [h8 _ _ (by omega)] at this
                        exact absurd this (by simp)
                  subst hn2
                  refine cut_tok (k := 8) hb c5 hB (by omega) (by unfold lenK; rw [if_pos rfl]) ?_
                  have hpe : p = ⟨#[45, 62]⟩ := by
                    apply ByteArray.ext
                    apply Array.toList_inj.1
                    rw [hp, c6]; rfl
                  simp [refZ, hpe, wrongK]
              · refine cut_none hb c5 (by rw [begins_mark c1 c2 c3 (fun x => c7 x.2), c6]; rfl) ?_
                have hpe : ¬ p = ⟨#[45, 62]⟩ := by
                  intro e2
                  rw [e2] at hp
                  have h62 : (b :: r).take n = [45, 62] := by rw [← hp]
                  cases r with
                  | nil => have := congrArg List.length h62; simp at this; omega
                  | cons x r =>
                    have hn2 : 2 ≤ n := by have := congrArg List.length h62; simp at this; omega
                    obtain ⟨m, rfl⟩ : ∃ m, n = m + 2 := ⟨n - 2, by omega⟩
                    simp at h62
                    exact c7 (by simp [h62.2.1])
                simp [refZ, hpe]
            · have e : begunU b = (markK b : Int) := by unfold begunU; rw [if_neg c1, if_neg c2, if_neg c3, if_neg c4, if_neg c5, if_neg c6]
              have hB : beginsK b r = markK b := begins_mark c1 c2 c3 (fun x => c6 x.1)
              by_cases c7 : markK b = 0
              · exact cut_none hb c5 (by rw [hB, c7]) (by rw [e, c7]; simp [refZ])
              · have hm := mark_cases b
                have hne : markK b ≠ 1 ∧ markK b ≠ 2 ∧ markK b ≠ 3 ∧ markK b ≠ 8 := by omega
                rw [e] at h ⊢
                have hn1 : n = 1 := by rw [h.len (onZ_else ⟨by omega, by omega, by omega, by omega, by omega⟩), takeWhile_false]
                refine cut_tok hb c5 hB c7 (by rw [lenK_mark hne, hn1]) ?_
                have x0 : ¬ (markK b : Int) = 0 := by omega
                have x8 : ¬ (markK b : Int) = 8 := by omega
                have x1 : ¬ ((markK b : Int) = 1 ∨ (markK b : Int) = 2) := by omega
                have x3 : ¬ (markK b : Int) = 3 := by omega
                have y1 : ¬ ((markK b = 1 ∨ markK b = 2) ∧ 12 < n) := by omega
                have y3 : ¬ (markK b = 3 ∧ (9 < n ∨ (1 < n ∧ b = 48))) := by omega
                rw [refZ, if_neg x0, if_neg x8, if_neg x1, if_neg x3, wrongK, if_neg y1, if_neg y3]; rfl
/-- .. of a text in memory. -/
theorem cut_text {q : Nat} {t : ByteArray} {n : Nat} (h0 : 0 < t.size) (h : Piece (begunZ (ru t 0 : Int)) t n) : Cut q t[0] (t.data.toList.drop 1) (begunZ (ru t 0 : Int)) n (t.extract 0 n) := by
  by_cases ha : t[0].toNat < 128
  · have hk : begunZ (ru t 0 : Int) = begunU t[0] := by rw [ru_ascii h0 ha, begunZ_eq]
    rw [hk] at h ⊢
    refine cut_piece (piece_list h0 h ha) ?_
    rw [← list_head h0]
    simp
  · have hr := ru_high h0 (by omega)
    have hk : begunZ (ru t 0 : Int) = 0 := begunZ_high (by omega)
    rw [hk]
    have c1 : ¬ smU t[0] = true := by simp [smU, smB]; omega
    have c2 : ¬ grU t[0] = true := by simp [grU, grB]; omega
    have c3 : ¬ dgU t[0] = true := by simp [dgU, dgB]; omega
    have hne : ∀ m : Nat, m < 128 → t[0] ≠ UInt8.ofNat m := fun m hm e => by have := u8_lo t[0] m (by omega) e; omega
    have hm : markK t[0] = 0 := by
      have e40 : ¬ t[0] = 40 := hne 40 (by omega)
      have e41 : ¬ t[0] = 41 := hne 41 (by omega)
      have e44 : ¬ t[0] = 44 := hne 44 (by omega)
      have e59 : ¬ t[0] = 59 := hne 59 (by omega)
      have e47 : ¬ t[0] = 47 := hne 47 (by omega)
      have e46 : ¬ t[0] = 46 := hne 46 (by omega)
      have e58 : ¬ t[0] = 58 := hne 58 (by omega)
      have e42 : ¬ t[0] = 42 := hne 42 (by omega)
      unfold markK
      rw [if_neg e40, if_neg e41, if_neg e44, if_neg e59, if_neg e47, if_neg e46, if_neg e58, if_neg e42]
    refine cut_none (not_blank_of ?_) (hne 37 (by omega)) (by rw [begins_mark c1 c2 c3 (fun x => hne 45 (by omega) x.1), hm]) (by simp [refZ])
    rintro (e | e | e | e)
    · exact hne 9 (by omega) e
    · exact hne 10 (by omega) e
    · exact hne 13 (by omega) e
    · exact hne 32 (by omega) e
end Go.Proofs.Ytecbfnaeglkbaaa
