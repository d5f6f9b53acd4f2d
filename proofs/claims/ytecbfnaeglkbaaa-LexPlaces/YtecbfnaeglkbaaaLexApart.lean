/- A token alone, and tokens with blanks between, are cut the same; in plain words. -/
import Derived.Test.YtecbfnaeglkbaaaLexPlain
namespace Go.Proofs.Ytecbfnaeglkbaaa
set_option linter.unusedVariables false
theorem goes_sp (k : Nat) : goesB k 32 = false := by
  unfold goesB dgU smU grU dgB smB grB
  split
  · decide
  · split
    · decide
    · split
      · decide
      · rfl
theorem begins_8 {b : UInt8} {r : List UInt8} (h : beginsK b r = 8) : b = 45 ∧ r.head? = some 62 := by
  unfold beginsK at h
  by_cases c1 : smU b = true
  · simp [c1] at h
  · by_cases c2 : grU b = true
    · simp [c1, c2] at h
    · by_cases c3 : dgU b = true
      · simp [c1, c2, c3] at h
      · by_cases c4 : b = 45 ∧ r.head? = some 62
        · exact c4
        · exfalso
          simp only [c1, c2, c3, if_neg c4, Bool.false_eq_true, if_false] at h
          unfold markK at h
          repeat (split at h <;> try omega)
theorem begins_n8 {b : UInt8} {r r2 : List UInt8} (h0 : beginsK b r ≠ 0) (h : beginsK b r ≠ 8) : beginsK b r2 = beginsK b r := by
  have hb : b ≠ 45 := by
    intro e
    subst e
    unfold beginsK at h0 h
    have c1 : smU 45 = false := by decide
    have c2 : grU 45 = false := by decide
    have c3 : dgU 45 = false := by decide
    have c4 : markK 45 = 0 := by decide
    by_cases c5 : r.head? = some 62
    · simp [c1, c2, c3, c5] at h
    · simp [c1, c2, c3, c5, c4] at h0
  unfold beginsK
  simp [hb]
theorem takeWhile_sp {p : UInt8 → Bool} (hp : p 32 = false) (r s : List UInt8) : (r.takeWhile p ++ 32 :: s).takeWhile p = r.takeWhile p := by
  induction r with
  | nil => simp [hp]
  | cons x r ih =>
    rw [List.takeWhile_cons]
    split
    · rename_i hx
      rw [List.cons_append, List.takeWhile_cons, if_pos hx, ih]
    · simp [hp]
/-- A token's text, a blank behind it, is cut as that token. -/
def Good (x : Tok) : Prop := ∀ (a : Nat) (s : List UInt8), lexF a (x.text ++ 32 :: s) = (lexF (a + x.text.length) (32 :: s)).map (fun l => ⟨x.kind, a, x.text⟩ :: l)
theorem retok {b : UInt8} {r : List UInt8} (q : Nat) (h1 : blankB b = false) (h2 : b ≠ 37) (h3 : beginsK b r ≠ 0) (h4 : wrongK (beginsK b r) (lenK (beginsK b r) r) b = 0) : Good ⟨beginsK b r, q, (b :: r).take (lenK (beginsK b r) r)⟩ := by
  intro a s
  have hle := lenK_le (b := b) (r := r)
  have hpos := lenK_pos (beginsK b r) r
  obtain ⟨n, hn⟩ : ∃ n, lenK (beginsK b r) r = n + 1 := ⟨lenK (beginsK b r) r - 1, by omega⟩
  have hlen : (r.take n).length = n := by rw [List.length_take]; omega
  have hB : beginsK b (r.take n ++ 32 :: s) = beginsK b r ∧ lenK (beginsK b r) (r.take n ++ 32 :: s) = n + 1 := by
    by_cases h8 : beginsK b r = 8
    · obtain ⟨e1, e2⟩ := begins_8 h8
      have hn1 : n = 1 := by rw [h8] at hn; simp [lenK] at hn; omega
      subst hn1
      cases r with
      | nil => simp at e2
      | cons c r =>
        simp only [List.head?_cons, Option.some.injEq] at e2
        subst e1 e2
        refine ⟨?_, ?_⟩
        · simp [beginsK]
        · rw [h8]; simp [lenK]
    · refine ⟨begins_n8 h3 h8, ?_⟩
      have hn2 : n = (r.takeWhile (goesB (beginsK b r))).length := by
        have := hn; unfold lenK at this; rw [if_neg h8] at this; omega
      have ht : r.take n = r.takeWhile (goesB (beginsK b r)) := by
        rw [hn2]
        conv => lhs; arg 2; rw [← List.takeWhile_append_dropWhile (p := goesB (beginsK b r)) (l := r)]
        exact List.take_left
      unfold lenK
      rw [if_neg h8, ht, takeWhile_sp (goes_sp _), ← hn2]; omega
  obtain ⟨hB1, hB2⟩ := hB
  show lexF a ((b :: r).take (lenK (beginsK b r) r) ++ 32 :: s) = _
  rw [hn, List.take_succ_cons, List.cons_append]
  rw [lexF_tok h1 h2 (by rw [hB1]; exact h3) (by rw [hB1, hB2, ← hn]; exact h4), hB1, hB2]
  have e1 : (r.take n ++ 32 :: s).drop (n + 1 - 1) = 32 :: s := by
    rw [Nat.add_sub_cancel]
    conv => lhs; arg 1; rw [← hlen]
    exact List.drop_left
  have e2 : (b :: (r.take n ++ 32 :: s)).take (n + 1) = b :: r.take n := by
    rw [List.take_succ_cons]
    congr 1
    conv => lhs; arg 1; rw [← hlen]
    exact List.take_left
  rw [e1, e2]
  simp only [List.length_cons, hlen]
/-- All tokens but the last are good, and the last is the End. -/
def AllGood : List Tok → Prop
  | [] => False
  | x :: r => (r = [] ∧ x.kind = 13 ∧ x.text = []) ∨ (Good x ∧ AllGood r)
theorem AllGood.last (a : Nat) : AllGood [⟨13, a, []⟩] := .inl ⟨rfl, rfl, rfl⟩
theorem AllGood.more (x : Tok) (l : List Tok) (h : Good x) (hl : AllGood l) : AllGood (x :: l) := .inr ⟨h, hl⟩
theorem lexF_good (n : Nat) : ∀ (a : Nat) (t : List UInt8) (l : List Tok), t.length ≤ n → lexF a t = .ok l → AllGood l := by
  induction n with
  | zero =>
    intro a t l h hl
    have : t = [] := List.eq_nil_of_length_eq_zero (by omega)
    subst this
    rw [lexF_nil] at hl
    cases hl
    exact AllGood.last _
  | succ n ih =>
    intro a t l h hl
    cases t with
    | nil => rw [lexF_nil] at hl; cases hl; exact AllGood.last _
    | cons b r =>
      simp only [List.length_cons] at h
      by_cases h1 : blankB b = true
      · rw [lexF_blank h1] at hl; exact ih _ _ _ (by omega) hl
      · have h1 : blankB b = false := by simpa using h1
        by_cases h2 : b = 37
        · subst h2
          rw [lexF_comment] at hl
          have := (List.dropWhile_sublist (fun x : UInt8 => decide (x ≠ 10)) (l := r)).length_le
          exact ih _ _ _ (by omega) hl
        · by_cases h3 : beginsK b r = 0
          · rw [lexF_none h1 h2 h3] at hl; cases hl
          · by_cases h4 : wrongK (beginsK b r) (lenK (beginsK b r) r) b = 0
            · rw [lexF_tok h1 h2 h3 h4] at hl
              cases hx : lexF (a + lenK (beginsK b r) r) (r.drop (lenK (beginsK b r) r - 1)) with
              | error e => rw [hx] at hl; cases hl
              | ok m =>
                rw [hx] at hl; cases hl
                exact AllGood.more _ _ (retok a h1 h2 h3 h4) (ih _ _ _ (by simp; omega) hx)
            · rw [lexF_wrong h1 h2 h3 h4] at hl; cases hl
/-- Tokens' texts with a blank behind each. -/
def apartL : List Tok → List UInt8
  | [] => []
  | x :: l => x.text ++ 32 :: apartL l
/-- They are cut as the same, places aside. -/
theorem apart_same {l : List Tok} (h : AllGood l) : ∀ a, ∃ m, lexF a (apartL l) = .ok m ∧ m.map (fun x => (x.kind, x.text)) = l.map (fun x => (x.kind, x.text)) := by
  induction l with
  | nil => exact h.elim
  | cons x l ih =>
    intro a
    rcases h with ⟨rfl, h1, h2⟩ | ⟨hx, hl⟩
    · refine ⟨[⟨13, a + 1, []⟩], ?_, by simp [h1, h2]⟩
      show lexF a (x.text ++ 32 :: []) = _
      rw [h2, List.nil_append, lexF_blank (by decide), lexF_nil]
    · obtain ⟨m, hm, he⟩ := ih hl (a + x.text.length + 1)
      refine ⟨⟨x.kind, a, x.text⟩ :: m, ?_, ?_⟩
      · show lexF a (x.text ++ 32 :: apartL l) = _
        rw [hx a, lexF_blank (by decide), hm]; rfl
      · simp [he]
/-- Tokens alone: one of them, by itself. -/
theorem apart_scan {t : List UInt8} {l : List Tok} (h : scanL t = .ok l) (h2 : (apartL l).length ≤ 20000) : ∃ m, scanL (apartL l) = .ok m ∧ m.map (fun x => (x.kind, x.text)) = l.map (fun x => (x.kind, x.text)) := by
  unfold scanL at h ⊢
  split at h
  · cases h
  · rw [if_neg (by omega)]
    exact apart_same (lexF_good _ _ _ _ (Nat.le_refl _) h) 0
end Go.Proofs.Ytecbfnaeglkbaaa
