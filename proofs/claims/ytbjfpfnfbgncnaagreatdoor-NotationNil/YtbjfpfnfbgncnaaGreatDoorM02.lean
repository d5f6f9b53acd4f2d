import Derived.Test.YtbjfpfnfbgncnaaGreatDoorM01
/- Texts cut into tokens, in plain words; no program in sight. -/
namespace Go.Proofs.YtbjfpfnfbgncnaaGreatDoor
set_option linter.unusedVariables false
def smU (b : UInt8) : Bool := smB (b.toNat : Int)
def grU (b : UInt8) : Bool := grB (b.toNat : Int)
def dgU (b : UInt8) : Bool := dgB (b.toNat : Int)
def blankB (b : UInt8) : Bool := decide (b = 9 ∨ b = 10 ∨ b = 13 ∨ b = 32)
def markK (b : UInt8) : Nat := if b = 40 then 4 else if b = 41 then 5 else if b = 44 then 6 else if b = 59 then 7 else if b = 47 then 9 else if b = 46 then 10 else if b = 58 then 11 else if b = 42 then 12 else 0
/-- Does a byte go on with a token of that kind? -/
def goesB (kind : Nat) (b : UInt8) : Bool := if kind = 1 then dgU b || smU b else if kind = 2 then dgU b || smU b || grU b else if kind = 3 then dgU b else false
/-- The kind of the token that begins with b, r behind it; 0: none. -/
def beginsK (b : UInt8) (r : List UInt8) : Nat := if smU b = true then 1 else if grU b = true then 2 else if dgU b = true then 3 else if b = 45 ∧ r.head? = some 62 then 8 else markK b
/-- How many bytes the token has. -/
def lenK (kind : Nat) (r : List UInt8) : Nat := if kind = 8 then 2 else 1 + (r.takeWhile (goesB kind)).length
structure Tok where
  kind : Nat
  at' : Nat
  text : List UInt8
/-- What is wrong with a token of that kind and length, that begins with b; 0: nothing. -/
def wrongK (kind n : Nat) (b : UInt8) : Nat := if (kind = 1 ∨ kind = 2) ∧ 12 < n then 32 else if kind = 3 ∧ (9 < n ∨ (1 < n ∧ b = 48)) then 33 else 0
theorem lenK_pos (kind : Nat) (r : List UInt8) : 1 ≤ lenK kind r := by unfold lenK; split <;> omega
/-- The tokens of a text that begins at a place, the End among them; or what is wrong, and where; by at most so many steps. -/
def lexG : Nat → Nat → List UInt8 → Except (Nat × Nat) (List Tok)
  | 0, a, _ => .ok [⟨13, a, []⟩]
  | _ + 1, a, [] => .ok [⟨13, a, []⟩]
  | f + 1, a, b :: r =>
    if blankB b = true then lexG f (a + 1) r
    else if b = 37 then lexG f (a + (1 + (r.takeWhile (fun x => decide (x ≠ 10))).length)) (r.dropWhile (fun x => decide (x ≠ 10)))
    else if beginsK b r = 0 then .error (31, a)
    else if wrongK (beginsK b r) (lenK (beginsK b r) r) b ≠ 0 then .error (wrongK (beginsK b r) (lenK (beginsK b r) r) b, a)
    else (lexG f (a + lenK (beginsK b r) r) (r.drop (lenK (beginsK b r) r - 1))).map (fun l => ⟨beginsK b r, a, (b :: r).take (lenK (beginsK b r) r)⟩ :: l)
/-- A text needs no more steps than it has bytes. -/
theorem lexG_enough (f : Nat) : ∀ (g a : Nat) (t : List UInt8), t.length ≤ f → t.length ≤ g → lexG f a t = lexG g a t := by
  induction f with
  | zero =>
    intro g a t h1 h2
    have : t = [] := List.eq_nil_of_length_eq_zero (by omega)
    subst this
    cases g <;> rfl
  | succ f ih =>
    intro g a t h1 h2
    cases t with
    | nil => cases g <;> rfl
    | cons b r =>
      cases g with
      | zero => simp at h2
      | succ g =>
        simp only [List.length_cons] at h1 h2
        have hd := (List.dropWhile_sublist (fun x : UInt8 => decide (x ≠ 10)) (l := r)).length_le
        have hp : (r.drop (lenK (beginsK b r) r - 1)).length ≤ r.length := by simp
        simp only [lexG]
        rw [ih g (a + 1) r (by omega) (by omega), ih g _ (r.dropWhile (fun x : UInt8 => decide (x ≠ 10))) (by omega) (by omega), ih g _ (r.drop (lenK (beginsK b r) r - 1)) (by omega) (by omega)]
/-- The tokens of a text that begins at a place, the End among them; or what is wrong, and where. -/
def lexF (a : Nat) (t : List UInt8) : Except (Nat × Nat) (List Tok) := lexG t.length a t
def scanL (t : List UInt8) : Except (Nat × Nat) (List Tok) := if 20000 < t.length then .error (30, 0) else lexF 0 t
theorem lexF_nil (a : Nat) : lexF a [] = .ok [⟨13, a, []⟩] := rfl
theorem lexF_cons (a : Nat) (b : UInt8) (r : List UInt8) : lexF a (b :: r) = lexG (r.length + 1) a (b :: r) := rfl
theorem lexF_blank {a : Nat} {b : UInt8} {r : List UInt8} (h : blankB b = true) : lexF a (b :: r) = lexF (a + 1) r := by rw [lexF_cons, lexG, if_pos h]; rfl
theorem lexF_comment {a : Nat} {r : List UInt8} : lexF a (37 :: r) = lexF (a + (1 + (r.takeWhile (fun x => decide (x ≠ 10))).length)) (r.dropWhile (fun x => decide (x ≠ 10))) := by
  rw [lexF_cons, lexG, if_neg (by decide), if_pos rfl]
  exact lexG_enough _ _ _ _ (List.dropWhile_sublist _).length_le (Nat.le_refl _)
theorem lexF_none {a : Nat} {b : UInt8} {r : List UInt8} (h1 : blankB b = false) (h2 : b ≠ 37) (h3 : beginsK b r = 0) : lexF a (b :: r) = .error (31, a) := by
  rw [lexF_cons, lexG, if_neg (by simp [h1]), if_neg h2, if_pos h3]
theorem lexF_wrong {a : Nat} {b : UInt8} {r : List UInt8} (h1 : blankB b = false) (h2 : b ≠ 37) (h3 : beginsK b r ≠ 0) (h4 : wrongK (beginsK b r) (lenK (beginsK b r) r) b ≠ 0) : lexF a (b :: r) = .error (wrongK (beginsK b r) (lenK (beginsK b r) r) b, a) := by
  rw [lexF_cons, lexG, if_neg (by simp [h1]), if_neg h2, if_neg h3, if_pos h4]
theorem lexF_tok {a : Nat} {b : UInt8} {r : List UInt8} (h1 : blankB b = false) (h2 : b ≠ 37) (h3 : beginsK b r ≠ 0) (h4 : wrongK (beginsK b r) (lenK (beginsK b r) r) b = 0) : lexF a (b :: r) = (lexF (a + lenK (beginsK b r) r) (r.drop (lenK (beginsK b r) r - 1))).map (fun l => ⟨beginsK b r, a, (b :: r).take (lenK (beginsK b r) r)⟩ :: l) := by
  rw [lexF_cons, lexG, if_neg (by simp [h1]), if_neg h2, if_neg h3, if_neg (by simp [h4])]
  rw [lexG_enough r.length (r.drop (lenK (beginsK b r) r - 1)).length _ _ (by simp) (Nat.le_refl _)]
  rfl
/-! ### two texts with a line feed between -/
def shiftR (d : Nat) : Except (Nat × Nat) (List Tok) → Except (Nat × Nat) (List Tok)
  | .ok l => .ok (l.map fun x => ⟨x.kind, x.at' + d, x.text⟩)
  | .error (c, p) => .error (c, p + d)
theorem lexF_shift (d : Nat) (n : Nat) : ∀ (a : Nat) (t : List UInt8), t.length ≤ n → lexF (a + d) t = shiftR d (lexF a t) := by
  induction n with
  | zero =>
    intro a t h
    have : t = [] := List.eq_nil_of_length_eq_zero (by omega)
    subst this
    rw [lexF_nil, lexF_nil]; rfl
  | succ n ih =>
    intro a t h
    cases t with
    | nil => rw [lexF_nil, lexF_nil]; rfl
    | cons b r =>
      simp only [List.length_cons] at h
      by_cases h1 : blankB b = true
      · rw [lexF_blank h1, lexF_blank h1, show a + d + 1 = (a + 1) + d by omega]
        exact ih _ _ (by omega)
      · have h1 : blankB b = false := by simpa using h1
        by_cases h2 : b = 37
        · subst h2
          rw [lexF_comment, lexF_comment]
          have := (List.dropWhile_sublist (fun x : UInt8 => decide (x ≠ 10)) (l := r)).length_le
          rw [← ih _ _ (by omega)]
          congr 1; omega
        · by_cases h3 : beginsK b r = 0
          · rw [lexF_none h1 h2 h3, lexF_none h1 h2 h3]; rfl
          · by_cases h4 : wrongK (beginsK b r) (lenK (beginsK b r) r) b = 0
            · rw [lexF_tok h1 h2 h3 h4, lexF_tok h1 h2 h3 h4, show a + d + lenK (beginsK b r) r = (a + lenK (beginsK b r) r) + d by omega, ih _ _ (by simp; omega)]
              cases lexF (a + lenK (beginsK b r) r) (r.drop (lenK (beginsK b r) r - 1)) with
              | ok l => rfl
              | error e => rfl
            · rw [lexF_wrong h1 h2 h3 h4, lexF_wrong h1 h2 h3 h4]; rfl
theorem takeWhile_nl {p : UInt8 → Bool} (hp : p 10 = false) (r s : List UInt8) : (r ++ 10 :: s).takeWhile p = r.takeWhile p := by
  induction r with
  | nil => simp [hp]
  | cons x r ih =>
    simp only [List.cons_append, List.takeWhile_cons]
    split
    · rw [ih]
    · rfl
theorem dropWhile_nl (r s : List UInt8) : (r ++ 10 :: s).dropWhile (fun x => decide (x ≠ 10)) = r.dropWhile (fun x => decide (x ≠ 10)) ++ 10 :: s := by
  induction r with
  | nil => simp
  | cons x r ih =>
    simp only [List.cons_append, List.dropWhile_cons]
    split
    · exact ih
    · rfl
theorem goes_nl (k : Nat) : goesB k 10 = false := by
  unfold goesB dgU smU grU dgB smB grB
  split
  · decide
  · split
    · decide
    · split
      · decide
      · rfl
theorem begins_nl (b : UInt8) (r s : List UInt8) : beginsK b (r ++ 10 :: s) = beginsK b r := by
  unfold beginsK
  cases r with
  | nil => simp
  | cons x r => simp
theorem lenK_nl (k : Nat) (r s : List UInt8) : lenK k (r ++ 10 :: s) = lenK k r := by
  unfold lenK
  rw [takeWhile_nl (goes_nl k)]
theorem lenK_le {b : UInt8} {r : List UInt8} : lenK (beginsK b r) r ≤ r.length + 1 := by
  unfold lenK
  split
  · rename_i h
    cases r with
    | nil =>
      exfalso
      unfold beginsK at h
      by_cases c1 : smU b = true
      · simp [c1] at h
      · by_cases c2 : grU b = true
        · simp [c1, c2] at h
        · by_cases c3 : dgU b = true
          · simp [c1, c2, c3] at h
          · simp [c1, c2, c3] at h
            unfold markK at h
            repeat (split at h <;> try omega)
    | cons x r => simp
  · have := (List.takeWhile_sublist (goesB (beginsK b r)) (l := r)).length_le
    omega
theorem lexF_ne (n : Nat) : ∀ (a : Nat) (t : List UInt8) (l : List Tok), t.length ≤ n → lexF a t = .ok l → l ≠ [] := by
  induction n with
  | zero =>
    intro a t l h hl
    have : t = [] := List.eq_nil_of_length_eq_zero (by omega)
    subst this
    rw [lexF_nil] at hl
    cases hl
    simp
  | succ n ih =>
    intro a t l h hl
    cases t with
    | nil => rw [lexF_nil] at hl; cases hl; simp
    | cons b r =>
      simp only [List.length_cons] at h
      by_cases h1 : blankB b = true
      · rw [lexF_blank h1] at hl; exact ih _ _ _ (by omega) hl
      · have h1 : blankB b = false := by simpa using h1
        by_cases h2 : b = 37
        · subst h2
          rw [lexF_comment] at hl
          have := (List.dropWhile_sublist (fun x : UInt8 => decide (x ≠ 10)) (l := r)).length_le
          exact ih _ _ _ (by omega) hl
        · by_cases h3 : beginsK b r = 0
          · rw [lexF_none h1 h2 h3] at hl; cases hl
          · by_cases h4 : wrongK (beginsK b r) (lenK (beginsK b r) r) b = 0
            · rw [lexF_tok h1 h2 h3 h4] at hl
              cases hx : lexF (a + lenK (beginsK b r) r) (r.drop (lenK (beginsK b r) r - 1)) with
              | error e => rw [hx] at hl; cases hl
              | ok m => rw [hx] at hl; cases hl; simp
            · rw [lexF_wrong h1 h2 h3 h4] at hl; cases hl
/-- The tokens of two texts with a line feed between. -/
def joinR (x y : Except (Nat × Nat) (List Tok)) : Except (Nat × Nat) (List Tok) := match x with
  | .error e => .error e
  | .ok l => y.map (fun m => l.dropLast ++ m)
theorem lexF_join (s : List UInt8) (n : Nat) : ∀ (a : Nat) (t : List UInt8), t.length ≤ n → lexF a (t ++ 10 :: s) = joinR (lexF a t) (lexF (a + t.length + 1) s) := by
  induction n with
  | zero =>
    intro a t h
    have : t = [] := List.eq_nil_of_length_eq_zero (by omega)
    subst this
    rw [List.nil_append, lexF_blank (by decide), lexF_nil]
    simp only [joinR, List.length_nil, Nat.add_zero]
    cases lexF (a + 1) s with
    | ok l => rfl
    | error e => rfl
  | succ n ih =>
    intro a t h
    cases t with
    | nil =>
      rw [List.nil_append, lexF_blank (by decide), lexF_nil]
      simp only [joinR, List.length_nil, Nat.add_zero]
      cases lexF (a + 1) s with
      | ok l => rfl
      | error e => rfl
    | cons b r =>
      simp only [List.length_cons] at h
      rw [List.cons_append]
      by_cases h1 : blankB b = true
      · rw [lexF_blank h1, lexF_blank h1, ih _ _ (by omega)]
        congr 2; simp; omega
      · have h1 : blankB b = false := by simpa using h1
        by_cases h2 : b = 37
        · subst h2
          rw [lexF_comment, lexF_comment, dropWhile_nl, takeWhile_nl (by decide)]
          have e1 := List.takeWhile_append_dropWhile (p := fun x : UInt8 => decide (x ≠ 10)) (l := r)
          have e2 := congrArg List.length e1
          rw [List.length_append] at e2
          rw [ih _ _ (by omega)]
          congr 2
          simp only [List.length_cons]; omega
        · by_cases h3 : beginsK b r = 0
          · rw [lexF_none h1 h2 (by rw [begins_nl]; exact h3), lexF_none h1 h2 h3]; rfl
          · have hle := lenK_le (b := b) (r := r)
            have hpos := lenK_pos (beginsK b r) r
            by_cases h4 : wrongK (beginsK b r) (lenK (beginsK b r) r) b = 0
            · rw [lexF_tok h1 h2 (by rw [begins_nl]; exact h3) (by rw [begins_nl, lenK_nl]; exact h4), lexF_tok h1 h2 h3 h4]
              rw [begins_nl, lenK_nl]
              have e1 : (r ++ 10 :: s).drop (lenK (beginsK b r) r - 1) = r.drop (lenK (beginsK b r) r - 1) ++ 10 :: s := List.drop_append_of_le_length (by omega)
              have e2 : (b :: (r ++ 10 :: s)).take (lenK (beginsK b r) r) = (b :: r).take (lenK (beginsK b r) r) := by
                rw [← List.cons_append]; exact List.take_append_of_le_length (by simp; omega)
              rw [e1, e2, ih _ _ (by simp; omega)]
              have e3 : a + lenK (beginsK b r) r + (r.drop (lenK (beginsK b r) r - 1)).length + 1 = a + (b :: r).length + 1 := by simp; omega
              rw [e3]
              cases hx : lexF (a + lenK (beginsK b r) r) (r.drop (lenK (beginsK b r) r - 1)) with
              | error e => rfl
              | ok l =>
                have hne : l ≠ [] := lexF_ne _ _ _ _ (Nat.le_refl _) hx
                simp only [joinR, Except.map]
                cases lexF (a + (b :: r).length + 1) s with
                | error e => rfl
                | ok m =>
                  simp only [List.dropLast_cons_of_ne_nil hne, List.cons_append]
            · rw [lexF_wrong h1 h2 (by rw [begins_nl]; exact h3) (by rw [begins_nl, lenK_nl]; exact h4), lexF_wrong h1 h2 h3 h4, begins_nl, lenK_nl]; rfl
/-! ### tokens stand where they say, and nothing is said between -/
/-- Does a piece say nothing? c: within a comment. -/
def silentF : Bool → List UInt8 → Bool
  | _, [] => true
  | c, b :: r =>
    let c1 := if b = 10 then false else c
    let c2 := if b = 37 then true else c1
    if c2 = false ∧ blankB b = false then false else silentF c2 r
theorem silent_blank {b : UInt8} (h : blankB b = true) (r : List UInt8) : silentF false (b :: r) = silentF false r := by
  have h37 : b ≠ 37 := by intro e; subst e; revert h; decide
  simp [silentF, h, h37]
theorem silent_in {b : UInt8} (h : b ≠ 10) (r : List UInt8) : silentF true (b :: r) = silentF true r := by
  simp [silentF, h]
theorem silent_all {l : List UInt8} (h : ∀ b ∈ l, b ≠ 10) : ∀ m, silentF true (l ++ m) = silentF true m := by
  induction l with
  | nil => intro m; rfl
  | cons b r ih =>
    intro m
    rw [List.cons_append, silent_in (h b (by simp))]
    exact ih (fun x hx => h x (by simp [hx])) m
theorem silent_percent (r : List UInt8) : silentF false (37 :: r) = silentF true r := by simp [silentF]
theorem silent_true_nil : silentF true [] = true := rfl
theorem silent_nl (r : List UInt8) : silentF true (10 :: r) = silentF false r := by
  have h : blankB 10 = true := by decide
  simp [silentF, h]
/-- The tokens of a text stand where they say; from place p on, t is what is left. -/
def Stand : Nat → List UInt8 → List Tok → Prop
  | _, _, [] => False
  | p, t, x :: r => ∃ gap text rest, silentF false gap = true ∧ x.at' = p + gap.length ∧ x.text = text ∧ t = gap ++ (text ++ rest) ∧
      ((r = [] ∧ text = [] ∧ rest = [] ∧ x.kind = 13) ∨ (text ≠ [] ∧ x.kind ≠ 13 ∧ Stand (p + gap.length + text.length) rest r))
theorem Stand.done (p : Nat) (gap : List UInt8) (h : silentF false gap = true) : Stand p gap [⟨13, p + gap.length, []⟩] :=
  ⟨gap, [], [], h, rfl, rfl, by simp, .inl ⟨rfl, rfl, rfl, rfl⟩⟩
theorem Stand.tok (p : Nat) (gap text rest : List UInt8) (kind : Nat) (l : List Tok) (h1 : silentF false gap = true) (h2 : text ≠ []) (h3 : kind ≠ 13) (h4 : Stand (p + gap.length + text.length) rest l) : Stand p (gap ++ (text ++ rest)) (⟨kind, p + gap.length, text⟩ :: l) :=
  ⟨gap, text, rest, h1, rfl, rfl, rfl, .inr ⟨h2, h3, h4⟩⟩
theorem Stand.gap {p : Nat} {g t : List UInt8} {l : List Tok} (h : Stand (p + g.length) t l) (hg : ∀ m, silentF false m = true → silentF false (g ++ m) = true) : Stand p (g ++ t) l := by
  cases l with
  | nil => exact h.elim
  | cons x r =>
    obtain ⟨gap, text, rest, h1, h2, h3, h4, h5⟩ := h
    refine ⟨g ++ gap, text, rest, hg gap h1, by rw [h2]; simp; omega, h3, by rw [h4]; simp, ?_⟩
    refine h5.imp (fun x => x) (fun x => ⟨x.1, x.2.1, ?_⟩)
    have e : p + (g ++ gap).length + text.length = p + g.length + gap.length + text.length := by simp; omega
    rw [e]; exact x.2.2
theorem takeWhile_mem {p : UInt8 → Bool} {b : UInt8} : ∀ {r : List UInt8}, b ∈ r.takeWhile p → p b = true := by
  intro r
  induction r with
  | nil => intro h; simp at h
  | cons x r ih =>
    intro h
    rw [List.takeWhile_cons] at h
    split at h
    · rename_i hx
      rcases List.mem_cons.mp h with rfl | h
      · exact hx
      · exact ih h
    · simp at h
theorem begins_ne13 (b : UInt8) (r : List UInt8) : beginsK b r ≠ 13 := by
  unfold beginsK markK
  repeat (first | decide | split | omega)
theorem lexF_stand (n : Nat) : ∀ (a : Nat) (t : List UInt8) (l : List Tok), t.length ≤ n → lexF a t = .ok l → Stand a t l := by
  induction n with
  | zero =>
    intro a t l h hl
    have : t = [] := List.eq_nil_of_length_eq_zero (by omega)
    subst this
    rw [lexF_nil] at hl
    cases hl
    exact Stand.done a [] rfl
  | succ n ih =>
    intro a t l h hl
    cases t with
    | nil => rw [lexF_nil] at hl; cases hl; exact Stand.done a [] rfl
    | cons b r =>
      simp only [List.length_cons] at h
      by_cases h1 : blankB b = true
      · rw [lexF_blank h1] at hl
        have := ih _ _ _ (by omega) hl
        exact Stand.gap (g := [b]) this (fun m hm => by rw [List.singleton_append, silent_blank h1]; exact hm)
      · have h1 : blankB b = false := by simpa using h1
        by_cases h2 : b = 37
        · subst h2
          rw [lexF_comment] at hl
          have hle := (List.dropWhile_sublist (fun x : UInt8 => decide (x ≠ 10)) (l := r)).length_le
          have e1 := List.takeWhile_append_dropWhile (p := fun x : UInt8 => decide (x ≠ 10)) (l := r)
          have hno : ∀ b ∈ r.takeWhile (fun x : UInt8 => decide (x ≠ 10)), b ≠ 10 := by
            intro b hb
            have := takeWhile_mem hb
            simpa using this
          cases hd : r.dropWhile (fun x : UInt8 => decide (x ≠ 10)) with
          | nil =>
            rw [hd, List.append_nil] at e1
            rw [hd, lexF_nil, e1] at hl
            rw [e1] at hno
            cases hl
            have hs : silentF false (37 :: r) = true := by
              rw [silent_percent]
              have := silent_all hno []
              rw [List.append_nil] at this
              rw [this]; rfl
            have := Stand.done a (37 :: r) hs
            rw [show a + (1 + r.length) = a + (37 :: r).length by simp; omega]
            exact this
          | cons c s =>
            have hc : c = 10 := by
              have h5 := List.head?_dropWhile_not (fun x : UInt8 => decide (x ≠ 10)) r
              rw [hd] at h5
              simpa using h5
            subst hc
            rw [hd] at e1 hl hle
            rw [lexF_blank (by decide)] at hl
            have hS := ih _ _ _ (by simp at hle; omega) hl
            have e4 : (37 :: r) = (37 :: (r.takeWhile (fun x : UInt8 => decide (x ≠ 10)) ++ [10])) ++ s := by
              conv => lhs; rw [← e1]
              simp
            rw [e4]
            refine Stand.gap ?_ ?_
            · have e5 : a + (37 :: (r.takeWhile (fun x : UInt8 => decide (x ≠ 10)) ++ [10])).length = a + (1 + (r.takeWhile (fun x : UInt8 => decide (x ≠ 10))).length) + 1 := by simp; omega
              rw [e5]; exact hS
            · intro m hm
              rw [List.cons_append, silent_percent, List.append_assoc, silent_all hno, List.singleton_append, silent_nl]
              exact hm
        · by_cases h3 : beginsK b r = 0
          · rw [lexF_none h1 h2 h3] at hl; cases hl
          · by_cases h4 : wrongK (beginsK b r) (lenK (beginsK b r) r) b = 0
            · rw [lexF_tok h1 h2 h3 h4] at hl
              have hle := lenK_le (b := b) (r := r)
              have hpos := lenK_pos (beginsK b r) r
              cases hx : lexF (a + lenK (beginsK b r) r) (r.drop (lenK (beginsK b r) r - 1)) with
              | error e => rw [hx] at hl; cases hl
              | ok m =>
                rw [hx] at hl
                cases hl
                have hS := ih _ _ _ (by simp; omega) hx
                have hl2 : ((b :: r).take (lenK (beginsK b r) r)).length = lenK (beginsK b r) r := by rw [List.length_take]; simp; omega
                have e2 : (b :: r) = [] ++ ((b :: r).take (lenK (beginsK b r) r) ++ r.drop (lenK (beginsK b r) r - 1)) := by
                  rw [List.nil_append]
                  conv => lhs; rw [← List.take_append_drop (lenK (beginsK b r) r) (b :: r)]
                  congr 1
                  obtain ⟨q, hq⟩ : ∃ q, lenK (beginsK b r) r = q + 1 := ⟨lenK (beginsK b r) r - 1, by omega⟩
                  rw [hq]; simp
                have := Stand.tok a [] ((b :: r).take (lenK (beginsK b r) r)) (r.drop (lenK (beginsK b r) r - 1)) (beginsK b r) m rfl (by intro e; rw [e] at hl2; simp at hl2; omega) (begins_ne13 b r) (by rw [hl2]; simpa using hS)
                rw [← e2] at this
                simpa using this
            · rw [lexF_wrong h1 h2 h3 h4] at hl; cases hl
end Go.Proofs.YtbjfpfnfbgncnaaGreatDoor
