import Derived.Test.YtbjfpfnfbgncnaaGreatDoorM02
/- Terms read off tokens: by descent, as the document reads them, and by a stack; that these are one; no program in sight. -/
namespace Go.Proofs.YtbjfpfnfbgncnaaGreatDoor
set_option linter.unusedVariables false
/-- A symbol or variable that was read: its token, how many arguments it has. -/
structure Item where
  t : Tok
  args : Nat
/-- Terms with commas between, by a reader of one. -/
def argsF (p : List Tok → Except Nat (List Item × List Tok)) : Nat → List Tok → Except Nat (List Item × Nat × List Tok)
  | 0, _ => .error 0
  | n + 1, ts => match p ts with
    | .error e => .error e
    | .ok (is, []) => .ok (is, 1, [])
    | .ok (is, c :: r) => if c.kind = 6 then (match argsF p n r with
        | .error e => .error e
        | .ok (js, m, q) => .ok (is ++ js, m + 1, q))
      else .ok (is, 1, c :: r)
/-- A term; the place of the first token that cannot stand. -/
def termF : Nat → List Tok → Except Nat (List Item × List Tok)
  | 0, _ => .error 0
  | _ + 1, [] => .error 0
  | f + 1, t :: r =>
    if t.kind = 2 then .ok ([⟨t, 0⟩], r)
    else if t.kind = 1 then (match r with
      | [] => .ok ([⟨t, 0⟩], [])
      | o :: q => if o.kind = 4 then (match argsF (termF f) f q with
          | .error e => .error e
          | .ok (_, _, []) => .error 0
          | .ok (is, m, c :: u) => if c.kind = 5 then .ok (⟨t, m⟩ :: is, u) else .error c.at')
        else .ok ([⟨t, 0⟩], o :: q))
    else .error t.at'
def setArgs (m : Nat) (x : Item) : Item := ⟨x.t, m⟩
/-- The item of that number has so many arguments. -/
def putArgs (m : Nat) : Nat → List Item → List Item
  | _, [] => []
  | 0, x :: r => setArgs m x :: r
  | i + 1, x :: r => x :: putArgs m i r
/-- The same by a stack: of each symbol around, which item it is, and how many arguments were begun. b: a term is to come. -/
def goP : Bool → List (Nat × Nat) → List Item → List Tok → Except Nat (List Item × List Tok)
  | true, _, _, [] => .error 0
  | true, st, out, t :: r =>
    if t.kind = 2 then goP false st (out ++ [⟨t, 0⟩]) r
    else if t.kind = 1 then (match r with
      | [] => goP false st (out ++ [⟨t, 0⟩]) []
      | o :: q => if o.kind = 4 then goP true ((out.length, 1) :: st) (out ++ [⟨t, 0⟩]) q else goP false st (out ++ [⟨t, 0⟩]) (o :: q))
    else .error t.at'
  | false, [], out, ts => .ok (out, ts)
  | false, _ :: _, _, [] => .error 0
  | false, (i, m) :: st, out, c :: r =>
    if c.kind = 6 then goP true ((i, m + 1) :: st) out r
    else if c.kind = 5 then goP false st (putArgs m i out) r
    else .error c.at'
/-- What a term's reading is, by a stack: go on behind it. -/
def contT (st : List (Nat × Nat)) (out : List Item) : Except Nat (List Item × List Tok) → Except Nat (List Item × List Tok)
  | .error e => .error e
  | .ok (is, r) => goP false st (out ++ is) r
def contA (i m0 : Nat) (st : List (Nat × Nat)) (out : List Item) : Except Nat (List Item × Nat × List Tok) → Except Nat (List Item × List Tok)
  | .error e => .error e
  | .ok (is, m, r) => goP false ((i, m0 + m - 1) :: st) (out ++ is) r
/-- A reader of a term is what the stack does. -/
def Fits (f : Nat) : Prop := ∀ ts : List Tok, ts.length ≤ f → (∀ st out, goP true st out ts = contT st out (termF f ts)) ∧ ∀ is r, termF f ts = .ok (is, r) → r.length < ts.length
theorem args_go {f : Nat} (hf : Fits f) (n : Nat) : ∀ ts : List Tok, ts.length ≤ n → ts.length ≤ f →
    (∀ i m0 st out, goP true ((i, m0) :: st) out ts = contA i m0 st out (argsF (termF f) n ts)) ∧
    ∀ is m r, argsF (termF f) n ts = .ok (is, m, r) → r.length < ts.length ∧ 1 ≤ m ∧ ∀ c q, r = c :: q → c.kind ≠ 6 := by
  induction n with
  | zero =>
    intro ts h1 h2
    have : ts = [] := List.eq_nil_of_length_eq_zero (by omega)
    subst this
    exact ⟨fun i m0 st out => rfl, fun is m r h => by simp [argsF] at h⟩
  | succ n ih =>
    intro ts h1 h2
    obtain ⟨hg, hl⟩ := hf ts h2
    cases hx : termF f ts with
    | error e =>
      refine ⟨fun i m0 st out => ?_, fun is m r h => ?_⟩
      · rw [hg, hx]; simp only [argsF, hx]; rfl
      · simp only [argsF, hx] at h; cases h
    | ok v =>
      obtain ⟨is, r⟩ := v
      have hr := hl is r hx
      cases r with
      | nil =>
        refine ⟨fun i m0 st out => ?_, fun js m q h => ?_⟩
        · rw [hg, hx]; simp only [argsF, hx]; simp [contT, contA]
        · simp only [argsF, hx, Except.ok.injEq, Prod.mk.injEq] at h
          obtain ⟨rfl, rfl, rfl⟩ := h
          exact ⟨hr, by omega, fun c q e => by cases e⟩
      | cons c r =>
        simp only [List.length_cons] at hr
        by_cases hc : c.kind = 6
        · obtain ⟨ig, il⟩ := ih r (by omega) (by omega)
          cases hy : argsF (termF f) n r with
          | error e =>
            refine ⟨fun i m0 st out => ?_, fun js m q h => ?_⟩
            · rw [hg, hx]
              simp only [argsF, hx, if_pos hc, hy, contT, contA]
              rw [goP, if_pos hc, ig, hy]; rfl
            · simp only [argsF, hx, if_pos hc, hy] at h; cases h
          | ok v =>
            obtain ⟨js, m, q⟩ := v
            have hq := il js m q hy
            refine ⟨fun i m0 st out => ?_, fun js' m' q' h => ?_⟩
            · rw [hg, hx]
              simp only [argsF, hx, if_pos hc, hy, contT, contA]
              rw [goP, if_pos hc, ig, hy]
              simp only [contA, List.append_assoc]
              congr 3
              omega
            · simp only [argsF, hx, if_pos hc, hy, Except.ok.injEq, Prod.mk.injEq] at h
              obtain ⟨rfl, rfl, rfl⟩ := h
              exact ⟨by omega, by omega, hq.2.2⟩
        · refine ⟨fun i m0 st out => ?_, fun js m q h => ?_⟩
          · rw [hg, hx]
            simp only [argsF, hx, if_neg hc, contT, contA]
            congr 2
          · simp only [argsF, hx, if_neg hc, Except.ok.injEq, Prod.mk.injEq] at h
            obtain ⟨rfl, rfl, rfl⟩ := h
            exact ⟨by simp only [List.length_cons]; omega, by omega, fun c' q e => by cases e; exact hc⟩
theorem modify_mid (out : List Item) (x : Item) (is : List Item) (m : Nat) : putArgs m out.length (out ++ [x] ++ is) = out ++ (setArgs m x :: is) := by
  induction out with
  | nil => rfl
  | cons y out ih => simp only [List.cons_append, List.length_cons, putArgs]; rw [ih]
theorem goP_var {t : Tok} (h : t.kind = 2) (st : List (Nat × Nat)) (out : List Item) (r : List Tok) : goP true st out (t :: r) = goP false st (out ++ [⟨t, 0⟩]) r := by
  cases r <;> rw [goP, if_pos h]
theorem goP_bad {t : Tok} (h2 : t.kind ≠ 2) (h1 : t.kind ≠ 1) (st : List (Nat × Nat)) (out : List Item) (r : List Tok) : goP true st out (t :: r) = .error t.at' := by
  cases r <;> rw [goP, if_neg h2, if_neg h1]
theorem term_go (f : Nat) : Fits f := by
  induction f with
  | zero =>
    intro ts h
    have : ts = [] := List.eq_nil_of_length_eq_zero (by omega)
    subst this
    exact ⟨fun st out => rfl, fun is r h => by simp [termF] at h⟩
  | succ f ih =>
    intro ts h
    cases ts with
    | nil => exact ⟨fun st out => rfl, fun is r h => by simp [termF] at h⟩
    | cons t r =>
      simp only [List.length_cons] at h
      by_cases h2 : t.kind = 2
      · refine ⟨fun st out => ?_, fun is q e => ?_⟩
        · rw [goP_var h2]; simp only [termF, if_pos h2, contT]
        · simp only [termF, if_pos h2, Except.ok.injEq, Prod.mk.injEq] at e
          obtain ⟨_, rfl⟩ := e; simp
      · by_cases h1 : t.kind = 1
        · cases r with
          | nil =>
            refine ⟨fun st out => ?_, fun is q e => ?_⟩
            · rw [goP, if_neg h2, if_pos h1]; simp only [termF, if_neg h2, if_pos h1, contT]
            · simp only [termF, if_neg h2, if_pos h1, Except.ok.injEq, Prod.mk.injEq] at e
              obtain ⟨_, rfl⟩ := e; simp
          | cons o q =>
            simp only [List.length_cons] at h
            by_cases h4 : o.kind = 4
            · obtain ⟨ag, al⟩ := args_go ih f q (by omega) (by omega)
              cases hx : argsF (termF f) f q with
              | error e =>
                refine ⟨fun st out => ?_, fun is q' e' => ?_⟩
                · rw [goP, if_neg h2, if_pos h1]
                  simp only [if_pos h4, termF, if_neg h2, if_pos h1, hx, contT]
                  rw [ag, hx]; rfl
                · simp only [termF, if_neg h2, if_pos h1, if_pos h4, hx] at e'; cases e'
              | ok v =>
                obtain ⟨is, m, u⟩ := v
                obtain ⟨b1, b2, b3⟩ := al is m u hx
                have hm : 1 + m - 1 = m := by omega
                cases u with
                | nil =>
                  refine ⟨fun st out => ?_, fun is' q' e' => ?_⟩
                  · rw [goP, if_neg h2, if_pos h1]
                    simp only [if_pos h4, termF, if_neg h2, if_pos h1, hx, contT]
                    rw [ag, hx]; rfl
                  · simp only [termF, if_neg h2, if_pos h1, if_pos h4, hx] at e'; cases e'
                | cons c u =>
                  have hc6 := b3 c u rfl
                  by_cases h5 : c.kind = 5
                  · refine ⟨fun st out => ?_, fun is' q' e' => ?_⟩
                    · rw [goP, if_neg h2, if_pos h1]
                      simp only [if_pos h4, termF, if_neg h2, if_pos h1, hx, if_pos h5, contT]
                      rw [ag, hx]
                      simp only [contA]
                      rw [goP, if_neg hc6, if_pos h5, hm, modify_mid]; rfl
                    · simp only [termF, if_neg h2, if_pos h1, if_pos h4, hx, if_pos h5, Except.ok.injEq, Prod.mk.injEq] at e'
                      obtain ⟨_, rfl⟩ := e'
                      simp only [List.length_cons] at b1 ⊢; omega
                  · refine ⟨fun st out => ?_, fun is' q' e' => ?_⟩
                    · rw [goP, if_neg h2, if_pos h1]
                      simp only [if_pos h4, termF, if_neg h2, if_pos h1, hx, if_neg h5, contT]
                      rw [ag, hx]
                      simp only [contA]
                      rw [goP, if_neg hc6, if_neg h5]
                    · simp only [termF, if_neg h2, if_pos h1, if_pos h4, hx, if_neg h5] at e'; cases e'
            · refine ⟨fun st out => ?_, fun is q' e => ?_⟩
              · rw [goP, if_neg h2, if_pos h1]; simp only [if_neg h4, termF, if_neg h2, if_pos h1, contT]
              · simp only [termF, if_neg h2, if_pos h1, if_neg h4, Except.ok.injEq, Prod.mk.injEq] at e
                obtain ⟨_, rfl⟩ := e; simp
        · refine ⟨fun st out => ?_, fun is q e => ?_⟩
          · rw [goP_bad h2 h1]; simp only [termF, if_neg h2, if_neg h1, contT]
          · simp only [termF, if_neg h2, if_neg h1] at e; cases e
/-- So the fuel does not matter. -/
theorem termF_go {f : Nat} {ts : List Tok} (h : ts.length ≤ f) : termF f ts = goP true [] [] ts := by
  rw [(term_go f ts h).1 [] []]
  cases termF f ts with
  | error e => rfl
  | ok v => simp [contT, goP]
end Go.Proofs.YtbjfpfnfbgncnaaGreatDoor
/- A token alone, and tokens with blanks between, are cut the same; in plain words. -/
namespace Go.Proofs.YtbjfpfnfbgncnaaGreatDoor
set_option linter.unusedVariables false
theorem goes_sp (k : Nat) : goesB k 32 = false := by
  unfold goesB dgU smU grU dgB smB grB
  split
  · decide
  · split
    · decide
    · split
      · decide
      · rfl
theorem begins_8 {b : UInt8} {r : List UInt8} (h : beginsK b r = 8) : b = 45 ∧ r.head? = some 62 := by
  unfold beginsK at h
  by_cases c1 : smU b = true
  · simp [c1] at h
  · by_cases c2 : grU b = true
    · simp [c1, c2] at h
    · by_cases c3 : dgU b = true
      · simp [c1, c2, c3] at h
      · by_cases c4 : b = 45 ∧ r.head? = some 62
        · exact c4
        · exfalso
          simp only [c1, c2, c3, if_neg c4, Bool.false_eq_true, if_false] at h
          unfold markK at h
          repeat (split at h <;> try omega)
theorem begins_n8 {b : UInt8} {r r2 : List UInt8} (h0 : beginsK b r ≠ 0) (h : beginsK b r ≠ 8) : beginsK b r2 = beginsK b r := by
  have hb : b ≠ 45 := by
    intro e
    subst e
    unfold beginsK at h0 h
    have c1 : smU 45 = false := by decide
    have c2 : grU 45 = false := by decide
    have c3 : dgU 45 = false := by decide
    have c4 : markK 45 = 0 := by decide
    by_cases c5 : r.head? = some 62
    · simp [c1, c2, c3, c5] at h
    · simp [c1, c2, c3, c5, c4] at h0
  unfold beginsK
  simp [hb]
theorem takeWhile_sp {p : UInt8 → Bool} (hp : p 32 = false) (r s : List UInt8) : (r.takeWhile p ++ 32 :: s).takeWhile p = r.takeWhile p := by
  induction r with
  | nil => simp [hp]
  | cons x r ih =>
    rw [List.takeWhile_cons]
    split
    · rename_i hx
      rw [List.cons_append, List.takeWhile_cons, if_pos hx, ih]
    · simp [hp]
/-- A token's text, a blank behind it, is cut as that token. -/
def GoodTok (x : Tok) : Prop := ∀ (a : Nat) (s : List UInt8), lexF a (x.text ++ 32 :: s) = (lexF (a + x.text.length) (32 :: s)).map (fun l => ⟨x.kind, a, x.text⟩ :: l)
theorem retok {b : UInt8} {r : List UInt8} (q : Nat) (h1 : blankB b = false) (h2 : b ≠ 37) (h3 : beginsK b r ≠ 0) (h4 : wrongK (beginsK b r) (lenK (beginsK b r) r) b = 0) : GoodTok ⟨beginsK b r, q, (b :: r).take (lenK (beginsK b r) r)⟩ := by
  intro a s
  have hle := lenK_le (b := b) (r := r)
  have hpos := lenK_pos (beginsK b r) r
  obtain ⟨n, hn⟩ : ∃ n, lenK (beginsK b r) r = n + 1 := ⟨lenK (beginsK b r) r - 1, by omega⟩
  have hlen : (r.take n).length = n := by rw [List.length_take]; omega
  have hB : beginsK b (r.take n ++ 32 :: s) = beginsK b r ∧ lenK (beginsK b r) (r.take n ++ 32 :: s) = n + 1 := by
    by_cases h8 : beginsK b r = 8
    · obtain ⟨e1, e2⟩ := begins_8 h8
      have hn1 : n = 1 := by rw [h8] at hn; simp [lenK] at hn; omega
      subst hn1
      cases r with
      | nil => simp at e2
      | cons c r =>
        simp only [List.head?_cons, Option.some.injEq] at e2
        subst e1 e2
        refine ⟨?_, ?_⟩
        · simp [beginsK]
        · rw [h8]; simp [lenK]
    · refine ⟨begins_n8 h3 h8, ?_⟩
      have hn2 : n = (r.takeWhile (goesB (beginsK b r))).length := by
        have := hn; unfold lenK at this; rw [if_neg h8] at this; omega
      have ht : r.take n = r.takeWhile (goesB (beginsK b r)) := by
        rw [hn2]
        conv => lhs; arg 2; rw [← List.takeWhile_append_dropWhile (p := goesB (beginsK b r)) (l := r)]
        exact List.take_left
      unfold lenK
      rw [if_neg h8, ht, takeWhile_sp (goes_sp _), ← hn2]; omega
  obtain ⟨hB1, hB2⟩ := hB
  show lexF a ((b :: r).take (lenK (beginsK b r) r) ++ 32 :: s) = _
  rw [hn, List.take_succ_cons, List.cons_append]
  rw [lexF_tok h1 h2 (by rw [hB1]; exact h3) (by rw [hB1, hB2, ← hn]; exact h4), hB1, hB2]
  have e1 : (r.take n ++ 32 :: s).drop (n + 1 - 1) = 32 :: s := by
    rw [Nat.add_sub_cancel]
    conv => lhs; arg 1; rw [← hlen]
    exact List.drop_left
  have e2 : (b :: (r.take n ++ 32 :: s)).take (n + 1) = b :: r.take n := by
    rw [List.take_succ_cons]
    congr 1
    conv => lhs; arg 1; rw [← hlen]
    exact List.take_left
  rw [e1, e2]
  simp only [List.length_cons, hlen]
/-- All tokens but the last are good, and the last is the End. -/
def AllGood : List Tok → Prop
  | [] => False
  | x :: r => (r = [] ∧ x.kind = 13 ∧ x.text = []) ∨ (GoodTok x ∧ AllGood r)
theorem AllGood.last (a : Nat) : AllGood [⟨13, a, []⟩] := .inl ⟨rfl, rfl, rfl⟩
theorem AllGood.more (x : Tok) (l : List Tok) (h : GoodTok x) (hl : AllGood l) : AllGood (x :: l) := .inr ⟨h, hl⟩
theorem lexF_good (n : Nat) : ∀ (a : Nat) (t : List UInt8) (l : List Tok), t.length ≤ n → lexF a t = .ok l → AllGood l := by
  induction n with
  | zero =>
    intro a t l h hl
    have : t = [] := List.eq_nil_of_length_eq_zero (by omega)
    subst this
    rw [lexF_nil] at hl
    cases hl
    exact AllGood.last _
  | succ n ih =>
    intro a t l h hl
    cases t with
    | nil => rw [lexF_nil] at hl; cases hl; exact AllGood.last _
    | cons b r =>
      simp only [List.length_cons] at h
      by_cases h1 : blankB b = true
      · rw [lexF_blank h1] at hl; exact ih _ _ _ (by omega) hl
      · have h1 : blankB b = false := by simpa using h1
        by_cases h2 : b = 37
        · subst h2
          rw [lexF_comment] at hl
          have := (List.dropWhile_sublist (fun x : UInt8 => decide (x ≠ 10)) (l := r)).length_le
          exact ih _ _ _ (by omega) hl
        · by_cases h3 : beginsK b r = 0
          · rw [lexF_none h1 h2 h3] at hl; cases hl
          · by_cases h4 : wrongK (beginsK b r) (lenK (beginsK b r) r) b = 0
            · rw [lexF_tok h1 h2 h3 h4] at hl
              cases hx : lexF (a + lenK (beginsK b r) r) (r.drop (lenK (beginsK b r) r - 1)) with
              | error e => rw [hx] at hl; cases hl
              | ok m =>
                rw [hx] at hl; cases hl
                exact AllGood.more _ _ (retok a h1 h2 h3 h4) (ih _ _ _ (by simp; omega) hx)
            · rw [lexF_wrong h1 h2 h3 h4] at hl; cases hl
/-- Tokens' texts with a blank behind each. -/
def apartL : List Tok → List UInt8
  | [] => []
  | x :: l => x.text ++ 32 :: apartL l
/-- They are cut as the same, places aside. -/
theorem apart_same {l : List Tok} (h : AllGood l) : ∀ a, ∃ m, lexF a (apartL l) = .ok m ∧ m.map (fun x => (x.kind, x.text)) = l.map (fun x => (x.kind, x.text)) := by
  induction l with
  | nil => exact h.elim
  | cons x l ih =>
    intro a
    rcases h with ⟨rfl, h1, h2⟩ | ⟨hx, hl⟩
    · refine ⟨[⟨13, a + 1, []⟩], ?_, by simp [h1, h2]⟩
      show lexF a (x.text ++ 32 :: []) = _
      rw [h2, List.nil_append, lexF_blank (by decide), lexF_nil]
    · obtain ⟨m, hm, he⟩ := ih hl (a + x.text.length + 1)
      refine ⟨⟨x.kind, a, x.text⟩ :: m, ?_, ?_⟩
      · show lexF a (x.text ++ 32 :: apartL l) = _
        rw [hx a, lexF_blank (by decide), hm]; rfl
      · simp [he]
/-- Tokens alone: one of them, by itself. -/
theorem apart_scan {t : List UInt8} {l : List Tok} (h : scanL t = .ok l) (h2 : (apartL l).length ≤ 20000) : ∃ m, scanL (apartL l) = .ok m ∧ m.map (fun x => (x.kind, x.text)) = l.map (fun x => (x.kind, x.text)) := by
  unfold scanL at h ⊢
  split at h
  · cases h
  · rw [if_neg (by omega)]
    exact apart_same (lexF_good _ _ _ _ (Nat.le_refl _) h) 0
end Go.Proofs.YtbjfpfnfbgncnaaGreatDoor
/- Texts that are laid of tokens, with what says nothing between, are cut into these tokens; no program in sight. -/
namespace Go.Proofs.YtbjfpfnfbgncnaaGreatDoor
set_option linter.unusedVariables false
/-- A token's kind and bytes, as the document has them. -/
def IsTok (k : Nat) (text : List UInt8) : Prop := ∃ b r, text = b :: r ∧ blankB b = false ∧ b ≠ 37 ∧ beginsK b r = k ∧ k ≠ 0 ∧ lenK k r = r.length + 1 ∧ wrongK k (r.length + 1) b = 0
/-- What comes behind a token of that kind does not go on with it. -/
def Stops (k : Nat) (s : List UInt8) : Prop := ∀ b, s.head? = some b → goesB k b = false
theorem takeWhile_stops {P : UInt8 → Bool} {r s : List UInt8} (hr : ∀ x ∈ r, P x = true) (hs : ∀ b, s.head? = some b → P b = false) : (r ++ s).takeWhile P = r := by
  induction r with
  | nil =>
    cases s with
    | nil => rfl
    | cons b s => rw [List.nil_append, List.takeWhile_cons, if_neg (by rw [hs b rfl]; simp)]
  | cons x r ih =>
    rw [List.cons_append, List.takeWhile_cons, if_pos (hr x (by simp)), ih (fun y hy => hr y (by simp [hy]))]
theorem all_of_len {P : UInt8 → Bool} {r : List UInt8} (h : (r.takeWhile P).length = r.length) : ∀ x ∈ r, P x = true := by
  induction r with
  | nil => intro x hx; simp at hx
  | cons y r ih =>
    rw [List.takeWhile_cons] at h
    split at h
    · rename_i hy
      intro x hx
      rcases List.mem_cons.1 hx with rfl | hx
      · exact hy
      · exact ih (by simpa using h) x hx
    · simp at h
/-- A token at a text's head is cut off. -/
theorem lex_cut {k : Nat} {text s : List UInt8} (h : IsTok k text) (hs : Stops k s) (a : Nat) : lexF a (text ++ s) = (lexF (a + text.length) s).map (fun l => ⟨k, a, text⟩ :: l) := by
  obtain ⟨b, r, rfl, h1, h2, h3, h4, h5, h6⟩ := h
  have hB : beginsK b (r ++ s) = k ∧ lenK k (r ++ s) = r.length + 1 := by
    by_cases h8 : k = 8
    · subst h8
      obtain ⟨e1, e2⟩ := begins_8 h3
      cases r with
      | nil => simp at e2
      | cons c r =>
        simp only [List.head?_cons, Option.some.injEq] at e2
        subst e1 e2
        exact ⟨by simp [beginsK]; decide, by simp [lenK] at h5 ⊢; omega⟩
    · refine ⟨by rw [begins_n8 (r := r) (by rw [h3]; exact h4) (by rw [h3]; exact h8), h3], ?_⟩
      unfold lenK at h5 ⊢
      rw [if_neg h8] at h5 ⊢
      rw [takeWhile_stops (all_of_len (by omega)) hs]
      omega
  obtain ⟨hB1, hB2⟩ := hB
  rw [List.cons_append, lexF_tok h1 h2 (by rw [hB1]; exact h4) (by rw [hB1, hB2]; exact h6), hB1, hB2]
  have e1 : (r ++ s).drop (r.length + 1 - 1) = s := by rw [Nat.add_sub_cancel]; exact List.drop_left
  have e2 : (b :: (r ++ s)).take (r.length + 1) = b :: r := by rw [List.take_succ_cons, List.take_left]
  rw [e1, e2]; rfl
/-- A piece that says nothing, whatever comes behind it. -/
def Gap (g : List UInt8) : Prop := ∀ a s, lexF a (g ++ s) = lexF (a + g.length) s
theorem gap_nil : Gap [] := fun a s => rfl
theorem gap_blank {b : UInt8} {g : List UInt8} (hb : blankB b = true) (h : Gap g) : Gap (b :: g) := by
  intro a s
  rw [List.cons_append, lexF_blank hb, h, List.length_cons]
  congr 1; omega
/-- A comment that a line feed ends. -/
theorem gap_comment {c g : List UInt8} (hc : ∀ x ∈ c, x ≠ 10) (h : Gap g) : Gap (37 :: (c ++ 10 :: g)) := by
  intro a s
  have e1 : (c ++ 10 :: g ++ s).takeWhile (fun x : UInt8 => decide (x ≠ 10)) = c := by
    rw [List.append_assoc, takeWhile_stops (fun x hx => by simpa using hc x hx) (fun b hb => by simp at hb; subst hb; rfl)]
  have e2 : (c ++ 10 :: g ++ s).dropWhile (fun x : UInt8 => decide (x ≠ 10)) = 10 :: (g ++ s) := by
    have := List.takeWhile_append_dropWhile (p := fun x : UInt8 => decide (x ≠ 10)) (l := c ++ 10 :: g ++ s)
    rw [e1] at this
    have e3 : c ++ 10 :: g ++ s = c ++ (10 :: (g ++ s)) := by simp
    conv at this => rhs; rw [e3]
    exact List.append_cancel_left this
  rw [List.cons_append, lexF_comment, e1, e2, lexF_blank (by decide), h]
  congr 1
  simp; omega
/-- Texts laid of tokens, each with a gap ahead of it. -/
def layT : List (List UInt8 × Nat × List UInt8) → List UInt8
  | [] => []
  | (g, _, t) :: r => g ++ (t ++ layT r)
/-- Each is a token, and none goes on with the next one. -/
def LayOk (e : List UInt8) : List (List UInt8 × Nat × List UInt8) → Prop
  | [] => True
  | (g, k, t) :: r => Gap g ∧ IsTok k t ∧ Stops k (layT r ++ e) ∧ LayOk e r
/-- They are cut into these tokens, and the End. -/
theorem lex_lay {e : List UInt8} (he : Gap e) : ∀ {cs : List (List UInt8 × Nat × List UInt8)}, LayOk e cs → ∀ a, ∃ l, lexF a (layT cs ++ e) = .ok l ∧ l.map (fun x => (x.kind, x.text)) = cs.map (fun c => (c.2.1, c.2.2)) ++ [(13, [])] := by
  intro cs
  induction cs with
  | nil =>
    intro h a
    refine ⟨[⟨13, a + e.length, []⟩], ?_, rfl⟩
    have := he a []
    rw [List.append_nil] at this
    rw [layT, List.nil_append, this, lexF_nil]
  | cons c r ih =>
    intro h a
    obtain ⟨g, k, t⟩ := c
    obtain ⟨h1, h2, h3, h4⟩ := h
    obtain ⟨l, hl, hm⟩ := ih h4 (a + g.length + t.length)
    refine ⟨⟨k, a + g.length, t⟩ :: l, ?_, ?_⟩
    · rw [layT, List.append_assoc, h1, List.append_assoc, lex_cut h2 h3, hl]; rfl
    · simp [hm]
end Go.Proofs.YtbjfpfnfbgncnaaGreatDoor
