import Derived.Test.YtbjfpfnfbgncnaaGreatDoorM06
import Derived.Test.YtbjfpfnfbgncnaaGreatDoorM07
import Derived.Test.YtbjfpfnfbgncnaaGreatDoorM08
/- Terms that are written, as tokens, and that they are read as they were; no program in sight. -/
namespace Go.Proofs.YtbjfpfnfbgncnaaGreatDoor
set_option linter.unusedVariables false
def kt (x : Tok) : Nat × List UInt8 := (x.kind, x.text)
def nameOf (L : List Sym) (x : Int) : List UInt8 := match L[x.toNat]? with | some y => y.name.data.toList | none => []
/-- What a number of a term is read as. -/
def itemOf (L : List Sym) (x : Int) : (Nat × List UInt8) × Nat := if x < 0 then ((2, 88 :: Lib.decDigits (-x).toNat), 0) else ((1, nameOf L x), arN L x)
def ikt (i : Item) : (Nat × List UInt8) × Nat := (kt i.t, i.args)
/-- What is written behind an argument: a comma, or brackets that are shut; and of each symbol around how many arguments must come yet. -/
def shutT : List Nat → List (Nat × List UInt8) × List Nat
  | [] => ([], [])
  | n :: st => if 1 < n then ([(6, [44])], (n - 1) :: st) else ((5, [41]) :: (shutT st).1, (shutT st).2)
/-- The tokens of terms, within symbols of which so many arguments must come yet. -/
def toldT (L : List Sym) : List Nat → List Int → List (Nat × List UInt8)
  | _, [] => []
  | st, x :: r =>
    if x < 0 then (2, 88 :: Lib.decDigits (-x).toNat) :: ((shutT st).1 ++ toldT L (shutT st).2 r)
    else if 0 < arN L x then (1, nameOf L x) :: (4, [40]) :: toldT L (arN L x :: st) r
    else (1, nameOf L x) :: ((shutT st).1 ++ toldT L (shutT st).2 r)
/-- How many terms are lacking. -/
def lack : List Nat → Nat
  | [] => 1
  | n :: st => n + (lack st - 1)
theorem lack_pos {st : List Nat} (h : ∀ n ∈ st, 1 ≤ n) : 1 ≤ lack st := by
  cases st with
  | nil => simp [lack]
  | cons n st => have := h n (by simp); simp [lack]; omega
theorem shut_lack {st : List Nat} (h : ∀ n ∈ st, 1 ≤ n) (hl : 1 < lack st) : (∀ n ∈ (shutT st).2, 1 ≤ n) ∧ lack (shutT st).2 = lack st - 1 ∧ ∀ q, shutT (st ++ q) = ((shutT st).1, (shutT st).2 ++ q) := by
  induction st with
  | nil => simp [lack] at hl
  | cons n st ih =>
    have hn := h n (by simp)
    have hs : ∀ m ∈ st, 1 ≤ m := fun m hm => h m (by simp [hm])
    simp only [lack] at hl
    by_cases h1 : 1 < n
    · refine ⟨?_, ?_, fun q => ?_⟩
      · intro m hm
        simp only [shutT, if_pos h1] at hm
        rcases List.mem_cons.1 hm with rfl | hm
        · omega
        · exact hs m hm
      · simp only [shutT, if_pos h1, lack]; omega
      · simp only [List.cons_append, shutT, if_pos h1]
    · have hn1 : n = 1 := by omega
      obtain ⟨i1, i2, i3⟩ := ih hs (by omega)
      refine ⟨?_, ?_, fun q => ?_⟩
      · simp only [shutT, if_neg h1]; exact i1
      · simp only [shutT, if_neg h1, lack, i2]; omega
      · simp only [List.cons_append, shutT, if_neg h1, i3]
theorem shut_last {st : List Nat} (h : ∀ n ∈ st, 1 ≤ n) (hl : lack st = 1) : (shutT st).2 = [] ∧ ∀ q, shutT (st ++ q) = ((shutT st).1 ++ (shutT q).1, (shutT q).2) := by
  induction st with
  | nil => exact ⟨rfl, fun q => by simp [shutT]⟩
  | cons n st ih =>
    have hn := h n (by simp)
    have hs : ∀ m ∈ st, 1 ≤ m := fun m hm => h m (by simp [hm])
    have hp := lack_pos hs
    simp only [lack] at hl
    have h1 : ¬ 1 < n := by omega
    obtain ⟨i1, i2⟩ := ih hs (by omega)
    refine ⟨by simp only [shutT, if_neg h1]; exact i1, fun q => ?_⟩
    simp only [List.cons_append, shutT, if_neg h1, i2]
theorem ar_neg {L : List Sym} {x : Int} (h : x < 0) : arN L x = 0 := by unfold arN; rw [if_pos h]
theorem need_zero {L : List Sym} {t : List Int} (h : need L 0 t = some 0) : t = [] := by cases t with | nil => rfl | cons x r => simp [need] at h
/-- What is written of a term does not hang on what stands around it. -/
theorem told_around {L : List Sym} {y : List Int} : ∀ {s0 : List Nat}, (∀ n ∈ s0, 1 ≤ n) → need L (lack s0) y = some 0 → ∀ (st : List Nat) (rest : List Int),
    toldT L (s0 ++ st) (y ++ rest) = toldT L s0 y ++ ((shutT st).1 ++ toldT L (shutT st).2 rest) := by
  induction y with
  | nil =>
    intro s0 h hn
    have := lack_pos h
    simp [need] at hn; omega
  | cons x y ih =>
    intro s0 h hn st rest
    have hp := lack_pos h
    obtain ⟨k, hk⟩ : ∃ k, lack s0 = k + 1 := ⟨lack s0 - 1, by omega⟩
    rw [hk] at hn
    simp only [need] at hn
    have leaf : arN L x = 0 → (shutT (s0 ++ st)).1 ++ toldT L (shutT (s0 ++ st)).2 (y ++ rest) = (shutT s0).1 ++ toldT L (shutT s0).2 y ++ ((shutT st).1 ++ toldT L (shutT st).2 rest) := by
      intro ha
      rw [ha, Nat.add_zero] at hn
      by_cases hk0 : k = 0
      · subst hk0
        have hy := need_zero hn
        subst hy
        obtain ⟨e1, e2⟩ := shut_last h hk
        rw [e2, e1]
        simp [toldT]
      · obtain ⟨e1, e2, e3⟩ := shut_lack h (by omega)
        rw [e3, ih e1 (by rw [e2, hk]; exact hn)]
        simp
    rw [List.cons_append]
    simp only [toldT]
    by_cases h0 : x < 0
    · rw [if_pos h0, if_pos h0, leaf (ar_neg h0)]; simp
    · rw [if_neg h0, if_neg h0]
      by_cases ha : 0 < arN L x
      · rw [if_pos ha, if_pos ha]
        have hs : ∀ n ∈ arN L x :: s0, 1 ≤ n := fun n hm => by
          rcases List.mem_cons.1 hm with rfl | hm
          · exact ha
          · exact h n hm
        have := ih hs (by simp only [lack, hk]; rw [show arN L x + (k + 1 - 1) = k + arN L x by omega]; exact hn) st rest
        rw [List.cons_append] at this
        rw [this]; simp
      · rw [if_neg ha, if_neg ha, leaf (by omega)]; simp
theorem told_term {L : List Sym} {y : List Int} (h : IsT L y) (st : List Nat) (rest : List Int) : toldT L st (y ++ rest) = toldT L [] y ++ ((shutT st).1 ++ toldT L (shutT st).2 rest) :=
  told_around (s0 := []) (by simp) h st rest
theorem told_ne {L : List Sym} {x : Int} {r : List Int} {st : List Nat} : ∃ c q, toldT L st (x :: r) = c :: q := by
  simp only [toldT]
  split
  · exact ⟨_, _, rfl⟩
  · split <;> exact ⟨_, _, rfl⟩
/-- What is written is read. -/
def Back (L : List Sym) (f : Nat) : Prop := ∀ (t : List Int) (ts : List Tok) (R : List (Nat × List UInt8)), IsT L t → ts.map kt = toldT L [] t ++ R → (∀ c, R.head? = some c → c.1 ≠ 4) → ts.length ≤ f →
  ∃ is r, termF f ts = .ok (is, r) ∧ is.map ikt = t.map (itemOf L) ∧ r.map kt = R
theorem args_back {L : List Sym} {f : Nat} (hf : Back L f) (n : Nat) : ∀ (k : Nat) (ys : List Int) (q : List Tok) (R : List (Nat × List UInt8)), 1 ≤ k → need L k ys = some 0 → q.map kt = toldT L [k] ys ++ R → q.length ≤ n → q.length ≤ f →
    ∃ is r, argsF (termF f) n q = .ok (is, k, r) ∧ is.map ikt = ys.map (itemOf L) ∧ r.map kt = (5, [41]) :: R := by
  induction n with
  | zero =>
    intro k ys q R hk hn hq hl _
    have hq0 : q = [] := List.eq_nil_of_length_eq_zero (by omega)
    subst hq0
    cases ys with
    | nil => simp [need] at hn; omega
    | cons x r =>
      obtain ⟨c, u, e⟩ := told_ne (L := L) (x := x) (r := r) (st := [k])
      rw [e] at hq; simp at hq
  | succ n ih =>
    intro k ys q R hk hn hq hl hlf
    obtain ⟨m, h1, h2, h3⟩ := need_split (a := 1) (b := k - 1) (by rw [show 1 + (k - 1) = k by omega]; exact hn)
    obtain ⟨h4, h5⟩ := scan_need h1
    have hy : ys = ys.take m ++ ys.drop m := (List.take_append_drop m ys).symm
    have ht : IsT L (ys.take m) := h5
    have htold : toldT L [k] ys = toldT L [] (ys.take m) ++ ((shutT [k]).1 ++ toldT L (shutT [k]).2 (ys.drop m)) := by
      conv => lhs; rw [hy]
      exact told_term ht _ _
    by_cases hk1 : k = 1
    · subst hk1
      have hd := need_zero h3
      have es : shutT [1] = ([(5, [41])], []) := by simp [shutT]
      rw [htold, es, hd] at hq
      simp only [toldT, List.append_nil, List.append_assoc, List.singleton_append] at hq
      obtain ⟨is, r, e1, e2, e3⟩ := hf (ys.take m) q ((5, [41]) :: R) ht hq (fun c hc => by simp at hc; subst hc; simp) hlf
      have hall : ys.take m = ys := by conv => rhs; rw [hy, hd, List.append_nil]
      cases r with
      | nil => simp at e3
      | cons c r =>
        have hc : c.kind ≠ 6 := by
          have := (List.cons.inj e3).1
          simp [kt] at this
          omega
        refine ⟨is, c :: r, ?_, by rw [e2, hall], e3⟩
        simp only [argsF, e1, if_neg hc]
    · have es : shutT [k] = ([(6, [44])], [k - 1]) := by simp [shutT]; omega
      rw [htold, es] at hq
      simp only [List.append_assoc, List.cons_append, List.nil_append] at hq
      obtain ⟨is, r, e1, e2, e3⟩ := hf (ys.take m) q ((6, [44]) :: (toldT L [k - 1] (ys.drop m) ++ R)) ht hq (fun c hc => by simp at hc; subst hc; simp) hlf
      have hlr := (term_go f q hlf).2 is r e1
      cases r with
      | nil => simp at e3
      | cons c r =>
        rw [List.map_cons, List.cons.injEq] at e3
        have hc : c.kind = 6 := by
          have := e3.1
          simp [kt] at this
          omega
        simp only [List.length_cons] at hlr
        obtain ⟨js, u, g1, g2, g3⟩ := ih (k - 1) (ys.drop m) r R (by omega) h3 e3.2 (by omega) (by omega)
        refine ⟨is ++ js, u, ?_, ?_, g3⟩
        · simp only [argsF, e1, if_pos hc, g1]
          congr 3
          omega
        · rw [List.map_append, e2, g2, ← List.map_append, ← hy]
theorem term_back (L : List Sym) (f : Nat) : Back L f := by
  induction f with
  | zero =>
    intro t ts R ht hts _ hl
    have h0 : ts = [] := List.eq_nil_of_length_eq_zero (by omega)
    subst h0
    cases t with
    | nil => simp [IsT, need] at ht
    | cons x r =>
      obtain ⟨c, u, e⟩ := told_ne (L := L) (x := x) (r := r) (st := [])
      rw [e] at hts; simp at hts
  | succ f ih =>
    intro t ts R ht hts hR hl
    cases t with
    | nil => simp [IsT, need] at ht
    | cons x ys =>
      have hn : need L (0 + arN L x) ys = some 0 := ht
      rw [Nat.zero_add] at hn
      cases ts with
      | nil =>
        obtain ⟨c, u, e⟩ := told_ne (L := L) (x := x) (r := ys) (st := [])
        rw [e] at hts; simp at hts
      | cons a r =>
        simp only [List.length_cons] at hl
        by_cases h0 : x < 0
        · have ha := ar_neg (L := L) h0
          rw [ha] at hn
          have hy := need_zero hn
          subst hy
          simp only [toldT, if_pos h0, shutT, List.nil_append, List.cons_append, List.map_cons, List.cons.injEq] at hts
          obtain ⟨e1, e2⟩ := hts
          have hk : a.kind = 2 := by simp [kt] at e1; exact e1.1
          refine ⟨[⟨a, 0⟩], r, by simp only [termF, if_pos hk], ?_, e2⟩
          simp only [List.map_cons, List.map_nil, ikt, itemOf, if_pos h0, e1]
        · by_cases ha : 0 < arN L x
          · simp only [toldT, if_neg h0, if_pos ha, List.cons_append, List.map_cons, List.cons.injEq] at hts
            obtain ⟨e1, e2⟩ := hts
            have hk : a.kind = 1 := by simp [kt] at e1; exact e1.1
            have hk2 : ¬ a.kind = 2 := by omega
            cases r with
            | nil => simp at e2
            | cons o q =>
              rw [List.map_cons, List.cons.injEq] at e2
              obtain ⟨e2, e3⟩ := e2
              have ho : o.kind = 4 := by simp [kt] at e2; exact e2.1
              simp only [List.length_cons] at hl
              obtain ⟨is, u, g1, g2, g3⟩ := args_back ih f (arN L x) ys q R ha hn e3 (by omega) (by omega)
              cases u with
              | nil => simp at g3
              | cons c u =>
                rw [List.map_cons, List.cons.injEq] at g3
                have hc : c.kind = 5 := by have := g3.1; simp [kt] at this; exact this.1
                refine ⟨⟨a, arN L x⟩ :: is, u, ?_, ?_, g3.2⟩
                · simp only [termF, if_neg hk2, if_pos hk, if_pos ho, g1, if_pos hc]
                · simp only [List.map_cons, g2, ikt, itemOf, if_neg h0, e1]
          · have ha0 : arN L x = 0 := by omega
            rw [ha0] at hn
            have hy := need_zero hn
            subst hy
            simp only [toldT, if_neg h0, if_neg ha, shutT, List.nil_append, List.cons_append, List.map_cons, List.cons.injEq] at hts
            obtain ⟨e1, e2⟩ := hts
            have hk : a.kind = 1 := by simp [kt] at e1; exact e1.1
            have hk2 : ¬ a.kind = 2 := by omega
            refine ⟨[⟨a, 0⟩], r, ?_, ?_, e2⟩
            · cases r with
              | nil => simp only [termF, if_neg hk2, if_pos hk]
              | cons o q =>
                have ho : o.kind ≠ 4 := hR (kt o) (by rw [← e2]; rfl)
                simp only [termF, if_neg hk2, if_pos hk, if_neg ho]
            · simp only [List.map_cons, List.map_nil, ikt, itemOf, if_neg h0, e1, ha0]
end Go.Proofs.YtbjfpfnfbgncnaaGreatDoor
/- The text of a term is cut into its tokens, and read as it was; no program in sight. -/
namespace Go.Proofs.YtbjfpfnfbgncnaaGreatDoor
set_option linter.unusedVariables false
def chunk (c : Nat × List UInt8) : List UInt8 × Nat × List UInt8 := ([], c.1, c.2)
def isSign (c : Nat × List UInt8) : Prop := c = (6, [44]) ∨ c = (5, [41])
theorem shut_signs (st : List Nat) : ∀ c ∈ (shutT st).1, isSign c := by
  induction st with
  | nil => intro c hc; simp [shutT] at hc
  | cons n st ih =>
    intro c hc
    simp only [shutT] at hc
    split at hc
    · exact .inl (List.mem_singleton.1 hc)
    · rcases List.mem_cons.1 hc with rfl | hc
      · exact .inr rfl
      · exact ih c hc
theorem shut_some {st : List Nat} (h : st ≠ []) : ∃ c q, (shutT st).1 = c :: q := by
  cases st with
  | nil => exact absurd rfl h
  | cons n st => simp only [shutT]; split <;> exact ⟨_, _, rfl⟩
theorem sign_stops {c : Nat × List UInt8} (h : isSign c) (k : Nat) (cs : List (List UInt8 × Nat × List UInt8)) (e : List UInt8) : Stops k (layT (chunk c :: cs) ++ e) := by
  rcases h with rfl | rfl
  · exact stops_at (b := 44) (by decide)
  · exact stops_at (b := 41) (by decide)
theorem signs_ok {e : List UInt8} {rest : List (List UInt8 × Nat × List UInt8)} (hr : LayOk e rest) : ∀ {cs : List (Nat × List UInt8)}, (∀ c ∈ cs, isSign c) → LayOk e (cs.map chunk ++ rest) := by
  intro cs
  induction cs with
  | nil => intro _; exact hr
  | cons c cs ih =>
    intro h
    have hi := ih (fun d hd => h d (by simp [hd]))
    rcases h c (by simp) with rfl | rfl
    · exact ⟨gap_nil, sign_tok.2.2.1, stops_sign (by omega) _, hi⟩
    · exact ⟨gap_nil, sign_tok.2.1, stops_sign (by omega) _, hi⟩
/-- All names of the symbols are names. -/
def NamesOk (L : List Sym) : Prop := ∀ x ∈ L, NameP x.name
theorem name_of_tok {L : List Sym} (h : NamesOk L) {x : Int} (h0 : ¬ x < 0) (h1 : x < (L.length : Int)) : IsTok 1 (nameOf L x) := by
  have hlt : x.toNat < L.length := by omega
  unfold nameOf
  rw [List.getElem?_eq_getElem hlt]
  exact name_tok (h _ (List.getElem_mem hlt))
/-- What is written of terms is laid of tokens. -/
theorem told_ok {L : List Sym} (hL : NamesOk L) {e : List UInt8} (he : ∀ k, Stops k e) {t : List Int} : ∀ {st : List Nat}, (∀ n ∈ st, 1 ≤ n) → need L (lack st) t = some 0 → (∀ x ∈ t, x < (L.length : Int) ∧ -99 ≤ x) → LayOk e ((toldT L st t).map chunk) := by
  induction t with
  | nil => intro st _ _ _; exact True.intro
  | cons x t ih =>
    intro st h hn hx
    have hp := lack_pos h
    obtain ⟨k, hk⟩ : ∃ k, lack st = k + 1 := ⟨lack st - 1, by omega⟩
    rw [hk] at hn
    simp only [need] at hn
    have hx0 := hx x (by simp)
    have hxs : ∀ y ∈ t, y < (L.length : Int) ∧ -99 ≤ y := fun y hy => hx y (by simp [hy])
    have leaf : arN L x = 0 → ∀ c : Nat × List UInt8, IsTok c.1 c.2 → LayOk e ((c :: ((shutT st).1 ++ toldT L (shutT st).2 t)).map chunk) := by
      intro ha c hc
      rw [ha, Nat.add_zero] at hn
      rw [List.map_cons, List.map_append]
      have hrest : LayOk e ((toldT L (shutT st).2 t).map chunk) := by
        by_cases hk0 : k = 0
        · subst hk0
          rw [need_zero hn]; exact True.intro
        · obtain ⟨e1, e2, _⟩ := shut_lack h (by omega)
          exact ih e1 (by rw [e2, hk]; exact hn) hxs
      refine ⟨gap_nil, hc, ?_, signs_ok hrest (shut_signs st)⟩
      by_cases hs : st = []
      · subst hs
        have hk0 : k = 0 := by simp [lack] at hk; omega
        subst hk0
        rw [need_zero hn]
        exact he _
      · obtain ⟨d, q, hd⟩ := shut_some hs
        have hsg := shut_signs st d (by rw [hd]; simp)
        rw [hd, List.map_cons, List.cons_append]
        exact sign_stops hsg _ _ _
    simp only [toldT]
    by_cases h0 : x < 0
    · rw [if_pos h0]
      refine leaf (ar_neg h0) _ (var_tok ?_)
      have : (-x).toNat ≤ 99 := by omega
      omega
    · rw [if_neg h0]
      by_cases ha : 0 < arN L x
      · rw [if_pos ha]
        have hs : ∀ n ∈ arN L x :: st, 1 ≤ n := fun n hm => by
          rcases List.mem_cons.1 hm with rfl | hm
          · exact ha
          · exact h n hm
        have hi := ih hs (by simp only [lack, hk]; rw [show arN L x + (k + 1 - 1) = k + arN L x by omega]; exact hn) hxs
        refine ⟨gap_nil, name_of_tok hL h0 hx0.1, ?_, gap_nil, sign_tok.1, stops_sign (by omega) _, hi⟩
        exact stops_at (b := 40) (by decide)
      · rw [if_neg ha]
        exact leaf (by omega) _ (name_of_tok hL h0 hx0.1)
/-- The text of a term. -/
def toldB (L : List Sym) (t : List Int) : List UInt8 := layT ((toldT L [] t).map chunk)
theorem map_chunk (cs : List (Nat × List UInt8)) : (cs.map chunk).map (fun c => (c.2.1, c.2.2)) = cs := by
  induction cs with
  | nil => rfl
  | cons c cs ih => rw [List.map_cons, List.map_cons, ih]; rfl
/-- What is written of a term is read as it was. -/
theorem text_back {L : List Sym} (hL : NamesOk L) {t : List Int} (ht : checkE L t = 0) : ∃ l, lexF 0 (toldB L t) = .ok l ∧ ∀ f, l.length ≤ f → ∃ is r, termF f l = .ok (is, r) ∧ is.map ikt = t.map (itemOf L) ∧ r.map kt = [(13, [])] := by
  obtain ⟨_, hb, hT⟩ := checkE_zero.1 ht
  obtain ⟨l, hl, hm⟩ := lex_lay gap_nil (told_ok (e := []) hL stops_nil (st := []) (by simp) hT (badE_zero.1 hb)) 0
  rw [List.append_nil] at hl
  rw [map_chunk] at hm
  exact ⟨l, hl, fun f hf => term_back L f t l [(13, [])] hT hm (fun c hc => by simp at hc; subst hc; simp) hf⟩
end Go.Proofs.YtbjfpfnfbgncnaaGreatDoor
/- Variables and Plain in plain words. -/
namespace Go.Proofs.YtbjfpfnfbgncnaaGreatDoor
set_option linter.unusedVariables false
def vstep (o : List Int) (x : Int) : List Int := if isV x = true ∧ ¬ (-x) ∈ o then o ++ [-x] else o
/-- The variables met, when those of o were met before. -/
def vs (o : List Int) (t : List Int) : List Int := t.foldl vstep o
def varsL (t : List Int) : List Int := vs [] t
theorem vs_nil (o : List Int) : vs o [] = o := rfl
theorem vs_append (o a b : List Int) : vs o (a ++ b) = vs (vs o a) b := by simp [vs]
theorem vs_snoc (o a : List Int) (x : Int) : vs o (a ++ [x]) = vstep (vs o a) x := by simp [vs]
theorem vs_take {o t : List Int} {k : Nat} (h : k < t.length) : vs o (t.take (k + 1)) = vstep (vs o (t.take k)) t[k] := by
  rw [List.take_add_one, List.getElem?_eq_getElem h]; exact vs_snoc _ _ _
theorem isV_iff {x : Int} : isV x = true ↔ -99 ≤ x ∧ x ≤ -1 := by simp [isV]
theorem vstep_sub (o : List Int) (x : Int) : o <+: vstep o x := by
  unfold vstep
  split
  · exact List.prefix_append _ _
  · exact List.prefix_refl _
theorem vs_sub (o t : List Int) : o <+: vs o t := by
  induction t generalizing o with
  | nil => exact List.prefix_refl _
  | cons x r ih => exact (vstep_sub o x).trans (ih (vstep o x))
/-- Each a variable's, none twice. -/
def Neat (o : List Int) : Prop := o.Nodup ∧ ∀ v ∈ o, 1 ≤ v ∧ v ≤ 99
theorem neat_nil : Neat [] := ⟨List.nodup_nil, by simp⟩
theorem neat_step {o : List Int} (h : Neat o) (x : Int) : Neat (vstep o x) := by
  unfold vstep
  split
  · rename_i hx
    refine ⟨?_, ?_⟩
    · rw [List.nodup_append]
      exact ⟨h.1, by simp, fun a ha b hb => by simp at hb; subst hb; intro e; subst e; exact hx.2 ha⟩
    · intro v hv
      rcases List.mem_append.1 hv with hv | hv
      · exact h.2 v hv
      · simp at hv; have := isV_iff.1 hx.1; omega
  · exact h
theorem neat_vs {o : List Int} (h : Neat o) (t : List Int) : Neat (vs o t) := by
  induction t generalizing o with
  | nil => exact h
  | cons x r ih => exact ih (neat_step h x)
theorem vs_mem {o t : List Int} {x : Int} (hx : x ∈ t) (hv : isV x = true) : -x ∈ vs o t := by
  induction t generalizing o with
  | nil => simp at hx
  | cons y r ih =>
    rcases List.mem_cons.1 hx with rfl | hx
    · have h1 : -x ∈ vstep o x := by
        unfold vstep
        split
        · simp
        · rename_i h; simp [hv] at h; exact h
      exact (vs_sub (vstep o x) r).subset h1
    · exact ih hx
theorem vs_len (o t : List Int) : (vs o t).length ≤ o.length + t.length := by
  induction t generalizing o with
  | nil => simp [vs]
  | cons x r ih =>
    have := ih (vstep o x)
    have h2 : (vstep o x).length ≤ o.length + 1 := by unfold vstep; split <;> simp
    simp only [vs, List.foldl_cons, List.length_cons] at *
    omega
/-- The variables of a list, taken alone, say as much as the list. -/
theorem vs_vars (o t : List Int) : vs o ((varsL t).map (fun v => -v)) = vs o t := by
  suffices h : ∀ k, k ≤ t.length → vs o ((varsL (t.take k)).map (fun v => -v)) = vs o (t.take k) by
    have := h t.length (Nat.le_refl _)
    rwa [List.take_length] at this
  intro k
  induction k with
  | zero => intro _; simp [varsL, vs]
  | succ k ih =>
    intro hk
    have hk' : k < t.length := by omega
    have ih := ih (by omega)
    rw [vs_take hk', varsL, vs_take hk']
    have e : vs [] (t.take k) = varsL (t.take k) := rfl
    rw [e]
    by_cases hx : isV t[k] = true ∧ ¬ (-t[k]) ∈ varsL (t.take k)
    · have e1 : vstep (varsL (t.take k)) t[k] = varsL (t.take k) ++ [-t[k]] := by rw [vstep, if_pos hx]
      rw [e1, List.map_append, vs_append, ih]
      simp [vs]
    · have e1 : vstep (varsL (t.take k)) t[k] = varsL (t.take k) := by rw [vstep, if_neg hx]
      rw [e1, ih]
      by_cases hv : isV t[k] = true
      · have hin : -t[k] ∈ varsL (t.take k) := by simpa [hv] using hx
        have hx2 : -t[k] ∈ vs o (t.take k) := by
          rw [← ih]
          have h3 := (neat_vs neat_nil (t.take k)).2 _ hin
          have := vs_mem (o := o) (t := (varsL (t.take k)).map (fun v => -v)) (x := t[k]) (by simp; exact ⟨-t[k], hin, by omega⟩) hv
          exact this
        rw [vstep, if_neg (by simp [hx2])]
      · rw [vstep, if_neg (by simp [hv])]
/-- The order of the variables of some lists. -/
def orderL (ls : List (List Int)) : List Int := vs [] ls.flatten
def allV (ls : List (List Int)) : List Int := (ls.map fun t => (varsL t).map (fun v => -v)).flatten
theorem order_all (ls : List (List Int)) : varsL (allV ls) = orderL ls := by
  suffices h : ∀ o, vs o (allV ls) = vs o ls.flatten by exact h []
  intro o
  induction ls generalizing o with
  | nil => rfl
  | cons t r ih =>
    simp only [allV, List.map_cons, List.flatten_cons] at *
    rw [vs_append, vs_append, vs_vars, ih]
/-- A number, numbered anew. -/
def pl (o : List Int) (x : Int) : Int := if isV x = true then -((o.idxOf (-x) : Int) + 1) else x
def plains (ls : List (List Int)) : List (List Int) := ls.map fun t => t.map (pl (orderL ls))
theorem idx_prefix {o o' : List Int} (h : o <+: o') {v : Int} (hv : v ∈ o) : o'.idxOf v = o.idxOf v := by
  obtain ⟨r, rfl⟩ := h
  rw [List.idxOf_append, if_pos hv]
theorem idx_of {o : List Int} (h : o.Nodup) {i : Nat} (hi : i < o.length) : o.idxOf o[i] = i := List.Nodup.idxOf_getElem h i hi
end Go.Proofs.YtbjfpfnfbgncnaaGreatDoor
