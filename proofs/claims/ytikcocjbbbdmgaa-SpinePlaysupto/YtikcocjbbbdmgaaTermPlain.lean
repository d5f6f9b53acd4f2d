/- Terms in plain words: lists of numbers in prefix order, ends, arguments, paths; no program in sight. -/
import Derived.Test.YtikcocjbbbdmgaaSigPlain
namespace Go.Proofs.Ytikcocjbbbdmgaa
/-- How many arguments stand behind a number. -/
def arN (L : List Sym) (n : Int) : Nat := if n < 0 then 0 else match L[n.toNat]? with | some x => x.ar.toNat | none => 0
/-- How many numbers make the next k terms. -/
def scan (L : List Sym) : Nat → List Int → Option Nat
  | 0, _ => some 0
  | _ + 1, [] => none
  | k + 1, x :: r => (scan L (k + arN L x) r).map (· + 1)
/-- How many terms are lacking behind a list, if k were ahead of it. -/
def need (L : List Sym) : Nat → List Int → Option Nat
  | k, [] => some k
  | 0, _ :: _ => none
  | k + 1, x :: r => need L (k + arN L x) r
theorem scan_zero (L : List Sym) (ts : List Int) : scan L 0 ts = some 0 := by cases ts <;> rfl
theorem need_append (L : List Sym) (k : Nat) (a b : List Int) : need L k (a ++ b) = (need L k a).bind (fun m => need L m b) := by
  induction a generalizing k with
  | nil => simp [need]
  | cons x r ih =>
    cases k with
    | zero => simp [need]
    | succ k => simp [need, ih]
theorem need_add {L : List Sym} {k m : Nat} {a : List Int} (h : need L k a = some m) (j : Nat) : need L (k + j) a = some (m + j) := by
  induction a generalizing k with
  | nil => simp [need] at h ⊢; omega
  | cons x r ih =>
    cases k with
    | zero => simp [need] at h
    | succ k =>
      rw [show k + 1 + j = (k + j) + 1 by omega]
      simp only [need] at h ⊢
      have := ih h
      rw [show k + arN L x + j = k + j + arN L x by omega] at this
      exact this
theorem need_split {L : List Sym} {a b : Nat} {ts : List Int} (h : need L (a + b) ts = some 0) : ∃ n, scan L a ts = some n ∧ n ≤ ts.length ∧ need L b (ts.drop n) = some 0 := by
  induction ts generalizing a with
  | nil =>
    simp [need] at h
    obtain ⟨rfl, rfl⟩ := h
    exact ⟨0, rfl, by simp, by simp [need]⟩
  | cons x r ih =>
    cases a with
    | zero => exact ⟨0, by simp [scan_zero], by simp, by simpa using h⟩
    | succ a =>
      rw [show a + 1 + b = (a + b) + 1 by omega] at h
      simp only [need] at h
      rw [show a + b + arN L x = (a + arN L x) + b by omega] at h
      obtain ⟨n, h1, h2, h3⟩ := ih h
      exact ⟨n + 1, by simp [scan, h1], by simpa using h2, by simpa using h3⟩
theorem scan_need {L : List Sym} {k n : Nat} {ts : List Int} (h : scan L k ts = some n) : n ≤ ts.length ∧ need L k (ts.take n) = some 0 := by
  induction ts generalizing k n with
  | nil => cases k <;> simp [scan] at h; subst h; simp [need]
  | cons x r ih =>
    cases k with
    | zero => simp [scan] at h; subst h; simp [need]
    | succ k =>
      simp only [scan, Option.map_eq_some_iff] at h
      obtain ⟨m, hm, rfl⟩ := h
      obtain ⟨h1, h2⟩ := ih hm
      exact ⟨by simpa using h1, by simpa [need] using h2⟩
theorem need_scan {L : List Sym} {k : Nat} {a b : List Int} (h : need L k a = some 0) : scan L k (a ++ b) = some a.length := by
  induction a generalizing k with
  | nil => simp [need] at h; subst h; simp [scan_zero]
  | cons x r ih =>
    cases k with
    | zero => simp [need] at h
    | succ k =>
      simp only [need] at h
      simp [scan, ih h]
theorem scan_pos {L : List Sym} {k n : Nat} {ts : List Int} (h : scan L (k + 1) ts = some n) : 0 < n := by
  cases ts with
  | nil => simp [scan] at h
  | cons x r => simp only [scan, Option.map_eq_some_iff] at h; obtain ⟨m, _, rfl⟩ := h; omega
theorem scan_add {L : List Sym} {a b m : Nat} {ts : List Int} (h : scan L (a + b) ts = some m) : ∃ n n', scan L a ts = some n ∧ scan L b (ts.drop n) = some n' ∧ m = n + n' := by
  obtain ⟨h1, h2⟩ := scan_need h
  obtain ⟨n, h3, h4, h5⟩ := need_split h2
  obtain ⟨h6, h7⟩ := scan_need h3
  have h4 : n ≤ m := by simp at h4; omega
  have e1 : ts.take m = ts.take n ++ (ts.drop n).take (m - n) := by
    rw [List.take_drop, show n + (m - n) = m by omega]
    have := (List.take_append_drop n (ts.take m)).symm
    rwa [List.take_take, Nat.min_eq_left h4] at this
  have h8 : need L a (ts.take n) = some 0 := by rwa [List.take_take, Nat.min_eq_left h4] at h7
  refine ⟨n, m - n, ?_, ?_, by omega⟩
  · have := need_scan (b := ts.drop n) h8
    rw [List.take_append_drop] at this
    rw [this]; simp; omega
  · have h9 : need L b ((ts.drop n).take (m - n)) = some 0 := by
      have : (ts.take m).drop n = (ts.drop n).take (m - n) := by rw [List.drop_take]
      rwa [this] at h5
    have := need_scan (b := (ts.drop n).drop (m - n)) h9
    rw [List.take_append_drop] at this
    rw [this]; simp; omega

/-! ### ends and arguments -/
def endO (L : List Sym) (t : List Int) (p : Nat) : Option Nat := (scan L 1 (t.drop p)).map (p + ·)
def endN (L : List Sym) (t : List Int) (p : Nat) : Nat := (endO L t p).getD t.length
/-- Is it a term, of whatever numbers? -/
def IsT (L : List Sym) (t : List Int) : Prop := need L 1 t = some 0
theorem isT_need {L : List Sym} {t : List Int} (h : IsT L t) {p : Nat} (hp : p < t.length) : ∃ k, need L (k + 1) (t.drop p) = some 0 := by
  have h' : need L 1 (t.take p ++ t.drop p) = some 0 := by rw [List.take_append_drop]; exact h
  rw [need_append] at h'
  cases hn : need L 1 (t.take p) with
  | none => simp [hn] at h'
  | some k =>
    simp only [hn, Option.bind_some] at h'
    cases k with
    | zero =>
      have : t.drop p ≠ [] := by intro e; have := congrArg List.length e; simp at this; omega
      cases hd : t.drop p with
      | nil => exact absurd hd this
      | cons x r => rw [hd] at h'; simp [need] at h'
    | succ k => exact ⟨k, h'⟩
theorem isT_scan {L : List Sym} {t : List Int} (h : IsT L t) {p : Nat} (hp : p < t.length) : ∃ n, scan L 1 (t.drop p) = some n ∧ 0 < n ∧ p + n ≤ t.length := by
  obtain ⟨k, hk⟩ := isT_need h hp
  rw [Nat.add_comm] at hk
  obtain ⟨n, h1, h2, _⟩ := need_split hk
  exact ⟨n, h1, scan_pos (k := 0) h1, by simp at h2; omega⟩
theorem endN_of {L : List Sym} {t : List Int} {p n : Nat} (h : scan L 1 (t.drop p) = some n) : endN L t p = p + n := by simp [endN, endO, h]
theorem endO_some {L : List Sym} {t : List Int} (h : IsT L t) {p : Nat} (hp : p < t.length) : endO L t p = some (endN L t p) := by
  obtain ⟨n, h1, _, _⟩ := isT_scan h hp
  rw [endN_of h1, endO, h1]; rfl
theorem endN_le {L : List Sym} {t : List Int} (h : IsT L t) {p : Nat} (hp : p < t.length) : p < endN L t p ∧ endN L t p ≤ t.length := by
  obtain ⟨n, h1, h2, h3⟩ := isT_scan h hp
  rw [endN_of h1]; omega
theorem isT_pos {L : List Sym} {t : List Int} (h : IsT L t) : 0 < t.length := by
  cases t with
  | nil => simp [IsT, need] at h
  | cons => simp
theorem endN_zero {L : List Sym} {t : List Int} (h : IsT L t) : endN L t 0 = t.length := by
  have := need_scan (b := []) h
  rw [List.append_nil] at this
  rw [endN_of (n := t.length) (by simpa using this)]; omega
def starts (L : List Sym) (t : List Int) : Nat → Nat → List Nat
  | 0, _ => []
  | k + 1, p => p :: starts L t k (endN L t p)
theorem starts_length (L : List Sym) (t : List Int) (k p : Nat) : (starts L t k p).length = k := by
  induction k generalizing p with
  | zero => rfl
  | succ k ih => simp [starts, ih]
/-- The place behind k terms that begin at p. -/
def past (L : List Sym) (t : List Int) : Nat → Nat → Nat
  | 0, p => p
  | k + 1, p => past L t k (endN L t p)
theorem past_succ (L : List Sym) (t : List Int) (k p : Nat) : past L t (k + 1) p = endN L t (past L t k p) := by
  induction k generalizing p with
  | zero => rfl
  | succ k ih => rw [past, ih, past]
theorem starts_at {L : List Sym} {t : List Int} {k p i : Nat} (h : i < k) : (starts L t k p)[i]? = some (past L t i p) := by
  induction k generalizing p i with
  | zero => omega
  | succ k ih =>
    cases i with
    | zero => simp [starts, past]
    | succ i => simpa [starts, past] using ih (p := endN L t p) (by omega)
theorem starts_snoc (L : List Sym) (t : List Int) (k p : Nat) : starts L t (k + 1) p = starts L t k p ++ [past L t k p] := by
  induction k generalizing p with
  | zero => simp [starts, past]
  | succ k ih =>
    have := ih (endN L t p)
    conv => lhs; rw [starts]
    rw [this]; simp [starts, past]
/-- k terms begin at p, and end at q. -/
def Forest (L : List Sym) (t : List Int) (k p q : Nat) : Prop := ∃ n, scan L k (t.drop p) = some n ∧ q = p + n ∧ q ≤ t.length
theorem Forest.zero {L : List Sym} {t : List Int} {p q : Nat} (h : Forest L t 0 p q) : q = p := by
  obtain ⟨n, h1, h2, _⟩ := h
  simp [scan_zero] at h1; omega
theorem Forest.le {L : List Sym} {t : List Int} {k p q : Nat} (h : Forest L t k p q) : p ≤ q ∧ q ≤ t.length := by
  obtain ⟨n, _, h2, h3⟩ := h; omega
theorem Forest.succ {L : List Sym} {t : List Int} {k p q : Nat} (h : Forest L t (k + 1) p q) : Forest L t 1 p (endN L t p) ∧ p < endN L t p ∧ Forest L t k (endN L t p) q := by
  obtain ⟨n, h1, h2, h3⟩ := h
  rw [Nat.add_comm] at h1
  obtain ⟨a, b, h4, h5, h6⟩ := scan_add h1
  have e := endN_of h4
  have ha := scan_pos (k := 0) h4
  refine ⟨⟨a, h4, e, by omega⟩, by omega, b, ?_, by omega, h3⟩
  rw [e, ← List.drop_drop]; exact h5
theorem Forest.pos {L : List Sym} {t : List Int} {k p q : Nat} (h : Forest L t (k + 1) p q) : p < q := by
  have := h.succ.2.1; have := h.succ.2.2.le; omega
theorem Forest.one {L : List Sym} {t : List Int} (h : IsT L t) {p : Nat} (hp : p < t.length) : Forest L t 1 p (endN L t p) := by
  obtain ⟨n, h1, h2, h3⟩ := isT_scan h hp
  exact ⟨n, h1, endN_of h1, by rw [endN_of h1]; exact h3⟩
theorem Forest.kids {L : List Sym} {t : List Int} {p q : Nat} (h : Forest L t 1 p q) : ∃ hp : p < t.length, Forest L t (arN L t[p]) (p + 1) q := by
  obtain ⟨n, h1, h2, h3⟩ := h
  have hn := scan_pos (k := 0) h1
  have hp : p < t.length := by omega
  refine ⟨hp, ?_⟩
  rw [List.drop_eq_getElem_cons hp] at h1
  simp only [scan, Nat.zero_add, Option.map_eq_some_iff] at h1
  obtain ⟨m, hm, rfl⟩ := h1
  exact ⟨m, hm, by omega, h3⟩
theorem Forest.past {L : List Sym} {t : List Int} {k p q : Nat} (h : Forest L t k p q) : past L t k p = q := by
  induction k generalizing p with
  | zero => exact h.zero.symm
  | succ k ih => rw [Proofs.Ytikcocjbbbdmgaa.past]; exact ih h.succ.2.2
theorem Forest.drop {L : List Sym} {t : List Int} {k i p q : Nat} (h : Forest L t k p q) (hi : i ≤ k) : Forest L t (k - i) (Proofs.Ytikcocjbbbdmgaa.past L t i p) q := by
  induction i generalizing k p with
  | zero => exact h
  | succ i ih =>
    cases k with
    | zero => omega
    | succ k =>
      have := ih h.succ.2.2 (by omega)
      simpa [Proofs.Ytikcocjbbbdmgaa.past] using this
theorem past_mono {L : List Sym} {t : List Int} {k p q : Nat} (h : Forest L t k p q) {i j : Nat} (hij : i < j) (hj : j ≤ k) : endN L t (past L t i p) ≤ past L t j p := by
  induction j with
  | zero => omega
  | succ j ih =>
    rw [past_succ]
    by_cases e : i = j
    · subst e; exact Nat.le_refl _
    · have h1 := ih (by omega) (by omega)
      have h2 := h.drop (i := j) (by omega)
      obtain ⟨m, hm⟩ : ∃ m, k - j = m + 1 := ⟨k - j - 1, by omega⟩
      rw [hm] at h2
      have := h2.succ.2.1
      omega
/-- The arguments of the place p. -/
def argsN (L : List Sym) (t : List Int) (p : Nat) : List Nat := starts L t (arN L (t.getD p 0)) (p + 1)
theorem argsN_eq {L : List Sym} {t : List Int} {p : Nat} (hp : p < t.length) : argsN L t p = starts L t (arN L t[p]) (p + 1) := by
  simp [argsN, hp]

/-! ### the way -/
def bump : List (Nat × Nat) → List (Nat × Nat)
  | [] => []
  | (j, a) :: st => if j + 1 < a then (j + 1, a) :: st else bump st
def pass (st : List (Nat × Nat)) (a : Nat) : List (Nat × Nat) := if 0 < a then (0, a) :: st else bump st
def run (L : List Sym) (st : List (Nat × Nat)) (ts : List Int) : List (Nat × Nat) := ts.foldl (fun s x => pass s (arN L x)) st
theorem run_append (L : List Sym) (st : List (Nat × Nat)) (a b : List Int) : run L st (a ++ b) = run L (run L st a) b := by simp [run]
def way (L : List Sym) (t : List Int) (p : Nat) : List (Nat × Nat) := run L [] (t.take p)
theorem way_succ {L : List Sym} {t : List Int} {p : Nat} (hp : p < t.length) : way L t (p + 1) = pass (way L t p) (arN L t[p]) := by
  unfold way
  rw [List.take_add_one, run_append, List.getElem?_eq_getElem hp]
  rfl
theorem way_forest {L : List Sym} {t : List Int} (n : Nat) : ∀ (p q : Nat), q - p ≤ n →
    (Forest L t 1 p q → way L t q = bump (way L t p)) ∧
    (∀ (k j a : Nat) (st : List (Nat × Nat)), Forest L t (k + 1) p q → way L t p = (j, a) :: st → j + (k + 1) = a → way L t q = bump st) := by
  induction n with
  | zero =>
    intro p q h
    refine ⟨fun hf => ?_, fun k j a st hf _ _ => ?_⟩
    · have := hf.pos; omega
    · have := hf.pos; omega
  | succ n ih =>
    intro p q h
    have one : Forest L t 1 p q → way L t q = bump (way L t p) := by
      intro hf
      obtain ⟨hp, hk⟩ := hf.kids
      have hw := way_succ (L := L) hp
      cases ha : arN L t[p] with
      | zero =>
        rw [ha] at hk hw
        rw [hk.zero, hw]; rfl
      | succ a =>
        rw [ha] at hk hw
        exact (ih (p + 1) q (by omega)).2 a 0 (a + 1) (way L t p) hk (by rw [hw]; rfl) (by omega)
    refine ⟨one, ?_⟩
    intro k j a st hf hw hj
    cases k with
    | zero =>
      rw [one hf, hw, bump, if_neg (by omega)]
    | succ k =>
      obtain ⟨h1, h2, h3⟩ := hf.succ
      have h4 := h3.pos
      have e1 := (ih p (endN L t p) (by omega)).1 h1
      rw [hw, bump, if_pos (by omega)] at e1
      exact (ih (endN L t p) q (by omega)).2 k (j + 1) a st h3 e1 (by omega)
theorem way_one {L : List Sym} {t : List Int} {p q : Nat} (h : Forest L t 1 p q) : way L t q = bump (way L t p) := (way_forest (q - p) p q (Nat.le_refl _)).1 h
theorem way_past {L : List Sym} {t : List Int} {k p q : Nat} (h : Forest L t k p q) {j a : Nat} {st : List (Nat × Nat)} (hw : way L t p = (j, a) :: st) {i : Nat} (hi : i < k) (ha : j + k ≤ a) :
    way L t (past L t i p) = (j + i, a) :: st := by
  induction i generalizing k j p with
  | zero => exact hw
  | succ i ih =>
    cases k with
    | zero => omega
    | succ k =>
      obtain ⟨h1, h2, h3⟩ := h.succ
      have e1 := way_one h1
      rw [hw, bump, if_pos (by omega)] at e1
      have := ih h3 e1 (by omega) (by omega)
      rw [show j + 1 + i = j + (i + 1) by omega] at this
      exact this
/-- A place beneath p lies in just one of its arguments. -/
theorem forest_in {L : List Sym} {t : List Int} {k p q at' : Nat} (h : Forest L t k p q) (h1 : p ≤ at') (h2 : at' < q) : ∃ i, i < k ∧ past L t i p ≤ at' ∧ at' < endN L t (past L t i p) := by
  induction k generalizing p with
  | zero => have := h.zero; omega
  | succ k ih =>
    obtain ⟨f1, f2, f3⟩ := h.succ
    by_cases e : at' < endN L t p
    · exact ⟨0, by omega, h1, e⟩
    · obtain ⟨i, hi, g1, g2⟩ := ih f3 (by omega)
      exact ⟨i + 1, by omega, g1, g2⟩
theorem kid_in {L : List Sym} {t : List Int} (h : IsT L t) {p a : Nat} (hp : p < t.length) (h1 : p < a) (h2 : a < endN L t p) :
    ∃ i, i < arN L t[p] ∧ past L t i (p + 1) ≤ a ∧ a < endN L t (past L t i (p + 1)) ∧ past L t i (p + 1) < t.length ∧ p < past L t i (p + 1) ∧ way L t (past L t i (p + 1)) = (i, arN L t[p]) :: way L t p ∧
      ∀ j, j < arN L t[p] → (past L t j (p + 1) ≤ a ∧ a < endN L t (past L t j (p + 1)) ↔ j = i) := by
  obtain ⟨hp', hk⟩ := (Forest.one h hp).kids
  obtain ⟨i, hi, g1, g2⟩ := forest_in hk (by omega) h2
  have hle := (endN_le h hp).2
  have hw : way L t (p + 1) = (0, arN L t[p]) :: way L t p := by rw [way_succ hp, pass, if_pos (by omega)]
  have hwi := way_past hk hw hi (by omega)
  rw [Nat.zero_add] at hwi
  have hpp : p < past L t i (p + 1) := by
    cases i with
    | zero => simp [past]
    | succ i =>
      have := past_mono hk (i := 0) (j := i + 1) (by omega) (by omega)
      have h5 := hk.drop (i := 0) (by omega)
      have := (Forest.one h (p := p + 1) (by omega)).pos
      simp [past] at *; omega
  refine ⟨i, hi, g1, g2, by omega, hpp, hwi, fun j hj => ⟨fun ⟨x1, x2⟩ => ?_, fun e => by subst e; exact ⟨g1, g2⟩⟩⟩
  rcases Nat.lt_trichotomy j i with hji | hji | hji
  · have := past_mono hk hji (by omega); omega
  · exact hji
  · have := past_mono hk hji (by omega); omega
/-- The path to a place. -/
def pathN (L : List Sym) (t : List Int) (p : Nat) : List Nat := ((way L t p).map Prod.fst).reverse
/-- The place to which a path leads. -/
def leads (L : List Sym) (t : List Int) : Nat → List Int → Option Nat
  | p, [] => some p
  | p, n :: r => if n < 0 then none else match (argsN L t p)[n.toNat]? with | some q => leads L t q r | none => none
theorem leads_append {L : List Sym} {t : List Int} {p q : Nat} {a b : List Int} (h : leads L t p a = some q) : leads L t p (a ++ b) = leads L t q b := by
  induction a generalizing p with
  | nil => simp [leads] at h; subst h; rfl
  | cons n r ih =>
    simp only [leads, List.cons_append] at h ⊢
    by_cases hn : n < 0
    · simp [hn] at h
    · simp only [hn, if_false] at h ⊢
      cases ha : (argsN L t p)[n.toNat]? with
      | none => simp [ha] at h
      | some q' => simp only [ha] at h ⊢; exact ih h
theorem leads_down {L : List Sym} {t : List Int} (h : IsT L t) (n : Nat) : ∀ p a, a - p ≤ n → p ≤ a → p < t.length → a < endN L t p → ∃ fr, way L t a = fr ++ way L t p ∧ leads L t p ((fr.map (fun x => (x.1 : Int))).reverse) = some a := by
  induction n with
  | zero =>
    intro p a h1 h2 h3 h4
    obtain rfl : p = a := by omega
    exact ⟨[], rfl, rfl⟩
  | succ n ih =>
    intro p a h1 h2 h3 h4
    by_cases e : p = a
    · subst e; exact ⟨[], rfl, rfl⟩
    · obtain ⟨i, hi, g1, g2, g3, g4, g5, _⟩ := kid_in h h3 (by omega) h4
      obtain ⟨fr, f1, f2⟩ := ih (past L t i (p + 1)) a (by omega) g1 g3 g2
      refine ⟨fr ++ [(i, arN L t[p])], by rw [f1, g5]; simp, ?_⟩
      have e1 : ((fr ++ [(i, arN L t[p])]).map (fun x => (x.1 : Int))).reverse = (i : Int) :: (fr.map (fun x => (x.1 : Int))).reverse := by simp
      rw [e1, leads, if_neg (by omega)]
      have e2 : (argsN L t p)[(i : Int).toNat]? = some (past L t i (p + 1)) := by
        rw [argsN_eq h3]; simpa using starts_at hi
      rw [e2]; exact f2
theorem leads_path {L : List Sym} {t : List Int} (h : IsT L t) {a : Nat} (ha : a < t.length) : leads L t 0 ((pathN L t a).map (fun (x : Nat) => (x : Int))) = some a := by
  obtain ⟨fr, f1, f2⟩ := leads_down h a 0 a (by omega) (by omega) (isT_pos h) (by rw [endN_zero h]; exact ha)
  have : way L t 0 = [] := rfl
  rw [this, List.append_nil] at f1
  rw [pathN, f1]
  simpa [List.map_reverse, Function.comp_def] using f2

/-! ### another subterm -/
def putN (L : List Sym) (t : List Int) (p : Nat) (u : List Int) : List Int := t.take p ++ u ++ t.drop (endN L t p)
def subN (L : List Sym) (t : List Int) (p : Nat) : List Int := (t.take (endN L t p)).drop p
theorem sub_need {L : List Sym} {t : List Int} (h : IsT L t) {p : Nat} (hp : p < t.length) : IsT L (subN L t p) := by
  obtain ⟨n, h1, h2, h3⟩ := isT_scan h hp
  have := (scan_need h1).2
  unfold IsT subN
  rw [endN_of h1, List.drop_take]
  simpa using this
theorem put_sub {L : List Sym} {t : List Int} (h : IsT L t) {p : Nat} (hp : p < t.length) : putN L t p (subN L t p) = t := by
  have he := endN_le h hp
  unfold putN subN
  have e1 : t.take p = (t.take (endN L t p)).take p := by rw [List.take_take, Nat.min_eq_left (by omega)]
  rw [e1, List.take_append_drop, List.take_append_drop]
theorem put_need {L : List Sym} {t : List Int} (h : IsT L t) {p : Nat} (hp : p < t.length) {u : List Int} (hu : IsT L u) : IsT L (putN L t p u) := by
  have h0 : need L 1 (putN L t p (subN L t p)) = some 0 := by rw [put_sub h hp]; exact h
  unfold putN at h0 ⊢
  unfold IsT
  rw [List.append_assoc, need_append] at h0 ⊢
  cases hk : need L 1 (t.take p) with
  | none => simp [hk] at h0
  | some k =>
    simp only [hk, Option.bind_some] at h0 ⊢
    rw [need_append] at h0 ⊢
    cases k with
    | zero =>
      have hs := sub_need h hp
      have := isT_pos hs
      cases hd : subN L t p with
      | nil => simp [hd] at this
      | cons x r => rw [hd] at h0; simp [need] at h0
    | succ k =>
      have e1 := need_add (sub_need h hp) k
      have e2 := need_add hu k
      rw [Nat.add_comm 1 k] at e1 e2
      rw [e1] at h0
      rw [e2]
      exact h0
theorem put_end {L : List Sym} {t : List Int} {p : Nat} (hp : p < t.length) {u : List Int} (hu : IsT L u) : endN L (putN L t p u) p = p + u.length := by
  apply endN_of
  unfold putN
  rw [List.append_assoc, List.drop_left' (by simp; omega)]
  exact need_scan hu
theorem sub_put {L : List Sym} {t : List Int} {p : Nat} (hp : p < t.length) {u : List Int} (hu : IsT L u) : subN L (putN L t p u) p = u := by
  unfold subN
  rw [put_end hp hu]
  unfold putN
  rw [List.append_assoc, List.drop_take, List.drop_left' (by simp; omega)]
  simp
theorem way_put {L : List Sym} {t : List Int} {p : Nat} (hp : p < t.length) (u : List Int) : way L (putN L t p u) p = way L t p := by
  unfold way putN
  rw [List.append_assoc, List.take_left' (by simp; omega)]
theorem put_length {L : List Sym} {t : List Int} (h : IsT L t) {p : Nat} (hp : p < t.length) (u : List Int) : (putN L t p u).length = t.length - (endN L t p - p) + u.length := by
  have := endN_le h hp
  simp [putN]; omega
theorem sub_length {L : List Sym} {t : List Int} (h : IsT L t) {p : Nat} (hp : p < t.length) : (subN L t p).length = endN L t p - p := by
  have := endN_le h hp
  simp [subN]; omega

/-! ### what is wrong with a list -/
def badE (L : List Sym) : List Int → Int
  | [] => 0
  | x :: r => if (L.length : Int) ≤ x then 21 else if x < -99 then 22 else badE L r
def checkE (L : List Sym) (t : List Int) : Int := if 2000 < t.length then 20 else if badE L t ≠ 0 then badE L t else if need L 1 t = some 0 then 0 else 23
def placeE (L : List Sym) (t : List Int) (at' : Int) : Int := if checkE L t ≠ 0 then checkE L t else if at' < 0 ∨ (t.length : Int) ≤ at' then 24 else 0
theorem badE_zero {L : List Sym} {t : List Int} : badE L t = 0 ↔ ∀ x ∈ t, x < (L.length : Int) ∧ -99 ≤ x := by
  induction t with
  | nil => simp [badE]
  | cons x r ih =>
    simp only [badE, List.mem_cons, forall_eq_or_imp]
    by_cases h1 : (L.length : Int) ≤ x
    · simp only [h1, if_true]; constructor
      · intro h; omega
      · intro h; omega
    · by_cases h2 : x < -99
      · simp only [h1, h2, if_true, if_false]; constructor
        · intro h; omega
        · intro h; omega
      · simp only [h1, h2, if_false, ih]; constructor
        · intro h; exact ⟨by omega, h⟩
        · intro h; exact h.2
theorem badE_append (L : List Sym) (a b : List Int) (h : badE L a = 0) : badE L (a ++ b) = badE L b := by
  induction a with
  | nil => rfl
  | cons x r ih =>
    simp only [badE] at h
    by_cases h1 : (L.length : Int) ≤ x
    · simp [h1] at h
    · by_cases h2 : x < -99
      · simp [h1, h2] at h
      · simp only [h1, h2, if_false] at h
        simp only [List.cons_append, badE, h1, h2, if_false]
        exact ih h
theorem checkE_zero {L : List Sym} {t : List Int} : checkE L t = 0 ↔ t.length ≤ 2000 ∧ badE L t = 0 ∧ IsT L t := by
  unfold checkE IsT
  by_cases h1 : 2000 < t.length
  · simp [h1]; intro; omega
  · by_cases h2 : badE L t = 0
    · by_cases h3 : need L 1 t = some 0
      · simp [h1, h2, h3]; omega
      · simp [h1, h2, h3]
    · simp [h1, h2]
/-- Is it a variable's number? -/
def isV (x : Int) : Bool := decide (-99 ≤ x ∧ x ≤ -1)
end Go.Proofs.Ytikcocjbbbdmgaa
