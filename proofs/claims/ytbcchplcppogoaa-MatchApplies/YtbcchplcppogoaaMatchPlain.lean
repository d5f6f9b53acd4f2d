/- Patterns and instances in plain words: what variables stand for, the walk of a pattern along a term, terms put in; no program in sight. -/
import Derived.Test.YtbcchplcppogoaaPlainsPlain
namespace Go.Proofs.Ytbcchplcppogoaa
set_option linter.unusedVariables false
/-- What stands for each variable: nothing is the empty list. -/
abbrev Tb := Nat → List Int
def updT (σ : Tb) (v : Nat) (u : List Int) : Tb := fun x => if x = v then u else σ x
def noT : Tb := fun _ => []
/-- The first term of a list. -/
def headT (L : List Sym) (ts : List Int) : List Int := ts.take ((scan L 1 ts).getD 0)
/-- A pattern along some numbers. -/
def mw (L : List Sym) : List Int → List Int → Tb → Option Tb
  | [], _, σ => some σ
  | n :: r, ts, σ =>
    if 0 ≤ n then (match ts with | [] => none | x :: ts' => if x = n then mw L r ts' σ else none)
    else if σ (-n).toNat = [] then mw L r (ts.drop (headT L ts).length) (updT σ (-n).toNat (headT L ts))
    else if σ (-n).toNat = headT L ts then mw L r (ts.drop (headT L ts).length) σ else none
theorem mw_sym {L : List Sym} {n x : Int} {r ts : List Int} {σ : Tb} (hn : 0 ≤ n) : mw L (n :: r) (x :: ts) σ = if x = n then mw L r ts σ else none := by
  rw [mw, if_pos hn]
theorem mw_new {L : List Sym} {n : Int} {r ts : List Int} {σ : Tb} (hn : ¬ 0 ≤ n) (h : σ (-n).toNat = []) : mw L (n :: r) ts σ = mw L r (ts.drop (headT L ts).length) (updT σ (-n).toNat (headT L ts)) := by
  rw [mw.eq_def]
  simp only [if_neg hn, if_pos h]
theorem mw_old {L : List Sym} {n : Int} {r ts : List Int} {σ : Tb} (hn : ¬ 0 ≤ n) (h : ¬ σ (-n).toNat = []) : mw L (n :: r) ts σ = if σ (-n).toNat = headT L ts then mw L r (ts.drop (headT L ts).length) σ else none := by
  rw [mw.eq_def]
  simp only [if_neg hn, if_neg h]
theorem arN_neg {L : List Sym} {n : Int} (h : ¬ 0 ≤ n) : arN L n = 0 := by rw [arN, if_pos (by omega)]
/-- Both lack as many terms. -/
def Even (L : List Sym) (p ts : List Int) : Prop := ∃ j, need L j p = some 0 ∧ need L j ts = some 0
theorem even_term {L : List Sym} {p ts : List Int} (h1 : IsT L p) (h2 : IsT L ts) : Even L p ts := ⟨1, h1, h2⟩
theorem Even.cons {L : List Sym} {n : Int} {r ts : List Int} (h : Even L (n :: r) ts) : ∃ x ts', ts = x :: ts' ∧ (0 ≤ n → x = n → Even L r ts') ∧ (¬ 0 ≤ n → ∃ m, scan L 1 ts = some m ∧ 0 < m ∧ m ≤ ts.length ∧ headT L ts = ts.take m ∧ (headT L ts).length = m ∧ Even L r (ts.drop m)) := by
  obtain ⟨j, h1, h2⟩ := h
  cases j with
  | zero => simp [need] at h1
  | succ j =>
    cases ts with
    | nil => simp [need] at h2
    | cons x ts' =>
      simp only [need] at h1
      refine ⟨x, ts', rfl, fun hn e => ?_, fun hn => ?_⟩
      · subst e
        simp only [need] at h2
        exact ⟨_, h1, h2⟩
      · rw [arN_neg hn, Nat.add_zero] at h1
        rw [Nat.add_comm] at h2
        obtain ⟨m, g1, g2, g3⟩ := need_split h2
        have hh : headT L (x :: ts') = (x :: ts').take m := by rw [headT, g1]; rfl
        exact ⟨m, g1, scan_pos (k := 0) g1, g2, hh, by rw [hh, List.length_take]; omega, j, h1, g3⟩
theorem Even.nil {L : List Sym} {ts : List Int} (h : Even L [] ts) : ts = [] := by
  obtain ⟨j, h1, h2⟩ := h
  simp [need] at h1; subst h1
  cases ts with
  | nil => rfl
  | cons x r => simp [need] at h2
theorem head_app {L : List Sym} {a b : List Int} {m : Nat} (h : scan L 1 a = some m) (hm : m ≤ a.length) : headT L (a ++ b) = headT L a := by
  have h3 := (scan_need h).2
  have : scan L 1 (a.take m ++ (a.drop m ++ b)) = some (a.take m).length := need_scan h3
  rw [← List.append_assoc, List.take_append_drop] at this
  rw [headT, headT, h, this]
  simp only [Option.getD_some, List.length_take, Nat.min_eq_left hm]
  rw [List.take_append_of_le_length hm]
/-- What lies behind the terms does not matter. -/
theorem mw_app {L : List Sym} {p a : List Int} (b : List Int) {σ : Tb} (h : Even L p a) : mw L p (a ++ b) σ = mw L p a σ := by
  induction p generalizing a σ with
  | nil => rfl
  | cons n r ih =>
    obtain ⟨x, ts', rfl, h1, h2⟩ := h.cons
    by_cases hn : 0 ≤ n
    · rw [List.cons_append, mw_sym hn, mw_sym hn]
      by_cases e : x = n
      · rw [if_pos e, if_pos e]; exact ih (h1 hn e)
      · rw [if_neg e, if_neg e]
    · obtain ⟨m, g1, g2, g3, g4, g5, g6⟩ := h2 hn
      have e1 := head_app (b := b) g1 g3
      have e2 : ((x :: ts') ++ b).drop m = (x :: ts').drop m ++ b := List.drop_append_of_le_length g3
      by_cases hs : σ (-n).toNat = []
      · rw [mw_new hn hs, mw_new hn hs, e1, g5, e2]; exact ih g6
      · rw [mw_old hn hs, mw_old hn hs, e1, g5, e2]
        by_cases hq : σ (-n).toNat = headT L (x :: ts')
        · rw [if_pos hq, if_pos hq]; exact ih g6
        · rw [if_neg hq, if_neg hq]

/-! ### lists of binds -/
abbrev Bd := Int × List Int
def blN (σ : Tb) (n : Nat) : List Bd := ((List.range n).filter (fun v => decide (σ v ≠ []))).map (fun (v : Nat) => (((v : Nat) : Int), σ v))
theorem blN_zero (σ : Tb) : blN σ 0 = [] := rfl
theorem blN_yes {σ : Tb} {n : Nat} (h : σ n ≠ []) : blN σ (n + 1) = blN σ n ++ [((n : Int), σ n)] := by
  simp [blN, List.range_succ, h]
theorem blN_no {σ : Tb} {n : Nat} (h : σ n = []) : blN σ (n + 1) = blN σ n := by
  simp [blN, List.range_succ, h]
theorem blN_mem {σ : Tb} {n : Nat} {b : Bd} (h : b ∈ blN σ n) : ∃ v : Nat, v < n ∧ b = ((v : Int), σ v) ∧ σ v ≠ [] := by
  simp [blN] at h
  obtain ⟨v, ⟨h1, h2⟩, rfl⟩ := h
  exact ⟨v, h1, rfl, h2⟩
theorem blN_len (σ : Tb) (n : Nat) : (blN σ n).length ≤ n := by
  rw [blN, List.length_map]
  exact Nat.le_trans (List.length_filter_le _ _) (by simp)
def boundL (l : List Bd) (v : Int) : Option (List Int) := (l.find? (fun b => decide (b.1 = v))).map (·.2)
theorem bound_nil (v : Int) : boundL [] v = none := rfl
theorem bound_cons (b : Bd) (l : List Bd) (v : Int) : boundL (b :: l) v = if b.1 = v then some b.2 else boundL l v := by
  by_cases h : b.1 = v <;> simp [boundL, h]
theorem bound_append (a l : List Bd) (v : Int) : boundL (a ++ l) v = (boundL a v).or (boundL l v) := by
  induction a with
  | nil => simp [boundL]
  | cons b a ih =>
    rw [List.cons_append, bound_cons, bound_cons, ih]
    by_cases h : b.1 = v <;> simp [h]
theorem bound_mem {l : List Bd} {v : Int} {u : List Int} (h : boundL l v = some u) : (v, u) ∈ l := by
  induction l with
  | nil => simp [boundL] at h
  | cons b l ih =>
    rw [bound_cons] at h
    by_cases e : b.1 = v
    · rw [if_pos e] at h; cases h; subst e; simp
    · rw [if_neg e] at h; exact List.mem_cons_of_mem _ (ih h)
theorem bound_none {l : List Bd} {v : Int} : boundL l v = none ↔ ∀ b ∈ l, b.1 ≠ v := by
  induction l with
  | nil => simp [boundL]
  | cons b l ih =>
    rw [bound_cons]
    by_cases e : b.1 = v
    · simp [e]
    · simp [e, ih]
theorem bound_bl {σ : Tb} {n v : Nat} (h : v < n) : boundL (blN σ n) (v : Int) = if σ v = [] then none else some (σ v) := by
  induction n with
  | zero => omega
  | succ n ih =>
    by_cases hs : σ n = []
    · rw [blN_no hs]
      by_cases e : v = n
      · subst e
        rw [if_pos hs, bound_none]
        intro b hb
        obtain ⟨x, hx, rfl, _⟩ := blN_mem hb
        simp; omega
      · exact ih (by omega)
    · rw [blN_yes hs, bound_append]
      by_cases e : v = n
      · subst e
        rw [if_neg hs]
        have : boundL (blN σ v) (v : Int) = none := by
          rw [bound_none]
          intro b hb
          obtain ⟨x, hx, rfl, _⟩ := blN_mem hb
          simp; omega
        rw [this, bound_cons]; simp
      · rw [ih (by omega)]
        have : ¬ (n : Int) = (v : Int) := by omega
        rw [bound_cons, if_neg this]
        simp [boundL]
/-- A bind among some, by rising variables. -/
def intoL : List Bd → Bd → List Bd
  | [], b => [b]
  | x :: r, b => if b.1 < x.1 then b :: x :: r else x :: intoL r b
theorem into_app {a t : List Bd} {b : Bd} (h : ∀ x ∈ t, b.1 < x.1) : intoL (a ++ t) b = intoL a b ++ t := by
  induction a with
  | nil =>
    cases t with
    | nil => rfl
    | cons x r => simp [intoL, h x (by simp)]
  | cons x a ih =>
    simp only [List.cons_append, intoL]
    by_cases e : b.1 < x.1
    · simp [e]
    · simp [e, ih]
theorem into_last {a : List Bd} {b : Bd} (h : ∀ x ∈ a, x.1 < b.1) : intoL a b = a ++ [b] := by
  induction a with
  | nil => rfl
  | cons x a ih =>
    have h1 := h x (by simp)
    rw [intoL, if_neg (by omega), ih (fun y hy => h y (by simp [hy]))]
    rfl
theorem upd_same {σ : Tb} {v : Nat} {u : List Int} : updT σ v u v = u := by simp [updT]
theorem upd_else {σ : Tb} {v x : Nat} {u : List Int} (h : x ≠ v) : updT σ v u x = σ x := by simp [updT, h]
theorem blN_upd {σ : Tb} {v n : Nat} {u : List Int} (h : n ≤ v) : blN (updT σ v u) n = blN σ n := by
  induction n with
  | zero => rfl
  | succ n ih =>
    have e : updT σ v u n = σ n := upd_else (by omega)
    by_cases hs : σ n = []
    · rw [blN_no (by rw [e]; exact hs), blN_no hs, ih (by omega)]
    · rw [blN_yes (by rw [e]; exact hs), blN_yes hs, ih (by omega), e]
theorem into_bl {σ : Tb} {v n : Nat} {u : List Int} (hv : v < n) (hs : σ v = []) (hu : u ≠ []) : intoL (blN σ n) ((v : Int), u) = blN (updT σ v u) n := by
  induction n with
  | zero => omega
  | succ n ih =>
    by_cases e : v = n
    · subst e
      rw [blN_no hs, blN_yes (by rw [upd_same]; exact hu), upd_same, blN_upd (Nat.le_refl _)]
      exact into_last (fun x hx => by obtain ⟨y, hy, rfl, _⟩ := blN_mem hx; simp; omega)
    · have e2 : updT σ v u n = σ n := upd_else (fun h => e h.symm)
      by_cases hn : σ n = []
      · rw [blN_no hn, blN_no (by rw [e2]; exact hn)]; exact ih (by omega)
      · rw [blN_yes hn, blN_yes (by rw [e2]; exact hn), e2, into_app (by simp; omega), ih (by omega)]

/-! ### terms put in -/
def inst (σ : Tb) (n : Int) : List Int := if 0 ≤ n ∨ σ (-n).toNat = [] then [n] else σ (-n).toNat
def appT (σ : Tb) (t : List Int) : List Int := t.flatMap (inst σ)
theorem app_nil (σ : Tb) : appT σ [] = [] := rfl
theorem app_cons (σ : Tb) (n : Int) (t : List Int) : appT σ (n :: t) = inst σ n ++ appT σ t := by simp [appT]
theorem app_append (σ : Tb) (a b : List Int) : appT σ (a ++ b) = appT σ a ++ appT σ b := by simp [appT]
theorem inst_len (σ : Tb) (n : Int) : (inst σ n).length = max 1 (if 0 ≤ n then 0 else (σ (-n).toNat).length) := by
  unfold inst
  by_cases h : 0 ≤ n
  · simp [h]
  · by_cases hs : σ (-n).toNat = []
    · simp [h, hs]
    · have : 0 < (σ (-n).toNat).length := List.length_pos_iff.2 hs
      simp [h, hs]; omega
end Go.Proofs.Ytbcchplcppogoaa
