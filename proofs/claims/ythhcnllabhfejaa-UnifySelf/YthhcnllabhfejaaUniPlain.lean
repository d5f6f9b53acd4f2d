/- Terms that become the same, in plain words: parts that lead to others, runs of subterms; no program in sight. -/
import Derived.Test.YthhcnllabhfejaaTermPlain
namespace Go.Proofs.Ythhcnllabhfejaa
set_option linter.unusedVariables false
/-- Each place has a term behind it. -/
def Trs (L : List Sym) (J : List Int) : Prop := ∀ p, p < J.length → Forest L J 1 p (endN L J p)
def shF (apart x : Int) : Int := if x < 0 then x - apart else x
/-- Two terms as one list. -/
def jl (a b : List Int) (apart : Int) : List Int := a ++ b.map (shF apart)
theorem arN_sh (L : List Sym) {apart : Int} (h : 0 ≤ apart) (x : Int) : arN L (shF apart x) = arN L x := by
  unfold shF
  split
  · unfold arN; rw [if_pos (by omega), if_pos (by omega)]
  · rfl
theorem need_sh (L : List Sym) {apart : Int} (h : 0 ≤ apart) (k : Nat) (b : List Int) : need L k (b.map (shF apart)) = need L k b := by
  induction b generalizing k with
  | nil => rfl
  | cons x r ih =>
    cases k with
    | zero => rfl
    | succ k => simp only [List.map_cons, need, arN_sh L h, ih]
theorem isT_sh {L : List Sym} {apart : Int} (h : 0 ≤ apart) {b : List Int} (hb : IsT L b) : IsT L (b.map (shF apart)) := by
  unfold IsT; rw [need_sh L h]; exact hb
theorem scan_more {L : List Sym} {k n : Nat} {ts : List Int} (h : scan L k ts = some n) (r : List Int) : scan L k (ts ++ r) = some n := by
  obtain ⟨h1, h2⟩ := scan_need h
  have := need_scan (b := ts.drop n ++ r) h2
  rw [← List.append_assoc, List.take_append_drop] at this
  rw [this]; simp; omega
theorem trs_append {L : List Sym} {a b : List Int} (ha : IsT L a) (hb : IsT L b) : Trs L (a ++ b) := by
  intro p hp
  have key : ∃ n, scan L 1 ((a ++ b).drop p) = some n ∧ p + n ≤ (a ++ b).length := by
    by_cases h : p < a.length
    · obtain ⟨n, h1, h2, h3⟩ := isT_scan ha h
      refine ⟨n, ?_, by simp; omega⟩
      rw [List.drop_append_of_le_length (by omega)]
      exact scan_more h1 b
    · obtain ⟨n, h1, h2, h3⟩ := isT_scan hb (p := p - a.length) (by simp at hp; omega)
      refine ⟨n, ?_, by simp; omega⟩
      rw [List.drop_append, List.drop_eq_nil_of_le (by omega), List.nil_append]
      exact h1
  obtain ⟨n, h1, h2⟩ := key
  exact ⟨n, h1, endN_of h1, by rw [endN_of h1]; exact h2⟩
theorem trs_jl {L : List Sym} {a b : List Int} {apart : Int} (h : 0 ≤ apart) (ha : IsT L a) (hb : IsT L b) : Trs L (jl a b apart) := trs_append ha (isT_sh h hb)
theorem Trs.lt {L : List Sym} {J : List Int} (h : Trs L J) {p : Nat} (hp : p < J.length) : p < endN L J p ∧ endN L J p ≤ J.length := ⟨(h p hp).pos, (h p hp).le.2⟩
theorem Trs.kids {L : List Sym} {J : List Int} (h : Trs L J) {p : Nat} (hp : p < J.length) : Forest L J (arN L J[p]) (p + 1) (endN L J p) := by
  obtain ⟨_, h2⟩ := (h p hp).kids; exact h2
/-! ### leaders -/
/-- A part: a place, or a variable -v. -/
def UPart (J : List Int) (x : Int) : Prop := -198 ≤ x ∧ x < (J.length : Int)
def at' (J : List Int) (x : Int) : Int := J.getD x.toNat 0
def un (p q : Int) (ld : Int → Int) : Int → Int := fun x => if ld x = p then q else ld x
def ld0 (J : List Int) : Int → Int := fun x => if 0 ≤ x ∧ at' J x < 0 then at' J x else x
/-- What leads where: to free variables and places of symbols, those of one symbol alone. -/
structure LdOk (J : List Int) (ld : Int → Int) : Prop where
  part : ∀ x, UPart J x → UPart J (ld x)
  idem : ∀ x, UPart J x → ld (ld x) = ld x
  sym : ∀ x, UPart J x → 0 ≤ ld x → 0 ≤ at' J (ld x)
  like : ∀ x, UPart J x → 0 ≤ x → 0 ≤ at' J x → 0 ≤ ld x ∧ at' J (ld x) = at' J x
theorem at'_nat (J : List Int) (p : Nat) (h : p < J.length) : at' J (p : Int) = J[p] := by
  unfold at'
  rw [Int.toNat_natCast, List.getD_eq_getElem?_getD, List.getElem?_eq_getElem h]; rfl
theorem ld0_ok {J : List Int} (hv : ∀ x ∈ J, -198 ≤ x) : LdOk J (ld0 J) := by
  have hm : ∀ x, UPart J x → 0 ≤ x → -198 ≤ at' J x := by
    intro x hx h0
    obtain ⟨k, rfl⟩ := Int.eq_ofNat_of_zero_le h0
    rw [at'_nat J k (by have := hx.2; omega)]
    exact hv _ (List.getElem_mem _)
  refine ⟨?_, ?_, ?_, ?_⟩
  · intro x hx
    unfold ld0
    split
    · rename_i h; exact ⟨hm x hx h.1, by have := h.2; unfold UPart at hx; omega⟩
    · exact hx
  · intro x hx
    by_cases h : 0 ≤ x ∧ at' J x < 0
    · have e : ld0 J x = at' J x := by unfold ld0; rw [if_pos h]
      rw [e]; unfold ld0; rw [if_neg (by omega)]
    · have e : ld0 J x = x := by unfold ld0; rw [if_neg h]
      rw [e, e]
  · intro x hx h0
    by_cases h : 0 ≤ x ∧ at' J x < 0
    · have e : ld0 J x = at' J x := by unfold ld0; rw [if_pos h]
      omega
    · have e : ld0 J x = x := by unfold ld0; rw [if_neg h]
      rw [e] at h0 ⊢; omega
  · intro x hx h0 h1
    have e : ld0 J x = x := by unfold ld0; rw [if_neg (by omega)]
    rw [e]; exact ⟨h0, rfl⟩
/-- Of two leaders the first one is led by the second one. -/
theorem LdOk.un {J : List Int} {ld : Int → Int} (h : LdOk J ld) {p q : Int} (hp : ld p = p) (hq : ld q = q) (hq2 : UPart J q) (hpq : p ≠ q) (hs : 0 ≤ q → 0 ≤ at' J q) (hl : 0 ≤ p → 0 ≤ q ∧ at' J q = at' J p) : LdOk J (un p q ld) := by
  have u1 : ∀ x, ld x = p → Proofs.Ythhcnllabhfejaa.un p q ld x = q := fun x e => by unfold Proofs.Ythhcnllabhfejaa.un; rw [if_pos e]
  have u2 : ∀ x, ld x ≠ p → Proofs.Ythhcnllabhfejaa.un p q ld x = ld x := fun x e => by unfold Proofs.Ythhcnllabhfejaa.un; rw [if_neg e]
  refine ⟨?_, ?_, ?_, ?_⟩ <;> intro x hx <;> by_cases e : ld x = p
  · rw [u1 x e]; exact hq2
  · rw [u2 x e]; exact h.part x hx
  · rw [u1 x e, u2 q (by rw [hq]; exact fun f => hpq f.symm), hq]
  · rw [u2 x e, u2 (ld x) (by rw [h.idem x hx]; exact e), h.idem x hx]
  · rw [u1 x e]; exact hs
  · rw [u2 x e]; exact h.sym x hx
  · intro h0 h1
    obtain ⟨g1, g2⟩ := h.like x hx h0 h1
    rw [e] at g1 g2
    obtain ⟨g3, g4⟩ := hl g1
    rw [u1 x e]; exact ⟨g3, g4.trans g2⟩
  · rw [u2 x e]; exact h.like x hx
/-! ### the walk -/
/-- All that must become the same, if these runs of subterms do: a clash is 'some none'. -/
def uniF (L : List Sym) (J : List Int) : Nat → (Int → Int) → List (Nat × Nat × Nat) → Option (Option (Int → Int))
  | 0, _, _ => none
  | _ + 1, ld, [] => some (some ld)
  | n + 1, ld, (x, y, o) :: r =>
    if x < y then
      if ld x = ld o then uniF L J n ld ((endN L J x, y, endN L J o) :: r)
      else if ld x < 0 then uniF L J n (un (ld x) (ld o) ld) ((endN L J x, y, endN L J o) :: r)
      else if ld o < 0 then uniF L J n (un (ld o) (ld x) ld) ((endN L J x, y, endN L J o) :: r)
      else if at' J (ld x) ≠ at' J (ld o) then some none
      else uniF L J n (un (ld x) (ld o) ld) (((ld x).toNat + 1, endN L J (ld x).toNat, (ld o).toNat + 1) :: (endN L J x, y, endN L J o) :: r)
    else uniF L J n ld r
def RunOk (L : List Sym) (J : List Int) (r : Nat × Nat × Nat) : Prop := ∃ k z, Forest L J k r.1 r.2.1 ∧ Forest L J k r.2.2 z
theorem RunOk.step {L : List Sym} {J : List Int} {x y o : Nat} (h : RunOk L J (x, y, o)) (hxy : x < y) : x < endN L J x ∧ endN L J x ≤ y ∧ y ≤ J.length ∧ o < J.length ∧ o < endN L J o ∧ RunOk L J (endN L J x, y, endN L J o) := by
  obtain ⟨k, z, h1, h2⟩ := h
  cases k with
  | zero => have := h1.zero; simp only at this; omega
  | succ k =>
    obtain ⟨g1, g2, g3⟩ := h1.succ
    obtain ⟨f1, f2, f3⟩ := h2.succ
    simp only at g1 g2 g3 f1 f2 f3
    have := g3.le; have := f1.le
    exact ⟨g2, by omega, by omega, by omega, f2, k, z, g3, f3⟩
theorem RunOk.kids {L : List Sym} {J : List Int} (hT : Trs L J) {p q : Nat} (hp : p < J.length) (hq : q < J.length) (h : J[p] = J[q]) : RunOk L J (p + 1, endN L J p, q + 1) :=
  ⟨_, _, hT.kids hp, by rw [h]; exact hT.kids hq⟩
def roots (J : List Int) (ld : Int → Int) : Nat := (List.range J.length).countP (fun p : Nat => decide (ld (p : Int) = (p : Int)))
theorem countP_le {P Q : Nat → Bool} {l : List Nat} (h : ∀ x ∈ l, P x = true → Q x = true) : l.countP P ≤ l.countP Q := List.countP_mono_left h
theorem countP_lt {P Q : Nat → Bool} {l : List Nat} (h : ∀ x ∈ l, P x = true → Q x = true) {y : Nat} (hy : y ∈ l) (h1 : Q y = true) (h2 : P y = false) : l.countP P < l.countP Q := by
  induction l with
  | nil => simp at hy
  | cons a r ih =>
    have ha := h a (by simp)
    have hr := countP_le (l := r) (fun x hx => h x (by simp [hx]))
    rw [List.countP_cons, List.countP_cons]
    rcases List.mem_cons.1 hy with e | e
    · subst e; simp [h1, h2]; omega
    · have := ih (fun x hx => h x (by simp [hx])) e
      by_cases hP : P a = true
      · simp [hP, ha hP]; exact this
      · simp [hP]; split <;> omega
theorem un_root {J : List Int} {ld : Int → Int} {p q : Int} (hq : ld q = q) (hpq : p ≠ q) {x : Int} (h : un p q ld x = x) : ld x = x := by
  unfold un at h
  split at h
  · rename_i e; subst h; exact absurd (hq.symm.trans e).symm hpq
  · exact h
theorem roots_le {J : List Int} {ld : Int → Int} {p q : Int} (hq : ld q = q) (hpq : p ≠ q) : roots J (un p q ld) ≤ roots J ld :=
  countP_le (fun x _ h => by simp only [decide_eq_true_eq] at h ⊢; exact un_root (J := J) hq hpq h)
theorem roots_lt {J : List Int} {ld : Int → Int} {p : Nat} {q : Int} (hq : ld q = q) (hpq : (p : Int) ≠ q) (hp : ld p = p) (hl : p < J.length) : roots J (un p q ld) < roots J ld :=
  countP_lt (y := p) (fun x _ h => by simp only [decide_eq_true_eq] at h ⊢; exact un_root (J := J) hq hpq h) (by simpa using hl) (by simpa using hp) (by unfold un; simp [hp]; exact fun e => hpq e.symm)
def runsN : List (Nat × Nat × Nat) → Nat
  | [] => 0
  | r :: t => r.2.1 - r.1 + 1 + runsN t
theorem part_nat {J : List Int} {p : Nat} (h : p < J.length) : UPart J p := by unfold UPart; omega
/-- It ends, and keeps to leaders. -/
theorem uni_ends {L : List Sym} {J : List Int} (hT : Trs L J) : ∀ (n : Nat) (ld : Int → Int) (rs : List (Nat × Nat × Nat)), LdOk J ld → (∀ r ∈ rs, RunOk L J r) → (J.length + 1) * roots J ld + runsN rs < n → ∃ r, uniF L J n ld rs = some r ∧ ∀ ld', r = some ld' → LdOk J ld' := by
  intro n
  induction n with
  | zero => intro ld rs _ _ h; omega
  | succ n ih =>
    intro ld rs hl hr hn
    cases rs with
    | nil => exact ⟨_, rfl, fun ld' e => by cases e; exact hl⟩
    | cons r rs =>
      obtain ⟨x, y, o⟩ := r
      have hr2 : ∀ r ∈ rs, RunOk L J r := fun r h => hr r (by simp [h])
      rw [uniF]
      simp only [runsN] at hn
      by_cases hxy : x < y
      · rw [if_pos hxy]
        obtain ⟨s1, s2, s3, s4, s5, s6⟩ := (hr (x, y, o) (by simp)).step hxy
        have hr3 : ∀ r ∈ (endN L J x, y, endN L J o) :: rs, RunOk L J r := fun r h => by
          rcases List.mem_cons.1 h with e | e
          · rw [e]; exact s6
          · exact hr2 r e
        have px := part_nat (J := J) (p := x) (by omega)
        have po := part_nat (J := J) (p := o) s4
        have hlx := hl.idem _ px
        have hlo := hl.idem _ po
        have hpx := hl.part _ px
        have hpo := hl.part _ po
        by_cases h1 : ld x = ld o
        · rw [if_pos h1]; exact ih ld _ hl hr3 (by simp only [runsN]; omega)
        · rw [if_neg h1]
          have h1' : ld o ≠ ld x := fun e => h1 e.symm
          by_cases h2 : ld x < 0
          · rw [if_pos h2]
            have := Nat.mul_le_mul_left (J.length + 1) (roots_le (J := J) (p := ld x) hlo h1)
            exact ih _ _ (hl.un hlx hlo hpo h1 (hl.sym _ po) (fun f => by omega)) hr3 (by simp only [runsN]; omega)
          · rw [if_neg h2]
            by_cases h3 : ld o < 0
            · rw [if_pos h3]
              have := Nat.mul_le_mul_left (J.length + 1) (roots_le (J := J) (p := ld o) hlx h1')
              exact ih _ _ (hl.un hlo hlx hpx h1' (hl.sym _ px) (fun f => by omega)) hr3 (by simp only [runsN]; omega)
            · rw [if_neg h3]
              by_cases h4 : at' J (ld x) ≠ at' J (ld o)
              · rw [if_pos h4]; exact ⟨_, rfl, fun ld' e => by cases e⟩
              · rw [if_neg h4]
                have h4 : at' J (ld x) = at' J (ld o) := by simpa using h4
                obtain ⟨p, hp⟩ := Int.eq_ofNat_of_zero_le (Int.not_lt.1 h2)
                obtain ⟨q, hq⟩ := Int.eq_ofNat_of_zero_le (Int.not_lt.1 h3)
                have hpl : p < J.length := by have := hpx.2; omega
                have hql : q < J.length := by have := hpo.2; omega
                have hlt := roots_lt (J := J) (ld := ld) (p := p) (q := ld o) hlo (by rw [← hp]; exact h1) (by rw [← hp]; exact hlx) hpl
                rw [← hp] at hlt
                have := Nat.mul_le_mul_left (J.length + 1) (Nat.succ_le_of_lt hlt)
                rw [Nat.succ_eq_add_one, Nat.mul_add, Nat.mul_one] at this
                have hpe := hT.lt hpl
                have e1 : (ld x).toNat = p := by omega
                have e2 : (ld o).toNat = q := by omega
                refine ih _ _ (hl.un hlx hlo hpo h1 (hl.sym _ po) (fun _ => ⟨by omega, h4.symm⟩)) ?_ ?_
                · intro r h
                  rcases List.mem_cons.1 h with e | e
                  · rw [e, e1, e2]
                    rw [hp, hq, at'_nat J p hpl, at'_nat J q hql] at h4
                    exact RunOk.kids hT hpl hql h4
                  · exact hr3 r e
                · simp only [runsN, e1]; omega
      · rw [if_neg hxy]
        exact ih ld rs hl hr2 (by omega)
end Go.Proofs.Ythhcnllabhfejaa
