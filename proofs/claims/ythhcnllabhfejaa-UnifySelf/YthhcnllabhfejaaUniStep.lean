/- One step of the walk that makes terms the same, in plain words. -/
import Derived.Test.YthhcnllabhfejaaUniPlain
namespace Go.Proofs.Ythhcnllabhfejaa
set_option linter.unusedVariables false
/-- What stands while runs are gone through: all comes to res. -/
structure UOk (L : List Sym) (J : List Int) (res : Option (Int → Int)) (k : Nat) (ld : Int → Int) (rs : List (Nat × Nat × Nat)) : Prop where
  trs : Trs L J
  ok : LdOk J ld
  runs : ∀ r ∈ rs, RunOk L J r
  eq : uniF L J k ld rs = some res
  len : rs.length + roots J ld ≤ J.length + 1
theorem UOk.nil {L : List Sym} {J : List Int} {res : Option (Int → Int)} {k : Nat} {ld : Int → Int} (h : UOk L J res k ld []) : res = some ld := by
  have := h.eq
  cases k with
  | zero => simp [uniF] at this
  | succ k => simp [uniF] at this; exact this.symm
theorem UOk.pop {L : List Sym} {J : List Int} {res : Option (Int → Int)} {k : Nat} {ld : Int → Int} {x y o : Nat} {rs : List (Nat × Nat × Nat)} (h : UOk L J res k ld ((x, y, o) :: rs)) (hxy : ¬ x < y) : ∃ k', k = k' + 1 ∧ UOk L J res k' ld rs := by
  have := h.eq
  cases k with
  | zero => simp [uniF] at this
  | succ k =>
    rw [uniF, if_neg hxy] at this
    exact ⟨k, rfl, h.trs, h.ok, fun r hr => h.runs r (by simp [hr]), this, by have := h.len; simp at this; omega⟩
/-- The run at the top. -/
theorem UOk.top {L : List Sym} {J : List Int} {res : Option (Int → Int)} {k : Nat} {ld : Int → Int} {x y o : Nat} {rs : List (Nat × Nat × Nat)} (h : UOk L J res k ld ((x, y, o) :: rs)) (hxy : x < y) : x < J.length ∧ o < J.length ∧ endN L J x ≤ J.length ∧ endN L J o ≤ J.length ∧ UPart J (ld x) ∧ UPart J (ld o) ∧ ld (ld x) = ld x ∧ ld (ld o) = ld o ∧ (∀ r ∈ (endN L J x, y, endN L J o) :: rs, RunOk L J r) := by
  obtain ⟨s1, s2, s3, s4, s5, s6⟩ := (h.runs (x, y, o) (by simp)).step hxy
  have px := part_nat (J := J) (p := x) (by omega)
  have po := part_nat (J := J) (p := o) s4
  refine ⟨by omega, s4, by omega, (h.trs.lt s4).2, h.ok.part _ px, h.ok.part _ po, h.ok.idem _ px, h.ok.idem _ po, fun r hr => ?_⟩
  rcases List.mem_cons.1 hr with e | e
  · rw [e]; exact s6
  · exact h.runs r (by simp [e])
theorem UOk.step {L : List Sym} {J : List Int} {res : Option (Int → Int)} {k : Nat} {ld : Int → Int} {x y o : Nat} {rs : List (Nat × Nat × Nat)} (h : UOk L J res k ld ((x, y, o) :: rs)) (hxy : x < y) : ∃ k', k = k' + 1 ∧
    (ld x = ld o → UOk L J res k' ld ((endN L J x, y, endN L J o) :: rs)) ∧
    (ld x ≠ ld o → ld x < 0 → UOk L J res k' (un (ld x) (ld o) ld) ((endN L J x, y, endN L J o) :: rs)) ∧
    (ld x ≠ ld o → ¬ ld x < 0 → ld o < 0 → UOk L J res k' (un (ld o) (ld x) ld) ((endN L J x, y, endN L J o) :: rs)) ∧
    (ld x ≠ ld o → ¬ ld x < 0 → ¬ ld o < 0 → at' J (ld x) ≠ at' J (ld o) → res = none) ∧
    (ld x ≠ ld o → ¬ ld x < 0 → ¬ ld o < 0 → at' J (ld x) = at' J (ld o) → UOk L J res k' (un (ld x) (ld o) ld) (((ld x).toNat + 1, endN L J (ld x).toNat, (ld o).toNat + 1) :: (endN L J x, y, endN L J o) :: rs)) := by
  have heq := h.eq
  have hlen := h.len
  obtain ⟨t1, t2, t3, t4, hpx, hpo, hlx, hlo, hr⟩ := h.top hxy
  have px := part_nat (J := J) (p := x) t1
  have po := part_nat (J := J) (p := o) t2
  simp at hlen
  cases k with
  | zero => simp [uniF] at heq
  | succ k =>
    rw [uniF, if_pos hxy] at heq
    refine ⟨k, rfl, ?_, ?_, ?_, ?_, ?_⟩
    · intro h1; rw [if_pos h1] at heq
      exact ⟨h.trs, h.ok, hr, heq, by simp; omega⟩
    · intro h1 h2
      rw [if_neg h1, if_pos h2] at heq
      have := roots_le (J := J) (p := ld x) hlo h1
      exact ⟨h.trs, h.ok.un hlx hlo hpo h1 (h.ok.sym _ po) (fun f => by omega), hr, heq, by simp; omega⟩
    · intro h1 h2 h3
      have h1' : ld o ≠ ld x := fun e => h1 e.symm
      rw [if_neg h1, if_neg h2, if_pos h3] at heq
      have := roots_le (J := J) (p := ld o) hlx h1'
      exact ⟨h.trs, h.ok.un hlo hlx hpx h1' (h.ok.sym _ px) (fun f => by omega), hr, heq, by simp; omega⟩
    · intro h1 h2 h3 h4
      rw [if_neg h1, if_neg h2, if_neg h3, if_pos h4] at heq
      simp at heq; exact heq.symm
    · intro h1 h2 h3 h4
      rw [if_neg h1, if_neg h2, if_neg h3, if_neg (by simpa using h4)] at heq
      obtain ⟨p, hp⟩ := Int.eq_ofNat_of_zero_le (Int.not_lt.1 h2)
      obtain ⟨q, hq⟩ := Int.eq_ofNat_of_zero_le (Int.not_lt.1 h3)
      have hpl : p < J.length := by have := hpx.2; omega
      have hql : q < J.length := by have := hpo.2; omega
      have hlt := roots_lt (J := J) (ld := ld) (p := p) (q := ld o) hlo (by rw [← hp]; exact h1) (by rw [← hp]; exact hlx) hpl
      rw [← hp] at hlt
      refine ⟨h.trs, h.ok.un hlx hlo hpo h1 (h.ok.sym _ po) (fun _ => ⟨by omega, h4.symm⟩), ?_, heq, by simp; omega⟩
      intro r hr'
      rcases List.mem_cons.1 hr' with e | e
      · rw [e, show (ld x).toNat = p by omega, show (ld o).toNat = q by omega]
        rw [hp, hq, at'_nat J p hpl, at'_nat J q hql] at h4
        exact RunOk.kids h.trs hpl hql h4
      · exact hr r e
theorem roots_len (J : List Int) (ld : Int → Int) : roots J ld ≤ J.length := by
  have := List.countP_le_length (p := fun p : Nat => decide (ld (p : Int) = (p : Int))) (l := List.range J.length)
  simpa [roots] using this
end Go.Proofs.Ythhcnllabhfejaa
