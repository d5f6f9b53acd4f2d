/- What the walk that makes terms the same comes to: all that must be the same is so, and nothing else. -/
import Derived.Test.YthhcnllabhfejaaUniSol
namespace Go.Proofs.Ythhcnllabhfejaa
set_option linter.unusedVariables false
/-! ### nothing is left out -/
/-- The parts of a run are alike, pair by pair. -/
def PairEq (L : List Sym) (J : List Int) (φ : Int → Int) (r : Nat × Nat × Nat) : Prop := ∀ k z, Forest L J k r.1 r.2.1 → Forest L J k r.2.2 z → ∀ i, i < k → φ (past L J i r.1 : Nat) = φ (past L J i r.2.2 : Nat)
def Compat (J : List Int) (φ ld : Int → Int) : Prop := ∀ x, UPart J x → φ (ld x) = φ x
theorem pair_back {L : List Sym} {J : List Int} {φ : Int → Int} {x y o : Nat} (hxy : x < y) (h1 : φ x = φ o) (h : PairEq L J φ (endN L J x, y, endN L J o)) : PairEq L J φ (x, y, o) := by
  intro k z f1 f2 i hi
  cases k with
  | zero => omega
  | succ k =>
    obtain ⟨_, _, a3⟩ := f1.succ
    obtain ⟨_, _, b3⟩ := f2.succ
    cases i with
    | zero => exact h1
    | succ i => exact h k z a3 b3 i (by omega)
/-- What holds on the way. -/
def Inv (L : List Sym) (J : List Int) (m : Nat) (ld : Int → Int) (rs : List (Nat × Nat × Nat)) : Prop := ∀ φ : Int → Int, Compat J φ ld → (∀ r ∈ rs, PairEq L J φ r) → φ 0 = φ m ∧ ∀ P : Nat, P < J.length → 0 ≤ at' J P → ∀ i, i < arN L (at' J P) → φ (past L J i (P + 1) : Nat) = φ (past L J i ((ld P).toNat + 1) : Nat)
theorem compat_un {J : List Int} {φ ld : Int → Int} {p q : Int} (hl : LdOk J ld) (hp : UPart J p) (lp : ld p = p) (h : Compat J φ (un p q ld)) : φ p = φ q ∧ Compat J φ ld := by
  have e : φ p = φ q := by
    have := h p hp
    unfold un at this
    rw [if_pos lp] at this
    exact this.symm
  refine ⟨e, fun x hx => ?_⟩
  have := h x hx
  unfold un at this
  by_cases f : ld x = p
  · rw [if_pos f] at this; rw [f, e]; exact this
  · rw [if_neg f] at this; exact this
theorem uni_inv {L : List Sym} {J : List Int} {m : Nat} : ∀ (n : Nat) (ld : Int → Int) (rs : List (Nat × Nat × Nat)) (ldf : Int → Int), UOk L J (some ldf) n ld rs → Inv L J m ld rs → Inv L J m ldf [] := by
  intro n
  induction n with
  | zero => intro ld rs ldf h _; have := h.eq; simp [uniF] at this
  | succ n ih =>
    intro ld rs ldf h hI
    cases rs with
    | nil =>
      have := h.nil
      simp only [Option.some.injEq] at this
      rw [this]; exact hI
    | cons r rs =>
      obtain ⟨x, y, o⟩ := r
      by_cases hxy : x < y
      · obtain ⟨k', hk', S1, S2, S3, S4, S5⟩ := h.step hxy
        obtain ⟨t1, t2, t3, t4, hpx, hpo, hlx, hlo, hr⟩ := h.top hxy
        have px := part_nat (J := J) (p := x) t1
        have po := part_nat (J := J) (p := o) t2
        obtain rfl : k' = n := by omega
        have rest : ∀ (φ : Int → Int), Compat J φ ld → φ (ld x) = φ (ld o) → (∀ r ∈ (endN L J x, y, endN L J o) :: rs, PairEq L J φ r) → ∀ r ∈ (x, y, o) :: rs, PairEq L J φ r := by
          intro φ hc he hp r hr
          rcases List.mem_cons.1 hr with e | e
          · rw [e]
            refine pair_back hxy ?_ (hp _ (by simp))
            rw [← hc x px, ← hc o po, he]
          · exact hp r (by simp [e])
        by_cases h1 : ld x = ld o
        · exact ih _ _ _ (S1 h1) (fun φ hc hp => hI φ hc (rest φ hc (by rw [h1]) hp))
        · by_cases h2 : ld x < 0
          · refine ih _ _ _ (S2 h1 h2) (fun φ hc hp => ?_)
            obtain ⟨e, hc'⟩ := compat_un h.ok hpx hlx hc
            obtain ⟨a1, a2⟩ := hI φ hc' (rest φ hc' e hp)
            refine ⟨a1, fun P hP hs i hi => ?_⟩
            have hl := (h.ok.like P (part_nat hP) (by omega) hs).1
            have : un (ld x) (ld o) ld P = ld P := by unfold un; rw [if_neg (by omega)]
            rw [this]; exact a2 P hP hs i hi
          · by_cases h3 : ld o < 0
            · refine ih _ _ _ (S3 h1 h2 h3) (fun φ hc hp => ?_)
              obtain ⟨e, hc'⟩ := compat_un h.ok hpo hlo hc
              obtain ⟨a1, a2⟩ := hI φ hc' (rest φ hc' e.symm hp)
              refine ⟨a1, fun P hP hs i hi => ?_⟩
              have hl := (h.ok.like P (part_nat hP) (by omega) hs).1
              have : un (ld o) (ld x) ld P = ld P := by unfold un; rw [if_neg (by omega)]
              rw [this]; exact a2 P hP hs i hi
            · by_cases h4 : at' J (ld x) = at' J (ld o)
              · refine ih _ _ _ (S5 h1 h2 h3 h4) (fun φ hc hp => ?_)
                obtain ⟨e, hc'⟩ := compat_un h.ok hpx hlx hc
                obtain ⟨a1, a2⟩ := hI φ hc' (rest φ hc' e (fun r hr => hp r (by simp at hr ⊢; exact .inr hr)))
                refine ⟨a1, fun P hP hs i hi => ?_⟩
                by_cases f : ld P = ld x
                · have e1 : un (ld x) (ld o) ld P = ld o := by unfold un; rw [if_pos f]
                  have h5 := a2 P hP hs i hi
                  rw [f] at h5
                  rw [h5, e1]
                  have hl := (h.ok.like P (part_nat hP) (by omega) hs)
                  rw [f] at hl
                  have hpl : (ld x).toNat < J.length := by have := hpx.2; omega
                  have hql : (ld o).toNat < J.length := by have := hpo.2; omega
                  have f1 := kids_forest h.trs hpl
                  have f2 := kids_forest h.trs hql
                  have c1 : (((ld x).toNat : Nat) : Int) = ld x := by omega
                  have c2 : (((ld o).toNat : Nat) : Int) = ld o := by omega
                  rw [c1] at f1
                  rw [c2, ← h4] at f2
                  exact hp ((ld x).toNat + 1, endN L J (ld x).toNat, (ld o).toNat + 1) (by simp) _ _ f1 f2 i (by rw [hl.2]; exact hi)
                · have e1 : un (ld x) (ld o) ld P = ld P := by unfold un; rw [if_neg f]
                  rw [e1]; exact a2 P hP hs i hi
              · have := S4 h1 h2 h3 h4; cases this
      · obtain ⟨k', hk', hU⟩ := h.pop hxy
        obtain rfl : k' = n := by omega
        refine ih _ _ _ hU (fun φ hc hp => hI φ hc (fun r hr => ?_))
        rcases List.mem_cons.1 hr with e | e
        · rw [e]
          intro k z f1 f2 i hi
          have := f1.le
          cases k with
          | zero => omega
          | succ k => have := f1.pos; simp only at this; omega
        · exact hp r e
theorem inv_start {L : List Sym} {J : List Int} (hT : Trs L J) {m : Nat} (h0 : 0 < J.length) (hm : m < J.length) : Inv L J m (ld0 J) [(0, endN L J 0, m)] := by
  intro φ hc hp
  refine ⟨hp (0, endN L J 0, m) (by simp) 1 _ (hT 0 h0) (hT m hm) 0 (by omega), fun P hP hs i hi => ?_⟩
  have : ld0 J (P : Int) = P := by unfold ld0; rw [if_neg (by omega)]
  rw [this, Int.toNat_natCast]
/-- All that must be the same is so. -/
structure Closed (L : List Sym) (J : List Int) (m : Nat) (ld : Int → Int) : Prop where
  trs : Trs L J
  ok : LdOk J ld
  both : ld 0 = ld m
  args : ∀ P : Nat, P < J.length → 0 ≤ at' J P → ∀ i, i < arN L (at' J P) → ld (past L J i (P + 1) : Nat) = ld (past L J i ((ld P).toNat + 1) : Nat)
  var : ∀ P : Nat, P < J.length → at' J P < 0 → ld P = ld (at' J P)
theorem uni_var {L : List Sym} {J : List Int} {P : Nat} (hP : P < J.length) (hv : UPart J (at' J P)) : ∀ (n : Nat) (ld : Int → Int) (rs : List (Nat × Nat × Nat)) (ldf : Int → Int), UOk L J (some ldf) n ld rs → ld P = ld (at' J P) → ldf P = ldf (at' J P) := by
  have hun : ∀ (p q : Int) (ld : Int → Int), ld P = ld (at' J P) → un p q ld P = un p q ld (at' J P) := fun p q ld e => by unfold un; rw [e]
  intro n
  induction n with
  | zero => intro ld rs ldf h _; have := h.eq; simp [uniF] at this
  | succ n ih =>
    intro ld rs ldf h hI
    cases rs with
    | nil =>
      have := h.nil
      simp only [Option.some.injEq] at this
      rw [this]; exact hI
    | cons r rs =>
      obtain ⟨x, y, o⟩ := r
      by_cases hxy : x < y
      · obtain ⟨k', hk', S1, S2, S3, S4, S5⟩ := h.step hxy
        obtain rfl : k' = n := by omega
        by_cases h1 : ld x = ld o
        · exact ih _ _ _ (S1 h1) hI
        · by_cases h2 : ld x < 0
          · exact ih _ _ _ (S2 h1 h2) (hun _ _ _ hI)
          · by_cases h3 : ld o < 0
            · exact ih _ _ _ (S3 h1 h2 h3) (hun _ _ _ hI)
            · by_cases h4 : at' J (ld x) = at' J (ld o)
              · exact ih _ _ _ (S5 h1 h2 h3 h4) (hun _ _ _ hI)
              · have := S4 h1 h2 h3 h4; cases this
      · obtain ⟨k', hk', hU⟩ := h.pop hxy
        obtain rfl : k' = n := by omega
        exact ih _ _ _ hU hI
theorem uni_final {L : List Sym} {J : List Int} : ∀ (n : Nat) (ld : Int → Int) (rs : List (Nat × Nat × Nat)) (ldf : Int → Int), UOk L J (some ldf) n ld rs → LdOk J ldf := by
  intro n
  induction n with
  | zero => intro ld rs ldf h; have := h.eq; simp [uniF] at this
  | succ n ih =>
    intro ld rs ldf h
    cases rs with
    | nil =>
      have := h.nil
      simp only [Option.some.injEq] at this
      rw [this]; exact h.ok
    | cons r rs =>
      obtain ⟨x, y, o⟩ := r
      by_cases hxy : x < y
      · obtain ⟨k', hk', S1, S2, S3, S4, S5⟩ := h.step hxy
        obtain rfl : k' = n := by omega
        by_cases h1 : ld x = ld o
        · exact ih _ _ _ (S1 h1)
        · by_cases h2 : ld x < 0
          · exact ih _ _ _ (S2 h1 h2)
          · by_cases h3 : ld o < 0
            · exact ih _ _ _ (S3 h1 h2 h3)
            · by_cases h4 : at' J (ld x) = at' J (ld o)
              · exact ih _ _ _ (S5 h1 h2 h3 h4)
              · have := S4 h1 h2 h3 h4; cases this
      · obtain ⟨k', hk', hU⟩ := h.pop hxy
        obtain rfl : k' = n := by omega
        exact ih _ _ _ hU
theorem closed_of {L : List Sym} {J : List Int} (hv : ∀ x ∈ J, -198 ≤ x) {m n : Nat} (h0 : 0 < J.length) (hm : m < J.length) {ldf : Int → Int} (h : UOk L J (some ldf) n (ld0 J) [(0, endN L J 0, m)]) : Closed L J m ldf := by
  have hl := uni_final _ _ _ _ h
  obtain ⟨a1, a2⟩ := uni_inv _ _ _ _ h (inv_start h.trs h0 hm) ldf (fun x hx => hl.idem x hx) (by simp)
  refine ⟨h.trs, hl, a1, a2, fun P hP hs => ?_⟩
  have hpt : UPart J (at' J P) := by
    refine ⟨?_, by omega⟩
    rw [at'_nat J P hP]; exact hv _ (List.getElem_mem _)
  refine uni_var hP hpt _ _ _ _ h ?_
  have e1 : ld0 J (P : Int) = at' J P := by unfold ld0; rw [if_pos ⟨by omega, hs⟩]
  have e2 : ld0 J (at' J P) = at' J P := by unfold ld0; rw [if_neg (by omega)]
  rw [e1, e2]
/-! ### nothing too much -/
/-- Pairs of a run have the same value. -/
def PairEx {X : Type} (L : List Sym) (J : List Int) (val : Int → X) (r : Nat × Nat × Nat) : Prop := ∃ k z, Forest L J k r.1 r.2.1 ∧ Forest L J k r.2.2 z ∧ ∀ i, i < k → val (past L J i r.1 : Nat) = val (past L J i r.2.2 : Nat)
/-- Values of parts that tell symbols and arguments apart. -/
def Inj {X : Type} (L : List Sym) (J : List Int) (val : Int → X) : Prop := ∀ p q : Nat, p < J.length → q < J.length → 0 ≤ at' J p → 0 ≤ at' J q → val p = val q → at' J p = at' J q ∧ ∀ i, i < arN L (at' J p) → val (past L J i (p + 1) : Nat) = val (past L J i (q + 1) : Nat)
theorem uni_least {X : Type} {L : List Sym} {J : List Int} {val : Int → X} (hin : Inj L J val) : ∀ (n : Nat) (ld : Int → Int) (rs : List (Nat × Nat × Nat)) (res : Option (Int → Int)), UOk L J res n ld rs → (∀ x, UPart J x → val (ld x) = val x) → (∀ r ∈ rs, PairEx L J val r) → ∃ ldf, res = some ldf ∧ ∀ x, UPart J x → val (ldf x) = val x := by
  intro n
  induction n with
  | zero => intro ld rs res h; have := h.eq; simp [uniF] at this
  | succ n ih =>
    intro ld rs res h hv hp
    cases rs with
    | nil => exact ⟨ld, h.nil, hv⟩
    | cons r rs =>
      obtain ⟨x, y, o⟩ := r
      have hp2 : ∀ r ∈ rs, PairEx L J val r := fun r hr => hp r (by simp [hr])
      by_cases hxy : x < y
      · obtain ⟨k', hk', S1, S2, S3, S4, S5⟩ := h.step hxy
        obtain ⟨t1, t2, t3, t4, hpx, hpo, hlx, hlo, hr⟩ := h.top hxy
        have px := part_nat (J := J) (p := x) t1
        have po := part_nat (J := J) (p := o) t2
        obtain rfl : k' = n := by omega
        obtain ⟨k, z, f1, f2, f3⟩ := hp (x, y, o) (by simp)
        obtain ⟨c, rfl⟩ : ∃ c, k = c + 1 := by
          cases k with
          | zero => have := f1.zero; simp only at this; omega
          | succ c => exact ⟨c, rfl⟩
        have hxo : val x = val o := f3 0 (by omega)
        have hpp : val (ld x) = val (ld o) := by rw [hv x px, hv o po, hxo]
        have hp3 : ∀ r ∈ (endN L J x, y, endN L J o) :: rs, PairEx L J val r := by
          intro r hr
          rcases List.mem_cons.1 hr with e | e
          · rw [e]
            exact ⟨c, z, f1.succ.2.2, f2.succ.2.2, fun i hi => f3 (i + 1) (by omega)⟩
          · exact hp2 r e
        have hun : ∀ p q : Int, val p = val q → ∀ x, UPart J x → val (un p q ld x) = val x := by
          intro p q e x hx
          unfold un
          split
          · rename_i f; rw [← e, ← f]; exact hv x hx
          · exact hv x hx
        by_cases h1 : ld x = ld o
        · exact ih _ _ _ (S1 h1) hv hp3
        · by_cases h2 : ld x < 0
          · exact ih _ _ _ (S2 h1 h2) (hun _ _ hpp) hp3
          · by_cases h3 : ld o < 0
            · exact ih _ _ _ (S3 h1 h2 h3) (hun _ _ hpp.symm) hp3
            · have hpl : (ld x).toNat < J.length := by have := hpx.2; omega
              have hql : (ld o).toNat < J.length := by have := hpo.2; omega
              have c1 : (((ld x).toNat : Nat) : Int) = ld x := by omega
              have c2 : (((ld o).toNat : Nat) : Int) = ld o := by omega
              have hh := hin (ld x).toNat (ld o).toNat hpl hql (by rw [c1]; exact h.ok.sym x px (by omega)) (by rw [c2]; exact h.ok.sym o po (by omega)) (by rw [c1, c2]; exact hpp)
              rw [c1, c2] at hh
              refine ih _ _ _ (S5 h1 h2 h3 hh.1) (hun _ _ hpp) (fun r hr => ?_)
              rcases List.mem_cons.1 hr with e | e
              · rw [e]
                have g1 := kids_forest h.trs hpl
                have g2 := kids_forest h.trs hql
                rw [c1] at g1
                rw [c2, ← hh.1] at g2
                exact ⟨_, _, g1, g2, hh.2⟩
              · exact hp3 r e
      · obtain ⟨k', hk', hU⟩ := h.pop hxy
        obtain rfl : k' = n := by omega
        exact ih _ _ _ hU hv hp2
end Go.Proofs.Ythhcnllabhfejaa
