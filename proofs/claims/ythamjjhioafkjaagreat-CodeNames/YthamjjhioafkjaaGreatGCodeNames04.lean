import Derived.Test.YthamjjhioafkjaaGreatGCodeNames03
import Derived.Test.YthamjjhioafkjaaGreatGCodeNames01
import Derived.Laws.CopyOwn
namespace Go.Proofs.YthamjjhioafkjaaGreat
set_option linter.unusedVariables false
def PairEq (L : List Sym) (J : List Int) (φ : Int → Int) (r : Nat × Nat × Nat) : Prop := ∀ k z, Forest L J k r.1 r.2.1 → Forest L J k r.2.2 z → ∀ i, i < k → φ (past L J i r.1 : Nat) = φ (past L J i r.2.2 : Nat)
def Compat (J : List Int) (φ ld : Int → Int) : Prop := ∀ x, UPart J x → φ (ld x) = φ x
theorem pair_back {L : List Sym} {J : List Int} {φ : Int → Int} {x y o : Nat} (hxy : x < y) (h1 : φ x = φ o) (h : PairEq L J φ (endN L J x, y, endN L J o)) : PairEq L J φ (x, y, o) := by
  intro k z f1 f2 i hi
  cases k with
  | zero => omega
  | succ k =>
    obtain ⟨_, _, a3⟩ := f1.succ
    obtain ⟨_, _, b3⟩ := f2.succ
    cases i with
    | zero => exact h1
    | succ i => exact h k z a3 b3 i (by omega)
def Inv (L : List Sym) (J : List Int) (m : Nat) (ld : Int → Int) (rs : List (Nat × Nat × Nat)) : Prop := ∀ φ : Int → Int, Compat J φ ld → (∀ r ∈ rs, PairEq L J φ r) → φ 0 = φ m ∧ ∀ P : Nat, P < J.length → 0 ≤ at' J P → ∀ i, i < arN L (at' J P) → φ (past L J i (P + 1) : Nat) = φ (past L J i ((ld P).toNat + 1) : Nat)
theorem compat_un {J : List Int} {φ ld : Int → Int} {p q : Int} (hl : LdOk J ld) (hp : UPart J p) (lp : ld p = p) (h : Compat J φ (un p q ld)) : φ p = φ q ∧ Compat J φ ld := by
  have e : φ p = φ q := by
    have := h p hp
    unfold un at this
    rw [if_pos lp] at this
    exact this.symm
  refine ⟨e, fun x hx => ?_⟩
  have := h x hx
  unfold un at this
  by_cases f : ld x = p
  · rw [if_pos f] at this; rw [f, e]; exact this
  · rw [if_neg f] at this; exact this
theorem uni_inv {L : List Sym} {J : List Int} {m : Nat} : ∀ (n : Nat) (ld : Int → Int) (rs : List (Nat × Nat × Nat)) (ldf : Int → Int), UOk L J (some ldf) n ld rs → Inv L J m ld rs → Inv L J m ldf [] := by
  intro n
  induction n with
  | zero => intro ld rs ldf h _; have := h.eq; simp [uniF] at this
  | succ n ih =>
    intro ld rs ldf h hI
    cases rs with
    | nil =>
      have := h.nil
      simp only [Option.some.injEq] at this
      rw [this]; exact hI
    | cons r rs =>
      obtain ⟨x, y, o⟩ := r
      by_cases hxy : x < y
      · obtain ⟨k', hk', S1, S2, S3, S4, S5⟩ := h.step hxy
        obtain ⟨t1, t2, t3, t4, hpx, hpo, hlx, hlo, hr⟩ := h.top hxy
        have px := part_nat (J := J) (p := x) t1
        have po := part_nat (J := J) (p := o) t2
        obtain rfl : k' = n := by omega
        have rest : ∀ (φ : Int → Int), Compat J φ ld → φ (ld x) = φ (ld o) → (∀ r ∈ (endN L J x, y, endN L J o) :: rs, PairEq L J φ r) → ∀ r ∈ (x, y, o) :: rs, PairEq L J φ r := by
          intro φ hc he hp r hr
          rcases List.mem_cons.1 hr with e | e
          · rw [e]
            refine pair_back hxy ?_ (hp _ (by simp))
            rw [← hc x px, ← hc o po, he]
          · exact hp r (by simp [e])
        by_cases h1 : ld x = ld o
        · exact ih _ _ _ (S1 h1) (fun φ hc hp => hI φ hc (rest φ hc (by rw [h1]) hp))
        · by_cases h2 : ld x < 0
          · refine ih _ _ _ (S2 h1 h2) (fun φ hc hp => ?_)
            obtain ⟨e, hc'⟩ := compat_un h.ok hpx hlx hc
            obtain ⟨a1, a2⟩ := hI φ hc' (rest φ hc' e hp)
            refine ⟨a1, fun P hP hs i hi => ?_⟩
            have hl := (h.ok.like P (part_nat hP) (by omega) hs).1
            have : un (ld x) (ld o) ld P = ld P := by unfold un; rw [if_neg (by omega)]
            rw [this]; exact a2 P hP hs i hi
          · by_cases h3 : ld o < 0
            · refine ih _ _ _ (S3 h1 h2 h3) (fun φ hc hp => ?_)
              obtain ⟨e, hc'⟩ := compat_un h.ok hpo hlo hc
              obtain ⟨a1, a2⟩ := hI φ hc' (rest φ hc' e.symm hp)
              refine ⟨a1, fun P hP hs i hi => ?_⟩
              have hl := (h.ok.like P (part_nat hP) (by omega) hs).1
              have : un (ld o) (ld x) ld P = ld P := by unfold un; rw [if_neg (by omega)]
              rw [this]; exact a2 P hP hs i hi
            · by_cases h4 : at' J (ld x) = at' J (ld o)
              · refine ih _ _ _ (S5 h1 h2 h3 h4) (fun φ hc hp => ?_)
                obtain ⟨e, hc'⟩ := compat_un h.ok hpx hlx hc
                obtain ⟨a1, a2⟩ := hI φ hc' (rest φ hc' e (fun r hr => hp r (by simp at hr ⊢; exact .inr hr)))
                refine ⟨a1, fun P hP hs i hi => ?_⟩
                by_cases f : ld P = ld x
                · have e1 : un (ld x) (ld o) ld P = ld o := by unfold un; rw [if_pos f]
                  have h5 := a2 P hP hs i hi
                  rw [f] at h5
                  rw [h5, e1]
                  have hl := (h.ok.like P (part_nat hP) (by omega) hs)
                  rw [f] at hl
                  have hpl : (ld x).toNat < J.length := by have := hpx.2; omega
                  have hql : (ld o).toNat < J.length := by have := hpo.2; omega
                  have f1 := kids_forest h.trs hpl
                  have f2 := kids_forest h.trs hql
                  have c1 : (((ld x).toNat : Nat) : Int) = ld x := by omega
                  have c2 : (((ld o).toNat : Nat) : Int) = ld o := by omega
                  rw [c1] at f1
                  rw [c2, ← h4] at f2
                  exact hp ((ld x).toNat + 1, endN L J (ld x).toNat, (ld o).toNat + 1) (by simp) _ _ f1 f2 i (by rw [hl.2]; exact hi)
                · have e1 : un (ld x) (ld o) ld P = ld P := by unfold un; rw [if_neg f]
                  rw [e1]; exact a2 P hP hs i hi
              · have := S4 h1 h2 h3 h4; cases this
      · obtain ⟨k', hk', hU⟩ := h.pop hxy
        obtain rfl : k' = n := by omega
        refine ih _ _ _ hU (fun φ hc hp => hI φ hc (fun r hr => ?_))
        rcases List.mem_cons.1 hr with e | e
        · rw [e]
          intro k z f1 f2 i hi
          have := f1.le
          cases k with
          | zero => omega
          | succ k => have := f1.pos; simp only at this; omega
        · exact hp r e
theorem inv_start {L : List Sym} {J : List Int} (hT : Trs L J) {m : Nat} (h0 : 0 < J.length) (hm : m < J.length) : Inv L J m (ld0 J) [(0, endN L J 0, m)] := by
  intro φ hc hp
  refine ⟨hp (0, endN L J 0, m) (by simp) 1 _ (hT 0 h0) (hT m hm) 0 (by omega), fun P hP hs i hi => ?_⟩
  have : ld0 J (P : Int) = P := by unfold ld0; rw [if_neg (by omega)]
  rw [this, Int.toNat_natCast]
structure Closed (L : List Sym) (J : List Int) (m : Nat) (ld : Int → Int) : Prop where
  trs : Trs L J
  ok : LdOk J ld
  both : ld 0 = ld m
  args : ∀ P : Nat, P < J.length → 0 ≤ at' J P → ∀ i, i < arN L (at' J P) → ld (past L J i (P + 1) : Nat) = ld (past L J i ((ld P).toNat + 1) : Nat)
  var : ∀ P : Nat, P < J.length → at' J P < 0 → ld P = ld (at' J P)
theorem uni_var {L : List Sym} {J : List Int} {P : Nat} (hP : P < J.length) (hv : UPart J (at' J P)) : ∀ (n : Nat) (ld : Int → Int) (rs : List (Nat × Nat × Nat)) (ldf : Int → Int), UOk L J (some ldf) n ld rs → ld P = ld (at' J P) → ldf P = ldf (at' J P) := by
  have hun : ∀ (p q : Int) (ld : Int → Int), ld P = ld (at' J P) → un p q ld P = un p q ld (at' J P) := fun p q ld e => by unfold un; rw [e]
  intro n
  induction n with
  | zero => intro ld rs ldf h _; have := h.eq; simp [uniF] at this
  | succ n ih =>
    intro ld rs ldf h hI
    cases rs with
    | nil =>
      have := h.nil
      simp only [Option.some.injEq] at this
      rw [this]; exact hI
    | cons r rs =>
      obtain ⟨x, y, o⟩ := r
      by_cases hxy : x < y
      · obtain ⟨k', hk', S1, S2, S3, S4, S5⟩ := h.step hxy
        obtain rfl : k' = n := by omega
        by_cases h1 : ld x = ld o
        · exact ih _ _ _ (S1 h1) hI
        · by_cases h2 : ld x < 0
          · exact ih _ _ _ (S2 h1 h2) (hun _ _ _ hI)
          · by_cases h3 : ld o < 0
            · exact ih _ _ _ (S3 h1 h2 h3) (hun _ _ _ hI)
            · by_cases h4 : at' J (ld x) = at' J (ld o)
              · exact ih _ _ _ (S5 h1 h2 h3 h4) (hun _ _ _ hI)
              · have := S4 h1 h2 h3 h4; cases this
      · obtain ⟨k', hk', hU⟩ := h.pop hxy
        obtain rfl : k' = n := by omega
        exact ih _ _ _ hU hI
theorem uni_final {L : List Sym} {J : List Int} : ∀ (n : Nat) (ld : Int → Int) (rs : List (Nat × Nat × Nat)) (ldf : Int → Int), UOk L J (some ldf) n ld rs → LdOk J ldf := by
  intro n
  induction n with
  | zero => intro ld rs ldf h; have := h.eq; simp [uniF] at this
  | succ n ih =>
    intro ld rs ldf h
    cases rs with
    | nil =>
      have := h.nil
      simp only [Option.some.injEq] at this
      rw [this]; exact h.ok
    | cons r rs =>
      obtain ⟨x, y, o⟩ := r
      by_cases hxy : x < y
      · obtain ⟨k', hk', S1, S2, S3, S4, S5⟩ := h.step hxy
        obtain rfl : k' = n := by omega
        by_cases h1 : ld x = ld o
        · exact ih _ _ _ (S1 h1)
        · by_cases h2 : ld x < 0
          · exact ih _ _ _ (S2 h1 h2)
          · by_cases h3 : ld o < 0
            · exact ih _ _ _ (S3 h1 h2 h3)
            · by_cases h4 : at' J (ld x) = at' J (ld o)
              · exact ih _ _ _ (S5 h1 h2 h3 h4)
              · have := S4 h1 h2 h3 h4; cases this
      · obtain ⟨k', hk', hU⟩ := h.pop hxy
        obtain rfl : k' = n := by omega
        exact ih _ _ _ hU
theorem closed_of {L : List Sym} {J : List Int} (hv : ∀ x ∈ J, -198 ≤ x) {m n : Nat} (h0 : 0 < J.length) (hm : m < J.length) {ldf : Int → Int} (h : UOk L J (some ldf) n (ld0 J) [(0, endN L J 0, m)]) : Closed L J m ldf := by
  have hl := uni_final _ _ _ _ h
  obtain ⟨a1, a2⟩ := uni_inv _ _ _ _ h (inv_start h.trs h0 hm) ldf (fun x hx => hl.idem x hx) (by simp)
  refine ⟨h.trs, hl, a1, a2, fun P hP hs => ?_⟩
  have hpt : UPart J (at' J P) := by
    refine ⟨?_, by omega⟩
    rw [at'_nat J P hP]; exact hv _ (List.getElem_mem _)
  refine uni_var hP hpt _ _ _ _ h ?_
  have e1 : ld0 J (P : Int) = at' J P := by unfold ld0; rw [if_pos ⟨by omega, hs⟩]
  have e2 : ld0 J (at' J P) = at' J P := by unfold ld0; rw [if_neg (by omega)]
  rw [e1, e2]
def PairEx {X : Type} (L : List Sym) (J : List Int) (val : Int → X) (r : Nat × Nat × Nat) : Prop := ∃ k z, Forest L J k r.1 r.2.1 ∧ Forest L J k r.2.2 z ∧ ∀ i, i < k → val (past L J i r.1 : Nat) = val (past L J i r.2.2 : Nat)
def Inj {X : Type} (L : List Sym) (J : List Int) (val : Int → X) : Prop := ∀ p q : Nat, p < J.length → q < J.length → 0 ≤ at' J p → 0 ≤ at' J q → val p = val q → at' J p = at' J q ∧ ∀ i, i < arN L (at' J p) → val (past L J i (p + 1) : Nat) = val (past L J i (q + 1) : Nat)
theorem uni_least {X : Type} {L : List Sym} {J : List Int} {val : Int → X} (hin : Inj L J val) : ∀ (n : Nat) (ld : Int → Int) (rs : List (Nat × Nat × Nat)) (res : Option (Int → Int)), UOk L J res n ld rs → (∀ x, UPart J x → val (ld x) = val x) → (∀ r ∈ rs, PairEx L J val r) → ∃ ldf, res = some ldf ∧ ∀ x, UPart J x → val (ldf x) = val x := by
  intro n
  induction n with
  | zero => intro ld rs res h; have := h.eq; simp [uniF] at this
  | succ n ih =>
    intro ld rs res h hv hp
    cases rs with
    | nil => exact ⟨ld, h.nil, hv⟩
    | cons r rs =>
      obtain ⟨x, y, o⟩ := r
      have hp2 : ∀ r ∈ rs, PairEx L J val r := fun r hr => hp r (by simp [hr])
      by_cases hxy : x < y
      · obtain ⟨k', hk', S1, S2, S3, S4, S5⟩ := h.step hxy
        obtain ⟨t1, t2, t3, t4, hpx, hpo, hlx, hlo, hr⟩ := h.top hxy
        have px := part_nat (J := J) (p := x) t1
        have po := part_nat (J := J) (p := o) t2
        obtain rfl : k' = n := by omega
        obtain ⟨k, z, f1, f2, f3⟩ := hp (x, y, o) (by simp)
        obtain ⟨c, rfl⟩ : ∃ c, k = c + 1 := by
          cases k with
          | zero => have := f1.zero; simp only at this; omega
          | succ c => exact ⟨c, rfl⟩
        have hxo : val x = val o := f3 0 (by omega)
        have hpp : val (ld x) = val (ld o) := by rw [hv x px, hv o po, hxo]
        have hp3 : ∀ r ∈ (endN L J x, y, endN L J o) :: rs, PairEx L J val r := by
          intro r hr
          rcases List.mem_cons.1 hr with e | e
          · rw [e]
            exact ⟨c, z, f1.succ.2.2, f2.succ.2.2, fun i hi => f3 (i + 1) (by omega)⟩
          · exact hp2 r e
        have hun : ∀ p q : Int, val p = val q → ∀ x, UPart J x → val (un p q ld x) = val x := by
          intro p q e x hx
          unfold un
          split
          · rename_i f; rw [← e, ← f]; exact hv x hx
          · exact hv x hx
        by_cases h1 : ld x = ld o
        · exact ih _ _ _ (S1 h1) hv hp3
        · by_cases h2 : ld x < 0
          · exact ih _ _ _ (S2 h1 h2) (hun _ _ hpp) hp3
          · by_cases h3 : ld o < 0
            · exact ih _ _ _ (S3 h1 h2 h3) (hun _ _ hpp.symm) hp3
            · have hpl : (ld x).toNat < J.length := by have := hpx.2; omega
              have hql : (ld o).toNat < J.length := by have := hpo.2; omega
              have c1 : (((ld x).toNat : Nat) : Int) = ld x := by omega
              have c2 : (((ld o).toNat : Nat) : Int) = ld o := by omega
              have hh := hin (ld x).toNat (ld o).toNat hpl hql (by rw [c1]; exact h.ok.sym x px (by omega)) (by rw [c2]; exact h.ok.sym o po (by omega)) (by rw [c1, c2]; exact hpp)
              rw [c1, c2] at hh
              refine ih _ _ _ (S5 h1 h2 h3 hh.1) (hun _ _ hpp) (fun r hr => ?_)
              rcases List.mem_cons.1 hr with e | e
              · rw [e]
                have g1 := kids_forest h.trs hpl
                have g2 := kids_forest h.trs hql
                rw [c1] at g1
                rw [c2, ← hh.1] at g2
                exact ⟨_, _, g1, g2, hh.2⟩
              · exact hp3 r e
      · obtain ⟨k', hk', hU⟩ := h.pop hxy
        obtain rfl : k' = n := by omega
        exact ih _ _ _ hU hv hp2
end Go.Proofs.YthamjjhioafkjaaGreat
namespace Go.Proofs.YthamjjhioafkjaaGreat
set_option linter.unusedVariables false
def subV (val : Int → List Int) (u : List Int) : List Int := u.flatMap (fun n => if n < 0 then val n else [n])
theorem subV_append (val : Int → List Int) (a b : List Int) : subV val (a ++ b) = subV val a ++ subV val b := by simp [subV]
theorem subV_cons (val : Int → List Int) (x : Int) (b : List Int) : subV val (x :: b) = (if x < 0 then val x else [x]) ++ subV val b := by simp [subV]
theorem vals_of {L : List Sym} {J : List Int} {ld : Int → Int} {val : Int → List Int} : ∀ (l : List Nat), (∀ k ∈ l, ∃ u, Val L J ld k u ∧ val k = subV val u) → ∃ u, Vals L J ld l u ∧ l.flatMap (fun k : Nat => val (k : Int)) = subV val u
  | [], _ => ⟨[], vals_nil _ _ _, rfl⟩
  | x :: r, h => by
    obtain ⟨u, h1, h2⟩ := h x (by simp)
    obtain ⟨v, h3, h4⟩ := vals_of r (fun k hk => h k (by simp [hk]))
    exact ⟨u ++ v, vals_cons h1 h3, by rw [List.flatMap_cons, h2, h4, subV_append]⟩
theorem flat_len {α : Type} {f : α → List Int} {l : List α} {k : α} (h : k ∈ l) : (f k).length ≤ (l.flatMap f).length := by
  induction l with
  | nil => cases h
  | cons x r ih =>
    rw [List.flatMap_cons, List.length_append]
    rcases List.mem_cons.1 h with e | e
    · subst e; omega
    · have := ih e; omega
structure Good (L : List Sym) (J : List Int) (val : Int → List Int) : Prop where
  sym : ∀ p : Nat, p < J.length → 0 ≤ at' J p → val p = at' J p :: (kidsL L J p).flatMap (fun k : Nat => val (k : Int))
  var : ∀ p : Nat, p < J.length → at' J p < 0 → val p = val (at' J p)
  isT : ∀ x, UPart J x → IsT L (val x)
theorem val_exists {L : List Sym} {J : List Int} {ld : Int → Int} {val : Int → List Int} (hT : Trs L J) (hl : LdOk J ld) (hg : Good L J val) (hc : ∀ x, UPart J x → val (ld x) = val x) : ∀ (n : Nat) (x : Int), (val x).length ≤ n → UPart J x → ∃ u, Val L J ld x u ∧ val x = subV val u := by
  intro n
  induction n with
  | zero =>
    intro x hn hx
    have := isT_pos (hg.isT x hx)
    omega
  | succ n ih =>
    intro x hn hx
    by_cases h1 : ld x < 0
    · refine ⟨_, val_var h1, ?_⟩
      simp only [subV, List.flatMap_cons, List.flatMap_nil, if_pos h1, List.append_nil]
      exact (hc x hx).symm
    · obtain ⟨p, hp⟩ := Int.eq_ofNat_of_zero_le (Int.not_lt.1 h1)
      have hpl : p < J.length := by have := (hl.part x hx).2; omega
      have hs : 0 ≤ at' J (p : Int) := by have := hl.sym x hx (by omega); rwa [hp] at this
      have e := hg.sym p hpl hs
      have ex : val x = val p := by rw [← hc x hx, hp]
      obtain ⟨us, h2, h3⟩ := vals_of (L := L) (J := J) (ld := ld) (val := val) (kidsL L J p) (fun k hk => by
        refine ih k ?_ (part_nat (kids_lt hT hpl k hk))
        have h4 := flat_len (f := fun k : Nat => val (k : Int)) hk
        rw [ex, e, List.length_cons] at hn
        omega)
      have e1 : (ld x).toNat = p := by omega
      refine ⟨at' J (ld x) :: us, val_sym h1 (by rw [e1]; exact h2), ?_⟩
      rw [ex, e, h3, subV_cons, hp]
      have : ¬ at' J ((p : Nat) : Int) < 0 := by omega
      show _ = (if at' J ((p : Nat) : Int) < 0 then _ else _) ++ _
      rw [if_neg this]; rfl
theorem isT_inj {L : List Sym} {a b r s : List Int} (ha : IsT L a) (hb : IsT L b) (h : a ++ r = b ++ s) : a = b ∧ r = s := by
  have h1 := need_scan (b := r) ha
  have h2 := need_scan (b := s) hb
  rw [h, h2] at h1
  simp only [Option.some.injEq] at h1
  exact List.append_inj h h1.symm
theorem flat_inj {L : List Sym} {f : Nat → List Int} : ∀ (l m : List Nat), l.length = m.length → (∀ k ∈ l, IsT L (f k)) → (∀ k ∈ m, IsT L (f k)) → l.flatMap f = m.flatMap f → ∀ i (h : i < l.length) (h' : i < m.length), f l[i] = f m[i]
  | [], m, _, _, _, _, i, h, _ => by simp at h
  | x :: l, [], hl, _, _, _, i, h, h' => by simp at h'
  | x :: l, y :: m, hl, h1, h2, e, i, h, h' => by
    rw [List.flatMap_cons, List.flatMap_cons] at e
    obtain ⟨e1, e2⟩ := isT_inj (h1 x (by simp)) (h2 y (by simp)) e
    cases i with
    | zero => exact e1
    | succ i => exact flat_inj l m (by simpa using hl) (fun k hk => h1 k (by simp [hk])) (fun k hk => h2 k (by simp [hk])) e2 i (by simpa using h) (by simpa using h')
theorem kids_at {L : List Sym} {J : List Int} {p i : Nat} (hi : i < arN L (at' J p)) : (kidsL L J p)[i]? = some (past L J i (p + 1)) := starts_at hi
theorem good_inj {L : List Sym} {J : List Int} {val : Int → List Int} (hT : Trs L J) (hg : Good L J val) : Inj L J val := by
  intro p q hp hq sp sq e
  rw [hg.sym p hp sp, hg.sym q hq sq] at e
  simp only [List.cons.injEq] at e
  refine ⟨e.1, fun i hi => ?_⟩
  have l1 : (kidsL L J p).length = arN L (at' J p) := starts_length _ _ _ _
  have l2 : (kidsL L J q).length = arN L (at' J q) := starts_length _ _ _ _
  have hl : (kidsL L J p).length = (kidsL L J q).length := by rw [l1, l2, e.1]
  have h1 : i < (kidsL L J p).length := by omega
  have h2 : i < (kidsL L J q).length := by omega
  have := flat_inj (L := L) (f := fun k : Nat => val (k : Int)) _ _ hl (fun k hk => hg.isT _ (part_nat (kids_lt hT hp k hk))) (fun k hk => hg.isT _ (part_nat (kids_lt hT hq k hk))) e.2 i h1 h2
  have g1 := kids_at (L := L) (J := J) (p := p) hi
  have g2 := kids_at (L := L) (J := J) (p := q) (i := i) (by rw [← e.1]; exact hi)
  rw [List.getElem?_eq_getElem h1, Option.some.injEq] at g1
  rw [List.getElem?_eq_getElem h2, Option.some.injEq] at g2
  rw [g1, g2] at this
  exact this
theorem kid_less {L : List Sym} {J : List Int} {ld : Int → Int} : ∀ (l : List Nat) (u : List Int), Vals L J ld l u → ∀ y ∈ l, ∃ t', Val L J ld y t' ∧ t'.length ≤ u.length
  | [], u, _, y, hy => by simp at hy
  | x :: r, u, h, y, hy => by
    obtain ⟨a, b, h1, h2, h3⟩ := vals_split h
    subst h3
    rcases List.mem_cons.1 hy with e | e
    · subst e; exact ⟨a, h1, by simp⟩
    · obtain ⟨t', g1, g2⟩ := kid_less r b h2 y e
      exact ⟨t', g1, by rw [List.length_append]; omega⟩
def Above (L : List Sym) (J : List Int) (ld : Int → Int) (sz : Nat → Int) (x : Int) : Prop := ∀ p : Nat, p < J.length → ld p = p → sz p = -1 → ∀ t, Val L J ld p t → ∃ t', Val L J ld x t' ∧ t'.length < t.length
theorem sizA_none {L : List Sym} {J : List Int} {ld : Int → Int} {n : Nat} (hf : ∀ sz x k sz', UPart J x → SzOk sz → sizF L J ld n sz x = some (k, sz') → (k ≠ -1 → ∀ p, sz' p = -1 → sz p = -1) ∧ (k = -1 → Above L J ld sz x → ∀ u, ¬ Val L J ld x u)) : ∀ (l : List Nat), (∀ x ∈ l, x < J.length) → ∀ (s : Int) (sz : Nat → Int) (k : Int) (sz' : Nat → Int), 1 ≤ s → s ≤ 2001 → SzOk sz → sizA (sizF L J ld n) l s sz = some (k, sz') → (k ≠ -1 → ∀ p, sz' p = -1 → sz p = -1) ∧ (k = -1 → (∀ x ∈ l, Above L J ld sz (x : Nat)) → ∀ u, ¬ Vals L J ld l u)
  | [], _, s, sz, k, sz', h1, _, _, e => by
    simp only [sizA, Option.some.injEq, Prod.mk.injEq] at e
    obtain ⟨rfl, rfl⟩ := e
    exact ⟨fun _ _ h => h, fun e => by omega⟩
  | x :: r, hl, s, sz, k, sz', h1, h2, h3, e => by
    unfold sizA at e
    cases hx : sizF L J ld n sz (x : Int) with
    | none => simp [hx] at e
    | some v =>
      obtain ⟨k1, sz1⟩ := v
      simp only [hx] at e
      obtain ⟨g1, g2⟩ := hf _ _ _ _ (part_nat (hl x (by simp))) h3 hx
      have g3 := sizF_ok n _ _ _ _ h3 hx
      by_cases hk : k1 = -1
      · rw [if_pos hk] at e
        simp only [Option.some.injEq, Prod.mk.injEq] at e
        obtain ⟨rfl, rfl⟩ := e
        refine ⟨fun f => absurd rfl f, fun _ ha u hu => ?_⟩
        obtain ⟨a, b, q1, q2, q3⟩ := vals_split hu
        exact g2 hk (ha x (by simp)) a q1
      · rw [if_neg hk] at e
        obtain ⟨f1, f2⟩ := sizA_none hf r (fun y hy => hl y (by simp [hy])) _ _ _ _ (by omega) (by omega) g3.1 e
        refine ⟨fun hk' p hp => g1 hk p (f1 hk' p hp), fun hk' ha u hu => ?_⟩
        obtain ⟨a, b, q1, q2, q3⟩ := vals_split hu
        exact f2 hk' (fun y hy p hp hpp hs => ha y (by simp [hy]) p hp hpp (g1 hk p hs)) b q2
theorem sizF_none {L : List Sym} {J : List Int} {ld : Int → Int} (hT : Trs L J) (hl : LdOk J ld) : ∀ (n : Nat) (sz : Nat → Int) (x k : Int) (sz' : Nat → Int), UPart J x → SzOk sz → sizF L J ld n sz x = some (k, sz') → (k ≠ -1 → ∀ p, sz' p = -1 → sz p = -1) ∧ (k = -1 → Above L J ld sz x → ∀ u, ¬ Val L J ld x u) := by
  intro n
  induction n with
  | zero => intro sz x k sz' _ _ e; simp [sizF] at e
  | succ n ih =>
    intro sz x k sz' hx hs e
    rw [sizF] at e
    by_cases h1 : ld x < 0
    · rw [if_pos h1] at e
      simp only [Option.some.injEq, Prod.mk.injEq] at e
      obtain ⟨rfl, rfl⟩ := e
      exact ⟨fun _ _ h => h, fun e => by omega⟩
    · rw [if_neg h1] at e
      obtain ⟨p, hp⟩ := Int.eq_ofNat_of_zero_le (Int.not_lt.1 h1)
      have hpl : p < J.length := by have := (hl.part x hx).2; omega
      have hpp : ld (p : Int) = p := by
        have := hl.idem x hx
        rw [hp] at this; exact this
      have e1 : (ld x).toNat = p := by omega
      have exp : ld x = ld (p : Int) := by rw [hpp, hp]
      rw [e1] at e
      by_cases h2 : sz p ≠ 0
      · rw [if_pos h2] at e
        simp only [Option.some.injEq, Prod.mk.injEq] at e
        obtain ⟨rfl, rfl⟩ := e
        refine ⟨fun _ _ h => h, fun hk ha u hu => ?_⟩
        obtain ⟨t', q1, q2⟩ := ha p hpl hpp hk u (val_ld exp hu)
        rw [q1.uniq hu] at q2
        omega
      · rw [if_neg h2] at e
        have h0 : sz p = 0 := by simpa using h2
        cases h3 : sizA (sizF L J ld n) (kidsL L J p) 1 (updN sz p (-1)) with
        | none => simp [h3] at e
        | some v =>
          obtain ⟨s, sz1⟩ := v
          obtain ⟨g1, g2⟩ := sizA_none ih _ (kids_lt hT hpl) 1 _ _ _ (by omega) (by omega) (hs.upd _ (.inl rfl)) h3
          simp only [h3] at e
          by_cases hss : s = -1
          · rw [if_pos hss] at e
            simp only [Option.some.injEq, Prod.mk.injEq] at e
            obtain ⟨rfl, rfl⟩ := e
            refine ⟨fun f => absurd rfl f, fun _ ha u hu => ?_⟩
            obtain ⟨v, q1, q2⟩ := val_sym' h1 hu
            rw [e1] at q2
            have up : ∀ (t : List Int), Val L J ld (p : Int) t → ∀ y ∈ kidsL L J p, ∃ t', Val L J ld (y : Nat) t' ∧ t'.length < t.length := by
              intro t ht y hy
              obtain ⟨v', r1, r2⟩ := val_sym' (by rw [hpp]; omega) ht
              rw [hpp, Int.toNat_natCast] at r2
              obtain ⟨t', r3, r4⟩ := kid_less _ _ r2 y hy
              exact ⟨t', r3, by rw [r1, List.length_cons]; omega⟩
            refine g2 hss (fun y hy q hq hqq hsq t ht => ?_) v q2
            unfold updN at hsq
            by_cases eq : q = p
            · subst eq; exact up t ht y hy
            · rw [if_neg eq] at hsq
              obtain ⟨t2, r1, r2⟩ := ha q hq hqq hsq t ht
              obtain ⟨t3, r3, r4⟩ := up t2 (val_ld exp r1) y hy
              exact ⟨t3, r3, by omega⟩
          · rw [if_neg hss] at e
            simp only [Option.some.injEq, Prod.mk.injEq] at e
            obtain ⟨rfl, rfl⟩ := e
            refine ⟨fun _ q hq => ?_, fun f => absurd f hss⟩
            unfold updN at hq
            by_cases eq : q = p
            · rw [if_pos eq] at hq; exact absurd hq hss
            · rw [if_neg eq] at hq
              have := g1 hss q hq
              unfold updN at this
              rwa [if_neg eq] at this
theorem sol_good {L : List Sym} {J : List Int} (hT : Trs L J) (hv : ∀ x ∈ J, -198 ≤ x) {m : Nat} (h0 : 0 < J.length) (hm : m < J.length) {val : Int → List Int} (hg : Good L J val) (he : val 0 = val m) :
    ∃ ld k u, solF L J m = some (ld, k) ∧ Closed L J m ld ∧ Val L J ld 0 u ∧ k = min (u.length : Int) 2001 ∧ val 0 = subV val u ∧ ∀ x, UPart J x → val (ld x) = val x := by
  obtain ⟨res, hU, hR1, hR2⟩ := (sol_any hT hv h0 hm).uni
  have hst : ∀ x, UPart J x → val (ld0 J x) = val x := by
    intro x hx
    by_cases h : 0 ≤ x ∧ at' J x < 0
    · have e : ld0 J x = at' J x := by unfold ld0; rw [if_pos h]
      obtain ⟨p, rfl⟩ := Int.eq_ofNat_of_zero_le h.1
      rw [e]
      exact (hg.var p (by have := hx.2; omega) h.2).symm
    · have e : ld0 J x = x := by unfold ld0; rw [if_neg h]
      rw [e]
  obtain ⟨ld, rfl, hc⟩ := uni_least (good_inj hT hg) _ _ _ _ hU hst (fun r hr => by
    simp only [List.mem_cons, List.not_mem_nil, or_false] at hr
    subst hr
    refine ⟨1, endN L J m, hT 0 h0, hT m hm, fun i hi => ?_⟩
    obtain rfl : i = 0 := by omega
    exact he)
  obtain ⟨hl, k, sz', hs, hk1, hk2⟩ := hR2 ld rfl
  obtain ⟨u, hu, hvu⟩ := val_exists hT hl hg hc _ 0 (Nat.le_refl _) (part_nat (p := 0) h0)
  have hk : k ≠ -1 := fun e => (sizF_none hT hl _ _ _ _ _ (part_nat (p := 0) h0) (fun p => .inr ⟨by simp, by simp⟩) hs).2 e (fun p _ _ f => by simp at f) u hu
  obtain ⟨e1, u', hu', hku⟩ := hk2 hk
  have := hu'.uniq hu
  subst this
  exact ⟨ld, k, u', e1, closed_of hv h0 hm hU, hu, hku, hvu, hc⟩
end Go.Proofs.YthamjjhioafkjaaGreat
namespace Go.Proofs.YthamjjhioafkjaaGreat
set_option linter.unusedVariables false
def vstep (o : List Int) (x : Int) : List Int := if isV x = true ∧ ¬ (-x) ∈ o then o ++ [-x] else o
def vs (o : List Int) (t : List Int) : List Int := t.foldl vstep o
def varsL (t : List Int) : List Int := vs [] t
theorem vs_snoc (o a : List Int) (x : Int) : vs o (a ++ [x]) = vstep (vs o a) x := by simp [vs]
theorem vs_take {o t : List Int} {k : Nat} (h : k < t.length) : vs o (t.take (k + 1)) = vstep (vs o (t.take k)) t[k] := by
  rw [List.take_add_one, List.getElem?_eq_getElem h]; exact vs_snoc _ _ _
theorem isV_iff {x : Int} : isV x = true ↔ -99 ≤ x ∧ x ≤ -1 := by simp [isV]
theorem vstep_sub (o : List Int) (x : Int) : o <+: vstep o x := by
  unfold vstep
  split
  · exact List.prefix_append _ _
  · exact List.prefix_refl _
theorem vs_sub (o t : List Int) : o <+: vs o t := by
  induction t generalizing o with
  | nil => exact List.prefix_refl _
  | cons x r ih => exact (vstep_sub o x).trans (ih (vstep o x))
theorem vs_mem {o t : List Int} {x : Int} (hx : x ∈ t) (hv : isV x = true) : -x ∈ vs o t := by
  induction t generalizing o with
  | nil => simp at hx
  | cons y r ih =>
    rcases List.mem_cons.1 hx with rfl | hx
    · have h1 : -x ∈ vstep o x := by
        unfold vstep
        split
        · simp
        · rename_i h; simp [hv] at h; exact h
      exact (vs_sub (vstep o x) r).subset h1
    · exact ih hx
theorem vs_len (o t : List Int) : (vs o t).length ≤ o.length + t.length := by
  induction t generalizing o with
  | nil => simp [vs]
  | cons x r ih =>
    have := ih (vstep o x)
    have h2 : (vstep o x).length ≤ o.length + 1 := by unfold vstep; split <;> simp
    simp only [vs, List.foldl_cons, List.length_cons] at *
    omega
def pl (o : List Int) (x : Int) : Int := if isV x = true then -((o.idxOf (-x) : Int) + 1) else x
end Go.Proofs.YthamjjhioafkjaaGreat
namespace Go.Proofs.YthamjjhioafkjaaGreat
set_option linter.unusedVariables false
def cutJ (L : List Sym) (J : List Int) (p : Nat) : List Int := (J.drop p).take (endN L J p - p)
theorem cut_forest {L : List Sym} {J : List Int} : ∀ (k p q : Nat), Forest L J k p q → (J.drop p).take (q - p) = (starts L J k p).flatMap (cutJ L J)
  | 0, p, q, h => by have := h.zero; subst this; simp [starts]
  | k + 1, p, q, h => by
    obtain ⟨h1, h2, h3⟩ := h.succ
    have h4 := h3.le
    rw [starts, List.flatMap_cons, ← cut_forest k _ q h3]
    unfold cutJ
    rw [show q - p = (endN L J p - p) + (q - endN L J p) by omega, List.take_add, List.drop_drop, show p + (endN L J p - p) = endN L J p by omega]
theorem cut_sym {L : List Sym} {J : List Int} (hT : Trs L J) {p : Nat} (hp : p < J.length) : cutJ L J p = at' J p :: (kidsL L J p).flatMap (cutJ L J) := by
  have hf := kids_forest hT hp
  have h2 := hT.lt hp
  rw [kidsL, ← cut_forest _ _ _ hf, at'_nat J p hp]
  unfold cutJ
  rw [List.drop_eq_getElem_cons hp, show endN L J p - p = (endN L J p - (p + 1)) + 1 by omega, List.take_succ_cons]
theorem cut_isT {L : List Sym} {J : List Int} (hT : Trs L J) {p : Nat} (hp : p < J.length) : IsT L (cutJ L J p) := by
  obtain ⟨n, h1, h2, h3⟩ := hT p hp
  unfold cutJ
  rw [h2, show p + n - p = n by omega]
  exact (scan_need h1).2
theorem isT_var (L : List Sym) {x : Int} (h : x < 0) : IsT L [x] := by
  unfold IsT
  show need L (0 + 1) [x] = some 0
  rw [need, need]
  unfold arN; rw [if_pos h]
end Go.Proofs.YthamjjhioafkjaaGreat
namespace Go.Proofs.YthamjjhioafkjaaGreat
set_option linter.unusedVariables false
theorem need_subV {L : List Sym} {f : Int → List Int} : ∀ (u : List Int), (∀ n ∈ u, n < 0 → IsT L (f n)) → ∀ k, need L k (subV f u) = need L k u
  | [], _, k => rfl
  | n :: r, h, k => by
    have ih := need_subV r (fun m hm => h m (by simp [hm]))
    rw [subV_cons]
    by_cases hn : n < 0
    · rw [if_pos hn, need_append]
      have hT := h n (by simp) hn
      cases k with
      | zero =>
        have := isT_pos hT
        cases hd : f n with
        | nil => rw [hd] at this; simp at this
        | cons x y => simp [need]
      | succ k =>
        have := need_add hT k
        rw [Nat.add_comm 1 k, Nat.zero_add] at this
        rw [this, Option.bind_some, need, show arN L n = 0 by unfold arN; rw [if_pos hn], Nat.add_zero]
        exact ih k
    · rw [if_neg hn]
      cases k with
      | zero => rfl
      | succ k => simp only [List.cons_append, List.nil_append, need]; exact ih _
theorem subV_len {L : List Sym} {f : Int → List Int} : ∀ (u : List Int), (∀ n ∈ u, n < 0 → IsT L (f n)) → u.length ≤ (subV f u).length
  | [], _ => Nat.le_refl _
  | n :: r, h => by
    have ih := subV_len r (fun m hm => h m (by simp [hm]))
    rw [subV_cons, List.length_append, List.length_cons]
    by_cases hn : n < 0
    · rw [if_pos hn]; have := isT_pos (h n (by simp) hn); omega
    · rw [if_neg hn]; simp; omega
theorem subV_congr {f g : Int → List Int} : ∀ (u : List Int), (∀ n ∈ u, n < 0 → f n = g n) → subV f u = subV g u
  | [], _ => rfl
  | n :: r, h => by
    rw [subV_cons, subV_cons, subV_congr r (fun m hm => h m (by simp [hm]))]
    by_cases hn : n < 0
    · rw [if_pos hn, if_pos hn, h n (by simp) hn]
    · rw [if_neg hn, if_neg hn]
theorem args_isT {L : List Sym} {J : List Int} {ld : Int → Int} {d : Nat} (ih : ∀ (x : Int) (u : List Int), UPart J x → tmF L J ld d x = some u → IsT L u) : ∀ (l : List Nat) (u : List Int), (∀ x ∈ l, x < J.length) → argsT (tmF L J ld d) l = some u → need L l.length u = some 0
  | [], u, _, e => by simp only [argsT, Option.some.injEq] at e; subst e; rfl
  | x :: r, u, hl, e => by
    unfold argsT at e
    cases h1 : tmF L J ld d (x : Int) with
    | none => simp [h1] at e
    | some a =>
      cases h2 : argsT (tmF L J ld d) r with
      | none => simp [h1, h2] at e
      | some b =>
        simp only [h1, h2, Option.some.injEq] at e
        subst e
        have g1 := ih x a (part_nat (hl x (by simp))) h1
        have g2 := args_isT ih r b (fun y hy => hl y (by simp [hy])) h2
        have := need_add g1 r.length
        rw [Nat.add_comm 1, Nat.zero_add] at this
        rw [List.length_cons, need_append, this, Option.bind_some, g2]
theorem tm_isT {L : List Sym} {J : List Int} {ld : Int → Int} (hT : Trs L J) (hl : LdOk J ld) : ∀ (d : Nat) (x : Int) (u : List Int), UPart J x → tmF L J ld d x = some u → IsT L u := by
  intro d
  induction d with
  | zero => intro x u _ h; simp [tmF] at h
  | succ d ih =>
    intro x u hx h
    rw [tmF] at h
    by_cases h1 : ld x < 0
    · rw [if_pos h1] at h
      simp only [Option.some.injEq] at h
      subst h
      exact isT_var L h1
    · rw [if_neg h1] at h
      have hp : (ld x).toNat < J.length := by have := (hl.part x hx).2; omega
      cases h2 : argsT (tmF L J ld d) (kidsL L J (ld x).toNat) with
      | none => simp [h2] at h
      | some v =>
        simp only [h2, Option.some.injEq] at h
        subst h
        have := args_isT ih _ _ (kids_lt hT hp) h2
        have e : (kidsL L J (ld x).toNat).length = arN L (at' J (ld x)) := by
          rw [show (kidsL L J (ld x).toNat).length = arN L (at' J ((ld x).toNat : Nat)) from starts_length _ _ _ _, show (((ld x).toNat : Nat) : Int) = ld x by omega]
        rw [e] at this
        unfold IsT
        show need L (0 + 1) _ = some 0
        rw [need, Nat.zero_add]; exact this
theorem Val.isT {L : List Sym} {J : List Int} {ld : Int → Int} (hT : Trs L J) (hl : LdOk J ld) {x : Int} {u : List Int} (hx : UPart J x) (h : Val L J ld x u) : IsT L u := by
  obtain ⟨d, hd⟩ := h
  exact tm_isT hT hl d x u hx hd
theorem args_in {L : List Sym} {J : List Int} {ld : Int → Int} {d : Nat} {R : Int → Prop} (ih : ∀ (x : Int) (u : List Int), UPart J x → tmF L J ld d x = some u → ∀ n ∈ u, R n) : ∀ (l : List Nat) (u : List Int), (∀ x ∈ l, x < J.length) → argsT (tmF L J ld d) l = some u → ∀ n ∈ u, R n
  | [], u, _, e => by simp only [argsT, Option.some.injEq] at e; subst e; simp
  | x :: r, u, hl, e => by
    unfold argsT at e
    cases h1 : tmF L J ld d (x : Int) with
    | none => simp [h1] at e
    | some a =>
      cases h2 : argsT (tmF L J ld d) r with
      | none => simp [h1, h2] at e
      | some b =>
        simp only [h1, h2, Option.some.injEq] at e
        subst e
        intro n hn
        rcases List.mem_append.1 hn with q | q
        · exact ih x a (part_nat (hl x (by simp))) h1 n q
        · exact args_in ih r b (fun y hy => hl y (by simp [hy])) h2 n q
theorem tm_in {L : List Sym} {J : List Int} {ld : Int → Int} (hT : Trs L J) (hl : LdOk J ld) : ∀ (d : Nat) (x : Int) (u : List Int), UPart J x → tmF L J ld d x = some u → ∀ n ∈ u, (n < 0 ∧ UPart J n) ∨ (0 ≤ n ∧ n ∈ J) := by
  intro d
  induction d with
  | zero => intro x u _ h; simp [tmF] at h
  | succ d ih =>
    intro x u hx h
    rw [tmF] at h
    by_cases h1 : ld x < 0
    · rw [if_pos h1] at h
      simp only [Option.some.injEq] at h
      subst h
      intro n hn
      simp only [List.mem_cons, List.not_mem_nil, or_false] at hn
      subst hn
      exact .inl ⟨h1, hl.part x hx⟩
    · rw [if_neg h1] at h
      have hp : (ld x).toNat < J.length := by have := (hl.part x hx).2; omega
      cases h2 : argsT (tmF L J ld d) (kidsL L J (ld x).toNat) with
      | none => simp [h2] at h
      | some v =>
        simp only [h2, Option.some.injEq] at h
        subst h
        intro n hn
        rcases List.mem_cons.1 hn with q | q
        · right
          have hs := hl.sym x hx (by omega)
          refine ⟨by omega, ?_⟩
          have : at' J (ld x) = J[(ld x).toNat] := by
            have := at'_nat J (ld x).toNat hp
            rwa [show (((ld x).toNat : Nat) : Int) = ld x by omega] at this
          rw [q, this]; exact List.getElem_mem _
        · exact args_in ih _ _ (kids_lt hT hp) h2 n q
theorem Val.in {L : List Sym} {J : List Int} {ld : Int → Int} (hT : Trs L J) (hl : LdOk J ld) {x : Int} {u : List Int} (hx : UPart J x) (h : Val L J ld x u) : ∀ n ∈ u, (n < 0 ∧ UPart J n) ∨ (0 ≤ n ∧ n ∈ J) := by
  obtain ⟨d, hd⟩ := h
  exact tm_in hT hl d x u hx hd
theorem vals_same {L : List Sym} {J : List Int} {ld : Int → Int} : ∀ (l m : List Nat) (u : List Int), l.length = m.length → (∀ i (h : i < l.length) (h' : i < m.length), ld (l[i] : Nat) = ld (m[i] : Nat)) → Vals L J ld l u → Vals L J ld m u
  | [], [], u, _, _, hv => hv
  | [], y :: m, u, hl, _, _ => by simp at hl
  | x :: l, [], u, hl, _, _ => by simp at hl
  | x :: l, y :: m, u, hl, h, hv => by
    obtain ⟨a, b, h1, h2, rfl⟩ := vals_split hv
    have e0 := h 0 (by simp) (by simp)
    exact vals_cons (val_ld e0 h1) (vals_same l m b (by simpa using hl) (fun i p q => by have := h (i + 1) (by simpa using p) (by simpa using q); simpa using this) h2)
theorem Closed.own {L : List Sym} {J : List Int} {m : Nat} {ld : Int → Int} (hc : Closed L J m ld) {P : Nat} (hP : P < J.length) (hs : 0 ≤ at' J P) {u : List Int} (h : Val L J ld P u) : ∃ us, u = at' J P :: us ∧ Vals L J ld (kidsL L J P) us := by
  obtain ⟨g1, g2⟩ := hc.ok.like P (part_nat hP) (by omega) hs
  obtain ⟨v, h1, h2⟩ := val_sym' (by omega) h
  refine ⟨v, by rw [h1, g2], vals_same _ _ v ?_ ?_ h2⟩
  · have c1 : (((ld P).toNat : Nat) : Int) = ld P := by omega
    rw [show (kidsL L J (ld P).toNat).length = _ from starts_length _ _ _ _, show (kidsL L J P).length = _ from starts_length _ _ _ _, c1, g2]
  · intro i p q
    have c1 : (((ld P).toNat : Nat) : Int) = ld P := by omega
    have hi : i < arN L (at' J P) := by
      rw [show (kidsL L J P).length = arN L (at' J P) from starts_length _ _ _ _] at q
      exact q
    have k1 := kids_at (L := L) (J := J) (p := (ld P).toNat) (i := i) (by rw [c1, g2]; exact hi)
    have k2 := kids_at (L := L) (J := J) (p := P) (i := i) hi
    rw [List.getElem?_eq_getElem p, Option.some.injEq] at k1
    rw [List.getElem?_eq_getElem q, Option.some.injEq] at k2
    rw [k1, k2]
    exact (hc.args P hP hs i hi).symm
structure VarT (L : List Sym) (J : List Int) (ld : Int → Int) (f : Int → List Int) : Prop where
  val : ∀ n u, Val L J ld n u → f n = u
  none : ∀ n, (¬ ∃ u, Val L J ld n u) → f n = [n]
theorem varT_some (L : List Sym) (J : List Int) (ld : Int → Int) : ∃ f, VarT L J ld f := by
  have each : ∀ n : Int, ∃ y : List Int, (∀ u, Val L J ld n u → y = u) ∧ ((¬ ∃ u, Val L J ld n u) → y = [n]) := by
    intro n
    by_cases h : ∃ u, Val L J ld n u
    · obtain ⟨u, hu⟩ := h
      exact ⟨u, fun v hv => hu.uniq hv, fun f => absurd ⟨u, hu⟩ f⟩
    · exact ⟨[n], fun v hv => absurd ⟨v, hv⟩ h, fun _ => rfl⟩
  obtain ⟨f, hf⟩ := Classical.axiomOfChoice each
  exact ⟨f, fun n => (hf n).1, fun n => (hf n).2⟩
theorem VarT.isT {L : List Sym} {J : List Int} {ld : Int → Int} {f : Int → List Int} (h : VarT L J ld f) (hT : Trs L J) (hl : LdOk J ld) {n : Int} (hn : n < 0) (hp : UPart J n) : IsT L (f n) := by
  by_cases e : ∃ u, Val L J ld n u
  · obtain ⟨u, hu⟩ := e
    rw [h.val n u hu]
    exact hu.isT hT hl hp
  · rw [h.none n e]; exact isT_var L hn
theorem forest_sub {L : List Sym} {J : List Int} {m : Nat} {ld : Int → Int} (hc : Closed L J m ld) {f : Int → List Int} (hv0 : VarT L J ld f) : ∀ (n k p q : Nat) (u : List Int), q - p ≤ n → Forest L J k p q → Vals L J ld (starts L J k p) u → u = subV f ((J.drop p).take (q - p)) := by
  intro n
  induction n with
  | zero =>
    intro k p q u hn hf hv
    cases k with
    | zero =>
      have := hf.zero
      subst this
      obtain ⟨d, hd⟩ := hv
      simp only [starts, argsT, Option.some.injEq] at hd
      subst hd
      simp [subV]
    | succ k => have := hf.pos; omega
  | succ n ih =>
    intro k p q u hn hf hv
    cases k with
    | zero =>
      have := hf.zero
      subst this
      obtain ⟨d, hd⟩ := hv
      simp only [starts, argsT, Option.some.injEq] at hd
      subst hd
      simp [subV]
    | succ k =>
      obtain ⟨h1, h2, h3⟩ := hf.succ
      have h4 := h3.le
      have hpl : p < J.length := by have := h1.le; omega
      rw [starts] at hv
      obtain ⟨a, b, v1, v2, rfl⟩ := vals_split hv
      have e2 := ih k (endN L J p) q b (by omega) h3 v2
      have e1 : a = subV f ((J.drop p).take (endN L J p - p)) := by
        have hcut : (J.drop p).take (endN L J p - p) = at' J p :: (J.drop (p + 1)).take (endN L J p - (p + 1)) := by
          rw [List.drop_eq_getElem_cons hpl, show endN L J p - p = (endN L J p - (p + 1)) + 1 by omega, List.take_succ_cons, at'_nat J p hpl]
        rw [hcut, subV_cons]
        by_cases hs : 0 ≤ at' J p
        · obtain ⟨us, r1, r2⟩ := hc.own hpl hs v1
          have hk := kids_forest hc.trs hpl
          rw [r1, if_neg (by omega), ih _ _ _ us (by omega) hk r2]; rfl
        · have hk := kids_forest hc.trs hpl
          rw [show arN L (at' J p) = 0 by unfold arN; rw [if_pos (by omega)]] at hk
          have := hk.zero
          rw [if_pos (by omega), this, show p + 1 - (p + 1) = 0 by omega, List.take_zero]
          have hv' := val_ld (hc.var p hpl (by omega)) v1
          rw [hv0.val _ _ hv']; simp [subV]
      rw [e1, e2, ← subV_append]
      congr 1
      rw [show q - p = (endN L J p - p) + (q - endN L J p) by omega, List.take_add, List.drop_drop, show p + (endN L J p - p) = endN L J p by omega]
theorem end_first {L : List Sym} {a b : List Int} (ha : IsT L a) : endN L (a ++ b) 0 = a.length := by
  have s1 := scan_more (need_scan (b := []) ha) b
  rw [List.append_nil] at s1
  rw [endN_of (n := a.length) (by simpa using s1)]; omega
theorem end_second {L : List Sym} {a b : List Int} (hb : IsT L b) : endN L (a ++ b) a.length = a.length + b.length := by
  have s1 := need_scan (b := []) hb
  rw [List.append_nil] at s1
  exact endN_of (n := b.length) (by simpa using s1)
theorem both_sub {L : List Sym} {a b : List Int} {ap : Int} (h0 : 0 ≤ ap) (ha : IsT L a) (hb : IsT L b) {ld : Int → Int} (hc : Closed L (jl a b ap) a.length ld) {f : Int → List Int} (hf : VarT L (jl a b ap) ld f) {u : List Int} (hu : Val L (jl a b ap) ld 0 u) : u = subV f a ∧ u = subV f (b.map (shF ap)) := by
  have hp := isT_pos ha
  have hq := isT_pos hb
  have hl : (jl a b ap).length = a.length + b.length := by simp [jl]
  have hb' := isT_sh h0 hb
  have hm : Val L (jl a b ap) ld (a.length : Nat) u := val_ld hc.both hu
  have e1 : endN L (jl a b ap) 0 = a.length := end_first (b := b.map (shF ap)) ha
  have e2 : endN L (jl a b ap) a.length = a.length + (b.map (shF ap)).length := end_second (a := a) hb'
  constructor
  · have := forest_sub hc hf _ 1 0 _ u (Nat.le_refl _) (hc.trs 0 (by omega)) (by
      have := vals_cons hu (vals_nil L (jl a b ap) ld)
      rw [List.append_nil] at this
      exact this)
    rw [e1] at this
    rw [this]
    unfold jl
    rw [List.drop_zero, Nat.sub_zero, List.take_left]
  · have := forest_sub hc hf _ 1 a.length _ u (Nat.le_refl _) (hc.trs a.length (by omega)) (by
      have := vals_cons hm (vals_nil L (jl a b ap) ld)
      rw [List.append_nil] at this
      exact this)
    rw [e2] at this
    rw [this]
    unfold jl
    rw [List.drop_left, Nat.add_sub_cancel_left, List.take_length]
end Go.Proofs.YthamjjhioafkjaaGreat
namespace Go.Proofs.YthamjjhioafkjaaGreat
set_option linter.unusedVariables false
end Go.Proofs.YthamjjhioafkjaaGreat
namespace Go.Proofs.YthamjjhioafkjaaGreat
set_option maxRecDepth 100000
set_option linter.unusedVariables false
open Go.RowKit
attribute [local go_sem ↓] Go.wp_at_zero Go.wp_at_succ
structure Part where
  ao : Option Addr
  cap : Nat
  xs : List Int
theorem iv_oneCell (xs : List Int) : ∀ v ∈ iv xs, v.oneCell' = true := by
  intro v hv
  simp only [iv, List.mem_map] at hv
  obtain ⟨x, _, rfl⟩ := hv
  rfl
theorem IntsAt.src {w : World} {ao : Option Addr} {xs : List Int} (h : IntsAt w ao xs) (hn : 0 < (iv xs).length) : ∃ ad, ao = some ad ∧ ∀ j v, (iv xs)[j]? = some v → w.cell? (ad.add j) = some v := by
  rcases h with rfl | ⟨b, off, rfl, _, hc⟩
  · simp [iv] at hn
  · refine ⟨_, rfl, fun j v hj => ?_⟩
    have hlt : j < xs.length := by
      have := (List.getElem?_eq_some_iff.1 hj).1
      rwa [iv_length] at this
    rw [iv_get hlt] at hj
    cases hj
    have := hc j hlt
    unfold Addr.add
    split
    · rename_i h0; subst h0; first | (simp; done) | (simpa using this)
    · exact this
end Go.Proofs.YthamjjhioafkjaaGreat
namespace Go.Proofs.YthamjjhioafkjaaGreat
set_option maxRecDepth 100000
set_option linter.unusedVariables false
open Go.RowKit
attribute [local go_sem ↓] Go.wp_at_zero Go.wp_at_succ
end Go.Proofs.YthamjjhioafkjaaGreat
namespace Go.Proofs.YthamjjhioafkjaaGreat
set_option maxRecDepth 100000
set_option linter.unusedVariables false
open Go.RowKit
attribute [local go_sem ↓] Go.wp_at_zero Go.wp_at_succ
def sameB (xs ys : List Int) : Bool := decide (xs = ys)
theorem same_len {xs ys : List Int} (h : xs.length ≠ ys.length) : sameB xs ys = false := by
  simp [sameB]; intro e; exact h (by rw [e])
theorem take_eq_succ {xs ys : List Int} {k : Nat} (h : xs.take k = ys.take k) (hx : k < xs.length) (hy : k < ys.length) (he : xs[k] = ys[k]) : xs.take (k + 1) = ys.take (k + 1) := by
  rw [List.take_add_one, List.take_add_one, h, List.getElem?_eq_getElem hx, List.getElem?_eq_getElem hy, he]
set_option maxHeartbeats 2000000 in
theorem same_any {w : World} {ao bo : Option Addr} {acap bcap : Nat} {xs ys : List Int} (hx : IntsAt w ao xs) (hy : IntsAt w bo ys) (hm : xs.length ≤ maxLen) :
    Calls Tryz.prog 39 #[.slice ao xs.length acap, .slice bo ys.length bcap] w fun e w' => e = .returned (.bool (sameB xs ys)) ∧ Same0 w w' := by
  unfold maxLen at hm
  by_cases hl : xs.length = ys.length
  · have hl' : (xs.length : Int) = (ys.length : Int) := by omega
    go_enter Tryz.func39, Tryz.ntmps39
    go_wp2
    go_loopw [5] (fun i wr => ∃ k : Nat, k ≤ xs.length ∧ i = .int .i64 (k : Int) ∧ Hid (xs.take k = ys.take k) ∧ Same0 w wr) (fun i _ => xs.length - (intOf i).toNat)
    case atStart => exact ⟨0, Nat.zero_le _, rfl, by simp [Hid], Kept.refl _ _⟩
    case round =>
      obtain ⟨k, hk, rfl, ht, hs⟩ := hrel
      by_cases hlt : k < xs.length
      · have hlt' : k < ys.length := by omega
        obtain ⟨ab, ao', rfl, hab, hac⟩ := (hx.same hs).get hlt
        obtain ⟨bb, bo', rfl, hbb, hbc⟩ := (hy.same hs).get hlt'
        have i1 : (0 : Int) ≤ (k : Int) := by omega
        have i2 : (k : Int) < (xs.length : Int) := by omega
        have i3 : (k : Int) < (ys.length : Int) := by omega
        have d1 : wr.drew.cell? ⟨ab, ao' + k, none⟩ = some (.int .i64 xs[k]) := hac
        have d2 : wr.drew.cell? ⟨bb, bo' + k, none⟩ = some (.int .i64 ys[k]) := hbc
        by_cases he : xs[k] = ys[k]
        · have hn : Hid (xs.take (k + 1) = ys.take (k + 1)) := take_eq_succ ht.out hlt hlt' he
          have he' : (xs[k] == ys[k]) = true := by simpa using he
          go_wp2
          go_quiet (fail)
          go_wp2
          refine ⟨⟨k + 1, by omega, by go_num, hn, hs.drewN _⟩, by simp [intOf]; omega⟩
        · have H : Hid (sameB xs ys = false) := by
            show _ = _
            simp only [sameB, decide_eq_false_iff_not]
            intro e; subst e; exact he rfl
          have he' : (xs[k] == ys[k]) = false := by simpa using he
          go_wp2
          go_quiet (fail)
          go_wp2
          go_ret
          exact ⟨by rw [H.out]; rfl, hs.drewN _⟩
      · have H : Hid (sameB xs ys = true) := by
          have := ht.out
          rw [List.take_of_length_le (by omega), List.take_of_length_le (by omega)] at this
          show _ = _
          simpa [sameB] using this
        go_wp2
        go_ret
        exact ⟨by rw [H.out]; rfl, hs⟩
  · have hl' : ¬ (xs.length : Int) = (ys.length : Int) := by omega
    have H : Hid (sameB xs ys = false) := same_len hl
    go_enter Tryz.func39, Tryz.ntmps39
    go_wp2
    go_ret
    exact ⟨by rw [H.out]; rfl, Kept.refl _ _⟩
structure Both (n0 : Nat) (w0 w : World) (b rb : Nat) (L : List Sym) (sv : Value) (mr : Option Nat) (rv : Value) : Prop where
  sg : SigAt w b L sv mr
  rf : RefAt w rb L rv
  f : ∀ k, Foot b sv mr k → n0 ≤ k
  g : ∀ k, RFoot rb rv k → n0 ≤ k
  d : ∀ k, Foot b sv mr k → ¬ RFoot rb rv k
  k : Kept (From n0) w0 w
  a : Ars L
theorem Both.start (w : World) : Both w.heap.size w ((w.alloc (.cells #[.slice none 0 0, .map none] 145)).alloc (.cells #[.slice none 0 0] 129)) w.heap.size (w.heap.size + 1) [] (.slice none 0 0) none (.slice none 0 0) := by
  have k1 : Kept (fun _ => False) (w.alloc (.cells #[.slice none 0 0, .map none] 145)) ((w.alloc (.cells #[.slice none 0 0, .map none] 145)).alloc (.cells #[.slice none 0 0] 129)) := (Kept.refl _ _).alloc _
  have e1 : (w.alloc (.cells #[.slice none 0 0, .map none] 145)).heap.size = w.heap.size + 1 := by simp
  refine ⟨(sig_new w).kept k1 (fun _ _ f => f), ⟨?_, World.ownsRow_nil _ _ _ _, by simp [Value.ownBlock]⟩, ?_, ?_, ?_, ((Kept.refl _ w).alloc _).alloc _, fun x hx => by simp at hx⟩
  · rw [← e1]; exact heap_alloc_new _ _
  · rintro k (e | e | e)
    · omega
    · simp [Value.ownBlock] at e
    · simp at e
  · rintro k (e | e)
    · omega
    · simp [Value.ownBlock] at e
  · rintro k (e | e | e) (e' | e')
    · omega
    · simp [Value.ownBlock] at e'
    · simp [Value.ownBlock] at e
    · simp [Value.ownBlock] at e
    · simp at e
    · simp at e
theorem addL_ars {L : List Sym} (h : Ars L) (x : Sym) : Ars (addL L x) := by
  unfold addL
  split
  · rename_i hz
    intro y hy
    rcases List.mem_append.1 hy with hy | hy
    · exact h y hy
    · simp at hy; subst hy; exact add_ar hz
  · exact h
theorem Both.next {n0 : Nat} {w0 w w1 w2 : World} {b rb : Nat} {L : List Sym} {sv : Value} {mr : Option Nat} {rv : Value} (h : Both n0 w0 w b rb L sv mr rv) (x : Sym) (hn : n0 ≤ w.heap.size) {sv1 : Value} {mr1 : Option Nat}
    (h1 : SigAt w1 b (addL L x) sv1 mr1) (h2 : Kept (Foot b sv mr) w w1) (h3 : ∀ k, Foot b sv1 mr1 k → Foot b sv mr k ∨ w.heap.size ≤ k) (hr : RMoved w1 rb rv (addL L x) w2) : ∃ rv2, Both n0 w0 w2 b rb (addL L x) sv1 mr1 rv2 := by
  obtain ⟨rv2, r1, r2, r3⟩ := hr
  have hrl := h.rf.lt
  have dd : ∀ k, Foot b sv1 mr1 k → ¬ RFoot rb rv k := fun k hk hk' => by
    rcases h3 k hk with e | e
    · exact h.d k e hk'
    · have := hrl k hk'; omega
  have z1 := h2.size
  refine ⟨rv2, h1.kept r2 (fun k e => dd k e), r1, ?_, ?_, ?_, ?_, addL_ars h.a x⟩
  · intro k hk
    rcases h3 k hk with e | e
    · exact h.f k e
    · omega
  · intro k hk
    rcases r3 k hk with e | e
    · exact h.g k e
    · omega
  · intro k hk hk'
    rcases r3 k hk' with e | e
    · exact dd k hk e
    · have := sig_foot_lt h1 k hk; omega
  · exact (h.k.trans h2 (fun i _ e => h.f i e)).trans r2 (fun i _ e => h.g i e)
def madeL (xs : List Sym) : List Sym := xs.foldl addL []
theorem madeL_snoc {xs : List Sym} {k : Nat} (h : k < xs.length) : madeL (xs.take (k + 1)) = addL (madeL (xs.take k)) xs[k] := by
  rw [List.take_add_one, List.getElem?_eq_getElem h]
  unfold madeL
  rw [List.foldl_append]
  rfl
theorem from_below {w w' : World} (h : Kept (From w.heap.size) w w') : Same0 w w' := ⟨h.os, h.tape, h.output, h.size, fun k hk _ => h.block k hk (fun e => by omega)⟩
set_option maxHeartbeats 2000000 in
theorem made_any (ao : Option Addr) (len cap : Nat) (xs : List Sym) (w : World) (hx : SymsAt w ao len xs) (hm : len ≤ maxLen) :
    Calls Tryz.prog 22 #[.slice ao len cap] w fun e w' => ∃ b rv, e = .returned (.tuple #[.pointer (some ⟨b, 0, none⟩), rv]) ∧ Sg w'.heap.size w' b (madeL xs) ∧ Rl w'.heap.size w' rv (madeL xs) ∧ Same0 w w' := by
  unfold maxLen at hm
  go_enter Tryz.func22, Tryz.ntmps22
  go_wp2_with (first | (go_at_call 50; refine (new_any _).mono ?_; rintro e w' ⟨rfl, rfl⟩))
  go_loopw [6] (fun i wr => ∃ (k : Nat) (sv : Value) (mr : Option Nat) (rv : Value), k ≤ len ∧ i = .int .i64 (k : Int) ∧ Both w.heap.size w wr w.heap.size (w.heap.size + 1) (madeL (xs.take k)) sv mr rv) (fun i _ => len - (intOf i).toNat)
  case atStart => exact ⟨0, _, _, _, Nat.zero_le _, rfl, Both.start w⟩
  case round =>
    obtain ⟨k, sv, mr, rv, hk, rfl, hb⟩ := hrel
    have hlen := hb.sg.len
    by_cases hlt : k < len
    · obtain ⟨xl, xc, xw⟩ := hx.kept (from_below hb.k).below
      obtain ⟨xb, off, rfl, hxb, hxc⟩ := xc.resolve_left (by omega)
      have hkx : k < xs.length := by omega
      obtain ⟨x0, x1, x2⟩ := hxc k hkx
      have xsz := (xw xs[k] (List.getElem_mem hkx)).1
      have i1 : (0 : Int) ≤ (k : Int) := by omega
      have i2 : (k : Int) < (len : Int) := by omega
      have E1 : Hid (madeL (xs.take (k + 1)) = addL (madeL (xs.take k)) xs[k]) := madeL_snoc hkx
      have hn0 := hb.k.size
      have hxs := hx
      clear hxc xw xc xl
      generalize madeL (xs.take k) = L at *
      go_wp2_with fail
      refine (add_any hb.sg xs[k] xsz).mono ?_
      rintro e w1 ⟨rfl, sv1, mr1, h1, h2, h3⟩
      have hr1 : RefAt w1 (w.heap.size + 1) L rv := hb.rf.kept h2 (fun k hk' e => hb.d k e hk')
      have k1 : Kept (From w.heap.size) w w1 := hb.k.trans h2 (fun i _ e => hb.f i e)
      obtain ⟨y0, y1, y2⟩ : w1.cell? ⟨xb, off + k * 3, none⟩ = some (.string xs[k].name) ∧ w1.cell? ⟨xb, off + k * 3 + 1, none⟩ = some (.int .i64 xs[k].ar) ∧ w1.cell? ⟨xb, off + k * 3 + 2, none⟩ = some (.bool xs[k].df) := by
        obtain ⟨_, yc, _⟩ := hxs.kept (from_below k1).below
        obtain ⟨_, _, e, _, hyc⟩ := yc.resolve_left (by omega)
        simp only [Option.some.injEq, Addr.mk.injEq, and_true] at e
        rw [e.1, e.2]
        exact hyc k hkx
      clear x0 x1 x2
      go_wp2_with fail
      refine (radd_any hr1 hlen xs[k] xsz).mono ?_
      rintro e w2 ⟨rfl, hr⟩
      obtain ⟨rv2, hb2⟩ := hb.next xs[k] hn0 h1 h2 h3 hr
      go_wp2
      refine ⟨⟨k + 1, sv1, mr1, rv2, by omega, by go_num, ?_⟩, by simp [intOf]; omega⟩
      rw [E1.out]; exact hb2
    · have hxl := hx.1
      have E1 : xs.take k = xs := List.take_of_length_le (by omega)
      rw [E1] at hb hlen
      have r0 := hb.rf.c0
      clear E1
      go_wp2
      go_quiet (fail)
      go_wp2
      go_ret2
      have kd : Same0 wr (wr.drewN nq) := (Kept.refl _ _).drewN nq
      have fin : Sg wr.heap.size wr w.heap.size (madeL xs) ∧ Rl wr.heap.size wr rv (madeL xs) ∧ Same0 w wr := ⟨⟨⟨sv, mr, hb.sg, sig_foot_lt hb.sg⟩, hb.a⟩, ⟨hb.rf.row, fun k e => hb.rf.lt k (.inr e), hb.a, hlen⟩, from_below hb.k⟩
      exact ⟨w.heap.size, rv, rfl, fin.1.same kd, fin.2.1.same kd, fin.2.2.trans' kd⟩
end Go.Proofs.YthamjjhioafkjaaGreat
namespace Go.Proofs.YthamjjhioafkjaaGreat
set_option maxRecDepth 100000
set_option linter.unusedVariables false
open Go.RowKit
attribute [local go_sem ↓] Go.wp_at_zero Go.wp_at_succ
theorem ints_new (w : World) (xs : List Int) (T : TypeId) {o : Obj} (ho : o = .cells (iv xs).toArray T (0, 0)) : IntsAt (w.alloc o) (some ⟨w.heap.size, 0, none⟩) xs := by
  subst ho
  refine .inr ⟨_, _, rfl, by simp, fun i hi => ?_⟩
  rw [Nat.zero_add, cellAt (heap_alloc_new w _)]
  simpa using iv_get hi
theorem Row.ints {base : Nat} {w : World} {v : Value} {xs : List Int} (h : Row base w v xs) : ∃ ao cap, v = .slice ao xs.length cap ∧ IntsAt w ao xs ∧ xs.length ≤ cap ∧ (∀ a, ao = some a → base ≤ a.block ∧ a.block < w.heap.size) := by
  rcases h.2 with ⟨rfl, h0⟩ | ⟨g, cap, cur, rfl, hb, hg, h1, h2, h3, h4⟩
  · have : xs = [] := List.eq_nil_of_length_eq_zero h0
    subst this
    exact ⟨none, 0, rfl, .inl rfl, Nat.le_refl _, fun a e => by cases e⟩
  · refine ⟨_, cap, rfl, .inr ⟨g, 0, rfl, lt_of_at hg, fun i hi => ?_⟩, h1, fun a e => by cases e; exact ⟨hb, lt_of_at hg⟩⟩
    rw [Nat.zero_add, h.cellAt i (by omega)]
    exact iv_get hi
abbrev zS : Sym := ⟨⟨#[122]⟩, 0, false⟩
abbrev L3 : List Sym := [zS, aS, aAdd]
end Go.Proofs.YthamjjhioafkjaaGreat
