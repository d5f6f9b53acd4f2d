/- Terms of parts: when there is one, and what it is. -/
import Derived.Test.YthhcnllabhfejaaUniTruth
namespace Go.Proofs.Ythhcnllabhfejaa
set_option linter.unusedVariables false
/-- What comes of a list when variables have these values. -/
def subV (val : Int → List Int) (u : List Int) : List Int := u.flatMap (fun n => if n < 0 then val n else [n])
theorem subV_append (val : Int → List Int) (a b : List Int) : subV val (a ++ b) = subV val a ++ subV val b := by simp [subV]
theorem subV_cons (val : Int → List Int) (x : Int) (b : List Int) : subV val (x :: b) = (if x < 0 then val x else [x]) ++ subV val b := by simp [subV]
theorem vals_of {L : List Sym} {J : List Int} {ld : Int → Int} {val : Int → List Int} : ∀ (l : List Nat), (∀ k ∈ l, ∃ u, Val L J ld k u ∧ val k = subV val u) → ∃ u, Vals L J ld l u ∧ l.flatMap (fun k : Nat => val (k : Int)) = subV val u
  | [], _ => ⟨[], vals_nil _ _ _, rfl⟩
  | x :: r, h => by
    obtain ⟨u, h1, h2⟩ := h x (by simp)
    obtain ⟨v, h3, h4⟩ := vals_of r (fun k hk => h k (by simp [hk]))
    exact ⟨u ++ v, vals_cons h1 h3, by rw [List.flatMap_cons, h2, h4, subV_append]⟩
theorem flat_len {α : Type} {f : α → List Int} {l : List α} {k : α} (h : k ∈ l) : (f k).length ≤ (l.flatMap f).length := by
  induction l with
  | nil => cases h
  | cons x r ih =>
    rw [List.flatMap_cons, List.length_append]
    rcases List.mem_cons.1 h with e | e
    · subst e; omega
    · have := ih e; omega
/-- Values of lists of numbers, by which all is as it must be. -/
structure Good (L : List Sym) (J : List Int) (val : Int → List Int) : Prop where
  sym : ∀ p : Nat, p < J.length → 0 ≤ at' J p → val p = at' J p :: (kidsL L J p).flatMap (fun k : Nat => val (k : Int))
  var : ∀ p : Nat, p < J.length → at' J p < 0 → val p = val (at' J p)
  isT : ∀ x, UPart J x → IsT L (val x)
theorem val_exists {L : List Sym} {J : List Int} {ld : Int → Int} {val : Int → List Int} (hT : Trs L J) (hl : LdOk J ld) (hg : Good L J val) (hc : ∀ x, UPart J x → val (ld x) = val x) : ∀ (n : Nat) (x : Int), (val x).length ≤ n → UPart J x → ∃ u, Val L J ld x u ∧ val x = subV val u := by
  intro n
  induction n with
  | zero =>
    intro x hn hx
    have := isT_pos (hg.isT x hx)
    omega
  | succ n ih =>
    intro x hn hx
    by_cases h1 : ld x < 0
    · refine ⟨_, val_var h1, ?_⟩
      simp only [subV, List.flatMap_cons, List.flatMap_nil, if_pos h1, List.append_nil]
      exact (hc x hx).symm
    · obtain ⟨p, hp⟩ := Int.eq_ofNat_of_zero_le (Int.not_lt.1 h1)
      have hpl : p < J.length := by have := (hl.part x hx).2; omega
      have hs : 0 ≤ at' J (p : Int) := by have := hl.sym x hx (by omega); rwa [hp] at this
      have e := hg.sym p hpl hs
      have ex : val x = val p := by rw [← hc x hx, hp]
      obtain ⟨us, h2, h3⟩ := vals_of (L := L) (J := J) (ld := ld) (val := val) (kidsL L J p) (fun k hk => by
        refine ih k ?_ (part_nat (kids_lt hT hpl k hk))
        have h4 := flat_len (f := fun k : Nat => val (k : Int)) hk
        rw [ex, e, List.length_cons] at hn
        omega)
      have e1 : (ld x).toNat = p := by omega
      refine ⟨at' J (ld x) :: us, val_sym h1 (by rw [e1]; exact h2), ?_⟩
      rw [ex, e, h3, subV_cons, hp]
      have : ¬ at' J ((p : Nat) : Int) < 0 := by omega
      show _ = (if at' J ((p : Nat) : Int) < 0 then _ else _) ++ _
      rw [if_neg this]; rfl
theorem isT_inj {L : List Sym} {a b r s : List Int} (ha : IsT L a) (hb : IsT L b) (h : a ++ r = b ++ s) : a = b ∧ r = s := by
  have h1 := need_scan (b := r) ha
  have h2 := need_scan (b := s) hb
  rw [h, h2] at h1
  simp only [Option.some.injEq] at h1
  exact List.append_inj h h1.symm
theorem flat_inj {L : List Sym} {f : Nat → List Int} : ∀ (l m : List Nat), l.length = m.length → (∀ k ∈ l, IsT L (f k)) → (∀ k ∈ m, IsT L (f k)) → l.flatMap f = m.flatMap f → ∀ i (h : i < l.length) (h' : i < m.length), f l[i] = f m[i]
  | [], m, _, _, _, _, i, h, _ => by simp at h
  | x :: l, [], hl, _, _, _, i, h, h' => by simp at h'
  | x :: l, y :: m, hl, h1, h2, e, i, h, h' => by
    rw [List.flatMap_cons, List.flatMap_cons] at e
    obtain ⟨e1, e2⟩ := isT_inj (h1 x (by simp)) (h2 y (by simp)) e
    cases i with
    | zero => exact e1
    | succ i => exact flat_inj l m (by simpa using hl) (fun k hk => h1 k (by simp [hk])) (fun k hk => h2 k (by simp [hk])) e2 i (by simpa using h) (by simpa using h')
theorem kids_at {L : List Sym} {J : List Int} {p i : Nat} (hi : i < arN L (at' J p)) : (kidsL L J p)[i]? = some (past L J i (p + 1)) := starts_at hi
theorem good_inj {L : List Sym} {J : List Int} {val : Int → List Int} (hT : Trs L J) (hg : Good L J val) : Inj L J val := by
  intro p q hp hq sp sq e
  rw [hg.sym p hp sp, hg.sym q hq sq] at e
  simp only [List.cons.injEq] at e
  refine ⟨e.1, fun i hi => ?_⟩
  have l1 : (kidsL L J p).length = arN L (at' J p) := starts_length _ _ _ _
  have l2 : (kidsL L J q).length = arN L (at' J q) := starts_length _ _ _ _
  have hl : (kidsL L J p).length = (kidsL L J q).length := by rw [l1, l2, e.1]
  have h1 : i < (kidsL L J p).length := by omega
  have h2 : i < (kidsL L J q).length := by omega
  have := flat_inj (L := L) (f := fun k : Nat => val (k : Int)) _ _ hl (fun k hk => hg.isT _ (part_nat (kids_lt hT hp k hk))) (fun k hk => hg.isT _ (part_nat (kids_lt hT hq k hk))) e.2 i h1 h2
  have g1 := kids_at (L := L) (J := J) (p := p) hi
  have g2 := kids_at (L := L) (J := J) (p := q) (i := i) (by rw [← e.1]; exact hi)
  rw [List.getElem?_eq_getElem h1, Option.some.injEq] at g1
  rw [List.getElem?_eq_getElem h2, Option.some.injEq] at g2
  rw [g1, g2] at this
  exact this
/-! ### a term that would lie in itself -/
theorem kid_less {L : List Sym} {J : List Int} {ld : Int → Int} : ∀ (l : List Nat) (u : List Int), Vals L J ld l u → ∀ y ∈ l, ∃ t', Val L J ld y t' ∧ t'.length ≤ u.length
  | [], u, _, y, hy => by simp at hy
  | x :: r, u, h, y, hy => by
    obtain ⟨a, b, h1, h2, h3⟩ := vals_split h
    subst h3
    rcases List.mem_cons.1 hy with e | e
    · subst e; exact ⟨a, h1, by simp⟩
    · obtain ⟨t', g1, g2⟩ := kid_less r b h2 y e
      exact ⟨t', g1, by rw [List.length_append]; omega⟩
/-- Who is being counted lies above. -/
def Above (L : List Sym) (J : List Int) (ld : Int → Int) (sz : Nat → Int) (x : Int) : Prop := ∀ p : Nat, p < J.length → ld p = p → sz p = -1 → ∀ t, Val L J ld p t → ∃ t', Val L J ld x t' ∧ t'.length < t.length
theorem sizA_none {L : List Sym} {J : List Int} {ld : Int → Int} {n : Nat} (hf : ∀ sz x k sz', UPart J x → SzOk sz → sizF L J ld n sz x = some (k, sz') → (k ≠ -1 → ∀ p, sz' p = -1 → sz p = -1) ∧ (k = -1 → Above L J ld sz x → ∀ u, ¬ Val L J ld x u)) : ∀ (l : List Nat), (∀ x ∈ l, x < J.length) → ∀ (s : Int) (sz : Nat → Int) (k : Int) (sz' : Nat → Int), 1 ≤ s → s ≤ 2001 → SzOk sz → sizA (sizF L J ld n) l s sz = some (k, sz') → (k ≠ -1 → ∀ p, sz' p = -1 → sz p = -1) ∧ (k = -1 → (∀ x ∈ l, Above L J ld sz (x : Nat)) → ∀ u, ¬ Vals L J ld l u)
  | [], _, s, sz, k, sz', h1, _, _, e => by
    simp only [sizA, Option.some.injEq, Prod.mk.injEq] at e
    obtain ⟨rfl, rfl⟩ := e
    exact ⟨fun _ _ h => h, fun e => by omega⟩
  | x :: r, hl, s, sz, k, sz', h1, h2, h3, e => by
    unfold sizA at e
    cases hx : sizF L J ld n sz (x : Int) with
    | none => simp [hx] at e
    | some v =>
      obtain ⟨k1, sz1⟩ := v
      simp only [hx] at e
      obtain ⟨g1, g2⟩ := hf _ _ _ _ (part_nat (hl x (by simp))) h3 hx
      have g3 := sizF_ok n _ _ _ _ h3 hx
      by_cases hk : k1 = -1
      · rw [if_pos hk] at e
        simp only [Option.some.injEq, Prod.mk.injEq] at e
        obtain ⟨rfl, rfl⟩ := e
        refine ⟨fun f => absurd rfl f, fun _ ha u hu => ?_⟩
        obtain ⟨a, b, q1, q2, q3⟩ := vals_split hu
        exact g2 hk (ha x (by simp)) a q1
      · rw [if_neg hk] at e
        obtain ⟨f1, f2⟩ := sizA_none hf r (fun y hy => hl y (by simp [hy])) _ _ _ _ (by omega) (by omega) g3.1 e
        refine ⟨fun hk' p hp => g1 hk p (f1 hk' p hp), fun hk' ha u hu => ?_⟩
        obtain ⟨a, b, q1, q2, q3⟩ := vals_split hu
        exact f2 hk' (fun y hy p hp hpp hs => ha y (by simp [hy]) p hp hpp (g1 hk p hs)) b q2
theorem sizF_none {L : List Sym} {J : List Int} {ld : Int → Int} (hT : Trs L J) (hl : LdOk J ld) : ∀ (n : Nat) (sz : Nat → Int) (x k : Int) (sz' : Nat → Int), UPart J x → SzOk sz → sizF L J ld n sz x = some (k, sz') → (k ≠ -1 → ∀ p, sz' p = -1 → sz p = -1) ∧ (k = -1 → Above L J ld sz x → ∀ u, ¬ Val L J ld x u) := by
  intro n
  induction n with
  | zero => intro sz x k sz' _ _ e; simp [sizF] at e
  | succ n ih =>
    intro sz x k sz' hx hs e
    rw [sizF] at e
    by_cases h1 : ld x < 0
    · rw [if_pos h1] at e
      simp only [Option.some.injEq, Prod.mk.injEq] at e
      obtain ⟨rfl, rfl⟩ := e
      exact ⟨fun _ _ h => h, fun e => by omega⟩
    · rw [if_neg h1] at e
      obtain ⟨p, hp⟩ := Int.eq_ofNat_of_zero_le (Int.not_lt.1 h1)
      have hpl : p < J.length := by have := (hl.part x hx).2; omega
      have hpp : ld (p : Int) = p := by
        have := hl.idem x hx
        rw [hp] at this; exact this
      have e1 : (ld x).toNat = p := by omega
      have exp : ld x = ld (p : Int) := by rw [hpp, hp]
      rw [e1] at e
      by_cases h2 : sz p ≠ 0
      · rw [if_pos h2] at e
        simp only [Option.some.injEq, Prod.mk.injEq] at e
        obtain ⟨rfl, rfl⟩ := e
        refine ⟨fun _ _ h => h, fun hk ha u hu => ?_⟩
        obtain ⟨t', q1, q2⟩ := ha p hpl hpp hk u (val_ld exp hu)
        rw [q1.uniq hu] at q2
        omega
      · rw [if_neg h2] at e
        have h0 : sz p = 0 := by simpa using h2
        cases h3 : sizA (sizF L J ld n) (kidsL L J p) 1 (updN sz p (-1)) with
        | none => simp [h3] at e
        | some v =>
          obtain ⟨s, sz1⟩ := v
          obtain ⟨g1, g2⟩ := sizA_none ih _ (kids_lt hT hpl) 1 _ _ _ (by omega) (by omega) (hs.upd _ (.inl rfl)) h3
          simp only [h3] at e
          by_cases hss : s = -1
          · rw [if_pos hss] at e
            simp only [Option.some.injEq, Prod.mk.injEq] at e
            obtain ⟨rfl, rfl⟩ := e
            refine ⟨fun f => absurd rfl f, fun _ ha u hu => ?_⟩
            obtain ⟨v, q1, q2⟩ := val_sym' h1 hu
            rw [e1] at q2
            have up : ∀ (t : List Int), Val L J ld (p : Int) t → ∀ y ∈ kidsL L J p, ∃ t', Val L J ld (y : Nat) t' ∧ t'.length < t.length := by
              intro t ht y hy
              obtain ⟨v', r1, r2⟩ := val_sym' (by rw [hpp]; omega) ht
              rw [hpp, Int.toNat_natCast] at r2
              obtain ⟨t', r3, r4⟩ := kid_less _ _ r2 y hy
              exact ⟨t', r3, by rw [r1, List.length_cons]; omega⟩
            refine g2 hss (fun y hy q hq hqq hsq t ht => ?_) v q2
            unfold updN at hsq
            by_cases eq : q = p
            · subst eq; exact up t ht y hy
            · rw [if_neg eq] at hsq
              obtain ⟨t2, r1, r2⟩ := ha q hq hqq hsq t ht
              obtain ⟨t3, r3, r4⟩ := up t2 (val_ld exp r1) y hy
              exact ⟨t3, r3, by omega⟩
          · rw [if_neg hss] at e
            simp only [Option.some.injEq, Prod.mk.injEq] at e
            obtain ⟨rfl, rfl⟩ := e
            refine ⟨fun _ q hq => ?_, fun f => absurd f hss⟩
            unfold updN at hq
            by_cases eq : q = p
            · rw [if_pos eq] at hq; exact absurd hq hss
            · rw [if_neg eq] at hq
              have := g1 hss q hq
              unfold updN at this
              rwa [if_neg eq] at this
/-- Where there is a value there is a term, and the value comes of it. -/
theorem sol_good {L : List Sym} {J : List Int} (hT : Trs L J) (hv : ∀ x ∈ J, -198 ≤ x) {m : Nat} (h0 : 0 < J.length) (hm : m < J.length) {val : Int → List Int} (hg : Good L J val) (he : val 0 = val m) :
    ∃ ld k u, solF L J m = some (ld, k) ∧ Closed L J m ld ∧ Val L J ld 0 u ∧ k = min (u.length : Int) 2001 ∧ val 0 = subV val u ∧ ∀ x, UPart J x → val (ld x) = val x := by
  obtain ⟨res, hU, hR1, hR2⟩ := (sol_any hT hv h0 hm).uni
  have hst : ∀ x, UPart J x → val (ld0 J x) = val x := by
    intro x hx
    by_cases h : 0 ≤ x ∧ at' J x < 0
    · have e : ld0 J x = at' J x := by unfold ld0; rw [if_pos h]
      obtain ⟨p, rfl⟩ := Int.eq_ofNat_of_zero_le h.1
      rw [e]
      exact (hg.var p (by have := hx.2; omega) h.2).symm
    · have e : ld0 J x = x := by unfold ld0; rw [if_neg h]
      rw [e]
  obtain ⟨ld, rfl, hc⟩ := uni_least (good_inj hT hg) _ _ _ _ hU hst (fun r hr => by
    simp only [List.mem_cons, List.not_mem_nil, or_false] at hr
    subst hr
    refine ⟨1, endN L J m, hT 0 h0, hT m hm, fun i hi => ?_⟩
    obtain rfl : i = 0 := by omega
    exact he)
  obtain ⟨hl, k, sz', hs, hk1, hk2⟩ := hR2 ld rfl
  obtain ⟨u, hu, hvu⟩ := val_exists hT hl hg hc _ 0 (Nat.le_refl _) (part_nat (p := 0) h0)
  have hk : k ≠ -1 := fun e => (sizF_none hT hl _ _ _ _ _ (part_nat (p := 0) h0) (fun p => .inr ⟨by simp, by simp⟩) hs).2 e (fun p _ _ f => by simp at f) u hu
  obtain ⟨e1, u', hu', hku⟩ := hk2 hk
  have := hu'.uniq hu
  subst this
  exact ⟨ld, k, u', e1, closed_of hv h0 hm hU, hu, hku, hvu, hc⟩
end Go.Proofs.Ythhcnllabhfejaa
