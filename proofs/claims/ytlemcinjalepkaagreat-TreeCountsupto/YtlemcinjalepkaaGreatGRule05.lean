import Derived.Test.YtlemcinjalepkaaGreatGRule04
import Derived.Laws.CopyOwn
/- Variables numbered as they come, and as the document's Plain numbers them. -/
namespace Go.Proofs.YtlemcinjalepkaaGreat
set_option linter.unusedVariables false
def upl (a : List Int) : List Int := a.map (pl (vs [] a))
theorem plains_alone (a : List Int) : plains [a] = [upl a] := by simp [plains, orderL, upl]
def negL (o : List Int) : List Int := o.map (fun v => -v)
theorem mem_neg {o : List Int} {x : Int} : x ∈ negL o ↔ -x ∈ o := by
  unfold negL
  rw [List.mem_map]
  constructor
  · rintro ⟨y, hy, rfl⟩; rw [Int.neg_neg]; exact hy
  · intro h; exact ⟨-x, h, by omega⟩
theorem idx_neg (o : List Int) (x : Int) : (negL o).idxOf x = o.idxOf (-x) := by
  induction o with
  | nil => rfl
  | cons y r ih =>
    unfold negL at ih ⊢
    rw [List.map_cons, List.idxOf_cons, List.idxOf_cons, ih]
    by_cases e : -y = x
    · have e2 : y = -x := by omega
      have h1 : (-y == x) = true := by simpa using e
      have h2 : (y == -x) = true := by simpa using e2
      rw [h1, h2]
    · have e2 : ¬ y = -x := by omega
      have h1 : (-y == x) = false := by simpa using e
      have h2 : (y == -x) = false := by simpa using e2
      rw [h1, h2]
theorem vzs_neg {o : List Int} {x : Int} (hx : -99 ≤ x) : vzs (negL o) x = negL (vstep o x) := by
  unfold vzs vstep
  by_cases h : x < 0 ∧ ¬ x ∈ negL o
  · rw [if_pos h, if_pos ⟨isV_iff.2 ⟨hx, by omega⟩, fun f => h.2 (mem_neg.2 f)⟩]
    simp [negL]
  · rw [if_neg h, if_neg (fun f => h ⟨by have := isV_iff.1 f.1; omega, fun g => f.2 (mem_neg.1 g)⟩)]
theorem wrF_pl (a : List Int) (ha : ∀ x ∈ a, -99 ≤ x) (o : List Int) : wrF (negL o) a = a.map (pl (vs o a)) := by
  induction a generalizing o with
  | nil => rfl
  | cons x r ih =>
    have hx := ha x (by simp)
    have e : vs o (x :: r) = vs (vstep o x) r := rfl
    rw [wrF, vzs_neg hx, ih (fun y hy => ha y (by simp [hy])), List.map_cons, e]
    congr 1
    unfold rn pl
    by_cases h : x < 0
    · have hv : isV x = true := isV_iff.2 ⟨hx, by omega⟩
      rw [if_pos h, if_pos hv, idx_neg]
      have hm : -x ∈ vstep o x := by
        unfold vstep
        split
        · simp
        · rename_i g; simp [hv] at g; exact g
      rw [idx_prefix (vs_sub (vstep o x) r) hm]
    · rw [if_neg h, if_neg (fun f => by have := isV_iff.1 f; omega)]
theorem wrF_upl {a : List Int} (ha : ∀ x ∈ a, -99 ≤ x) : wrF [] a = upl a := wrF_pl a ha []
/-! ### what is written is as Plain has it -/
/-- Variables come by rising numbers, c of them having come. -/
def Rises : Nat → List Int → Prop
  | _, [] => True
  | c, x :: r => (0 ≤ x ∧ Rises c r) ∨ (x < 0 ∧ -(c : Int) ≤ x ∧ Rises c r) ∨ (x = -((c : Int) + 1) ∧ Rises (c + 1) r)
theorem wrF_rises (u o : List Int) : Rises o.length (wrF o u) := by
  induction u generalizing o with
  | nil => trivial
  | cons x r ih =>
    rw [wrF]
    by_cases h : x < 0
    · by_cases hm : x ∈ o
      · have e : vzs o x = o := by unfold vzs; rw [if_neg (fun f => f.2 hm)]
        rw [e]
        right; left
        have := idx_lt hm
        unfold rn
        rw [if_pos h]
        exact ⟨by omega, by omega, ih o⟩
      · have e : vzs o x = o ++ [x] := by unfold vzs; rw [if_pos ⟨h, hm⟩]
        have hr := ih (vzs o x)
        rw [e] at hr ⊢
        right; right
        unfold rn
        rw [if_pos h, idx_new hm]
        rw [List.length_append] at hr
        exact ⟨rfl, hr⟩
    · have e : vzs o x = o := by unfold vzs; rw [if_neg (fun f => h f.1)]
      rw [e]
      left
      unfold rn
      rw [if_neg h]
      exact ⟨by omega, ih o⟩
/-- The first c numbers, at most 99 of them. -/
def upto99 (c : Nat) : List Int := (List.range (min c 99)).map (fun i : Nat => (i : Int) + 1)
theorem upto_mem {c : Nat} {v : Int} : v ∈ upto99 c ↔ 1 ≤ v ∧ v ≤ (min c 99 : Nat) := by
  unfold upto99
  rw [List.mem_map]
  constructor
  · rintro ⟨i, hi, rfl⟩
    have := List.mem_range.1 hi
    omega
  · intro h
    exact ⟨(v - 1).toNat, List.mem_range.2 (by omega), by omega⟩
theorem upto_succ {c : Nat} (h : c < 99) : upto99 (c + 1) = upto99 c ++ [(c : Int) + 1] := by
  unfold upto99
  rw [show min (c + 1) 99 = min c 99 + 1 by omega, List.range_succ, List.map_append, show min c 99 = c by omega]; rfl
theorem upto_more {c : Nat} (h : 99 ≤ c) : upto99 (c + 1) = upto99 c := by
  unfold upto99
  rw [show min (c + 1) 99 = min c 99 by omega]
theorem upto_idx {c : Nat} {v : Int} (h : v ∈ upto99 c) : ((upto99 c).idxOf v : Int) = v - 1 := by
  obtain ⟨h1, h2⟩ := upto_mem.1 h
  have hi : (v - 1).toNat < (upto99 c).length := by simp [upto99]; omega
  have hg : (upto99 c)[(v - 1).toNat] = v := by simp [upto99]; omega
  have nd : (upto99 c).Nodup := by
    unfold upto99
    exact List.Pairwise.map _ (fun a b h e => h (by omega)) List.nodup_range
  have := idx_of nd hi
  rw [hg] at this
  omega
theorem rises_pl : ∀ (t : List Int) (c : Nat), Rises c t → t.map (pl (vs (upto99 c) t)) = t
  | [], c, _ => rfl
  | x :: r, c, h => by
    have e : vs (upto99 c) (x :: r) = vs (vstep (upto99 c) x) r := rfl
    rw [List.map_cons, e]
    have key : ∀ c', vstep (upto99 c) x = upto99 c' → Rises c' r → (isV x = true → -x ∈ upto99 c') → pl (vs (vstep (upto99 c) x) r) x :: r.map (pl (vs (vstep (upto99 c) x) r)) = x :: r := by
      intro c' e1 hr hv
      rw [e1, rises_pl r c' hr]
      congr 1
      unfold pl
      split
      · rename_i hx
        have hm := hv hx
        rw [idx_prefix (vs_sub (upto99 c') r) hm, upto_idx hm]; omega
      · rfl
    rcases h with ⟨h1, h2⟩ | ⟨h1, h2, h3⟩ | ⟨h1, h2⟩
    · refine key c ?_ h2 (fun f => by have := isV_iff.1 f; omega)
      unfold vstep; rw [if_neg (fun f => by have := isV_iff.1 f.1; omega)]
    · refine key c ?_ h3 (fun f => by have := isV_iff.1 f; exact upto_mem.2 (by omega))
      unfold vstep
      rw [if_neg (fun f => f.2 (by have := isV_iff.1 f.1; exact upto_mem.2 (by omega)))]
    · by_cases hc : c < 99
      · have hv : isV x = true := isV_iff.2 (by omega)
        refine key (c + 1) ?_ h2 (fun _ => upto_mem.2 (by omega))
        unfold vstep
        rw [if_pos ⟨hv, fun f => by have := upto_mem.1 f; omega⟩, upto_succ hc, h1]
        try (congr 2)
        all_goals omega
      · refine key (c + 1) ?_ h2 (fun f => by have := isV_iff.1 f; omega)
        unfold vstep
        rw [if_neg (fun f => by have := isV_iff.1 f.1; omega), upto_more (by omega)]
theorem wrF_plain (u : List Int) : upl (wrF [] u) = wrF [] u := rises_pl _ 0 (wrF_rises u [])
/-! ### a term with itself -/
/-- The subterm at a place. -/
def cutJ (L : List Sym) (J : List Int) (p : Nat) : List Int := (J.drop p).take (endN L J p - p)
theorem cut_forest {L : List Sym} {J : List Int} : ∀ (k p q : Nat), Forest L J k p q → (J.drop p).take (q - p) = (starts L J k p).flatMap (cutJ L J)
  | 0, p, q, h => by have := h.zero; subst this; simp [starts]
  | k + 1, p, q, h => by
    obtain ⟨h1, h2, h3⟩ := h.succ
    have h4 := h3.le
    rw [starts, List.flatMap_cons, ← cut_forest k _ q h3]
    unfold cutJ
    rw [show q - p = (endN L J p - p) + (q - endN L J p) by omega, List.take_add, List.drop_drop, show p + (endN L J p - p) = endN L J p by omega]
theorem cut_sym {L : List Sym} {J : List Int} (hT : Trs L J) {p : Nat} (hp : p < J.length) : cutJ L J p = at' J p :: (kidsL L J p).flatMap (cutJ L J) := by
  have hf := kids_forest hT hp
  have h2 := hT.lt hp
  rw [kidsL, ← cut_forest _ _ _ hf, at'_nat J p hp]
  unfold cutJ
  rw [List.drop_eq_getElem_cons hp, show endN L J p - p = (endN L J p - (p + 1)) + 1 by omega, List.take_succ_cons]
theorem cut_isT {L : List Sym} {J : List Int} (hT : Trs L J) {p : Nat} (hp : p < J.length) : IsT L (cutJ L J p) := by
  obtain ⟨n, h1, h2, h3⟩ := hT p hp
  unfold cutJ
  rw [h2, show p + n - p = n by omega]
  exact (scan_need h1).2
theorem isT_var (L : List Sym) {x : Int} (h : x < 0) : IsT L [x] := by
  unfold IsT
  show need L (0 + 1) [x] = some 0
  rw [need, need]
  unfold arN; rw [if_pos h]
/-- Each place has its own subterm for value. -/
def selfV (L : List Sym) (J : List Int) : Int → List Int := fun x => if x < 0 then [x] else cutJ L J x.toNat
theorem self_good {L : List Sym} {J : List Int} (hT : Trs L J) : Good L J (selfV L J) := by
  have e1 : ∀ p : Nat, selfV L J (p : Int) = cutJ L J p := fun p => by unfold selfV; rw [if_neg (by omega), Int.toNat_natCast]
  refine ⟨fun p hp hs => ?_, fun p hp hs => ?_, fun x hx => ?_⟩
  · rw [e1, cut_sym hT hp]
    congr 1
  · rw [e1, cut_sym hT hp]
    have : kidsL L J p = [] := by unfold kidsL; rw [show arN L (at' J p) = 0 by unfold arN; rw [if_pos hs]]; rfl
    rw [this]
    unfold selfV; rw [if_pos hs]; rfl
  · unfold selfV
    split
    · exact isT_var L (by assumption)
    · exact cut_isT hT (by have := hx.2; omega)
theorem sh_zero (b : List Int) : b.map (shF 0) = b := by
  have : shF 0 = id := by funext x; unfold shF; split <;> simp
  rw [this, List.map_id]
theorem self_com {L : List Sym} {a : List Int} (ha : checkE L a = 0) : comE L a a 0 = 0 ∧ comT L a a 0 = wrF [] a := by
  obtain ⟨h1, h2, h3⟩ := checkE_zero.1 ha
  have hT := trs_jl (apart := (0 : Int)) (by omega) h3 h3
  have hJ : jl a a 0 = a ++ a := by unfold jl; rw [sh_zero]
  have hp := isT_pos h3
  rw [hJ] at hT
  have hv : ∀ x ∈ a ++ a, -198 ≤ x := fun x hx => by
    have hx : x ∈ a := by simpa using hx
    have := (badE_zero.1 h2 x hx).2; omega
  have hl : (a ++ a).length = a.length + a.length := by simp
  have c0 : selfV L (a ++ a) 0 = a := by
    have s1 := scan_more (need_scan (b := []) h3) a
    rw [List.append_nil] at s1
    have : endN L (a ++ a) 0 = a.length := by rw [endN_of (n := a.length) (by simpa using s1)]; omega
    unfold selfV cutJ
    rw [if_neg (by omega), show (0 : Int).toNat = 0 from rfl, this]; simp
  have cm : selfV L (a ++ a) (a.length : Nat) = a := by
    have s1 := need_scan (b := []) h3
    rw [List.append_nil] at s1
    have hd : (a ++ a).drop a.length = a := by simp
    have : endN L (a ++ a) a.length = a.length + a.length := endN_of (n := a.length) (by rw [hd]; exact s1)
    unfold selfV cutJ
    rw [if_neg (by omega), Int.toNat_natCast, this, hd]; simp
  obtain ⟨ld, k, u, hs, hcl, hu, hk, he, _⟩ := sol_good hT hv (m := a.length) (by omega) (by omega) (self_good hT) (by rw [c0, cm])
  have hua : u = a := by
    rw [c0] at he
    rw [he]
    have : ∀ l : List Int, subV (selfV L (a ++ a)) l = l := by
      intro l
      induction l with
      | nil => rfl
      | cons x r ih =>
        rw [subV_cons, ih]
        by_cases hx : x < 0
        · rw [if_pos hx]; unfold selfV; rw [if_pos hx]; rfl
        · rw [if_neg hx]; rfl
    exact (this u).symm
  subst hua
  have hk2 : ¬ 2000 < k := by omega
  have e1 : comE L u u 0 = 0 := by
    unfold comE
    rw [if_neg (by simpa using ha), if_neg (by simpa using ha), hJ, hs]
    simp only
    rw [if_neg hk2]
  refine ⟨e1, ?_⟩
  unfold comT
  rw [if_pos e1, hJ, hs]
  simp only
  rw [hu.tm (n := 2000) (by omega)]; rfl
end Go.Proofs.YtlemcinjalepkaaGreat
/- What is told of two terms comes of both, and each that comes of both comes of it. -/
namespace Go.Proofs.YtlemcinjalepkaaGreat
set_option linter.unusedVariables false
/-! ### lists with variables put in -/
theorem need_subV {L : List Sym} {f : Int → List Int} : ∀ (u : List Int), (∀ n ∈ u, n < 0 → IsT L (f n)) → ∀ k, need L k (subV f u) = need L k u
  | [], _, k => rfl
  | n :: r, h, k => by
    have ih := need_subV r (fun m hm => h m (by simp [hm]))
    rw [subV_cons]
    by_cases hn : n < 0
    · rw [if_pos hn, need_append]
      have hT := h n (by simp) hn
      cases k with
      | zero =>
        have := isT_pos hT
        cases hd : f n with
        | nil => rw [hd] at this; simp at this
        | cons x y => simp [need]
      | succ k =>
        have := need_add hT k
        rw [Nat.add_comm 1 k, Nat.zero_add] at this
        rw [this, Option.bind_some, need, show arN L n = 0 by unfold arN; rw [if_pos hn], Nat.add_zero]
        exact ih k
    · rw [if_neg hn]
      cases k with
      | zero => rfl
      | succ k => simp only [List.cons_append, List.nil_append, need]; exact ih _
theorem subV_len {L : List Sym} {f : Int → List Int} : ∀ (u : List Int), (∀ n ∈ u, n < 0 → IsT L (f n)) → u.length ≤ (subV f u).length
  | [], _ => Nat.le_refl _
  | n :: r, h => by
    have ih := subV_len r (fun m hm => h m (by simp [hm]))
    rw [subV_cons, List.length_append, List.length_cons]
    by_cases hn : n < 0
    · rw [if_pos hn]; have := isT_pos (h n (by simp) hn); omega
    · rw [if_neg hn]; simp; omega
theorem subV_congr {f g : Int → List Int} : ∀ (u : List Int), (∀ n ∈ u, n < 0 → f n = g n) → subV f u = subV g u
  | [], _ => rfl
  | n :: r, h => by
    rw [subV_cons, subV_cons, subV_congr r (fun m hm => h m (by simp [hm]))]
    by_cases hn : n < 0
    · rw [if_pos hn, if_pos hn, h n (by simp) hn]
    · rw [if_neg hn, if_neg hn]
/-! ### the terms of parts -/
theorem args_isT {L : List Sym} {J : List Int} {ld : Int → Int} {d : Nat} (ih : ∀ (x : Int) (u : List Int), UPart J x → tmF L J ld d x = some u → IsT L u) : ∀ (l : List Nat) (u : List Int), (∀ x ∈ l, x < J.length) → argsT (tmF L J ld d) l = some u → need L l.length u = some 0
  | [], u, _, e => by simp only [argsT, Option.some.injEq] at e; subst e; rfl
  | x :: r, u, hl, e => by
    unfold argsT at e
    cases h1 : tmF L J ld d (x : Int) with
    | none => simp [h1] at e
    | some a =>
      cases h2 : argsT (tmF L J ld d) r with
      | none => simp [h1, h2] at e
      | some b =>
        simp only [h1, h2, Option.some.injEq] at e
        subst e
        have g1 := ih x a (part_nat (hl x (by simp))) h1
        have g2 := args_isT ih r b (fun y hy => hl y (by simp [hy])) h2
        have := need_add g1 r.length
        rw [Nat.add_comm 1, Nat.zero_add] at this
        rw [List.length_cons, need_append, this, Option.bind_some, g2]
theorem tm_isT {L : List Sym} {J : List Int} {ld : Int → Int} (hT : Trs L J) (hl : LdOk J ld) : ∀ (d : Nat) (x : Int) (u : List Int), UPart J x → tmF L J ld d x = some u → IsT L u := by
  intro d
  induction d with
  | zero => intro x u _ h; simp [tmF] at h
  | succ d ih =>
    intro x u hx h
    rw [tmF] at h
    by_cases h1 : ld x < 0
    · rw [if_pos h1] at h
      simp only [Option.some.injEq] at h
      subst h
      exact isT_var L h1
    · rw [if_neg h1] at h
      have hp : (ld x).toNat < J.length := by have := (hl.part x hx).2; omega
      cases h2 : argsT (tmF L J ld d) (kidsL L J (ld x).toNat) with
      | none => simp [h2] at h
      | some v =>
        simp only [h2, Option.some.injEq] at h
        subst h
        have := args_isT ih _ _ (kids_lt hT hp) h2
        have e : (kidsL L J (ld x).toNat).length = arN L (at' J (ld x)) := by
          rw [show (kidsL L J (ld x).toNat).length = arN L (at' J ((ld x).toNat : Nat)) from starts_length _ _ _ _, show (((ld x).toNat : Nat) : Int) = ld x by omega]
        rw [e] at this
        unfold IsT
        show need L (0 + 1) _ = some 0
        rw [need, Nat.zero_add]; exact this
theorem Val.isT {L : List Sym} {J : List Int} {ld : Int → Int} (hT : Trs L J) (hl : LdOk J ld) {x : Int} {u : List Int} (hx : UPart J x) (h : Val L J ld x u) : IsT L u := by
  obtain ⟨d, hd⟩ := h
  exact tm_isT hT hl d x u hx hd
/-- What stands in a term: leaders, and symbols of the list. -/
theorem args_in {L : List Sym} {J : List Int} {ld : Int → Int} {d : Nat} {R : Int → Prop} (ih : ∀ (x : Int) (u : List Int), UPart J x → tmF L J ld d x = some u → ∀ n ∈ u, R n) : ∀ (l : List Nat) (u : List Int), (∀ x ∈ l, x < J.length) → argsT (tmF L J ld d) l = some u → ∀ n ∈ u, R n
  | [], u, _, e => by simp only [argsT, Option.some.injEq] at e; subst e; simp
  | x :: r, u, hl, e => by
    unfold argsT at e
    cases h1 : tmF L J ld d (x : Int) with
    | none => simp [h1] at e
    | some a =>
      cases h2 : argsT (tmF L J ld d) r with
      | none => simp [h1, h2] at e
      | some b =>
        simp only [h1, h2, Option.some.injEq] at e
        subst e
        intro n hn
        rcases List.mem_append.1 hn with q | q
        · exact ih x a (part_nat (hl x (by simp))) h1 n q
        · exact args_in ih r b (fun y hy => hl y (by simp [hy])) h2 n q
theorem tm_in {L : List Sym} {J : List Int} {ld : Int → Int} (hT : Trs L J) (hl : LdOk J ld) : ∀ (d : Nat) (x : Int) (u : List Int), UPart J x → tmF L J ld d x = some u → ∀ n ∈ u, (n < 0 ∧ UPart J n) ∨ (0 ≤ n ∧ n ∈ J) := by
  intro d
  induction d with
  | zero => intro x u _ h; simp [tmF] at h
  | succ d ih =>
    intro x u hx h
    rw [tmF] at h
    by_cases h1 : ld x < 0
    · rw [if_pos h1] at h
      simp only [Option.some.injEq] at h
      subst h
      intro n hn
      simp only [List.mem_cons, List.not_mem_nil, or_false] at hn
      subst hn
      exact .inl ⟨h1, hl.part x hx⟩
    · rw [if_neg h1] at h
      have hp : (ld x).toNat < J.length := by have := (hl.part x hx).2; omega
      cases h2 : argsT (tmF L J ld d) (kidsL L J (ld x).toNat) with
      | none => simp [h2] at h
      | some v =>
        simp only [h2, Option.some.injEq] at h
        subst h
        intro n hn
        rcases List.mem_cons.1 hn with q | q
        · right
          have hs := hl.sym x hx (by omega)
          refine ⟨by omega, ?_⟩
          have : at' J (ld x) = J[(ld x).toNat] := by
            have := at'_nat J (ld x).toNat hp
            rwa [show (((ld x).toNat : Nat) : Int) = ld x by omega] at this
          rw [q, this]; exact List.getElem_mem _
        · exact args_in ih _ _ (kids_lt hT hp) h2 n q
theorem Val.in {L : List Sym} {J : List Int} {ld : Int → Int} (hT : Trs L J) (hl : LdOk J ld) {x : Int} {u : List Int} (hx : UPart J x) (h : Val L J ld x u) : ∀ n ∈ u, (n < 0 ∧ UPart J n) ∨ (0 ≤ n ∧ n ∈ J) := by
  obtain ⟨d, hd⟩ := h
  exact tm_in hT hl d x u hx hd
theorem vals_same {L : List Sym} {J : List Int} {ld : Int → Int} : ∀ (l m : List Nat) (u : List Int), l.length = m.length → (∀ i (h : i < l.length) (h' : i < m.length), ld (l[i] : Nat) = ld (m[i] : Nat)) → Vals L J ld l u → Vals L J ld m u
  | [], [], u, _, _, hv => hv
  | [], y :: m, u, hl, _, _ => by simp at hl
  | x :: l, [], u, hl, _, _ => by simp at hl
  | x :: l, y :: m, u, hl, h, hv => by
    obtain ⟨a, b, h1, h2, rfl⟩ := vals_split hv
    have e0 := h 0 (by simp) (by simp)
    exact vals_cons (val_ld e0 h1) (vals_same l m b (by simpa using hl) (fun i p q => by have := h (i + 1) (by simpa using p) (by simpa using q); simpa using this) h2)
/-- The term of a place goes by its own arguments. -/
theorem Closed.own {L : List Sym} {J : List Int} {m : Nat} {ld : Int → Int} (hc : Closed L J m ld) {P : Nat} (hP : P < J.length) (hs : 0 ≤ at' J P) {u : List Int} (h : Val L J ld P u) : ∃ us, u = at' J P :: us ∧ Vals L J ld (kidsL L J P) us := by
  obtain ⟨g1, g2⟩ := hc.ok.like P (part_nat hP) (by omega) hs
  obtain ⟨v, h1, h2⟩ := val_sym' (by omega) h
  refine ⟨v, by rw [h1, g2], vals_same _ _ v ?_ ?_ h2⟩
  · have c1 : (((ld P).toNat : Nat) : Int) = ld P := by omega
    rw [show (kidsL L J (ld P).toNat).length = _ from starts_length _ _ _ _, show (kidsL L J P).length = _ from starts_length _ _ _ _, c1, g2]
  · intro i p q
    have c1 : (((ld P).toNat : Nat) : Int) = ld P := by omega
    have hi : i < arN L (at' J P) := by
      rw [show (kidsL L J P).length = arN L (at' J P) from starts_length _ _ _ _] at q
      exact q
    have k1 := kids_at (L := L) (J := J) (p := (ld P).toNat) (i := i) (by rw [c1, g2]; exact hi)
    have k2 := kids_at (L := L) (J := J) (p := P) (i := i) hi
    rw [List.getElem?_eq_getElem p, Option.some.injEq] at k1
    rw [List.getElem?_eq_getElem q, Option.some.injEq] at k2
    rw [k1, k2]
    exact (hc.args P hP hs i hi).symm
/-- The terms of variables: one for each that has one. -/
structure VarT (L : List Sym) (J : List Int) (ld : Int → Int) (f : Int → List Int) : Prop where
  val : ∀ n u, Val L J ld n u → f n = u
  none : ∀ n, (¬ ∃ u, Val L J ld n u) → f n = [n]
theorem varT_some (L : List Sym) (J : List Int) (ld : Int → Int) : ∃ f, VarT L J ld f := by
  have each : ∀ n : Int, ∃ y : List Int, (∀ u, Val L J ld n u → y = u) ∧ ((¬ ∃ u, Val L J ld n u) → y = [n]) := by
    intro n
    by_cases h : ∃ u, Val L J ld n u
    · obtain ⟨u, hu⟩ := h
      exact ⟨u, fun v hv => hu.uniq hv, fun f => absurd ⟨u, hu⟩ f⟩
    · exact ⟨[n], fun v hv => absurd ⟨v, hv⟩ h, fun _ => rfl⟩
  obtain ⟨f, hf⟩ := Classical.axiomOfChoice each
  exact ⟨f, fun n => (hf n).1, fun n => (hf n).2⟩
theorem VarT.isT {L : List Sym} {J : List Int} {ld : Int → Int} {f : Int → List Int} (h : VarT L J ld f) (hT : Trs L J) (hl : LdOk J ld) {n : Int} (hn : n < 0) (hp : UPart J n) : IsT L (f n) := by
  by_cases e : ∃ u, Val L J ld n u
  · obtain ⟨u, hu⟩ := e
    rw [h.val n u hu]
    exact hu.isT hT hl hp
  · rw [h.none n e]; exact isT_var L hn
/-- Terms of places come of the list itself. -/
theorem forest_sub {L : List Sym} {J : List Int} {m : Nat} {ld : Int → Int} (hc : Closed L J m ld) {f : Int → List Int} (hv0 : VarT L J ld f) : ∀ (n k p q : Nat) (u : List Int), q - p ≤ n → Forest L J k p q → Vals L J ld (starts L J k p) u → u = subV f ((J.drop p).take (q - p)) := by
  intro n
  induction n with
  | zero =>
    intro k p q u hn hf hv
    cases k with
    | zero =>
      have := hf.zero
      subst this
      obtain ⟨d, hd⟩ := hv
      simp only [starts, argsT, Option.some.injEq] at hd
      subst hd
      simp [subV]
    | succ k => have := hf.pos; omega
  | succ n ih =>
    intro k p q u hn hf hv
    cases k with
    | zero =>
      have := hf.zero
      subst this
      obtain ⟨d, hd⟩ := hv
      simp only [starts, argsT, Option.some.injEq] at hd
      subst hd
      simp [subV]
    | succ k =>
      obtain ⟨h1, h2, h3⟩ := hf.succ
      have h4 := h3.le
      have hpl : p < J.length := by have := h1.le; omega
      rw [starts] at hv
      obtain ⟨a, b, v1, v2, rfl⟩ := vals_split hv
      have e2 := ih k (endN L J p) q b (by omega) h3 v2
      have e1 : a = subV f ((J.drop p).take (endN L J p - p)) := by
        have hcut : (J.drop p).take (endN L J p - p) = at' J p :: (J.drop (p + 1)).take (endN L J p - (p + 1)) := by
          rw [List.drop_eq_getElem_cons hpl, show endN L J p - p = (endN L J p - (p + 1)) + 1 by omega, List.take_succ_cons, at'_nat J p hpl]
        rw [hcut, subV_cons]
        by_cases hs : 0 ≤ at' J p
        · obtain ⟨us, r1, r2⟩ := hc.own hpl hs v1
          have hk := kids_forest hc.trs hpl
          rw [r1, if_neg (by omega), ih _ _ _ us (by omega) hk r2]; rfl
        · have hk := kids_forest hc.trs hpl
          rw [show arN L (at' J p) = 0 by unfold arN; rw [if_pos (by omega)]] at hk
          have := hk.zero
          rw [if_pos (by omega), this, show p + 1 - (p + 1) = 0 by omega, List.take_zero]
          have hv' := val_ld (hc.var p hpl (by omega)) v1
          rw [hv0.val _ _ hv']; simp [subV]
      rw [e1, e2, ← subV_append]
      congr 1
      rw [show q - p = (endN L J p - p) + (q - endN L J p) by omega, List.take_add, List.drop_drop, show p + (endN L J p - p) = endN L J p by omega]
theorem end_first {L : List Sym} {a b : List Int} (ha : IsT L a) : endN L (a ++ b) 0 = a.length := by
  have s1 := scan_more (need_scan (b := []) ha) b
  rw [List.append_nil] at s1
  rw [endN_of (n := a.length) (by simpa using s1)]; omega
theorem end_second {L : List Sym} {a b : List Int} (hb : IsT L b) : endN L (a ++ b) a.length = a.length + b.length := by
  have s1 := need_scan (b := []) hb
  rw [List.append_nil] at s1
  exact endN_of (n := b.length) (by simpa using s1)
/-- Both terms have a common one. -/
theorem both_sub {L : List Sym} {a b : List Int} {ap : Int} (h0 : 0 ≤ ap) (ha : IsT L a) (hb : IsT L b) {ld : Int → Int} (hc : Closed L (jl a b ap) a.length ld) {f : Int → List Int} (hf : VarT L (jl a b ap) ld f) {u : List Int} (hu : Val L (jl a b ap) ld 0 u) : u = subV f a ∧ u = subV f (b.map (shF ap)) := by
  have hp := isT_pos ha
  have hq := isT_pos hb
  have hl : (jl a b ap).length = a.length + b.length := by simp [jl]
  have hb' := isT_sh h0 hb
  have hm : Val L (jl a b ap) ld (a.length : Nat) u := val_ld hc.both hu
  have e1 : endN L (jl a b ap) 0 = a.length := end_first (b := b.map (shF ap)) ha
  have e2 : endN L (jl a b ap) a.length = a.length + (b.map (shF ap)).length := end_second (a := a) hb'
  constructor
  · have := forest_sub hc hf _ 1 0 _ u (Nat.le_refl _) (hc.trs 0 (by omega)) (by
      have := vals_cons hu (vals_nil L (jl a b ap) ld)
      rw [List.append_nil] at this
      exact this)
    rw [e1] at this
    rw [this]
    unfold jl
    rw [List.drop_zero, Nat.sub_zero, List.take_left]
  · have := forest_sub hc hf _ 1 a.length _ u (Nat.le_refl _) (hc.trs a.length (by omega)) (by
      have := vals_cons hm (vals_nil L (jl a b ap) ld)
      rw [List.append_nil] at this
      exact this)
    rw [e2] at this
    rw [this]
    unfold jl
    rw [List.drop_left, Nat.add_sub_cancel_left, List.take_length]
end Go.Proofs.YtlemcinjalepkaaGreat
/- Patterns and instances in plain words: what variables stand for, the walk of a pattern along a term, terms put in; no program in sight. -/
namespace Go.Proofs.YtlemcinjalepkaaGreat
set_option linter.unusedVariables false
/-- What stands for each variable: nothing is the empty list. -/
abbrev Tb := Nat → List Int
def updT (σ : Tb) (v : Nat) (u : List Int) : Tb := fun x => if x = v then u else σ x
def noT : Tb := fun _ => []
/-- The first term of a list. -/
def headT (L : List Sym) (ts : List Int) : List Int := ts.take ((scan L 1 ts).getD 0)
/-- A pattern along some numbers. -/
def mw (L : List Sym) : List Int → List Int → Tb → Option Tb
  | [], _, σ => some σ
  | n :: r, ts, σ =>
    if 0 ≤ n then (match ts with | [] => none | x :: ts' => if x = n then mw L r ts' σ else none)
    else if σ (-n).toNat = [] then mw L r (ts.drop (headT L ts).length) (updT σ (-n).toNat (headT L ts))
    else if σ (-n).toNat = headT L ts then mw L r (ts.drop (headT L ts).length) σ else none
theorem mw_sym {L : List Sym} {n x : Int} {r ts : List Int} {σ : Tb} (hn : 0 ≤ n) : mw L (n :: r) (x :: ts) σ = if x = n then mw L r ts σ else none := by
  rw [mw, if_pos hn]
theorem mw_new {L : List Sym} {n : Int} {r ts : List Int} {σ : Tb} (hn : ¬ 0 ≤ n) (h : σ (-n).toNat = []) : mw L (n :: r) ts σ = mw L r (ts.drop (headT L ts).length) (updT σ (-n).toNat (headT L ts)) := by
  rw [mw.eq_def]
  simp only [if_neg hn, if_pos h]
theorem mw_old {L : List Sym} {n : Int} {r ts : List Int} {σ : Tb} (hn : ¬ 0 ≤ n) (h : ¬ σ (-n).toNat = []) : mw L (n :: r) ts σ = if σ (-n).toNat = headT L ts then mw L r (ts.drop (headT L ts).length) σ else none := by
  rw [mw.eq_def]
  simp only [if_neg hn, if_neg h]
theorem arN_neg {L : List Sym} {n : Int} (h : ¬ 0 ≤ n) : arN L n = 0 := by rw [arN, if_pos (by omega)]
/-- Both lack as many terms. -/
def Even (L : List Sym) (p ts : List Int) : Prop := ∃ j, need L j p = some 0 ∧ need L j ts = some 0
theorem even_term {L : List Sym} {p ts : List Int} (h1 : IsT L p) (h2 : IsT L ts) : Even L p ts := ⟨1, h1, h2⟩
theorem Even.cons {L : List Sym} {n : Int} {r ts : List Int} (h : Even L (n :: r) ts) : ∃ x ts', ts = x :: ts' ∧ (0 ≤ n → x = n → Even L r ts') ∧ (¬ 0 ≤ n → ∃ m, scan L 1 ts = some m ∧ 0 < m ∧ m ≤ ts.length ∧ headT L ts = ts.take m ∧ (headT L ts).length = m ∧ Even L r (ts.drop m)) := by
  obtain ⟨j, h1, h2⟩ := h
  cases j with
  | zero => simp [need] at h1
  | succ j =>
    cases ts with
    | nil => simp [need] at h2
    | cons x ts' =>
      simp only [need] at h1
      refine ⟨x, ts', rfl, fun hn e => ?_, fun hn => ?_⟩
      · subst e
        simp only [need] at h2
        exact ⟨_, h1, h2⟩
      · rw [arN_neg hn, Nat.add_zero] at h1
        rw [Nat.add_comm] at h2
        obtain ⟨m, g1, g2, g3⟩ := need_split h2
        have hh : headT L (x :: ts') = (x :: ts').take m := by rw [headT, g1]; rfl
        exact ⟨m, g1, scan_pos (k := 0) g1, g2, hh, by rw [hh, List.length_take]; omega, j, h1, g3⟩
theorem Even.nil {L : List Sym} {ts : List Int} (h : Even L [] ts) : ts = [] := by
  obtain ⟨j, h1, h2⟩ := h
  simp [need] at h1; subst h1
  cases ts with
  | nil => rfl
  | cons x r => simp [need] at h2
theorem head_app {L : List Sym} {a b : List Int} {m : Nat} (h : scan L 1 a = some m) (hm : m ≤ a.length) : headT L (a ++ b) = headT L a := by
  have h3 := (scan_need h).2
  have : scan L 1 (a.take m ++ (a.drop m ++ b)) = some (a.take m).length := need_scan h3
  rw [← List.append_assoc, List.take_append_drop] at this
  rw [headT, headT, h, this]
  simp only [Option.getD_some, List.length_take, Nat.min_eq_left hm]
  rw [List.take_append_of_le_length hm]
/-- What lies behind the terms does not matter. -/
theorem mw_app {L : List Sym} {p a : List Int} (b : List Int) {σ : Tb} (h : Even L p a) : mw L p (a ++ b) σ = mw L p a σ := by
  induction p generalizing a σ with
  | nil => rfl
  | cons n r ih =>
    obtain ⟨x, ts', rfl, h1, h2⟩ := h.cons
    by_cases hn : 0 ≤ n
    · rw [List.cons_append, mw_sym hn, mw_sym hn]
      by_cases e : x = n
      · rw [if_pos e, if_pos e]; exact ih (h1 hn e)
      · rw [if_neg e, if_neg e]
    · obtain ⟨m, g1, g2, g3, g4, g5, g6⟩ := h2 hn
      have e1 := head_app (b := b) g1 g3
      have e2 : ((x :: ts') ++ b).drop m = (x :: ts').drop m ++ b := List.drop_append_of_le_length g3
      by_cases hs : σ (-n).toNat = []
      · rw [mw_new hn hs, mw_new hn hs, e1, g5, e2]; exact ih g6
      · rw [mw_old hn hs, mw_old hn hs, e1, g5, e2]
        by_cases hq : σ (-n).toNat = headT L (x :: ts')
        · rw [if_pos hq, if_pos hq]; exact ih g6
        · rw [if_neg hq, if_neg hq]

/-! ### lists of binds -/
abbrev Bd := Int × List Int
def blN (σ : Tb) (n : Nat) : List Bd := ((List.range n).filter (fun v => decide (σ v ≠ []))).map (fun (v : Nat) => (((v : Nat) : Int), σ v))
theorem blN_zero (σ : Tb) : blN σ 0 = [] := rfl
theorem blN_yes {σ : Tb} {n : Nat} (h : σ n ≠ []) : blN σ (n + 1) = blN σ n ++ [((n : Int), σ n)] := by
  simp [blN, List.range_succ, h]
theorem blN_no {σ : Tb} {n : Nat} (h : σ n = []) : blN σ (n + 1) = blN σ n := by
  simp [blN, List.range_succ, h]
theorem blN_mem {σ : Tb} {n : Nat} {b : Bd} (h : b ∈ blN σ n) : ∃ v : Nat, v < n ∧ b = ((v : Int), σ v) ∧ σ v ≠ [] := by
  simp [blN] at h
  obtain ⟨v, ⟨h1, h2⟩, rfl⟩ := h
  exact ⟨v, h1, rfl, h2⟩
theorem blN_len (σ : Tb) (n : Nat) : (blN σ n).length ≤ n := by
  rw [blN, List.length_map]
  exact Nat.le_trans (List.length_filter_le _ _) (by simp)
def boundL (l : List Bd) (v : Int) : Option (List Int) := (l.find? (fun b => decide (b.1 = v))).map (·.2)
theorem bound_nil (v : Int) : boundL [] v = none := rfl
theorem bound_cons (b : Bd) (l : List Bd) (v : Int) : boundL (b :: l) v = if b.1 = v then some b.2 else boundL l v := by
  by_cases h : b.1 = v <;> simp [boundL, h]
theorem bound_append (a l : List Bd) (v : Int) : boundL (a ++ l) v = (boundL a v).or (boundL l v) := by
  induction a with
  | nil => simp [boundL]
  | cons b a ih =>
    rw [List.cons_append, bound_cons, bound_cons, ih]
    by_cases h : b.1 = v <;> simp [h]
theorem bound_mem {l : List Bd} {v : Int} {u : List Int} (h : boundL l v = some u) : (v, u) ∈ l := by
  induction l with
  | nil => simp [boundL] at h
  | cons b l ih =>
    rw [bound_cons] at h
    by_cases e : b.1 = v
    · rw [if_pos e] at h; cases h; subst e; simp
    · rw [if_neg e] at h; exact List.mem_cons_of_mem _ (ih h)
theorem bound_none {l : List Bd} {v : Int} : boundL l v = none ↔ ∀ b ∈ l, b.1 ≠ v := by
  induction l with
  | nil => simp [boundL]
  | cons b l ih =>
    rw [bound_cons]
    by_cases e : b.1 = v
    · simp [e]
    · simp [e, ih]
theorem bound_bl {σ : Tb} {n v : Nat} (h : v < n) : boundL (blN σ n) (v : Int) = if σ v = [] then none else some (σ v) := by
  induction n with
  | zero => omega
  | succ n ih =>
    by_cases hs : σ n = []
    · rw [blN_no hs]
      by_cases e : v = n
      · subst e
        rw [if_pos hs, bound_none]
        intro b hb
        obtain ⟨x, hx, rfl, _⟩ := blN_mem hb
        simp; omega
      · exact ih (by omega)
    · rw [blN_yes hs, bound_append]
      by_cases e : v = n
      · subst e
        rw [if_neg hs]
        have : boundL (blN σ v) (v : Int) = none := by
          rw [bound_none]
          intro b hb
          obtain ⟨x, hx, rfl, _⟩ := blN_mem hb
          simp; omega
        rw [this, bound_cons]; simp
      · rw [ih (by omega)]
        have : ¬ (n : Int) = (v : Int) := by omega
        rw [bound_cons, if_neg this]
        simp [boundL]
/-- A bind among some, by rising variables. -/
def intoL : List Bd → Bd → List Bd
  | [], b => [b]
  | x :: r, b => if b.1 < x.1 then b :: x :: r else x :: intoL r b
theorem into_app {a t : List Bd} {b : Bd} (h : ∀ x ∈ t, b.1 < x.1) : intoL (a ++ t) b = intoL a b ++ t := by
  induction a with
  | nil =>
    cases t with
    | nil => rfl
    | cons x r => simp [intoL, h x (by simp)]
  | cons x a ih =>
    simp only [List.cons_append, intoL]
    by_cases e : b.1 < x.1
    · simp [e]
    · simp [e, ih]
theorem into_last {a : List Bd} {b : Bd} (h : ∀ x ∈ a, x.1 < b.1) : intoL a b = a ++ [b] := by
  induction a with
  | nil => rfl
  | cons x a ih =>
    have h1 := h x (by simp)
    rw [intoL, if_neg (by omega), ih (fun y hy => h y (by simp [hy]))]
    rfl
theorem upd_same {σ : Tb} {v : Nat} {u : List Int} : updT σ v u v = u := by simp [updT]
theorem upd_else {σ : Tb} {v x : Nat} {u : List Int} (h : x ≠ v) : updT σ v u x = σ x := by simp [updT, h]
theorem blN_upd {σ : Tb} {v n : Nat} {u : List Int} (h : n ≤ v) : blN (updT σ v u) n = blN σ n := by
  induction n with
  | zero => rfl
  | succ n ih =>
    have e : updT σ v u n = σ n := upd_else (by omega)
    by_cases hs : σ n = []
    · rw [blN_no (by rw [e]; exact hs), blN_no hs, ih (by omega)]
    · rw [blN_yes (by rw [e]; exact hs), blN_yes hs, ih (by omega), e]
theorem into_bl {σ : Tb} {v n : Nat} {u : List Int} (hv : v < n) (hs : σ v = []) (hu : u ≠ []) : intoL (blN σ n) ((v : Int), u) = blN (updT σ v u) n := by
  induction n with
  | zero => omega
  | succ n ih =>
    by_cases e : v = n
    · subst e
      rw [blN_no hs, blN_yes (by rw [upd_same]; exact hu), upd_same, blN_upd (Nat.le_refl _)]
      exact into_last (fun x hx => by obtain ⟨y, hy, rfl, _⟩ := blN_mem hx; simp; omega)
    · have e2 : updT σ v u n = σ n := upd_else (fun h => e h.symm)
      by_cases hn : σ n = []
      · rw [blN_no hn, blN_no (by rw [e2]; exact hn)]; exact ih (by omega)
      · rw [blN_yes hn, blN_yes (by rw [e2]; exact hn), e2, into_app (by simp; omega), ih (by omega)]

/-! ### terms put in -/
def inst (σ : Tb) (n : Int) : List Int := if 0 ≤ n ∨ σ (-n).toNat = [] then [n] else σ (-n).toNat
def appT (σ : Tb) (t : List Int) : List Int := t.flatMap (inst σ)
theorem app_nil (σ : Tb) : appT σ [] = [] := rfl
theorem app_cons (σ : Tb) (n : Int) (t : List Int) : appT σ (n :: t) = inst σ n ++ appT σ t := by simp [appT]
theorem app_append (σ : Tb) (a b : List Int) : appT σ (a ++ b) = appT σ a ++ appT σ b := by simp [appT]
theorem inst_len (σ : Tb) (n : Int) : (inst σ n).length = max 1 (if 0 ≤ n then 0 else (σ (-n).toNat).length) := by
  unfold inst
  by_cases h : 0 ≤ n
  · simp [h]
  · by_cases hs : σ (-n).toNat = []
    · simp [h, hs]
    · have : 0 < (σ (-n).toNat).length := List.length_pos_iff.2 hs
      simp [h, hs]; omega
end Go.Proofs.YtlemcinjalepkaaGreat
/- The walks of join, Sub and Put of package term. -/
namespace Go.Proofs.YtlemcinjalepkaaGreat
set_option maxRecDepth 100000
set_option linter.unusedVariables false
open Go.RowKit
attribute [local go_sem ↓] Go.wp_at_zero Go.wp_at_succ
/-- A part that is laid behind another. -/
structure Part where
  ao : Option Addr
  cap : Nat
  xs : List Int
def PartsAt (w : World) (pb : Nat) (ps : List Part) : Prop := pb < w.heap.size ∧ ∀ i (h : i < ps.length), w.cell? ⟨pb, i, none⟩ = some (.slice ps[i].ao ps[i].xs.length ps[i].cap) ∧ IntsAt w ps[i].ao ps[i].xs
def allOf (ps : List Part) : List Int := ps.flatMap Part.xs
theorem PartsAt.same {w w' : World} {pb : Nat} {ps : List Part} (h : PartsAt w pb ps) (hk : Same0 w w') : PartsAt w' pb ps :=
  ⟨Nat.lt_of_lt_of_le h.1 hk.size, fun i hi => ⟨(hk.cell (p := ⟨pb, i, none⟩) h.1 (fun f => f)).trans (h.2 i hi).1, (h.2 i hi).2.same hk⟩⟩
theorem allOf_snoc {ps : List Part} {k : Nat} (h : k < ps.length) : allOf (ps.take (k + 1)) = allOf (ps.take k) ++ ps[k].xs := by
  simp only [allOf]; rw [List.take_add_one, List.getElem?_eq_getElem h, List.flatMap_append]; simp
theorem allOf_le (ps : List Part) (k : Nat) : (allOf (ps.take k)).length ≤ (allOf ps).length := by
  have e : allOf ps = allOf (ps.take k) ++ allOf (ps.drop k) := by rw [allOf, allOf, allOf, ← List.flatMap_append, List.take_append_drop]
  rw [e]; simp
theorem Same0.of {w w' : World} (h : Below w.heap.size w w') : Same0 w w' := ⟨h.os, h.tape, h.output, h.size, fun k hk _ => h.block k hk⟩
/-- What lies in the row that join fills, when m numbers are laid. -/
def Joins (g N m : Nat) (xs : List Int) (w wr : World) : Prop := ∃ cur : List Value, wr.heap[g]? = some (.cells cur.toArray 3 (0, 0)) ∧ cur.length = N ∧ cur.take m = iv xs ∧ xs.length = m ∧ Same0 w wr
theorem Joins.start {g N : Nat} {v : Value} {ys : List Value} {w wr : World} (hv : v = .slice (some ⟨g, 0, none⟩) N N) (h : wr.ownsRow w.heap.size 3 1 v N ys) (hs : Same0 w wr) : Joins g N 0 [] w wr := by
  rcases h.2 with ⟨e, _⟩ | ⟨g', cap, cur, e, hb, hg, _, _, hsz, _⟩
  · rw [hv] at e; cases e
  · rw [hv] at e
    simp only [Value.slice.injEq, Option.some.injEq, Addr.mk.injEq, and_true, true_and] at e
    obtain ⟨rfl, rfl⟩ := e
    exact ⟨cur.toList, by simpa using hg, by simpa using hsz, by simp [iv], rfl, hs⟩
theorem splice_take {α : Type} (cur cs : List α) (m : Nat) (h : m + cs.length ≤ cur.length) : (splice cur m cs).take (m + cs.length) = cur.take m ++ cs := by
  unfold splice
  rw [← List.append_assoc, List.take_left' (by simp; omega)]
theorem Joins.next {g N m : Nat} {xs zs : List Int} {cur : List Value} {w w' : World} (h1 : cur.length = N) (h2 : cur.take m = iv xs) (h3 : xs.length = m) (hm : m + zs.length ≤ N)
    (hg : w'.heap[g]? = some (.cells (splice cur m (iv zs)).toArray 3 (0, 0))) (hb : Below w.heap.size w w') : Joins g N (m + zs.length) (xs ++ zs) w w' := by
  refine ⟨_, hg, ?_, ?_, by simp; omega, Same0.of hb⟩
  · rw [length_splice _ _ _ (by rw [iv_length]; omega)]; exact h1
  · have := splice_take cur (iv zs) m (by rw [iv_length]; omega)
    rw [iv_length] at this
    rw [this, h2, iv_append]
theorem Joins.row {g N : Nat} {xs : List Int} {w wr : World} (h : Joins g N N xs w wr) (hg : w.heap.size ≤ g) (hN : N ≤ maxLen) : Row w.heap.size wr (.slice (some ⟨g, 0, none⟩) N N) xs := by
  obtain ⟨cur, h1, h2, h3, h4, _⟩ := h
  subst h4
  exact ⟨by simp [iv], .inr ⟨g, xs.length, cur.toArray, rfl, hg, h1, Nat.le_refl _, hN, by simpa using h2, by simpa using h3⟩⟩
theorem iv_oneCell (xs : List Int) : ∀ v ∈ iv xs, v.oneCell' = true := by
  intro v hv
  simp only [iv, List.mem_map] at hv
  obtain ⟨x, _, rfl⟩ := hv
  rfl
theorem IntsAt.src {w : World} {ao : Option Addr} {xs : List Int} (h : IntsAt w ao xs) (hn : 0 < (iv xs).length) : ∃ ad, ao = some ad ∧ ∀ j v, (iv xs)[j]? = some v → w.cell? (ad.add j) = some v := by
  rcases h with rfl | ⟨b, off, rfl, _, hc⟩
  · simp [iv] at hn
  · refine ⟨_, rfl, fun j v hj => ?_⟩
    have hlt : j < xs.length := by
      have := (List.getElem?_eq_some_iff.1 hj).1
      rwa [iv_length] at this
    rw [iv_get hlt] at hj
    cases hj
    have := hc j hlt
    unfold Addr.add
    split
    · rename_i h0; subst h0; first | (simp; done) | (simpa using this)
    · exact this
theorem iv_min {m N d : Nat} {xs : List Int} (h : m + xs.length ≤ N) (hd : d = N - m) : (iv xs).length = Nat.min xs.length d := by rw [iv_length]; exact (Nat.min_eq_left (by omega)).symm
theorem size_int : (Tryz.prog.info? 3).map (·.size) = some 1 := by kernel_rfl
set_option maxRecDepth 10000 in
set_option maxHeartbeats 2000000 in
theorem join_any {w : World} {pb : Nat} {ps : List Part} (h : PartsAt w pb ps) {pc : Nat} (hn : ps.length ≤ 3) (hs : (allOf ps).length ≤ 17592186044416) :
    Calls Tryz.prog 86 #[.slice (some ⟨pb, 0, none⟩) ps.length pc] w fun e w' => ∃ v, e = .returned v ∧ Row w.heap.size w' v (allOf ps) ∧ Same0 w w' := by
  go_enter Tryz.func86, Tryz.ntmps86
  go_wp2
  go_loop [3, 12] (fun sz i => ∃ k : Nat, k ≤ ps.length ∧ i = .int .i64 (k : Int) ∧ sz = .int .i64 ((allOf (ps.take k)).length : Int)) (fun _ i => ps.length - (intOf i).toNat)
  case atStart => exact ⟨0, Nat.zero_le _, rfl, rfl⟩
  case round =>
    obtain ⟨k, hk, rfl, rfl⟩ := hrel
    by_cases hlt : k < ps.length
    · have i1 : (0 : Int) ≤ (k : Int) := by omega
      have i2 : (k : Int) < (ps.length : Int) := by omega
      obtain ⟨hc, _⟩ := h.2 k hlt
      have hb := h.1
      have e1 := congrArg List.length (allOf_snoc hlt)
      rw [List.length_append] at e1
      have e2 := allOf_le ps (k + 1)
      have E1 : Hid ((allOf (ps.take (k + 1))).length = (allOf (ps.take k)).length + ps[k].xs.length) := e1
      have b1 : (allOf (ps.take k)).length + ps[k].xs.length ≤ 17592186044416 := by omega
      clear e1 e2
      generalize (allOf (ps.take k)).length = S at *
      generalize ps[k].xs.length = X at *
      go_wp2
      refine ⟨⟨k + 1, by omega, by go_num, ?_⟩, by simp [intOf]; omega⟩
      rw [E1.out]; go_num
    · obtain rfl : k = ps.length := by omega
      obtain ⟨i, hi, hz0, hz1, hz2⟩ := info_parts info_intT
      have e0 : ps.take ps.length = ps := List.take_length
      rw [e0]
      clear e0
      obtain ⟨N, hN⟩ : ∃ N, N = (allOf ps).length := ⟨_, rfl⟩
      have hN' : Hid (N = (allOf ps).length) := hN
      have hs' : N ≤ 17592186044416 := by omega
      rw [← hN]
      clear hN hs
      go_wp2_with (first | (at_make; refine wpList_make_full _ rfl _ _ 47 rfl w.heap.size 3 i _ 1 Tryz.underlying47 hi hz0 hz1 _ _ _ _ N rfl rfl rfl rfl (by rw [hz2]; omega) (by unfold maxLen; omega) (Nat.le_refl _) ?_; intro w3 hown hgrow))
      have J0 : Joins w.heap.size N 0 (allOf (ps.take 0)) w w3 := Joins.start rfl hown (Same0.grown (Kept.refl _ w) hgrow)
      clear hown hgrow
      go_loopw [7, 25] (fun at' i wr => ∃ (k m : Nat), k ≤ ps.length ∧ i = .int .i64 (k : Int) ∧ at' = .int .i64 (m : Int) ∧ Joins w.heap.size N m (allOf (ps.take k)) w wr) (fun _ i _ => ps.length - (intOf i).toNat)
      case atStart => exact ⟨0, 0, Nat.zero_le _, rfl, rfl, J0⟩
      case round =>
        obtain ⟨k, m, hk, rfl, rfl, cur, q1, q2, q3, q4, q5⟩ := hrel
        by_cases hlt : k < ps.length
        · have i1 : (0 : Int) ≤ (k : Int) := by omega
          have i2 : (k : Int) < (ps.length : Int) := by omega
          have h' := h.same q5
          obtain ⟨hc, hx⟩ := h'.2 k hlt
          have hb := h'.1
          have e1 := congrArg List.length (allOf_snoc hlt)
          rw [List.length_append, q4] at e1
          have e2 := allOf_le ps (k + 1)
          have hN2 := hN'.out
          have b1 : m + ps[k].xs.length ≤ N := by omega
          have E2 : Hid (allOf (ps.take (k + 1)) = allOf (ps.take k) ++ ps[k].xs) := allOf_snoc hlt
          have Q3 : Hid (cur.take m = iv (allOf (ps.take k))) := q3
          have Q4 : Hid ((allOf (ps.take k)).length = m) := q4
          have hbl := q5.below
          clear e1 e2 hN2 q3 q4 h'
          have m1 : (m : Int) ≤ (N : Int) := by omega
          have m0 : (0 : Int) ≤ (m : Int) := by omega
          obtain ⟨pao, hpao⟩ : ∃ pao, pao = ps[k].ao := ⟨_, rfl⟩
          obtain ⟨pcap, hpcap⟩ : ∃ pcap, pcap = ps[k].cap := ⟨_, rfl⟩
          obtain ⟨pxs, hpxs⟩ : ∃ pxs, pxs = ps[k].xs := ⟨_, rfl⟩
          rw [← hpao, ← hpxs, ← hpcap] at hc
          rw [← hpao, ← hpxs] at hx
          rw [← hpxs] at b1 E2
          clear hpao hpcap hpxs
          have hfit : Hid (m + (iv pxs).length ≤ cur.length) := by show _ ≤ _; rw [iv_length]; omega
          go_upto_region 12 with fail
          go_wp2_with (first | (refine wpList_copy_splice rfl (.tmp 32) (.tmp 33) 47 47 rfl 3 Tryz.underlying47 size_int _ _ _ _ _ _ rfl rfl w.heap.size m cur 3 q1 (iv pxs) (iv_min b1 (by omega)) (fun h0 => ⟨by first | rfl | (exfalso; rw [iv_length] at h0; omega) | (split <;> first | rfl | (exfalso; rw [iv_length] at h0; omega)), hx.src h0⟩) hfit.out (iv_oneCell pxs) w.heap.size w hbl (Nat.le_refl _) ?_; intro w4 hg4 hb4))
          have ew : wrap64 ((m : Int) + ((iv pxs).length : Int)) = ((m + pxs.length : Nat) : Int) := by rw [iv_length]; unfold wrap64; omega
          refine ⟨⟨k + 1, m + pxs.length, by omega, by go_num, by rw [ew], ?_⟩, by simp [intOf]; omega⟩
          rw [E2.out]
          exact Joins.next q2 Q3.out Q4.out b1 hg4.out hb4
        · obtain rfl : k = ps.length := by omega
          rw [List.take_length] at q3 q4
          obtain rfl : N = m := by rw [← q4]; exact hN'.out
          have hr : Row w.heap.size wr (.slice (some ⟨w.heap.size, 0, none⟩) N N) (allOf ps) := Joins.row ⟨cur, q1, q2, q3, q4, q5⟩ (Nat.le_refl _) (by unfold maxLen; omega)
          clear q1 q2 q3 q4
          go_wp2
          go_ret
          exact ⟨_, rfl, hr, q5⟩
theorem IntsAt.cut {w : World} {b off : Nat} {t : List Int} (h : IntsAt w (some ⟨b, off, none⟩) t) (lo hi : Nat) : IntsAt w (some ⟨b, off + lo, none⟩) ((t.take hi).drop lo) := by
  rcases h with rfl | ⟨b', off', e, hlt, hc⟩
  · left; simp
  · simp only [Option.some.injEq, Addr.mk.injEq, and_true] at e
    obtain ⟨rfl, rfl⟩ := e
    refine .inr ⟨b, off + lo, rfl, hlt, fun i hi' => ?_⟩
    have h1 : lo + i < t.length := by simp at hi'; omega
    have := hc (lo + i) h1
    rw [Nat.add_assoc, this]
    simp
theorem IntsAt.nil (w : World) (ao : Option Addr) : IntsAt w ao [] := .inl rfl
theorem parts_one {w : World} {ao : Option Addr} {cap m : Nat} {xs : List Int} {T : TypeId} (h : IntsAt w ao xs) (hm : m = xs.length) : PartsAt (w.alloc (.cells #[.slice ao m cap] T)) w.heap.size [⟨ao, cap, xs⟩] := by
  subst hm
  refine ⟨by simp, fun i hi => ?_⟩
  obtain rfl : i = 0 := by simpa using hi
  exact ⟨cellAt (heap_alloc_new w _) 0, h.same ((Kept.refl _ w).alloc _)⟩
theorem parts_three {w : World} {a0 a1 a2 : Option Addr} {c0 c1 c2 m0 m1 m2 : Nat} {x0 x1 x2 : List Int} {T : TypeId} (h0 : IntsAt w a0 x0) (h1 : IntsAt w a1 x1) (h2 : IntsAt w a2 x2) (e0 : m0 = x0.length) (e1 : m1 = x1.length) (e2 : m2 = x2.length) :
    PartsAt (w.alloc (.cells #[.slice a0 m0 c0, .slice a1 m1 c1, .slice a2 m2 c2] T)) w.heap.size [⟨a0, c0, x0⟩, ⟨a1, c1, x1⟩, ⟨a2, c2, x2⟩] := by
  subst e0 e1 e2
  have k : Same0 w (w.alloc (.cells #[.slice a0 x0.length c0, .slice a1 x1.length c1, .slice a2 x2.length c2] T)) := (Kept.refl _ w).alloc _
  refine ⟨by simp, fun i hi => ?_⟩
  have hi' : i < 3 := by simpa using hi
  match i, hi' with
  | 0, _ => exact ⟨cellAt (heap_alloc_new w _) 0, h0.same k⟩
  | 1, _ => exact ⟨cellAt (heap_alloc_new w _) 1, h1.same k⟩
  | 2, _ => exact ⟨cellAt (heap_alloc_new w _) 2, h2.same k⟩
def subA (L : List Sym) (t : List Int) (a : Int) : List Int := if placeE L t a = 0 then subN L t a.toNat else []
set_option maxHeartbeats 2000000 in
theorem sub_any {n b : Nat} {w : World} {L : List Sym} (h : Sg n w b L) {ao : Option Addr} {cap : Nat} {t : List Int} (ht : IntsAt w ao t) (hm : t.length ≤ maxLen) (hcap : t.length ≤ cap) (a : Int) :
    Calls Tryz.prog 52 #[.pointer (some ⟨b, 0, none⟩), .slice ao t.length cap, .int .i64 a] w fun e w' => ∃ v, e = .returned (.tuple #[v, .int .i64 (placeE L t a)]) ∧ Row w.heap.size w' v (subA L t a) ∧ Same0 w w' := by
  have c := checkPlace_any (cap := cap) h ht hm a
  by_cases hz : placeE L t a = 0
  · obtain ⟨p, rfl, hp, h0, h1, h2⟩ := place_zero hz
    have H : Hid (placeE L t p = 0 ∧ subA L t p = subN L t p) := by
      refine ⟨hz, ?_⟩
      rw [subA, if_pos hz]; rfl
    have c2 : ∀ w1 q, Same0 w w1 → q < t.length → Calls Tryz.prog 83 #[.pointer (some ⟨b, 0, none⟩), .slice ao t.length cap, .int .i64 (q : Int)] w1 fun e w' => e = .returned (.int .i64 (endN L t q : Int)) ∧ Same0 w1 w' := fun w1 q hk hq => by
      have := end_any (cap := cap) (h.same hk) (ht.same hk) h1 q (by omega)
      rwa [endI_of h2 hq] at this
    obtain ⟨hl1, hl2⟩ := endN_le h2 hp
    obtain ⟨tb, off, rfl, htb, hc⟩ := ht.get hp
    rw [hz] at c
    have i1 : (0 : Int) ≤ (p : Int) := by omega
    have i2 : (p : Int) ≤ (endN L t p : Int) := by omega
    have i3 : (endN L t p : Int) ≤ (cap : Int) := by omega
    have i4 : ¬ cap = p := by omega
    go_enter Tryz.func52, Tryz.ntmps52
    go_wp2_with (first | (go_at_call 85; refine c.mono ?_; rintro e w1 ⟨rfl, hk1⟩) | (go_at_call 83; refine (c2 _ _ hk1 hp).mono ?_; rintro e w2 ⟨rfl, hk2⟩))
    have hk3 : Same0 w w2 := hk1.trans' hk2
    have hparts : PartsAt (w2.alloc (.cells #[.slice (some ⟨tb, off + p, none⟩) (endN L t p - p) (cap - p)] 47)) w2.heap.size [⟨some ⟨tb, off + p, none⟩, cap - p, subN L t p⟩] := parts_one ((ht.same hk3).cut p (endN L t p)) (sub_length h2 hp).symm
    have hlen : (subN L t p).length ≤ 2000 := by rw [sub_length h2 hp]; omega
    refine (join_any hparts (pc := 1) (by simp) (by simp [allOf]; omega)).mono ?_
    rintro e w4 ⟨v, rfl, hr, hk4⟩
    have e5 : allOf [⟨some ⟨tb, off + p, none⟩, cap - p, subN L t p⟩] = subN L t p := by simp [allOf]
    rw [e5] at hr
    have hk5 : Same0 w (w2.alloc (.cells #[.slice (some ⟨tb, off + p, none⟩) (endN L t p - p) (cap - p)] 47)) := hk3.alloc _
    have hr' := row_mono hr hk5.size
    have hk6 := hk5.trans' hk4
    clear hr hparts hk4 hk5 c c2
    go_wp2
    go_ret2
    refine ⟨v, ?_, ?_, hk6⟩
    · rw [H.out.1]; rfl
    · rw [H.out.2]; exact hr'
  · have H : Hid (subA L t a = []) := by show _ = _; rw [subA, if_neg hz]
    have hz' : (placeE L t a == 0) = false := by simpa using hz
    go_enter Tryz.func52, Tryz.ntmps52
    go_wp2_with (first | (go_at_call 85; refine c.mono ?_; rintro e w1 ⟨rfl, hk1⟩))
    go_ret2
    refine ⟨_, rfl, ?_, hk1⟩
    rw [H.out]
    exact World.ownsRow_nil _ _ _ _
def putE (L : List Sym) (t : List Int) (a : Int) (u : List Int) : Int := if placeE L t a ≠ 0 then placeE L t a else if checkE L u ≠ 0 then checkE L u else if 2000 < (putN L t a.toNat u).length then 20 else 0
def putA (L : List Sym) (t : List Int) (a : Int) (u : List Int) : List Int := if putE L t a u = 0 then putN L t a.toNat u else []
end Go.Proofs.YtlemcinjalepkaaGreat
/- The walk of Place of package term. -/
namespace Go.Proofs.YtlemcinjalepkaaGreat
set_option maxRecDepth 100000
set_option linter.unusedVariables false
open Go.RowKit
attribute [local go_sem ↓] Go.wp_at_zero Go.wp_at_succ
def leadE (L : List Sym) (t : List Int) (path : List Int) : Int := if checkE L t ≠ 0 then checkE L t else match leads L t 0 path with | some _ => 0 | none => 25
def leadA (L : List Sym) (t : List Int) (path : List Int) : Int := if checkE L t ≠ 0 then 0 else match leads L t 0 path with | some q => (q : Int) | none => 0
theorem leads_bad {L : List Sym} {t path : List Int} {q k : Nat} (h : leads L t 0 path = leads L t q (path.drop k)) (hk : k < path.length) (hq : q < t.length) (hn : path[k] < 0 ∨ (arN L t[q] : Int) ≤ path[k]) : leads L t 0 path = none := by
  rw [h, List.drop_eq_getElem_cons hk, leads]
  split
  · rfl
  · rw [argsN_eq hq, List.getElem?_eq_none (by rw [starts_length]; omega)]
theorem leads_good {L : List Sym} {t path : List Int} {q k i : Nat} (h : leads L t 0 path = leads L t q (path.drop k)) (hk : k < path.length) (hq : q < t.length) (hi : path[k] = (i : Int)) (hn : i < arN L t[q]) : leads L t 0 path = leads L t (past L t i (q + 1)) (path.drop (k + 1)) := by
  rw [h, List.drop_eq_getElem_cons hk, leads, hi, if_neg (by omega), argsN_eq hq]
  simp only [Int.toNat_natCast]
  rw [starts_at hn]
theorem past_lt {L : List Sym} {t : List Int} (h : IsT L t) {q i : Nat} (hq : q < t.length) (hi : i < arN L t[q]) : past L t i (q + 1) < t.length := by
  have hf := (Forest.one h hq).kids.2
  have hd := hf.drop (i := i) (by omega)
  rw [show arN L t[q] - i = (arN L t[q] - i - 1) + 1 by omega] at hd
  have := hd.pos
  have := hd.le
  omega
set_option maxRecDepth 4000 in
set_option maxHeartbeats 4000000 in
theorem place_any {n b : Nat} {w : World} {L : List Sym} (h : Sg n w b L) {ao po : Option Addr} {cap pcap : Nat} {t path : List Int} (ht : IntsAt w ao t) (hm : t.length ≤ maxLen) (hp : IntsAt w po path) (hpm : path.length ≤ maxLen) :
    Calls Tryz.prog 53 #[.pointer (some ⟨b, 0, none⟩), .slice ao t.length cap, .slice po path.length pcap] w fun e w' => e = .returned (.tuple #[.int .i64 (leadA L t path), .int .i64 (leadE L t path)]) ∧ Same0 w w' := by
  have c := check_any (cap := cap) h ht hm
  unfold maxLen at hpm
  by_cases hz : checkE L t = 0
  · obtain ⟨h1, _, h2⟩ := checkE_zero.1 hz
    have c1 : ∀ w1 x, Same0 w w1 → Calls Tryz.prog 87 #[.pointer (some ⟨b, 0, none⟩), .int .i64 x] w1 fun e w' => e = .returned (.int .i64 ((arN L x : Nat) : Int)) ∧ Same0 w1 w' := fun w1 x hk => arity_any (h.same hk) x
    have c2 : ∀ w1 q, Same0 w w1 → q < t.length → Calls Tryz.prog 83 #[.pointer (some ⟨b, 0, none⟩), .slice ao t.length cap, .int .i64 (q : Int)] w1 fun e w' => e = .returned (.int .i64 (endN L t q : Int)) ∧ Same0 w1 w' := fun w1 q hk hq => by
      have := end_any (cap := cap) (h.same hk) (ht.same hk) h1 q (by omega)
      rwa [endI_of h2 hq] at this
    have har := fun x => arN_le h.2 x
    have HAR : Hid (∀ x, arN L x ≤ 6) := har
    clear har
    rw [hz] at c
    go_enter Tryz.func53, Tryz.ntmps53
    go_wp2_with (first | (go_at_call 49; refine c.mono ?_; rintro e w1 ⟨rfl, hk1⟩))
    go_loopw [9, 20] (fun at' i wr => ∃ k q : Nat, k ≤ path.length ∧ i = .int .i64 (k : Int) ∧ at' = .int .i64 (q : Int) ∧ q < t.length ∧ leads L t 0 path = leads L t q (path.drop k) ∧ Same0 w wr) (fun _ i _ => path.length - (intOf i).toNat)
    case atStart => exact ⟨0, 0, Nat.zero_le _, rfl, rfl, isT_pos h2, by simp, hk1⟩
    case round =>
      obtain ⟨k, q, hk, rfl, rfl, hq, hl, hs⟩ := hrel
      have HL : Hid (leads L t 0 path = leads L t q (path.drop k)) := hl
      clear hl
      by_cases hlt : k < path.length
      · obtain ⟨pb, poff, rfl, hpb, hpc⟩ := (hp.same hs).get hlt
        obtain ⟨tb, off, rfl, htb, hc⟩ := (ht.same hs).get hq
        have i1 : (0 : Int) ≤ (k : Int) := by omega
        have i2 : (k : Int) < (path.length : Int) := by omega
        have i3 : (0 : Int) ≤ (q : Int) := by omega
        have i4 : (q : Int) < (t.length : Int) := by omega
        have ca := c1 wr t[q] hs
        have hae := HAR.out t[q]
        by_cases hn0 : path[k] < 0
        · have H : Hid (leadA L t path = 0 ∧ leadE L t path = 25) := by
            have := leads_bad HL.out hlt hq (.inl hn0)
            constructor
            · simp [leadA, hz, this]
            · simp [leadE, hz, this]
          clear c c1 c2
          go_wp2
          go_ret2
          exact ⟨by rw [H.out.1, H.out.2]; rfl, hs⟩
        · by_cases hna : (arN L t[q] : Int) ≤ path[k]
          · have H : Hid (leadA L t path = 0 ∧ leadE L t path = 25) := by
              have := leads_bad HL.out hlt hq (.inr hna)
              constructor
              · simp [leadA, hz, this]
              · simp [leadE, hz, this]
            clear c c1 c2
            go_wp2_with (first | (go_at_call 87; refine ca.mono ?_; rintro e w2 ⟨rfl, hk2⟩))
            go_ret2
            exact ⟨by rw [H.out.1, H.out.2]; rfl, hs.trans' hk2⟩
          · obtain ⟨i, hi⟩ : ∃ i : Nat, path[k] = (i : Int) := ⟨path[k].toNat, by omega⟩
            have hia : i < arN L t[q] := by omega
            have HN : Hid (leads L t 0 path = leads L t (past L t i (q + 1)) (path.drop (k + 1))) := leads_good HL.out hlt hq hi hia
            have hpl := past_lt h2 hq hia
            have hpls : Hid (∀ j, j < i → past L t j (q + 1) < t.length) := fun j hj => past_lt h2 hq (by omega)
            rw [hi] at hpc hn0 hna
            have hna' : ¬ arN L t[q] ≤ i := by omega
            have hna'' : decide (arN L t[q] ≤ i) = false := by simp; omega
            clear c c1
            obtain ⟨wo, rfl⟩ : ∃ wo : World, wo = wr := ⟨_, rfl⟩
            go_wp2_with (first | (go_at_call 87; refine ca.mono ?_; rintro e w2 ⟨rfl, hk2⟩))
            go_loopw [9, 39] (fun at' c wr => ∃ j : Nat, j ≤ i ∧ c = .int .i64 (j : Int) ∧ at' = .int .i64 (past L t j (q + 1) : Int) ∧ Same0 w wr) (fun _ c _ => i - (intOf c).toNat)
            case atStart => exact ⟨0, Nat.zero_le _, rfl, by simp [past], hs.trans' hk2⟩
            case round =>
              obtain ⟨j, hj, rfl, rfl, hs3⟩ := hrel
              by_cases hji : j < i
              · have j1 : (0 : Int) ≤ (j : Int) := by omega
                have j2 : (j : Int) < (i : Int) := by omega
                have e1 : Hid (past L t (j + 1) (q + 1) = endN L t (past L t j (q + 1))) := past_succ L t j (q + 1)
                have c3 := c2 _ _ hs3 (hpls.out j hji)
                clear c2 ca
                go_wp2_with (first | (go_at_call 83; refine c3.mono ?_; rintro e w5 ⟨rfl, hk5⟩))
                refine ⟨⟨j + 1, by omega, by go_num, ?_, hs3.trans' hk5⟩, by simp [intOf]; omega⟩
                rw [e1.out]
              · obtain rfl : j = i := by omega
                clear c2 ca
                go_wp2
                refine ⟨⟨k + 1, past L t j (q + 1), by omega, by go_num, rfl, hpl, HN.out, hs3⟩, by simp [intOf]; omega⟩
      · have H : Hid (leadA L t path = (q : Int) ∧ leadE L t path = 0) := by
          have := HL.out
          rw [List.drop_eq_nil_of_le (by omega)] at this
          constructor
          · simp [leadA, hz, this, leads]
          · simp [leadE, hz, this, leads]
        clear c c1 c2
        go_wp2
        go_ret2
        exact ⟨by rw [H.out.1, H.out.2]; rfl, hs⟩
  · have H : Hid (leadA L t path = 0 ∧ leadE L t path = checkE L t) := by
      constructor
      · simp [leadA, hz]
      · simp [leadE, hz]
    have hz' : (checkE L t == 0) = false := by simpa using hz
    go_enter Tryz.func53, Tryz.ntmps53
    go_wp2_with (first | (go_at_call 49; refine c.mono ?_; rintro e w1 ⟨rfl, hk1⟩))
    go_ret2
    exact ⟨by rw [H.out.1, H.out.2]; rfl, hk1⟩
end Go.Proofs.YtlemcinjalepkaaGreat
