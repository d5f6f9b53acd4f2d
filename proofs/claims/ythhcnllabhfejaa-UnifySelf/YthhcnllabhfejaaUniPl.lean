/- Variables numbered as they come, and as the document's Plain numbers them. -/
import Derived.Test.YthhcnllabhfejaaUniVal
import Derived.Test.YthhcnllabhfejaaPlainsPlain
namespace Go.Proofs.Ythhcnllabhfejaa
set_option linter.unusedVariables false
def upl (a : List Int) : List Int := a.map (pl (vs [] a))
theorem plains_alone (a : List Int) : plains [a] = [upl a] := by simp [plains, orderL, upl]
def negL (o : List Int) : List Int := o.map (fun v => -v)
theorem mem_neg {o : List Int} {x : Int} : x ∈ negL o ↔ -x ∈ o := by
  unfold negL
  rw [List.mem_map]
  constructor
  · rintro ⟨y, hy, rfl⟩; rw [Int.neg_neg]; exact hy
  · intro h; exact ⟨-x, h, by omega⟩
theorem idx_neg (o : List Int) (x : Int) : (negL o).idxOf x = o.idxOf (-x) := by
  induction o with
  | nil => rfl
  | cons y r ih =>
    unfold negL at ih ⊢
    rw [List.map_cons, List.idxOf_cons, List.idxOf_cons, ih]
    by_cases e : -y = x
    · have e2 : y = -x := by omega
      have h1 : (-y == x) = true := by simpa using e
      have h2 : (y == -x) = true := by simpa using e2
      rw [h1, h2]
    · have e2 : ¬ y = -x := by omega
      have h1 : (-y == x) = false := by simpa using e
      have h2 : (y == -x) = false := by simpa using e2
      rw [h1, h2]
theorem vzs_neg {o : List Int} {x : Int} (hx : -99 ≤ x) : vzs (negL o) x = negL (vstep o x) := by
  unfold vzs vstep
  by_cases h : x < 0 ∧ ¬ x ∈ negL o
  · rw [if_pos h, if_pos ⟨isV_iff.2 ⟨hx, by omega⟩, fun f => h.2 (mem_neg.2 f)⟩]
    simp [negL]
  · rw [if_neg h, if_neg (fun f => h ⟨by have := isV_iff.1 f.1; omega, fun g => f.2 (mem_neg.1 g)⟩)]
theorem wrF_pl (a : List Int) (ha : ∀ x ∈ a, -99 ≤ x) (o : List Int) : wrF (negL o) a = a.map (pl (vs o a)) := by
  induction a generalizing o with
  | nil => rfl
  | cons x r ih =>
    have hx := ha x (by simp)
    have e : vs o (x :: r) = vs (vstep o x) r := rfl
    rw [wrF, vzs_neg hx, ih (fun y hy => ha y (by simp [hy])), List.map_cons, e]
    congr 1
    unfold rn pl
    by_cases h : x < 0
    · have hv : isV x = true := isV_iff.2 ⟨hx, by omega⟩
      rw [if_pos h, if_pos hv, idx_neg]
      have hm : -x ∈ vstep o x := by
        unfold vstep
        split
        · simp
        · rename_i g; simp [hv] at g; exact g
      rw [idx_prefix (vs_sub (vstep o x) r) hm]
    · rw [if_neg h, if_neg (fun f => by have := isV_iff.1 f; omega)]
theorem wrF_upl {a : List Int} (ha : ∀ x ∈ a, -99 ≤ x) : wrF [] a = upl a := wrF_pl a ha []
/-! ### what is written is as Plain has it -/
/-- Variables come by rising numbers, c of them having come. -/
def Rises : Nat → List Int → Prop
  | _, [] => True
  | c, x :: r => (0 ≤ x ∧ Rises c r) ∨ (x < 0 ∧ -(c : Int) ≤ x ∧ Rises c r) ∨ (x = -((c : Int) + 1) ∧ Rises (c + 1) r)
theorem wrF_rises (u o : List Int) : Rises o.length (wrF o u) := by
  induction u generalizing o with
  | nil => trivial
  | cons x r ih =>
    rw [wrF]
    by_cases h : x < 0
    · by_cases hm : x ∈ o
      · have e : vzs o x = o := by unfold vzs; rw [if_neg (fun f => f.2 hm)]
        rw [e]
        right; left
        have := idx_lt hm
        unfold rn
        rw [if_pos h]
        exact ⟨by omega, by omega, ih o⟩
      · have e : vzs o x = o ++ [x] := by unfold vzs; rw [if_pos ⟨h, hm⟩]
        have hr := ih (vzs o x)
        rw [e] at hr ⊢
        right; right
        unfold rn
        rw [if_pos h, idx_new hm]
        rw [List.length_append] at hr
        exact ⟨rfl, hr⟩
    · have e : vzs o x = o := by unfold vzs; rw [if_neg (fun f => h f.1)]
      rw [e]
      left
      unfold rn
      rw [if_neg h]
      exact ⟨by omega, ih o⟩
/-- The first c numbers, at most 99 of them. -/
def upto99 (c : Nat) : List Int := (List.range (min c 99)).map (fun i : Nat => (i : Int) + 1)
theorem upto_mem {c : Nat} {v : Int} : v ∈ upto99 c ↔ 1 ≤ v ∧ v ≤ (min c 99 : Nat) := by
  unfold upto99
  rw [List.mem_map]
  constructor
  · rintro ⟨i, hi, rfl⟩
    have := List.mem_range.1 hi
    omega
  · intro h
    exact ⟨(v - 1).toNat, List.mem_range.2 (by omega), by omega⟩
theorem upto_succ {c : Nat} (h : c < 99) : upto99 (c + 1) = upto99 c ++ [(c : Int) + 1] := by
  unfold upto99
  rw [show min (c + 1) 99 = min c 99 + 1 by omega, List.range_succ, List.map_append, show min c 99 = c by omega]; rfl
theorem upto_more {c : Nat} (h : 99 ≤ c) : upto99 (c + 1) = upto99 c := by
  unfold upto99
  rw [show min (c + 1) 99 = min c 99 by omega]
theorem upto_idx {c : Nat} {v : Int} (h : v ∈ upto99 c) : ((upto99 c).idxOf v : Int) = v - 1 := by
  obtain ⟨h1, h2⟩ := upto_mem.1 h
  have hi : (v - 1).toNat < (upto99 c).length := by simp [upto99]; omega
  have hg : (upto99 c)[(v - 1).toNat] = v := by simp [upto99]; omega
  have nd : (upto99 c).Nodup := by
    unfold upto99
    exact List.Pairwise.map _ (fun a b h e => h (by omega)) List.nodup_range
  have := idx_of nd hi
  rw [hg] at this
  omega
theorem rises_pl : ∀ (t : List Int) (c : Nat), Rises c t → t.map (pl (vs (upto99 c) t)) = t
  | [], c, _ => rfl
  | x :: r, c, h => by
    have e : vs (upto99 c) (x :: r) = vs (vstep (upto99 c) x) r := rfl
    rw [List.map_cons, e]
    have key : ∀ c', vstep (upto99 c) x = upto99 c' → Rises c' r → (isV x = true → -x ∈ upto99 c') → pl (vs (vstep (upto99 c) x) r) x :: r.map (pl (vs (vstep (upto99 c) x) r)) = x :: r := by
      intro c' e1 hr hv
      rw [e1, rises_pl r c' hr]
      congr 1
      unfold pl
      split
      · rename_i hx
        have hm := hv hx
        rw [idx_prefix (vs_sub (upto99 c') r) hm, upto_idx hm]; omega
      · rfl
    rcases h with ⟨h1, h2⟩ | ⟨h1, h2, h3⟩ | ⟨h1, h2⟩
    · refine key c ?_ h2 (fun f => by have := isV_iff.1 f; omega)
      unfold vstep; rw [if_neg (fun f => by have := isV_iff.1 f.1; omega)]
    · refine key c ?_ h3 (fun f => by have := isV_iff.1 f; exact upto_mem.2 (by omega))
      unfold vstep
      rw [if_neg (fun f => f.2 (by have := isV_iff.1 f.1; exact upto_mem.2 (by omega)))]
    · by_cases hc : c < 99
      · have hv : isV x = true := isV_iff.2 (by omega)
        refine key (c + 1) ?_ h2 (fun _ => upto_mem.2 (by omega))
        unfold vstep
        rw [if_pos ⟨hv, fun f => by have := upto_mem.1 f; omega⟩, upto_succ hc, h1]
        try (congr 2)
        all_goals omega
      · refine key (c + 1) ?_ h2 (fun f => by have := isV_iff.1 f; omega)
        unfold vstep
        rw [if_neg (fun f => by have := isV_iff.1 f.1; omega), upto_more (by omega)]
theorem wrF_plain (u : List Int) : upl (wrF [] u) = wrF [] u := rises_pl _ 0 (wrF_rises u [])
/-! ### a term with itself -/
/-- The subterm at a place. -/
def cutJ (L : List Sym) (J : List Int) (p : Nat) : List Int := (J.drop p).take (endN L J p - p)
theorem cut_forest {L : List Sym} {J : List Int} : ∀ (k p q : Nat), Forest L J k p q → (J.drop p).take (q - p) = (starts L J k p).flatMap (cutJ L J)
  | 0, p, q, h => by have := h.zero; subst this; simp [starts]
  | k + 1, p, q, h => by
    obtain ⟨h1, h2, h3⟩ := h.succ
    have h4 := h3.le
    rw [starts, List.flatMap_cons, ← cut_forest k _ q h3]
    unfold cutJ
    rw [show q - p = (endN L J p - p) + (q - endN L J p) by omega, List.take_add, List.drop_drop, show p + (endN L J p - p) = endN L J p by omega]
theorem cut_sym {L : List Sym} {J : List Int} (hT : Trs L J) {p : Nat} (hp : p < J.length) : cutJ L J p = at' J p :: (kidsL L J p).flatMap (cutJ L J) := by
  have hf := kids_forest hT hp
  have h2 := hT.lt hp
  rw [kidsL, ← cut_forest _ _ _ hf, at'_nat J p hp]
  unfold cutJ
  rw [List.drop_eq_getElem_cons hp, show endN L J p - p = (endN L J p - (p + 1)) + 1 by omega, List.take_succ_cons]
theorem cut_isT {L : List Sym} {J : List Int} (hT : Trs L J) {p : Nat} (hp : p < J.length) : IsT L (cutJ L J p) := by
  obtain ⟨n, h1, h2, h3⟩ := hT p hp
  unfold cutJ
  rw [h2, show p + n - p = n by omega]
  exact (scan_need h1).2
theorem isT_var (L : List Sym) {x : Int} (h : x < 0) : IsT L [x] := by
  unfold IsT
  show need L (0 + 1) [x] = some 0
  rw [need, need]
  unfold arN; rw [if_pos h]
/-- Each place has its own subterm for value. -/
def selfV (L : List Sym) (J : List Int) : Int → List Int := fun x => if x < 0 then [x] else cutJ L J x.toNat
theorem self_good {L : List Sym} {J : List Int} (hT : Trs L J) : Good L J (selfV L J) := by
  have e1 : ∀ p : Nat, selfV L J (p : Int) = cutJ L J p := fun p => by unfold selfV; rw [if_neg (by omega), Int.toNat_natCast]
  refine ⟨fun p hp hs => ?_, fun p hp hs => ?_, fun x hx => ?_⟩
  · rw [e1, cut_sym hT hp]
    congr 1
  · rw [e1, cut_sym hT hp]
    have : kidsL L J p = [] := by unfold kidsL; rw [show arN L (at' J p) = 0 by unfold arN; rw [if_pos hs]]; rfl
    rw [this]
    unfold selfV; rw [if_pos hs]; rfl
  · unfold selfV
    split
    · exact isT_var L (by assumption)
    · exact cut_isT hT (by have := hx.2; omega)
theorem sh_zero (b : List Int) : b.map (shF 0) = b := by
  have : shF 0 = id := by funext x; unfold shF; split <;> simp
  rw [this, List.map_id]
theorem self_com {L : List Sym} {a : List Int} (ha : checkE L a = 0) : comE L a a 0 = 0 ∧ comT L a a 0 = wrF [] a := by
  obtain ⟨h1, h2, h3⟩ := checkE_zero.1 ha
  have hT := trs_jl (apart := (0 : Int)) (by omega) h3 h3
  have hJ : jl a a 0 = a ++ a := by unfold jl; rw [sh_zero]
  have hp := isT_pos h3
  rw [hJ] at hT
  have hv : ∀ x ∈ a ++ a, -198 ≤ x := fun x hx => by
    have hx : x ∈ a := by simpa using hx
    have := (badE_zero.1 h2 x hx).2; omega
  have hl : (a ++ a).length = a.length + a.length := by simp
  have c0 : selfV L (a ++ a) 0 = a := by
    have s1 := scan_more (need_scan (b := []) h3) a
    rw [List.append_nil] at s1
    have : endN L (a ++ a) 0 = a.length := by rw [endN_of (n := a.length) (by simpa using s1)]; omega
    unfold selfV cutJ
    rw [if_neg (by omega), show (0 : Int).toNat = 0 from rfl, this]; simp
  have cm : selfV L (a ++ a) (a.length : Nat) = a := by
    have s1 := need_scan (b := []) h3
    rw [List.append_nil] at s1
    have hd : (a ++ a).drop a.length = a := by simp
    have : endN L (a ++ a) a.length = a.length + a.length := endN_of (n := a.length) (by rw [hd]; exact s1)
    unfold selfV cutJ
    rw [if_neg (by omega), Int.toNat_natCast, this, hd]; simp
  obtain ⟨ld, k, u, hs, hcl, hu, hk, he, _⟩ := sol_good hT hv (m := a.length) (by omega) (by omega) (self_good hT) (by rw [c0, cm])
  have hua : u = a := by
    rw [c0] at he
    rw [he]
    have : ∀ l : List Int, subV (selfV L (a ++ a)) l = l := by
      intro l
      induction l with
      | nil => rfl
      | cons x r ih =>
        rw [subV_cons, ih]
        by_cases hx : x < 0
        · rw [if_pos hx]; unfold selfV; rw [if_pos hx]; rfl
        · rw [if_neg hx]; rfl
    exact (this u).symm
  subst hua
  have hk2 : ¬ 2000 < k := by omega
  have e1 : comE L u u 0 = 0 := by
    unfold comE
    rw [if_neg (by simpa using ha), if_neg (by simpa using ha), hJ, hs]
    simp only
    rw [if_neg hk2]
  refine ⟨e1, ?_⟩
  unfold comT
  rw [if_pos e1, hJ, hs]
  simp only
  rw [hu.tm (n := 2000) (by omega)]; rfl
end Go.Proofs.Ythhcnllabhfejaa
