import Derived.Test.YthamjjhioafkjaaGreatGCodeViews36
import Derived.Test.YthamjjhioafkjaaGreatGCodeViews33
import Derived.Test.YthamjjhioafkjaaGreatGCodeViews34
import Derived.Test.YthamjjhioafkjaaGreatGCodeViews30
import Derived.Test.YthamjjhioafkjaaGreatGCodeViews24
import Derived.Test.YthamjjhioafkjaaGreatGCodeViews15
namespace Go.Proofs.YthamjjhioafkjaaGreat
set_option maxRecDepth 100000
set_option linter.unusedVariables false
open Go.RowKit
attribute [local go_sem ↓] Go.wp_at_zero Go.wp_at_succ
abbrev T3 := Nat × Nat × Nat
def add3 (a b : T3) : T3 := (a.1 + b.1, a.2.1 + b.2.1, a.2.2 + b.2.2)
def sum3 {α : Type} (f : α → T3) : List α → T3
  | [] => (0, 0, 0)
  | x :: r => add3 (f x) (sum3 f r)
theorem sum3_append {α : Type} (f : α → T3) : ∀ (a b : List α),sum3 f (a ++ b) = add3 (sum3 f a) (sum3 f b)
  | [], b => by simp [sum3, add3]
  | x :: r, b => by
    rw [List.cons_append, sum3, sum3, sum3_append f r b]
    simp only [add3, Nat.add_assoc]
def kind3 (k : Int) : T3 := if k = 1 then (1, 0, 0) else if k = 2 then (0, 1, 0) else if k = 3 then (0, 0, 1) else (0, 0, 0)
def szT : (n : Nat) → Tr n → T3
  | 0, _ => (0, 0, 0)
  | n + 1, (k, r, p, l) => add3 (kind3 k) (if k = 2 then sum3 (fun x => szT n x.2) l else (0, 0, 0))
structure SAt (w : World) (x y z : Nat) (a : T3) : Prop where
  bx : w.heap[x]? = some (.cells #[.int .i64 (a.1 : Int)] 3 (0, 0))
  by' : w.heap[y]? = some (.cells #[.int .i64 (a.2.1 : Int)] 3 (0, 0))
  bz : w.heap[z]? = some (.cells #[.int .i64 (a.2.2 : Int)] 3 (0, 0))
  xy : x ≠ y
  xz : x ≠ z
  yz : y ≠ z
end Go.Proofs.YthamjjhioafkjaaGreat
namespace Go.Proofs.YthamjjhioafkjaaGreat
set_option maxRecDepth 100000
set_option linter.unusedVariables false
structure GL (n : Nat) (R : List Rw) (t : Tr n) : Prop where
  len : (rulesF n t).length = R.length
  mem : ∀ x ∈ R, x.1 ∈ rulesF n t
  fl : (szT n t).2.2 = if R.length = 0 then 1 else 0
  br : (szT n t).2.1 ≤ n * R.length
  lv : (szT n t).1 = R.length
  b0 : (szT n t).2.1 = 0 → R.length ≤ 1
  sm : SmK n t
def cntR (R : List Rw) (c : Nat) (k : Nat) : Nat := (R.filter (fun x => decide (numR x c < (k : Int)))).length
theorem cntR_succ {R : List Rw} {c k : Nat} (h : ∀ x ∈ R,0 ≤ numR x c) : cntR R c (k + 1) = cntR R c k + (havR R c (k : Int)).length := by
  unfold cntR havR
  induction R with
  | nil => rfl
  | cons x r ih =>
    have h0 := ih (fun y hy => h y (List.mem_cons_of_mem _ hy))
    have hx := h x (List.mem_cons_self ..)
    by_cases h1 : numR x c < (k : Int)
    · have h2 : numR x c < ((k + 1 : Nat) : Int) := by omega
      have h3 : ¬ numR x c = (k : Int) := by omega
      simp only [List.filter_cons, h1, h2, h3, decide_true, decide_false, if_true, Bool.false_eq_true, if_false, List.length_cons]
      omega
    · by_cases h3 : numR x c = (k : Int)
      · have h2 : numR x c < ((k + 1 : Nat) : Int) := by omega
        simp only [List.filter_cons, h3, decide_true, if_true, List.length_cons]
        have h4 : ((k : Int) < ((k + 1 : Nat) : Int)) := by omega
        simp only [h4, decide_true, if_true, List.length_cons, Int.lt_irrefl, decide_false, Bool.false_eq_true, if_false]
        omega
      · have h2 : ¬ numR x c < ((k + 1 : Nat) : Int) := by omega
        simp only [List.filter_cons, h1, h2, h3, decide_false, Bool.false_eq_true, if_false]
        exact h0
structure KL (n : Nat) (R : List Rw) (c k : Nat) (l : List (Int × Tr n)) : Prop where
  len : (l.flatMap (fun x => rulesF n x.2)).length = cntR R c k
  mem : ∀ x ∈ R, numR x c < (k : Int) → x.1 ∈ l.flatMap (fun x => rulesF n x.2)
  fl : (sum3 (fun x => szT n x.2) l).2.2 = 0
  br : (sum3 (fun x => szT n x.2) l).2.1 ≤ n * cntR R c k
  lv : (sum3 (fun x => szT n x.2) l).1 = cntR R c k
  le : l.length ≤ k
  sm : ∀ i (h : i < l.length), SmK n l[i].2
theorem kids_KL {L : List Sym} {n : Nat} {P : List (List Int)} {R : List Rw} {c : Nat} (h0 : ∀ x ∈ R,0 ≤ numR x c) (IH : ∀ s,s < L.length → havR R c (s : Int) ≠ [] → ∀ t,growF L n (kidP L P c s) ((havR R c (s : Int)).map (kidX L c)) = .ok t → GL n ((havR R c (s : Int)).map (kidX L c)) t) : ∀ k,k ≤ L.length → ∀ l,KidsF L n P R c k = .ok l → KL n R c k l
  | 0, _, l, h => by
    cases h
    have e : cntR R c 0 = 0 := by
      unfold cntR
      rw [List.length_eq_zero_iff, List.filter_eq_nil_iff]
      intro x hx
      have := h0 x hx
      simp; omega
    exact ⟨by rw [e]; rfl, fun x hx hn => by have := h0 x hx; omega, rfl, by simp [sum3], by rw [e]; rfl, Nat.le_refl _, fun i hi => absurd hi (by simp)⟩
  | k + 1, hk, l, h => by
    have hsucc := cntR_succ (c := c) (k := k) h0
    cases hm : KidsF L n P R c k with
    | error e => rw [KidsF_err hm (Nat.le_succ k)] at h; cases h
    | ok m =>
      have K := kids_KL h0 IH k (by omega) m hm
      have hm' := hm
      unfold KidsF at hm' h
      rw [kidsN, hm'] at h
      simp only at h
      by_cases hh : 0 < (havR R c (k : Int)).length
      · simp only [hh, decide_true, if_true] at h
        cases hg : growF L n (kidP L P c k) ((havR R c (k : Int)).map (kidX L c)) with
        | error e => rw [hg] at h; cases h
        | ok t =>
          rw [hg] at h
          cases h
          have G := IH k (by omega) (fun e => by rw [e] at hh; simp at hh) t hg
          have hGl := G.len
          rw [List.length_map] at hGl
          have hGv := G.lv
          rw [List.length_map] at hGv
          have hGb := G.br
          rw [List.length_map] at hGb
          have hGf := G.fl
          rw [List.length_map, if_neg (by omega)] at hGf
          have efl : (m ++ [((k : Int), t)]).flatMap (fun x => rulesF n x.2) = m.flatMap (fun x => rulesF n x.2) ++ rulesF n t := by simp
          have es : sum3 (fun x : Int × Tr n => szT n x.2) (m ++ [((k : Int), t)]) = add3 (sum3 (fun x => szT n x.2) m) (szT n t) := by rw [sum3_append]; simp [sum3, add3]
          refine ⟨?_, fun x hx hn => ?_, ?_, ?_, ?_, ?_, fun i hi => ?_⟩
          · rw [efl, List.length_append, K.len, hGl, hsucc]
          · rw [efl]
            by_cases hlt : numR x c < (k : Int)
            · exact List.mem_append_left _ (K.mem x hx hlt)
            · refine List.mem_append_right _ ?_
              have hx2 : x ∈ havR R c (k : Int) := by
                unfold havR
                rw [List.mem_filter]
                exact ⟨hx, by simp; omega⟩
              exact G.mem (kidX L c x) (List.mem_map.2 ⟨x, hx2, rfl⟩)
          · rw [es]; simp only [add3]; rw [K.fl, hGf]
          · rw [es]; simp only [add3]; have := K.br; rw [hsucc, Nat.mul_add]; omega
          · rw [es]; simp only [add3]; rw [K.lv, hGv, hsucc]
          · have := K.le; simp; omega
          · by_cases hi2 : i < m.length
            · rw [List.getElem_append_left hi2]; exact K.sm i hi2
            · obtain rfl : i = m.length := by simp at hi; omega
              simpa using G.sm
      · simp only [hh, decide_false, Bool.false_eq_true, if_false] at h
        cases h
        have hz : (havR R c (k : Int)).length = 0 := by omega
        rw [hz, Nat.add_zero] at hsucc
        refine ⟨by rw [hsucc]; exact K.len, fun x hx hn => ?_, K.fl, by rw [hsucc]; exact K.br, by rw [hsucc]; exact K.lv, by have := K.le; omega, K.sm⟩
        refine K.mem x hx ?_
        by_cases e : numR x c = (k : Int)
        · have hx2 : x ∈ havR R c (k : Int) := by
            unfold havR
            rw [List.mem_filter]
            exact ⟨hx, by simp [e]⟩
          rw [List.eq_nil_of_length_eq_zero hz] at hx2
          simp at hx2
        · omega
theorem grow_GL {L : List Sym} (hA : Ars L) (hL : L.length ≤ 64) : ∀ (n : Nat) (P : List (List Int)) (R : List Rw) (t : Tr n),NdOk L n P R → growF L n P R = .ok t → GL n R t
  | 0, P, R, t, h, _ => absurd h.pos (Nat.lt_irrefl 0)
  | n + 1, P, R, t, h, hg => by
    by_cases h0 : R.length = 0
    · rw [growF_zero h0] at hg
      cases hg
      refine ⟨by simp [rulesF, h0], fun x hx => ?_, by simp [szT, kind3, add3, h0], by simp [szT, kind3, add3], by simp [szT, kind3, add3, h0], fun _ => by omega, by simp, fun i hi => absurd hi (by simp)⟩
      rw [List.eq_nil_of_length_eq_zero h0] at hx; simp at hx
    · cases hp : partN R P.length with
      | none =>
        by_cases h1 : R.length = 1
        · rw [growF_leaf h1 hp] at hg
          cases hg
          refine ⟨by simp [rulesF, h1], fun x hx => ?_, by simp [szT, kind3, add3, h0], by simp [szT, kind3, add3], by simp [szT, kind3, add3, h1], fun _ => by omega, by simp, fun i hi => absurd hi (by simp)⟩
          match R, h1 with
          | [y], _ =>
            simp at hx
            subst hx
            simp [rulesF]
        · rw [growF_fork h0 h1 hp] at hg; cases hg
      | some c =>
        rw [growF_branch h0 hp] at hg
        unfold BrF at hg
        cases hk : KidsF L n P R c L.length with
        | error e => rw [hk] at hg; cases hg
        | ok l =>
          rw [hk] at hg
          cases hg
          obtain ⟨hc, hcon⟩ := partN_some hp
          have hn0 : ∀ x ∈ R, 0 ≤ numR x c := fun x hx => by
            unfold conB at hcon
            have := List.all_eq_true.1 hcon x hx
            simpa using this
          have hnL : ∀ x ∈ R, numR x c < (L.length : Int) := fun x hx => by
            obtain ⟨k1, k2, k3, _⟩ := h.ok x hx
            have hc' : c < x.2.2.length := by omega
            have hp' := k3 _ (List.getElem_mem hc')
            rw [numR_eq hc' hp']
            exact (badE_zero.1 (checkE_zero.1 k1).2.1 _ (List.getElem_mem hp')).1
          have K := kids_KL hn0 (fun s hs hne t ht => grow_GL hA hL n _ _ t (h.kid hc hs (arN_le hA _) hne) ht) L.length (Nat.le_refl _) l hk
          have hall : cntR R c L.length = R.length := by
            unfold cntR
            rw [List.filter_eq_self.2 (fun x hx => by simpa using hnL x hx)]
          have er : rulesF (n + 1) (2, 0, P.getD c [], l) = l.flatMap (fun x => rulesF n x.2) := by simp [rulesF]
          have es : szT (n + 1) (2, 0, P.getD c [], l) = add3 (0, 1, 0) (sum3 (fun x => szT n x.2) l) := by simp [szT, kind3]
          refine ⟨?_, fun x hx => ?_, ?_, ?_, ?_, fun e => ?_, ?_, K.sm⟩
          · rw [er, K.len, hall]
          · rw [er]; exact K.mem x hx (hnL x hx)
          · rw [es, if_neg h0]; simp only [add3]; rw [K.fl]
          · rw [es]; simp only [add3]; have := K.br; rw [hall] at this; rw [Nat.add_mul]; omega
          · rw [es]; simp only [add3]; rw [K.lv, hall]; omega
          · rw [es] at e; simp only [add3] at e; omega
          · have := K.le; omega
end Go.Proofs.YthamjjhioafkjaaGreat
namespace Go.Proofs.YthamjjhioafkjaaGreat
set_option maxRecDepth 100000
set_option linter.unusedVariables false
def K3 : (n : Nat) → Tr n → Prop
  | 0, _ => True
  | n + 1, (k, r, p, l) => (k = 1 ∨ k = 2 ∨ k = 3) ∧ ∀ x ∈ l, K3 n x.2
theorem kids_K3 {L : List Sym} {n : Nat} {P : List (List Int)} {R : List Rw} {c : Nat} (IH : ∀ P R t,growF L n P R = .ok t → K3 n t) : ∀ k l,KidsF L n P R c k = .ok l → ∀ x ∈ l,K3 n x.2
  | 0, l, h => by cases h; simp
  | k + 1, l, h => by
    unfold KidsF kidsN at h
    cases hk : KidsF L n P R c k with
    | error e => unfold KidsF at hk; rw [hk] at h; cases h
    | ok m =>
      have hm := kids_K3 IH k m hk
      unfold KidsF at hk
      rw [hk] at h
      simp only at h
      split at h
      · split at h
        · cases h
        · rename_i t ht
          cases h
          intro x hx
          rcases List.mem_append.1 hx with q | q
          · exact hm x q
          · simp only [List.mem_singleton] at q
            rw [q]
            exact IH _ _ _ ht
      · cases h; exact hm
theorem grow_K3 {L : List Sym} : ∀ (n : Nat) (P : List (List Int)) (R : List Rw) (t : Tr n),growF L n P R = .ok t → K3 n t
  | 0, P, R, t, h => trivial
  | n + 1, P, R, t, h => by
    by_cases h0 : R.length = 0
    · rw [growF_zero h0] at h
      cases h
      exact ⟨.inr (.inr rfl), by simp⟩
    · cases hp : partN R P.length with
      | none =>
        by_cases h1 : R.length = 1
        · rw [growF_leaf h1 hp] at h
          cases h
          exact ⟨.inl rfl, by simp⟩
        · rw [growF_fork h0 h1 hp] at h; cases h
      | some c =>
        rw [growF_branch h0 hp] at h
        unfold BrF at h
        cases hk : KidsF L n P R c L.length with
        | error e => rw [hk] at h; cases h
        | ok l =>
          rw [hk] at h
          cases h
          exact ⟨.inr (.inl rfl), kids_K3 (grow_K3 n) _ _ hk⟩
def tot3 (a : T3) : Nat := a.1 + a.2.1 + a.2.2
theorem tot_add (a b : T3) : tot3 (add3 a b) = tot3 a + tot3 b := by simp [tot3,add3]; omega
theorem szT_eq {n : Nat} (k r : Int) (p : List Int) (l : List (Int × Tr n)) : szT (n + 1) (k,r,p,l) = add3 (kind3 k) (if k = 2 then sum3 (fun x => szT n x.2) l else (0,0,0)) := rfl
theorem K3_eq {n : Nat} (k r : Int) (p : List Int) (l : List (Int × Tr n)) : K3 (n + 1) (k,r,p,l) = ((k = 1 ∨ k = 2 ∨ k = 3) ∧ ∀ x ∈ l,K3 n x.2) := rfl
theorem insN_kids {n : Nat} (h : ∀ t : Tr n,K3 n t → insN n t + 1 ≤ 4 * tot3 (szT n t)) : ∀ l : List (Int × Tr n),(∀ x ∈ l,K3 n x.2) → sumN (l.map (fun x => insN n x.2)) + l.length ≤ 4 * tot3 (sum3 (fun x => szT n x.2) l)
  | [], _ => by simp [sumN, sum3, tot3]
  | x :: r, hx => by
    have a := h x.2 (hx x (List.mem_cons_self ..))
    have b := insN_kids h r (fun y hy => hx y (List.mem_cons_of_mem _ hy))
    simp only [List.map_cons, sumN, sum3, tot_add, List.length_cons]
    omega
theorem insN_le : ∀ (n : Nat) (t : Tr (n + 1)),K3 (n + 1) t → insN (n + 1) t + 1 ≤ 4 * tot3 (szT (n + 1) t)
  | n, (k, r, p, l), h => by
    rw [K3_eq] at h
    obtain ⟨hk, hl⟩ := h
    rw [insN_eq, szT_eq, tot_add]
    rcases hk with rfl | rfl | rfl
    · rw [if_neg (by decide), if_neg (by decide)]; simp [kind3, tot3]
    · rw [if_pos rfl, if_pos rfl]
      have e1 : tot3 (kind3 2) = 1 := rfl
      rw [e1]
      cases n with
      | zero =>
        have : l = [] := by
          cases l with
          | nil => rfl
          | cons x r => exact (x.2 : Empty).elim
        subst this
        simp [sumN, sum3, tot3]
      | succ n =>
        have := insN_kids (insN_le n) l hl
        omega
    · rw [if_neg (by decide), if_neg (by decide)]; simp [kind3, tot3]
theorem tree_small {L : List Sym} (hA : Ars L) (hL : L.length ≤ 64) {R : List Ru} (hle : R.length ≤ 100) (hok : ∀ x ∈ R,checkE L x.1 = 0 ∧ checkE L x.2 = 0) {s : Nat} (hs : s < L.length) {t : Tr 2001} (h : treeF L R s = .ok t) : insN 2001 t ≤ 1000000 := by
  have hN := root_ok hA hle hok hs
  have G : GL 2001 (rootR L R s) t := grow_GL hA hL 2001 _ _ t hN h
  have hR := hN.le
  have h1 : insN 2001 t + 1 ≤ 4 * tot3 (szT 2001 t) := insN_le 2000 t (grow_K3 2001 _ _ t h)
  have h2 := G.lv
  have h3 := G.br
  have h4 := G.fl
  have h5 : (szT 2001 t).2.2 ≤ 1 := by rw [h4]; split <;> omega
  have h6 : 2001 * (rootR L R s).length ≤ 2001 * 100 := Nat.mul_le_mul_left _ hR
  simp only [tot3] at h1
  omega
def cmpS (L : List Sym) (R : List Ru) : Nat → St9 × List Int
  | 0 => (([], []), [])
  | k + 1 => if defB L (k : Int) = true then (match treeF L R k with | .ok t => (layS 2001 t (cmpS L R k).1, (cmpS L R k).2 ++ [((cmpS L R k).1.1.length : Int)]) | .error _ => ((cmpS L R k).1, (cmpS L R k).2)) else ((cmpS L R k).1, (cmpS L R k).2 ++ [-1])
theorem cmpS_no {L : List Sym} {R : List Ru} {k : Nat} (h : defB L (k : Int) = false) : cmpS L R (k + 1) = ((cmpS L R k).1,(cmpS L R k).2 ++ [-1]) := by rw [cmpS,if_neg (by rw [h]; simp)]
theorem cmpS_yes {L : List Sym} {R : List Ru} {k : Nat} (h : defB L (k : Int) = true) {t : Tr 2001} (ht : treeF L R k = .ok t) : cmpS L R (k + 1) = (layS 2001 t (cmpS L R k).1,(cmpS L R k).2 ++ [((cmpS L R k).1.1.length : Int)]) := by rw [cmpS,if_pos h,ht]
theorem cmpS_small {L : List Sym} (hA : Ars L) (hL : L.length ≤ 64) {R : List Ru} (hle : R.length ≤ 100) (hok : ∀ x ∈ R,checkE L x.1 = 0 ∧ checkE L x.2 = 0) : ∀ k,k ≤ L.length → (cmpS L R k).1.1.length + (cmpS L R k).1.2.length ≤ k * 1000000 ∧ (cmpS L R k).2.length ≤ k
  | 0, _ => by simp [cmpS]
  | k + 1, hk => by
    obtain ⟨a, b⟩ := cmpS_small hA hL hle hok k (by omega)
    cases hd : defB L (k : Int) with
    | false =>
      rw [cmpS_no hd]
      simp only [List.length_append, List.length_cons, List.length_nil]
      omega
    | true =>
      cases ht : treeF L R k with
      | error z =>
        rw [cmpS, if_pos hd, ht]
        simp only
        omega
      | ok t =>
        rw [cmpS_yes hd ht]
        have h1 := tree_small hA hL hle hok (s := k) (by omega) ht
        have h2 := (layS_len 2001 t (cmpS L R k).1).1
        simp only [List.length_append, List.length_cons, List.length_nil]
        omega
end Go.Proofs.YthamjjhioafkjaaGreat
namespace Go.Proofs.YthamjjhioafkjaaGreat
set_option maxRecDepth 100000
set_option linter.unusedVariables false
open Go.RowKit
theorem info_ins : (Tryz.prog.info? 34).map (fun i => (i.zero,i.size,i.bytes)) = some (some (.agg #[.int .i64 0,.int .i64 0,.int .i64 0]),3,24) := by kernel_rfl
theorem info_path : (Tryz.prog.info? 23).map (fun i => (i.zero,i.size,i.bytes)) = some (some (.slice none 0 0),1,24) := by kernel_rfl
def insV (I : List I3) : List Value := (flat3 I).map (fun x => .int .i64 x)
theorem insV_append (a b : List I3) : insV (a ++ b) = insV a ++ insV b := by simp [insV,flat3_append]
theorem insV_one (x : I3) : insV [x] = [.int .i64 x.1,.int .i64 x.2.1,.int .i64 x.2.2] := rfl
theorem insV_at {I : List I3} {i : Nat} (h : i < I.length) : (insV I)[i * 3]? = some (.int .i64 I[i].1) ∧ (insV I)[i * 3 + 1]? = some (.int .i64 I[i].2.1) ∧ (insV I)[i * 3 + 2]? = some (.int .i64 I[i].2.2) := by
  obtain ⟨a, b, c⟩ := flat3_at I i h
  simp [insV, a, b, c]
theorem insV_setB (I : List I3) (c : Nat) (b : Int) : insV (setB I c b) = (insV I).set (c * 3 + 2) (.int .i64 b) := by
  simp [insV, flat3_setB, List.map_set]
def PathsC (B : Nat → Prop) (w : World) (vs : List Value) (P : List (List Int)) : Prop :=
  vs.length = P.length ∧ ∀ i (h : i < P.length), ∃ ao ac, vs[i]? = some (.slice ao P[i].length ac) ∧ ArgT w ao P[i] ac ∧ ∀ a, ao = some a → ¬ B a.block
theorem PathsC.kept {B S : Nat → Prop} {w w' : World} {vs : List Value} {P : List (List Int)} (h : PathsC B w vs P) (hk : Kept S w w') (hS : ∀ k,S k → ∀ cur,w.heap[k]? ≠ some (.cells cur 3 (0,0))) : PathsC B w' vs P :=
  ⟨h.1, fun i hi => by
    obtain ⟨ao, ac, h1, h2, h3⟩ := h.2 i hi
    exact ⟨ao, ac, h1, h2.kept hk hS, h3⟩⟩
theorem PathsC.mono {B B' : Nat → Prop} {w : World} {vs : List Value} {P : List (List Int)} (h : PathsC B w vs P) (hB : ∀ b,b < w.heap.size → B' b → B b) : PathsC B' w vs P :=
  ⟨h.1, fun i hi => by
    obtain ⟨ao, ac, h1, h2, h3⟩ := h.2 i hi
    refine ⟨ao, ac, h1, h2, fun a e q => ?_⟩
    obtain ⟨cur, hc⟩ := h2.2 a e
    exact h3 a e (hB _ (lt_of_at hc) q)⟩
theorem PathsC.nil (B : Nat → Prop) (w : World) : PathsC B w [] [] := ⟨rfl,fun i h => absurd h (by simp)⟩
theorem PathsC.snoc {B : Nat → Prop} {w : World} {vs : List Value} {P : List (List Int)} (h : PathsC B w vs P) {p : List Int} {ao : Option Addr} {ac : Nat} (h2 : ArgT w ao p ac) (h3 : ∀ a,ao = some a → ¬ B a.block) : PathsC B w (vs ++ [.slice ao p.length ac]) (P ++ [p]) := by
  refine ⟨by simp [h.1], fun i hi => ?_⟩
  by_cases hl : i < P.length
  · rw [List.getElem_append_left hl, List.getElem?_append_left (by rw [h.1]; omega)]
    exact h.2 i hl
  · obtain rfl : i = P.length := by simp at hi; omega
    refine ⟨ao, ac, ?_, by simpa using h2, h3⟩
    rw [List.getElem?_append_right (by rw [h.1]; omega), h.1]; simp
structure Lay (B : Nat → Prop) (w : World) (vi vp : Value) (s : St9) : Prop where
  ri : w.ownsRow 0 34 3 vi s.1.length (insV s.1)
  ib : ∀ k, vi.ownBlock = some k → ¬ B k
  rp : ∃ vs, w.ownsRow 0 23 1 vp s.2.length vs ∧ PathsC B w vs s.2
  pb : ∀ k, vp.ownBlock = some k → ¬ B k
theorem Lay.nil (B : Nat → Prop) (w : World) : Lay B w (.slice none 0 0) (.slice none 0 0) ([],[]) :=
  ⟨World.ownsRow_nil _ _ _ _, (fun k e => by simp [Value.ownBlock] at e), ⟨[], World.ownsRow_nil _ _ _ _, PathsC.nil _ _⟩, fun k e => by simp [Value.ownBlock] at e⟩
theorem typed_lt {w : World} {base n size : Nat} {T : TypeId} {v : Value} {vs : List Value} (h : w.ownsRow base T size v n vs) {q : Nat} (hq : v.ownBlock = some q) : q < w.heap.size := by
  obtain ⟨cur, hc⟩ := own_typed h hq
  exact lt_of_at hc
theorem Lay.mono {B B' : Nat → Prop} {w : World} {vi vp : Value} {s : St9} (h : Lay B w vi vp s) (hB : ∀ b,b < w.heap.size → B' b → B b) : Lay B' w vi vp s := by
  obtain ⟨h1, h2, ⟨vs, h3, h4⟩, h5⟩ := h
  exact ⟨h1, fun k e q => h2 k e (hB k (typed_lt h1 e) q), ⟨vs, h3, h4.mono hB⟩, fun k e q => h5 k e (hB k (typed_lt h3 e) q)⟩
theorem Lay.kept {B S : Nat → Prop} {w w' : World} {vi vp : Value} {s : St9} (h : Lay B w vi vp s) (hk : Kept S w w') (hS : ∀ k,S k → (∀ cur,w.heap[k]? ≠ some (.cells cur 3 (0,0))) ∧ (∀ cur,w.heap[k]? ≠ some (.cells cur 34 (0,0))) ∧ (∀ cur,w.heap[k]? ≠ some (.cells cur 23 (0,0)))) : Lay B w' vi vp s := by
  obtain ⟨h1, h2, ⟨vs, h3, h4⟩, h5⟩ := h
  refine ⟨hk.row h1 (fun k e q => ?_), h2, ⟨vs, hk.row h3 (fun k e q => ?_), h4.kept hk (fun k q => (hS k q).1)⟩, h5⟩
  · obtain ⟨cur, hc⟩ := own_typed h1 e
    exact (hS k q).2.1 cur hc
  · obtain ⟨cur, hc⟩ := own_typed h3 e
    exact (hS k q).2.2 cur hc
theorem Lay.same {B : Nat → Prop} {w w' : World} {vi vp : Value} {s : St9} (h : Lay B w vi vp s) (hk : Same0 w w') : Lay B w' vi vp s := h.kept hk (fun _ f => f.elim)
theorem Lay.ins {B : Nat → Prop} {w w' : World} {vi vp vi' : Value} {s : St9} (h : Lay B w vi vp s) (x : I3) (hr : w'.ownsRow 0 34 3 vi' (s.1.length + 1) (insV s.1 ++ [.int .i64 x.1,.int .i64 x.2.1,.int .i64 x.2.2])) (hk : Kept (fun k => vi.ownBlock = some k) w w') (hn : ∀ k,vi'.ownBlock = some k → vi.ownBlock = some k ∨ w.heap.size ≤ k) (hB : ∀ b,B b → b < w.heap.size) : Lay B w' vi' vp (s.1 ++ [x],s.2) := by
  obtain ⟨h1, h2, ⟨vs, h3, h4⟩, h5⟩ := h
  refine ⟨?_, fun k e q => ?_, ⟨vs, hk.row h3 (fun k e q => ?_), h4.kept hk (fun k q cur hc => ?_)⟩, h5⟩
  · rw [insV_append, insV_one]
    simpa using hr
  · rcases hn k e with q2 | q2
    · exact h2 k q2 q
    · have := hB k q; omega
  · obtain ⟨cur, hc⟩ := own_typed h3 e
    obtain ⟨cur', hc'⟩ := own_typed h1 q
    rw [hc] at hc'; cases hc'
  · obtain ⟨cur', hc'⟩ := own_typed h1 q
    rw [hc] at hc'; cases hc'
theorem Lay.path {B : Nat → Prop} {w w' : World} {vi vp vp' : Value} {s : St9} (h : Lay B w vi vp s) {vs : List Value} (hp : w.ownsRow 0 23 1 vp s.2.length vs ∧ PathsC B w vs s.2) {p : List Int} {ao : Option Addr} {ac : Nat} (ha : ArgT w ao p ac) (hab : ∀ a,ao = some a → ¬ B a.block) (hr : w'.ownsRow 0 23 1 vp' (s.2.length + 1) (vs ++ [.slice ao p.length ac])) (hk : Kept (fun k => vp.ownBlock = some k) w w') (hn : ∀ k,vp'.ownBlock = some k → vp.ownBlock = some k ∨ w.heap.size ≤ k) (hB : ∀ b,B b → b < w.heap.size) : Lay B w' vi vp' (s.1,s.2 ++ [p]) := by
  obtain ⟨h1, h2, _, h5⟩ := h
  obtain ⟨h3, h4⟩ := hp
  refine ⟨hk.row h1 (fun k e q => ?_), h2, ⟨vs ++ [.slice ao p.length ac], by simpa using hr, (h4.snoc ha hab).kept hk (fun k q cur hc => ?_)⟩, fun k e q => ?_⟩
  · obtain ⟨cur, hc⟩ := own_typed h1 e
    obtain ⟨cur', hc'⟩ := own_typed h3 q
    rw [hc] at hc'; cases hc'
  · obtain ⟨cur', hc'⟩ := own_typed h3 q
    rw [hc] at hc'; cases hc'
  · rcases hn k e with q2 | q2
    · exact h5 k q2 q
    · have := hB k q; omega
theorem put_row {w : World} {base g cap n size : Nat} {e : TypeId} {ys : List Value} (h : w.ownsRow base e size (.slice (some ⟨g,0,none⟩) n cap) n ys) {k : Nat} (hk : k < n * size) (u : Value) : (∃ old,w.cell? ⟨g,k,none⟩ = some old) ∧ w.frozen? ⟨g,k,none⟩ = false ∧ (w.setCell ⟨g,k,none⟩ u).ownsRow base e size (.slice (some ⟨g,0,none⟩) n cap) n (ys.set k u) := by
  rcases h.2 with ⟨e0, _⟩ | ⟨g', cap', cur, e0, hb, hg, hle, hmx, hsz, htk⟩
  · cases e0
  · simp only [Value.slice.injEq, Option.some.injEq, Addr.mk.injEq] at e0
    obtain ⟨⟨rfl, _⟩, _, rfl⟩ := e0
    have hkc : k < cur.size := by rw [hsz]; exact Nat.lt_of_lt_of_le hk (Nat.mul_le_mul_right _ hle)
    refine ⟨⟨cur[k], by rw [cellAt hg]; simp [hkc]⟩, frozenAt hg k, by simp [h.1], .inr ⟨g, cap, cur.setIfInBounds k u, rfl, hb, setAt hg k u, hle, hmx, by simp [hsz], ?_⟩⟩
    rw [Array.toList_setIfInBounds, List.take_set, htk]
theorem Lay.setB {B : Nat → Prop} {w : World} {g n cap : Nat} {vp : Value} {s : St9} (h : Lay B w (.slice (some ⟨g,0,none⟩) n cap) vp s) (hn : n = s.1.length) {c : Nat} (hc : c < n) (b : Int) : Lay B (w.setCell ⟨g,c * 3 + 2,none⟩ (.int .i64 b)) (.slice (some ⟨g,0,none⟩) n cap) vp (Go.Proofs.YthamjjhioafkjaaGreat.setB s.1 c b,s.2) ∧ (∃ old,w.cell? ⟨g,c * 3 + 2,none⟩ = some old) ∧ w.frozen? ⟨g,c * 3 + 2,none⟩ = false ∧ Kept (fun k => k = g) w (w.setCell ⟨g,c * 3 + 2,none⟩ (.int .i64 b)) := by
  subst hn
  obtain ⟨h1, h2, ⟨vs, h3, h4⟩, h5⟩ := h
  obtain ⟨a1, a2, a3⟩ := put_row h1 (k := c * 3 + 2) (by omega) (.int .i64 b)
  obtain ⟨cur, hcur⟩ := own_typed h1 rfl
  have hk : Kept (fun k => k = g) w (w.setCell ⟨g, c * 3 + 2, none⟩ (.int .i64 b)) := kept_at _ _ _ _
  refine ⟨⟨?_, h2, ⟨vs, hk.row h3 (fun k e q => ?_), h4.kept hk (fun k q cur' hc' => ?_)⟩, h5⟩, a1, a2, hk⟩
  · rw [insV_setB, setB_length]; exact a3
  · subst q
    obtain ⟨cur', hc'⟩ := own_typed h3 e
    rw [hcur] at hc'; cases hc'
  · subst q
    rw [hcur] at hc'; cases hc'
end Go.Proofs.YthamjjhioafkjaaGreat
namespace Go.Proofs.YthamjjhioafkjaaGreat
set_option maxRecDepth 100000
set_option linter.unusedVariables false
open Go.RowKit
attribute [local go_sem ↓] Go.wp_at_zero Go.wp_at_succ
def CtAt (B : Nat → Prop) (w : World) (tb : Nat) (s : St9) : Prop :=
  ∃ vi vp, w.heap[tb]? = some (.cells #[vi, vp] 99 (0, 0)) ∧ ¬ B tb ∧ Lay B w vi vp s
theorem CtAt.mono {B B' : Nat → Prop} {w : World} {tb : Nat} {s : St9} (h : CtAt B w tb s) (hB : ∀ b,b < w.heap.size → B' b → B b) : CtAt B' w tb s := by
  obtain ⟨vi, vp, h1, h2, h3⟩ := h
  exact ⟨vi, vp, h1, fun q => h2 (hB _ (lt_of_at h1) q), h3.mono hB⟩
theorem CtAt.same {B : Nat → Prop} {w w' : World} {tb : Nat} {s : St9} (h : CtAt B w tb s) (hk : Same0 w w') : CtAt B w' tb s := by
  obtain ⟨vi, vp, h1, h2, h3⟩ := h
  exact ⟨vi, vp, hk.at0 h1, h2, h3.same hk⟩
theorem tab_far {w : World} {tb : Nat} {vi vp : Value} (h : w.heap[tb]? = some (.cells #[vi,vp] 99 (0,0))) : (∀ cur,w.heap[tb]? ≠ some (.cells cur 3 (0,0))) ∧ (∀ cur,w.heap[tb]? ≠ some (.cells cur 34 (0,0))) ∧ (∀ cur,w.heap[tb]? ≠ some (.cells cur 23 (0,0))) :=
  ⟨(fun cur e => by rw [h] at e; cases e), (fun cur e => by rw [h] at e; cases e), (fun cur e => by rw [h] at e; cases e)⟩
theorem tput_end {B : Nat → Prop} {w w1 : World} {tb : Nat} {vi vp vi' : Value} {s : St9} (hb : w.heap[tb]? = some (.cells #[vi,vp] 99 (0,0))) (hnb : ¬ B tb) (h : Lay B w vi vp s) (x : I3) (hr : w1.ownsRow 0 34 3 vi' (s.1.length + 1) (insV s.1 ++ [.int .i64 x.1,.int .i64 x.2.1,.int .i64 x.2.2])) (hk : Kept (fun k => vi.ownBlock = some k) w w1) (hn : ∀ k,vi'.ownBlock = some k → vi.ownBlock = some k ∨ w.heap.size ≤ k) (hB : ∀ b,B b → b < w.heap.size) :
    w1.heap[tb]? = some (.cells #[vi, vp] 99 (0, 0)) ∧ CtAt B (w1.setCell ⟨tb, 0, none⟩ vi') tb (s.1 ++ [x], s.2) ∧ Kept (fun k => ¬ B k) w (w1.setCell ⟨tb, 0, none⟩ vi') := by
  have ne : ¬ vi.ownBlock = some tb := fun e => by
    obtain ⟨cur, hc⟩ := own_typed h.ri e
    rw [hb] at hc; cases hc
  have hb1 := hk.at hb ne
  have hl := h.ins x hr hk hn hB
  have ks : Kept (fun k => k = tb) w1 (w1.setCell ⟨tb, 0, none⟩ vi') := kept_at _ _ _ _
  refine ⟨hb1, ⟨vi', vp, ?_, hnb, hl.kept ks (fun k e => by subst e; exact tab_far hb1)⟩, ?_⟩
  · rw [setAt hb1]; rfl
  · exact Kept.trans (hk.mono (fun k _ e => h.ib k e)) ks (fun k _ e => by subst e; exact hnb)
set_option maxHeartbeats 8000000 in
theorem tput_any {B : Nat → Prop} {w : World} {tb : Nat} {s : St9} (h : CtAt B w tb s) (hB : ∀ b,B b → b < w.heap.size) (hs : s.1.length ≤ 1000000000000) (x y z : Int) :
    Calls Tryz.prog 72 #[.pointer (some ⟨tb,0,none⟩),.agg #[.int .i64 x,.int .i64 y,.int .i64 z]] w fun e w' => (∃ u,e = .returned u) ∧ CtAt B w' tb (s.1 ++ [(x,y,z)],s.2) ∧ Kept (fun k => ¬ B k) w w' := by
  obtain ⟨vi, vp, hb, hnb, hl⟩ := h
  obtain ⟨io, ic, rfl⟩ := row_shape hl.ri
  obtain ⟨i0, hi0, hz0, hz1, hz2⟩ := info_parts info_ins
  have hn1 : s.1.length + 1 ≤ maxLen := by unfold maxLen; omega
  have hn2 : (s.1.length + 1) * 24 ≤ 140737488355328 := by omega
  obtain ⟨W1, hW1⟩ : ∃ W1, W1 = w.alloc (.cells #[.int .i64 x, .int .i64 y, .int .i64 z] 34) := ⟨_, rfl⟩
  have KW : Same0 w W1 := by rw [hW1]; exact (Kept.refl _ w).alloc _
  have hbx : W1.heap[w.heap.size]? = some (.cells #[.int .i64 x, .int .i64 y, .int .i64 z] 34 (0, 0)) := by rw [hW1]; exact heap_alloc_new w _
  have hb1 := KW.at0 hb
  have hr1 := KW.row hl.ri (fun _ _ f => f)
  have x0 := cellAt hbx 0
  have x1 := cellAt hbx 1
  have x2 := cellAt hbx 2
  have c0 := cellAt hb1 0
  have f0 := frozenAt hb1 0
  have c1 : (W1.alloc (.cells #[.int .i64 x, .int .i64 y, .int .i64 z] 34)).cell? ⟨tb, 0, none⟩ = some (.slice io s.1.length ic) := cellAt ((heap_alloc_old W1 _ (lt_of_at hb1)).trans hb1) 0
  simp only [List.getElem?_toArray, List.getElem?_cons_zero, List.getElem?_cons_succ] at x0 x1 x2 c0 c1
  have FIN : Hid (∀ gg cap w1, w1.ownsRow 0 34 3 (.slice (some ⟨gg, 0, none⟩) (s.1.length + 1) cap) (s.1.length + 1) (insV s.1 ++ [.int .i64 x, .int .i64 y, .int .i64 z]) → Kept (fun k => (Value.slice io s.1.length ic).ownBlock = some k) W1 w1 → ((Value.slice io s.1.length ic).ownBlock = some gg ∨ gg = W1.heap.size + 1) → (w1.cell? ⟨tb, 0, none⟩ = some (.slice io s.1.length ic) ∧ w1.frozen? ⟨tb, 0, none⟩ = false) ∧ CtAt B (w1.setCell ⟨tb, 0, none⟩ (.slice (some ⟨gg, 0, none⟩) (s.1.length + 1) cap)) tb (s.1 ++ [(x, y, z)], s.2) ∧ Kept (fun k => ¬ B k) w (w1.setCell ⟨tb, 0, none⟩ (.slice (some ⟨gg, 0, none⟩) (s.1.length + 1) cap))) := by
    intro gg cap w1 hr hk hat
    obtain ⟨a1, a2, a3⟩ := tput_end hb1 hnb (hl.same KW) (x, y, z) hr hk (fun k e => by
      simp only [Value.ownBlock, Option.some.injEq] at e
      subst e
      rcases hat with q | q
      · exact .inl q
      · exact .inr (by omega)) (fun b q => Nat.lt_of_lt_of_le (hB b q) KW.size)
    exact ⟨⟨cellAt a1 0, frozenAt a1 0⟩, a2, Kept.trans (KW.mono (fun _ _ f => f.elim)) a3 (fun _ _ e => e)⟩
  clear hl hb hbx
  go_enter Tryz.func72, Tryz.ntmps72
  go_upto_region 1 with fail
  rw [← hW1]
  clear hW1
  go_region_law ((refine step_append_lies _ (by rfl) _ _ _ (by rfl) 0 34 i0 _ 3 24 Tryz.underlying27 hi0 hz0 hz1 hz2 rfl (by omega) (.slice io s.1.length ic) s.1.length (insV s.1) (by rfl) ((hr1.alloc _).drew) ⟨W1.heap.size, 0, none⟩ 1 1 [.int .i64 x, .int .i64 y, .int .i64 z] (by rfl) (by rfl) (World.news_of_block (cs := #[.int .i64 x, .int .i64 y, .int .i64 z]) (t := 34) (fr := (0, 0)) (heap_alloc_new W1 _)) (by simp [Value.oneCell']) (by omega) hn1 hn2 (by omega) (W1.heap.size + 1) (by simp) ?_; intro gg cap w1 hown1 hgrow hat hlt; obtain ⟨⟨k0, k1⟩, k2, k3⟩ := FIN.out gg cap w1 hown1 (Kept.grown (Kept.drew (Kept.alloc (Kept.refl _ W1) _)) hgrow (fun _ e _ => e)) hat))
  all_goals
    go_wp2
    go_returns
    exact ⟨⟨_, rfl⟩, k2, k3⟩
end Go.Proofs.YthamjjhioafkjaaGreat
namespace Go.Proofs.YthamjjhioafkjaaGreat
set_option maxRecDepth 100000
set_option linter.unusedVariables false
open Go.RowKit
attribute [local go_sem ↓] Go.wp_at_zero Go.wp_at_succ
theorem Row.arg8 {base : Nat} {w : World} {v : Value} {xs : List Int} (h : Row base w v xs) (hl : xs.length * 8 ≤ 140737488351232) : ∃ ao ac,v = .slice ao xs.length ac ∧ ArgT w ao xs ac ∧ ∀ a,ao = some a → base ≤ a.block := by
  obtain ⟨ao, ac, e, h1, h2, h3⟩ := h.ints
  rcases h.2 with ⟨e2, h0⟩ | ⟨g, cap, cur, e2, hb, hg, hle, _⟩
  · rw [e] at e2
    simp only [Value.slice.injEq] at e2
    obtain ⟨rfl, _, rfl⟩ := e2
    exact ⟨none, 0, e, ⟨⟨h1, by omega, fun _ => ⟨h0, rfl⟩, by omega⟩, fun a e => by cases e⟩, fun a e => by cases e⟩
  · rw [e] at e2
    simp only [Value.slice.injEq] at e2
    obtain ⟨rfl, _, rfl⟩ := e2
    exact ⟨_, ac, e, ⟨⟨h1, hle, (fun e => by cases e), by omega⟩, fun a e => by cases e; exact ⟨cur, hg⟩⟩, fun a e => by cases e; exact hb⟩
def LayIH (n : Nat) : Prop := ∀ (B : Nat → Prop) (w : World) (tb : Nat) (v : Value) (t : Tr n) (s : St9), CtAt B w tb s → (∀ b, B b → b < w.heap.size) → CsB B w n v t → s.1.length + s.2.length + insN n t ≤ 1000000000000 →
  Calls Tryz.prog 37 #[.pointer (some ⟨tb, 0, none⟩), v] w fun e w' => (∃ u, e = .returned u) ∧ CtAt B w' tb (layS n t s) ∧ Kept (fun k => ¬ B k) w w'
theorem tpath_end {B : Nat → Prop} {w w1 : World} {tb : Nat} {vi vp vp' : Value} {s : St9} (hb : w.heap[tb]? = some (.cells #[vi,vp] 99 (0,0))) (hnb : ¬ B tb) (h : Lay B w vi vp s) {vs : List Value} (hp : w.ownsRow 0 23 1 vp s.2.length vs ∧ PathsC B w vs s.2) {p : List Int} {ao : Option Addr} {ac : Nat} (ha : ArgT w ao p ac) (hab : ∀ a,ao = some a → ¬ B a.block) (hr : w1.ownsRow 0 23 1 vp' (s.2.length + 1) (vs ++ [.slice ao p.length ac])) (hk : Kept (fun k => vp.ownBlock = some k) w w1) (hn : ∀ k,vp'.ownBlock = some k → vp.ownBlock = some k ∨ w.heap.size ≤ k) (hB : ∀ b,B b → b < w.heap.size) :
    w1.heap[tb]? = some (.cells #[vi, vp] 99 (0, 0)) ∧ CtAt B (w1.setCell ⟨tb, 1, none⟩ vp') tb (s.1, s.2 ++ [p]) ∧ Kept (fun k => ¬ B k) w (w1.setCell ⟨tb, 1, none⟩ vp') := by
  have ne : ¬ vp.ownBlock = some tb := fun e => by
    obtain ⟨cur, hc⟩ := own_typed hp.1 e
    rw [hb] at hc; cases hc
  have hb1 := hk.at hb ne
  have hl := h.path hp ha hab hr hk hn hB
  have ks : Kept (fun k => k = tb) w1 (w1.setCell ⟨tb, 1, none⟩ vp') := kept_at _ _ _ _
  refine ⟨hb1, ⟨vi, vp', ?_, hnb, hl.kept ks (fun k e => by subst e; exact tab_far hb1)⟩, ?_⟩
  · rw [setAt hb1]; rfl
  · exact Kept.trans (hk.mono (fun k _ e => h.pb k e)) ks (fun k _ e => by subst e; exact hnb)
theorem KeptB.trans {B : Nat → Prop} {a b c : World} (h : Kept (fun k => ¬ B k) a b) (k : Kept (fun k => ¬ B k) b c) : Kept (fun k => ¬ B k) a c := Kept.trans h k (fun _ _ e => e)
theorem KeptB.of {B : Nat → Prop} {a b : World} (h : Same0 a b) : Kept (fun k => ¬ B k) a b := Kept.mono h (fun _ _ f => f.elim)
theorem KeptB.cs {B B' : Nat → Prop} {w w' : World} (hk : Kept (fun k => ¬ B k) w w') (hB : ∀ b,B' b → B b) {n : Nat} {v : Value} {t : Tr n} (h : CsB B' w n v t) : CsB B' w' n v t := CsB.kept hk (fun b q r => r (hB b q)) h
def BranchIH (n : Nat) : Prop := ∀ (B : Nat → Prop) (w : World) (tb : Nat) (k r : Int) (p : List Int) (l : List (Int × Tr n)) (v : Value) (s : St9), CtAt B w tb s → (∀ b, B b → b < w.heap.size) → CsB B w (n + 1) v (k, r, p, l) → s.1.length + s.2.length + (3 + l.length + sumN (l.map (fun x => insN n x.2))) ≤ 1000000000000 →
  Calls Tryz.prog 73 #[.pointer (some ⟨tb, 0, none⟩), v] w fun e w' => (∃ u, e = .returned u) ∧ CtAt B w' tb (layK (layS n) l (s.1.length + 1) (headS p (l.map (fun x => x.1)) s)) ∧ Kept (fun k => ¬ B k) w w'
set_option maxHeartbeats 8000000 in
theorem lay_step {n : Nat} (IHB : BranchIH n) : LayIH (n + 1) := by
  intro B w tb v t s hT hB hC hs
  obtain ⟨k, r, p, l⟩ := t
  obtain ⟨po, pc, ko, kc, rfl, hrest⟩ := hC
  have hC : CsB B w (n + 1) (.agg #[.int .i64 k, .int .i64 r, .slice po p.length pc, .slice ko l.length kc]) (k, r, p, l) := ⟨po, pc, ko, kc, rfl, hrest⟩
  clear hrest
  obtain ⟨W1, hW1⟩ : ∃ W1, W1 = w.alloc (.cells #[.int .i64 k, .int .i64 r, .slice po p.length pc, .slice ko l.length kc] 26) := ⟨_, rfl⟩
  have KW : Same0 w W1 := by rw [hW1]; exact (Kept.refl _ w).alloc _
  have hbx : W1.heap[w.heap.size]? = some (.cells #[.int .i64 k, .int .i64 r, .slice po p.length pc, .slice ko l.length kc] 26 (0, 0)) := by rw [hW1]; exact heap_alloc_new w _
  have x0 := cellAt hbx 0
  have x1 := cellAt hbx 1
  have x2 := cellAt hbx 2
  have x3 := cellAt hbx 3
  simp only [List.getElem?_toArray, List.getElem?_cons_zero, List.getElem?_cons_succ] at x0 x1 x2 x3
  have hB1 : ∀ b, B b → b < W1.heap.size := fun b q => Nat.lt_of_lt_of_le (hB b q) KW.size
  have CP := fun x y z => tput_any (hT.same KW) hB1 (by omega) x y z
  rw [insN_eq] at hs
  by_cases h1 : k = 1
  · subst h1
    rw [layS_leaf rfl]
    have C := CP 4 r 0
    clear CP hs hC hT
    go_enter Tryz.func37, Tryz.ntmps37
    go_upto_region 1 with fail
    rw [← hW1]
    clear hW1
    go_wp2_with (first | (go_at_call 72; refine C.mono ?_; rintro e w2 ⟨⟨u, rfl⟩, c1, c2⟩))
    go_returns
    exact ⟨⟨_, rfl⟩, c1, KeptB.trans (KeptB.of KW) c2⟩
  · by_cases h2 : k = 2
    · subst h2
      rw [layS_branch rfl]
      rw [if_pos rfl] at hs
      have C := IHB B W1 tb 2 r p l _ s (hT.same KW) hB1 (hC.same KW) hs
      clear CP hs hC hT IHB
      go_enter Tryz.func37, Tryz.ntmps37
      go_upto_region 1 with fail
      rw [← hW1]
      clear hW1
      go_wp2_with (first | (go_at_call 73; refine C.mono ?_; rintro e w2 ⟨⟨u, rfl⟩, c1, c2⟩))
      go_returns
      exact ⟨⟨_, rfl⟩, c1, KeptB.trans (KeptB.of KW) c2⟩
    · rw [layS_fail h1 h2]
      have C := CP 3 0 0
      have e1 : (k == 1) = false := by simpa using h1
      have e2 : (k == 2) = false := by simpa using h2
      clear CP hs hC hT h1 h2
      go_enter Tryz.func37, Tryz.ntmps37
      go_upto_region 1 with fail
      rw [← hW1]
      clear hW1
      go_wp2_with (first | (go_at_call 72; refine C.mono ?_; rintro e w2 ⟨⟨u, rfl⟩, c1, c2⟩))
      go_returns
      exact ⟨⟨_, rfl⟩, c1, KeptB.trans (KeptB.of KW) c2⟩
end Go.Proofs.YthamjjhioafkjaaGreat
