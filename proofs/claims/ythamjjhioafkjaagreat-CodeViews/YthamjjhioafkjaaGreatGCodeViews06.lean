import Derived.Test.YthamjjhioafkjaaGreatGCodeViews01
import Derived.Test.YthamjjhioafkjaaGreatGCodeViews05
import Derived.Laws.CopyOwn
import Derived.Test.YthamjjhioafkjaaGreatGCodeViews03
namespace Go.Proofs.YthamjjhioafkjaaGreat
set_option linter.unusedVariables false
def vstep (o : List Int) (x : Int) : List Int := if isV x = true ∧ ¬ (-x) ∈ o then o ++ [-x] else o
def vs (o : List Int) (t : List Int) : List Int := t.foldl vstep o
def varsL (t : List Int) : List Int := vs [] t
theorem vs_snoc (o a : List Int) (x : Int) : vs o (a ++ [x]) = vstep (vs o a) x := by simp [vs]
theorem vs_take {o t : List Int} {k : Nat} (h : k < t.length) : vs o (t.take (k + 1)) = vstep (vs o (t.take k)) t[k] := by
  rw [List.take_add_one, List.getElem?_eq_getElem h]; exact vs_snoc _ _ _
theorem isV_iff {x : Int} : isV x = true ↔ -99 ≤ x ∧ x ≤ -1 := by simp [isV]
theorem vstep_sub (o : List Int) (x : Int) : o <+: vstep o x := by
  unfold vstep
  split
  · exact List.prefix_append _ _
  · exact List.prefix_refl _
theorem vs_sub (o t : List Int) : o <+: vs o t := by
  induction t generalizing o with
  | nil => exact List.prefix_refl _
  | cons x r ih => exact (vstep_sub o x).trans (ih (vstep o x))
theorem vs_mem {o t : List Int} {x : Int} (hx : x ∈ t) (hv : isV x = true) : -x ∈ vs o t := by
  induction t generalizing o with
  | nil => simp at hx
  | cons y r ih =>
    rcases List.mem_cons.1 hx with rfl | hx
    · have h1 : -x ∈ vstep o x := by
        unfold vstep
        split
        · simp
        · rename_i h; simp [hv] at h; exact h
      exact (vs_sub (vstep o x) r).subset h1
    · exact ih hx
theorem vs_len (o t : List Int) : (vs o t).length ≤ o.length + t.length := by
  induction t generalizing o with
  | nil => simp [vs]
  | cons x r ih =>
    have := ih (vstep o x)
    have h2 : (vstep o x).length ≤ o.length + 1 := by unfold vstep; split <;> simp
    simp only [vs, List.foldl_cons, List.length_cons] at *
    omega
def pl (o : List Int) (x : Int) : Int := if isV x = true then -((o.idxOf (-x) : Int) + 1) else x
end Go.Proofs.YthamjjhioafkjaaGreat
namespace Go.Proofs.YthamjjhioafkjaaGreat
set_option linter.unusedVariables false
def cutJ (L : List Sym) (J : List Int) (p : Nat) : List Int := (J.drop p).take (endN L J p - p)
theorem cut_forest {L : List Sym} {J : List Int} : ∀ (k p q : Nat),Forest L J k p q → (J.drop p).take (q - p) = (starts L J k p).flatMap (cutJ L J)
  | 0, p, q, h => by have := h.zero; subst this; simp [starts]
  | k + 1, p, q, h => by
    obtain ⟨h1, h2, h3⟩ := h.succ
    have h4 := h3.le
    rw [starts, List.flatMap_cons, ← cut_forest k _ q h3]
    unfold cutJ
    rw [show q - p = (endN L J p - p) + (q - endN L J p) by omega, List.take_add, List.drop_drop, show p + (endN L J p - p) = endN L J p by omega]
theorem cut_sym {L : List Sym} {J : List Int} (hT : Trs L J) {p : Nat} (hp : p < J.length) : cutJ L J p = at' J p :: (kidsL L J p).flatMap (cutJ L J) := by
  have hf := kids_forest hT hp
  have h2 := hT.lt hp
  rw [kidsL, ← cut_forest _ _ _ hf, at'_nat J p hp]
  unfold cutJ
  rw [List.drop_eq_getElem_cons hp, show endN L J p - p = (endN L J p - (p + 1)) + 1 by omega, List.take_succ_cons]
theorem cut_isT {L : List Sym} {J : List Int} (hT : Trs L J) {p : Nat} (hp : p < J.length) : IsT L (cutJ L J p) := by
  obtain ⟨n, h1, h2, h3⟩ := hT p hp
  unfold cutJ
  rw [h2, show p + n - p = n by omega]
  exact (scan_need h1).2
theorem isT_var (L : List Sym) {x : Int} (h : x < 0) : IsT L [x] := by
  unfold IsT
  show need L (0 + 1) [x] = some 0
  rw [need, need]
  unfold arN; rw [if_pos h]
end Go.Proofs.YthamjjhioafkjaaGreat
namespace Go.Proofs.YthamjjhioafkjaaGreat
set_option linter.unusedVariables false
theorem need_subV {L : List Sym} {f : Int → List Int} : ∀ (u : List Int),(∀ n ∈ u,n < 0 → IsT L (f n)) → ∀ k,need L k (subV f u) = need L k u
  | [], _, k => rfl
  | n :: r, h, k => by
    have ih := need_subV r (fun m hm => h m (by simp [hm]))
    rw [subV_cons]
    by_cases hn : n < 0
    · rw [if_pos hn, need_append]
      have hT := h n (by simp) hn
      cases k with
      | zero =>
        have := isT_pos hT
        cases hd : f n with
        | nil => rw [hd] at this; simp at this
        | cons x y => simp [need]
      | succ k =>
        have := need_add hT k
        rw [Nat.add_comm 1 k, Nat.zero_add] at this
        rw [this, Option.bind_some, need, show arN L n = 0 by unfold arN; rw [if_pos hn], Nat.add_zero]
        exact ih k
    · rw [if_neg hn]
      cases k with
      | zero => rfl
      | succ k => simp only [List.cons_append, List.nil_append, need]; exact ih _
theorem subV_len {L : List Sym} {f : Int → List Int} : ∀ (u : List Int),(∀ n ∈ u,n < 0 → IsT L (f n)) → u.length ≤ (subV f u).length
  | [], _ => Nat.le_refl _
  | n :: r, h => by
    have ih := subV_len r (fun m hm => h m (by simp [hm]))
    rw [subV_cons, List.length_append, List.length_cons]
    by_cases hn : n < 0
    · rw [if_pos hn]; have := isT_pos (h n (by simp) hn); omega
    · rw [if_neg hn]; simp; omega
theorem subV_congr {f g : Int → List Int} : ∀ (u : List Int),(∀ n ∈ u,n < 0 → f n = g n) → subV f u = subV g u
  | [], _ => rfl
  | n :: r, h => by
    rw [subV_cons, subV_cons, subV_congr r (fun m hm => h m (by simp [hm]))]
    by_cases hn : n < 0
    · rw [if_pos hn, if_pos hn, h n (by simp) hn]
    · rw [if_neg hn, if_neg hn]
theorem args_isT {L : List Sym} {J : List Int} {ld : Int → Int} {d : Nat} (ih : ∀ (x : Int) (u : List Int),UPart J x → tmF L J ld d x = some u → IsT L u) : ∀ (l : List Nat) (u : List Int),(∀ x ∈ l,x < J.length) → argsT (tmF L J ld d) l = some u → need L l.length u = some 0
  | [], u, _, e => by simp only [argsT, Option.some.injEq] at e; subst e; rfl
  | x :: r, u, hl, e => by
    unfold argsT at e
    cases h1 : tmF L J ld d (x : Int) with
    | none => simp [h1] at e
    | some a =>
      cases h2 : argsT (tmF L J ld d) r with
      | none => simp [h1, h2] at e
      | some b =>
        simp only [h1, h2, Option.some.injEq] at e
        subst e
        have g1 := ih x a (part_nat (hl x (by simp))) h1
        have g2 := args_isT ih r b (fun y hy => hl y (by simp [hy])) h2
        have := need_add g1 r.length
        rw [Nat.add_comm 1, Nat.zero_add] at this
        rw [List.length_cons, need_append, this, Option.bind_some, g2]
theorem tm_isT {L : List Sym} {J : List Int} {ld : Int → Int} (hT : Trs L J) (hl : LdOk J ld) : ∀ (d : Nat) (x : Int) (u : List Int),UPart J x → tmF L J ld d x = some u → IsT L u := by
  intro d
  induction d with
  | zero => intro x u _ h; simp [tmF] at h
  | succ d ih =>
    intro x u hx h
    rw [tmF] at h
    by_cases h1 : ld x < 0
    · rw [if_pos h1] at h
      simp only [Option.some.injEq] at h
      subst h
      exact isT_var L h1
    · rw [if_neg h1] at h
      have hp : (ld x).toNat < J.length := by have := (hl.part x hx).2; omega
      cases h2 : argsT (tmF L J ld d) (kidsL L J (ld x).toNat) with
      | none => simp [h2] at h
      | some v =>
        simp only [h2, Option.some.injEq] at h
        subst h
        have := args_isT ih _ _ (kids_lt hT hp) h2
        have e : (kidsL L J (ld x).toNat).length = arN L (at' J (ld x)) := by
          rw [show (kidsL L J (ld x).toNat).length = arN L (at' J ((ld x).toNat : Nat)) from starts_length _ _ _ _, show (((ld x).toNat : Nat) : Int) = ld x by omega]
        rw [e] at this
        unfold IsT
        show need L (0 + 1) _ = some 0
        rw [need, Nat.zero_add]; exact this
theorem Val.isT {L : List Sym} {J : List Int} {ld : Int → Int} (hT : Trs L J) (hl : LdOk J ld) {x : Int} {u : List Int} (hx : UPart J x) (h : Val L J ld x u) : IsT L u := by
  obtain ⟨d, hd⟩ := h
  exact tm_isT hT hl d x u hx hd
theorem args_in {L : List Sym} {J : List Int} {ld : Int → Int} {d : Nat} {R : Int → Prop} (ih : ∀ (x : Int) (u : List Int),UPart J x → tmF L J ld d x = some u → ∀ n ∈ u,R n) : ∀ (l : List Nat) (u : List Int),(∀ x ∈ l,x < J.length) → argsT (tmF L J ld d) l = some u → ∀ n ∈ u,R n
  | [], u, _, e => by simp only [argsT, Option.some.injEq] at e; subst e; simp
  | x :: r, u, hl, e => by
    unfold argsT at e
    cases h1 : tmF L J ld d (x : Int) with
    | none => simp [h1] at e
    | some a =>
      cases h2 : argsT (tmF L J ld d) r with
      | none => simp [h1, h2] at e
      | some b =>
        simp only [h1, h2, Option.some.injEq] at e
        subst e
        intro n hn
        rcases List.mem_append.1 hn with q | q
        · exact ih x a (part_nat (hl x (by simp))) h1 n q
        · exact args_in ih r b (fun y hy => hl y (by simp [hy])) h2 n q
theorem tm_in {L : List Sym} {J : List Int} {ld : Int → Int} (hT : Trs L J) (hl : LdOk J ld) : ∀ (d : Nat) (x : Int) (u : List Int),UPart J x → tmF L J ld d x = some u → ∀ n ∈ u,(n < 0 ∧ UPart J n) ∨ (0 ≤ n ∧ n ∈ J) := by
  intro d
  induction d with
  | zero => intro x u _ h; simp [tmF] at h
  | succ d ih =>
    intro x u hx h
    rw [tmF] at h
    by_cases h1 : ld x < 0
    · rw [if_pos h1] at h
      simp only [Option.some.injEq] at h
      subst h
      intro n hn
      simp only [List.mem_cons, List.not_mem_nil, or_false] at hn
      subst hn
      exact .inl ⟨h1, hl.part x hx⟩
    · rw [if_neg h1] at h
      have hp : (ld x).toNat < J.length := by have := (hl.part x hx).2; omega
      cases h2 : argsT (tmF L J ld d) (kidsL L J (ld x).toNat) with
      | none => simp [h2] at h
      | some v =>
        simp only [h2, Option.some.injEq] at h
        subst h
        intro n hn
        rcases List.mem_cons.1 hn with q | q
        · right
          have hs := hl.sym x hx (by omega)
          refine ⟨by omega, ?_⟩
          have : at' J (ld x) = J[(ld x).toNat] := by
            have := at'_nat J (ld x).toNat hp
            rwa [show (((ld x).toNat : Nat) : Int) = ld x by omega] at this
          rw [q, this]; exact List.getElem_mem _
        · exact args_in ih _ _ (kids_lt hT hp) h2 n q
theorem Val.in {L : List Sym} {J : List Int} {ld : Int → Int} (hT : Trs L J) (hl : LdOk J ld) {x : Int} {u : List Int} (hx : UPart J x) (h : Val L J ld x u) : ∀ n ∈ u,(n < 0 ∧ UPart J n) ∨ (0 ≤ n ∧ n ∈ J) := by
  obtain ⟨d, hd⟩ := h
  exact tm_in hT hl d x u hx hd
theorem vals_same {L : List Sym} {J : List Int} {ld : Int → Int} : ∀ (l m : List Nat) (u : List Int),l.length = m.length → (∀ i (h : i < l.length) (h' : i < m.length),ld (l[i] : Nat) = ld (m[i] : Nat)) → Vals L J ld l u → Vals L J ld m u
  | [], [], u, _, _, hv => hv
  | [], y :: m, u, hl, _, _ => by simp at hl
  | x :: l, [], u, hl, _, _ => by simp at hl
  | x :: l, y :: m, u, hl, h, hv => by
    obtain ⟨a, b, h1, h2, rfl⟩ := vals_split hv
    have e0 := h 0 (by simp) (by simp)
    exact vals_cons (val_ld e0 h1) (vals_same l m b (by simpa using hl) (fun i p q => by have := h (i + 1) (by simpa using p) (by simpa using q); simpa using this) h2)
theorem Closed.own {L : List Sym} {J : List Int} {m : Nat} {ld : Int → Int} (hc : Closed L J m ld) {P : Nat} (hP : P < J.length) (hs : 0 ≤ at' J P) {u : List Int} (h : Val L J ld P u) : ∃ us,u = at' J P :: us ∧ Vals L J ld (kidsL L J P) us := by
  obtain ⟨g1, g2⟩ := hc.ok.like P (part_nat hP) (by omega) hs
  obtain ⟨v, h1, h2⟩ := val_sym' (by omega) h
  refine ⟨v, by rw [h1, g2], vals_same _ _ v ?_ ?_ h2⟩
  · have c1 : (((ld P).toNat : Nat) : Int) = ld P := by omega
    rw [show (kidsL L J (ld P).toNat).length = _ from starts_length _ _ _ _, show (kidsL L J P).length = _ from starts_length _ _ _ _, c1, g2]
  · intro i p q
    have c1 : (((ld P).toNat : Nat) : Int) = ld P := by omega
    have hi : i < arN L (at' J P) := by
      rw [show (kidsL L J P).length = arN L (at' J P) from starts_length _ _ _ _] at q
      exact q
    have k1 := kids_at (L := L) (J := J) (p := (ld P).toNat) (i := i) (by rw [c1, g2]; exact hi)
    have k2 := kids_at (L := L) (J := J) (p := P) (i := i) hi
    rw [List.getElem?_eq_getElem p, Option.some.injEq] at k1
    rw [List.getElem?_eq_getElem q, Option.some.injEq] at k2
    rw [k1, k2]
    exact (hc.args P hP hs i hi).symm
structure VarT (L : List Sym) (J : List Int) (ld : Int → Int) (f : Int → List Int) : Prop where
  val : ∀ n u, Val L J ld n u → f n = u
  none : ∀ n, (¬ ∃ u, Val L J ld n u) → f n = [n]
theorem varT_some (L : List Sym) (J : List Int) (ld : Int → Int) : ∃ f,VarT L J ld f := by
  have each : ∀ n : Int, ∃ y : List Int, (∀ u, Val L J ld n u → y = u) ∧ ((¬ ∃ u, Val L J ld n u) → y = [n]) := by
    intro n
    by_cases h : ∃ u, Val L J ld n u
    · obtain ⟨u, hu⟩ := h
      exact ⟨u, fun v hv => hu.uniq hv, fun f => absurd ⟨u, hu⟩ f⟩
    · exact ⟨[n], fun v hv => absurd ⟨v, hv⟩ h, fun _ => rfl⟩
  obtain ⟨f, hf⟩ := Classical.axiomOfChoice each
  exact ⟨f, fun n => (hf n).1, fun n => (hf n).2⟩
theorem VarT.isT {L : List Sym} {J : List Int} {ld : Int → Int} {f : Int → List Int} (h : VarT L J ld f) (hT : Trs L J) (hl : LdOk J ld) {n : Int} (hn : n < 0) (hp : UPart J n) : IsT L (f n) := by
  by_cases e : ∃ u, Val L J ld n u
  · obtain ⟨u, hu⟩ := e
    rw [h.val n u hu]
    exact hu.isT hT hl hp
  · rw [h.none n e]; exact isT_var L hn
theorem forest_sub {L : List Sym} {J : List Int} {m : Nat} {ld : Int → Int} (hc : Closed L J m ld) {f : Int → List Int} (hv0 : VarT L J ld f) : ∀ (n k p q : Nat) (u : List Int),q - p ≤ n → Forest L J k p q → Vals L J ld (starts L J k p) u → u = subV f ((J.drop p).take (q - p)) := by
  intro n
  induction n with
  | zero =>
    intro k p q u hn hf hv
    cases k with
    | zero =>
      have := hf.zero
      subst this
      obtain ⟨d, hd⟩ := hv
      simp only [starts, argsT, Option.some.injEq] at hd
      subst hd
      simp [subV]
    | succ k => have := hf.pos; omega
  | succ n ih =>
    intro k p q u hn hf hv
    cases k with
    | zero =>
      have := hf.zero
      subst this
      obtain ⟨d, hd⟩ := hv
      simp only [starts, argsT, Option.some.injEq] at hd
      subst hd
      simp [subV]
    | succ k =>
      obtain ⟨h1, h2, h3⟩ := hf.succ
      have h4 := h3.le
      have hpl : p < J.length := by have := h1.le; omega
      rw [starts] at hv
      obtain ⟨a, b, v1, v2, rfl⟩ := vals_split hv
      have e2 := ih k (endN L J p) q b (by omega) h3 v2
      have e1 : a = subV f ((J.drop p).take (endN L J p - p)) := by
        have hcut : (J.drop p).take (endN L J p - p) = at' J p :: (J.drop (p + 1)).take (endN L J p - (p + 1)) := by
          rw [List.drop_eq_getElem_cons hpl, show endN L J p - p = (endN L J p - (p + 1)) + 1 by omega, List.take_succ_cons, at'_nat J p hpl]
        rw [hcut, subV_cons]
        by_cases hs : 0 ≤ at' J p
        · obtain ⟨us, r1, r2⟩ := hc.own hpl hs v1
          have hk := kids_forest hc.trs hpl
          rw [r1, if_neg (by omega), ih _ _ _ us (by omega) hk r2]; rfl
        · have hk := kids_forest hc.trs hpl
          rw [show arN L (at' J p) = 0 by unfold arN; rw [if_pos (by omega)]] at hk
          have := hk.zero
          rw [if_pos (by omega), this, show p + 1 - (p + 1) = 0 by omega, List.take_zero]
          have hv' := val_ld (hc.var p hpl (by omega)) v1
          rw [hv0.val _ _ hv']; simp [subV]
      rw [e1, e2, ← subV_append]
      congr 1
      rw [show q - p = (endN L J p - p) + (q - endN L J p) by omega, List.take_add, List.drop_drop, show p + (endN L J p - p) = endN L J p by omega]
theorem end_first {L : List Sym} {a b : List Int} (ha : IsT L a) : endN L (a ++ b) 0 = a.length := by
  have s1 := scan_more (need_scan (b := []) ha) b
  rw [List.append_nil] at s1
  rw [endN_of (n := a.length) (by simpa using s1)]; omega
theorem end_second {L : List Sym} {a b : List Int} (hb : IsT L b) : endN L (a ++ b) a.length = a.length + b.length := by
  have s1 := need_scan (b := []) hb
  rw [List.append_nil] at s1
  exact endN_of (n := b.length) (by simpa using s1)
theorem both_sub {L : List Sym} {a b : List Int} {ap : Int} (h0 : 0 ≤ ap) (ha : IsT L a) (hb : IsT L b) {ld : Int → Int} (hc : Closed L (jl a b ap) a.length ld) {f : Int → List Int} (hf : VarT L (jl a b ap) ld f) {u : List Int} (hu : Val L (jl a b ap) ld 0 u) : u = subV f a ∧ u = subV f (b.map (shF ap)) := by
  have hp := isT_pos ha
  have hq := isT_pos hb
  have hl : (jl a b ap).length = a.length + b.length := by simp [jl]
  have hb' := isT_sh h0 hb
  have hm : Val L (jl a b ap) ld (a.length : Nat) u := val_ld hc.both hu
  have e1 : endN L (jl a b ap) 0 = a.length := end_first (b := b.map (shF ap)) ha
  have e2 : endN L (jl a b ap) a.length = a.length + (b.map (shF ap)).length := end_second (a := a) hb'
  constructor
  · have := forest_sub hc hf _ 1 0 _ u (Nat.le_refl _) (hc.trs 0 (by omega)) (by
      have := vals_cons hu (vals_nil L (jl a b ap) ld)
      rw [List.append_nil] at this
      exact this)
    rw [e1] at this
    rw [this]
    unfold jl
    rw [List.drop_zero, Nat.sub_zero, List.take_left]
  · have := forest_sub hc hf _ 1 a.length _ u (Nat.le_refl _) (hc.trs a.length (by omega)) (by
      have := vals_cons hm (vals_nil L (jl a b ap) ld)
      rw [List.append_nil] at this
      exact this)
    rw [e2] at this
    rw [this]
    unfold jl
    rw [List.drop_left, Nat.add_sub_cancel_left, List.take_length]
end Go.Proofs.YthamjjhioafkjaaGreat
namespace Go.Proofs.YthamjjhioafkjaaGreat
set_option linter.unusedVariables false
end Go.Proofs.YthamjjhioafkjaaGreat
namespace Go.Proofs.YthamjjhioafkjaaGreat
set_option maxRecDepth 100000
set_option linter.unusedVariables false
open Go.RowKit
attribute [local go_sem ↓] Go.wp_at_zero Go.wp_at_succ
structure Part where
  ao : Option Addr
  cap : Nat
  xs : List Int
theorem iv_oneCell (xs : List Int) : ∀ v ∈ iv xs,v.oneCell' = true := by
  intro v hv
  simp only [iv, List.mem_map] at hv
  obtain ⟨x, _, rfl⟩ := hv
  rfl
theorem IntsAt.src {w : World} {ao : Option Addr} {xs : List Int} (h : IntsAt w ao xs) (hn : 0 < (iv xs).length) : ∃ ad,ao = some ad ∧ ∀ j v,(iv xs)[j]? = some v → w.cell? (ad.add j) = some v := by
  rcases h with rfl | ⟨b, off, rfl, _, hc⟩
  · simp [iv] at hn
  · refine ⟨_, rfl, fun j v hj => ?_⟩
    have hlt : j < xs.length := by
      have := (List.getElem?_eq_some_iff.1 hj).1
      rwa [iv_length] at this
    rw [iv_get hlt] at hj
    cases hj
    have := hc j hlt
    unfold Addr.add
    split
    · rename_i h0; subst h0; first | (simp; done) | (simpa using this)
    · exact this
end Go.Proofs.YthamjjhioafkjaaGreat
namespace Go.Proofs.YthamjjhioafkjaaGreat
set_option maxRecDepth 100000
set_option linter.unusedVariables false
open Go.RowKit
attribute [local go_sem ↓] Go.wp_at_zero Go.wp_at_succ
end Go.Proofs.YthamjjhioafkjaaGreat
namespace Go.Proofs.YthamjjhioafkjaaGreat
set_option maxRecDepth 100000
set_option linter.unusedVariables false
open Go.RowKit
attribute [local go_sem ↓] Go.wp_at_zero Go.wp_at_succ
def sameB (xs ys : List Int) : Bool := decide (xs = ys)
theorem same_len {xs ys : List Int} (h : xs.length ≠ ys.length) : sameB xs ys = false := by
  simp [sameB]; intro e; exact h (by rw [e])
theorem take_eq_succ {xs ys : List Int} {k : Nat} (h : xs.take k = ys.take k) (hx : k < xs.length) (hy : k < ys.length) (he : xs[k] = ys[k]) : xs.take (k + 1) = ys.take (k + 1) := by
  rw [List.take_add_one, List.take_add_one, h, List.getElem?_eq_getElem hx, List.getElem?_eq_getElem hy, he]
set_option maxHeartbeats 2000000 in
theorem same_any {w : World} {ao bo : Option Addr} {acap bcap : Nat} {xs ys : List Int} (hx : IntsAt w ao xs) (hy : IntsAt w bo ys) (hm : xs.length ≤ maxLen) :
    Calls Tryz.prog 39 #[.slice ao xs.length acap,.slice bo ys.length bcap] w fun e w' => e = .returned (.bool (sameB xs ys)) ∧ Same0 w w' := by
  unfold maxLen at hm
  by_cases hl : xs.length = ys.length
  · have hl' : (xs.length : Int) = (ys.length : Int) := by omega
    go_enter Tryz.func39, Tryz.ntmps39
    go_wp2
    go_loopw [5] (fun i wr => ∃ k : Nat, k ≤ xs.length ∧ i = .int .i64 (k : Int) ∧ Hid (xs.take k = ys.take k) ∧ Same0 w wr) (fun i _ => xs.length - (intOf i).toNat)
    case atStart => exact ⟨0, Nat.zero_le _, rfl, by simp [Hid], Kept.refl _ _⟩
    case round =>
      obtain ⟨k, hk, rfl, ht, hs⟩ := hrel
      by_cases hlt : k < xs.length
      · have hlt' : k < ys.length := by omega
        obtain ⟨ab, ao', rfl, hab, hac⟩ := (hx.same hs).get hlt
        obtain ⟨bb, bo', rfl, hbb, hbc⟩ := (hy.same hs).get hlt'
        have i1 : (0 : Int) ≤ (k : Int) := by omega
        have i2 : (k : Int) < (xs.length : Int) := by omega
        have i3 : (k : Int) < (ys.length : Int) := by omega
        have d1 : wr.drew.cell? ⟨ab, ao' + k, none⟩ = some (.int .i64 xs[k]) := hac
        have d2 : wr.drew.cell? ⟨bb, bo' + k, none⟩ = some (.int .i64 ys[k]) := hbc
        by_cases he : xs[k] = ys[k]
        · have hn : Hid (xs.take (k + 1) = ys.take (k + 1)) := take_eq_succ ht.out hlt hlt' he
          have he' : (xs[k] == ys[k]) = true := by simpa using he
          go_wp2
          go_quiet (fail)
          go_wp2
          refine ⟨⟨k + 1, by omega, by go_num, hn, hs.drewN _⟩, by simp [intOf]; omega⟩
        · have H : Hid (sameB xs ys = false) := by
            show _ = _
            simp only [sameB, decide_eq_false_iff_not]
            intro e; subst e; exact he rfl
          have he' : (xs[k] == ys[k]) = false := by simpa using he
          go_wp2
          go_quiet (fail)
          go_wp2
          go_ret
          exact ⟨by rw [H.out]; rfl, hs.drewN _⟩
      · have H : Hid (sameB xs ys = true) := by
          have := ht.out
          rw [List.take_of_length_le (by omega), List.take_of_length_le (by omega)] at this
          show _ = _
          simpa [sameB] using this
        go_wp2
        go_ret
        exact ⟨by rw [H.out]; rfl, hs⟩
  · have hl' : ¬ (xs.length : Int) = (ys.length : Int) := by omega
    have H : Hid (sameB xs ys = false) := same_len hl
    go_enter Tryz.func39, Tryz.ntmps39
    go_wp2
    go_ret
    exact ⟨by rw [H.out]; rfl, Kept.refl _ _⟩
structure Both (n0 : Nat) (w0 w : World) (b rb : Nat) (L : List Sym) (sv : Value) (mr : Option Nat) (rv : Value) : Prop where
  sg : SigAt w b L sv mr
  rf : RefAt w rb L rv
  f : ∀ k, Foot b sv mr k → n0 ≤ k
  g : ∀ k, RFoot rb rv k → n0 ≤ k
  d : ∀ k, Foot b sv mr k → ¬ RFoot rb rv k
  k : Kept (From n0) w0 w
  a : Ars L
theorem Both.start (w : World) : Both w.heap.size w ((w.alloc (.cells #[.slice none 0 0,.map none] 145)).alloc (.cells #[.slice none 0 0] 129)) w.heap.size (w.heap.size + 1) [] (.slice none 0 0) none (.slice none 0 0) := by
  have k1 : Kept (fun _ => False) (w.alloc (.cells #[.slice none 0 0, .map none] 145)) ((w.alloc (.cells #[.slice none 0 0, .map none] 145)).alloc (.cells #[.slice none 0 0] 129)) := (Kept.refl _ _).alloc _
  have e1 : (w.alloc (.cells #[.slice none 0 0, .map none] 145)).heap.size = w.heap.size + 1 := by simp
  refine ⟨(sig_new w).kept k1 (fun _ _ f => f), ⟨?_, World.ownsRow_nil _ _ _ _, by simp [Value.ownBlock]⟩, ?_, ?_, ?_, ((Kept.refl _ w).alloc _).alloc _, fun x hx => by simp at hx⟩
  · rw [← e1]; exact heap_alloc_new _ _
  · rintro k (e | e | e)
    · omega
    · simp [Value.ownBlock] at e
    · simp at e
  · rintro k (e | e)
    · omega
    · simp [Value.ownBlock] at e
  · rintro k (e | e | e) (e' | e')
    · omega
    · simp [Value.ownBlock] at e'
    · simp [Value.ownBlock] at e
    · simp [Value.ownBlock] at e
    · simp at e
    · simp at e
theorem addL_ars {L : List Sym} (h : Ars L) (x : Sym) : Ars (addL L x) := by
  unfold addL
  split
  · rename_i hz
    intro y hy
    rcases List.mem_append.1 hy with hy | hy
    · exact h y hy
    · simp at hy; subst hy; exact add_ar hz
  · exact h
theorem Both.next {n0 : Nat} {w0 w w1 w2 : World} {b rb : Nat} {L : List Sym} {sv : Value} {mr : Option Nat} {rv : Value} (h : Both n0 w0 w b rb L sv mr rv) (x : Sym) (hn : n0 ≤ w.heap.size) {sv1 : Value} {mr1 : Option Nat}
    (h1 : SigAt w1 b (addL L x) sv1 mr1) (h2 : Kept (Foot b sv mr) w w1) (h3 : ∀ k, Foot b sv1 mr1 k → Foot b sv mr k ∨ w.heap.size ≤ k) (hr : RMoved w1 rb rv (addL L x) w2) : ∃ rv2, Both n0 w0 w2 b rb (addL L x) sv1 mr1 rv2 := by
  obtain ⟨rv2, r1, r2, r3⟩ := hr
  have hrl := h.rf.lt
  have dd : ∀ k, Foot b sv1 mr1 k → ¬ RFoot rb rv k := fun k hk hk' => by
    rcases h3 k hk with e | e
    · exact h.d k e hk'
    · have := hrl k hk'; omega
  have z1 := h2.size
  refine ⟨rv2, h1.kept r2 (fun k e => dd k e), r1, ?_, ?_, ?_, ?_, addL_ars h.a x⟩
  · intro k hk
    rcases h3 k hk with e | e
    · exact h.f k e
    · omega
  · intro k hk
    rcases r3 k hk with e | e
    · exact h.g k e
    · omega
  · intro k hk hk'
    rcases r3 k hk' with e | e
    · exact dd k hk e
    · have := sig_foot_lt h1 k hk; omega
  · exact (h.k.trans h2 (fun i _ e => h.f i e)).trans r2 (fun i _ e => h.g i e)
def madeL (xs : List Sym) : List Sym := xs.foldl addL []
theorem madeL_snoc {xs : List Sym} {k : Nat} (h : k < xs.length) : madeL (xs.take (k + 1)) = addL (madeL (xs.take k)) xs[k] := by
  rw [List.take_add_one, List.getElem?_eq_getElem h]
  unfold madeL
  rw [List.foldl_append]
  rfl
theorem from_below {w w' : World} (h : Kept (From w.heap.size) w w') : Same0 w w' := ⟨h.os,h.tape,h.output,h.size,fun k hk _ => h.block k hk (fun e => by omega)⟩
set_option maxHeartbeats 2000000 in
theorem made_any (ao : Option Addr) (len cap : Nat) (xs : List Sym) (w : World) (hx : SymsAt w ao len xs) (hm : len ≤ maxLen) :
    Calls Tryz.prog 22 #[.slice ao len cap] w fun e w' => ∃ b rv,e = .returned (.tuple #[.pointer (some ⟨b,0,none⟩),rv]) ∧ Sg w'.heap.size w' b (madeL xs) ∧ Rl w'.heap.size w' rv (madeL xs) ∧ Same0 w w' := by
  unfold maxLen at hm
  go_enter Tryz.func22, Tryz.ntmps22
  go_wp2_with (first | (go_at_call 50; refine (new_any _).mono ?_; rintro e w' ⟨rfl, rfl⟩))
  go_loopw [6] (fun i wr => ∃ (k : Nat) (sv : Value) (mr : Option Nat) (rv : Value), k ≤ len ∧ i = .int .i64 (k : Int) ∧ Both w.heap.size w wr w.heap.size (w.heap.size + 1) (madeL (xs.take k)) sv mr rv) (fun i _ => len - (intOf i).toNat)
  case atStart => exact ⟨0, _, _, _, Nat.zero_le _, rfl, Both.start w⟩
  case round =>
    obtain ⟨k, sv, mr, rv, hk, rfl, hb⟩ := hrel
    have hlen := hb.sg.len
    by_cases hlt : k < len
    · obtain ⟨xl, xc, xw⟩ := hx.kept (from_below hb.k).below
      obtain ⟨xb, off, rfl, hxb, hxc⟩ := xc.resolve_left (by omega)
      have hkx : k < xs.length := by omega
      obtain ⟨x0, x1, x2⟩ := hxc k hkx
      have xsz := (xw xs[k] (List.getElem_mem hkx)).1
      have i1 : (0 : Int) ≤ (k : Int) := by omega
      have i2 : (k : Int) < (len : Int) := by omega
      have E1 : Hid (madeL (xs.take (k + 1)) = addL (madeL (xs.take k)) xs[k]) := madeL_snoc hkx
      have hn0 := hb.k.size
      have hxs := hx
      clear hxc xw xc xl
      generalize madeL (xs.take k) = L at *
      go_wp2_with fail
      refine (add_any hb.sg xs[k] xsz).mono ?_
      rintro e w1 ⟨rfl, sv1, mr1, h1, h2, h3⟩
      have hr1 : RefAt w1 (w.heap.size + 1) L rv := hb.rf.kept h2 (fun k hk' e => hb.d k e hk')
      have k1 : Kept (From w.heap.size) w w1 := hb.k.trans h2 (fun i _ e => hb.f i e)
      obtain ⟨y0, y1, y2⟩ : w1.cell? ⟨xb, off + k * 3, none⟩ = some (.string xs[k].name) ∧ w1.cell? ⟨xb, off + k * 3 + 1, none⟩ = some (.int .i64 xs[k].ar) ∧ w1.cell? ⟨xb, off + k * 3 + 2, none⟩ = some (.bool xs[k].df) := by
        obtain ⟨_, yc, _⟩ := hxs.kept (from_below k1).below
        obtain ⟨_, _, e, _, hyc⟩ := yc.resolve_left (by omega)
        simp only [Option.some.injEq, Addr.mk.injEq, and_true] at e
        rw [e.1, e.2]
        exact hyc k hkx
      clear x0 x1 x2
      go_wp2_with fail
      refine (radd_any hr1 hlen xs[k] xsz).mono ?_
      rintro e w2 ⟨rfl, hr⟩
      obtain ⟨rv2, hb2⟩ := hb.next xs[k] hn0 h1 h2 h3 hr
      go_wp2
      refine ⟨⟨k + 1, sv1, mr1, rv2, by omega, by go_num, ?_⟩, by simp [intOf]; omega⟩
      rw [E1.out]; exact hb2
    · have hxl := hx.1
      have E1 : xs.take k = xs := List.take_of_length_le (by omega)
      rw [E1] at hb hlen
      have r0 := hb.rf.c0
      clear E1
      go_wp2
      go_quiet (fail)
      go_wp2
      go_ret2
      have kd : Same0 wr (wr.drewN nq) := (Kept.refl _ _).drewN nq
      have fin : Sg wr.heap.size wr w.heap.size (madeL xs) ∧ Rl wr.heap.size wr rv (madeL xs) ∧ Same0 w wr := ⟨⟨⟨sv, mr, hb.sg, sig_foot_lt hb.sg⟩, hb.a⟩, ⟨hb.rf.row, fun k e => hb.rf.lt k (.inr e), hb.a, hlen⟩, from_below hb.k⟩
      exact ⟨w.heap.size, rv, rfl, fin.1.same kd, fin.2.1.same kd, fin.2.2.trans' kd⟩
end Go.Proofs.YthamjjhioafkjaaGreat
namespace Go.Proofs.YthamjjhioafkjaaGreat
set_option maxRecDepth 100000
set_option linter.unusedVariables false
open Go.RowKit
attribute [local go_sem ↓] Go.wp_at_zero Go.wp_at_succ
theorem ints_new (w : World) (xs : List Int) (T : TypeId) {o : Obj} (ho : o = .cells (iv xs).toArray T (0,0)) : IntsAt (w.alloc o) (some ⟨w.heap.size,0,none⟩) xs := by
  subst ho
  refine .inr ⟨_, _, rfl, by simp, fun i hi => ?_⟩
  rw [Nat.zero_add, cellAt (heap_alloc_new w _)]
  simpa using iv_get hi
theorem Row.ints {base : Nat} {w : World} {v : Value} {xs : List Int} (h : Row base w v xs) : ∃ ao cap,v = .slice ao xs.length cap ∧ IntsAt w ao xs ∧ xs.length ≤ cap ∧ (∀ a,ao = some a → base ≤ a.block ∧ a.block < w.heap.size) := by
  rcases h.2 with ⟨rfl, h0⟩ | ⟨g, cap, cur, rfl, hb, hg, h1, h2, h3, h4⟩
  · have : xs = [] := List.eq_nil_of_length_eq_zero h0
    subst this
    exact ⟨none, 0, rfl, .inl rfl, Nat.le_refl _, fun a e => by cases e⟩
  · refine ⟨_, cap, rfl, .inr ⟨g, 0, rfl, lt_of_at hg, fun i hi => ?_⟩, h1, fun a e => by cases e; exact ⟨hb, lt_of_at hg⟩⟩
    rw [Nat.zero_add, h.cellAt i (by omega)]
    exact iv_get hi
abbrev zS : Sym := ⟨⟨#[122]⟩, 0, false⟩
abbrev L3 : List Sym := [zS, aS, aAdd]
end Go.Proofs.YthamjjhioafkjaaGreat
