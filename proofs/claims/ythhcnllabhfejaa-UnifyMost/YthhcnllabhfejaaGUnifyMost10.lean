import Derived.Test.YthhcnllabhfejaaGUnifyMost08
import Derived.Test.YthhcnllabhfejaaGUnifyMost09
import Derived.Deep.WholeRow
/- The walk of the statement UnifySelf. -/
namespace Go.Proofs.Ythhcnllabhfejaa
set_option maxRecDepth 100000
set_option linter.unusedVariables false
open Go.RowKit
attribute [local go_sem ↓] Go.wp_at_zero Go.wp_at_succ
/-- The document's Plain of one list. -/
theorem rplain_one {ww : World} {B : Nat} {ao : Option Addr} {cap : Nat} {a : List Int} (hB : ww.heap[B]? = some (.cells #[.slice ao a.length cap] 25 (0, 0))) (ha : IntsAt ww ao a) (hn : ao = none → a.length = 0 ∧ cap = 0) (hm : a.length ≤ 1048576) :
    Calls Try.prog 19 #[.slice (some ⟨B, 0, none⟩) 1 1] ww fun e w' => ∃ g xo oc xc, e = .returned (.slice (some ⟨g, 0, none⟩) 1 oc) ∧ w'.cell? ⟨g, 0, none⟩ = some (.slice xo (upl a).length xc) ∧ g < w'.heap.size ∧ IntsAt w' xo (upl a) ∧ Same0 ww w' := by
  have hl : Lists ww (some ⟨B, 0, none⟩) [a] := by
    refine .inr ⟨_, _, rfl, lt_of_at hB, fun i hi => ?_⟩
    obtain rfl : i = 0 := by simpa using hi
    exact ⟨ao, cap, cellAt hB 0, ha, hn⟩
  refine (rplain_any (lcap := 1) hl (by simp) (fun t ht => by simp at ht; subst ht; omega)).mono ?_
  rintro e w' ⟨v, rfl, hP, hk⟩
  rw [plains_alone] at hP
  obtain ⟨cs, h1, h2⟩ := hP
  obtain ⟨v0, h3, h4, _⟩ := h2 0 (by simp)
  obtain ⟨xo, xc, rfl, h5, _, _⟩ := h4.ints
  obtain ⟨g, oc, rfl, hg1, hg2⟩ := World.ownsRow.form h1 (by simp)
  exact ⟨g, xo, oc, xc, rfl, (h1.cellAt 0 (by simp)).trans h3, hg2, h5, hk⟩
set_option maxHeartbeats 4000000 in
theorem self_walk (v : Value) (w : World) {lo : Option Addr} {ll lc : Nat} {ls : List Sym} {ao : Option Addr} {ac : Nat} {a : List Int} {bo : Option Addr} {bc : Nat} {b' : List Int} {so : Option Addr} {tc : Nat} {t : List Int} (hc : Case6Is w v lo ll lc ls ao ac a bo bc b' so tc t) :
    Calls Try.prog 8 #[v] w fun e w' => e = .returned (.bool true) ∧ Below w.heap.size w w' := by
  obtain ⟨rfl, hsy, hsl, ha, hb, ht⟩ := hc
  obtain ⟨wb, hwb⟩ : ∃ wb, wb = w.alloc (.cells #[.slice lo ll lc, .slice ao a.length ac, .slice bo b'.length bc, .slice so t.length tc] 27) := ⟨_, rfl⟩
  have kb : Same0 w wb := by rw [hwb]; exact (Kept.refl _ w).alloc _
  have hbox : wb.heap[w.heap.size]? = some (.cells #[.slice lo ll lc, .slice ao a.length ac, .slice bo b'.length bc, .slice so t.length tc] 27 (0, 0)) := by rw [hwb]; exact heap_alloc_new w _
  go_enter Try.func8, Try.ntmps8
  go_wp2_with fail
  rw [← hwb]
  generalize hcb : w.heap.size = cb at *
  clear hwb
  refine (awake6_any _).mono ?_
  rintro e w1 ⟨rfl, k1⟩
  obtain ⟨d0, _, _, _⟩ := case6_cells hbox k1
  go_wp2_with fail
  refine (made_any lo ll lc ls w1 (hsy.kept (kb.trans' k1).below) hsl).mono ?_
  rintro e w2 ⟨b, rv, rfl, hsg, hrl, k2⟩
  obtain ⟨L0, hL0⟩ : ∃ L0, L0 = madeL ls := ⟨_, rfl⟩
  rw [← hL0] at hsg hrl
  clear hL0 d0
  have K2 := k1.trans' k2
  have KW := kb.trans' K2
  obtain ⟨ro, rc, rfl⟩ := row_shape hrl.1
  obtain ⟨d0, d1, d2, d3⟩ := case6_cells hbox K2
  have cU := unify_any (xc := ac) (yc := ac) hsg (ha.at'.same KW) (ha.at'.same KW) (umaxLen ha.size) (umaxLen ha.size)
  have CR : Hid (∀ w3, Same0 w2 w3 → (w3.cell? ⟨cb, 1, none⟩ = some (.slice ao a.length ac) ∧ IntsAt w3 ao a) ∧ Calls Try.prog 20 #[.slice ro L0.length rc, .slice ao a.length ac] w3 fun e w' => e = .returned (.int .i64 (checkE L0 a)) ∧ w' = w3) := fun w3 hk =>
    ⟨⟨(case6_cells hbox (K2.trans' hk)).2.1, ha.at'.same (KW.trans' hk)⟩, rcheck_any (cap := ac) (hrl.same hk) (ha.at'.same (KW.trans' hk)) (umaxLen ha.size)⟩
  have FIN : Hid (∀ w', Same0 w2 w' → Below w.heap.size w w') := fun w' hk => (KW.trans' hk).below

  have hnil := ha.nil
  clear hsg hrl hsy K2 k1 k2 kb KW ht hb hbox ha
  by_cases hz : checkE L0 a = 0
  · obtain ⟨x1, x2, x3⟩ := checkE_zero.1 hz
    obtain ⟨e1, e2⟩ := self_com hz
    have e3 : comT L0 a a 0 = upl a := by rw [e2, wrF_upl (fun x hx => (badE_zero.1 x2 x hx).2)]
    have cU2 : Calls Try.prog 11 #[.pointer (some ⟨b, 0, none⟩), .slice ao a.length ac, .slice ao a.length ac] w2 fun e w' => ∃ to' tc', e = .returned (.tuple #[.slice to' (upl a).length tc', .int .i64 0]) ∧ IntsAt w' to' (upl a) ∧ Same0 w2 w' := by
      refine cU.mono ?_
      rintro e w' ⟨v, rfl, hr, hk⟩
      rw [show ((0 : Nat) : Int) = 0 from rfl, e3] at hr
      rw [show ((0 : Nat) : Int) = 0 from rfl, e1]
      obtain ⟨to', tc', rfl, hi, _, _⟩ := hr.ints
      exact ⟨to', tc', rfl, hi, hk⟩
    have hul : (upl a).length ≤ maxLen := by unfold maxLen; simp [upl]; omega
    clear cU e1 e2 e3
    go_upto_region 6 with (first | (go_at_call 11; refine cU2.mono ?_; rintro e w3 ⟨to', tc', rfl, hi3, hk3⟩))
    obtain ⟨⟨f1, f2⟩, cR⟩ := CR.out w3 hk3
    rw [hz] at cR
    have CP : Hid (∀ w5 g xo xc, w5.cell? ⟨g, 0, none⟩ = some (.slice xo (upl a).length xc) → IntsAt w5 xo (upl a) → Same0 w3 w5 → Calls Try.prog 13 #[.slice to' (upl a).length tc', .slice xo (upl a).length xc] w5 fun e w' => e = .returned (.bool true) ∧ Same0 w5 w') := by
      intro w5 g xo xc _ hi hk
      refine (same_any (acap := tc') (bcap := xc) (hi3.same hk) hi hul).mono ?_
      rintro e w' ⟨rfl, hk'⟩
      exact ⟨by simp [sameB], hk'⟩
    have cP := rplain_one (ww := w3.alloc (.cells #[.slice ao a.length ac] 25)) (B := w3.heap.size) (cap := ac) (heap_alloc_new w3 _) (f2.same ((Kept.refl _ w3).alloc _)) hnil (by omega)
    clear CR
    go_wp2_with (first | (go_at_call 20; refine cR.mono ?_; rintro e w' ⟨rfl, rfl⟩) | (go_at_call 19; refine cP.mono ?_; rintro e w5 ⟨g, xo, oc, xc, rfl, p1, p2, p3, p4⟩; have cS := CP.out w5 g xo xc p1 p3 (Same0.new p4)) | (go_at_call 13; refine cS.mono ?_; rintro e w6 ⟨rfl, hk6⟩))
    go_ret
    exact ⟨rfl, FIN.out _ ((hk3.trans' (Same0.new p4)).trans' hk6)⟩
  · have e1 : comE L0 a a 0 = checkE L0 a := by unfold comE; rw [if_pos hz]
    have e2 : comT L0 a a 0 = [] := by unfold comT; rw [if_neg (by rw [e1]; exact hz)]
    have cU2 : Calls Try.prog 11 #[.pointer (some ⟨b, 0, none⟩), .slice ao a.length ac, .slice ao a.length ac] w2 fun e w' => ∃ to' tc', e = .returned (.tuple #[.slice to' 0 tc', .int .i64 (checkE L0 a)]) ∧ Same0 w2 w' := by
      refine cU.mono ?_
      rintro e w' ⟨v, rfl, hr, hk⟩
      rw [show ((0 : Nat) : Int) = 0 from rfl, e2] at hr
      rw [show ((0 : Nat) : Int) = 0 from rfl, e1]
      obtain ⟨to', tc', rfl, hi, _, _⟩ := hr.ints
      exact ⟨to', tc', rfl, hk⟩
    have hz' : (checkE L0 a == 0) = false := by simpa using hz
    clear cU e1 e2
    go_upto_region 6 with (first | (go_at_call 11; refine cU2.mono ?_; rintro e w3 ⟨to', tc', rfl, hk3⟩))
    obtain ⟨⟨f1, f2⟩, cR⟩ := CR.out w3 hk3
    clear CR cU2
    generalize checkE L0 a = E at *
    go_wp2_with (first | (go_at_call 20; refine cR.mono ?_; rintro e w' ⟨rfl, rfl⟩))
    go_ret
    exact ⟨by simp, FIN.out _ hk3⟩
end Go.Proofs.Ythhcnllabhfejaa
/- What is told of two terms comes of both, and each that comes of both comes of it. -/
namespace Go.Proofs.Ythhcnllabhfejaa
set_option linter.unusedVariables false
/-! ### lists with variables put in -/
theorem need_subV {L : List Sym} {f : Int → List Int} : ∀ (u : List Int), (∀ n ∈ u, n < 0 → IsT L (f n)) → ∀ k, need L k (subV f u) = need L k u
  | [], _, k => rfl
  | n :: r, h, k => by
    have ih := need_subV r (fun m hm => h m (by simp [hm]))
    rw [subV_cons]
    by_cases hn : n < 0
    · rw [if_pos hn, need_append]
      have hT := h n (by simp) hn
      cases k with
      | zero =>
        have := isT_pos hT
        cases hd : f n with
        | nil => rw [hd] at this; simp at this
        | cons x y => simp [need]
      | succ k =>
        have := need_add hT k
        rw [Nat.add_comm 1 k, Nat.zero_add] at this
        rw [this, Option.bind_some, need, show arN L n = 0 by unfold arN; rw [if_pos hn], Nat.add_zero]
        exact ih k
    · rw [if_neg hn]
      cases k with
      | zero => rfl
      | succ k => simp only [List.cons_append, List.nil_append, need]; exact ih _
theorem subV_len {L : List Sym} {f : Int → List Int} : ∀ (u : List Int), (∀ n ∈ u, n < 0 → IsT L (f n)) → u.length ≤ (subV f u).length
  | [], _ => Nat.le_refl _
  | n :: r, h => by
    have ih := subV_len r (fun m hm => h m (by simp [hm]))
    rw [subV_cons, List.length_append, List.length_cons]
    by_cases hn : n < 0
    · rw [if_pos hn]; have := isT_pos (h n (by simp) hn); omega
    · rw [if_neg hn]; simp; omega
theorem subV_congr {f g : Int → List Int} : ∀ (u : List Int), (∀ n ∈ u, n < 0 → f n = g n) → subV f u = subV g u
  | [], _ => rfl
  | n :: r, h => by
    rw [subV_cons, subV_cons, subV_congr r (fun m hm => h m (by simp [hm]))]
    by_cases hn : n < 0
    · rw [if_pos hn, if_pos hn, h n (by simp) hn]
    · rw [if_neg hn, if_neg hn]
/-! ### the terms of parts -/
theorem args_isT {L : List Sym} {J : List Int} {ld : Int → Int} {d : Nat} (ih : ∀ (x : Int) (u : List Int), UPart J x → tmF L J ld d x = some u → IsT L u) : ∀ (l : List Nat) (u : List Int), (∀ x ∈ l, x < J.length) → argsT (tmF L J ld d) l = some u → need L l.length u = some 0
  | [], u, _, e => by simp only [argsT, Option.some.injEq] at e; subst e; rfl
  | x :: r, u, hl, e => by
    unfold argsT at e
    cases h1 : tmF L J ld d (x : Int) with
    | none => simp [h1] at e
    | some a =>
      cases h2 : argsT (tmF L J ld d) r with
      | none => simp [h1, h2] at e
      | some b =>
        simp only [h1, h2, Option.some.injEq] at e
        subst e
        have g1 := ih x a (part_nat (hl x (by simp))) h1
        have g2 := args_isT ih r b (fun y hy => hl y (by simp [hy])) h2
        have := need_add g1 r.length
        rw [Nat.add_comm 1, Nat.zero_add] at this
        rw [List.length_cons, need_append, this, Option.bind_some, g2]
theorem tm_isT {L : List Sym} {J : List Int} {ld : Int → Int} (hT : Trs L J) (hl : LdOk J ld) : ∀ (d : Nat) (x : Int) (u : List Int), UPart J x → tmF L J ld d x = some u → IsT L u := by
  intro d
  induction d with
  | zero => intro x u _ h; simp [tmF] at h
  | succ d ih =>
    intro x u hx h
    rw [tmF] at h
    by_cases h1 : ld x < 0
    · rw [if_pos h1] at h
      simp only [Option.some.injEq] at h
      subst h
      exact isT_var L h1
    · rw [if_neg h1] at h
      have hp : (ld x).toNat < J.length := by have := (hl.part x hx).2; omega
      cases h2 : argsT (tmF L J ld d) (kidsL L J (ld x).toNat) with
      | none => simp [h2] at h
      | some v =>
        simp only [h2, Option.some.injEq] at h
        subst h
        have := args_isT ih _ _ (kids_lt hT hp) h2
        have e : (kidsL L J (ld x).toNat).length = arN L (at' J (ld x)) := by
          rw [show (kidsL L J (ld x).toNat).length = arN L (at' J ((ld x).toNat : Nat)) from starts_length _ _ _ _, show (((ld x).toNat : Nat) : Int) = ld x by omega]
        rw [e] at this
        unfold IsT
        show need L (0 + 1) _ = some 0
        rw [need, Nat.zero_add]; exact this
theorem Val.isT {L : List Sym} {J : List Int} {ld : Int → Int} (hT : Trs L J) (hl : LdOk J ld) {x : Int} {u : List Int} (hx : UPart J x) (h : Val L J ld x u) : IsT L u := by
  obtain ⟨d, hd⟩ := h
  exact tm_isT hT hl d x u hx hd
/-- What stands in a term: leaders, and symbols of the list. -/
theorem args_in {L : List Sym} {J : List Int} {ld : Int → Int} {d : Nat} {R : Int → Prop} (ih : ∀ (x : Int) (u : List Int), UPart J x → tmF L J ld d x = some u → ∀ n ∈ u, R n) : ∀ (l : List Nat) (u : List Int), (∀ x ∈ l, x < J.length) → argsT (tmF L J ld d) l = some u → ∀ n ∈ u, R n
  | [], u, _, e => by simp only [argsT, Option.some.injEq] at e; subst e; simp
  | x :: r, u, hl, e => by
    unfold argsT at e
    cases h1 : tmF L J ld d (x : Int) with
    | none => simp [h1] at e
    | some a =>
      cases h2 : argsT (tmF L J ld d) r with
      | none => simp [h1, h2] at e
      | some b =>
        simp only [h1, h2, Option.some.injEq] at e
        subst e
        intro n hn
        rcases List.mem_append.1 hn with q | q
        · exact ih x a (part_nat (hl x (by simp))) h1 n q
        · exact args_in ih r b (fun y hy => hl y (by simp [hy])) h2 n q
theorem tm_in {L : List Sym} {J : List Int} {ld : Int → Int} (hT : Trs L J) (hl : LdOk J ld) : ∀ (d : Nat) (x : Int) (u : List Int), UPart J x → tmF L J ld d x = some u → ∀ n ∈ u, (n < 0 ∧ UPart J n) ∨ (0 ≤ n ∧ n ∈ J) := by
  intro d
  induction d with
  | zero => intro x u _ h; simp [tmF] at h
  | succ d ih =>
    intro x u hx h
    rw [tmF] at h
    by_cases h1 : ld x < 0
    · rw [if_pos h1] at h
      simp only [Option.some.injEq] at h
      subst h
      intro n hn
      simp only [List.mem_cons, List.not_mem_nil, or_false] at hn
      subst hn
      exact .inl ⟨h1, hl.part x hx⟩
    · rw [if_neg h1] at h
      have hp : (ld x).toNat < J.length := by have := (hl.part x hx).2; omega
      cases h2 : argsT (tmF L J ld d) (kidsL L J (ld x).toNat) with
      | none => simp [h2] at h
      | some v =>
        simp only [h2, Option.some.injEq] at h
        subst h
        intro n hn
        rcases List.mem_cons.1 hn with q | q
        · right
          have hs := hl.sym x hx (by omega)
          refine ⟨by omega, ?_⟩
          have : at' J (ld x) = J[(ld x).toNat] := by
            have := at'_nat J (ld x).toNat hp
            rwa [show (((ld x).toNat : Nat) : Int) = ld x by omega] at this
          rw [q, this]; exact List.getElem_mem _
        · exact args_in ih _ _ (kids_lt hT hp) h2 n q
theorem Val.in {L : List Sym} {J : List Int} {ld : Int → Int} (hT : Trs L J) (hl : LdOk J ld) {x : Int} {u : List Int} (hx : UPart J x) (h : Val L J ld x u) : ∀ n ∈ u, (n < 0 ∧ UPart J n) ∨ (0 ≤ n ∧ n ∈ J) := by
  obtain ⟨d, hd⟩ := h
  exact tm_in hT hl d x u hx hd
theorem vals_same {L : List Sym} {J : List Int} {ld : Int → Int} : ∀ (l m : List Nat) (u : List Int), l.length = m.length → (∀ i (h : i < l.length) (h' : i < m.length), ld (l[i] : Nat) = ld (m[i] : Nat)) → Vals L J ld l u → Vals L J ld m u
  | [], [], u, _, _, hv => hv
  | [], y :: m, u, hl, _, _ => by simp at hl
  | x :: l, [], u, hl, _, _ => by simp at hl
  | x :: l, y :: m, u, hl, h, hv => by
    obtain ⟨a, b, h1, h2, rfl⟩ := vals_split hv
    have e0 := h 0 (by simp) (by simp)
    exact vals_cons (val_ld e0 h1) (vals_same l m b (by simpa using hl) (fun i p q => by have := h (i + 1) (by simpa using p) (by simpa using q); simpa using this) h2)
/-- The term of a place goes by its own arguments. -/
theorem Closed.own {L : List Sym} {J : List Int} {m : Nat} {ld : Int → Int} (hc : Closed L J m ld) {P : Nat} (hP : P < J.length) (hs : 0 ≤ at' J P) {u : List Int} (h : Val L J ld P u) : ∃ us, u = at' J P :: us ∧ Vals L J ld (kidsL L J P) us := by
  obtain ⟨g1, g2⟩ := hc.ok.like P (part_nat hP) (by omega) hs
  obtain ⟨v, h1, h2⟩ := val_sym' (by omega) h
  refine ⟨v, by rw [h1, g2], vals_same _ _ v ?_ ?_ h2⟩
  · have c1 : (((ld P).toNat : Nat) : Int) = ld P := by omega
    rw [show (kidsL L J (ld P).toNat).length = _ from starts_length _ _ _ _, show (kidsL L J P).length = _ from starts_length _ _ _ _, c1, g2]
  · intro i p q
    have c1 : (((ld P).toNat : Nat) : Int) = ld P := by omega
    have hi : i < arN L (at' J P) := by
      rw [show (kidsL L J P).length = arN L (at' J P) from starts_length _ _ _ _] at q
      exact q
    have k1 := kids_at (L := L) (J := J) (p := (ld P).toNat) (i := i) (by rw [c1, g2]; exact hi)
    have k2 := kids_at (L := L) (J := J) (p := P) (i := i) hi
    rw [List.getElem?_eq_getElem p, Option.some.injEq] at k1
    rw [List.getElem?_eq_getElem q, Option.some.injEq] at k2
    rw [k1, k2]
    exact (hc.args P hP hs i hi).symm
/-- The terms of variables: one for each that has one. -/
structure VarT (L : List Sym) (J : List Int) (ld : Int → Int) (f : Int → List Int) : Prop where
  val : ∀ n u, Val L J ld n u → f n = u
  none : ∀ n, (¬ ∃ u, Val L J ld n u) → f n = [n]
theorem varT_some (L : List Sym) (J : List Int) (ld : Int → Int) : ∃ f, VarT L J ld f := by
  have each : ∀ n : Int, ∃ y : List Int, (∀ u, Val L J ld n u → y = u) ∧ ((¬ ∃ u, Val L J ld n u) → y = [n]) := by
    intro n
    by_cases h : ∃ u, Val L J ld n u
    · obtain ⟨u, hu⟩ := h
      exact ⟨u, fun v hv => hu.uniq hv, fun f => absurd ⟨u, hu⟩ f⟩
    · exact ⟨[n], fun v hv => absurd ⟨v, hv⟩ h, fun _ => rfl⟩
  obtain ⟨f, hf⟩ := Classical.axiomOfChoice each
  exact ⟨f, fun n => (hf n).1, fun n => (hf n).2⟩
theorem VarT.isT {L : List Sym} {J : List Int} {ld : Int → Int} {f : Int → List Int} (h : VarT L J ld f) (hT : Trs L J) (hl : LdOk J ld) {n : Int} (hn : n < 0) (hp : UPart J n) : IsT L (f n) := by
  by_cases e : ∃ u, Val L J ld n u
  · obtain ⟨u, hu⟩ := e
    rw [h.val n u hu]
    exact hu.isT hT hl hp
  · rw [h.none n e]; exact isT_var L hn
/-- Terms of places come of the list itself. -/
theorem forest_sub {L : List Sym} {J : List Int} {m : Nat} {ld : Int → Int} (hc : Closed L J m ld) {f : Int → List Int} (hv0 : VarT L J ld f) : ∀ (n k p q : Nat) (u : List Int), q - p ≤ n → Forest L J k p q → Vals L J ld (starts L J k p) u → u = subV f ((J.drop p).take (q - p)) := by
  intro n
  induction n with
  | zero =>
    intro k p q u hn hf hv
    cases k with
    | zero =>
      have := hf.zero
      subst this
      obtain ⟨d, hd⟩ := hv
      simp only [starts, argsT, Option.some.injEq] at hd
      subst hd
      simp [subV]
    | succ k => have := hf.pos; omega
  | succ n ih =>
    intro k p q u hn hf hv
    cases k with
    | zero =>
      have := hf.zero
      subst this
      obtain ⟨d, hd⟩ := hv
      simp only [starts, argsT, Option.some.injEq] at hd
      subst hd
      simp [subV]
    | succ k =>
      obtain ⟨h1, h2, h3⟩ := hf.succ
      have h4 := h3.le
      have hpl : p < J.length := by have := h1.le; omega
      rw [starts] at hv
      obtain ⟨a, b, v1, v2, rfl⟩ := vals_split hv
      have e2 := ih k (endN L J p) q b (by omega) h3 v2
      have e1 : a = subV f ((J.drop p).take (endN L J p - p)) := by
        have hcut : (J.drop p).take (endN L J p - p) = at' J p :: (J.drop (p + 1)).take (endN L J p - (p + 1)) := by
          rw [List.drop_eq_getElem_cons hpl, show endN L J p - p = (endN L J p - (p + 1)) + 1 by omega, List.take_succ_cons, at'_nat J p hpl]
        rw [hcut, subV_cons]
        by_cases hs : 0 ≤ at' J p
        · obtain ⟨us, r1, r2⟩ := hc.own hpl hs v1
          have hk := kids_forest hc.trs hpl
          rw [r1, if_neg (by omega), ih _ _ _ us (by omega) hk r2]; rfl
        · have hk := kids_forest hc.trs hpl
          rw [show arN L (at' J p) = 0 by unfold arN; rw [if_pos (by omega)]] at hk
          have := hk.zero
          rw [if_pos (by omega), this, show p + 1 - (p + 1) = 0 by omega, List.take_zero]
          have hv' := val_ld (hc.var p hpl (by omega)) v1
          rw [hv0.val _ _ hv']; simp [subV]
      rw [e1, e2, ← subV_append]
      congr 1
      rw [show q - p = (endN L J p - p) + (q - endN L J p) by omega, List.take_add, List.drop_drop, show p + (endN L J p - p) = endN L J p by omega]
theorem end_first {L : List Sym} {a b : List Int} (ha : IsT L a) : endN L (a ++ b) 0 = a.length := by
  have s1 := scan_more (need_scan (b := []) ha) b
  rw [List.append_nil] at s1
  rw [endN_of (n := a.length) (by simpa using s1)]; omega
theorem end_second {L : List Sym} {a b : List Int} (hb : IsT L b) : endN L (a ++ b) a.length = a.length + b.length := by
  have s1 := need_scan (b := []) hb
  rw [List.append_nil] at s1
  exact endN_of (n := b.length) (by simpa using s1)
/-- Both terms have a common one. -/
theorem both_sub {L : List Sym} {a b : List Int} {ap : Int} (h0 : 0 ≤ ap) (ha : IsT L a) (hb : IsT L b) {ld : Int → Int} (hc : Closed L (jl a b ap) a.length ld) {f : Int → List Int} (hf : VarT L (jl a b ap) ld f) {u : List Int} (hu : Val L (jl a b ap) ld 0 u) : u = subV f a ∧ u = subV f (b.map (shF ap)) := by
  have hp := isT_pos ha
  have hq := isT_pos hb
  have hl : (jl a b ap).length = a.length + b.length := by simp [jl]
  have hb' := isT_sh h0 hb
  have hm : Val L (jl a b ap) ld (a.length : Nat) u := val_ld hc.both hu
  have e1 : endN L (jl a b ap) 0 = a.length := end_first (b := b.map (shF ap)) ha
  have e2 : endN L (jl a b ap) a.length = a.length + (b.map (shF ap)).length := end_second (a := a) hb'
  constructor
  · have := forest_sub hc hf _ 1 0 _ u (Nat.le_refl _) (hc.trs 0 (by omega)) (by
      have := vals_cons hu (vals_nil L (jl a b ap) ld)
      rw [List.append_nil] at this
      exact this)
    rw [e1] at this
    rw [this]
    unfold jl
    rw [List.drop_zero, Nat.sub_zero, List.take_left]
  · have := forest_sub hc hf _ 1 a.length _ u (Nat.le_refl _) (hc.trs a.length (by omega)) (by
      have := vals_cons hm (vals_nil L (jl a b ap) ld)
      rw [List.append_nil] at this
      exact this)
    rw [e2] at this
    rw [this]
    unfold jl
    rw [List.drop_left, Nat.add_sub_cancel_left, List.take_length]
end Go.Proofs.Ythhcnllabhfejaa
/- Patterns and instances in plain words: what variables stand for, the walk of a pattern along a term, terms put in; no program in sight. -/
namespace Go.Proofs.Ythhcnllabhfejaa
set_option linter.unusedVariables false
/-- What stands for each variable: nothing is the empty list. -/
abbrev Tb := Nat → List Int
def updT (σ : Tb) (v : Nat) (u : List Int) : Tb := fun x => if x = v then u else σ x
def noT : Tb := fun _ => []
/-- The first term of a list. -/
def headT (L : List Sym) (ts : List Int) : List Int := ts.take ((scan L 1 ts).getD 0)
/-- A pattern along some numbers. -/
def mw (L : List Sym) : List Int → List Int → Tb → Option Tb
  | [], _, σ => some σ
  | n :: r, ts, σ =>
    if 0 ≤ n then (match ts with | [] => none | x :: ts' => if x = n then mw L r ts' σ else none)
    else if σ (-n).toNat = [] then mw L r (ts.drop (headT L ts).length) (updT σ (-n).toNat (headT L ts))
    else if σ (-n).toNat = headT L ts then mw L r (ts.drop (headT L ts).length) σ else none
theorem mw_sym {L : List Sym} {n x : Int} {r ts : List Int} {σ : Tb} (hn : 0 ≤ n) : mw L (n :: r) (x :: ts) σ = if x = n then mw L r ts σ else none := by
  rw [mw, if_pos hn]
theorem mw_new {L : List Sym} {n : Int} {r ts : List Int} {σ : Tb} (hn : ¬ 0 ≤ n) (h : σ (-n).toNat = []) : mw L (n :: r) ts σ = mw L r (ts.drop (headT L ts).length) (updT σ (-n).toNat (headT L ts)) := by
  rw [mw.eq_def]
  simp only [if_neg hn, if_pos h]
theorem mw_old {L : List Sym} {n : Int} {r ts : List Int} {σ : Tb} (hn : ¬ 0 ≤ n) (h : ¬ σ (-n).toNat = []) : mw L (n :: r) ts σ = if σ (-n).toNat = headT L ts then mw L r (ts.drop (headT L ts).length) σ else none := by
  rw [mw.eq_def]
  simp only [if_neg hn, if_neg h]
theorem arN_neg {L : List Sym} {n : Int} (h : ¬ 0 ≤ n) : arN L n = 0 := by rw [arN, if_pos (by omega)]
/-- Both lack as many terms. -/
def Even (L : List Sym) (p ts : List Int) : Prop := ∃ j, need L j p = some 0 ∧ need L j ts = some 0
theorem even_term {L : List Sym} {p ts : List Int} (h1 : IsT L p) (h2 : IsT L ts) : Even L p ts := ⟨1, h1, h2⟩
theorem Even.cons {L : List Sym} {n : Int} {r ts : List Int} (h : Even L (n :: r) ts) : ∃ x ts', ts = x :: ts' ∧ (0 ≤ n → x = n → Even L r ts') ∧ (¬ 0 ≤ n → ∃ m, scan L 1 ts = some m ∧ 0 < m ∧ m ≤ ts.length ∧ headT L ts = ts.take m ∧ (headT L ts).length = m ∧ Even L r (ts.drop m)) := by
  obtain ⟨j, h1, h2⟩ := h
  cases j with
  | zero => simp [need] at h1
  | succ j =>
    cases ts with
    | nil => simp [need] at h2
    | cons x ts' =>
      simp only [need] at h1
      refine ⟨x, ts', rfl, fun hn e => ?_, fun hn => ?_⟩
      · subst e
        simp only [need] at h2
        exact ⟨_, h1, h2⟩
      · rw [arN_neg hn, Nat.add_zero] at h1
        rw [Nat.add_comm] at h2
        obtain ⟨m, g1, g2, g3⟩ := need_split h2
        have hh : headT L (x :: ts') = (x :: ts').take m := by rw [headT, g1]; rfl
        exact ⟨m, g1, scan_pos (k := 0) g1, g2, hh, by rw [hh, List.length_take]; omega, j, h1, g3⟩
theorem Even.nil {L : List Sym} {ts : List Int} (h : Even L [] ts) : ts = [] := by
  obtain ⟨j, h1, h2⟩ := h
  simp [need] at h1; subst h1
  cases ts with
  | nil => rfl
  | cons x r => simp [need] at h2
theorem head_app {L : List Sym} {a b : List Int} {m : Nat} (h : scan L 1 a = some m) (hm : m ≤ a.length) : headT L (a ++ b) = headT L a := by
  have h3 := (scan_need h).2
  have : scan L 1 (a.take m ++ (a.drop m ++ b)) = some (a.take m).length := need_scan h3
  rw [← List.append_assoc, List.take_append_drop] at this
  rw [headT, headT, h, this]
  simp only [Option.getD_some, List.length_take, Nat.min_eq_left hm]
  rw [List.take_append_of_le_length hm]
/-- What lies behind the terms does not matter. -/
theorem mw_app {L : List Sym} {p a : List Int} (b : List Int) {σ : Tb} (h : Even L p a) : mw L p (a ++ b) σ = mw L p a σ := by
  induction p generalizing a σ with
  | nil => rfl
  | cons n r ih =>
    obtain ⟨x, ts', rfl, h1, h2⟩ := h.cons
    by_cases hn : 0 ≤ n
    · rw [List.cons_append, mw_sym hn, mw_sym hn]
      by_cases e : x = n
      · rw [if_pos e, if_pos e]; exact ih (h1 hn e)
      · rw [if_neg e, if_neg e]
    · obtain ⟨m, g1, g2, g3, g4, g5, g6⟩ := h2 hn
      have e1 := head_app (b := b) g1 g3
      have e2 : ((x :: ts') ++ b).drop m = (x :: ts').drop m ++ b := List.drop_append_of_le_length g3
      by_cases hs : σ (-n).toNat = []
      · rw [mw_new hn hs, mw_new hn hs, e1, g5, e2]; exact ih g6
      · rw [mw_old hn hs, mw_old hn hs, e1, g5, e2]
        by_cases hq : σ (-n).toNat = headT L (x :: ts')
        · rw [if_pos hq, if_pos hq]; exact ih g6
        · rw [if_neg hq, if_neg hq]

/-! ### lists of binds -/
abbrev Bd := Int × List Int
def blN (σ : Tb) (n : Nat) : List Bd := ((List.range n).filter (fun v => decide (σ v ≠ []))).map (fun (v : Nat) => (((v : Nat) : Int), σ v))
theorem blN_zero (σ : Tb) : blN σ 0 = [] := rfl
theorem blN_yes {σ : Tb} {n : Nat} (h : σ n ≠ []) : blN σ (n + 1) = blN σ n ++ [((n : Int), σ n)] := by
  simp [blN, List.range_succ, h]
theorem blN_no {σ : Tb} {n : Nat} (h : σ n = []) : blN σ (n + 1) = blN σ n := by
  simp [blN, List.range_succ, h]
theorem blN_mem {σ : Tb} {n : Nat} {b : Bd} (h : b ∈ blN σ n) : ∃ v : Nat, v < n ∧ b = ((v : Int), σ v) ∧ σ v ≠ [] := by
  simp [blN] at h
  obtain ⟨v, ⟨h1, h2⟩, rfl⟩ := h
  exact ⟨v, h1, rfl, h2⟩
theorem blN_len (σ : Tb) (n : Nat) : (blN σ n).length ≤ n := by
  rw [blN, List.length_map]
  exact Nat.le_trans (List.length_filter_le _ _) (by simp)
def boundL (l : List Bd) (v : Int) : Option (List Int) := (l.find? (fun b => decide (b.1 = v))).map (·.2)
theorem bound_nil (v : Int) : boundL [] v = none := rfl
theorem bound_cons (b : Bd) (l : List Bd) (v : Int) : boundL (b :: l) v = if b.1 = v then some b.2 else boundL l v := by
  by_cases h : b.1 = v <;> simp [boundL, h]
theorem bound_append (a l : List Bd) (v : Int) : boundL (a ++ l) v = (boundL a v).or (boundL l v) := by
  induction a with
  | nil => simp [boundL]
  | cons b a ih =>
    rw [List.cons_append, bound_cons, bound_cons, ih]
    by_cases h : b.1 = v <;> simp [h]
theorem bound_mem {l : List Bd} {v : Int} {u : List Int} (h : boundL l v = some u) : (v, u) ∈ l := by
  induction l with
  | nil => simp [boundL] at h
  | cons b l ih =>
    rw [bound_cons] at h
    by_cases e : b.1 = v
    · rw [if_pos e] at h; cases h; subst e; simp
    · rw [if_neg e] at h; exact List.mem_cons_of_mem _ (ih h)
theorem bound_none {l : List Bd} {v : Int} : boundL l v = none ↔ ∀ b ∈ l, b.1 ≠ v := by
  induction l with
  | nil => simp [boundL]
  | cons b l ih =>
    rw [bound_cons]
    by_cases e : b.1 = v
    · simp [e]
    · simp [e, ih]
theorem bound_bl {σ : Tb} {n v : Nat} (h : v < n) : boundL (blN σ n) (v : Int) = if σ v = [] then none else some (σ v) := by
  induction n with
  | zero => omega
  | succ n ih =>
    by_cases hs : σ n = []
    · rw [blN_no hs]
      by_cases e : v = n
      · subst e
        rw [if_pos hs, bound_none]
        intro b hb
        obtain ⟨x, hx, rfl, _⟩ := blN_mem hb
        simp; omega
      · exact ih (by omega)
    · rw [blN_yes hs, bound_append]
      by_cases e : v = n
      · subst e
        rw [if_neg hs]
        have : boundL (blN σ v) (v : Int) = none := by
          rw [bound_none]
          intro b hb
          obtain ⟨x, hx, rfl, _⟩ := blN_mem hb
          simp; omega
        rw [this, bound_cons]; simp
      · rw [ih (by omega)]
        have : ¬ (n : Int) = (v : Int) := by omega
        rw [bound_cons, if_neg this]
        simp [boundL]
/-- A bind among some, by rising variables. -/
def intoL : List Bd → Bd → List Bd
  | [], b => [b]
  | x :: r, b => if b.1 < x.1 then b :: x :: r else x :: intoL r b
theorem into_app {a t : List Bd} {b : Bd} (h : ∀ x ∈ t, b.1 < x.1) : intoL (a ++ t) b = intoL a b ++ t := by
  induction a with
  | nil =>
    cases t with
    | nil => rfl
    | cons x r => simp [intoL, h x (by simp)]
  | cons x a ih =>
    simp only [List.cons_append, intoL]
    by_cases e : b.1 < x.1
    · simp [e]
    · simp [e, ih]
theorem into_last {a : List Bd} {b : Bd} (h : ∀ x ∈ a, x.1 < b.1) : intoL a b = a ++ [b] := by
  induction a with
  | nil => rfl
  | cons x a ih =>
    have h1 := h x (by simp)
    rw [intoL, if_neg (by omega), ih (fun y hy => h y (by simp [hy]))]
    rfl
theorem upd_same {σ : Tb} {v : Nat} {u : List Int} : updT σ v u v = u := by simp [updT]
theorem upd_else {σ : Tb} {v x : Nat} {u : List Int} (h : x ≠ v) : updT σ v u x = σ x := by simp [updT, h]
theorem blN_upd {σ : Tb} {v n : Nat} {u : List Int} (h : n ≤ v) : blN (updT σ v u) n = blN σ n := by
  induction n with
  | zero => rfl
  | succ n ih =>
    have e : updT σ v u n = σ n := upd_else (by omega)
    by_cases hs : σ n = []
    · rw [blN_no (by rw [e]; exact hs), blN_no hs, ih (by omega)]
    · rw [blN_yes (by rw [e]; exact hs), blN_yes hs, ih (by omega), e]
theorem into_bl {σ : Tb} {v n : Nat} {u : List Int} (hv : v < n) (hs : σ v = []) (hu : u ≠ []) : intoL (blN σ n) ((v : Int), u) = blN (updT σ v u) n := by
  induction n with
  | zero => omega
  | succ n ih =>
    by_cases e : v = n
    · subst e
      rw [blN_no hs, blN_yes (by rw [upd_same]; exact hu), upd_same, blN_upd (Nat.le_refl _)]
      exact into_last (fun x hx => by obtain ⟨y, hy, rfl, _⟩ := blN_mem hx; simp; omega)
    · have e2 : updT σ v u n = σ n := upd_else (fun h => e h.symm)
      by_cases hn : σ n = []
      · rw [blN_no hn, blN_no (by rw [e2]; exact hn)]; exact ih (by omega)
      · rw [blN_yes hn, blN_yes (by rw [e2]; exact hn), e2, into_app (by simp; omega), ih (by omega)]

/-! ### terms put in -/
def inst (σ : Tb) (n : Int) : List Int := if 0 ≤ n ∨ σ (-n).toNat = [] then [n] else σ (-n).toNat
def appT (σ : Tb) (t : List Int) : List Int := t.flatMap (inst σ)
theorem app_nil (σ : Tb) : appT σ [] = [] := rfl
theorem app_cons (σ : Tb) (n : Int) (t : List Int) : appT σ (n :: t) = inst σ n ++ appT σ t := by simp [appT]
theorem app_append (σ : Tb) (a b : List Int) : appT σ (a ++ b) = appT σ a ++ appT σ b := by simp [appT]
theorem inst_len (σ : Tb) (n : Int) : (inst σ n).length = max 1 (if 0 ≤ n then 0 else (σ (-n).toNat).length) := by
  unfold inst
  by_cases h : 0 ≤ n
  · simp [h]
  · by_cases hs : σ (-n).toNat = []
    · simp [h, hs]
    · have : 0 < (σ (-n).toNat).length := List.length_pos_iff.2 hs
      simp [h, hs]; omega
end Go.Proofs.Ythhcnllabhfejaa
/- A table of what variables stand for, in memory; the walks of the smallest functions of package match, and of Equal and Clone of package slices. -/
namespace Go.Proofs.Ythhcnllabhfejaa
set_option maxRecDepth 100000
set_option linter.unusedVariables false
open Go.RowKit
attribute [local go_sem ↓] Go.wp_at_zero Go.wp_at_succ
/-- The cells of a table: what stands there lies in blocks below N. -/
def TabV (N : Nat) (w : World) (cs : Array Value) (σ : Tb) : Prop := cs.size = 100 ∧ ∀ v, v < 100 → ∃ ao cap, cs[v]? = some (.slice ao (σ v).length cap) ∧ IntsAt w ao (σ v) ∧ (σ v).length ≤ cap ∧ (σ v = [] → ao = none ∧ cap = 0) ∧ ∀ a, ao = some a → a.block < N
theorem TabV.kept {N : Nat} {w w' : World} {cs : Array Value} {σ : Tb} {S : Nat → Prop} (h : TabV N w cs σ) (hk : Kept S w w') (hs : ∀ k, k < N → ¬ S k) : TabV N w' cs σ :=
  ⟨h.1, fun v hv => by obtain ⟨ao, cap, h1, h2, h3, h4, h5⟩ := h.2 v hv; exact ⟨ao, cap, h1, h2.kept hk (fun a e => hs _ (h5 a e)), h3, h4, h5⟩⟩
theorem TabV.same {N : Nat} {w w' : World} {cs : Array Value} {σ : Tb} (h : TabV N w cs σ) (hk : Same0 w w') : TabV N w' cs σ := h.kept hk (fun _ _ f => f)
theorem tab_zero (N : Nat) (w : World) : TabV N w (Array.replicate 100 (.slice none 0 0)) noT :=
  ⟨by simp, fun v hv => ⟨none, 0, by rw [Array.getElem?_replicate, if_pos hv]; rfl, .inl rfl, Nat.le_refl _, fun _ => ⟨rfl, rfl⟩, fun a e => by cases e⟩⟩
theorem eqnil (w : World) (a : Option Addr) (n c n' c' : Nat) : (binOp .eql 25 (.slice a n c) (.slice none n' c')).run Try.prog w = .ok (.bool a.isNone) w := Lib.run_eql_slice_nil w _ _ a n c n' c' Try.underlying25
theorem neqnil (w : World) (a : Option Addr) (n c n' c' : Nat) : (binOp .neq 25 (.slice a n c) (.slice none n' c')).run Try.prog w = .ok (.bool (!a.isNone)) w := run_neq_slice_nil_any w _ _ a n c n' c' Try.underlying25
/-! ### Equal -/
/-! ### part -/
def partL (σ : Tb) (n : Int) : List Int := if 0 ≤ n then [] else σ (-n).toNat
end Go.Proofs.Ythhcnllabhfejaa
/- The walks of size, behind of package match, and of Clone of package slices. -/
namespace Go.Proofs.Ythhcnllabhfejaa
set_option maxRecDepth 100000
set_option linter.unusedVariables false
open Go.RowKit
attribute [local go_sem ↓] Go.wp_at_zero Go.wp_at_succ
/-! ### size -/
/-- Each term that stands for a variable has at most so many numbers. -/
def Bnd (σ : Tb) : Prop := ∀ v, (σ v).length ≤ 2000
theorem part_len {σ : Tb} (hb : Bnd σ) (n : Int) : (partL σ n).length ≤ 2000 := by
  unfold partL
  split
  · simp
  · exact hb _
theorem inst_part (σ : Tb) (n : Int) : (inst σ n).length = max 1 (partL σ n).length := by
  rw [inst_len, partL]
  split <;> simp
theorem app_take {σ : Tb} {t : List Int} {k : Nat} (h : k < t.length) : appT σ (t.take (k + 1)) = appT σ (t.take k) ++ inst σ t[k] := by
  rw [take_one h, app_append, app_cons, app_nil, List.append_nil]
theorem app_le {σ : Tb} (hb : Bnd σ) (t : List Int) : (appT σ t).length ≤ 2000 * t.length := by
  induction t with
  | nil => simp [appT]
  | cons n t ih =>
    rw [app_cons, List.length_append, inst_part]
    have := part_len hb n
    simp only [List.length_cons]; omega
/-! ### behind -/
/-! ### Clone -/
end Go.Proofs.Ythhcnllabhfejaa
/- The walk of the function value with which package match goes along a term. -/
namespace Go.Proofs.Ythhcnllabhfejaa
set_option maxRecDepth 100000
set_option linter.unusedVariables false
open Go.RowKit
attribute [local go_sem ↓] Go.wp_at_zero Go.wp_at_succ
theorem Kept.two {a A : Nat} {w w1 : World} (h : Kept (fun i => i = a) w w1) : Kept (fun i => i = a ∨ i = A) w w1 := h.mono (fun _ _ e => .inl e)
theorem scan_end {L : List Sym} {u : List Int} {k m : Nat} (h : scan L 1 (u.drop k) = some m) (hk : k ≤ u.length) : 0 < m ∧ k + m ≤ u.length ∧ headT L (u.drop k) = (u.take (k + m)).drop k ∧ ((u.take (k + m)).drop k).length = m := by
  have h1 := scan_pos (k := 0) h
  have h2 := (scan_need h).1
  rw [List.length_drop] at h2
  refine ⟨h1, by omega, ?_, by rw [List.length_drop, List.length_take]; omega⟩
  rw [headT, h, List.drop_take, Option.getD_some, show k + m - k = m by omega]
end Go.Proofs.Ythhcnllabhfejaa
/- The walk of package match along a pattern: what its variables stand for. -/
namespace Go.Proofs.Ythhcnllabhfejaa
set_option maxRecDepth 100000
set_option linter.unusedVariables false
open Go.RowKit
attribute [local go_sem ↓] Go.wp_at_zero Go.wp_at_succ
theorem Kept.setRow {S : Nat → Prop} {a w : World} (h : Kept S a w) {g : Nat} (hg : g < a.heap.size → S g) (cs : Array Value) : Kept S a (w.setRow g cs) :=
  h.trans (S' := fun k => k = g) ⟨rfl, rfl, rfl, by simp [World.setRow], fun k _ hn => by simp only [World.setRow, Array.getElem?_modify]; rw [if_neg (fun e => hn e.symm)]⟩ (fun i hi e => by subst e; exact hg hi)
theorem setRow_at {w : World} {g : Nat} {old cs : Array Value} {t : TypeId} {fr : Nat × Nat} (h : w.heap[g]? = some (.cells old t fr)) : (w.setRow g cs).heap[g]? = some (.cells cs t fr) := by
  simp [World.setRow, Array.getElem?_modify, h]
theorem run_loadCells_table {w : World} {g : Nat} {cs : Array Value} {t : TypeId} (hg : w.heap[g]? = some (.cells cs t (0, 0))) (h : cs.size = 100) : (loadCellsFrom ⟨g, 0, none⟩ 0 100 #[]).run Try.prog w = .ok cs w := by
  have := run_loadCells_list (P := Try.prog) w ⟨g, 0, none⟩ cs.toList (fun j v hv => by
    have hadd : (⟨g, 0, none⟩ : Addr).add j = ⟨g, j, none⟩ := by unfold Addr.add; split <;> simp_all
    rw [hadd, cellAt hg j]
    simpa using hv)
  simpa [loadCells, h] using this
theorem TabV.one {N : Nat} {w : World} {cs : Array Value} {σ : Tb} (h : TabV N w cs σ) : cs.all (·.oneCell') = true := by
  rw [Array.all_eq_true]
  intro i hi
  obtain ⟨ao, cap, h1, _⟩ := h.2 i (by have := h.1; omega)
  rw [Array.getElem?_eq_getElem hi] at h1
  simp only [Option.some.injEq] at h1
  rw [h1]; rfl
theorem bnd_upd {σ : Tb} (h : Bnd σ) {v : Nat} {x : List Int} (hx : x.length ≤ 2000) : Bnd (updT σ v x) := fun y => by
  unfold updT
  split
  · exact hx
  · exact h y
end Go.Proofs.Ythhcnllabhfejaa
/- Rows of binds in memory; the walk of binds of package match. -/
namespace Go.Proofs.Ythhcnllabhfejaa
set_option maxRecDepth 100000
set_option linter.unusedVariables false
open Go.RowKit
attribute [local go_sem ↓] Go.wp_at_zero Go.wp_at_succ
theorem info_bind : (Try.prog.info? 68).map (fun i => (i.zero, i.size, i.bytes)) = some (some (.agg #[.int .i64 0, .slice none 0 0]), 2, 32) := by kernel_rfl
def bcells (l : List (Int × Value)) : List Value := l.flatMap (fun p => [.int .i64 p.1, p.2])
theorem bcells_snoc (l : List (Int × Value)) (p : Int × Value) : bcells (l ++ [p]) = bcells l ++ [.int .i64 p.1, p.2] := by simp [bcells]
theorem bcells_length (l : List (Int × Value)) : (bcells l).length = l.length * 2 := by
  induction l with
  | nil => rfl
  | cons x r ih => simp [bcells] at ih ⊢; omega
theorem bcells_at {l : List (Int × Value)} {i : Nat} (h : i < l.length) : (bcells l)[i * 2]? = some (.int .i64 l[i].1) ∧ (bcells l)[i * 2 + 1]? = some l[i].2 := by
  induction l generalizing i with
  | nil => simp at h
  | cons x r ih =>
    have e : bcells (x :: r) = .int .i64 x.1 :: x.2 :: bcells r := by simp [bcells]
    rw [e]
    cases i with
    | zero => simp
    | succ j =>
      obtain ⟨a, b⟩ := ih (i := j) (by simpa using h)
      have e1 : (j + 1) * 2 = j * 2 + 1 + 1 := by omega
      rw [e1]
      exact ⟨by simpa using a, by simpa using b⟩
/-- append of one bind to a row of the call's own. -/
theorem wpList_bind {w0 : World} {ops : Array Oper} {rest : List Oper} {o : Oper} {a : Act} {Q : Exit → Act → World → Prop} (hgd : o.guard = none) (s x : Operand)
    (ho : o.op = .call { callee := .builtin .append, args := #[s, x], argTypes := #[41, 41] })
    (base : Nat) (l : List (Int × Value)) (v : Value) (hs : a.eval s = v) (hr : w0.ownsRow base 68 2 v l.length (bcells l)) (n : Int) (tO : Option Addr) (tl tc : Nat) (hx : a.eval x = .slice (some ⟨w0.heap.size, 0, none⟩) 1 1) (hb : base ≤ w0.heap.size) (hsz : l.length ≤ 140737488000)
    (h : ∀ g cap w', w'.ownsRow base 68 2 (.slice (some ⟨g, 0, none⟩) (l.length + 1) cap) (l.length + 1) (bcells l ++ [.int .i64 n, .slice tO tl tc]) → Kept (fun k => v.ownBlock = some k) w0 w' → (v.ownBlock = some g ∨ w0.heap.size ≤ g) → wpList Try.prog ops Q rest (a.put o.dst (.slice (some ⟨g, 0, none⟩) (l.length + 1) cap)) w') :
    wpList Try.prog ops Q (o :: rest) a (w0.alloc (.cells #[.int .i64 n, .slice tO tl tc] 68)) := by
  obtain ⟨i, hi, hz0, hz1, hz2⟩ := info_parts info_bind
  refine wpList_append_lies _ hgd s x 41 ho base 68 i _ 2 32 Try.underlying41 hi hz0 hz1 hz2 rfl (by decide) v l.length (bcells l) hs (World.ownsRow.alloc hr _) ⟨w0.heap.size, 0, none⟩ 1 1 [.int .i64 n, .slice tO tl tc] hx rfl (World.news_of_block (cs := #[.int .i64 n, .slice tO tl tc]) (t := 68) (fr := (0, 0)) (heap_alloc_new w0 _)) (by simp [Value.oneCell']) (by omega) (by unfold maxLen; omega) (by omega) (by simp; omega) (w0.heap.size + 1) (by simp) ?_
  intro g cap w' hown hgrow hat hlt
  refine h g cap w' hown ?_ (hat.imp id (fun e => by omega))
  exact Kept.grown (Kept.alloc (Kept.refl _ w0) _) hgrow (fun _ e _ => e)
/-- Binds of the call's own, each term in a block of its own. -/
structure BOwn (base : Nat) (w : World) (v : Value) (l : List (Int × Value)) (bs : List Bd) : Prop where
  row : w.ownsRow base 68 2 v l.length (bcells l)
  len : l.length = bs.length
  each : ∀ i (h : i < l.length) (h' : i < bs.length), l[i].1 = bs[i].1 ∧ Row base w l[i].2 bs[i].2 ∧ ∀ k, l[i].2.ownBlock = some k → v.ownBlock ≠ some k
  apart : ∀ i j (hi : i < l.length) (hj : j < l.length), i ≠ j → ∀ k, l[i].2.ownBlock = some k → l[j].2.ownBlock ≠ some k
theorem BOwn.nil (base : Nat) (w : World) : BOwn base w (.slice none 0 0) [] [] := ⟨World.ownsRow_nil _ _ _ _, rfl, fun i h => by simp at h, fun i j h => by simp at h⟩
theorem BOwn.kept {base : Nat} {w w' : World} {v : Value} {l : List (Int × Value)} {bs : List Bd} {S : Nat → Prop} (h : BOwn base w v l bs) (hk : Kept S w w') (hs : ∀ k, base ≤ k → k < w.heap.size → ¬ S k) : BOwn base w' v l bs :=
  ⟨hk.row h.row (fun k e => hs k (h.row.lt k e).1 (h.row.lt k e).2), h.len, fun i h1 h2 => ⟨(h.each i h1 h2).1, hk.row (h.each i h1 h2).2.1 (fun k e => hs k ((h.each i h1 h2).2.1.lt k e).1 ((h.each i h1 h2).2.1.lt k e).2), (h.each i h1 h2).2.2⟩, h.apart⟩
theorem BOwn.same {base : Nat} {w w' : World} {v : Value} {l : List (Int × Value)} {bs : List Bd} (h : BOwn base w v l bs) (hk : Same0 w w') : BOwn base w' v l bs := h.kept hk (fun _ _ _ f => f)
theorem BOwn.more {base : Nat} {wr w1 w2 : World} {lv tv : Value} {l : List (Int × Value)} {bs : List Bd} {n : Int} {xs : List Int} {g cap : Nat} (h : BOwn base wr lv l bs) (k1 : Same0 wr w1) (hb : base ≤ wr.heap.size) (ht : Row wr.heap.size w1 tv xs)
    (hr : w2.ownsRow base 68 2 (.slice (some ⟨g, 0, none⟩) (l.length + 1) cap) (l.length + 1) (bcells l ++ [.int .i64 n, tv])) (k2 : Kept (fun k => lv.ownBlock = some k) w1 w2) (hat : lv.ownBlock = some g ∨ w1.heap.size ≤ g) :
    BOwn base w2 (.slice (some ⟨g, 0, none⟩) (l.length + 1) cap) (l ++ [(n, tv)]) (bs ++ [(n, xs)]) := by
  have z1 := k1.size
  have hl := h.len
  have own : ∀ k, lv.ownBlock = some k → k < wr.heap.size := fun k e => (h.row.lt k e).2
  have tl : ∀ k, tv.ownBlock = some k → wr.heap.size ≤ k ∧ k < w1.heap.size := fun k e => ht.lt k e
  have ol : ∀ i (hi : i < l.length) k, l[i].2.ownBlock = some k → k < wr.heap.size := fun i hi k e => ((h.each i hi (by omega)).2.1.lt k e).2
  refine ⟨?_, by simp [hl], fun i h1 h2 => ?_, fun i j hi hj hij k e => ?_⟩
  · rw [bcells_snoc, List.length_append]; exact hr
  · by_cases hi : i < l.length
    · have hi' : i < bs.length := by omega
      obtain ⟨e1, e2, e3⟩ := h.each i hi hi'
      rw [List.getElem_append_left hi, List.getElem_append_left hi']
      refine ⟨e1, k2.row (k1.row e2 (fun _ _ f => f)) (fun k e => e3 k e), fun k e => ?_⟩
      simp only [Value.ownBlock, ne_eq, Option.some.injEq]
      rintro rfl
      rcases hat with y | y
      · exact e3 _ e y
      · have := ol i hi _ e; omega
    · have hi2 : i = l.length := by simp at h1; omega
      subst hi2
      have e1 : (l ++ [(n, tv)])[l.length] = (n, tv) := by simp
      have e2 : (bs ++ [(n, xs)])[l.length] = (n, xs) := by simp [hl]
      rw [e1, e2]
      refine ⟨rfl, row_mono (k2.row ht (fun k e f => by have := own k f; have := (tl k e).1; omega)) hb, fun k e => ?_⟩
      simp only [Value.ownBlock, ne_eq, Option.some.injEq]
      rintro rfl
      have := tl _ e
      rcases hat with y | y
      · have := own _ y; omega
      · omega
  · by_cases hi1 : i < l.length
    · rw [List.getElem_append_left hi1] at e
      by_cases hj1 : j < l.length
      · rw [List.getElem_append_left hj1]
        exact h.apart i j hi1 hj1 hij k e
      · have : j = l.length := by simp at hj; omega
        subst this
        have e1 : (l ++ [(n, tv)])[l.length] = (n, tv) := by simp
        rw [e1]
        intro y
        have := (tl k y).1; have := ol i hi1 k e; omega
    · have hi2 : i = l.length := by simp at hi; omega
      subst hi2
      have e1 : (l ++ [(n, tv)])[l.length] = (n, tv) := by simp
      rw [e1] at e
      have hj1 : j < l.length := by simp at hj; omega
      rw [List.getElem_append_left hj1]
      intro y
      have := (tl k e).1; have := ol j hj1 k y; omega
end Go.Proofs.Ythhcnllabhfejaa
/- Binds that lie in memory; the walk of tableOf of package match. -/
namespace Go.Proofs.Ythhcnllabhfejaa
set_option maxRecDepth 100000
set_option linter.unusedVariables false
open Go.RowKit
attribute [local go_sem ↓] Go.wp_at_zero Go.wp_at_succ
/-- Binds that lie in memory. -/
def BindsAt (w : World) (lo : Option Addr) (bs : List Bd) : Prop :=
  bs = [] ∨ ∃ b off, lo = some ⟨b, off, none⟩ ∧ b < w.heap.size ∧ ∀ i (h : i < bs.length), w.cell? ⟨b, off + i * 2, none⟩ = some (.int .i64 bs[i].1) ∧ ∃ ao cap, w.cell? ⟨b, off + i * 2 + 1, none⟩ = some (.slice ao bs[i].2.length cap) ∧ IntsAt w ao bs[i].2 ∧ bs[i].2.length ≤ cap ∧ (ao = none → bs[i].2.length = 0 ∧ cap = 0)
theorem BindsAt.same {w w' : World} {lo : Option Addr} {bs : List Bd} (h : BindsAt w lo bs) (hk : Same0 w w') : BindsAt w' lo bs := by
  refine h.imp id ?_
  rintro ⟨b, off, rfl, hlt, hc⟩
  refine ⟨b, off, rfl, Nat.lt_of_lt_of_le hlt hk.size, fun i hi => ?_⟩
  obtain ⟨c1, ao, cap, c2, c3, c4, c5⟩ := hc i hi
  exact ⟨(hk.cell (p := ⟨b, off + i * 2, none⟩) hlt (fun f => f)).trans c1, ao, cap, (hk.cell (p := ⟨b, off + i * 2 + 1, none⟩) hlt (fun f => f)).trans c2, c3.same hk, c4, c5⟩
theorem BindsAt.get {w : World} {lo : Option Addr} {bs : List Bd} (h : BindsAt w lo bs) {i : Nat} (hi : i < bs.length) : ∃ b off ao cap, lo = some ⟨b, off, none⟩ ∧ b < w.heap.size ∧ w.cell? ⟨b, off + i * 2, none⟩ = some (.int .i64 bs[i].1) ∧ w.cell? ⟨b, off + i * 2 + 1, none⟩ = some (.slice ao bs[i].2.length cap) ∧ IntsAt w ao bs[i].2 ∧ bs[i].2.length ≤ cap ∧ (ao = none → bs[i].2.length = 0 ∧ cap = 0) := by
  rcases h with rfl | ⟨b, off, e, hlt, hc⟩
  · simp at hi
  · obtain ⟨c1, ao, cap, c2, c3, c4, c5⟩ := hc i hi
    exact ⟨b, off, ao, cap, e, hlt, c1, c2, c3, c4, c5⟩
theorem BOwn.at' {base : Nat} {w : World} {v : Value} {l : List (Int × Value)} {bs : List Bd} (h : BOwn base w v l bs) : ∃ lo cap, v = .slice lo bs.length cap ∧ BindsAt w lo bs ∧ bs.length ≤ cap := by
  have hl := h.len
  rcases h.row.2 with ⟨rfl, h0⟩ | ⟨g, cap, cur, rfl, hb, hg, h1, h2, h3, h4⟩
  · have : bs = [] := List.eq_nil_of_length_eq_zero (by omega)
    subst this
    exact ⟨none, 0, rfl, .inl rfl, Nat.le_refl _⟩
  · refine ⟨some ⟨g, 0, none⟩, cap, by rw [hl], .inr ⟨g, 0, rfl, lt_of_at hg, fun i hi => ?_⟩, by omega⟩
    have hi' : i < l.length := by omega
    obtain ⟨e1, e2, e3⟩ := h.each i hi' hi
    obtain ⟨x1, x2⟩ := bcells_at hi'
    obtain ⟨ao, c, y1, y2, y3, y4⟩ := e2.ints
    rw [Nat.zero_add]
    refine ⟨(h.row.cellAt (i * 2) (by omega)).trans (by rw [x1, e1]), ao, c, (h.row.cellAt (i * 2 + 1) (by omega)).trans (by rw [x2, y1]), y2, y3, fun e => ?_⟩
    subst e
    rcases e2.2 with ⟨z1, z2⟩ | ⟨g', c', cur', z1, _⟩
    · rw [y1] at z1; simp only [Value.slice.injEq, true_and] at z1; exact z1
    · rw [y1] at z1; simp at z1
/-- The table of some binds, or what is wrong with the first that may not be. -/
def tabF (L : List Sym) : List Bd → Tb → Except Int Tb
  | [], σ => .ok σ
  | b :: r, σ => if b.1 < 1 ∨ 99 < b.1 ∨ σ b.1.toNat ≠ [] then .error 50 else if checkE L b.2 ≠ 0 then .error (checkE L b.2) else tabF L r (updT σ b.1.toNat b.2)
theorem tab_bad {L : List Sym} {b : Bd} {r : List Bd} {σ : Tb} (h : b.1 < 1 ∨ 99 < b.1 ∨ σ b.1.toNat ≠ []) : tabF L (b :: r) σ = .error 50 := by rw [tabF, if_pos h]
theorem tab_check {L : List Sym} {b : Bd} {r : List Bd} {σ : Tb} (h : ¬ (b.1 < 1 ∨ 99 < b.1 ∨ σ b.1.toNat ≠ [])) (h2 : checkE L b.2 ≠ 0) : tabF L (b :: r) σ = .error (checkE L b.2) := by rw [tabF, if_neg h, if_pos h2]
theorem tab_go {L : List Sym} {b : Bd} {r : List Bd} {σ : Tb} (h : ¬ (b.1 < 1 ∨ 99 < b.1 ∨ σ b.1.toNat ≠ [])) (h2 : checkE L b.2 = 0) : tabF L (b :: r) σ = tabF L r (updT σ b.1.toNat b.2) := by rw [tabF, if_neg h, if_neg (by rw [h2]; simp)]
/-- Each takes one cell. -/
def OneAll (cs : Array Value) : Prop := cs.all (·.oneCell') = true
end Go.Proofs.Ythhcnllabhfejaa
/- The walk of Apply of package match. -/
namespace Go.Proofs.Ythhcnllabhfejaa
set_option maxRecDepth 100000
set_option linter.unusedVariables false
open Go.RowKit
attribute [local go_sem ↓] Go.wp_at_zero Go.wp_at_succ
def applyE (L : List Sym) (t : List Int) (bs : List Bd) : Int := if checkE L t ≠ 0 then checkE L t else match tabF L bs noT with | .error x => x | .ok σ => if 2000 < (appT σ t).length then 20 else 0
def applyA (L : List Sym) (t : List Int) (bs : List Bd) : List Int := if applyE L t bs = 0 then (match tabF L bs noT with | .ok σ => appT σ t | .error _ => []) else []
theorem tab_err_ne {L : List Sym} {bs : List Bd} {σ : Tb} {x : Int} (h : tabF L bs σ = .error x) : x ≠ 0 := by
  induction bs generalizing σ with
  | nil => simp [tabF] at h
  | cons b r ih =>
    rw [tabF] at h
    split at h
    · cases h; decide
    · split at h
      · cases h; assumption
      · exact ih h
theorem apply_check {L : List Sym} {t : List Int} {bs : List Bd} (h : checkE L t ≠ 0) : applyE L t bs = checkE L t ∧ applyA L t bs = [] := by
  have e : applyE L t bs = checkE L t := by rw [applyE, if_pos h]
  exact ⟨e, by rw [applyA, e, if_neg h]⟩
theorem apply_err {L : List Sym} {t : List Int} {bs : List Bd} {x : Int} (h : checkE L t = 0) (h2 : tabF L bs noT = .error x) : applyE L t bs = x ∧ applyA L t bs = [] := by
  have e : applyE L t bs = x := by rw [applyE, if_neg (by rw [h]; simp), h2]
  exact ⟨e, by rw [applyA, e, if_neg (tab_err_ne h2)]⟩
theorem apply_long {L : List Sym} {t : List Int} {bs : List Bd} {σ : Tb} (h : checkE L t = 0) (h2 : tabF L bs noT = .ok σ) (h3 : 2000 < (appT σ t).length) : applyE L t bs = 20 ∧ applyA L t bs = [] := by
  have e : applyE L t bs = 20 := by rw [applyE, if_neg (by rw [h]; simp), h2]; simp [h3]
  exact ⟨e, by rw [applyA, e, if_neg (by decide)]⟩
theorem apply_ok {L : List Sym} {t : List Int} {bs : List Bd} {σ : Tb} (h : checkE L t = 0) (h2 : tabF L bs noT = .ok σ) (h3 : ¬ 2000 < (appT σ t).length) : applyE L t bs = 0 ∧ applyA L t bs = appT σ t := by
  have e : applyE L t bs = 0 := by rw [applyE, if_neg (by rw [h]; simp), h2]; simp [h3]
  exact ⟨e, by rw [applyA, e, if_pos rfl, h2]⟩
theorem app_prefix (σ : Tb) (t : List Int) (k : Nat) : (appT σ (t.take k)).length ≤ (appT σ t).length := by
  have : appT σ t = appT σ (t.take k) ++ appT σ (t.drop k) := by rw [← app_append, List.take_append_drop]
  rw [this, List.length_append]; omega
theorem inst_none {σ : Tb} {n : Int} (h : partL σ n = []) : inst σ n = [n] := by
  unfold partL at h
  unfold inst
  by_cases h0 : 0 ≤ n
  · simp [h0]
  · rw [if_neg h0] at h; simp [h]
theorem inst_some {σ : Tb} {n : Int} (h : partL σ n ≠ []) : inst σ n = partL σ n := by
  unfold partL at h ⊢
  unfold inst
  by_cases h0 : 0 ≤ n
  · rw [if_pos h0] at h; exact absurd rfl h
  · rw [if_neg h0] at h ⊢; simp [h0, h]
end Go.Proofs.Ythhcnllabhfejaa
/- The walk of Match of package match. -/
namespace Go.Proofs.Ythhcnllabhfejaa
set_option maxRecDepth 100000
set_option linter.unusedVariables false
open Go.RowKit
attribute [local go_sem ↓] Go.wp_at_zero Go.wp_at_succ
def matchE (L : List Sym) (p t : List Int) (a : Int) : Int := if checkE L p ≠ 0 then checkE L p else placeE L t a
def matchS (L : List Sym) (p t : List Int) (a : Int) : Option Tb := if matchE L p t a = 0 then mw L p (subN L t a.toNat) noT else none
def matchB (L : List Sym) (p t : List Int) (a : Int) : List Bd := match matchS L p t a with | some σ => blN σ 100 | none => []
theorem match_bad {L : List Sym} {p t : List Int} {a : Int} (h : matchE L p t a ≠ 0) : matchS L p t a = none ∧ matchB L p t a = [] := by
  have h1 : matchS L p t a = none := by rw [matchS, if_neg h]
  exact ⟨h1, by rw [matchB, h1]⟩
end Go.Proofs.Ythhcnllabhfejaa
