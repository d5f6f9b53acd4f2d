/- The walk of the statement UnifySelf. -/
import Derived.Test.YthhcnllabhfejaaUniLaw
import Derived.Test.YthhcnllabhfejaaUniPl
import Derived.Test.YthhcnllabhfejaaRefPlain
namespace Go.Proofs.Ythhcnllabhfejaa
set_option maxRecDepth 100000
set_option linter.unusedVariables false
open Go.RowKit
attribute [local go_sem ↓] Go.wp_at_zero Go.wp_at_succ
/-- The document's Plain of one list. -/
theorem rplain_one {ww : World} {B : Nat} {ao : Option Addr} {cap : Nat} {a : List Int} (hB : ww.heap[B]? = some (.cells #[.slice ao a.length cap] 25 (0, 0))) (ha : IntsAt ww ao a) (hn : ao = none → a.length = 0 ∧ cap = 0) (hm : a.length ≤ 1048576) :
    Calls Try.prog 19 #[.slice (some ⟨B, 0, none⟩) 1 1] ww fun e w' => ∃ g xo oc xc, e = .returned (.slice (some ⟨g, 0, none⟩) 1 oc) ∧ w'.cell? ⟨g, 0, none⟩ = some (.slice xo (upl a).length xc) ∧ g < w'.heap.size ∧ IntsAt w' xo (upl a) ∧ Same0 ww w' := by
  have hl : Lists ww (some ⟨B, 0, none⟩) [a] := by
    refine .inr ⟨_, _, rfl, lt_of_at hB, fun i hi => ?_⟩
    obtain rfl : i = 0 := by simpa using hi
    exact ⟨ao, cap, cellAt hB 0, ha, hn⟩
  refine (rplain_any (lcap := 1) hl (by simp) (fun t ht => by simp at ht; subst ht; omega)).mono ?_
  rintro e w' ⟨v, rfl, hP, hk⟩
  rw [plains_alone] at hP
  obtain ⟨cs, h1, h2⟩ := hP
  obtain ⟨v0, h3, h4, _⟩ := h2 0 (by simp)
  obtain ⟨xo, xc, rfl, h5, _, _⟩ := h4.ints
  obtain ⟨g, oc, rfl, hg1, hg2⟩ := World.ownsRow.form h1 (by simp)
  exact ⟨g, xo, oc, xc, rfl, (h1.cellAt 0 (by simp)).trans h3, hg2, h5, hk⟩
set_option maxHeartbeats 4000000 in
theorem self_walk (v : Value) (w : World) {lo : Option Addr} {ll lc : Nat} {ls : List Sym} {ao : Option Addr} {ac : Nat} {a : List Int} {bo : Option Addr} {bc : Nat} {b' : List Int} {so : Option Addr} {tc : Nat} {t : List Int} (hc : Case6Is w v lo ll lc ls ao ac a bo bc b' so tc t) :
    Calls Try.prog 8 #[v] w fun e w' => e = .returned (.bool true) ∧ Below w.heap.size w w' := by
  obtain ⟨rfl, hsy, hsl, ha, hb, ht⟩ := hc
  obtain ⟨wb, hwb⟩ : ∃ wb, wb = w.alloc (.cells #[.slice lo ll lc, .slice ao a.length ac, .slice bo b'.length bc, .slice so t.length tc] 27) := ⟨_, rfl⟩
  have kb : Same0 w wb := by rw [hwb]; exact (Kept.refl _ w).alloc _
  have hbox : wb.heap[w.heap.size]? = some (.cells #[.slice lo ll lc, .slice ao a.length ac, .slice bo b'.length bc, .slice so t.length tc] 27 (0, 0)) := by rw [hwb]; exact heap_alloc_new w _
  go_enter Try.func8, Try.ntmps8
  go_wp2_with fail
  rw [← hwb]
  generalize hcb : w.heap.size = cb at *
  clear hwb
  refine (awake6_any _).mono ?_
  rintro e w1 ⟨rfl, k1⟩
  obtain ⟨d0, _, _, _⟩ := case6_cells hbox k1
  go_wp2_with fail
  refine (made_any lo ll lc ls w1 (hsy.kept (kb.trans' k1).below) hsl).mono ?_
  rintro e w2 ⟨b, rv, rfl, hsg, hrl, k2⟩
  obtain ⟨L0, hL0⟩ : ∃ L0, L0 = madeL ls := ⟨_, rfl⟩
  rw [← hL0] at hsg hrl
  clear hL0 d0
  have K2 := k1.trans' k2
  have KW := kb.trans' K2
  obtain ⟨ro, rc, rfl⟩ := row_shape hrl.1
  obtain ⟨d0, d1, d2, d3⟩ := case6_cells hbox K2
  have cU := unify_any (xc := ac) (yc := ac) hsg (ha.at'.same KW) (ha.at'.same KW) (umaxLen ha.size) (umaxLen ha.size)
  have CR : Hid (∀ w3, Same0 w2 w3 → (w3.cell? ⟨cb, 1, none⟩ = some (.slice ao a.length ac) ∧ IntsAt w3 ao a) ∧ Calls Try.prog 20 #[.slice ro L0.length rc, .slice ao a.length ac] w3 fun e w' => e = .returned (.int .i64 (checkE L0 a)) ∧ w' = w3) := fun w3 hk =>
    ⟨⟨(case6_cells hbox (K2.trans' hk)).2.1, ha.at'.same (KW.trans' hk)⟩, rcheck_any (cap := ac) (hrl.same hk) (ha.at'.same (KW.trans' hk)) (umaxLen ha.size)⟩
  have FIN : Hid (∀ w', Same0 w2 w' → Below w.heap.size w w') := fun w' hk => (KW.trans' hk).below

  have hnil := ha.nil
  clear hsg hrl hsy K2 k1 k2 kb KW ht hb hbox ha
  by_cases hz : checkE L0 a = 0
  · obtain ⟨x1, x2, x3⟩ := checkE_zero.1 hz
    obtain ⟨e1, e2⟩ := self_com hz
    have e3 : comT L0 a a 0 = upl a := by rw [e2, wrF_upl (fun x hx => (badE_zero.1 x2 x hx).2)]
    have cU2 : Calls Try.prog 11 #[.pointer (some ⟨b, 0, none⟩), .slice ao a.length ac, .slice ao a.length ac] w2 fun e w' => ∃ to' tc', e = .returned (.tuple #[.slice to' (upl a).length tc', .int .i64 0]) ∧ IntsAt w' to' (upl a) ∧ Same0 w2 w' := by
      refine cU.mono ?_
      rintro e w' ⟨v, rfl, hr, hk⟩
      rw [show ((0 : Nat) : Int) = 0 from rfl, e3] at hr
      rw [show ((0 : Nat) : Int) = 0 from rfl, e1]
      obtain ⟨to', tc', rfl, hi, _, _⟩ := hr.ints
      exact ⟨to', tc', rfl, hi, hk⟩
    have hul : (upl a).length ≤ maxLen := by unfold maxLen; simp [upl]; omega
    clear cU e1 e2 e3
    go_upto_region 6 with (first | (go_at_call 11; refine cU2.mono ?_; rintro e w3 ⟨to', tc', rfl, hi3, hk3⟩))
    obtain ⟨⟨f1, f2⟩, cR⟩ := CR.out w3 hk3
    rw [hz] at cR
    have CP : Hid (∀ w5 g xo xc, w5.cell? ⟨g, 0, none⟩ = some (.slice xo (upl a).length xc) → IntsAt w5 xo (upl a) → Same0 w3 w5 → Calls Try.prog 13 #[.slice to' (upl a).length tc', .slice xo (upl a).length xc] w5 fun e w' => e = .returned (.bool true) ∧ Same0 w5 w') := by
      intro w5 g xo xc _ hi hk
      refine (same_any (acap := tc') (bcap := xc) (hi3.same hk) hi hul).mono ?_
      rintro e w' ⟨rfl, hk'⟩
      exact ⟨by simp [sameB], hk'⟩
    have cP := rplain_one (ww := w3.alloc (.cells #[.slice ao a.length ac] 25)) (B := w3.heap.size) (cap := ac) (heap_alloc_new w3 _) (f2.same ((Kept.refl _ w3).alloc _)) hnil (by omega)
    clear CR
    go_wp2_with (first | (go_at_call 20; refine cR.mono ?_; rintro e w' ⟨rfl, rfl⟩) | (go_at_call 19; refine cP.mono ?_; rintro e w5 ⟨g, xo, oc, xc, rfl, p1, p2, p3, p4⟩; have cS := CP.out w5 g xo xc p1 p3 (Same0.new p4)) | (go_at_call 13; refine cS.mono ?_; rintro e w6 ⟨rfl, hk6⟩))
    go_ret
    exact ⟨rfl, FIN.out _ ((hk3.trans' (Same0.new p4)).trans' hk6)⟩
  · have e1 : comE L0 a a 0 = checkE L0 a := by unfold comE; rw [if_pos hz]
    have e2 : comT L0 a a 0 = [] := by unfold comT; rw [if_neg (by rw [e1]; exact hz)]
    have cU2 : Calls Try.prog 11 #[.pointer (some ⟨b, 0, none⟩), .slice ao a.length ac, .slice ao a.length ac] w2 fun e w' => ∃ to' tc', e = .returned (.tuple #[.slice to' 0 tc', .int .i64 (checkE L0 a)]) ∧ Same0 w2 w' := by
      refine cU.mono ?_
      rintro e w' ⟨v, rfl, hr, hk⟩
      rw [show ((0 : Nat) : Int) = 0 from rfl, e2] at hr
      rw [show ((0 : Nat) : Int) = 0 from rfl, e1]
      obtain ⟨to', tc', rfl, hi, _, _⟩ := hr.ints
      exact ⟨to', tc', rfl, hk⟩
    have hz' : (checkE L0 a == 0) = false := by simpa using hz
    clear cU e1 e2
    go_upto_region 6 with (first | (go_at_call 11; refine cU2.mono ?_; rintro e w3 ⟨to', tc', rfl, hk3⟩))
    obtain ⟨⟨f1, f2⟩, cR⟩ := CR.out w3 hk3
    clear CR cU2
    generalize checkE L0 a = E at *
    go_wp2_with (first | (go_at_call 20; refine cR.mono ?_; rintro e w' ⟨rfl, rfl⟩))
    go_ret
    exact ⟨by simp, FIN.out _ hk3⟩
end Go.Proofs.Ythhcnllabhfejaa
