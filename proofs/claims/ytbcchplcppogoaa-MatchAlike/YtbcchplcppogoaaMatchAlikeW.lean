/- The walks of the document's Alike and of the statement MatchAlike. -/
import Derived.Test.YtbcchplcppogoaaMatchAwake
import Derived.Test.YtbcchplcppogoaaOpenCase5
import Derived.Test.YtbcchplcppogoaaRefPlain
import Derived.Test.YtbcchplcppogoaaLeads
namespace Go.Proofs.Ytbcchplcppogoaa
set_option maxRecDepth 100000
set_option linter.unusedVariables false
open Go.RowKit
attribute [local go_sem ↓] Go.wp_at_zero Go.wp_at_succ
theorem rplain_at {ww : World} {B : Nat} {ao : Option Addr} {cap : Nat} {a : List Int} (hB : ww.heap[B]? = some (.cells #[.slice ao a.length cap] 25 (0, 0))) (ha : IntsAt ww ao a) (hn : ao = none → a.length = 0 ∧ cap = 0) (hm : a.length ≤ 2000) :
    Calls Try.prog 39 #[.slice (some ⟨B, 0, none⟩) 1 1] ww fun e w' => ∃ g c xo xc, e = .returned (.slice (some ⟨g, 0, none⟩) 1 c) ∧ w'.cell? ⟨g, 0, none⟩ = some (.slice xo (pl1 a).length xc) ∧ g < w'.heap.size ∧ IntsAt w' xo (pl1 a) ∧ Same0 ww w' := by
  have hl : Lists ww (some ⟨B, 0, none⟩) [a] := by
    refine .inr ⟨_, _, rfl, lt_of_at hB, fun i hi => ?_⟩
    obtain rfl : i = 0 := by simpa using hi
    exact ⟨ao, cap, cellAt hB 0, ha, hn⟩
  refine (rplain_any (lcap := 1) hl (by simp) (fun t ht => by simp at ht; subst ht; omega)).mono ?_
  rintro e w' ⟨ov, rfl, ⟨cs, hrow, hP⟩, hk⟩
  rw [plains_one] at hrow hP
  obtain ⟨v, h1, h2, _⟩ := hP 0 (by simp)
  obtain ⟨xo, xc, rfl, h3, _, _⟩ := h2.ints
  rcases hrow.2 with ⟨_, h0⟩ | ⟨g, c, cur, rfl, hb, hg, _⟩
  · simp at h0
  · exact ⟨g, c, xo, xc, rfl, (hrow.cellAt 0 (by simp)).trans h1, lt_of_at hg, h3, hk⟩
set_option maxHeartbeats 4000000 in
theorem ralike_any {w : World} {xo yo : Option Addr} {xc yc : Nat} {x y : List Int} (hx : IntsAt w xo x) (hxn : xo = none → x.length = 0 ∧ xc = 0) (hxm : x.length ≤ 2000) (hy : IntsAt w yo y) (hyn : yo = none → y.length = 0 ∧ yc = 0) (hym : y.length ≤ 2000) :
    Calls Try.prog 21 #[.slice xo x.length xc, .slice yo y.length yc] w fun e w' => e = .returned (.bool (sameB (pl1 x) (pl1 y))) ∧ Same0 w w' := by
  have k0 : Same0 w (w.alloc (.cells #[.slice xo x.length xc] 25)) := (Kept.refl _ w).alloc _
  have c1 := rplain_at (heap_alloc_new w (.cells #[.slice xo x.length xc] 25)) (hx.same k0) hxn hxm
  have c2 : Hid (∀ w1, Same0 w w1 → Calls Try.prog 39 #[.slice (some ⟨w1.heap.size, 0, none⟩) 1 1] (w1.alloc (.cells #[.slice yo y.length yc] 25)) fun e w' => ∃ g c xo xc, e = .returned (.slice (some ⟨g, 0, none⟩) 1 c) ∧ w'.cell? ⟨g, 0, none⟩ = some (.slice xo (pl1 y).length xc) ∧ g < w'.heap.size ∧ IntsAt w' xo (pl1 y) ∧ Same0 w1 w') := fun w1 hk => by
    have k1 : Same0 w1 (w1.alloc (.cells #[.slice yo y.length yc] 25)) := (Kept.refl _ w1).alloc _
    refine (rplain_at (heap_alloc_new w1 (.cells #[.slice yo y.length yc] 25)) (hy.same (hk.trans' k1)) hyn hym).mono ?_
    rintro e w' ⟨g, c, a, b, q1, q2, q3, q4, q5⟩
    exact ⟨g, c, a, b, q1, q2, q3, q4, k1.trans' q5⟩
  have hpx : (pl1 x).length ≤ maxLen := by unfold maxLen; simp [pl1]; omega
  clear hx hy hxn hyn
  go_enter Try.func21, Try.ntmps21
  go_upto_region 2 with (first | (go_at_call 39; refine c1.mono ?_; rintro e w1 ⟨g1, gc1, xo1, xc1, rfl, q1, q2, q3, k1⟩))
  have K1 : Same0 w w1 := k0.trans' k1
  have c2' := c2.out w1 K1
  clear c1 c2
  go_upto_region 3 with (first | (go_at_call 39; refine c2'.mono ?_; rintro e w2 ⟨g2, gc2, xo2, xc2, rfl, r1, r2, r3, k2⟩))
  have q1' := (k2.cell (p := ⟨g1, 0, none⟩) q2 (fun f => f)).trans q1
  have kd : Same0 w2 w2.drew := (Kept.refl _ w2).drew
  have d1 : w2.drew.cell? ⟨g1, 0, none⟩ = some (.slice xo1 (pl1 x).length xc1) := q1'
  have d2 : w2.drew.cell? ⟨g2, 0, none⟩ = some (.slice xo2 (pl1 y).length xc2) := r1
  have cS := same_any (acap := xc1) (bcap := xc2) ((q3.same k2).same kd) (r3.same kd) hpx
  have KK : Same0 w w2.drew := (K1.trans' k2).trans' kd
  clear q1 q1' r1 c2' q3 r3
  go_region_with (first | (go_at_call 20; refine cS.mono ?_; rintro e w3 ⟨rfl, k3⟩))
  all_goals
    go_wp2
    go_ret
    exact ⟨rfl, KK.trans' k3⟩
theorem alikeE_of {L : List Sym} {x y : List Int} : alikeE L x y = if checkE L x = 0 then checkE L y else checkE L x := by
  by_cases h : checkE L x = 0 <;> simp [alikeE, h]
theorem alikeB_bad {L : List Sym} {x y : List Int} (h : ¬ alikeE L x y = 0) : alikeB L x y = false := by simp [alikeB, h]
theorem sameB_comm (x y : List Int) : sameB x y = sameB y x := by
  simp only [sameB, eq_comm]
set_option maxHeartbeats 4000000 in
theorem alike_walk (v : Value) (w : World) {lo : Option Addr} {ll lc : Nat} {ls : List Sym} {po : Option Addr} {pc : Nat} {p : List Int} {so : Option Addr} {tc : Nat} {t : List Int} {at' : Int} {bo : Option Addr} {bc : Nat} {bs : List Bd} (hc : Case5Is w v lo ll lc ls po pc p so tc t at' bo bc bs) :
    Calls Try.prog 6 #[v] w fun e w' => e = .returned (.bool true) ∧ Below w.heap.size w w' := by
  obtain ⟨rfl, hsy, hsl, hp, ht, hb⟩ := hc
  obtain ⟨wb, hwb⟩ : ∃ wb, wb = w.alloc (.cells #[.slice lo ll lc, .slice po p.length pc, .slice so t.length tc, .int .i64 at', .slice bo bs.length bc] 28) := ⟨_, rfl⟩
  have kb : Same0 w wb := by rw [hwb]; exact (Kept.refl _ w).alloc _
  have hbox : wb.heap[w.heap.size]? = some (.cells #[.slice lo ll lc, .slice po p.length pc, .slice so t.length tc, .int .i64 at', .slice bo bs.length bc] 28 (0, 0)) := by rw [hwb]; exact heap_alloc_new w _
  go_enter Try.func6, Try.ntmps6
  go_wp2_with fail
  rw [← hwb]
  generalize hcb : w.heap.size = cb at *
  clear hwb
  refine (awake5_any _).mono ?_
  rintro e w1 ⟨rfl, k1⟩
  obtain ⟨d0, _, _, _, _⟩ := case_cells hbox k1 (fun f => f)
  go_wp2_with fail
  refine (made_any lo ll lc ls w1 (hsy.same (kb.trans' k1)) hsl).mono ?_
  rintro e w2 ⟨b, rv, rfl, hsg, hrl, k2⟩
  obtain ⟨L0, hL0⟩ : ∃ L0, L0 = madeL ls := ⟨_, rfl⟩
  rw [← hL0] at hsg hrl
  clear hL0 d0
  have K2 := k1.trans' k2
  have KW := kb.trans' K2
  obtain ⟨ro, rc, rfl⟩ := row_shape hrl.1
  have C1 : Hid (∀ w', Same0 w2 w' → w'.cell? ⟨cb, 1, none⟩ = some (.slice po p.length pc) ∧ w'.cell? ⟨cb, 2, none⟩ = some (.slice so t.length tc)) := fun w' hk => by
    obtain ⟨_, d1, d2, _, _⟩ := case_cells hbox (K2.trans' hk) (fun f => f)
    exact ⟨d1, d2⟩
  have M1 : Hid (∀ w', Same0 w2 w' → Calls Try.prog 22 #[.pointer (some ⟨b, 0, none⟩), .slice po p.length pc, .slice so t.length tc] w' fun e w'' => e = .returned (.tuple #[.bool (alikeB L0 p t), .int .i64 (alikeE L0 p t)]) ∧ Same0 w2 w'') := fun w' hk =>
    (msame_any (xc := pc) (yc := tc) (hsg.same hk) (hp.at'.same (KW.trans' hk)) hp.nil (maxLen_of hp.size) (ht.at'.same (KW.trans' hk)) ht.nil (maxLen_of ht.size)).mono (fun e w'' ⟨q1, q2⟩ => ⟨q1, hk.trans' q2⟩)
  have M2 : Hid (∀ w', Same0 w2 w' → Calls Try.prog 22 #[.pointer (some ⟨b, 0, none⟩), .slice so t.length tc, .slice po p.length pc] w' fun e w'' => e = .returned (.tuple #[.bool (alikeB L0 t p), .int .i64 (alikeE L0 t p)]) ∧ Same0 w2 w'') := fun w' hk =>
    (msame_any (xc := tc) (yc := pc) (hsg.same hk) (ht.at'.same (KW.trans' hk)) ht.nil (maxLen_of ht.size) (hp.at'.same (KW.trans' hk)) hp.nil (maxLen_of hp.size)).mono (fun e w'' ⟨q1, q2⟩ => ⟨q1, hk.trans' q2⟩)
  have R1 := rcheck_any (cap := pc) hrl (hp.at'.same KW) (maxLen_of hp.size)
  have R2 := rcheck_any (cap := tc) hrl (ht.at'.same KW) (maxLen_of ht.size)
  have AL : Hid (checkE L0 p = 0 → checkE L0 t = 0 → Calls Try.prog 21 #[.slice po p.length pc, .slice so t.length tc] w2 fun e w'' => e = .returned (.bool (sameB (pl1 p) (pl1 t))) ∧ Same0 w2 w'') := fun h1 h2 =>
    ralike_any (xc := pc) (yc := tc) (hp.at'.same KW) hp.nil (checkE_zero.1 h1).1 (ht.at'.same KW) ht.nil (checkE_zero.1 h2).1
  have FIN : Hid (∀ w', Same0 w2 w' → Below w.heap.size w w') := fun w' hk => (KW.trans' hk).below
  obtain ⟨f1, f2⟩ := C1.out w2 (Kept.refl _ _)
  clear hsg hrl hsy K2 k1 k2 kb hbox KW hp ht hb
  generalize hA : checkE L0 p = A at *
  generalize hB : checkE L0 t = B at *
  have E1 : alikeE L0 p t = if A = 0 then B else A := by rw [alikeE_of, hA, hB]
  have E2 : alikeE L0 t p = if B = 0 then A else B := by rw [alikeE_of, hA, hB]
  by_cases hA0 : A = 0
  · by_cases hB0 : B = 0
    · have b1 : alikeB L0 p t = sameB (pl1 p) (pl1 t) := by simp [alikeB, E1, hA0, hB0]
      have b2 : alikeB L0 t p = sameB (pl1 p) (pl1 t) := by rw [sameB_comm]; simp [alikeB, E2, hA0, hB0]
      rw [E1, b1, if_pos hA0] at M1
      rw [E2, b2, if_pos hB0] at M2
      have al := AL.out hA0 hB0
      clear AL E1 E2 b1 b2 hA hB
      subst hA0 hB0
      generalize sameB (pl1 p) (pl1 t) = S at *
      go_upto_region 6 with (first | (go_at_call 11; refine R1.mono ?_; rintro e w' ⟨rfl, rfl⟩))
      go_upto_region 7 with (first | (go_at_call 11; refine R2.mono ?_; rintro e w' ⟨rfl, rfl⟩))
      go_upto_region 16 with (first | (go_at_call 21; refine al.mono ?_; rintro e w3 ⟨rfl, k3⟩))
      obtain ⟨g1, g2⟩ := C1.out w3 k3
      go_upto_region 17 with (first | (go_at_call 22; refine (M1.out _ k3).mono ?_; rintro e w4 ⟨rfl, k4⟩))
      obtain ⟨g3, g4⟩ := C1.out w4 k4
      go_wp2_with (first | (go_at_call 22; refine (M2.out _ k4).mono ?_; rintro e w5 ⟨rfl, k5⟩))
      go_ret
      exact ⟨by simp, FIN.out _ k5⟩
    · have b1 : alikeB L0 p t = false := alikeB_bad (by rw [E1]; split <;> omega)
      have b2 : alikeB L0 t p = false := alikeB_bad (by rw [E2]; split <;> omega)
      rw [E1, b1, if_pos hA0] at M1
      rw [E2, b2, if_neg hB0] at M2
      have hz : (B == 0) = false := by simpa using hB0
      clear AL E1 E2 b1 b2 hA hB
      subst hA0
      go_upto_region 6 with (first | (go_at_call 11; refine R1.mono ?_; rintro e w' ⟨rfl, rfl⟩))
      go_upto_region 7 with (first | (go_at_call 11; refine R2.mono ?_; rintro e w' ⟨rfl, rfl⟩))
      go_upto_region 17 with (first | (go_at_call 22; refine (M1.out _ (Kept.refl _ _)).mono ?_; rintro e w4 ⟨rfl, k4⟩))
      obtain ⟨g3, g4⟩ := C1.out w4 k4
      go_wp2_with (first | (go_at_call 22; refine (M2.out _ k4).mono ?_; rintro e w5 ⟨rfl, k5⟩))
      go_ret
      exact ⟨by simp, FIN.out _ k5⟩
  · by_cases hB0 : B = 0
    · have b1 : alikeB L0 p t = false := alikeB_bad (by rw [E1]; split <;> omega)
      have b2 : alikeB L0 t p = false := alikeB_bad (by rw [E2]; split <;> omega)
      rw [E1, b1, if_neg hA0] at M1
      rw [E2, b2, if_pos hB0] at M2
      have hz : (A == 0) = false := by simpa using hA0
      clear AL E1 E2 b1 b2 hA hB
      subst hB0
      go_upto_region 6 with (first | (go_at_call 11; refine R1.mono ?_; rintro e w' ⟨rfl, rfl⟩))
      go_upto_region 7 with (first | (go_at_call 11; refine R2.mono ?_; rintro e w' ⟨rfl, rfl⟩))
      go_upto_region 17 with (first | (go_at_call 22; refine (M1.out _ (Kept.refl _ _)).mono ?_; rintro e w4 ⟨rfl, k4⟩))
      obtain ⟨g3, g4⟩ := C1.out w4 k4
      go_wp2_with (first | (go_at_call 22; refine (M2.out _ k4).mono ?_; rintro e w5 ⟨rfl, k5⟩))
      go_ret
      exact ⟨by simp, FIN.out _ k5⟩
    · have b1 : alikeB L0 p t = false := alikeB_bad (by rw [E1]; split <;> omega)
      have b2 : alikeB L0 t p = false := alikeB_bad (by rw [E2]; split <;> omega)
      rw [E1, b1, if_neg hA0] at M1
      rw [E2, b2, if_neg hB0] at M2
      have hz : (A == 0) = false := by simpa using hA0
      clear AL E1 E2 b1 b2 hA hB
      have hz2 : (B == 0) = false := by simpa using hB0
      go_upto_region 6 with (first | (go_at_call 11; refine R1.mono ?_; rintro e w' ⟨rfl, rfl⟩))
      go_upto_region 7 with (first | (go_at_call 11; refine R2.mono ?_; rintro e w' ⟨rfl, rfl⟩))
      go_upto_region 17 with (first | (go_at_call 22; refine (M1.out _ (Kept.refl _ _)).mono ?_; rintro e w4 ⟨rfl, k4⟩))
      obtain ⟨g3, g4⟩ := C1.out w4 k4
      go_wp2_with (first | (go_at_call 22; refine (M2.out _ k4).mono ?_; rintro e w5 ⟨rfl, k5⟩))
      go_ret
      exact ⟨by simp, FIN.out _ k5⟩
end Go.Proofs.Ytbcchplcppogoaa
