/- The walk of TermBack. -/
import Derived.Test.YtgoifkbdiicmkabTermPath
import Derived.Test.YtgoifkbdiicmkabLeads
namespace Go.Proofs.Ytgoifkbdiicmkab
set_option linter.unusedVariables false
open Go.RowKit
attribute [local go_sem ↓] Go.wp_at_zero Go.wp_at_succ
theorem checkE_of {L : List Sym} {t : List Int} (h1 : t.length ≤ 2000) (h2 : badE L t = 0) (h3 : IsT L t) : checkE L t = 0 := checkE_zero.2 ⟨h1, h2, h3⟩
theorem place_of {L : List Sym} {t : List Int} {p : Nat} (h : checkE L t = 0) (hp : p < t.length) : placeE L t (p : Int) = 0 := by
  unfold placeE
  rw [if_neg (by omega), if_neg (by omega)]
theorem sub_check {L : List Sym} {t : List Int} {p : Nat} (h : checkE L t = 0) (hp : p < t.length) : checkE L (subN L t p) = 0 := by
  obtain ⟨h1, h2, h3⟩ := checkE_zero.1 h
  refine checkE_of ?_ ?_ (sub_need h3 hp)
  · have := endN_le h3 hp; rw [sub_length h3 hp]; omega
  · rw [badE_zero] at h2 ⊢
    exact fun x hx => h2 x (List.mem_of_mem_take (List.mem_of_mem_drop hx))
theorem put_check {L : List Sym} {t u : List Int} {p : Nat} (h : checkE L t = 0) (hp : p < t.length) (hu : checkE L u = 0) (hl : ¬ 2000 < (putN L t p u).length) : checkE L (putN L t p u) = 0 := by
  obtain ⟨h1, h2, h3⟩ := checkE_zero.1 h
  obtain ⟨u1, u2, u3⟩ := checkE_zero.1 hu
  refine checkE_of (by omega) ?_ (put_need h3 hp u3)
  rw [badE_zero] at h2 u2 ⊢
  intro x hx
  simp only [putN, List.mem_append] at hx
  rcases hx with (hx | hx) | hx
  · exact h2 x (List.mem_of_mem_take hx)
  · exact u2 x hx
  · exact h2 x (List.mem_of_mem_drop hx)
theorem put_back {L : List Sym} {t : List Int} {p : Nat} (h : checkE L t = 0) (hp : p < t.length) : putE L t p (subN L t p) = 0 ∧ putA L t p (subN L t p) = t := by
  obtain ⟨h1, h2, h3⟩ := checkE_zero.1 h
  have e0 : putN L t p (subN L t p) = t := put_sub h3 hp
  have e1 : putE L t p (subN L t p) = 0 := by
    unfold putE
    rw [place_of h hp, sub_check h hp]
    simp only [ne_eq, not_true, if_false, Int.toNat_natCast, e0]
    rw [if_neg (by omega)]
  exact ⟨e1, by rw [putA, if_pos e1]; simpa using e0⟩
theorem lead_back {L : List Sym} {t : List Int} {p : Nat} (h : checkE L t = 0) (hp : p < t.length) : leadA L t (firsts (way L t p)) = (p : Int) ∧ leadE L t (firsts (way L t p)) = 0 := by
  obtain ⟨h1, h2, h3⟩ := checkE_zero.1 h
  have e := leads_path h3 hp
  have e2 : (pathN L t p).map (fun (x : Nat) => (x : Int)) = firsts (way L t p) := by simp [pathN, firsts, ofN, List.map_reverse]
  rw [e2] at e
  constructor
  · simp [leadA, h, e]
  · simp [leadE, h, e]
theorem bput_long {L : List Sym} {t u : List Int} {p : Nat} (h : placeE L t p = 0) (hu : checkE L u = 0) (hl : 2000 < (putN L t p u).length) : putE L t p u = 20 ∧ putA L t p u = [] := by
  have e : putE L t p u = 20 := by simp [putE, h, hu, hl]
  exact ⟨e, by rw [putA, e]; rfl⟩
theorem bput_good {L : List Sym} {t u : List Int} {p : Nat} (h : placeE L t p = 0) (hu : checkE L u = 0) (hl : ¬ 2000 < (putN L t p u).length) : putE L t p u = 0 ∧ putA L t p u = putN L t p u := by
  have e : putE L t p u = 0 := by simp [putE, h, hu, hl]
  exact ⟨e, by rw [putA, e]; rfl⟩
/-- What is known of a Case behind Made. -/
structure CaseAt (w wi : World) (cb n b : Nat) (rv : Value) (L : List Sym) (so : Option Addr) (tc : Nat) (t : List Int) (at' : Int) (uo : Option Addr) (uc : Nat) (u : List Int) (lv pv : Value) : Prop where
  box : wi.heap[cb]? = some (.cells #[lv, .slice so t.length tc, .int .i64 at', .slice uo u.length uc, pv] 26 (0, 0))
  t' : Arg wi so t tc
  u' : Arg wi uo u uc
  sg : Sg n wi b L
  rl : Rl n wi rv L
  k : Same0 w wi
section
variable {w wi : World} {cb n b : Nat} {rv : Value} {L : List Sym} {so : Option Addr} {tc : Nat} {t : List Int} {at' : Int} {uo : Option Addr} {uc : Nat} {u : List Int} {lv pv : Value}
theorem CaseAt.same (h : CaseAt w wi cb n b rv L so tc t at' uo uc u lv pv) {wj : World} (k : Same0 wi wj) : CaseAt w wj cb n b rv L so tc t at' uo uc u lv pv :=
  ⟨k.at h.box (fun f => f), h.t'.same k, h.u'.same k, h.sg.same k, h.rl.same k, h.k.trans' k⟩
theorem CaseAt.cells (h : CaseAt w wi cb n b rv L so tc t at' uo uc u lv pv) : wi.cell? ⟨cb, 1, none⟩ = some (.slice so t.length tc) ∧ wi.cell? ⟨cb, 2, none⟩ = some (.int .i64 at') ∧ wi.cell? ⟨cb, 3, none⟩ = some (.slice uo u.length uc) :=
  ⟨cellAt h.box 1, cellAt h.box 2, cellAt h.box 3⟩
end
theorem same_true {w : World} {ao bo : Option Addr} {acap bcap : Nat} {xs : List Int} (hx : IntsAt w ao xs) (hy : IntsAt w bo xs) (hm : xs.length ≤ 2000) :
    Calls Try.prog 12 #[.slice ao xs.length acap, .slice bo xs.length bcap] w fun e w' => e = .returned (.bool true) ∧ Same0 w w' := by
  have := same_any (acap := acap) (bcap := bcap) hx hy (by unfold maxLen; omega)
  simpa [sameB] using this
set_option maxRecDepth 8000 in
set_option maxHeartbeats 8000000 in
theorem back2_walk (v : Value) (w : World) {lo : Option Addr} {ll lc : Nat} {ls : List Sym} {so : Option Addr} {tc : Nat} {t : List Int} {at' : Int} {uo : Option Addr} {uc : Nat} {u : List Int} {po : Option Addr} {pc : Nat} {path : List Int} (hc : CaseIs w v lo ll lc ls so tc t at' uo uc u po pc path) :
    Calls Try.prog 3 #[v] w fun e w' => e = .returned (.bool true) ∧ Below w.heap.size w w' := by
  obtain ⟨rfl, hsy, hsl, ht, hu, hp⟩ := hc
  obtain ⟨wb, hwb⟩ : ∃ wb, wb = w.alloc (.cells #[.slice lo ll lc, .slice so t.length tc, .int .i64 at', .slice uo u.length uc, .slice po path.length pc] 26) := ⟨_, rfl⟩
  have kb : Same0 w wb := by rw [hwb]; exact (Kept.refl _ w).alloc _
  have hbox : wb.heap[w.heap.size]? = some (.cells #[.slice lo ll lc, .slice so t.length tc, .int .i64 at', .slice uo u.length uc, .slice po path.length pc] 26 (0, 0)) := by rw [hwb]; exact heap_alloc_new w _
  go_enter Try.func3, Try.ntmps3
  go_wp2_with fail
  rw [← hwb]
  generalize hcb : w.heap.size = cb at *
  clear hwb
  refine (awake2_any _).mono ?_
  rintro e w1 ⟨rfl, k1⟩
  obtain ⟨d0, _, _, _, _⟩ := case_cells hbox k1 (fun f => f)
  go_wp2_with fail
  refine (made_any lo ll lc ls w1 (hsy.same (kb.trans' k1)) hsl).mono ?_
  rintro e w2 ⟨b, rv, rfl, hsg, hrl, k2⟩
  obtain ⟨L0, hL0⟩ : ∃ L0, L0 = madeL ls := ⟨_, rfl⟩
  rw [← hL0] at hsg hrl
  clear hL0
  have K2 := k1.trans' k2
  have CA : CaseAt w w2 cb w2.heap.size b rv L0 so tc t at' uo uc u (.slice lo ll lc) (.slice po path.length pc) := ⟨K2.at hbox (fun f => f), ht.same (kb.trans' K2), hu.same (kb.trans' K2), hsg, hrl, kb.trans' K2⟩
  clear d0 hbox kb k1 k2 K2 hsg hrl hsy hsl ht hu hp hcb
  generalize w2.heap.size = n at CA
  have mT := maxLen_of CA.t'.size
  have mU := maxLen_of CA.u'.size
  have cT := CA.t'.cap'
  obtain ⟨d1, d2, d3⟩ := CA.cells
  have cpl := places_any (cap := tc) CA.rl CA.t'.at' mT at'
  have ccu := rcheck_any (cap := uc) CA.rl CA.u'.at' mU
  by_cases hz : placeE L0 t at' = 0
  · rw [hz] at cpl
    by_cases hzu : checkE L0 u = 0
    · rw [hzu] at ccu
      obtain ⟨p, hpe, hpl, h0, h1, h2⟩ := place_zero hz
      obtain ⟨u1, _, u2⟩ := checkE_zero.1 hzu
      subst hpe
      have cS := sub_any (cap := tc) CA.sg CA.t'.at' mT cT (p : Int)
      have eS : subA L0 t p = subN L0 t p := by rw [subA, if_pos hz]; rfl
      rw [hz, eS] at cS
      obtain ⟨pb1, pb2⟩ := put_back h0 hpl
      have HSL : Hid ((subN L0 t p).length = endN L0 t p - p ∧ p < endN L0 t p ∧ endN L0 t p ≤ t.length) := ⟨sub_length h2 hpl, endN_le h2 hpl⟩
      have bsl : (subN L0 t p).length ≤ 2000 := by have := HSL.out; omega
      go_upto_region 8 with (first
        | (go_at_call 8; refine cpl.mono ?_; rintro e w3 ⟨rfl, rfl⟩)
        | (go_at_call 9; refine ccu.mono ?_; rintro e w3 ⟨rfl, rfl⟩)
        | (go_at_call 10; refine cS.mono ?_; rintro e w4 ⟨vs, rfl, rs, k4⟩))
      clear cpl ccu cS eS d1 d2 d3
      have CA4 := CA.same k4
      obtain ⟨d1, d2, d3⟩ := CA4.cells
      obtain ⟨sao, scap, rfl, is4, _, _⟩ := rs.ints
      have cP := put_any (cap := tc) (ucap := scap) CA4.sg CA4.t'.at' mT cT is4 (by unfold maxLen; omega) (p : Int)
      rw [pb1, pb2] at cP
      clear CA k4 rs
      go_wp2_with fail
      refine cP.mono ?_
      rintro e w5 ⟨vt, rfl, rt, k5⟩
      have CA5 := CA4.same k5
      clear d1 d2 d3 cP CA4 pb1 pb2
      obtain ⟨d1, d2, d3⟩ := CA5.cells
      obtain ⟨tao, tcap, rfl, it5, _, _⟩ := rt.ints
      have cQ := same_true (acap := tcap) (bcap := tc) it5 CA5.t'.at' h1
      clear k5 rt is4
      go_wp2_with fail
      refine cQ.mono ?_
      rintro e w6 ⟨rfl, k6⟩
      have CA6 := CA5.same k6
      clear d1 d2 d3 cQ CA5 it5 k6
      obtain ⟨d1, d2, d3⟩ := CA6.cells
      have cR := tpath_any (cap := tc) CA6.sg CA6.t'.at' mT cT (p : Int)
      have eR : pathA L0 t p = firsts (way L0 t p) := by rw [pathA, if_pos hz]; rfl
      rw [hz, eR] at cR
      have bfl : (firsts (way L0 t p)).length ≤ 2000 := by have wl := way_length L0 t p (by omega); rw [firsts_length]; omega
      obtain ⟨lb1, lb2⟩ := lead_back h0 hpl
      go_wp2_with fail
      refine cR.mono ?_
      rintro e w7 ⟨vp, rfl, rp, k7⟩
      have CA7 := CA6.same k7
      clear d1 d2 d3 cR CA6 k7 eR
      obtain ⟨d1, d2, d3⟩ := CA7.cells
      obtain ⟨pao, pcap, rfl, ip7, _, _⟩ := rp.ints
      have cL := place_any (cap := tc) (pcap := pcap) CA7.sg CA7.t'.at' mT ip7 (by unfold maxLen; omega)
      rw [lb1, lb2] at cL
      clear rp lb1 lb2
      go_wp2_with fail
      refine cL.mono ?_
      rintro e w8 ⟨rfl, k8⟩
      have CA8 := CA7.same k8
      have ip8 := ip7.same k8
      clear d1 d2 d3 cL CA7 ip7 k8
      obtain ⟨d1, d2, d3⟩ := CA8.cells
      have cU := put_any (cap := tc) (ucap := uc) CA8.sg CA8.t'.at' mT cT CA8.u'.at' mU (p : Int)
      by_cases hlong : 2000 < (putN L0 t p u).length
      · obtain ⟨q1, q2⟩ := bput_long hz hzu hlong
        rw [q1, q2] at cU
        have hll := put_length h2 hpl u
        have hsl := HSL.out
        have m1 : (2000 : Int) < (t.length : Int) - ((subN L0 t p).length : Int) + (u.length : Int) := by omega
        have m2 : ((subN L0 t p).length : Int) ≤ (t.length : Int) := by omega
        clear hll hsl q1 q2 hlong
        go_wp2_with fail
        refine cU.mono ?_
        rintro e w9 ⟨vr, rfl, rr, k9⟩
        obtain ⟨rao, rcap, rfl, _, _, _⟩ := rr.ints
        have CA9 := CA8.same k9
        clear d1 d2 d3 cU rr
        obtain ⟨d1, d2, d3⟩ := CA9.cells
        go_wp2
        go_ret
        exact ⟨by simp, CA9.k.below⟩
      · obtain ⟨q1, q2⟩ := bput_good hz hzu hlong
        rw [q1, q2] at cU
        have hll := put_length h2 hpl u
        have hsl := HSL.out
        have m1 : ((putN L0 t p u).length : Int) = (t.length : Int) - ((subN L0 t p).length : Int) + (u.length : Int) := by omega
        have M1 : Hid (((putN L0 t p u).length : Int) = (t.length : Int) - ((subN L0 t p).length : Int) + (u.length : Int)) := m1
        have bpl : (putN L0 t p u).length ≤ 2000 := by omega
        have hpl2 : p < (putN L0 t p u).length := by
          have := isT_pos u2
          simp [putN]; omega
        have ck := put_check h0 hpl hzu hlong
        have pl2 := place_of ck hpl2
        have es : subA L0 (putN L0 t p u) p = u := by rw [subA, if_pos pl2]; exact sub_put hpl u2
        have ew : pathA L0 (putN L0 t p u) p = firsts (way L0 t p) := by rw [pathA, if_pos pl2]; simp only [Int.toNat_natCast]; rw [way_put hpl]
        clear hll hsl q1 q2 hlong m1
        go_wp2_with fail
        refine cU.mono ?_
        rintro e w9 ⟨vr, rfl, rr, k9⟩
        obtain ⟨rao, rcap, rfl, ir9, rc9, _⟩ := rr.ints
        have CA9 := CA8.same k9
        have ip9 := ip8.same k9
        clear d1 d2 d3 cU rr ip8 CA8 k9
        obtain ⟨d1, d2, d3⟩ := CA9.cells
        have cS := sub_any (cap := rcap) CA9.sg ir9 (by unfold maxLen; omega) rc9 (p : Int)
        rw [pl2, es] at cS
        clear es
        go_wp2_with fail
        refine cS.mono ?_
        rintro e w10 ⟨va, rfl, ra, k10⟩
        have CA10 := CA9.same k10
        have ip10 := ip9.same k10
        have ir10 := ir9.same k10
        obtain ⟨aao, acap, rfl, ia10, _, _⟩ := ra.ints
        clear d1 d2 d3 cS ra ip9 CA9 k10 ir9
        obtain ⟨d1, d2, d3⟩ := CA10.cells
        have cR := tpath_any (cap := rcap) CA10.sg ir10 (by unfold maxLen; omega) rc9 (p : Int)
        rw [pl2, ew] at cR
        clear ew pl2
        go_wp2_with fail
        refine cR.mono ?_
        rintro e w11 ⟨vh, rfl, rh, k11⟩
        have CA11 := CA10.same k11
        have ip11 := ip10.same k11
        have ia11 := ia10.same k11
        obtain ⟨hao, hcap, rfl, ih11, _, _⟩ := rh.ints
        clear d1 d2 d3 cR rh ip10 CA10 k11 ir10 ia10
        obtain ⟨d1, d2, d3⟩ := CA11.cells
        have cV := same_true (acap := acap) (bcap := uc) ia11 CA11.u'.at' u1
        go_wp2_with fail
        refine cV.mono ?_
        rintro e w12 ⟨rfl, k12⟩
        have CA12 := CA11.same k12
        have ip12 := ip11.same k12
        have ih12 := ih11.same k12
        clear d1 d2 d3 cV ip11 CA11 k12 ia11 ih11
        obtain ⟨d1, d2, d3⟩ := CA12.cells
        have cW := same_true (acap := hcap) (bcap := pcap) ih12 ip12 bfl
        go_wp2_with fail
        refine cW.mono ?_
        rintro e w13 ⟨rfl, k13⟩
        have CA13 := CA12.same k13
        clear d1 d2 d3 cW CA12 k13 ip12 ih12
        obtain ⟨d1, d2, d3⟩ := CA13.cells
        have m2 : ((subN L0 t p).length : Int) ≤ (t.length : Int) := by have := HSL.out; omega
        go_wp2
        go_ret
        refine ⟨?_, CA13.k.below⟩
        have hM := M1.out
        have e : (((putN L0 t p u).length : Int) == (t.length : Int) - ((subN L0 t p).length : Int) + (u.length : Int)) = true := by rw [beq_iff_eq]; exact hM
        show Ending.returned (Value.bool (((putN L0 t p u).length : Int) == (t.length : Int) - ((subN L0 t p).length : Int) + (u.length : Int))) = _
        rw [e]
    · have hzu' : (checkE L0 u == 0) = false := by simpa using hzu
      go_wp2_with (first
        | (go_at_call 8; refine cpl.mono ?_; rintro e w3 ⟨rfl, rfl⟩)
        | (go_at_call 9; refine ccu.mono ?_; rintro e w3 ⟨rfl, rfl⟩))
      go_ret
      exact ⟨rfl, CA.k.below⟩
  · have hz' : (placeE L0 t at' == 0) = false := by simpa using hz
    go_wp2_with (first
      | (go_at_call 8; refine cpl.mono ?_; rintro e w3 ⟨rfl, rfl⟩))
    go_ret
    exact ⟨rfl, CA.k.below⟩
end Go.Proofs.Ytgoifkbdiicmkab
