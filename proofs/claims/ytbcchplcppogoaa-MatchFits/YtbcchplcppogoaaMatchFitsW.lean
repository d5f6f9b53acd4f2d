/- The walk of the statement MatchFits. -/
import Derived.Test.YtbcchplcppogoaaMatchAwake
import Derived.Test.YtbcchplcppogoaaMatchRef
import Derived.Test.YtbcchplcppogoaaMatchLent
import Derived.Test.YtbcchplcppogoaaMatchMarkedW
import Derived.Test.YtbcchplcppogoaaOpenCase5
import Derived.Test.YtbcchplcppogoaaLeads
namespace Go.Proofs.Ytbcchplcppogoaa
set_option maxRecDepth 100000
set_option linter.unusedVariables false
open Go.RowKit
attribute [local go_sem ↓] Go.wp_at_zero Go.wp_at_succ
theorem matchB_ok {L : List Sym} {p t : List Int} {a : Int} : (matchB L p t a).length ≤ 100 ∧ ∀ b ∈ matchB L p t a, b.2 ≠ [] ∧ b.2.length ≤ 2000 := by
  cases hS : matchS L p t a with
  | none => simp [matchB, hS]
  | some σ =>
    have hB : matchB L p t a = blN σ 100 := by rw [matchB, hS]
    rw [hB]
    refine ⟨blN_len _ _, fun b hb => ?_⟩
    obtain ⟨v, _, rfl, hne⟩ := blN_mem hb
    refine ⟨hne, ?_⟩
    have hE : matchE L p t a = 0 := Classical.byContradiction fun q => by rw [(match_bad q).1] at hS; cases hS
    have hz : checkE L p = 0 := by
      unfold matchE at hE
      by_cases hz : checkE L p = 0
      · exact hz
      · simp [hz] at hE
    have hq : placeE L t a = 0 := by simpa [matchE, hz] using hE
    obtain ⟨q, rfl, hql, h0, hl2, hT⟩ := place_zero hq
    have hm : mw L p (subN L t q) noT = some σ := by rw [matchS, if_pos hE] at hS; exact hS
    have := mw_good (even_term (checkE_zero.1 hz).2.2 (sub_need hT hql)) (by
      have := (checkE_zero.1 h0).2.1
      rw [badE_zero] at this ⊢
      exact fun x hx => this x (List.mem_of_mem_take (List.mem_of_mem_drop hx))) (by rw [sub_length hT hql]; have := endN_le hT hql; omega) hm (fun v q => by simp [noT] at q) v hne
    exact (checkE_zero.1 this).1
theorem FB.ge {base : Nat} {w : World} {v : Value} {l : List (Int × Value)} {cur : List Bd} (h : BOwn base w v l cur) {k : Nat} (hk : FB v (l.map Prod.snd) k) : base ≤ k := by
  rcases fb_of.2 hk with e | ⟨p, hp, e⟩
  · exact (h.row.lt k e).1
  · obtain ⟨i, hi, rfl⟩ := List.getElem_of_mem hp
    exact ((h.each i hi (by rw [← h.len]; exact hi)).2.1.lt k e).1
theorem matchB_out {L : List Sym} {p t : List Int} {q : Nat} (h : matchE L p t q = 0) : matchB L p t q = outOf (mw L p (subN L t q) noT) ∧ matchS L p t q = mw L p (subN L t q) noT := by
  have e : matchS L p t q = mw L p (subN L t q) noT := by rw [matchS, if_pos h]; rfl
  refine ⟨?_, e⟩
  rw [matchB, e]; rfl
set_option maxHeartbeats 16000000 in
theorem fits_walk (v : Value) (w : World) {lo : Option Addr} {ll lc : Nat} {ls : List Sym} {po : Option Addr} {pc : Nat} {p : List Int} {so : Option Addr} {tc : Nat} {t : List Int} {at' : Int} {bo : Option Addr} {bc : Nat} {bs : List Bd} (hc : Case5Is w v lo ll lc ls po pc p so tc t at' bo bc bs) :
    Calls Try.prog 4 #[v] w fun e w' => e = .returned (.bool true) ∧ Below w.heap.size w w' := by
  obtain ⟨rfl, hsy, hsl, hp, ht, hb⟩ := hc
  obtain ⟨wb, hwb⟩ : ∃ wb, wb = w.alloc (.cells #[.slice lo ll lc, .slice po p.length pc, .slice so t.length tc, .int .i64 at', .slice bo bs.length bc] 28) := ⟨_, rfl⟩
  have kb : Same0 w wb := by rw [hwb]; exact (Kept.refl _ w).alloc _
  have hbox : wb.heap[w.heap.size]? = some (.cells #[.slice lo ll lc, .slice po p.length pc, .slice so t.length tc, .int .i64 at', .slice bo bs.length bc] 28 (0, 0)) := by rw [hwb]; exact heap_alloc_new w _
  go_enter Try.func4, Try.ntmps4
  go_wp2_with fail
  rw [← hwb]
  generalize hcb : w.heap.size = cb at *
  clear hwb
  refine (awake5_any _).mono ?_
  rintro e w1 ⟨rfl, k1⟩
  obtain ⟨d0, _, _, _, _⟩ := case_cells hbox k1 (fun f => f)
  go_wp2_with fail
  refine (made_any lo ll lc ls w1 (hsy.same (kb.trans' k1)) hsl).mono ?_
  rintro e w2 ⟨b, rv, rfl, hsg, hrl, k2⟩
  obtain ⟨L0, hL0⟩ : ∃ L0, L0 = madeL ls := ⟨_, rfl⟩
  rw [← hL0] at hsg hrl
  clear hL0 d0
  have K2 := k1.trans' k2
  have KW := kb.trans' K2
  obtain ⟨ro, rc, rfl⟩ := row_shape hrl.1
  have CELLS : Hid (∀ w', Same0 w2 w' → w'.cell? ⟨cb, 1, none⟩ = some (.slice po p.length pc) ∧ w'.cell? ⟨cb, 2, none⟩ = some (.slice so t.length tc) ∧ w'.cell? ⟨cb, 3, none⟩ = some (.int .i64 at')) := fun w' hk => by
    obtain ⟨_, d1, d2, d3, _⟩ := case_cells hbox (K2.trans' hk) (fun f => f)
    exact ⟨d1, d2, d3⟩
  have FIN : Hid (∀ w', Same0 w2 w' → Below w.heap.size w w') := fun w' hk => (KW.trans' hk).below
  have IP : Hid (∀ w', Same0 w2 w' → IntsAt w' po p) := fun w' hk => hp.at'.same (KW.trans' hk)
  have IT : Hid (∀ w', Same0 w2 w' → IntsAt w' so t) := fun w' hk => ht.at'.same (KW.trans' hk)
  have hps := hp.size
  have hts := ht.size
  have hpn := hp.nil
  have htn := ht.nil
  have htcap := ht.cap'
  have LP : Hid (∀ w', Same0 w2 w' → Calls Try.prog 13 #[.slice po p.length pc] w' fun e w'' => ∃ g, e = .returned (.slice (some ⟨g, 0, none⟩) p.length (p.length + 1)) ∧ w'.heap.size ≤ g ∧ g < w''.heap.size ∧ Row w'.heap.size w'' (.slice (some ⟨g, 0, none⟩) (p.length + 1) (p.length + 1)) (p ++ [77]) ∧ Same0 w' w'') := fun w' hk => lent5_any (IP.out w' hk) hpn hps
  have LT : Hid (∀ w', Same0 w2 w' → Calls Try.prog 13 #[.slice so t.length tc] w' fun e w'' => ∃ g, e = .returned (.slice (some ⟨g, 0, none⟩) t.length (t.length + 1)) ∧ w'.heap.size ≤ g ∧ g < w''.heap.size ∧ Row w'.heap.size w'' (.slice (some ⟨g, 0, none⟩) (t.length + 1) (t.length + 1)) (t ++ [77]) ∧ Same0 w' w'') := fun w' hk => lent5_any (IT.out w' hk) htn hts
  have SGS : Hid (∀ w', Same0 w2 w' → Sg w2.heap.size w' b L0) := fun w' hk => hsg.same hk
  have R1 := rcheck_any (cap := pc) hrl (IP.out w2 (Kept.refl _ _)) (maxLen_of hps)
  have R2 := rcheck_any (cap := tc) hrl (IT.out w2 (Kept.refl _ _)) (maxLen_of hts)
  have RM' : Hid (∀ q : Nat, checkE L0 p = 0 → checkE L0 t = 0 → q < t.length → Calls Try.prog 12 #[.slice ro L0.length rc, .slice po p.length pc, .slice so t.length tc, .int .i64 (q : Int)] w2 fun e w' => ∃ lo cap, e = .returned (.tuple #[.slice lo (outOf (mw L0 p (subN L0 t q) noT)).length cap, .bool (mw L0 p (subN L0 t q) noT).isSome]) ∧ BindsAt w' lo (outOf (mw L0 p (subN L0 t q) noT)) ∧ Same0 w2 w') := fun q h1 h2 h3 => rmatch_any (pc := pc) (tc := tc) hrl (IP.out w2 (Kept.refl _ _)) (IT.out w2 (Kept.refl _ _)) h1 h2 htcap h3
  have kb2 : Same0 w2 w2 := Kept.refl _ _
  obtain ⟨MB, hMB⟩ : ∃ MB, MB = matchB L0 p t at' := ⟨_, rfl⟩
  obtain ⟨SM, hSM⟩ : ∃ SM, SM = (matchS L0 p t at').isSome := ⟨_, rfl⟩
  obtain ⟨ME, hME⟩ : ∃ ME, ME = matchE L0 p t at' := ⟨_, rfl⟩
  have HOK : Hid (MB.length ≤ 100 ∧ ∀ b ∈ MB, b.2 ≠ [] ∧ b.2.length ≤ 2000) := by rw [hMB]; exact matchB_ok
  have HMB : Hid (MB = matchB L0 p t at') := hMB
  have HSM : Hid (SM = (matchS L0 p t at').isSome) := hSM
  have HME : Hid (ME = matchE L0 p t at') := hME
  obtain ⟨d1, d2, d3⟩ := CELLS.out w2 (Kept.refl _ _)
  clear hsy K2 k1 kb hbox KW hp ht hb hrl hsg
  by_cases hz : checkE L0 p = 0
  · rw [hz] at R1
    by_cases hq : checkE L0 t = 0
    · rw [hq] at R2
      by_cases ha : at' < 0 ∨ (t.length : Int) ≤ at'
      · have hE : matchE L0 p t at' = 24 := by simp [matchE, hz, placeE, hq, ha]
        obtain ⟨n1, n2⟩ := match_bad (L := L0) (p := p) (t := t) (a := at') (by rw [hE]; decide)
        rw [hE] at hME
        rw [n1] at hSM
        rw [n2] at hMB
        have hS' : SM = false := by rw [hSM]; rfl
        have haB : (decide (at' < 0) || decide ((t.length : Int) ≤ at')) = true := by simpa using ha
        have hW : BindsAt w2 none MB := by rw [hMB]; exact .inl rfl
        have hML : MB.length = 0 := by rw [hMB]; rfl
        have hML' : Hid (MB.length = 0) := hML
        clear RM' hz hq hE n1 n2 hSM hML hML' haB
        subst hME
        subst hS'
        subst hMB
        have k3 : Same0 w2 w2 := Kept.refl _ _
        obtain ⟨w3, hw3⟩ : ∃ w3, w3 = w2 := ⟨_, rfl⟩
        go_upto_region 6 with (first | (go_at_call 11; refine R1.mono ?_; rintro e w' ⟨rfl, rfl⟩))
        go_upto_region 8 with (first | (go_at_call 11; refine R2.mono ?_; rintro e w' ⟨rfl, rfl⟩))
        by_cases ha1 : at' < 0
        · go_upto_region 14 with (fail)
          go_upto_region 15 with (first | (go_at_call 13; refine (LP.out _ k3).mono ?_; rintro e w4 ⟨g1, rfl, hg1, hg1', hrow1, k4⟩))
          obtain ⟨e1, -, -⟩ := CELLS.out w4 (k3.trans' k4)
          obtain ⟨-, e2, -⟩ := CELLS.out w4 (k3.trans' k4)
          go_upto_region 16 with (first | (go_at_call 13; refine (LT.out w4 (k3.trans' k4)).mono ?_; rintro e w5 ⟨g2, rfl, hg2, hg2', hrow2, k5⟩))
          have K5 := (k3.trans' k4).trans' k5
          have hrow1' := Kept.row k5 hrow1 (fun _ _ f => f)
          obtain ⟨-, -, e3⟩ := CELLS.out w5 K5
          have cm1 := match_any (pcap := p.length + 1) (cap := t.length + 1) (SGS.out w5 K5) K5.size (row_prefix hrow1') (maxLen_of hps) (row_prefix hrow2) (maxLen_of hts) (by omega) at'
          rw [← HME.out, ← HSM.out, ← HMB.out] at cm1
          go_upto_region 17 with (first | (go_at_call 14; refine cm1.mono ?_; rintro e w6 ⟨av, la, rfl, hA, k6⟩))
          have K6 := K5.trans' k6
          obtain ⟨-, -, e3⟩ := CELLS.out w6 K6
          have cm2 := match_any (pcap := p.length + 1) (cap := t.length + 1) (SGS.out w6 K6) K6.size ((row_prefix hrow1').same k6) (maxLen_of hps) ((row_prefix hrow2).same k6) (maxLen_of hts) (by omega) at'
          rw [← HME.out, ← HSM.out, ← HMB.out] at cm2
          clear cm1
          go_upto_region 18 with (first | (go_at_call 14; refine cm2.mono ?_; rintro e w7 ⟨bv, lb, rfl, hBb, k7⟩))
          clear cm2
          obtain ⟨alo, alc, hav, hAA, -⟩ := (hA.same k7).at'
          have cs1 := sameBinds_any (acap := alc) (bcap := 0) hAA ((hW.same (k4.trans' k5)).same (k6.trans' k7)) (by have := HOK.out.1; omega) (fun x hx => Nat.le_trans (HOK.out.2 x hx).2 (by omega))
          subst hav
          obtain ⟨blo, blc, hbv, -, -⟩ := hBb.at'
          subst hbv
          go_upto_region 19 with (first | (go_at_call 15; refine cs1.mono ?_; rintro e w8 ⟨rfl, k8⟩))
          clear cs1 hAA
          have hA8 := (hA.same k7).same k8
          have cmk := marked_any hA8 (Nat.le_trans k6.size (Nat.le_trans k7.size k8.size)) HOK.out.1 HOK.out.2
          go_upto_region 20 with (first | (go_at_call 16; refine cmk.mono ?_; rintro e w9 ⟨rfl, k9⟩))
          clear cmk
          have K59 : Same0 w5 w9 := Same0.after ((k6.trans' k7).trans' k8) k9 (fun i hi q => by have := FB.ge hA8 q; omega)
          have hB9 := (hBb.same k8).kept k9 (fun k hk hk2 q => by
            have h6 : k < w6.heap.size := FB.lt hA q
            omega)
          obtain ⟨blo', blc', hbv', hBA9, -⟩ := hB9.at'
          cases hbv'
          have cs2 := sameBinds_any (acap := blc) (bcap := 0) hBA9 ((hW.same (k4.trans' k5)).same K59) (by have := HOK.out.1; omega) (fun x hx => Nat.le_trans (HOK.out.2 x hx).2 (by omega))
          go_upto_region 21 with (first | (go_at_call 15; refine cs2.mono ?_; rintro e w10 ⟨rfl, k10⟩))
          clear cs2 hBA9 hB9 hBb hA hA8
          have K510 := K59.trans' k10
          have K10 := K5.trans' K510
          obtain ⟨e1, -, -⟩ := CELLS.out w10 K10
          have ck1 := kept5_any (lcap := pc) (Kept.row K510 hrow1' (fun _ _ f => f)) (IP.out w10 K10) hps
          go_upto_region 22 with (first | (go_at_call 17; refine ck1.mono ?_; rintro e w11 ⟨rfl, k11⟩))
          have K511 := K510.trans' k11
          have K11 := K5.trans' K511
          obtain ⟨-, e2, -⟩ := CELLS.out w11 K11
          have ck2 := kept5_any (lcap := tc) (Kept.row K511 hrow2 (fun _ _ f => f)) (IT.out w11 K11) hts
          clear ck1
          go_wp2_with (first | (go_at_call 17; refine ck2.mono ?_; rintro e w12 ⟨rfl, k12⟩))
          go_ret
          exact ⟨by simp, FIN.out _ (K11.trans' k12)⟩
        · have ha2 : (t.length : Int) ≤ at' := by omega
          go_upto_region 14 with (fail)
          go_upto_region 15 with (first | (go_at_call 13; refine (LP.out _ k3).mono ?_; rintro e w4 ⟨g1, rfl, hg1, hg1', hrow1, k4⟩))
          obtain ⟨e1, -, -⟩ := CELLS.out w4 (k3.trans' k4)
          obtain ⟨-, e2, -⟩ := CELLS.out w4 (k3.trans' k4)
          go_upto_region 16 with (first | (go_at_call 13; refine (LT.out w4 (k3.trans' k4)).mono ?_; rintro e w5 ⟨g2, rfl, hg2, hg2', hrow2, k5⟩))
          have K5 := (k3.trans' k4).trans' k5
          have hrow1' := Kept.row k5 hrow1 (fun _ _ f => f)
          obtain ⟨-, -, e3⟩ := CELLS.out w5 K5
          have cm1 := match_any (pcap := p.length + 1) (cap := t.length + 1) (SGS.out w5 K5) K5.size (row_prefix hrow1') (maxLen_of hps) (row_prefix hrow2) (maxLen_of hts) (by omega) at'
          rw [← HME.out, ← HSM.out, ← HMB.out] at cm1
          go_upto_region 17 with (first | (go_at_call 14; refine cm1.mono ?_; rintro e w6 ⟨av, la, rfl, hA, k6⟩))
          have K6 := K5.trans' k6
          obtain ⟨-, -, e3⟩ := CELLS.out w6 K6
          have cm2 := match_any (pcap := p.length + 1) (cap := t.length + 1) (SGS.out w6 K6) K6.size ((row_prefix hrow1').same k6) (maxLen_of hps) ((row_prefix hrow2).same k6) (maxLen_of hts) (by omega) at'
          rw [← HME.out, ← HSM.out, ← HMB.out] at cm2
          clear cm1
          go_upto_region 18 with (first | (go_at_call 14; refine cm2.mono ?_; rintro e w7 ⟨bv, lb, rfl, hBb, k7⟩))
          clear cm2
          obtain ⟨alo, alc, hav, hAA, -⟩ := (hA.same k7).at'
          have cs1 := sameBinds_any (acap := alc) (bcap := 0) hAA ((hW.same (k4.trans' k5)).same (k6.trans' k7)) (by have := HOK.out.1; omega) (fun x hx => Nat.le_trans (HOK.out.2 x hx).2 (by omega))
          subst hav
          obtain ⟨blo, blc, hbv, -, -⟩ := hBb.at'
          subst hbv
          go_upto_region 19 with (first | (go_at_call 15; refine cs1.mono ?_; rintro e w8 ⟨rfl, k8⟩))
          clear cs1 hAA
          have hA8 := (hA.same k7).same k8
          have cmk := marked_any hA8 (Nat.le_trans k6.size (Nat.le_trans k7.size k8.size)) HOK.out.1 HOK.out.2
          go_upto_region 20 with (first | (go_at_call 16; refine cmk.mono ?_; rintro e w9 ⟨rfl, k9⟩))
          clear cmk
          have K59 : Same0 w5 w9 := Same0.after ((k6.trans' k7).trans' k8) k9 (fun i hi q => by have := FB.ge hA8 q; omega)
          have hB9 := (hBb.same k8).kept k9 (fun k hk hk2 q => by
            have h6 : k < w6.heap.size := FB.lt hA q
            omega)
          obtain ⟨blo', blc', hbv', hBA9, -⟩ := hB9.at'
          cases hbv'
          have cs2 := sameBinds_any (acap := blc) (bcap := 0) hBA9 ((hW.same (k4.trans' k5)).same K59) (by have := HOK.out.1; omega) (fun x hx => Nat.le_trans (HOK.out.2 x hx).2 (by omega))
          go_upto_region 21 with (first | (go_at_call 15; refine cs2.mono ?_; rintro e w10 ⟨rfl, k10⟩))
          clear cs2 hBA9 hB9 hBb hA hA8
          have K510 := K59.trans' k10
          have K10 := K5.trans' K510
          obtain ⟨e1, -, -⟩ := CELLS.out w10 K10
          have ck1 := kept5_any (lcap := pc) (Kept.row K510 hrow1' (fun _ _ f => f)) (IP.out w10 K10) hps
          go_upto_region 22 with (first | (go_at_call 17; refine ck1.mono ?_; rintro e w11 ⟨rfl, k11⟩))
          have K511 := K510.trans' k11
          have K11 := K5.trans' K511
          obtain ⟨-, e2, -⟩ := CELLS.out w11 K11
          have ck2 := kept5_any (lcap := tc) (Kept.row K511 hrow2 (fun _ _ f => f)) (IT.out w11 K11) hts
          clear ck1
          go_wp2_with (first | (go_at_call 17; refine ck2.mono ?_; rintro e w12 ⟨rfl, k12⟩))
          go_ret
          exact ⟨by simp, FIN.out _ (K11.trans' k12)⟩
      · obtain ⟨q, rfl⟩ : ∃ q : Nat, at' = (q : Int) := ⟨at'.toNat, by omega⟩
        have hql : q < t.length := by omega
        have hE : matchE L0 p t q = 0 := by
          have : ¬ ((q : Int) < 0 ∨ (t.length : Int) ≤ (q : Int)) := ha
          simp only [matchE, hz, placeE, hq, if_neg this]
          simp
        obtain ⟨o1, o2⟩ := matchB_out hE
        have cr := RM'.out q hz hq hql
        rw [← o2, ← hSM, o2, ← o1, ← hMB] at cr
        rw [hE] at hME
        clear RM' hz hq hE o1 o2 hSM hMB
        subst hME
        have i1 : ¬ (q : Int) < 0 := by omega
        have i2 : ¬ (t.length : Int) ≤ (q : Int) := by omega
        go_upto_region 6 with (first | (go_at_call 11; refine R1.mono ?_; rintro e w' ⟨rfl, rfl⟩))
        go_upto_region 8 with (first | (go_at_call 11; refine R2.mono ?_; rintro e w' ⟨rfl, rfl⟩))
        go_upto_region 14 with (first | (go_at_call 12; refine cr.mono ?_; rintro e w3 ⟨wlo, wcap, rfl, hW, k3⟩))
        obtain ⟨d1', -, -⟩ := CELLS.out w3 k3
        go_upto_region 15 with (first | (go_at_call 13; refine (LP.out w3 k3).mono ?_; rintro e w4 ⟨g1, rfl, hg1, hg1', hrow1, k4⟩))
        obtain ⟨e1, -, -⟩ := CELLS.out w4 (k3.trans' k4)
        obtain ⟨-, e2, -⟩ := CELLS.out w4 (k3.trans' k4)
        go_upto_region 16 with (first | (go_at_call 13; refine (LT.out w4 (k3.trans' k4)).mono ?_; rintro e w5 ⟨g2, rfl, hg2, hg2', hrow2, k5⟩))
        have K5 := (k3.trans' k4).trans' k5
        have hrow1' := Kept.row k5 hrow1 (fun _ _ f => f)
        obtain ⟨-, -, e3⟩ := CELLS.out w5 K5
        have cm1 := match_any (pcap := p.length + 1) (cap := t.length + 1) (SGS.out w5 K5) K5.size (row_prefix hrow1') (maxLen_of hps) (row_prefix hrow2) (maxLen_of hts) (by omega) (q : Int)
        rw [← HME.out, ← HSM.out, ← HMB.out] at cm1
        go_upto_region 17 with (first | (go_at_call 14; refine cm1.mono ?_; rintro e w6 ⟨av, la, rfl, hA, k6⟩))
        have K6 := K5.trans' k6
        obtain ⟨-, -, e3⟩ := CELLS.out w6 K6
        have cm2 := match_any (pcap := p.length + 1) (cap := t.length + 1) (SGS.out w6 K6) K6.size ((row_prefix hrow1').same k6) (maxLen_of hps) ((row_prefix hrow2).same k6) (maxLen_of hts) (by omega) (q : Int)
        rw [← HME.out, ← HSM.out, ← HMB.out] at cm2
        clear cm1
        go_upto_region 18 with (first | (go_at_call 14; refine cm2.mono ?_; rintro e w7 ⟨bv, lb, rfl, hBb, k7⟩))
        clear cm2
        obtain ⟨alo, alc, hav, hAA, -⟩ := (hA.same k7).at'
        have cs1 := sameBinds_any (acap := alc) (bcap := wcap) hAA ((hW.same (k4.trans' k5)).same (k6.trans' k7)) (by have := HOK.out.1; omega) (fun x hx => Nat.le_trans (HOK.out.2 x hx).2 (by omega))
        subst hav
        obtain ⟨blo, blc, hbv, -, -⟩ := hBb.at'
        subst hbv
        go_upto_region 19 with (first | (go_at_call 15; refine cs1.mono ?_; rintro e w8 ⟨rfl, k8⟩))
        clear cs1 hAA
        have hA8 := (hA.same k7).same k8
        have cmk := marked_any hA8 (Nat.le_trans k6.size (Nat.le_trans k7.size k8.size)) HOK.out.1 HOK.out.2
        go_upto_region 20 with (first | (go_at_call 16; refine cmk.mono ?_; rintro e w9 ⟨rfl, k9⟩))
        clear cmk
        have K59 : Same0 w5 w9 := Same0.after ((k6.trans' k7).trans' k8) k9 (fun i hi q => by have := FB.ge hA8 q; omega)
        have hB9 := (hBb.same k8).kept k9 (fun k hk hk2 q => by
          have h6 : k < w6.heap.size := FB.lt hA q
          omega)
        obtain ⟨blo', blc', hbv', hBA9, -⟩ := hB9.at'
        cases hbv'
        have cs2 := sameBinds_any (acap := blc) (bcap := wcap) hBA9 ((hW.same (k4.trans' k5)).same K59) (by have := HOK.out.1; omega) (fun x hx => Nat.le_trans (HOK.out.2 x hx).2 (by omega))
        go_upto_region 21 with (first | (go_at_call 15; refine cs2.mono ?_; rintro e w10 ⟨rfl, k10⟩))
        clear cs2 hBA9 hB9 hBb hA hA8
        have K510 := K59.trans' k10
        have K10 := K5.trans' K510
        obtain ⟨e1, -, -⟩ := CELLS.out w10 K10
        have ck1 := kept5_any (lcap := pc) (Kept.row K510 hrow1' (fun _ _ f => f)) (IP.out w10 K10) hps
        go_upto_region 22 with (first | (go_at_call 17; refine ck1.mono ?_; rintro e w11 ⟨rfl, k11⟩))
        have K511 := K510.trans' k11
        have K11 := K5.trans' K511
        obtain ⟨-, e2, -⟩ := CELLS.out w11 K11
        have ck2 := kept5_any (lcap := tc) (Kept.row K511 hrow2 (fun _ _ f => f)) (IT.out w11 K11) hts
        clear ck1
        go_wp2_with (first | (go_at_call 17; refine ck2.mono ?_; rintro e w12 ⟨rfl, k12⟩))
        go_ret
        exact ⟨by simp, FIN.out _ (K11.trans' k12)⟩
    · have hE : matchE L0 p t at' = checkE L0 t := by simp [matchE, hz, placeE, hq]
      obtain ⟨n1, n2⟩ := match_bad (L := L0) (p := p) (t := t) (a := at') (by rw [hE]; exact hq)
      rw [hE] at hME
      rw [n1] at hSM
      rw [n2] at hMB
      have hS' : SM = false := by rw [hSM]; rfl
      have hW : BindsAt w2 none MB := by rw [hMB]; exact .inl rfl
      have hq' : (checkE L0 t == 0) = false := by simpa using hq
      have hq2 : (ME == 0) = false := by rw [hME]; exact hq'
      rw [← hME] at R2
      clear RM' hz hq hE n1 n2 hSM hME hq'
      subst hS'
      subst hMB
      have k3 : Same0 w2 w2 := Kept.refl _ _
      obtain ⟨w3, hw3⟩ : ∃ w3, w3 = w2 := ⟨_, rfl⟩
      go_upto_region 6 with (first | (go_at_call 11; refine R1.mono ?_; rintro e w' ⟨rfl, rfl⟩))
      go_upto_region 8 with (first | (go_at_call 11; refine R2.mono ?_; rintro e w' ⟨rfl, rfl⟩))
      go_upto_region 14 with (fail)
      go_upto_region 15 with (first | (go_at_call 13; refine (LP.out _ k3).mono ?_; rintro e w4 ⟨g1, rfl, hg1, hg1', hrow1, k4⟩))
      obtain ⟨e1, -, -⟩ := CELLS.out w4 (k3.trans' k4)
      obtain ⟨-, e2, -⟩ := CELLS.out w4 (k3.trans' k4)
      go_upto_region 16 with (first | (go_at_call 13; refine (LT.out w4 (k3.trans' k4)).mono ?_; rintro e w5 ⟨g2, rfl, hg2, hg2', hrow2, k5⟩))
      have K5 := (k3.trans' k4).trans' k5
      have hrow1' := Kept.row k5 hrow1 (fun _ _ f => f)
      obtain ⟨-, -, e3⟩ := CELLS.out w5 K5
      have cm1 := match_any (pcap := p.length + 1) (cap := t.length + 1) (SGS.out w5 K5) K5.size (row_prefix hrow1') (maxLen_of hps) (row_prefix hrow2) (maxLen_of hts) (by omega) at'
      rw [← HME.out, ← HSM.out, ← HMB.out] at cm1
      go_upto_region 17 with (first | (go_at_call 14; refine cm1.mono ?_; rintro e w6 ⟨av, la, rfl, hA, k6⟩))
      have K6 := K5.trans' k6
      obtain ⟨-, -, e3⟩ := CELLS.out w6 K6
      have cm2 := match_any (pcap := p.length + 1) (cap := t.length + 1) (SGS.out w6 K6) K6.size ((row_prefix hrow1').same k6) (maxLen_of hps) ((row_prefix hrow2).same k6) (maxLen_of hts) (by omega) at'
      rw [← HME.out, ← HSM.out, ← HMB.out] at cm2
      clear cm1
      go_upto_region 18 with (first | (go_at_call 14; refine cm2.mono ?_; rintro e w7 ⟨bv, lb, rfl, hBb, k7⟩))
      clear cm2
      obtain ⟨alo, alc, hav, hAA, -⟩ := (hA.same k7).at'
      have cs1 := sameBinds_any (acap := alc) (bcap := 0) hAA ((hW.same (k4.trans' k5)).same (k6.trans' k7)) (by have := HOK.out.1; omega) (fun x hx => Nat.le_trans (HOK.out.2 x hx).2 (by omega))
      subst hav
      obtain ⟨blo, blc, hbv, -, -⟩ := hBb.at'
      subst hbv
      go_upto_region 19 with (first | (go_at_call 15; refine cs1.mono ?_; rintro e w8 ⟨rfl, k8⟩))
      clear cs1 hAA
      have hA8 := (hA.same k7).same k8
      have cmk := marked_any hA8 (Nat.le_trans k6.size (Nat.le_trans k7.size k8.size)) HOK.out.1 HOK.out.2
      go_upto_region 20 with (first | (go_at_call 16; refine cmk.mono ?_; rintro e w9 ⟨rfl, k9⟩))
      clear cmk
      have K59 : Same0 w5 w9 := Same0.after ((k6.trans' k7).trans' k8) k9 (fun i hi q => by have := FB.ge hA8 q; omega)
      have hB9 := (hBb.same k8).kept k9 (fun k hk hk2 q => by
        have h6 : k < w6.heap.size := FB.lt hA q
        omega)
      obtain ⟨blo', blc', hbv', hBA9, -⟩ := hB9.at'
      cases hbv'
      have cs2 := sameBinds_any (acap := blc) (bcap := 0) hBA9 ((hW.same (k4.trans' k5)).same K59) (by have := HOK.out.1; omega) (fun x hx => Nat.le_trans (HOK.out.2 x hx).2 (by omega))
      go_upto_region 21 with (first | (go_at_call 15; refine cs2.mono ?_; rintro e w10 ⟨rfl, k10⟩))
      clear cs2 hBA9 hB9 hBb hA hA8
      have K510 := K59.trans' k10
      have K10 := K5.trans' K510
      obtain ⟨e1, -, -⟩ := CELLS.out w10 K10
      have ck1 := kept5_any (lcap := pc) (Kept.row K510 hrow1' (fun _ _ f => f)) (IP.out w10 K10) hps
      go_upto_region 22 with (first | (go_at_call 17; refine ck1.mono ?_; rintro e w11 ⟨rfl, k11⟩))
      have K511 := K510.trans' k11
      have K11 := K5.trans' K511
      obtain ⟨-, e2, -⟩ := CELLS.out w11 K11
      have ck2 := kept5_any (lcap := tc) (Kept.row K511 hrow2 (fun _ _ f => f)) (IT.out w11 K11) hts
      clear ck1
      go_wp2_with (first | (go_at_call 17; refine ck2.mono ?_; rintro e w12 ⟨rfl, k12⟩))
      go_ret
      exact ⟨by simp, FIN.out _ (K11.trans' k12)⟩
  · have hE : matchE L0 p t at' = checkE L0 p := by simp [matchE, hz]
    obtain ⟨n1, n2⟩ := match_bad (L := L0) (p := p) (t := t) (a := at') (by rw [hE]; exact hz)
    rw [hE] at hME
    rw [n1] at hSM
    rw [n2] at hMB
    have hS' : SM = false := by rw [hSM]; rfl
    have hW : BindsAt w2 none MB := by rw [hMB]; exact .inl rfl
    have hq' : (checkE L0 p == 0) = false := by simpa using hz
    have hq2 : (ME == 0) = false := by rw [hME]; exact hq'
    rw [← hME] at R1
    clear RM' hz hE n1 n2 hSM hME hq' R2
    subst hS'
    subst hMB
    have k3 : Same0 w2 w2 := Kept.refl _ _
    obtain ⟨w3, hw3⟩ : ∃ w3, w3 = w2 := ⟨_, rfl⟩
    go_upto_region 6 with (first | (go_at_call 11; refine R1.mono ?_; rintro e w' ⟨rfl, rfl⟩))
    go_upto_region 14 with (fail)
    go_upto_region 15 with (first | (go_at_call 13; refine (LP.out _ k3).mono ?_; rintro e w4 ⟨g1, rfl, hg1, hg1', hrow1, k4⟩))
    obtain ⟨e1, -, -⟩ := CELLS.out w4 (k3.trans' k4)
    obtain ⟨-, e2, -⟩ := CELLS.out w4 (k3.trans' k4)
    go_upto_region 16 with (first | (go_at_call 13; refine (LT.out w4 (k3.trans' k4)).mono ?_; rintro e w5 ⟨g2, rfl, hg2, hg2', hrow2, k5⟩))
    have K5 := (k3.trans' k4).trans' k5
    have hrow1' := Kept.row k5 hrow1 (fun _ _ f => f)
    obtain ⟨-, -, e3⟩ := CELLS.out w5 K5
    have cm1 := match_any (pcap := p.length + 1) (cap := t.length + 1) (SGS.out w5 K5) K5.size (row_prefix hrow1') (maxLen_of hps) (row_prefix hrow2) (maxLen_of hts) (by omega) at'
    rw [← HME.out, ← HSM.out, ← HMB.out] at cm1
    go_upto_region 17 with (first | (go_at_call 14; refine cm1.mono ?_; rintro e w6 ⟨av, la, rfl, hA, k6⟩))
    have K6 := K5.trans' k6
    obtain ⟨-, -, e3⟩ := CELLS.out w6 K6
    have cm2 := match_any (pcap := p.length + 1) (cap := t.length + 1) (SGS.out w6 K6) K6.size ((row_prefix hrow1').same k6) (maxLen_of hps) ((row_prefix hrow2).same k6) (maxLen_of hts) (by omega) at'
    rw [← HME.out, ← HSM.out, ← HMB.out] at cm2
    clear cm1
    go_upto_region 18 with (first | (go_at_call 14; refine cm2.mono ?_; rintro e w7 ⟨bv, lb, rfl, hBb, k7⟩))
    clear cm2
    obtain ⟨alo, alc, hav, hAA, -⟩ := (hA.same k7).at'
    have cs1 := sameBinds_any (acap := alc) (bcap := 0) hAA ((hW.same (k4.trans' k5)).same (k6.trans' k7)) (by have := HOK.out.1; omega) (fun x hx => Nat.le_trans (HOK.out.2 x hx).2 (by omega))
    subst hav
    obtain ⟨blo, blc, hbv, -, -⟩ := hBb.at'
    subst hbv
    go_upto_region 19 with (first | (go_at_call 15; refine cs1.mono ?_; rintro e w8 ⟨rfl, k8⟩))
    clear cs1 hAA
    have hA8 := (hA.same k7).same k8
    have cmk := marked_any hA8 (Nat.le_trans k6.size (Nat.le_trans k7.size k8.size)) HOK.out.1 HOK.out.2
    go_upto_region 20 with (first | (go_at_call 16; refine cmk.mono ?_; rintro e w9 ⟨rfl, k9⟩))
    clear cmk
    have K59 : Same0 w5 w9 := Same0.after ((k6.trans' k7).trans' k8) k9 (fun i hi q => by have := FB.ge hA8 q; omega)
    have hB9 := (hBb.same k8).kept k9 (fun k hk hk2 q => by
      have h6 : k < w6.heap.size := FB.lt hA q
      omega)
    obtain ⟨blo', blc', hbv', hBA9, -⟩ := hB9.at'
    cases hbv'
    have cs2 := sameBinds_any (acap := blc) (bcap := 0) hBA9 ((hW.same (k4.trans' k5)).same K59) (by have := HOK.out.1; omega) (fun x hx => Nat.le_trans (HOK.out.2 x hx).2 (by omega))
    go_upto_region 21 with (first | (go_at_call 15; refine cs2.mono ?_; rintro e w10 ⟨rfl, k10⟩))
    clear cs2 hBA9 hB9 hBb hA hA8
    have K510 := K59.trans' k10
    have K10 := K5.trans' K510
    obtain ⟨e1, -, -⟩ := CELLS.out w10 K10
    have ck1 := kept5_any (lcap := pc) (Kept.row K510 hrow1' (fun _ _ f => f)) (IP.out w10 K10) hps
    go_upto_region 22 with (first | (go_at_call 17; refine ck1.mono ?_; rintro e w11 ⟨rfl, k11⟩))
    have K511 := K510.trans' k11
    have K11 := K5.trans' K511
    obtain ⟨-, e2, -⟩ := CELLS.out w11 K11
    have ck2 := kept5_any (lcap := tc) (Kept.row K511 hrow2 (fun _ _ f => f)) (IT.out w11 K11) hts
    clear ck1
    go_wp2_with (first | (go_at_call 17; refine ck2.mono ?_; rintro e w12 ⟨rfl, k12⟩))
    go_ret
    exact ⟨by simp, FIN.out _ (K11.trans' k12)⟩
end Go.Proofs.Ytbcchplcppogoaa
