/- The walk of the statement MatchBack. -/
import Derived.Test.YtbcchplcppogoaaMatchAwake
import Derived.Test.YtbcchplcppogoaaMatchTruths
import Derived.Test.YtbcchplcppogoaaOpenCase5
import Derived.Test.YtbcchplcppogoaaLeads
namespace Go.Proofs.Ytbcchplcppogoaa
set_option maxRecDepth 100000
set_option linter.unusedVariables false
open Go.RowKit
attribute [local go_sem ↓] Go.wp_at_zero Go.wp_at_succ
theorem matchB_le {L : List Sym} {p t : List Int} {a : Int} : (matchB L p t a).length ≤ 100 := by
  unfold matchB
  split
  · exact blN_len _ _
  · simp
theorem place_split {L : List Sym} {p t : List Int} {a : Int} (h : matchE L p t a = 0) : checkE L p = 0 ∧ placeE L t a = 0 := by
  unfold matchE at h
  by_cases hz : checkE L p = 0
  · simp [hz] at h; exact ⟨hz, h⟩
  · simp [hz] at h
set_option maxHeartbeats 4000000 in
theorem mback_walk (v : Value) (w : World) {lo : Option Addr} {ll lc : Nat} {ls : List Sym} {po : Option Addr} {pc : Nat} {p : List Int} {so : Option Addr} {tc : Nat} {t : List Int} {at' : Int} {bo : Option Addr} {bc : Nat} {bs : List Bd} (hc : Case5Is w v lo ll lc ls po pc p so tc t at' bo bc bs) :
    Calls Try.prog 7 #[v] w fun e w' => e = .returned (.bool true) ∧ Below w.heap.size w w' := by
  obtain ⟨rfl, hsy, hsl, hp, ht, hb⟩ := hc
  obtain ⟨wb, hwb⟩ : ∃ wb, wb = w.alloc (.cells #[.slice lo ll lc, .slice po p.length pc, .slice so t.length tc, .int .i64 at', .slice bo bs.length bc] 28) := ⟨_, rfl⟩
  have kb : Same0 w wb := by rw [hwb]; exact (Kept.refl _ w).alloc _
  have hbox : wb.heap[w.heap.size]? = some (.cells #[.slice lo ll lc, .slice po p.length pc, .slice so t.length tc, .int .i64 at', .slice bo bs.length bc] 28 (0, 0)) := by rw [hwb]; exact heap_alloc_new w _
  go_enter Try.func7, Try.ntmps7
  go_wp2_with fail
  rw [← hwb]
  generalize hcb : w.heap.size = cb at *
  clear hwb
  refine (awake5_any _).mono ?_
  rintro e w1 ⟨rfl, k1⟩
  obtain ⟨d0, _, _, _, _⟩ := case_cells hbox k1 (fun f => f)
  go_wp2_with fail
  refine (made_any lo ll lc ls w1 (hsy.same (kb.trans' k1)) hsl).mono ?_
  rintro e w2 ⟨b, rv, rfl, hsg, hrl, k2⟩
  obtain ⟨L0, hL0⟩ : ∃ L0, L0 = madeL ls := ⟨_, rfl⟩
  rw [← hL0] at hsg hrl
  clear hL0 d0
  have K2 := k1.trans' k2
  have KW := kb.trans' K2
  obtain ⟨ro, rc, rfl⟩ := row_shape hrl.1
  obtain ⟨_, d1, d2, d3, _⟩ := case_cells hbox K2 (fun f => f)
  go_wp2_with fail
  refine (match_any (pcap := pc) (cap := tc) hsg (Nat.le_refl _) (hp.at'.same KW) (maxLen_of hp.size) (ht.at'.same KW) (maxLen_of ht.size) ht.cap' at').mono ?_
  rintro e w3 ⟨bv, l, rfl, hB, k3⟩
  have K3 := K2.trans' k3
  have KW3 := kb.trans' K3
  have FIN : Hid (∀ w', Same0 w3 w' → Below w.heap.size w w') := fun w' hk => (KW3.trans' hk).below
  obtain ⟨blo, blc, rfl, hBA, _⟩ := hB.at'
  clear d1 d2 d3
  by_cases hE : matchE L0 p t at' = 0
  · obtain ⟨hz, hq⟩ := place_split hE
    rw [hE]
    cases hS : matchS L0 p t at' with
    | none =>
      have hlen : (matchB L0 p t at').length = 0 := by rw [matchB, hS]; rfl
      rw [hlen]
      clear hB hBA
      go_wp2
      go_ret
      exact ⟨rfl, FIN.out _ (Kept.refl _ _)⟩
    | some σ =>
      obtain ⟨q, rfl, hql, h0, hl2, hT⟩ := place_zero hq
      obtain ⟨m1, m2, m3⟩ := match_back hz hq hS
      have hBs : matchB L0 p t q = blN σ 100 := by rw [matchB, hS]
      rw [hBs] at hBA ⊢
      have hsgs := hsg.same k3
      have ca := apply_any (cap := pc) (lcap := blc) hsgs (hp.at'.same KW3) (maxLen_of hp.size) hBA (by have := blN_len σ 100; unfold maxLen; omega) (fun x hx => by
        obtain ⟨y, _, rfl, hy⟩ := blN_mem hx
        have := mw_good (even_term (checkE_zero.1 hz).2.2 (sub_need hT hql)) (by
          have := (checkE_zero.1 h0).2.1
          rw [badE_zero] at this ⊢
          exact fun x hx => this x (List.mem_of_mem_take (List.mem_of_mem_drop hx))) (by rw [sub_length hT hql]; have := endN_le hT hql; omega) (by rw [matchS, if_pos hE] at hS; exact hS) (fun v q => by simp [noT] at q) y hy
        have := (checkE_zero.1 this).1
        unfold maxLen; simp only; omega)
      rw [m1, m2] at ca
      have HR : Hid (∀ i (h : i + 1 < (blN σ 100).length), ((blN σ 100)[i]'(Nat.lt_of_succ_lt h)).1 < ((blN σ 100)[i + 1]'h).1) := fun i h => bl_rise h
      have HV : Hid ((blN σ 100).length = (varsL p).length) := m3
      have hbl := blN_len σ 100
      have REST : Hid (∀ w', Same0 w3 w' → w'.cell? ⟨cb, 1, none⟩ = some (.slice po p.length pc) ∧ w'.cell? ⟨cb, 2, none⟩ = some (.slice so t.length tc) ∧ w'.cell? ⟨cb, 3, none⟩ = some (.int .i64 (q : Int)) ∧
          (Calls Try.prog 23 #[.slice ro L0.length rc, .slice so t.length tc, .int .i64 (q : Int)] w' fun e w'' => ∃ v, e = .returned v ∧ Row w'.heap.size w'' v (subN L0 t q) ∧ Same0 w' w'') ∧
          (Calls Try.prog 24 #[.slice po p.length pc] w' fun e w'' => ∃ v, e = .returned v ∧ Row w'.heap.size w'' v (varsL p) ∧ Same0 w' w'')) := fun w' hk => by
        obtain ⟨_, e1, e2, e3, _⟩ := case_cells hbox (K3.trans' hk) (fun f => f)
        exact ⟨e1, e2, e3, rsub_any (cap := tc) ((hrl.same k3).same hk) (ht.at'.same (KW3.trans' hk)) hl2 ht.cap' hT q hql, rvars_any (cap := pc) (hp.at'.same (KW3.trans' hk)) hp.size⟩
      have hsub : Hid ((subN L0 t q).length ≤ maxLen) := by show _ ≤ _; rw [sub_length hT hql]; have := endN_le hT hql; unfold maxLen; omega
      obtain ⟨d1, -, -, -, -⟩ := REST.out w3 (Kept.refl _ _)
      have BA : Hid (BindsAt w3 blo (blN σ 100)) := hBA
      clear hsgs hsg hrl hsy K2 k1 k2 kb hbox KW hp ht hb m1 m2 m3 hB hBA hz hq hE hS hBs h0 hl2 hT hql KW3 K3 k3
      generalize subN L0 t q = SU at *
      generalize hVV : varsL p = VV at *
      generalize hXX : blN σ 100 = X at *
      clear hVV hXX
      go_upto_region 9 with (first | (go_at_call 19; refine ca.mono ?_; rintro e w4 ⟨tv, rfl, hr4, k4⟩))
      obtain ⟨to4, tc4, rfl, hi4, -, -⟩ := hr4.ints
      clear ca d1
      go_wp2
      go_loopw [11] (fun iv wr => ∃ i : Nat, (i = 0 ∨ i + 1 ≤ X.length) ∧ iv = .int .i64 (i : Int) ∧ Same0 w4 wr) (fun iv _ => X.length - (intOf iv).toNat)
      case atStart => exact ⟨0, .inl rfl, rfl, Kept.refl _ _⟩
      case round =>
        obtain ⟨i, hi, rfl, hs⟩ := hrel
        by_cases hlt : i + 1 < X.length
        · have KK := k4.trans' hs
          obtain ⟨ab, aoff, xo, xc, rfl, hab, a0, _, _, _, _⟩ := (BA.out.same KK).get (i := i) (by omega)
          obtain ⟨ab', aoff', yo, yc, e, _, b0, _, _, _, _⟩ := (BA.out.same KK).get (i := i + 1) hlt
          cases e
          have hrise := HR.out i hlt
          have i1 : (0 : Int) ≤ (i : Int) := by omega
          have i2 : (i : Int) < (X.length : Int) := by omega
          have i3 : (i : Int) + 1 < (X.length : Int) := by omega
          have i4 : (0 : Int) ≤ (i : Int) + 1 := by omega
          have d1 : wr.drew.cell? ⟨ab, aoff + i * 2, none⟩ = some (.int .i64 X[i].1) := a0
          have d2 : wr.drew.cell? ⟨ab, aoff + (i + 1) * 2, none⟩ = some (.int .i64 X[i + 1].1) := b0
          have hge : ¬ X[i + 1].1 ≤ X[i].1 := by omega
          have hge' : decide (X[i + 1].1 ≤ X[i].1) = false := by simpa using hrise
          go_wp2
          go_quiet (fail)
          go_wp2
          refine ⟨⟨i + 1, .inr (by omega), by go_num, hs.drewN _⟩, by simp [intOf]; omega⟩
        · have KK := k4.trans' hs
          obtain ⟨e1, e2, e3, cS, _⟩ := REST.out wr KK
          have hi5 := hi4.same hs
          have hn1 : ¬ (i : Int) + 1 < (X.length : Int) := by omega
          have CE : Hid (∀ (w5 : World) (uo : Option Addr) (uc : Nat), Same0 wr w5 → IntsAt w5 uo SU → Calls Try.prog 20 #[.slice to4 SU.length tc4, .slice uo SU.length uc] w5 fun e w' => e = .returned (.bool true) ∧ Same0 w5 w') := fun w5 uo uc hk hu => by
            refine (same_any (acap := tc4) (bcap := uc) (hi5.same hk) hu hsub.out).mono ?_
            rintro e w' ⟨rfl, q⟩
            exact ⟨by simp [sameB], q⟩
          clear hi4 hi5 hr4
          go_wp2_with (first | (go_at_call 23; refine cS.mono ?_; rintro e w5 ⟨uv, rfl, hr5, k5⟩; obtain ⟨uo, uc, rfl, hi6, -, -⟩ := hr5.ints; have ce := CE.out w5 uo uc k5 hi6) | (go_at_call 20; refine ce.mono ?_; rintro e w6 ⟨rfl, k6⟩; have K6 := KK.trans' (k5.trans' k6); obtain ⟨x1, -, -, -, cV⟩ := REST.out w6 K6) | (go_at_call 24; refine cV.mono ?_; rintro e w7 ⟨vv, rfl, hr7, k7⟩; obtain ⟨vo, vc, rfl⟩ := row_shape hr7))
          go_ret
          refine ⟨?_, FIN.out _ (K6.trans' k7)⟩
          rw [HV.out]; simp
  · have hE' : (matchE L0 p t at' == 0) = false := by simpa using hE
    obtain ⟨n1, n2⟩ := match_bad hE
    have hlen : (matchB L0 p t at').length = 0 := by rw [n2]; rfl
    rw [hlen, n1]
    clear hB hBA n1 n2
    go_wp2
    go_ret
    exact ⟨rfl, FIN.out _ (Kept.refl _ _)⟩
end Go.Proofs.Ytbcchplcppogoaa
