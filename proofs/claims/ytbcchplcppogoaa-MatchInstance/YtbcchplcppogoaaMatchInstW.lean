/- The walk of the statement MatchInstance. -/
import Derived.Test.YtbcchplcppogoaaMatchAwake
import Derived.Test.YtbcchplcppogoaaMatchBound
import Derived.Test.YtbcchplcppogoaaOpenCase5
import Derived.Test.YtbcchplcppogoaaLeads
namespace Go.Proofs.Ytbcchplcppogoaa
set_option maxRecDepth 100000
set_option linter.unusedVariables false
open Go.RowKit
attribute [local go_sem ↓] Go.wp_at_zero Go.wp_at_succ
theorem applyA_bad {L : List Sym} {p : List Int} {bs : List Bd} (h : applyE L p bs ≠ 0) : applyA L p bs = [] := by rw [applyA, if_neg h]
theorem apply_inv {L : List Sym} {p : List Int} {bs : List Bd} (h : applyE L p bs = 0) : checkE L p = 0 ∧ ∃ σ, tabF L bs noT = .ok σ ∧ ¬ 2000 < (appT σ p).length ∧ applyA L p bs = appT σ p := by
  by_cases hz : checkE L p = 0
  · refine ⟨hz, ?_⟩
    cases ht : tabF L bs noT with
    | error x => rw [(apply_err hz ht).1] at h; exact absurd h (tab_err_ne ht)
    | ok σ =>
      by_cases hl : 2000 < (appT σ p).length
      · rw [(apply_long hz ht hl).1] at h; cases h
      · exact ⟨σ, rfl, hl, (apply_ok hz ht hl).2⟩
  · rw [(apply_check hz).1] at h; exact absurd h hz
set_option maxHeartbeats 8000000 in
theorem inst_walk (v : Value) (w : World) {lo : Option Addr} {ll lc : Nat} {ls : List Sym} {po : Option Addr} {pc : Nat} {p : List Int} {so : Option Addr} {tc : Nat} {t : List Int} {at' : Int} {bo : Option Addr} {bc : Nat} {bs : List Bd} (hc : Case5Is w v lo ll lc ls po pc p so tc t at' bo bc bs) :
    Calls Try.prog 8 #[v] w fun e w' => e = .returned (.bool true) ∧ Below w.heap.size w w' := by
  obtain ⟨rfl, hsy, hsl, hp, ht, hb⟩ := hc
  obtain ⟨wb, hwb⟩ : ∃ wb, wb = w.alloc (.cells #[.slice lo ll lc, .slice po p.length pc, .slice so t.length tc, .int .i64 at', .slice bo bs.length bc] 28) := ⟨_, rfl⟩
  have kb : Same0 w wb := by rw [hwb]; exact (Kept.refl _ w).alloc _
  have hbox : wb.heap[w.heap.size]? = some (.cells #[.slice lo ll lc, .slice po p.length pc, .slice so t.length tc, .int .i64 at', .slice bo bs.length bc] 28 (0, 0)) := by rw [hwb]; exact heap_alloc_new w _
  have hbl : bs.length ≤ maxLen := by have := hb.size; unfold maxLen; omega
  have hbe : ∀ x ∈ bs, x.2.length ≤ maxLen := fun x hx => maxLen_of (hb.each x hx)
  go_enter Try.func8, Try.ntmps8
  go_wp2_with fail
  rw [← hwb]
  generalize hcb : w.heap.size = cb at *
  clear hwb
  refine (awake5_any _).mono ?_
  rintro e w1 ⟨rfl, k1⟩
  obtain ⟨d0, _, _, _, _⟩ := case_cells hbox k1 (fun f => f)
  go_wp2_with fail
  refine (made_any lo ll lc ls w1 (hsy.same (kb.trans' k1)) hsl).mono ?_
  rintro e w2 ⟨b, rv, rfl, hsg, hrl, k2⟩
  obtain ⟨L0, hL0⟩ : ∃ L0, L0 = madeL ls := ⟨_, rfl⟩
  rw [← hL0] at hsg hrl
  clear hL0 d0
  have K2 := k1.trans' k2
  have KW := kb.trans' K2
  obtain ⟨ro, rc, rfl⟩ := row_shape hrl.1
  obtain ⟨_, d1, _, _, d4⟩ := case_cells hbox K2 (fun f => f)
  go_wp2_with fail
  refine (apply_any (cap := pc) (lcap := bc) hsg (hp.at'.same KW) (maxLen_of hp.size) (hb.at'.same KW) hbl hbe).mono ?_
  rintro e w3 ⟨tv, rfl, hr3, k3⟩
  have K3 := K2.trans' k3
  have KW3 := kb.trans' K3
  have FIN : Hid (∀ w', Same0 w3 w' → Below w.heap.size w w') := fun w' hk => (KW3.trans' hk).below
  obtain ⟨to3, tc3, rfl, hi3, hc3, -⟩ := hr3.ints
  clear d1 d4
  by_cases hE : applyE L0 p bs = 0
  · obtain ⟨hz, σ, hT, hlen, hA⟩ := apply_inv hE
    rw [hE, hA]
    rw [hA] at hi3 hc3
    obtain ⟨mE, mS⟩ := inst_match hz hT hlen
    have hXl : (appT σ p).length ≤ maxLen := by unfold maxLen; omega
    have CELLS : Hid (∀ w', Same0 w3 w' → w'.cell? ⟨cb, 1, none⟩ = some (.slice po p.length pc) ∧ w'.cell? ⟨cb, 4, none⟩ = some (.slice bo bs.length bc) ∧ IntsAt w' po p ∧ BindsAt w' bo bs) := fun w' hk => by
      obtain ⟨_, e1, _, _, e4⟩ := case_cells hbox (K3.trans' hk) (fun f => f)
      exact ⟨e1, e4, hp.at'.same (KW3.trans' hk), hb.at'.same (KW3.trans' hk)⟩
    obtain ⟨d1, -, -, -⟩ := CELLS.out w3 (Kept.refl _ _)
    have cm := match_any (pcap := pc) (cap := tc3) (hsg.same k3) k3.size (hp.at'.same KW3) (maxLen_of hp.size) hi3 hXl hc3 0
    rw [mE] at cm
    have hps := hp.size
    have HBL : Hid (bs.length ≤ maxLen) := hbl
    have MS : Hid ((∀ v ∈ varsL p, boundL bs v ≠ none) → ∃ τ, matchS L0 p (appT σ p) 0 = some τ ∧ (blN τ 100).length = (varsL p).length ∧ ∀ b ∈ blN τ 100, boundL bs b.1 = some b.2 ∧ b.2.length ≤ 2000) := mS
    obtain ⟨MB, hMB⟩ : ∃ MB, MB = matchB L0 p (appT σ p) 0 := ⟨_, rfl⟩
    obtain ⟨SM, hSM⟩ : ∃ SM, SM = (matchS L0 p (appT σ p) 0).isSome := ⟨_, rfl⟩
    rw [← hMB, ← hSM] at cm
    have HMB : Hid (MB = matchB L0 p (appT σ p) 0 ∧ SM = (matchS L0 p (appT σ p) 0).isSome) := ⟨hMB, hSM⟩
    generalize appT σ p = X at *
    clear hsg hrl hsy K2 k1 k2 kb hbox KW hp ht hb hr3 hi3 hc3 mS hz hT hlen hA hE hbl hbe KW3 K3 k3 hMB hSM mE
    go_upto_region 9 with (first | (go_at_call 14; refine cm.mono ?_; rintro e w4 ⟨bv, l, rfl, hB, k4⟩))
    obtain ⟨blo, blc, rfl, hBA, -⟩ := hB.at'
    obtain ⟨e1, -, e3, -⟩ := CELLS.out w4 k4
    have cv := rvars_any (cap := pc) e3 hps
    have hml : MB.length ≤ 100 := by
      rw [HMB.out.1]; unfold matchB; split
      · exact blN_len _ _
      · simp
    clear cm d1 hB e3
    go_upto_region 10 with (first | (go_at_call 24; refine cv.mono ?_; rintro e w5 ⟨vv, rfl, hr5, k5⟩))
    obtain ⟨vo, vc, rfl, hi5, -, -⟩ := hr5.ints
    have K5 := k4.trans' k5
    have hBA5 := hBA.same k5
    have hvl : (varsL p).length ≤ maxLen := Nat.le_trans (by simpa [varsL] using vs_len [] p) (maxLen_of hps)
    unfold maxLen at hvl
    obtain ⟨V, hV⟩ : ∃ V, V = varsL p := ⟨_, rfl⟩
    rw [← hV] at hi5 hvl MS ⊢
    clear cv e1 hr5 hV hBA
    go_wp2
    go_loopw [12] (fun iv wr => ∃ i : Nat, i ≤ V.length ∧ iv = .int .i64 (i : Int) ∧ Hid (∀ j (h : j < V.length), j < i → boundL bs V[j] ≠ none) ∧ Same0 w5 wr) (fun iv _ => V.length - (intOf iv).toNat)
    case atStart => exact ⟨0, Nat.zero_le _, rfl, fun j _ hj => by omega, Kept.refl _ _⟩
    case round =>
      obtain ⟨i, hi, rfl, hall, hs⟩ := hrel
      have KK := K5.trans' hs
      by_cases hlt : i < V.length
      · obtain ⟨vb, voff, rfl, hvb, hvc⟩ := (hi5.same hs).get hlt
        obtain ⟨-, e4, -, eb⟩ := CELLS.out wr KK
        have kd : Same0 wr wr.drew := (Kept.refl _ _).drew
        have cb' := bound_any (lcap := bc) (eb.same kd) HBL.out V[i]
        have d1 : wr.drew.cell? ⟨cb, 4, none⟩ = some (.slice bo bs.length bc) := e4
        have d2 : wr.drew.cell? ⟨vb, voff + i, none⟩ = some (.int .i64 V[i]) := hvc
        have i1 : (0 : Int) ≤ (i : Int) := by omega
        have i2 : (i : Int) < (V.length : Int) := by omega
        have HN : Hid (boundL bs V[i] ≠ none → ∀ j (h : j < V.length), j < i + 1 → boundL bs V[j] ≠ none) := fun q j hj hji => by
          by_cases e : j = i
          · subst e; exact q
          · exact hall.out j hj (by omega)
        clear hvc e4 eb
        cases hbd : boundL bs V[i] with
        | none =>
          have cc : Calls Try.prog 25 #[.slice bo bs.length bc, .int .i64 V[i]] wr.drew fun e w' => e = .returned (.tuple #[.slice none 0 0, .bool false]) ∧ w' = wr.drew := cb'.mono (fun e w' ⟨_, q2, q3⟩ => ⟨q2 hbd, q3⟩)
          clear cb' hbd HN hall
          go_wp2_with fail
          go_cut [13, 14] from 57 to 72 (fun x13 x14 w6 => x13 = .slice none 0 0 ∧ x14 = .bool false ∧ w6 = wr.drew)
          case first =>
            go_region_with (first | (go_at_call 25; refine cc.mono ?_; rintro e w6 ⟨rfl, rfl⟩))
            all_goals
              go_wp2_with fail
              go_meet
              case rel => exact ⟨rfl, rfl, rfl⟩
          case rest =>
            obtain ⟨rfl, rfl, rfl⟩ := hcut
            go_wp2
            go_ret
            exact ⟨rfl, FIN.out _ (KK.trans' kd)⟩
        | some u =>
          have HN' : Hid (∀ j (h : j < V.length), j < i + 1 → boundL bs V[j] ≠ none) := HN.out (by rw [hbd]; simp)
          have cc : Calls Try.prog 25 #[.slice bo bs.length bc, .int .i64 V[i]] wr.drew fun e w' => ∃ ao cap, e = .returned (.tuple #[.slice ao u.length cap, .bool true]) ∧ w' = wr.drew := cb'.mono (fun e w' ⟨q1, _, q3⟩ => by obtain ⟨ao, cap, q4, _⟩ := q1 u hbd; exact ⟨ao, cap, q4, q3⟩)
          clear cb' hbd HN hall
          go_wp2_with fail
          go_cut [13, 14] from 57 to 72 (fun x13 x14 w6 => (∃ ao cap, x13 = .slice ao u.length cap) ∧ x14 = .bool true ∧ w6 = wr.drew)
          case first =>
            go_region_with (first | (go_at_call 25; refine cc.mono ?_; rintro e w6 ⟨ao, cap, rfl, rfl⟩))
            all_goals
              go_wp2_with fail
              go_meet
              case rel => exact ⟨⟨ao, cap, rfl⟩, rfl, rfl⟩
          case rest =>
            obtain ⟨⟨ao, cap, rfl⟩, rfl, rfl⟩ := hcut
            go_wp2
            exact ⟨⟨i + 1, by omega, by go_num, HN', hs.drew⟩, by simp [intOf]; omega⟩
      · have hnone : ∀ v ∈ V, boundL bs v ≠ none := fun v hv => by
          obtain ⟨j, hj, rfl⟩ := List.getElem_of_mem hv
          exact hall.out j hj (by omega)
        obtain ⟨τ, hS, hcnt, hbnd⟩ := MS.out hnone
        have hMB : MB = blN τ 100 := by rw [HMB.out.1, matchB, hS]
        have hSM : SM = true := by rw [HMB.out.2, hS]; rfl
        have hlen : MB.length = V.length := by rw [hMB, hcnt]
        have HBD : Hid (∀ b ∈ MB, boundL bs b.1 = some b.2 ∧ b.2.length ≤ 2000) := by rw [hMB]; exact hbnd
        have hBA6 := hBA5.same hs
        subst hSM
        rw [hlen] at hml ⊢
        have hlenI : (V.length : Int) = (V.length : Int) := rfl
        obtain ⟨w6, hw6⟩ : ∃ w6 : World, w6 = wr := ⟨_, rfl⟩
        rw [← hw6] at KK hBA6 ⊢
        have HLN : Hid (MB.length = V.length) := hlen
        clear hnone MS hS hcnt hbnd hMB HMB hall hw6 hs hlen hBA5 hi5 hlenI
        go_wp2
        go_loopw [15] (fun iv wr => ∃ i : Nat, i ≤ V.length ∧ iv = .int .i64 (i : Int) ∧ Same0 w6 wr) (fun iv _ => V.length - (intOf iv).toNat)
        case atStart => exact ⟨0, Nat.zero_le _, rfl, Kept.refl _ _⟩
        case round =>
          obtain ⟨i, hi, rfl, hs⟩ := hrel
          have KK2 := KK.trans' hs
          by_cases hlt : i < V.length
          · have hlt' : i < MB.length := by rw [HLN.out]; exact hlt
            obtain ⟨hb1, hb2⟩ := HBD.out MB[i] (List.getElem_mem hlt')
            obtain ⟨lb, loff, xo, xc, rfl, hlb, a0, a1, a2, -, -⟩ := (hBA6.same hs).get hlt'
            obtain ⟨-, e4, -, eb⟩ := CELLS.out wr KK2
            have kd : Same0 wr wr.drew := (Kept.refl _ _).drew
            have cc : Calls Try.prog 25 #[.slice bo bs.length bc, .int .i64 MB[i].1] wr.drew fun e w' => ∃ ao cap, e = .returned (.tuple #[.slice ao MB[i].2.length cap, .bool true]) ∧ IntsAt wr ao MB[i].2 ∧ w' = wr.drew := (bound_any (lcap := bc) (eb.same kd) HBL.out MB[i].1).mono (fun e w' ⟨q1, _, q3⟩ => by obtain ⟨ao, cap, q4, q5, _⟩ := q1 _ hb1; exact ⟨ao, cap, q4, q5, q3⟩)
            have d1 : wr.drew.cell? ⟨cb, 4, none⟩ = some (.slice bo bs.length bc) := e4
            have d2 : wr.drew.cell? ⟨lb, loff + i * 2, none⟩ = some (.int .i64 MB[i].1) := a0
            have d3 : wr.drew.cell? ⟨lb, loff + i * 2 + 1, none⟩ = some (.slice xo MB[i].2.length xc) := a1
            have i1 : (0 : Int) ≤ (i : Int) := by omega
            have i2 : (i : Int) < (V.length : Int) := by omega
            have CS : Hid (∀ ao cap, IntsAt wr ao MB[i].2 → Calls Try.prog 20 #[.slice ao MB[i].2.length cap, .slice xo MB[i].2.length xc] wr.drew fun e w' => e = .returned (.bool true) ∧ Same0 wr.drew w') := fun ao cap q => by
              refine (same_any (acap := cap) (bcap := xc) (q.same kd) (a2.same kd) (by unfold maxLen; omega)).mono ?_
              rintro e w' ⟨rfl, q⟩
              exact ⟨by simp [sameB], q⟩
            have a2' : Hid (IntsAt wr xo MB[i].2) := a2
            clear a0 a1 e4 eb hb1 a2
            obtain ⟨z, hz⟩ : ∃ z, z = MB[i].1 := ⟨_, rfl⟩
            obtain ⟨u, hu⟩ : ∃ u, u = MB[i].2 := ⟨_, rfl⟩
            rw [← hz, ← hu] at cc
            rw [← hz] at d2
            rw [← hu] at d3 CS hb2
            clear hz hu a2'
            go_wp2_with fail
            go_cut [16, 17] from 90 to 106 (fun x16 x17 w7 => (∃ ao cap, x16 = .slice ao u.length cap ∧ IntsAt wr ao u) ∧ x17 = .bool true ∧ w7 = wr.drew)
            case first =>
              go_region_with (first | (go_at_call 25; refine cc.mono ?_; rintro e w7 ⟨ao, cap, rfl, q7, rfl⟩))
              all_goals
                go_wp2_with fail
                go_meet
                case rel => exact ⟨⟨ao, cap, rfl, q7⟩, rfl, rfl⟩
            case rest =>
              obtain ⟨⟨ao, cap, rfl, q7⟩, rfl, rfl⟩ := hcut
              have cs := CS.out ao cap q7
              clear CS cc q7
              go_wp2_with (first | (go_at_call 20; refine cs.mono ?_; rintro e w8 ⟨rfl, k8⟩))
              exact ⟨⟨i + 1, by omega, by go_num, Same0.trans' hs.drew k8⟩, by simp [intOf]; omega⟩
          · go_wp2
            go_ret
            exact ⟨rfl, FIN.out _ KK2⟩
  · have hE' : (applyE L0 p bs == 0) = false := by simpa using hE
    have hl0 : (applyA L0 p bs).length = 0 := by rw [applyA_bad hE]; rfl
    rw [hl0]
    clear hr3 hi3 hc3
    go_wp2
    go_ret
    exact ⟨rfl, FIN.out _ (Kept.refl _ _)⟩
end Go.Proofs.Ytbcchplcppogoaa
