import Derived.Test.YtppdopccipngpaaGreatGRule14
import Derived.Test.YtppdopccipngpaaGreatGRule17
import Derived.Test.YtppdopccipngpaaGreatGRule18
/- The document's answer for rules: the walk of its Check. -/
namespace Go.Proofs.YtppdopccipngpaaGreat
set_option maxRecDepth 100000
set_option linter.unusedVariables false
open Go.RowKit
attribute [local go_sem ↓] Go.wp_at_zero Go.wp_at_succ
theorem ov_yes {L : List Sym} {R l : List Ru} {n : Nat} {x : Ru} (hx : x = l.getD n ([], [])) (h : (R ++ l.take n).all (fun a => !meetB L a.1 x.1) = true) : ckB L R l 7 n = true := by subst hx; exact h
theorem ov_no {L : List Sym} {R l : List Ru} {n : Nat} {x : Ru} (hx : x = l.getD n ([], [])) {k : Nat} (hk : k < (R ++ l.take n).length) (h1 : ((R ++ l.take n).take k).all (fun a => !meetB L a.1 x.1) = true) (h2 : meetB L (R ++ l.take n)[k].1 x.1 = true) : ckB L R l 7 n = false ∧ wrongL L R l 7 n = [(77, (n : Int)), (78, (k : Int))] := by
  have e2 : (R ++ l.take n).findIdx (fun a => meetB L a.1 x.1) = k := (List.findIdx_eq hk).2 ⟨h2, fun j hj => by
    have := List.all_eq_true.1 h1 ((R ++ l.take n)[j]'(by omega)) (by
      refine List.mem_iff_getElem.2 ⟨j, by simp at hk ⊢; omega, by simp⟩)
    simpa using this⟩
  subst hx
  refine ⟨?_, ?_⟩
  · show (R ++ l.take n).all _ = false
    rw [List.all_eq_false]
    exact ⟨_, List.getElem_mem hk, fun e => by rw [h2] at e; cases e⟩
  · unfold wrongL
    rw [if_neg (by omega), if_pos rfl, e2]
theorem PartA.ans {L : List Sym} {R l : List Ru} {j0 j1 : Nat} {ws : List (Int × Int)} (h : PartA L R l j0 j1 ws) (hj : j1 ≤ 8) (hne : ws ≠ []) : Ans L R l ws := by
  rcases h with ⟨e, _⟩ | ⟨j, n, _, h2, h3, h4, h5, h6⟩
  · exact absurd e hne
  · exact .inr ⟨j, n, by omega, h3, h4, h5, h6⟩
theorem PartA.upto {L : List Sym} {R l : List Ru} {j0 j1 : Nat} (h : PartA L R l j0 j1 []) : Upto L R l j1 0 := by
  rcases h with ⟨_, e⟩ | ⟨j, n, _, _, _, _, _, h6⟩
  · exact e
  · exact absurd h6.symm (wrongL_ne _ _ _ _ _)
theorem rclash7 {w : World} {rv : Value} {n : Nat} {L : List Sym} (h : Rl n w rv L) {ao bo : Option Addr} {ac bc : Nat} {a b : List Int} (ha : IntsAt w ao a) (hb : IntsAt w bo b) (hca : checkE L a = 0) (hcb : checkE L b = 0) :
    Calls Tryz.prog 39 #[rv, .slice ao a.length ac, .slice bo b.length bc] w fun e w' => e = .returned (.bool (claB L a b)) ∧ Same0 w w' :=
  rclash_any hca hcb (solved_any hca hcb (laid_any h ha hb hca hcb true))
/-- What the document's Check answers. -/
def RChk (L : List Sym) (R l : List Ru) (w : World) (e : Ending) (w' : World) : Prop := ∃ ws v, e = .returned v ∧ Ans L R l ws ∧ WrsAt w' v ws ∧ Same0 w w'
set_option maxHeartbeats 16000000 in
theorem rchk_any {w : World} {m : Nat} {ro : Option Addr} {rc : Nat} {mo : Option Addr} {mc : Nat} {L : List Sym} {R : List Ru} (h : MR w m ro rc mo mc L R) {lo : Option Addr} {lc : Nat} {l : List Ru} (hl : RsAt w lo l) (hll : l.length ≤ 140737488355328) (hln : lo = none → lc = 0) :
    Calls Tryz.prog 13 #[.pointer (some ⟨m, 0, none⟩), .slice lo l.length lc] w (RChk L R l w) := by
  have c1 := cellAt h.blk 1
  simp only [List.getElem?_toArray, List.getElem?_cons_succ, List.getElem?_cons_zero] at c1
  have hRl := h.le
  by_cases hbig : 100 < R.length + l.length
  · have hl0 : 0 < l.length := by omega
    have A : Hid (Ans L R l [(70, 0)]) := .inr ⟨0, 0, by omega, hl0, Upto.nil _ _ _, by simp [ckB, askB]; omega, rfl⟩
    have CO := fun ww => rone_any ww 70 0
    clear h hl
    by_cases h1 : 100 < l.length
    · have g1 : (100 : Int) < (l.length : Int) := by omega
      go_enter Tryz.func13, Tryz.ntmps13
      go_wp2_with (first | (go_at_call 36; refine (CO _).mono ?_; rintro e w2 ⟨v, rfl, hv, hk2⟩))
      go_ret
      exact ⟨_, _, rfl, A.out, hv, hk2⟩
    · have g1 : ¬ (100 : Int) < (l.length : Int) := by omega
      have g2 : (100 : Int) < (R.length : Int) + (l.length : Int) := by omega
      go_enter Tryz.func13, Tryz.ntmps13
      go_wp2_with (first | (go_at_call 36; refine (CO _).mono ?_; rintro e w2 ⟨v, rfl, hv, hk2⟩))
      go_ret
      exact ⟨_, _, rfl, A.out, hv, hk2⟩
  · have g1 : ¬ (100 : Int) < (l.length : Int) := by omega
    have g2 : ¬ (100 : Int) < (R.length : Int) + (l.length : Int) := by omega
    have up1 : Upto L R l 1 0 := ⟨fun i hi mm hm => by
      obtain rfl : i = 0 := by omega
      simp [ckB, askB]; omega, fun mm hm => absurd hm (by omega)⟩
    have CT := rterms_any (lc := lc) h hl (by omega) up1
    go_enter Tryz.func13, Tryz.ntmps13
    go_upto_region 4 with (first | (go_at_call 37; refine CT.mono ?_; rintro e w2 ⟨ws2, v2, rfl, hP2, hv2, k2⟩; obtain ⟨vo2, vc2, rfl, hv2'⟩ := id hv2))
    by_cases hw2 : ws2 = []
    · subst hw2
      have up3 := hP2.upto
      have hm2 := h.same k2
      have hl2 := hl.same k2
      have CS := rshapes_any (lc := lc) hm2 hl2 (by omega) up3
      clear CT c1 hv2 hv2' hP2
      go_upto_region 7 with (first | (go_at_call 38; refine CS.mono ?_; rintro e w3 ⟨ws3, v3, rfl, hP3, hv3, k3⟩; obtain ⟨vo3, vc3, rfl, hv3'⟩ := id hv3))
      have K3 := k2.trans' k3
      by_cases hw3 : ws3 = []
      · subst hw3
        have up7 : Hid (Upto L R l 7 0) := hP3.upto
        have hok : ∀ i (hi : i < l.length), checkE L l[i].1 = 0 ∧ checkE L l[i].2 = 0 := fun i hi => up3.ok1 hi
        have hm3 := h.same K3
        have hl3 := hl.same K3
        have k0 : Same0 w3 (w3.alloc (.cells #[] 61)) := (Kept.refl _ _).alloc _
        have r0 : (w3.alloc (.cells #[] 61)).ownsRow w3.heap.size 61 2 (.slice (some ⟨w3.heap.size, 0, none⟩) 0 0) 0 [] := ⟨rfl, .inr ⟨w3.heap.size, 0, #[], rfl, Nat.le_refl _, heap_alloc_new w3 _, Nat.le_refl _, by unfold maxLen; omega, rfl, rfl⟩⟩
        have N1 : Hid (mo = none → mc = 0 ∧ R = []) := hm3.rs.none hm3.nil
        have N2 : Hid (lo = none → lc = 0 ∧ l = []) := hl3.none hln
        obtain ⟨us, hu, US⟩ := hm3.rs.src
        obtain ⟨ms, hms, MS⟩ := hl3.src
        have z0 := k0.size
        have d1 := cellAt (hm3.same k0).blk 1
        simp only [List.getElem?_toArray, List.getElem?_cons_succ, List.getElem?_cons_zero] at d1
        clear CS hv3 hv3' hP3 hm2 hl2 k2 k3 up3
        go_upto_region 10 with (first | (at_builtin; refine wpList_rules rfl (.tmp 39) (.tmp 43) rfl w3.heap.size 0 [] _ rfl r0 mo mc R us rfl hu (US.out _ k0) N1.out z0 (by omega) ?_; intro v4 w4 hr4' k4; have s4 := own_kept k0 r0 (Nat.le_refl _) k4; have hr4 : w4.ownsRow w3.heap.size 61 2 v4 R.length us := (by simpa using hr4'); obtain ⟨vo4, vc4, rfl⟩ := row_shape hr4; have z4 := s4.size) | (at_builtin; refine wpList_rules rfl (.tmp 44) (.tmp 45) rfl w3.heap.size _ _ _ rfl hr4 lo lc l ms rfl hms (MS.out _ s4) N2.out z4 (by omega) ?_; intro v5 w5 hr5 k5; have s5 := own_kept s4 hr4 (Nat.le_refl _) k5; obtain ⟨vo5, vc5, rfl⟩ := row_shape hr5))
        obtain ⟨o5, c5, e5, r5, hN3, hN4⟩ := row_rules hr5 (by simpa using (hu.append hms).same s5)
        simp only [Value.slice.injEq] at e5
        obtain ⟨rfl, hN5, rfl⟩ := e5
        clear hN3 hN4 hN5
        have K5 := K3.trans' s5
        have hm5 := h.same K5
        have hl5 := hl.same K5
        clear r0 N1 N2 hu US hms MS z0 d1 hr4' hr4 hr5 k4 k5 s4 s5 z4 hm3 hl3 K3 k0
        have hcat : ∀ n (hn : n < l.length) k (hk : k < R.length + n), ∃ h1 : k < (R ++ l).length, ∃ h2 : k < (R ++ l.take n).length, (R ++ l)[k] = (R ++ l.take n)[k] := fun n hn k hk => by
          refine ⟨by simp; omega, by simp; omega, ?_⟩
          by_cases hkr : k < R.length
          · rw [List.getElem_append_left hkr, List.getElem_append_left hkr]
          · rw [List.getElem_append_right (by omega), List.getElem_append_right (by omega)]
            simp
        have hallok : ∀ k (hk : k < (R ++ l).length), checkE L (R ++ l)[k].1 = 0 := fun k hk => by
          by_cases hkr : k < R.length
          · rw [List.getElem_append_left hkr]; exact h.ok _ (List.getElem_mem hkr)
          · rw [List.getElem_append_right (by omega)]; exact (hok _ (by simp at hk; omega)).1
        have HCAT : Hid (∀ n (hn : n < l.length) k (hk : k < R.length + n), ∃ h1 : k < (R ++ l).length, ∃ h2 : k < (R ++ l.take n).length, (R ++ l)[k] = (R ++ l.take n)[k]) := hcat
        have HALL : Hid (∀ k (hk : k < (R ++ l).length), checkE L (R ++ l)[k].1 = 0) := hallok
        have HOK : Hid (∀ i (hi : i < l.length), checkE L l[i].1 = 0 ∧ checkE L l[i].2 = 0) := hok
        clear hcat hallok hok
        have M0 : Same0 w5 w5 := Kept.refl _ _
        have FK : Hid (Same0 w w5) := K5
        clear h hl K5
        go_wp2
        go_loopw [7] (fun i wr => ∃ n : Nat, n ≤ l.length ∧ i = .int .i64 (n : Int) ∧ Hid (Upto L R l 7 n) ∧ Same0 w5 wr) (fun i _ => l.length - (intOf i).toNat)
        case atStart => exact ⟨0, Nat.zero_le _, rfl, up7, M0⟩
        case round =>
          clear M0 up7
          obtain ⟨n, hnl, rfl, hu, hs⟩ := hrel
          by_cases hlt : n < l.length
          · have i2 : (n : Int) < (l.length : Int) := by omega
            go_wp2
            go_loopw [8] (fun i wr => ∃ k : Nat, k ≤ R.length + n ∧ i = .int .i64 (k : Int) ∧ Hid (((R ++ l.take n).take k).all (fun a => !meetB L a.1 (l.getD n ([], [])).1) = true) ∧ Same0 w5 wr) (fun i _ => R.length + n - (intOf i).toNat)
            case atStart => exact ⟨0, Nat.zero_le _, rfl, by show _ = _; simp, hs⟩
            case round =>
              clear hs
              obtain ⟨k, hkl, rfl, ha, hs⟩ := hrel
              have hm6 := hm5.same hs
              have c1 := cellAt hm6.blk 1
              simp only [List.getElem?_toArray, List.getElem?_cons_succ, List.getElem?_cons_zero] at c1
              by_cases hkk : k < R.length + n
              · obtain ⟨hk1, hk2, ek⟩ := HCAT.out n hlt k hkk
                have hao := HALL.out k hk1
                obtain ⟨vb, voff, rfl, hvb, eo, ec, fo, fc, q0, _, B1, _⟩ := (r5.same hs).get hk1
                obtain ⟨lb, off, rfl, hlb, ao, ac, bo, bc, p0, _, A1, _⟩ := (hl5.same hs).get hlt
                have hxo := (HOK.out n hlt).1
                have hxd : l.getD n ([], []) = l[n] := by simp [List.getD, hlt]
                have hmeet : meetB L (R ++ l.take n)[k].1 (l.getD n ([], [])).1 = !claB L l[n].1 (R ++ l)[k].1 := by
                  rw [hxd, ← ek]; exact meetB_eq hao hxo
                have i1 : (0 : Int) ≤ (n : Int) := by omega
                have j1 : (0 : Int) ≤ (k : Int) := by omega
                have j2 : (k : Int) < (R.length : Int) + (n : Int) := by omega
                have j3 : (k : Int) < (R.length : Int) + (l.length : Int) := by omega
                have j4 : (k : Int) < ((R ++ l).length : Int) := by omega
                have HS : Hid (∀ ww, Same0 wr ww → ww.cell? ⟨m, 0, none⟩ = some (.slice ro L.length rc) ∧ ww.cell? ⟨lb, off + n * 2, none⟩ = some (.slice ao l[n].1.length ac) ∧ ww.cell? ⟨vb, voff + k * 2, none⟩ = some (.slice eo (R ++ l)[k].1.length ec)) := fun ww hk => ⟨cellAt (hm6.same hk).blk 0, (hk.cell (p := ⟨lb, off + n * 2, none⟩) hlb (fun f => f)).trans p0, (hk.cell (p := ⟨vb, voff + k * 2, none⟩) hvb (fun f => f)).trans q0⟩
                have C : Hid (∀ ww, Same0 wr ww → Calls Tryz.prog 39 #[.slice ro L.length rc, .slice ao l[n].1.length ac, .slice eo (R ++ l)[k].1.length ec] ww fun e w' => e = .returned (.bool (claB L l[n].1 (R ++ l)[k].1)) ∧ Same0 wr w') := fun ww hk => (rclash7 (hm6.same hk).rl (A1.same hk).at' (B1.same hk).at' hxo hao).mono (fun e w' ⟨q1, q2⟩ => ⟨q1, hk.trans' q2⟩)
                have CC0 := HS.out wr (Kept.refl _ _)
                have W1 : Same0 wr wr.drew := Kept.drew (Kept.refl _ _)
                have P0 : Hid (claB L l[n].1 (R ++ l)[k].1 = true → ((R ++ l.take n).take (k + 1)).all (fun a => !meetB L a.1 (l.getD n ([], [])).1) = true) := fun q => by
                  have := ha.out
                  rw [List.take_add_one, List.getElem?_eq_getElem hk2, List.all_append, this]
                  simp only [Option.toList_some, List.all_cons, List.all_nil, hmeet, q]
                  rfl
                have P1 : Hid (claB L l[n].1 (R ++ l)[k].1 = false → Ans L R l [(77, (n : Int)), (78, (k : Int))]) := fun q => by
                  obtain ⟨o1, o2⟩ := ov_no rfl hk2 ha.out (by rw [hmeet, q]; rfl)
                  exact .inr ⟨7, n, by omega, hlt, hu.out, o1, o2.symm⟩
                generalize hLn : l[n].1 = xl at *
                generalize hRk : (R ++ l)[k].1 = yl at *
                cases hq : claB L xl yl with
                | true =>
                  have P := P0.out hq
                  rw [hq] at C
                  have P' : Hid (((R ++ l.take n).take (k + 1)).all (fun a => !meetB L a.1 (l.getD n ([], [])).1) = true) := P
                  clear P P0 P1 hq ha hu hmeet ek hLn hRk hm6 A1 B1 p0 q0 hxd hao hxo
                  go_wp2
                  go_region_held3 (fun w' => w'.cell? ⟨m, 0, none⟩ = some (.slice ro L.length rc) ∧ w'.cell? ⟨lb, off + n * 2, none⟩ = some (.slice ao xl.length ac) ∧ w'.cell? ⟨vb, voff + k * 2, none⟩ = some (.slice eo yl.length ec)) (first | exact cc1 | exact CC0) (first | (go_at_call 39; refine (C.out _ W1).mono ?_; rintro e w7 ⟨rfl, hw7⟩; have cc1 := HS.out _ hw7))
                  all_goals
                    go_wp2
                    go_roundw
                    case rel => first | exact ⟨k + 1, by omega, by go_num, P', hs.trans' hw7⟩ | ((repeat apply Exists.intro); exact ⟨⟨k + 1, by omega, by go_num, P', hs.trans' hw7⟩, rfl⟩)
                    case measure => simp [intOf]; omega
                | false =>
                  have P := P1.out hq
                  rw [hq] at C
                  have P' : Hid (Ans L R l [(77, (n : Int)), (78, (k : Int))]) := P
                  clear P P0 P1 hq ha hu hmeet ek hLn hRk hm6 A1 B1 p0 q0 hxd hao hxo
                  go_wp2
                  go_region_held3 (fun w' => w'.cell? ⟨m, 0, none⟩ = some (.slice ro L.length rc) ∧ w'.cell? ⟨lb, off + n * 2, none⟩ = some (.slice ao xl.length ac) ∧ w'.cell? ⟨vb, voff + k * 2, none⟩ = some (.slice eo yl.length ec)) (first | exact cc1 | exact CC0) (first | (go_at_call 39; refine (C.out _ W1).mono ?_; rintro e w7 ⟨rfl, hw7⟩; have cc1 := HS.out _ hw7))
                  all_goals
                    go_wp2
                    go_ret
                    exact ⟨_, _, rfl, P'.out, wrs_two w7 _ _ _ _ rfl, FK.out.trans' (hs.trans' (Kept.alloc hw7 _))⟩
              · have hA : Hid (Upto L R l 7 (n + 1)) := hu.out.step (ov_yes rfl (by
                  have := ha.out
                  rwa [List.take_of_length_le (by simp; omega)] at this))
                have hkk' : ¬ (k : Int) < (R.length : Int) + (n : Int) := by omega
                clear hu ha
                go_wp2
                go_roundw
                case rel => first | exact ⟨n + 1, by omega, by go_num, hA, hs⟩ | ((repeat apply Exists.intro); exact ⟨⟨n + 1, by omega, by go_num, hA, hs⟩, rfl⟩)
                case measure => simp [intOf]; omega
          · have A : Hid (Ans L R l []) := .inl ⟨rfl, hu.out.next (by omega)⟩
            have hlt' : ¬ (n : Int) < (l.length : Int) := by omega
            clear hu hlt
            go_wp2
            go_ret
            exact ⟨_, _, rfl, A.out, wrs_nil _, FK.out.trans' hs⟩
      · have A : Hid (Ans L R l ws3) := hP3.ans (by omega) hw3
        have hp : (0 : Int) < (ws3.length : Int) := by
          have : 0 < ws3.length := List.length_pos_iff.2 hw3
          omega
        clear CS hv3' hP3
        go_wp2
        go_ret
        exact ⟨_, _, rfl, A.out, hv3, K3⟩
    · have A : Hid (Ans L R l ws2) := hP2.ans (by omega) hw2
      have hp : (0 : Int) < (ws2.length : Int) := by
        have : 0 < ws2.length := List.length_pos_iff.2 hw2
        omega
      clear CT hv2' hP2
      go_wp2
      go_ret
      exact ⟨_, _, rfl, A.out, hv2, k2⟩
end Go.Proofs.YtppdopccipngpaaGreat
