import Derived.Test.YtppdopccipngpaaGreatGRule13
import Derived.Test.YtppdopccipngpaaGreatGRule19
/- Two lists of the same rules; a store beside another one; an error asked whether it is nil. -/
namespace Go.Proofs.YtppdopccipngpaaGreat
set_option linter.unusedVariables false
set_option maxRecDepth 100000
open Go.RowKit
attribute [local go_sem ↓] Go.wp_at_zero Go.wp_at_succ
set_option maxHeartbeats 4000000 in
theorem srules_any {w : World} {ao bo : Option Addr} {ac bc : Nat} {l : List Ru} (ha : RsAt w ao l) (hb : RsAt w bo l) (hl : l.length ≤ 140737488355328) :
    Calls Tryz.prog 34 #[.slice ao l.length ac, .slice bo l.length bc] w fun e w' => e = .returned (.bool true) ∧ Same0 w w' := by
  have M0 : Same0 w w := Kept.refl _ _
  go_enter Tryz.func34, Tryz.ntmps34
  go_wp2
  go_loopw [5] (fun i wr => ∃ k : Nat, k ≤ l.length ∧ i = .int .i64 (k : Int) ∧ Same0 w wr) (fun i _ => l.length - (intOf i).toNat)
  case atStart => exact ⟨0, Nat.zero_le _, rfl, M0⟩
  case round =>
    clear M0
    obtain ⟨k, hk, rfl, hs⟩ := hrel
    by_cases hlt : k < l.length
    · obtain ⟨xb, xo, rfl, hxb, x1o, x1c, x2o, x2c, p0, p1, X1, X2⟩ := (ha.same hs).get hlt
      obtain ⟨yb, yo, rfl, hyb, y1o, y1c, y2o, y2c, r0, r1, Y1, Y2⟩ := (hb.same hs).get hlt
      have i1 : (0 : Int) ≤ (k : Int) := by omega
      have i2 : (k : Int) < (l.length : Int) := by omega
      generalize l[k] = x at *
      have s1 := X1.size
      have s2 := X2.size
      have HS : Hid (∀ ww, Same0 wr ww → (ww.cell? ⟨xb, xo + k * 2, none⟩ = some (.slice x1o x.1.length x1c) ∧ ww.cell? ⟨xb, xo + k * 2 + 1, none⟩ = some (.slice x2o x.2.length x2c)) ∧ ww.cell? ⟨yb, yo + k * 2, none⟩ = some (.slice y1o x.1.length y1c) ∧ ww.cell? ⟨yb, yo + k * 2 + 1, none⟩ = some (.slice y2o x.2.length y2c)) := fun ww hk => ⟨⟨(hk.cell (p := ⟨xb, xo + k * 2, none⟩) hxb (fun f => f)).trans p0, (hk.cell (p := ⟨xb, xo + k * 2 + 1, none⟩) hxb (fun f => f)).trans p1⟩, (hk.cell (p := ⟨yb, yo + k * 2, none⟩) hyb (fun f => f)).trans r0, (hk.cell (p := ⟨yb, yo + k * 2 + 1, none⟩) hyb (fun f => f)).trans r1⟩
      have C1 : Hid (∀ ww, Same0 wr ww → Calls Tryz.prog 47 #[.slice x1o x.1.length x1c, .slice y1o x.1.length y1c] ww fun e w' => e = .returned (.bool true) ∧ Same0 wr w') := fun ww hk => (same_any (X1.same hk).at' (Y1.same hk).at' (by unfold maxLen; omega)).mono (fun e w' ⟨q1, q2⟩ => ⟨by rw [q1]; simp [sameB], hk.trans' q2⟩)
      have C2 : Hid (∀ ww, Same0 wr ww → Calls Tryz.prog 47 #[.slice x2o x.2.length x2c, .slice y2o x.2.length y2c] ww fun e w' => e = .returned (.bool true) ∧ Same0 wr w') := fun ww hk => (same_any (X2.same hk).at' (Y2.same hk).at' (by unfold maxLen; omega)).mono (fun e w' ⟨q1, q2⟩ => ⟨by rw [q1]; simp [sameB], hk.trans' q2⟩)
      have W1 : Same0 wr wr.drew := Kept.drew (Kept.refl _ _)
      obtain ⟨⟨c0, c1⟩, c2, c3⟩ := HS.out wr (Kept.refl _ _)
      have CC0 := And.intro c0 c2
      clear p0 p1 r0 r1 X1 X2 Y1 Y2 ha hb
      go_wp2
      go_region_held3 (fun w' => w'.cell? ⟨xb, xo + k * 2, none⟩ = some (.slice x1o x.1.length x1c) ∧ w'.cell? ⟨yb, yo + k * 2, none⟩ = some (.slice y1o x.1.length y1c)) (first | exact cc1 | exact CC0) (first | (go_at_call 47; refine (C1.out _ W1).mono ?_; rintro e w2 ⟨rfl, hw2⟩; have cc1 := And.intro (HS.out _ hw2).1.1 (HS.out _ hw2).2.1))
      all_goals
        have W2 : Same0 wr w2.drew := Kept.drew hw2
        have CC1 := And.intro (HS.out _ hw2).1.2 (HS.out _ hw2).2.2
        clear CC0 cc1 W1 c0 c1 c2 c3
        go_wp2
        go_region_held3 (fun w' => w'.cell? ⟨xb, xo + k * 2 + 1, none⟩ = some (.slice x2o x.2.length x2c) ∧ w'.cell? ⟨yb, yo + k * 2 + 1, none⟩ = some (.slice y2o x.2.length y2c)) (first | exact cc2 | exact CC1) (first | (go_at_call 47; refine (C2.out _ W2).mono ?_; rintro e w3 ⟨rfl, hw3⟩; have cc2 := And.intro (HS.out _ hw3).1.2 (HS.out _ hw3).2.2))
        all_goals
          go_wp2
          exact ⟨⟨k + 1, by omega, by go_num, hs.trans' hw3⟩, by simp [intOf]; omega⟩
    · go_wp2
      go_ret
      exact ⟨rfl, hs⟩
/-- A store stays, whatever another one of other blocks does. -/
theorem StAt.other {w w' : World} {b bs b2 : Nat} {L : List Sym} {R : List Ru} {lv lv2 : Value} {vs : List Value} (h : StAt w b bs L R lv vs) (hk : Kept (StoB w b2 lv2) w w') (h2 : ∀ k, StoB w b2 lv2 k → IsSt w k) (hb : b ≠ b2) (hr : ∀ k, lv2.ownBlock = some k → ∃ c, w.heap[k]? = some (.cells c 61 (0, 0))) (hb2 : ∃ c, w.heap[b2]? = some (.cells c 78 (0, 0))) (hd : ∀ k, lv.ownBlock = some k → lv2.ownBlock ≠ some k) : StAt w' b bs L R lv vs := by
  refine ⟨hk.at h.blk ?_, sg_up (h.sig.kept_ty hk h2) hk.size, hk.row h.row ?_, h.own.kept hk (fun k e => (h2 k e).no_int), h.le, h.ok⟩
  · rintro (e | e)
    · exact hb e
    · obtain ⟨c, hc⟩ := hr b e
      rw [h.blk] at hc; cases hc
  · rintro k e (q | q)
    · subst q
      obtain ⟨c, hc⟩ := own_blk h.row e
      obtain ⟨c', hc'⟩ := hb2
      rw [hc] at hc'; cases hc'
    · exact hd k e q
theorem StAt.beside {w w' : World} {b bs b2 bs2 : Nat} {L L2 : List Sym} {R R2 : List Ru} {lv lv2 : Value} {vs vs2 : List Value} (h : StAt w b bs L R lv vs) (k : StAt w b2 bs2 L2 R2 lv2 vs2) (hk : Kept (StoB w b2 lv2) w w') (hb : b ≠ b2) (hd : ∀ k, lv.ownBlock = some k → lv2.ownBlock ≠ some k) : StAt w' b bs L R lv vs :=
  h.other hk k.isSt hb (fun q e => own_blk k.row e) ⟨_, k.blk⟩ hd
/-- An error that is nil, or a Fault: what a comparison with nil answers. -/
theorem err_bool {v : Value} (h : v = .nilIface ∨ ∃ k, v = .iface 82 (.pointer (some ⟨k, 0, none⟩))) : ∃ z : Bool, (∀ w : World, (binOp .eql 45 v .nilIface).run Tryz.prog w = .ok (.bool z) w) ∧ (∀ (k : Nat) (w : World), (eqGuard .eql 45 (.tmp k) (.const .nilIface) v .nilIface).run Tryz.prog w = .ok () w) ∧ (z = true ↔ v = .nilIface) := by
  rcases h with rfl | ⟨k, rfl⟩
  · exact ⟨true, fun w => by kernel_rfl, fun k w => by kernel_rfl, by simp⟩
  · exact ⟨false, fun w => by kernel_rfl, fun k w => by kernel_rfl, by simp⟩
end Go.Proofs.YtppdopccipngpaaGreat
/- The walk of RulesWraps. -/
namespace Go.Proofs.YtppdopccipngpaaGreat
set_option maxRecDepth 100000
set_option linter.unusedVariables false
open Go.RowKit Go.Deep
attribute [local go_sem ↓] Go.wp_at_zero Go.wp_at_succ
section
variable {H : Type} {enc : TypeId × Value → H} {w : World} {spare : Nat → Bool} {held : Bool}
theorem rules_nil {fuel : Nat} {ao : Option Addr} {len cap : Nat} {x : DataW H × List MemPlace} (h : DataW.trod enc Tryz.prog w 0 spare held fuel 29 [.slice ao len cap] = some x) (hw : ∀ n ∈ x.1.weights Tryz.prog 29, n ≤ reachBytes) : ao = none → cap = 0 := by
  rcases open_elems7 Tryz.underlying29 cells_rule (by omega) h hw with ⟨_, _, e⟩ | ⟨a, e, _⟩
  · exact fun _ => e
  · intro q; rw [e] at q; cases q
end
/-- The document's store as begun lays it. -/
theorem mr_new {w : World} {m : Nat} {rv : Value} {L : List Sym} (hb : w.heap[m]? = some (.cells #[rv, .slice none 0 0] 65 (0, 0))) (hr : Rl w.heap.size w rv L) : ∃ ro rc, rv = .slice ro L.length rc ∧ MR w m ro rc none 0 L [] := by
  obtain ⟨ro, rc, rfl⟩ := row_shape hr.1
  exact ⟨ro, rc, rfl, hb, hr, .inl rfl, fun _ => rfl, by simp, fun x hx => by simp at hx⟩
set_option maxHeartbeats 8000000 in
theorem wraps_walk {w : World} {ao : Option Addr} {len cap : Nat} {xs : List Sym} (hx : SymsAt w ao len xs) (hm : len ≤ maxLen) {so : Option Addr} {sc : Nat} {l : List Ru} (hs : ArgR w so l sc) (hln : so = none → sc = 0) :
    Calls Tryz.prog 4 #[.slice ao len cap, .slice so l.length sc] w fun e w' => e = .returned (.bool true) ∧ Below w.heap.size w w' := by
  have sz := hs.size
  go_enter Tryz.func4, Tryz.ntmps4
  go_wp2_with fail
  refine (awake7_any w).mono ?_
  rintro e w1 ⟨rfl, K1⟩
  go_wp2_with fail
  refine (begun_any ao len cap xs w1 (hx.kept K1.below) hm).mono ?_
  rintro e w2 ⟨q, bs, b, m, rv, rfl, hq, hst, hmb, hrl, hk2, _, _, _⟩
  have K2 := K1.trans' hk2
  generalize madeL xs = L at *
  obtain ⟨ro, rc, rfl, hMR⟩ := mr_new hmb hrl
  have A2 : RsAt w2 so l := hs.at'.same K2
  have Q1 := cellAt hq 1
  simp only [List.getElem?_toArray, List.getElem?_cons_succ, List.getElem?_cons_zero] at Q1
  obtain ⟨ro', rc', e0, hR⟩ := hst.read
  have C4 := checkR_any (lc := sc) hR A2 (by omega) hs.cap'
  unfold ChkPost at C4
  clear e0 hR hk2 K1 hmb hrl hst
  go_upto_region 6 with (first | (go_at_call 12; refine C4.mono ?_; rintro e w4 ⟨ws, v4, rfl, hA4, hv4, hws, hk4⟩; obtain ⟨z4, e4, g4, i4⟩ := err_bool ((hA4.flt hv4).imp (fun q => q.2) (fun q => q.2))))
  have Q2 := cellAt (hk4.at0 hq) 2
  simp only [List.getElem?_toArray, List.getElem?_cons_succ, List.getElem?_cons_zero] at Q2
  have C5 := rchk_any (lc := sc) (hMR.same hk4) (A2.same hk4) (by omega) hln
  unfold RChk at C5
  clear C4 Q1
  go_upto_region 7 with (first | (go_at_call 13; refine C5.mono ?_; rintro e w5 ⟨ws5, v5, rfl, hA5, hv5, hk5⟩; obtain ⟨vo, vc, rfl, hv5'⟩ := id hv5))
  obtain rfl := hA5.uniq hA4
  have F5 : Hid (∀ ww, Same0 w5 ww → FltAt ww ws5 v4) := fun ww hk => FltAt.same hk (FltAt.same hk5 hv4)
  have HZ : Hid (z4 = decide (ws5.length = 0)) := by
    show _ = _
    rcases hA4.flt hv4 with ⟨rfl, rfl⟩ | ⟨hne, k, rfl⟩
    · rw [i4.2 rfl]; rfl
    · cases z4
      · have : ¬ ws5.length = 0 := fun e => hne (List.eq_nil_of_length_eq_zero e)
        simp [this]
      · exact absurd (i4.1 rfl) (by simp)
  have K5 := (K2.trans' hk4).trans' hk5
  have FIN : Hid (∀ ww, Same0 w5 ww → Below w.heap.size w ww) := fun ww hk => (K5.trans' hk).below
  have CI : Hid (∀ (i : Nat) (h : i < ws5.length) ww, Same0 w5 ww → Calls Tryz.prog 14 #[v4, .iface 50 (.int .i64 ws5[i].1)] ww fun e w' => e = .returned (.bool true) ∧ w' = ww) := fun i hi ww hk => (is_any (F5.out ww hk) hws ws5[i].1).mono (fun e w' ⟨q1, q2⟩ => ⟨by rw [q1]; congr 2; simp only [bears, decide_eq_true_eq, List.mem_map]; exact ⟨_, List.getElem_mem hi, rfl⟩, q2⟩)
  have M0 : Same0 w5 w5 := Kept.refl _ _
  clear hA4 hA5 hv4 C5 Q2 hMR A2 hq K2 hk4 hk5 i4 hv5 hs hx K5
  go_wp2
  go_loopw [9] (fun i wr => ∃ k : Nat, k ≤ ws5.length ∧ i = .int .i64 (k : Int) ∧ Same0 w5 wr) (fun i _ => ws5.length - (intOf i).toNat)
  case atStart => exact ⟨0, Nat.zero_le _, rfl, M0⟩
  case round =>
    clear M0
    obtain ⟨k, hk, rfl, hs⟩ := hrel
    by_cases hlt : k < ws5.length
    · obtain ⟨vb, rfl, hvb, hc⟩ : ∃ b, vo = some ⟨b, 0, none⟩ ∧ b < w5.heap.size ∧ ∀ i (h : i < ws5.length), w5.cell? ⟨b, i * 2, none⟩ = some (.int .i64 ws5[i].1) ∧ w5.cell? ⟨b, i * 2 + 1, none⟩ = some (.int .i64 ws5[i].2) := by
        rcases hv5' with e | e
        · rw [e] at hlt; simp at hlt
        · exact e
      have c0 := (hs.cell (p := ⟨vb, k * 2, none⟩) hvb (fun f => f)).trans (hc k hlt).1
      have i1 : (0 : Int) ≤ (k : Int) := by omega
      have i2 : (k : Int) < (ws5.length : Int) := by omega
      have C := CI.out k hlt _ hs
      clear hc CI F5 HZ e4 g4
      go_wp2_with (first | (go_at_call 14; refine C.mono ?_; rintro e w6 ⟨rfl, rfl⟩))
      exact ⟨⟨k + 1, by omega, by go_num, hs⟩, by simp [intOf]; omega⟩
    · have hlt' : ¬ (k : Int) < (ws5.length : Int) := by omega
      clear CI F5 hv5'
      by_cases hz : ws5.length = 0
      · have e1 : z4 = true := by rw [HZ.out]; simp [hz]
        subst e1
        have hz' : ((ws5.length : Int) == 0) = true := by rw [beq_iff_eq]; omega
        clear HZ
        go_wp2
        go_ret
        exact ⟨by first | rfl | simp, FIN.out _ hs⟩
      · have e1 : z4 = false := by rw [HZ.out]; simp [hz]
        subst e1
        have hz' : ((ws5.length : Int) == 0) = false := by rw [beq_eq_false_iff_ne]; omega
        clear HZ
        go_wp2
        go_ret
        exact ⟨by first | rfl | simp, FIN.out _ hs⟩
end Go.Proofs.YtppdopccipngpaaGreat
