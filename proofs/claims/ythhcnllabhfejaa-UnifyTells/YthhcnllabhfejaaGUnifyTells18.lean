import Derived.Test.YthhcnllabhfejaaGUnifyOverlaps14
import Derived.Test.YthhcnllabhfejaaGUnifyOverlaps15
import Derived.Test.YthhcnllabhfejaaGUnifyOverlaps17
import Derived.Test.YthhcnllabhfejaaGUnifyOverlaps06
import Derived.Deep.RegionHeld3
/- The walk of the statements' asked: the program's answers held against the document's. -/
namespace Go.Proofs.Ythhcnllabhfejaa
set_option maxRecDepth 100000
set_option linter.unusedVariables false
open Go.RowKit
attribute [local go_sem ↓] Go.wp_at_zero Go.wp_at_succ
theorem IntsAt_nil (w : World) (ao : Option Addr) : IntsAt w ao [] := Or.inl rfl
theorem comT_len {L : List Sym} {a b : List Int} {ap : Nat} (hap : ap ≤ 99) : (comT L a b ap).length ≤ 2000 := by
  by_cases h : comE L a b ap = 0
  · obtain ⟨u, h1, h2, h3⟩ := com_ok hap h
    rw [h3, wrF_length]; exact h2
  · unfold comT; rw [if_neg h]; simp
theorem claE_zero {L : List Sym} {a b : List Int} (h : claE L a b = 0) : checkE L a = 0 ∧ checkE L b = 0 := by
  unfold claE at h
  by_cases q : checkE L a = 0
  · rw [if_neg (by simp [q])] at h; exact ⟨q, h⟩
  · rw [if_pos q] at h; exact absurd h q
theorem claE_com {L : List Sym} {a b : List Int} {ap : Int} (h : claE L a b ≠ 0) : comE L a b ap = claE L a b ∧ comT L a b ap = [] := by
  have e : comE L a b ap = claE L a b := by
    unfold claE at h
    by_cases q : checkE L a = 0
    · rw [if_neg (by simp [q])] at h
      unfold comE claE
      rw [if_neg (show ¬ checkE L a ≠ 0 by simp [q]), if_pos h, if_neg (show ¬ checkE L a ≠ 0 by simp [q])]
    · unfold comE claE
      rw [if_pos q, if_pos q]
  exact ⟨e, by unfold comT; rw [if_neg (by rw [e]; exact h)]⟩
set_option maxHeartbeats 4000000 in
theorem asked_any {nn base : Nat} {w : World} {ro : Option Addr} {rc : Nat} {L : List Sym} (h : Rl nn w (.slice ro L.length rc) L) {lo so ao bo fo yo : Option Addr} {ll lc tl tc ac bc fc yc : Nat} {a b : List Int} (ha : IntsAt w ao a) (hb : IntsAt w bo b) (ham : a.length ≤ maxLen) (hbm : b.length ≤ maxLen) {ap : Bool} {TT : List Int} (hTT : comT L a b (apI ap) = TT) {E : Int} (hE : comE L a b (apI ap) = E) (hf : Row base w (.slice fo TT.length fc) TT) (hy : IntsAt w yo TT) (hyf : ∀ p, yo = some p → (Value.slice fo TT.length fc).ownBlock ≠ some p.block) :
    Calls Try.prog 12 #[.agg #[.slice lo ll lc, .slice ao a.length ac, .slice bo b.length bc, .slice so tl tc], .slice ro L.length rc, .bool ap, .slice fo TT.length fc, .slice yo TT.length yc, .int .i64 E, .int .i64 E] w fun e w' => e = .returned (.bool true) ∧ Kept (fun q => (Value.slice fo TT.length fc).ownBlock = some q) w w' := by
  have hTl : TT.length ≤ 2000 := by
    obtain ⟨k9, hk9, hk99⟩ := apI_nat ap
    rw [← hTT, hk9]; exact comT_len hk99
  have hTm : TT.length ≤ maxLen := by unfold maxLen; omega
  have CK : Hid (∀ w1, Same0 w w1 → Calls Try.prog 15 #[.slice ro L.length rc, .slice ao a.length ac, .slice bo b.length bc] w1 fun e w' => e = .returned (.int .i64 (claE L a b)) ∧ w' = w1) := fun w1 hk => rcheck6_any (h.same hk) (ha.same hk) (hb.same hk) ham hbm
  have CS : Hid (∀ w3 xo xc yo yc, IntsAt w3 xo TT → IntsAt w3 yo TT → Calls Try.prog 13 #[.slice xo TT.length xc, .slice yo TT.length yc] w3 fun e w' => e = .returned (.bool true) ∧ Same0 w3 w') := by
    intro w3 xo xc yo yc h1 h2
    refine (same_any (acap := xc) (bcap := yc) h1 h2 hTm).mono ?_
    rintro e w' ⟨rfl, hk'⟩
    exact ⟨by simp [sameB], hk'⟩
  have hfi : IntsAt w fo TT := by
    obtain ⟨o, c, e1, e2, _⟩ := hf.ints
    simp only [Value.slice.injEq] at e1
    rw [e1.1]; exact e2
  obtain ⟨OW, hOW⟩ : ∃ OW : Nat → Prop, OW = fun q => (Value.slice fo TT.length fc).ownBlock = some q := ⟨_, rfl⟩
  have HOW : Hid (OW = fun q => (Value.slice fo TT.length fc).ownBlock = some q) := hOW
  have HYF : Hid (∀ p, yo = some p → ¬ OW p.block) := by intro p e; rw [hOW]; exact hyf p e
  rw [← hOW]
  obtain ⟨wb, hwb⟩ : ∃ wb, wb = w.alloc (.cells #[.slice lo ll lc, .slice ao a.length ac, .slice bo b.length bc, .slice so tl tc] 27) := ⟨_, rfl⟩
  have kb : Same0 w wb := by rw [hwb]; exact (Kept.refl _ w).alloc _
  have hbox : wb.heap[w.heap.size]? = some (.cells #[.slice lo ll lc, .slice ao a.length ac, .slice bo b.length bc, .slice so tl tc] 27 (0, 0)) := by rw [hwb]; exact heap_alloc_new w _
  obtain ⟨d0, d1, d2, d3⟩ := case6_cells hbox (Kept.refl _ wb)
  have HF0 : Hid (∀ q, (Value.slice fo TT.length fc).ownBlock = some q → q < w.heap.size) := fun q e => (World.ownsRow.lt hf q e).2
  clear hOW hyf
  by_cases hz : claE L a b = 0
  · obtain ⟨hca, hcb⟩ := claE_zero hz
    have CC : Hid (∀ w1, Same0 w w1 → Calls Try.prog 25 #[.slice ro L.length rc, .slice ao a.length ac, .slice bo b.length bc, .bool ap] w1 fun e w' => ∃ wo wc, e = .returned (.tuple #[.slice wo TT.length wc, .int .i64 E]) ∧ IntsAt w' wo TT ∧ (∀ p, wo = some p → w.heap.size ≤ p.block) ∧ Same0 w1 w') := by
      intro w1 hk
      refine (rcommon_any hca hcb (solved_any hca hcb (laid_any (h.same hk) (ha.same hk) (hb.same hk) hca hcb ap))).mono ?_
      rintro e w' ⟨v, rfl, q1, q2⟩
      rw [hTT] at q1
      obtain ⟨wo, wc, rfl, q3, q4, q5⟩ := q1.ints
      refine ⟨wo, wc, by rw [hE], q3, fun p e => ?_, q2⟩
      have := (q5 p e).1
      have := hk.size
      omega
    rw [hz] at CK
    clear ha hb h hTT hE hca hcb hz ham hbm
    go_enter Try.func12, Try.ntmps12
    go_upto_region 1 with fail
    rw [← hwb]
    generalize hcb : w.heap.size = cb at *
    clear hwb hcb
    go_upto_region 5 with (first | (go_at_call 15; refine (CK.out wb kb).mono ?_; rintro e w1 ⟨rfl, hw1⟩; obtain rfl : wb = w1 := hw1.symm) | (go_at_call 25; refine (CC.out wb kb).mono ?_; rintro e w3 ⟨wo, wcp, rfl, i3, n3, k3⟩))
    have K3 := kb.trans' k3
    have f3 := hfi.same K3
    have y3 := hy.same K3
    have r3 : Row base w3 (.slice fo TT.length fc) TT := K3.row hf (fun _ _ f => f)
    clear CK hbox d0 d1 d2 d3 kb hf hy
    go_upto_region 6 with (first | (go_at_call 13; refine (CS.out w3 fo fc wo wcp f3 i3).mono ?_; rintro e w4 ⟨rfl, k4⟩))
    have K4 := K3.trans' k4
    have r4 : Row base w4 (.slice fo TT.length fc) TT := k4.row r3 (fun _ _ f => f)
    have y4 := y3.same k4
    have i4 := i3.same k4
    have O4 : OverA base (.slice fo TT.length fc) OW TT.length w4 w4 := ⟨TT, rfl, r4, fun k e => by rw [HOW.out]; exact e, Kept.refl _ _⟩
    clear r3 r4 f3 y3 i3
    go_wp2_with fail
    go_loopw [18] (fun s18 wr => ∃ k : Nat, k ≤ TT.length ∧ s18 = .int .i64 (k : Int) ∧ OverA base (.slice fo TT.length fc) OW TT.length w4 wr) (fun s18 _ => TT.length - (intOf s18).toNat)
    case atStart => exact ⟨0, Nat.zero_le _, rfl, O4⟩
    case round =>
      clear O4
      obtain ⟨k, hk, rfl, hO⟩ := hrel
      by_cases hlt : k < TT.length
      · obtain ⟨g, rfl, old, f1, f2⟩ := hO.at hlt
        have hO' := hO.store k 999
        have j1 : (0 : Int) ≤ (k : Int) := by omega
        have j2 : (k : Int) < (TT.length : Int) := by omega
        clear hO
        go_wp2_with fail
        go_roundw
        case rel => first | exact ⟨k + 1, by omega, by go_num, hO'⟩ | exact ⟨k + 1, by omega, by omega, hO'⟩
        case measure => simp [intOf]; omega
      · obtain ⟨zs, hzl, hrz, hBz, hKz⟩ := hO
        have j2 : ¬ (k : Int) < (TT.length : Int) := by omega
        have y5 : IntsAt wr yo TT := y4.kept hKz HYF.out
        have i5 : IntsAt wr wo TT := i4.kept hKz (fun p e f => by
          rw [HOW.out] at f
          have h1 := HF0.out _ f
          have h2 := n3 p e
          omega)
        have FIN : Hid (∀ w', Same0 wr w' → Kept OW w w') := fun w' hk => ((Kept.mono K4 (fun _ _ f => f.elim)).trans hKz (fun _ _ f => f)).trans hk (fun _ _ f => f.elim)
        clear hKz hrz hBz
        go_wp2_with (first | (go_at_call 13; refine (CS.out wr yo yc wo wcp y5 i5).mono ?_; rintro e w6 ⟨rfl, k6⟩))
        go_ret
        exact ⟨by simp, FIN.out _ k6⟩
  · obtain ⟨e1, e2⟩ := claE_com (ap := apI ap) hz
    rw [e1] at hE
    rw [e2] at hTT
    rw [hE] at CK
    have hz' : ¬ E = 0 := by rw [← hE]; exact hz
    have i3 : IntsAt wb none TT := by rw [← hTT]; exact IntsAt_nil _ _
    have hT0 : TT.length = 0 := by rw [← hTT]; rfl
    have n3 : ∀ p : Addr, (none : Option Addr) = some p → w.heap.size ≤ p.block := fun p e => by cases e
    have CS3 : Hid (∀ w3 xo xc, IntsAt w3 xo TT → Calls Try.prog 13 #[.slice xo TT.length xc, .slice none 0 0] w3 fun e w' => e = .returned (.bool true) ∧ Same0 w3 w') := by
      intro w3 xo xc h1
      have := CS.out w3 xo xc none 0 h1 (by rw [← hTT]; exact IntsAt_nil _ _)
      rw [hT0] at this ⊢; exact this
    clear ha hb h hTT hE e1 e2 hz ham hbm CS hT0
    go_enter Try.func12, Try.ntmps12
    go_upto_region 1 with fail
    rw [← hwb]
    generalize hcb : w.heap.size = cb at *
    clear hwb hcb
    go_upto_region 5 with (first | (go_at_call 15; refine (CK.out wb kb).mono ?_; rintro e w1 ⟨rfl, hw1⟩; obtain rfl : wb = w1 := hw1.symm))
    have K3 := kb
    have f3 := hfi.same K3
    have y3 := hy.same K3
    have r3 : Row base wb (.slice fo TT.length fc) TT := K3.row hf (fun _ _ f => f)
    clear CK hbox d0 d1 d2 d3 kb hf hy
    go_upto_region 6 with (first | (go_at_call 13; refine (CS3.out wb fo fc f3).mono ?_; rintro e w4 ⟨rfl, k4⟩))
    have K4 := K3.trans' k4
    have r4 : Row base w4 (.slice fo TT.length fc) TT := k4.row r3 (fun _ _ f => f)
    have y4 := y3.same k4
    have i4 := i3.same k4
    have O4 : OverA base (.slice fo TT.length fc) OW TT.length w4 w4 := ⟨TT, rfl, r4, fun k e => by rw [HOW.out]; exact e, Kept.refl _ _⟩
    clear r3 r4 f3 y3 i3
    go_wp2_with fail
    go_loopw [18] (fun s18 wr => ∃ k : Nat, k ≤ TT.length ∧ s18 = .int .i64 (k : Int) ∧ OverA base (.slice fo TT.length fc) OW TT.length w4 wr) (fun s18 _ => TT.length - (intOf s18).toNat)
    case atStart => exact ⟨0, Nat.zero_le _, rfl, O4⟩
    case round =>
      clear O4
      obtain ⟨k, hk, rfl, hO⟩ := hrel
      by_cases hlt : k < TT.length
      · obtain ⟨g, rfl, old, f1, f2⟩ := hO.at hlt
        have hO' := hO.store k 999
        have j1 : (0 : Int) ≤ (k : Int) := by omega
        have j2 : (k : Int) < (TT.length : Int) := by omega
        clear hO
        go_wp2_with fail
        go_roundw
        case rel => first | exact ⟨k + 1, by omega, by go_num, hO'⟩ | exact ⟨k + 1, by omega, by omega, hO'⟩
        case measure => simp [intOf]; omega
      · obtain ⟨zs, hzl, hrz, hBz, hKz⟩ := hO
        have j2 : ¬ (k : Int) < (TT.length : Int) := by omega
        have y5 : IntsAt wr yo TT := y4.kept hKz HYF.out
    
        have FIN : Hid (∀ w', Same0 wr w' → Kept OW w w') := fun w' hk => ((Kept.mono K4 (fun _ _ f => f.elim)).trans hKz (fun _ _ f => f)).trans hk (fun _ _ f => f.elim)
        clear hKz hrz hBz
        go_wp2_with (first | (go_at_call 13; refine (CS3.out wr yo yc y5).mono ?_; rintro e w6 ⟨rfl, k6⟩))
        go_ret
        exact ⟨by simp, FIN.out _ k6⟩
end Go.Proofs.Ythhcnllabhfejaa
/- The walk of the statement UnifyTells. -/
namespace Go.Proofs.Ythhcnllabhfejaa
set_option maxRecDepth 100000
set_option linter.unusedVariables false
open Go.RowKit
attribute [local go_sem ↓] Go.wp_at_zero Go.wp_at_succ
/-- A list of the call's own with one number behind it. -/
structure Lent6 (base : Nat) (w : World) (g cap : Nat) (xs : List Int) (z : Int) : Prop where
  row : Row base w (.slice (some ⟨g, 0, none⟩) (xs.length + 1) cap) (xs ++ [z])
theorem Lent6.same {base : Nat} {w w' : World} {g cap : Nat} {xs : List Int} {z : Int} (h : Lent6 base w g cap xs z) (hk : Same0 w w') : Lent6 base w' g cap xs z := ⟨hk.row h.row (fun _ _ f => f)⟩
theorem Lent6.last {base : Nat} {w : World} {g cap : Nat} {xs : List Int} {z : Int} (h : Lent6 base w g cap xs z) : w.cell? ⟨g, xs.length, none⟩ = some (.int .i64 z) ∧ xs.length + 1 ≤ cap ∧ IntsAt w (some ⟨g, 0, none⟩) xs := by
  have h1 := h.row
  unfold Row at h1
  rw [List.length_append] at h1
  refine ⟨?_, ?_, row_prefix h.row⟩
  · rw [h1.cellAt xs.length (by simp)]; simp [iv]
  · obtain ⟨o, c, e1, e2, e3, e4⟩ := h.row.ints
    simp only [Value.slice.injEq] at e1
    obtain ⟨-, -, rfl⟩ := e1
    simpa using e3
theorem row_empty6 (w : World) : Row w.heap.size (w.alloc (.cells #[] 3)) (.slice (some ⟨w.heap.size, 0, none⟩) 0 0) [] :=
  ⟨rfl, .inr ⟨_, 0, #[], rfl, Nat.le_refl _, heap_alloc_new _ _, Nat.le_refl _, by unfold maxLen; omega, rfl, rfl⟩⟩

set_option maxHeartbeats 8000000 in
theorem tells_walk (v : Value) (w : World) {lo : Option Addr} {ll lc : Nat} {ls : List Sym} {ao : Option Addr} {ac : Nat} {a : List Int} {bo : Option Addr} {bc : Nat} {b' : List Int} {so : Option Addr} {tc : Nat} {t : List Int} (hc : Case6Is w v lo ll lc ls ao ac a bo bc b' so tc t) :
    Calls Try.prog 4 #[v] w fun e w' => e = .returned (.bool true) ∧ Below w.heap.size w w' := by
  obtain ⟨rfl, hsy, hsl, ha, hb, ht⟩ := hc
  obtain ⟨wb, hwb⟩ : ∃ wb, wb = w.alloc (.cells #[.slice lo ll lc, .slice ao a.length ac, .slice bo b'.length bc, .slice so t.length tc] 27) := ⟨_, rfl⟩
  have kb : Same0 w wb := by rw [hwb]; exact (Kept.refl _ w).alloc _
  have hbox : wb.heap[w.heap.size]? = some (.cells #[.slice lo ll lc, .slice ao a.length ac, .slice bo b'.length bc, .slice so t.length tc] 27 (0, 0)) := by rw [hwb]; exact heap_alloc_new w _
  go_enter Try.func4, Try.ntmps4
  go_wp2_with fail
  rw [← hwb]
  generalize hcb : w.heap.size = cb at *
  clear hwb
  refine (awake6_any _).mono ?_
  rintro e w1 ⟨rfl, k1⟩
  obtain ⟨d0, _, _, _⟩ := case6_cells hbox k1
  go_wp2_with fail
  refine (made_any lo ll lc ls w1 (hsy.kept (kb.trans' k1).below) hsl).mono ?_
  rintro e w2 ⟨b, rv, rfl, hsg, hrl, k2⟩
  obtain ⟨L0, hL0⟩ : ∃ L0, L0 = madeL ls := ⟨_, rfl⟩
  rw [← hL0] at hsg hrl
  clear hL0 d0
  have K2 := k1.trans' k2
  have KW := kb.trans' K2
  obtain ⟨ro, rc, rfl⟩ := row_shape hrl.1
  obtain ⟨TT, hTT⟩ : ∃ TT, comT L0 a b' (apI false) = TT := ⟨_, rfl⟩
  obtain ⟨E, hE⟩ : ∃ E, comE L0 a b' (apI false) = E := ⟨_, rfl⟩
  have CC : Hid (∀ w3, Same0 w2 w3 → (w3.cell? ⟨cb, 0, none⟩ = some (.slice lo ll lc) ∧ w3.cell? ⟨cb, 3, none⟩ = some (.slice so t.length tc)) ∧ w3.cell? ⟨cb, 1, none⟩ = some (.slice ao a.length ac) ∧ w3.cell? ⟨cb, 2, none⟩ = some (.slice bo b'.length bc)) := fun w3 hk => ⟨⟨(case6_cells hbox (K2.trans' hk)).1, (case6_cells hbox (K2.trans' hk)).2.2.2⟩, (case6_cells hbox (K2.trans' hk)).2.1, (case6_cells hbox (K2.trans' hk)).2.2.1⟩
  have CO : Hid (∀ (w3 : World) xo xc yo yc, Same0 w2 w3 → IntsAt w3 xo a → IntsAt w3 yo b' → Calls Try.prog 11 #[.pointer (some ⟨b, 0, none⟩), .slice xo a.length xc, .slice yo b'.length yc] w3 fun e w' => ∃ to' tc', e = .returned (.tuple #[.slice to' TT.length tc', .int .i64 E]) ∧ Row w3.heap.size w' (.slice to' TT.length tc') TT ∧ Same0 w3 w') := by
    intro w3 xo xc yo yc hk h1 h2
    refine (unify_any (xc := xc) (yc := yc) (sg_up (hsg.same hk) hk.size) h1 h2 (umaxLen ha.size) (umaxLen hb.size)).mono ?_
    rintro e w' ⟨v, rfl, hr, hk'⟩
    have hr : Row w3.heap.size w' v TT := by rw [← hTT]; exact hr
    obtain ⟨to', tc', rfl⟩ := row_shape hr
    exact ⟨to', tc', by rw [← hE]; rfl, hr, hk'⟩
  have CA : Hid (∀ (w4 : World) xo xc yo yc, Same0 w2 w4 → Row w2.heap.size w4 (.slice xo TT.length xc) TT → IntsAt w4 yo TT → (∀ p, yo = some p → (Value.slice xo TT.length xc).ownBlock ≠ some p.block) → Calls Try.prog 12 #[.agg #[.slice lo ll lc, .slice ao a.length ac, .slice bo b'.length bc, .slice so t.length tc], .slice ro L0.length rc, .bool false, .slice xo TT.length xc, .slice yo TT.length yc, .int .i64 E, .int .i64 E] w4 fun e w' => e = .returned (.bool true) ∧ Kept (fun q => (Value.slice xo TT.length xc).ownBlock = some q) w4 w') := by
    intro w4 xo xc yo yc hk h1 h2 h3
    exact asked_any (hrl.same hk) (ha.at'.same (KW.trans' hk)) (hb.at'.same (KW.trans' hk)) (umaxLen ha.size) (umaxLen hb.size) hTT hE h1 h2 h3
  have AB : Hid (∀ w3, Same0 w2 w3 → IntsAt w3 ao a ∧ IntsAt w3 bo b') := fun w3 hk => ⟨ha.at'.same (KW.trans' hk), hb.at'.same (KW.trans' hk)⟩
  have FIN : Hid (∀ w', Same0 w2 w' → Below w.heap.size w w') := fun w' hk => (KW.trans' hk).below
  have CSa : Hid (∀ w3 xo xc yo yc, IntsAt w3 xo a → IntsAt w3 yo a → Calls Try.prog 13 #[.slice xo a.length xc, .slice yo a.length yc] w3 fun e w' => e = .returned (.bool true) ∧ Same0 w3 w') := by
    intro w3 xo xc yo yc h1 h2
    refine (same_any (acap := xc) (bcap := yc) h1 h2 (umaxLen ha.size)).mono ?_
    rintro e w' ⟨rfl, hk'⟩
    exact ⟨by simp [sameB], hk'⟩
  have CSb : Hid (∀ w3 xo xc yo yc, IntsAt w3 xo b' → IntsAt w3 yo b' → Calls Try.prog 13 #[.slice xo b'.length xc, .slice yo b'.length yc] w3 fun e w' => e = .returned (.bool true) ∧ Same0 w3 w') := by
    intro w3 xo xc yo yc h1 h2
    refine (same_any (acap := xc) (bcap := yc) h1 h2 (umaxLen hb.size)).mono ?_
    rintro e w' ⟨rfl, hk'⟩
    exact ⟨by simp [sameB], hk'⟩
  have sa : a.length * 8 ≤ 140737488351232 := ha.size
  have sb : b'.length * 8 ≤ 140737488351232 := hb.size
  have na := ha.nil
  have nb := hb.nil
  obtain ⟨⟨c0, c3⟩, c1, c2⟩ := CC.out w2 (Kept.refl _ _)
  obtain ⟨ia, ib⟩ := AB.out w2 (Kept.refl _ _)
  clear hsg hrl hsy K2 k1 k2 kb KW ht hb hbox ha hTT hE
  have kA : Same0 w2 (w2.alloc (.cells #[] 3)) := (Kept.refl _ w2).alloc _
  have iA := ia.same kA
  obtain ⟨⟨a0, a3⟩, a1, a2⟩ := CC.out _ kA
  have rA := row_empty6 w2
  have zA : w2.heap.size ≤ (w2.alloc (.cells #[] 3)).heap.size := kA.size
  have z1 : (([] : List Int).length + a.length) * 8 ≤ 140737488355328 := by simp; omega
  have z2 : (a.length + 1) * 8 ≤ 140737488355328 := by omega
  go_upto_region 6 with (first | (at_builtin; refine wpList_more' rfl _ _ 25 rfl Try.underlying25 w2.heap.size [] (.slice (some ⟨w2.heap.size, 0, none⟩) 0 0) rfl rA a ao a.length ac rfl rfl iA na zA z1 ?_; intro v3 w3 r3 k3; have m3 : w2.heap.size ≤ w3.heap.size := Nat.le_trans zA k3.size; rw [List.nil_append] at r3) | (at_builtin; refine wpList_push rfl _ _ 25 rfl Try.underlying25 w2.heap.size a v3 rfl r3 77 rfl m3 z2 ?_; intro ga ca w4 r4 k4 _))
  have K4 : Same0 w2 w4 := by
    have h1 : Same0 w2 w3 := kA.trans k3 (fun q hq e => by simp only [Value.ownBlock, Option.some.injEq] at e; omega)
    exact h1.trans k4 (fun q hq e => by have := own_base r3 e; omega)
  have LA : Lent6 w2.heap.size w4 ga ca a 77 := ⟨r4⟩
  clear r3 k3 r4 k4 m3 kA iA rA zA z1 z2 c0 c1 c2 c3 ia ib a0 a1 a2 a3
  obtain ⟨⟨c0, c3⟩, c1, c2⟩ := CC.out w4 K4
  obtain ⟨ia, ib⟩ := AB.out w4 K4
  have kA : Same0 w4 (w4.alloc (.cells #[] 3)) := (Kept.refl _ w4).alloc _
  have iA := ib.same kA
  obtain ⟨⟨a0, a3⟩, a1, a2⟩ := CC.out _ (K4.trans' kA)
  have rA := row_empty6 w4
  have zA : w4.heap.size ≤ (w4.alloc (.cells #[] 3)).heap.size := kA.size
  have z1 : (([] : List Int).length + b'.length) * 8 ≤ 140737488355328 := by simp; omega
  have z2 : (b'.length + 1) * 8 ≤ 140737488355328 := by omega
  go_upto_region 7 with (first | (at_builtin; refine wpList_more' rfl _ _ 25 rfl Try.underlying25 w4.heap.size [] (.slice (some ⟨w4.heap.size, 0, none⟩) 0 0) rfl rA b' bo b'.length bc rfl rfl iA nb zA z1 ?_; intro v3 w5 r3 k3; have m3 : w4.heap.size ≤ w5.heap.size := Nat.le_trans zA k3.size; rw [List.nil_append] at r3) | (at_builtin; refine wpList_push rfl _ _ 25 rfl Try.underlying25 w4.heap.size b' v3 rfl r3 78 rfl m3 z2 ?_; intro gb cb' w6 r4 k4 _))
  have k46 : Same0 w4 w6 := by
    have h1 : Same0 w4 w5 := kA.trans k3 (fun q hq e => by simp only [Value.ownBlock, Option.some.injEq] at e; omega)
    exact h1.trans k4 (fun q hq e => by have := own_base r3 e; omega)
  have K6 := K4.trans' k46
  have LB : Lent6 w4.heap.size w6 gb cb' b' 78 := ⟨r4⟩
  have LA6 := LA.same k46
  clear r3 k3 r4 k4 m3 kA iA rA zA z1 z2 c0 c1 c2 c3 ia ib a0 a1 a2 a3 LA
  have HL : Hid (∀ w7, Same0 w6 w7 → (w7.cell? ⟨cb, 1, none⟩ = some (.slice ao a.length ac) ∧ w7.cell? ⟨cb, 2, none⟩ = some (.slice bo b'.length bc)) ∧ w7.cell? ⟨ga, a.length, none⟩ = some (.int .i64 77) ∧ w7.cell? ⟨gb, b'.length, none⟩ = some (.int .i64 78) ∧ IntsAt w7 (some ⟨ga, 0, none⟩) a ∧ IntsAt w7 (some ⟨gb, 0, none⟩) b' ∧ IntsAt w7 ao a ∧ IntsAt w7 bo b') := by
    intro w7 hk
    obtain ⟨⟨_, _⟩, q1, q2⟩ := CC.out w7 (K6.trans' hk)
    obtain ⟨q3, q4⟩ := AB.out w7 (K6.trans' hk)
    exact ⟨⟨q1, q2⟩, (LA6.same hk).last.1, (LB.same hk).last.1, (LA6.same hk).last.2.2, (LB.same hk).last.2.2, q3, q4⟩
  have ja : (a.length : Int) + 1 ≤ (ca : Int) := by have := LA6.last.2.1; omega
  have jb : (b'.length : Int) + 1 ≤ (cb' : Int) := by have := LB.last.2.1; omega
  have ja1 : (a.length : Int) ≤ (ca : Int) := by omega
  have jb1 : (b'.length : Int) ≤ (cb' : Int) := by omega
  have ja2 : (a.length : Int) < ((a.length + 1 : Nat) : Int) := by omega
  have jb2 : (b'.length : Int) < ((b'.length + 1 : Nat) : Int) := by omega
  have ja3 : (0 : Int) ≤ (a.length : Int) := by omega
  have jb3 : (0 : Int) ≤ (b'.length : Int) := by omega
  have ja5 : (a.length : Int) < (a.length : Int) + 1 := by omega
  have jb5 : (b'.length : Int) < (b'.length : Int) + 1 := by omega
  have ja6 : ¬ (a.length : Int) < 0 := by omega
  have jb6 : ¬ (b'.length : Int) < 0 := by omega
  have ja4 : a.length ≤ ca := by omega
  have jb4 : b'.length ≤ cb' := by omega
  have kd : Same0 w6 w6.drew := (Kept.refl _ w6).drew
  obtain ⟨⟨c1, c2⟩, c4, c5, i1, i2, i3, i4⟩ := HL.out w6.drew kd
  have CU := CO.out w6.drew (some ⟨ga, 0, none⟩) ca (some ⟨gb, 0, none⟩) cb' (K6.trans' kd) i1 i2
  clear LA6 LB
  go_cut [8, 9] from 38 to 52 (fun s8 s9 wc => ∃ xo xc, s8 = .slice xo TT.length xc ∧ s9 = .int .i64 E ∧ Row w6.heap.size wc (.slice xo TT.length xc) TT ∧ Same0 w6 wc)
  case first =>
    clear CO CA CSa CSb HL
    go_region_with (first | (go_at_call 11; refine CU.mono ?_; rintro e w7 ⟨xo, xc, rfl, r7, k7⟩))
    all_goals
      go_wp2_with fail
      go_meet
      exact ⟨xo, xc, rfl, rfl, r7, kd.trans' k7⟩
  case rest =>
    obtain ⟨xo, xc, rfl, rfl, r7, k7⟩ := hcut
    clear CU c1 c2 c4 c5 i1 i2 i3 i4 kd
    have K7 := K6.trans' k7
    obtain ⟨⟨c0, c3⟩, c1, c2⟩ := CC.out wc K7
    obtain ⟨ia, ib⟩ := AB.out wc K7
    go_upto_region 9 with (first | (go_at_call 11; refine (CO.out wc _ _ _ _ K7 ia ib).mono ?_; rintro e w8 ⟨yo, yc, rfl, r8, k8⟩))
    have K8 := K7.trans' k8
    have x8 : Row w6.heap.size w8 (.slice xo TT.length xc) TT := k8.row r7 (fun _ _ f => f)
    have x8' : Row w2.heap.size w8 (.slice xo TT.length xc) TT := row_mono x8 K6.size
    have y8 : IntsAt w8 yo TT ∧ ∀ p, yo = some p → (Value.slice xo TT.length xc).ownBlock ≠ some p.block := by
      obtain ⟨o, c, e1, e2, e3, e4⟩ := r8.ints
      simp only [Value.slice.injEq] at e1
      obtain ⟨rfl, -, rfl⟩ := e1
      refine ⟨e2, fun p e f => ?_⟩
      have h1 := (World.ownsRow.lt r7 _ f).2
      have h2 := (e4 p e).1
      omega
    have k68 := k7.trans' k8
    have K9 : Hid (∀ w9, Kept (fun q => (Value.slice xo TT.length xc).ownBlock = some q) w8 w9 → Same0 w6 w9) := by
      intro w9 hk
      exact k68.trans hk (fun q hq e => by have := (World.ownsRow.lt x8 _ e).1; omega)
    clear c0 c3 c1 c2 ia ib CO r7 r8
    obtain ⟨⟨c0, c3⟩, c1, c2⟩ := CC.out w8 K8
    go_upto_region 10 with (first | (go_at_call 12; refine (CA.out w8 _ _ _ _ K8 x8' y8.1 y8.2).mono ?_; rintro e w9 ⟨rfl, k9⟩))
    have KK := K9.out w9 k9
    clear c0 c3 c1 c2 CA x8 x8' y8 k7 k8 k9 K7 K8 K9 k68
    have W1 : Same0 w6 w9.drew := KK.trans' ((Kept.refl _ _).drew)
    have CC0 := (HL.out _ W1)
    have CX : Hid (∀ (ww : World) (xo : Option Addr) (xl xc : Nat) (yo : Option Addr) (yl yc : Nat), ((xo = some ⟨ga, 0, none⟩ ∧ xl = a.length ∧ yo = ao ∧ yl = a.length) ∨ (xo = some ⟨gb, 0, none⟩ ∧ xl = b'.length ∧ yo = bo ∧ yl = b'.length)) → Same0 w6 ww → Calls Try.prog 13 #[.slice xo xl xc, .slice yo yl yc] ww fun e w' => e = .returned (.bool true) ∧ Same0 w6 w') := by
      intro ww xo xl xc yo yl yc h hk
      obtain ⟨_, _, _, i1, i2, i3, i4⟩ := HL.out ww hk
      rcases h with ⟨rfl, rfl, rfl, rfl⟩ | ⟨rfl, rfl, rfl, rfl⟩
      · exact (CSa.out ww _ xc _ yc i1 i3).mono (fun e w' ⟨q1, q2⟩ => ⟨q1, hk.trans' q2⟩)
      · exact (CSb.out ww _ xc _ yc i2 i4).mono (fun e w' ⟨q1, q2⟩ => ⟨q1, hk.trans' q2⟩)
    have HS : Hid (∀ ww, Same0 w6 ww → ww.cell? ⟨cb, 1, none⟩ = some (.slice ao a.length ac) ∧ ww.cell? ⟨cb, 2, none⟩ = some (.slice bo b'.length bc) ∧ ww.cell? ⟨ga, a.length, none⟩ = some (.int .i64 77) ∧ ww.cell? ⟨gb, b'.length, none⟩ = some (.int .i64 78)) := fun ww hk => ⟨(HL.out ww hk).1.1, (HL.out ww hk).1.2, (HL.out ww hk).2.1, (HL.out ww hk).2.2.1⟩
    have CC0 := HS.out _ W1
    clear HL CSa CSb AB
    clear ja jb ja1 jb1
    have ja1 : (a.length : Int) ≤ (ca : Int) := by omega
    have jb1 : (b'.length : Int) ≤ (cb' : Int) := by omega
    go_region_held3 (fun w' => w'.cell? ⟨cb, 1, none⟩ = some (.slice ao a.length ac) ∧ w'.cell? ⟨cb, 2, none⟩ = some (.slice bo b'.length bc) ∧ w'.cell? ⟨ga, a.length, none⟩ = some (.int .i64 77) ∧ w'.cell? ⟨gb, b'.length, none⟩ = some (.int .i64 78)) (first | exact CC0 | exact cc1) (first | (go_at_call 13; refine (CX.out _ _ _ _ _ _ _ (by first | exact .inl ⟨rfl, rfl, rfl, rfl⟩ | exact .inr ⟨rfl, rfl, rfl, rfl⟩) (by first | exact hw1 | exact W1)).mono ?_; rintro e w1 ⟨rfl, hw1⟩; have cc1 := HS.out _ hw1))
    all_goals
      go_wp2_with fail
      go_ret
      exact ⟨by simp, FIN.out _ (K6.trans' hw1)⟩
end Go.Proofs.Ythhcnllabhfejaa
