/- The walk of HeapKeeps. -/
import Derived.Test.YtcbplgfkgkefeaaHeapSame
namespace Go.Proofs.Ytcbplgfkgkefeaa
set_option maxRecDepth 100000
set_option linter.unusedVariables false
open Go.RowKit
attribute [local go_sem ↓] Go.wp_at_zero Go.wp_at_succ
/-- How many of the first k are not alike. -/
def cntT (l l' : List Nd) : Nat → Nat
  | 0 => 0
  | k + 1 => cntT l l' k + (if l[k]? = l'[k]? then 0 else 1)
theorem cntT_le (l l' : List Nd) : ∀ k, cntT l l' k ≤ k
  | 0 => Nat.le_refl _
  | k + 1 => by
    have := cntT_le l l' k
    unfold cntT
    split <;> omega
theorem cntT_none {l l' : List Nd} : ∀ {k : Nat}, (∀ i, i < k → l[i]? = l'[i]?) → cntT l l' k = 0
  | 0, _ => rfl
  | k + 1, h => by
    have := cntT_none (k := k) (fun i hi => h i (by omega))
    unfold cntT
    rw [this, if_pos (h k (by omega))]
theorem cntT_one {l l' : List Nd} {j : Nat} : ∀ {k : Nat}, (∀ i, i < k → i ≠ j → l[i]? = l'[i]?) → cntT l l' k ≤ 1
  | 0, _ => by simp [cntT]
  | k + 1, h => by
    by_cases e : k = j
    · have := cntT_none (l := l) (l' := l') (k := k) (fun i hi => h i (by omega) (by omega))
      unfold cntT
      rw [this]
      split <;> omega
    · have := cntT_one (k := k) (fun i hi hj => h i (by omega) hj)
      unfold cntT
      rw [if_pos (h k (by omega) e)]
      omega
theorem cntT_yes {l l' : List Nd} {k : Nat} (h1 : k < l.length) (h2 : k < l'.length) (h : eqN l[k] l'[k] = true) : cntT l l' (k + 1) = cntT l l' k := by
  unfold eqN at h
  simp at h
  show cntT l l' k + _ = _
  rw [List.getElem?_eq_getElem h1, List.getElem?_eq_getElem h2, h, if_pos rfl]
  rfl
theorem cntT_no {l l' : List Nd} {k : Nat} (h1 : k < l.length) (h2 : k < l'.length) (h : eqN l[k] l'[k] = false) : cntT l l' (k + 1) = cntT l l' k + 1 := by
  unfold eqN at h
  simp at h
  show cntT l l' k + _ = _
  rw [List.getElem?_eq_getElem h1, List.getElem?_eq_getElem h2, if_neg (by simpa using h)]
set_option maxHeartbeats 4000000 in
theorem keeps_walk {w : World} {ro : Option Addr} {rs : List Raw4} {rc : Nat} (hr : RawsAt w ro rs) (hl : rs.length ≤ maxLen) (hok : ∀ r ∈ rs, r.ok) (rm : Int) (hrm : I64 rm) (x : Raw4) (hx : x.ok) :
    Calls Try.prog 7 #[.int .i64 rm, .slice ro rs.length rc, rawV x] w fun e w' => e = .returned (.bool true) ∧ Below w.heap.size w w' := by
  obtain ⟨W0, hW0⟩ : ∃ W0, W0 = w.alloc (.cells #[.int .i64 x.1, .int .i64 x.2.1, .int .i64 x.2.2.1, .int .i64 x.2.2.2] 53) := ⟨_, rfl⟩
  have k0 : Same0 w W0 := by rw [hW0]; exact (Kept.refl _ w).alloc _
  have hb : W0.heap[w.heap.size]? = some (.cells #[.int .i64 x.1, .int .i64 x.2.1, .int .i64 x.2.2.1, .int .i64 x.2.2.2] 53 (0, 0)) := by rw [hW0]; exact heap_alloc_new w _
  have CA := awake11_any W0
  have CG : Hid (∀ ww, Same0 W0 ww → Calls Try.prog 16 #[.int .i64 rm, .slice ro rs.length rc] ww fun e w' => ∃ h g room l, e = .returned (.pointer (some ⟨h, 0, none⟩)) ∧ Hp w' h g room l ∧ Same0 ww w' ∧ ww.heap.size ≤ h ∧ ww.heap.size ≤ g) := fun ww hk => grown_any ((hr.same k0).same hk) hl hok rm hrm
  have HXK : Hid (x.ok) := hx
  obtain ⟨hx0, hx1, hx2, hx3⟩ := hx
  clear hr hl hok hrm
  go_enter Try.func7, Try.ntmps7
  go_upto_region 1 with fail
  rw [← hW0]
  clear hW0
  go_upto_region 2 with (first | (go_at_call 12; refine CA.mono ?_; rintro e w1 ⟨rfl, k1⟩))
  have CG1 := CG.out w1 k1
  clear CG CA
  go_upto_region 5 with (first | (go_at_call 16; refine CG1.mono ?_; rintro e w2 ⟨h, g, room, l, rfl, p2, k2, hh, hg⟩))
  clear CG1
  have K2 := k1.trans' k2
  have hq0 : w.heap.size < W0.heap.size := lt_of_at hb
  have hh' : W0.heap.size ≤ h := Nat.le_trans k1.size hh
  have hg' : W0.heap.size ≤ g := Nat.le_trans k1.size hg
  have C3 := told_any p2
  go_upto_region 6 with (first | (go_at_call 17; refine C3.mono ?_; rintro e w3 ⟨v3, rfl, r3, k3⟩))
  have p3 := p2.same k3
  have hle := p2.le
  have hr2 := p2.rm2
  have hlh := p2.ltH
  have hlg := p2.ltG
  have K3 := K2.trans' k3
  obtain ⟨b0, b1, b2, b3⟩ := box4 (K3.at0 hb)
  have C4 := step_any p3 x HXK.out
  clear C3 p2
  go_upto_region 7 with (first | (go_at_call 23; refine C4.mono ?_; rintro e w4 ⟨er, l', rfl, p4, k4, hq4⟩))
  have K4 : Same0 W0 w4 := K3.heap hh' hg' k4
  have r4 : NRow (fun b => w2.heap.size ≤ b) w2.heap.size w4 v3 l := r3.kept k4 (fun k e s => by have := (r3.block e).1; omega) (fun k e s => by omega)
  have C5 := told_any p4
  have hle4 := p4.le
  clear C4 b0 b1 b2 b3 r3 p3
  go_upto_region 8 with (first | (go_at_call 17; refine C5.mono ?_; rintro e w5 ⟨v5, rfl, r5, k5⟩))
  have r45 := r4.same k5
  have K5 := K4.trans' k5
  obtain ⟨ao, ac, rfl⟩ := r45.shape
  obtain ⟨bo, bc, rfl⟩ := r5.shape
  have M4 : Hid (∀ ww, Same0 w5 ww → NsM (fun b => w2.heap.size ≤ b) ww ao l) := fun ww hk => (r45.same hk).mem
  have M5 : Hid (∀ ww, Same0 w5 ww → NsM (fun b => w4.heap.size ≤ b) ww bo l') := fun ww hk => (r5.same hk).mem
  have HBX : Hid (∀ ww, Same0 w5 ww → ww.cell? ⟨w.heap.size, 0, none⟩ = some (.int .i64 x.1) ∧ ww.cell? ⟨w.heap.size, 1, none⟩ = some (.int .i64 x.2.1) ∧ ww.cell? ⟨w.heap.size, 2, none⟩ = some (.int .i64 x.2.2.1) ∧ ww.cell? ⟨w.heap.size, 3, none⟩ = some (.int .i64 x.2.2.2)) := fun ww hk => box4 ((K5.trans' hk).at0 hb)
  have HKF : Hid (∀ ww, Same0 w5 ww → Below w.heap.size w ww) := fun ww hk => Same0.below ((k0.trans' K5).trans' hk)
  have KR : Same0 w5 w5 := Kept.refl _ _
  have h7 := pick_lt x.1 (show (0 : Int) < 7 by decide)
  have C7 := fun ww => pick_any x.1 hx0 7 (by decide) (by decide) ww
  have l0 : (0 : Int) ≤ (l.length : Int) := by omega
  have l1 : (l.length : Int) ≤ 4000 := by omega
  have l2 : (l'.length : Int) ≤ 4000 := by omega
  clear C5 r4 r5 r45 K2 K3 K4 K5 k0 k1 k2 k3 k4 k5 hb p4
  rcases hq4 with ⟨he, hl'⟩ | ⟨he, hK, y, hl'⟩ | ⟨he, hK, hi, hl'⟩ | ⟨he, hK, hi, hp, hl'⟩
  · have HC0 : Hid (cntT l l' l.length = 0) := cntT_none (fun i _ => by rw [hl'])
    have hll : (l'.length : Int) = (l.length : Int) := by rw [hl']
    have hlx : l.length ≤ l'.length := by omega
    clear hl'
    go_upto_region 12 with fail
    go_loopw [14, 15] (fun t i wr => ∃ (k : Nat), i = .int .i64 (k : Int) ∧ k ≤ l.length ∧ t = .int .i64 (cntT l l' k : Int) ∧ Same0 w5 wr) (fun _ i _ => l.length - (intOf i).toNat)
    case atStart => exact ⟨0, rfl, Nat.zero_le _, rfl, KR⟩
    case round =>
      clear KR
      obtain ⟨k, rfl, hk, rfl, hw⟩ := hrel
      by_cases hlt : k < l.length
      · have hlt' : k < l'.length := by omega
        have j1 : (k : Int) < (l.length : Int) := by omega
        have j2 : (0 : Int) ≤ (k : Int) := by omega
        have j3 : (k : Int) < (l'.length : Int) := by omega
        have hct := cntT_le l l' k
        rcases M4.out wr.drew (hw.drew) with e | ⟨mb, moff, e, hmb, hm⟩
        · subst e; simp at hlt
        subst e
        rcases M5.out wr.drew (hw.drew) with e | ⟨nb, noff, e, hnb, hn⟩
        · subst e; simp at hlt'
        subst e
        obtain ⟨xo, xc, m0, m1, m2, m3, m4, m5, -⟩ := hm k hlt
        obtain ⟨yo, yc, n0, n1, n2, n3, n4, n5, -⟩ := hn k hlt'
        have CS := sameNode_any m5.1 n5.1
        have HCY : Hid (eqN l[k] l'[k] = true → cntT l l' (k + 1) = cntT l l' k) := fun h => cntT_yes hlt hlt' h
        have HCN : Hid (eqN l[k] l'[k] = false → cntT l l' (k + 1) = cntT l l' k + 1) := fun h => cntT_no hlt hlt' h
        obtain ⟨tk, htk⟩ : ∃ tk, tk = cntT l l' k := ⟨_, rfl⟩
        rw [← htk] at hct HCY HCN ⊢
        clear hm hn m5 n5 htk
        generalize eqN l[k] l'[k] = R at *
        go_upto_region 14 with fail
        go_region_with (first | (go_at_call 24; refine CS.mono ?_; rintro e w8 ⟨rfl, k8⟩))
        all_goals
          have hw8 : Same0 w5 w8 := Same0.trans' (Kept.drew hw) k8
          clear m0 m1 m2 m3 m4 n0 n1 n2 n3 n4 CS
          cases R
          · go_wp2
            go_roundw
            case rel => first | exact ⟨k + 1, by go_num, by omega, by rw [HCN.out rfl]; go_num, hw8⟩ | ((repeat apply Exists.intro); exact ⟨⟨k + 1, by go_num, by omega, by rw [HCN.out rfl]; go_num, hw8⟩, rfl⟩)
            case measure => simp [intOf]; omega
          · go_wp2
            go_roundw
            case rel => first | exact ⟨k + 1, by go_num, by omega, by rw [HCY.out rfl], hw8⟩ | ((repeat apply Exists.intro); exact ⟨⟨k + 1, by go_num, by omega, by rw [HCY.out rfl], hw8⟩, rfl⟩)
            case measure => simp [intOf]; omega
      · obtain rfl : k = l.length := by omega
        obtain ⟨b0, b1, b2, b3⟩ := HBX.out wr hw
        rw [HC0.out]
        go_wp2_with (first | (go_at_call 25; refine (C7 _).mono ?_; rintro e w9 ⟨rfl, h9⟩; have h9 := h9.symm; subst h9))
        go_ret
        refine ⟨?_, HKF.out _ hw⟩
        exact ret_bool (by simpa using he)
  · have HC0 : Hid (cntT l l' l.length = 0) := cntT_none (fun i hi => by rw [hl', List.getElem?_append_left hi])
    have hK' : (pickF x.1 7 : Int) < 4 := by omega
    have hll : (l'.length : Int) = (l.length : Int) + 1 := by rw [hl']; simp
    have hlx : l.length ≤ l'.length := by omega
    subst he
    clear hl' hK
    go_upto_region 12 with fail
    go_loopw [14, 15] (fun t i wr => ∃ (k : Nat), i = .int .i64 (k : Int) ∧ k ≤ l.length ∧ t = .int .i64 (cntT l l' k : Int) ∧ Same0 w5 wr) (fun _ i _ => l.length - (intOf i).toNat)
    case atStart => exact ⟨0, rfl, Nat.zero_le _, rfl, KR⟩
    case round =>
      clear KR
      obtain ⟨k, rfl, hk, rfl, hw⟩ := hrel
      by_cases hlt : k < l.length
      · have hlt' : k < l'.length := by omega
        have j1 : (k : Int) < (l.length : Int) := by omega
        have j2 : (0 : Int) ≤ (k : Int) := by omega
        have j3 : (k : Int) < (l'.length : Int) := by omega
        have hct := cntT_le l l' k
        rcases M4.out wr.drew (hw.drew) with e | ⟨mb, moff, e, hmb, hm⟩
        · subst e; simp at hlt
        subst e
        rcases M5.out wr.drew (hw.drew) with e | ⟨nb, noff, e, hnb, hn⟩
        · subst e; simp at hlt'
        subst e
        obtain ⟨xo, xc, m0, m1, m2, m3, m4, m5, -⟩ := hm k hlt
        obtain ⟨yo, yc, n0, n1, n2, n3, n4, n5, -⟩ := hn k hlt'
        have CS := sameNode_any m5.1 n5.1
        have HCY : Hid (eqN l[k] l'[k] = true → cntT l l' (k + 1) = cntT l l' k) := fun h => cntT_yes hlt hlt' h
        have HCN : Hid (eqN l[k] l'[k] = false → cntT l l' (k + 1) = cntT l l' k + 1) := fun h => cntT_no hlt hlt' h
        obtain ⟨tk, htk⟩ : ∃ tk, tk = cntT l l' k := ⟨_, rfl⟩
        rw [← htk] at hct HCY HCN ⊢
        clear hm hn m5 n5 htk
        generalize eqN l[k] l'[k] = R at *
        go_upto_region 14 with fail
        go_region_with (first | (go_at_call 24; refine CS.mono ?_; rintro e w8 ⟨rfl, k8⟩))
        all_goals
          have hw8 : Same0 w5 w8 := Same0.trans' (Kept.drew hw) k8
          clear m0 m1 m2 m3 m4 n0 n1 n2 n3 n4 CS
          cases R
          · go_wp2
            go_roundw
            case rel => first | exact ⟨k + 1, by go_num, by omega, by rw [HCN.out rfl]; go_num, hw8⟩ | ((repeat apply Exists.intro); exact ⟨⟨k + 1, by go_num, by omega, by rw [HCN.out rfl]; go_num, hw8⟩, rfl⟩)
            case measure => simp [intOf]; omega
          · go_wp2
            go_roundw
            case rel => first | exact ⟨k + 1, by go_num, by omega, by rw [HCY.out rfl], hw8⟩ | ((repeat apply Exists.intro); exact ⟨⟨k + 1, by go_num, by omega, by rw [HCY.out rfl], hw8⟩, rfl⟩)
            case measure => simp [intOf]; omega
      · obtain rfl : k = l.length := by omega
        obtain ⟨b0, b1, b2, b3⟩ := HBX.out wr hw
        rw [HC0.out]
        go_wp2_with (first | (go_at_call 25; refine (C7 _).mono ?_; rintro e w9 ⟨rfl, h9⟩; have h9 := h9.symm; subst h9))
        go_ret
        refine ⟨?_, HKF.out _ hw⟩
        exact ret_bool (by simp; omega)
  · have HC1 : Hid (cntT l l' l.length ≤ 1) := cntT_one (j := pickF x.2.1 (l.length : Int)) (fun i hi hj => by rw [hl', List.getElem?_set_ne (by omega)])
    have hll : (l'.length : Int) = (l.length : Int) := by rw [hl']; simp
    have hlx : l.length ≤ l'.length := by omega
    have hK1 : ¬ (pickF x.1 7 : Int) < 4 := by omega
    have hK2 : ((pickF x.1 7 : Int) == 6) = false := by simp; omega
    have hi' : pickF x.2.1 (l.length : Int) < l'.length := by omega
    have HAT : Hid (l'[pickF x.2.1 (l.length : Int)] = indN (pickF x.2.2.1 (l.length : Int))) := by show _ = _; simp only [hl']; rw [List.getElem_set_self]
    have hn1 : 1 ≤ (l.length : Int) := by omega
    have CN := fun ww => pick_any x.2.1 hx1 (l.length : Int) hn1 (by omega) ww
    have CM := fun ww => pick_any x.2.2.1 hx2 (l.length : Int) hn1 (by omega) ww
    subst he
    clear hl' hK
    generalize pickF x.2.1 (l.length : Int) = I at *
    generalize pickF x.2.2.1 (l.length : Int) = M at *
    have i0 : (0 : Int) ≤ (I : Int) := by omega
    have i1 : (I : Int) < (l'.length : Int) := by omega
    go_upto_region 12 with fail
    go_loopw [14, 15] (fun t i wr => ∃ (k : Nat), i = .int .i64 (k : Int) ∧ k ≤ l.length ∧ t = .int .i64 (cntT l l' k : Int) ∧ Same0 w5 wr) (fun _ i _ => l.length - (intOf i).toNat)
    case atStart => exact ⟨0, rfl, Nat.zero_le _, rfl, KR⟩
    case round =>
      clear KR
      obtain ⟨k, rfl, hk, rfl, hw⟩ := hrel
      by_cases hlt : k < l.length
      · have hlt' : k < l'.length := by omega
        have j1 : (k : Int) < (l.length : Int) := by omega
        have j2 : (0 : Int) ≤ (k : Int) := by omega
        have j3 : (k : Int) < (l'.length : Int) := by omega
        have hct := cntT_le l l' k
        rcases M4.out wr.drew (hw.drew) with e | ⟨mb, moff, e, hmb, hm⟩
        · subst e; simp at hlt
        subst e
        rcases M5.out wr.drew (hw.drew) with e | ⟨nb, noff, e, hnb, hn⟩
        · subst e; simp at hlt'
        subst e
        obtain ⟨xo, xc, m0, m1, m2, m3, m4, m5, -⟩ := hm k hlt
        obtain ⟨yo, yc, n0, n1, n2, n3, n4, n5, -⟩ := hn k hlt'
        have CS := sameNode_any m5.1 n5.1
        have HCY : Hid (eqN l[k] l'[k] = true → cntT l l' (k + 1) = cntT l l' k) := fun h => cntT_yes hlt hlt' h
        have HCN : Hid (eqN l[k] l'[k] = false → cntT l l' (k + 1) = cntT l l' k + 1) := fun h => cntT_no hlt hlt' h
        obtain ⟨tk, htk⟩ : ∃ tk, tk = cntT l l' k := ⟨_, rfl⟩
        rw [← htk] at hct HCY HCN ⊢
        clear hm hn m5 n5 htk
        generalize eqN l[k] l'[k] = R at *
        go_upto_region 14 with fail
        go_region_with (first | (go_at_call 24; refine CS.mono ?_; rintro e w8 ⟨rfl, k8⟩))
        all_goals
          have hw8 : Same0 w5 w8 := Same0.trans' (Kept.drew hw) k8
          clear m0 m1 m2 m3 m4 n0 n1 n2 n3 n4 CS
          cases R
          · go_wp2
            go_roundw
            case rel => first | exact ⟨k + 1, by go_num, by omega, by rw [HCN.out rfl]; go_num, hw8⟩ | ((repeat apply Exists.intro); exact ⟨⟨k + 1, by go_num, by omega, by rw [HCN.out rfl]; go_num, hw8⟩, rfl⟩)
            case measure => simp [intOf]; omega
          · go_wp2
            go_roundw
            case rel => first | exact ⟨k + 1, by go_num, by omega, by rw [HCY.out rfl], hw8⟩ | ((repeat apply Exists.intro); exact ⟨⟨k + 1, by go_num, by omega, by rw [HCY.out rfl], hw8⟩, rfl⟩)
            case measure => simp [intOf]; omega
      · obtain rfl : k = l.length := by omega
        obtain ⟨b0, b1, b2, b3⟩ := HBX.out wr hw
        have hct1 := HC1.out
        obtain ⟨tk, htk⟩ : ∃ tk, tk = cntT l l' l.length := ⟨_, rfl⟩
        rw [← htk] at hct1 ⊢
        have tk1 : (tk : Int) ≤ 1 := by omega
        clear htk
        go_upto_region 20 with (first | (go_at_call 25; refine (C7 _).mono ?_; rintro e w9 ⟨rfl, h9⟩; have h9 := h9.symm; subst h9))
        go_upto_region 23 with (first | (go_at_call 25; refine (CN _).mono ?_; rintro e w9 ⟨rfl, h9⟩; have h9 := h9.symm; subst h9))
        rcases M5.out wr hw with e | ⟨nb, noff, e, hnb, hn⟩
        · subst e; simp at hi'
        subst e
        obtain ⟨yo, yc, n0, n1, n2, n3, n4, -, -⟩ := hn I hi'
        rw [HAT.out] at n3 n4
        clear hn n0 n1 n2
        go_quiet ((go_at_call 25; exact Calls.quiet_of_same (CM _)))
        go_wp2
        go_ret
        exact ⟨rfl, HKF.out _ (hw.drewN _)⟩
  · have HC1 : Hid (cntT l l' l.length ≤ 1) := cntT_one (j := pickF x.2.1 (l.length : Int)) (fun i hi hj => by rw [hl', List.getElem?_set_ne (by omega)])
    have hll : (l'.length : Int) = (l.length : Int) := by rw [hl']; simp
    have hlx : l.length ≤ l'.length := by omega
    have hK1 : ¬ (pickF x.1 7 : Int) < 4 := by omega
    have hK2 : ((pickF x.1 7 : Int) == 6) = true := by simp; omega
    have hi' : pickF x.2.1 (l.length : Int) < l'.length := by omega
    have HAT : Hid (l'[pickF x.2.1 (l.length : Int)].2.2.1 = (pickF x.2.2.1 3 : Int) ∧ l'[pickF x.2.1 (l.length : Int)].2.2.2.1 = false) := by (show _ ∧ _); simp only [hl']; rw [List.getElem_set_self]; exact ⟨rfl, hp⟩
    have hn1 : 1 ≤ (l.length : Int) := by omega
    have CN := fun ww => pick_any x.2.1 hx1 (l.length : Int) hn1 (by omega) ww
    have CM := fun ww => pick_any x.2.2.1 hx2 3 (by decide) (by decide) ww
    subst he
    clear hl' hK hp
    generalize pickF x.2.1 (l.length : Int) = I at *
    generalize pickF x.2.2.1 3 = M at *
    have i0 : (0 : Int) ≤ (I : Int) := by omega
    have i1 : (I : Int) < (l'.length : Int) := by omega
    go_upto_region 12 with fail
    go_loopw [14, 15] (fun t i wr => ∃ (k : Nat), i = .int .i64 (k : Int) ∧ k ≤ l.length ∧ t = .int .i64 (cntT l l' k : Int) ∧ Same0 w5 wr) (fun _ i _ => l.length - (intOf i).toNat)
    case atStart => exact ⟨0, rfl, Nat.zero_le _, rfl, KR⟩
    case round =>
      clear KR
      obtain ⟨k, rfl, hk, rfl, hw⟩ := hrel
      by_cases hlt : k < l.length
      · have hlt' : k < l'.length := by omega
        have j1 : (k : Int) < (l.length : Int) := by omega
        have j2 : (0 : Int) ≤ (k : Int) := by omega
        have j3 : (k : Int) < (l'.length : Int) := by omega
        have hct := cntT_le l l' k
        rcases M4.out wr.drew (hw.drew) with e | ⟨mb, moff, e, hmb, hm⟩
        · subst e; simp at hlt
        subst e
        rcases M5.out wr.drew (hw.drew) with e | ⟨nb, noff, e, hnb, hn⟩
        · subst e; simp at hlt'
        subst e
        obtain ⟨xo, xc, m0, m1, m2, m3, m4, m5, -⟩ := hm k hlt
        obtain ⟨yo, yc, n0, n1, n2, n3, n4, n5, -⟩ := hn k hlt'
        have CS := sameNode_any m5.1 n5.1
        have HCY : Hid (eqN l[k] l'[k] = true → cntT l l' (k + 1) = cntT l l' k) := fun h => cntT_yes hlt hlt' h
        have HCN : Hid (eqN l[k] l'[k] = false → cntT l l' (k + 1) = cntT l l' k + 1) := fun h => cntT_no hlt hlt' h
        obtain ⟨tk, htk⟩ : ∃ tk, tk = cntT l l' k := ⟨_, rfl⟩
        rw [← htk] at hct HCY HCN ⊢
        clear hm hn m5 n5 htk
        generalize eqN l[k] l'[k] = R at *
        go_upto_region 14 with fail
        go_region_with (first | (go_at_call 24; refine CS.mono ?_; rintro e w8 ⟨rfl, k8⟩))
        all_goals
          have hw8 : Same0 w5 w8 := Same0.trans' (Kept.drew hw) k8
          clear m0 m1 m2 m3 m4 n0 n1 n2 n3 n4 CS
          cases R
          · go_wp2
            go_roundw
            case rel => first | exact ⟨k + 1, by go_num, by omega, by rw [HCN.out rfl]; go_num, hw8⟩ | ((repeat apply Exists.intro); exact ⟨⟨k + 1, by go_num, by omega, by rw [HCN.out rfl]; go_num, hw8⟩, rfl⟩)
            case measure => simp [intOf]; omega
          · go_wp2
            go_roundw
            case rel => first | exact ⟨k + 1, by go_num, by omega, by rw [HCY.out rfl], hw8⟩ | ((repeat apply Exists.intro); exact ⟨⟨k + 1, by go_num, by omega, by rw [HCY.out rfl], hw8⟩, rfl⟩)
            case measure => simp [intOf]; omega
      · obtain rfl : k = l.length := by omega
        obtain ⟨b0, b1, b2, b3⟩ := HBX.out wr hw
        have hct1 := HC1.out
        obtain ⟨tk, htk⟩ : ∃ tk, tk = cntT l l' l.length := ⟨_, rfl⟩
        rw [← htk] at hct1 ⊢
        have tk1 : (tk : Int) ≤ 1 := by omega
        clear htk
        go_upto_region 20 with (first | (go_at_call 25; refine (C7 _).mono ?_; rintro e w9 ⟨rfl, h9⟩; have h9 := h9.symm; subst h9))
        go_upto_region 22 with (first | (go_at_call 25; refine (CN _).mono ?_; rintro e w9 ⟨rfl, h9⟩; have h9 := h9.symm; subst h9))
        rcases M5.out wr hw with e | ⟨nb, noff, e, hnb, hn⟩
        · subst e; simp at hi'
        subst e
        obtain ⟨yo, yc, n0, n1, n2, n3, n4, -, -⟩ := hn I hi'
        rw [HAT.out.1] at n2
        rw [HAT.out.2] at n3
        clear hn n0 n1 n4
        go_quiet ((go_at_call 25; exact Calls.quiet_of_same (CM _)))
        go_wp2
        go_ret
        exact ⟨rfl, HKF.out _ (hw.drewN _)⟩
end Go.Proofs.Ytcbplgfkgkefeaa
