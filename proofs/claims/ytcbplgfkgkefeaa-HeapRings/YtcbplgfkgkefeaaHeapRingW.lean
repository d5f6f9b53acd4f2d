/- The walk of HeapRings. -/
import Derived.Test.YtcbplgfkgkefeaaHeapRingX
namespace Go.Proofs.Ytcbplgfkgkefeaa
set_option maxRecDepth 100000
set_option linter.unusedVariables false
open Go.RowKit
attribute [local go_sem ↓] Go.wp_at_zero Go.wp_at_succ
set_option maxHeartbeats 2000000 in
theorem rings_walk {w : World} {ro : Option Addr} {rs : List Raw4} {rc : Nat} (hr : RawsAt w ro rs) (hl : rs.length ≤ maxLen) (hok : ∀ r ∈ rs, r.ok) (rm : Int) (hrm : I64 rm) :
    Calls Try.prog 5 #[.int .i64 rm, .slice ro rs.length rc] w fun e w' => e = .returned (.bool true) ∧ Below w.heap.size w w' := by
  have CA := awake11_any w
  have CG : Hid (∀ ww, Same0 w ww → Calls Try.prog 16 #[.int .i64 rm, .slice ro rs.length rc] ww fun e w' => ∃ h g room l, e = .returned (.pointer (some ⟨h, 0, none⟩)) ∧ Hp w' h g room l ∧ Same0 ww w' ∧ ww.heap.size ≤ h ∧ ww.heap.size ≤ g) := fun ww hk => grown_any (hr.same hk) hl hok rm hrm
  clear hr hl hok hrm
  go_enter Try.func5, Try.ntmps5
  go_upto_region 2 with (first | (go_at_call 12; refine CA.mono ?_; rintro e w1 ⟨rfl, k1⟩))
  have CG1 := CG.out w1 k1
  clear CG CA
  go_upto_region 5 with (first | (go_at_call 16; refine CG1.mono ?_; rintro e w2 ⟨h, g, room, l, rfl, p2, k2, -, -⟩))
  clear CG1
  have C3 := told_any p2
  have hle := p2.le
  have hr2 := p2.rm2
  go_upto_region 6 with (first | (go_at_call 17; refine C3.mono ?_; rintro e w3 ⟨v3, rfl, r3, k3⟩))
  have CU := used_any (p2.same k3)
  obtain ⟨ao, ac, rfl⟩ := r3.shape
  have HM : Hid (∀ ww, Same0 w3 ww → NsM (fun b => w2.heap.size ≤ b) ww ao l) := fun ww hk => (r3.same hk).mem
  have HI : Hid (InL l) := p2.inl
  have HW : Hid (∀ x ∈ l, x.2.1.length ≤ 6) := fun x hx => (may_facts (p2.may x hx)).2.1
  have HAC : Hid (Ac l) := p2.ac
  have HK : Hid (∀ ww, Same0 w3 ww → Below w.heap.size w ww) := fun ww hk => Same0.below (((k1.trans' k2).trans' k3).trans' hk)
  have KR : Same0 w3 w3 := Kept.refl _ _
  have l0 : (0 : Int) ≤ (l.length : Int) := by omega
  have l1 : (l.length : Int) ≤ 4000 := by omega
  clear C3 p2 r3 k1 k2 k3
  go_upto_region 9 with (first | (go_at_call 18; refine CU.mono ?_; rintro e w4 ⟨rfl, h4⟩; have h4 := h4.symm; subst h4))
  clear CU
  go_loopw [9] (fun i wr => ∃ (j : Nat), i = .int .i64 (j : Int) ∧ j ≤ l.length ∧ Same0 w3 wr) (fun i _ => l.length - (intOf i).toNat)
  case atStart => exact ⟨0, rfl, Nat.zero_le _, KR⟩
  case round =>
    clear KR
    obtain ⟨j, rfl, hj, hw⟩ := hrel
    by_cases hjl : j < l.length
    · have j1 : (j : Int) < (l.length : Int) := by omega
      have j2 : (0 : Int) ≤ (j : Int) := by omega
      rcases HM.out wr hw with e | ⟨nb, noff, e, hnb, hn⟩
      · subst e; simp at hjl
      subst e
      obtain ⟨xo, xc, n0, n1, n2, n3, n4, n5, -⟩ := hn j hjl
      have CD := down_any n5
      have HD : Hid (∀ z ∈ downL l[j], 0 ≤ z ∧ z < (l.length : Int)) := HI.out j hjl
      have dl : (downL l[j]).length ≤ 1000 := by have := HW.out _ (List.getElem_mem hjl); unfold downL; split <;> (simp; try omega)
      generalize downL l[j] = D at *
      clear n5 hn
      go_upto_region 13 with (first | (go_at_call 19; refine CD.mono ?_; rintro e w5 ⟨bo, bc, rfl, hD, -, k5⟩))
      have hw5 := hw.trans' k5
      have HDI : Hid (IntsAt w5 bo D) := hD
      clear CD n0 n1 n2 n3 n4 hD k5
      go_loop [11] (fun c => ∃ q : Nat, q ≤ D.length ∧ c = .int .i64 (q : Int)) (fun c => D.length - (intOf c).toNat)
      case atStart => exact ⟨0, Nat.zero_le _, rfl⟩
      case round =>
        obtain ⟨q, hq, rfl⟩ := hrel
        by_cases hql : q < D.length
        · have q0 : (0 : Int) ≤ (q : Int) := by omega
          have q1 : (q : Int) < (D.length : Int) := by omega
          obtain ⟨db, doff, rfl, -, cD⟩ := HDI.out.get hql
          have hz := HD.out _ (List.getElem_mem hql)
          obtain ⟨z, hze⟩ : ∃ z, z = D[q] := ⟨_, rfl⟩
          rw [← hze] at cD hz
          obtain ⟨z1, z2⟩ := hz
          have z3 : ¬ z < 0 := by omega
          have z4 : ¬ (l.length : Int) ≤ z := by omega
          clear hze
          go_wp2
          go_round
          case rel => first | exact ⟨q + 1, by omega, by go_num⟩ | ((repeat apply Exists.intro); exact ⟨⟨q + 1, by omega, by go_num⟩, rfl⟩)
          case measure => simp [intOf]; omega
        · obtain rfl : q = D.length := by omega
          go_wp2
          go_roundw
          case rel => first | exact ⟨j + 1, by go_num, by omega, hw5⟩ | ((repeat apply Exists.intro); exact ⟨⟨j + 1, by go_num, by omega, hw5⟩, rfl⟩)
          case measure => simp [intOf]; omega
    · obtain rfl : j = l.length := by omega
      have CR := ring_any (ac := ac) (HM.out wr hw) HI.out HW.out (by omega)
      go_wp2_with (first | (go_at_call 20; refine CR.mono ?_; rintro e w6 ⟨b, rfl, hb, k6⟩; obtain rfl : b = false := (by cases b; rfl; exact absurd HAC.out (hb.1 rfl))))
      go_ret
      exact ⟨rfl, HK.out _ (hw.trans' k6)⟩
end Go.Proofs.Ytcbplgfkgkefeaa
