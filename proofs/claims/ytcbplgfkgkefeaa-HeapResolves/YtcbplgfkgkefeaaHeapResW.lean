/- The walk of HeapResolves. -/
import Derived.Test.YtcbplgfkgkefeaaHeapGrown
namespace Go.Proofs.Ytcbplgfkgkefeaa
set_option maxRecDepth 100000
set_option linter.unusedVariables false
open Go.RowKit
attribute [local go_sem ↓] Go.wp_at_zero Go.wp_at_succ
theorem Res.to {l : List Nd} {a b c t : Nat} (ha : a < l.length) (hp : l[a].2.2.2.1 = true) (ht : l[a].2.2.2.2 = (t : Int)) (h : Res l a b) (h' : Res l t c) : c = b := by
  have : Res l a c := Res.step ha hp (by rw [ht]; simpa using h')
  exact this.uniq h
/-- The box in which a node lies that came out. -/
theorem box_node (w : World) (x : Nd) (ao : Option Addr) (ac : Nat) {ww : World} (hk : Same0 (w.alloc (.cells #[.int .i64 x.1, .slice ao x.2.1.length ac, .int .i64 x.2.2.1, .bool x.2.2.2.1, .int .i64 x.2.2.2.2] 45)) ww) :
    ww.cell? ⟨w.heap.size, 0, none⟩ = some (.int .i64 x.1) ∧ ww.cell? ⟨w.heap.size, 1, none⟩ = some (.slice ao x.2.1.length ac) ∧ ww.cell? ⟨w.heap.size, 2, none⟩ = some (.int .i64 x.2.2.1) ∧ ww.cell? ⟨w.heap.size, 3, none⟩ = some (.bool x.2.2.2.1) ∧ ww.cell? ⟨w.heap.size, 4, none⟩ = some (.int .i64 x.2.2.2.2) :=
  box5 (hk.at0 (heap_alloc_new w _))
set_option maxHeartbeats 2000000 in
theorem resolves_walk {w : World} {ro : Option Addr} {rs : List Raw4} {rc : Nat} (hr : RawsAt w ro rs) (hl : rs.length ≤ maxLen) (hok : ∀ r ∈ rs, r.ok) (rm : Int) (hrm : I64 rm) :
    Calls Try.prog 6 #[.int .i64 rm, .slice ro rs.length rc] w fun e w' => e = .returned (.bool true) ∧ Below w.heap.size w w' := by
  have CA := awake11_any w
  have CG : Hid (∀ ww, Same0 w ww → Calls Try.prog 16 #[.int .i64 rm, .slice ro rs.length rc] ww fun e w' => ∃ h g room l, e = .returned (.pointer (some ⟨h, 0, none⟩)) ∧ Hp w' h g room l ∧ Same0 ww w' ∧ ww.heap.size ≤ h ∧ ww.heap.size ≤ g) := fun ww hk => grown_any (hr.same hk) hl hok rm hrm
  clear hr hl hok hrm
  go_enter Try.func6, Try.ntmps6
  go_upto_region 2 with (first | (go_at_call 12; refine CA.mono ?_; rintro e w1 ⟨rfl, k1⟩))
  have CG1 := CG.out w1 k1
  clear CG CA
  go_upto_region 6 with (first | (go_at_call 16; refine CG1.mono ?_; rintro e w2 ⟨h, g, room, l, rfl, p2, k2, -, -⟩))
  clear CG1
  have hle := p2.le
  have hr2 := p2.rm2
  have HP : Hid (∀ ww, Same0 w2 ww → Hp ww h g room l) := fun ww hk => p2.same hk
  have HK : Hid (∀ ww, Same0 w2 ww → Below w.heap.size w ww) := fun ww hk => Same0.below ((k1.trans' k2).trans' hk)
  have HM : Hid (∀ x ∈ l, mayB l.length x = true) := p2.may
  have KR : Same0 w2 w2 := Kept.refl _ _
  clear p2 k2 k1
  go_loopw [7] (fun i wr => ∃ (a : Nat), i = .int .i64 (a : Int) ∧ a ≤ l.length ∧ Same0 w2 wr) (fun i _ => l.length - (intOf i).toNat)
  case atStart => exact ⟨0, rfl, Nat.zero_le _, KR⟩
  case round =>
    clear KR
    obtain ⟨a, rfl, ha, hw⟩ := hrel
    have pr := HP.out wr hw
    have CU := used_any pr
    by_cases hlt : a < l.length
    · have j1 : (a : Int) < (l.length : Int) := by omega
      have C1 := hat_yes pr a hlt
      clear pr
      go_upto_region 9 with (first | (go_at_call 18; refine CU.mono ?_; rintro e w3 ⟨rfl, h3⟩; have h3 := h3.symm; subst h3) | (go_at_call 21; refine C1.mono ?_; rintro e w3 ⟨bo, bc, rfl, -, -, k3⟩))
      obtain ⟨W3, hW3⟩ : ∃ W3, W3 = w3.alloc (.cells #[.int .i64 l[a].1, .slice bo l[a].2.1.length bc, .int .i64 l[a].2.2.1, .bool l[a].2.2.2.1, .int .i64 l[a].2.2.2.2] 45) := ⟨_, rfl⟩
      have K3 : Same0 w2 W3 := by rw [hW3]; exact (hw.trans' k3).trans' ((Kept.refl _ _).alloc _)
      have B3 : Hid (∀ ww, Same0 W3 ww → ww.cell? ⟨w3.heap.size, 0, none⟩ = some (.int .i64 l[a].1) ∧ ww.cell? ⟨w3.heap.size, 1, none⟩ = some (.slice bo l[a].2.1.length bc) ∧ ww.cell? ⟨w3.heap.size, 2, none⟩ = some (.int .i64 l[a].2.2.1) ∧ ww.cell? ⟨w3.heap.size, 3, none⟩ = some (.bool l[a].2.2.2.1) ∧ ww.cell? ⟨w3.heap.size, 4, none⟩ = some (.int .i64 l[a].2.2.2.2)) := fun ww hk => box_node w3 l[a] bo bc (by rw [hW3] at hk; exact hk)
      rw [← hW3]
      clear hW3 C1 CU k3
      have C2 := hres_yes (HP.out W3 K3) a hlt
      go_upto_region 10 with (first | (go_at_call 22; refine C2.mono ?_; rintro e w4 ⟨b, rfl, hres, k4⟩))
      have HRS : Hid (Res l a b) := hres
      obtain ⟨hbl, hbp⟩ := hres.2
      have HBP : Hid (l[b].2.2.2.1 = false) := hbp
      have K4 := K3.trans' k4
      have C3 := hat_yes (HP.out w4 K4) b hbl
      clear C2 hres hbp
      go_upto_region 11 with (first | (go_at_call 21; refine C3.mono ?_; rintro e w5 ⟨do', dc, rfl, -, -, k5⟩))
      obtain ⟨W5, hW5⟩ : ∃ W5, W5 = w5.alloc (.cells #[.int .i64 l[b].1, .slice do' l[b].2.1.length dc, .int .i64 l[b].2.2.1, .bool l[b].2.2.2.1, .int .i64 l[b].2.2.2.2] 45) := ⟨_, rfl⟩
      have kk5 : Same0 w4 W5 := by rw [hW5]; exact k5.trans' ((Kept.refl _ _).alloc _)
      have K5 : Same0 w2 W5 := K4.trans' kk5
      obtain ⟨-, -, -, y3, -⟩ := box_node w5 l[b] do' dc (show Same0 _ W5 by rw [hW5]; exact Kept.refl _ _)
      obtain ⟨x0, x1, x2, x3, x4⟩ := B3.out W5 (k4.trans' kk5)
      rw [← hW5]
      rw [HBP.out] at y3
      have KW5 : Same0 W3 W5 := k4.trans' kk5
      clear hW5 C3 k5 kk5 HBP
      have mf := may_facts (HM.out _ (List.getElem_mem hlt))
      obtain ⟨pb, hpb⟩ : ∃ pb, l[a].2.2.2.1 = pb := ⟨_, rfl⟩
      have HPB : Hid (l[a].2.2.2.1 = pb) := hpb
      cases pb
      · have hba : b = a := HRS.out.uniq (Res.self hlt hpb)
        rw [hpb] at x3
        clear mf hpb HPB
        subst hba
        go_wp2
        go_roundw
        case rel => first | exact ⟨b + 1, by go_num, by omega, K5⟩ | ((repeat apply Exists.intro); exact ⟨⟨b + 1, by go_num, by omega, K5⟩, rfl⟩)
        case measure => simp [intOf]; omega
      · obtain ⟨m1, m2, m3, m4, m5⟩ := mf.2.2.2.2.2.1 hpb
        obtain ⟨t, ht⟩ : ∃ t : Nat, l[a].2.2.2.2 = (t : Int) := ⟨l[a].2.2.2.2.toNat, by omega⟩
        have htl : t < l.length := by omega
        have HCB : Hid (∀ c, Res l t c → c = b) := fun c hc => Res.to hlt hpb ht HRS.out hc
        rw [hpb] at x3
        rw [ht] at x4
        rw [m3] at x0
        rw [m4] at x2
        rw [m5] at x1
        have HM3 : Hid (l[a].1 = 0 ∧ l[a].2.2.1 = 0 ∧ l[a].2.1 = []) := ⟨m3, m4, m5⟩
        have C4 := hres_yes (HP.out W5 K5) t htl
        clear mf hpb HPB m1 m2 m3 m4 m5 ht
        go_upto_region 15 with (first | (go_at_call 22; refine C4.mono ?_; rintro e w6 ⟨c, rfl, hc, k6⟩; obtain rfl := HCB.out c hc))
        have K6 := K5.trans' k6
        obtain ⟨z0, z1, z2, z3, z4⟩ := B3.out w6 (KW5.trans' k6)
        rw [HM3.out.1] at z0
        rw [HM3.out.2.1] at z2
        rw [HM3.out.2.2] at z1
        clear x0 x1 x2 x3 x4 z3 z4 y3 C4
        go_wp2
        go_roundw
        case rel => first | exact ⟨a + 1, by go_num, by omega, K6⟩ | ((repeat apply Exists.intro); exact ⟨⟨a + 1, by go_num, by omega, K6⟩, rfl⟩)
        case measure => simp [intOf]; omega
    · obtain rfl : a = l.length := by omega
      have C1 := hres_no pr (l.length : Int) (by omega)
      clear pr
      go_upto_region 18 with (first | (go_at_call 18; refine CU.mono ?_; rintro e w3 ⟨rfl, h3⟩; have h3 := h3.symm; subst h3) | (go_at_call 22; refine C1.mono ?_; rintro e w4 ⟨rfl, k4⟩))
      have C2 := hat_no (HP.out w4 (hw.trans' k4)) (-1) (by omega)
      have HKK : Hid (∀ ww, Same0 w4 ww → Below w.heap.size w ww) := fun ww hk => HK.out ww ((hw.trans' k4).trans' hk)
      clear C1 CU
      go_wp2_with (first | (go_at_call 21; refine C2.mono ?_; rintro e w5 ⟨rfl, k5⟩))
      go_ret
      exact ⟨rfl, HKK.out _ (k5.trans' ((Kept.refl _ _).alloc _))⟩
end Go.Proofs.Ytcbplgfkgkefeaa
