/- The walks of SameInts, SameNode and SameNodes of the document's layer 11. -/
import Derived.Test.YtcbplgfkgkefeaaHeapRow
namespace Go.Proofs.Ytcbplgfkgkefeaa
set_option maxRecDepth 100000
set_option linter.unusedVariables false
open Go.RowKit
attribute [local go_sem ↓] Go.wp_at_zero Go.wp_at_succ
/-- Whether two lists are alike. -/
def eqI (xs ys : List Int) : Bool := decide (xs = ys)
/-- Whether two nodes are alike. -/
def eqN (x y : Nd) : Bool := decide (x = y)
theorem eqI_no {xs ys : List Int} {k : Nat} (h1 : k < xs.length) (h2 : k < ys.length) (h : xs[k] ≠ ys[k]) : eqI xs ys = false := by
  unfold eqI; simp; rintro rfl; exact h rfl
theorem eqI_yes {xs ys : List Int} (hl : xs.length = ys.length) (h : ∀ k (h1 : k < xs.length) (h2 : k < ys.length), xs[k] = ys[k]) : eqI xs ys = true := by
  unfold eqI; simp; exact List.ext_getElem hl (fun k h1 h2 => h k h1 h2)
set_option maxHeartbeats 1000000 in
theorem sameInts_any {w : World} {ao bo : Option Addr} {xs ys : List Int} (ac bc : Nat) (hx : IntsAt w ao xs) (hy : IntsAt w bo ys) (hm : xs.length ≤ maxLen) :
    Calls Try.prog 48 #[.slice ao xs.length ac, .slice bo ys.length bc] w fun e w' => e = .returned (.bool (eqI xs ys)) ∧ Same0 w w' := by
  unfold maxLen at hm
  by_cases hl : xs.length = ys.length
  · have hl' : (xs.length : Int) = (ys.length : Int) := by omega
    have HX : Hid (∀ ww, Same0 w ww → ∀ k (hk : k < xs.length), ∃ b off, ao = some ⟨b, off, none⟩ ∧ ww.cell? ⟨b, off + k, none⟩ = some (.int .i64 xs[k])) := fun ww hw k hk => by
      obtain ⟨b, off, e, _, hc⟩ := (hx.same hw).get hk
      exact ⟨b, off, e, hc⟩
    have HY : Hid (∀ ww, Same0 w ww → ∀ k (hk : k < ys.length), ∃ b off, bo = some ⟨b, off, none⟩ ∧ ww.cell? ⟨b, off + k, none⟩ = some (.int .i64 ys[k])) := fun ww hw k hk => by
      obtain ⟨b, off, e, _, hc⟩ := (hy.same hw).get hk
      exact ⟨b, off, e, hc⟩
    have HL : Hid (xs.length = ys.length) := hl
    have KR : Same0 w w := Kept.refl _ _
    clear hx hy hl
    go_enter Try.func48, Try.ntmps48
    go_wp2
    go_loopw [5] (fun i wr => ∃ k : Nat, k ≤ xs.length ∧ i = .int .i64 k ∧ Hid (∀ j (h1 : j < xs.length) (h2 : j < ys.length), j < k → xs[j] = ys[j]) ∧ Same0 w wr) (fun i _ => xs.length - (intOf i).toNat)
    case atStart => exact ⟨0, Nat.zero_le _, rfl, fun j _ _ hj => absurd hj (Nat.not_lt_zero _), KR⟩
    case round =>
      clear KR
      obtain ⟨k, hk, rfl, hall, hw⟩ := hrel
      by_cases hlt : k < xs.length
      · have hlt' : k < ys.length := by rw [← HL.out]; exact hlt
        obtain ⟨b, off, rfl, hc⟩ := HX.out wr hw k hlt
        obtain ⟨b', off', rfl, hc'⟩ := HY.out wr hw k hlt'
        have i1 : (0 : Int) ≤ (k : Int) := by omega
        have i2 : (k : Int) < (xs.length : Int) := by omega
        have i3 : (k : Int) < (ys.length : Int) := by omega
        obtain ⟨u, hu⟩ : ∃ u, u = xs[k] := ⟨_, rfl⟩
        obtain ⟨u', hu'⟩ : ∃ u', u' = ys[k] := ⟨_, rfl⟩
        rw [← hu] at hc
        rw [← hu'] at hc'
        by_cases he : u = u'
        · have HE : Hid (xs[k] = ys[k]) := by show _ = _; rw [← hu, ← hu', he]
          clear hu hu' HX HY
          subst he
          go_upto_region 6 with fail
          go_quiet (fail)
          go_wp2
          go_roundw
          case rel => exact ⟨k + 1, by omega, by go_num, fun j h1 h2 hj => by
            by_cases e : j = k
            · subst e; exact HE.out
            · exact hall.out j h1 h2 (by omega), hw.drewN _⟩
          case measure => simp [intOf]; omega
        · have HE : Hid (eqI xs ys = false) := eqI_no hlt hlt' (by rw [← hu, ← hu']; exact he)
          clear hu hu' HX HY
          go_upto_region 6 with fail
          go_quiet (fail)
          go_wp2
          go_ret
          exact ⟨ret_bool HE.out.symm, hw.drewN _⟩
      · obtain rfl : k = xs.length := by omega
        have HE : Hid (eqI xs ys = true) := eqI_yes HL.out (fun j h1 h2 => hall.out j h1 h2 h1)
        clear HX HY hall
        go_wp2
        go_ret
        exact ⟨ret_bool HE.out.symm, hw⟩
  · have HE : Hid (eqI xs ys = false) := by show _ = _; unfold eqI; simp; rintro rfl; exact hl rfl
    have hl' : ¬ (xs.length : Int) = (ys.length : Int) := by omega
    clear hx hy hl
    go_enter Try.func48, Try.ntmps48
    go_wp2
    go_ret
    exact ⟨ret_bool HE.out.symm, Kept.refl _ _⟩
theorem eqN_no {x y : Nd} (h : ¬ (x.1 = y.1 ∧ x.2.2.1 = y.2.2.1 ∧ x.2.2.2.1 = y.2.2.2.1 ∧ x.2.2.2.2 = y.2.2.2.2)) : eqN x y = false := by
  unfold eqN; simp; rintro rfl; exact h ⟨rfl, rfl, rfl, rfl⟩
theorem eqN_same {x y : Nd} (h : x.1 = y.1 ∧ x.2.2.1 = y.2.2.1 ∧ x.2.2.2.1 = y.2.2.2.1 ∧ x.2.2.2.2 = y.2.2.2.2) : eqN x y = eqI x.2.1 y.2.1 := by
  obtain ⟨a, b, c, d, e⟩ := x
  obtain ⟨a', b', c', d', e'⟩ := y
  obtain ⟨h1, h2, h3, h4⟩ := h
  simp only at h1 h2 h3 h4
  subst h1 h2 h3 h4
  unfold eqN eqI
  simp
set_option maxHeartbeats 2000000 in
theorem sameNode_any {w : World} {x y : Nd} {ao bo : Option Addr} {ac bc : Nat} (hx : Arg w ao x.2.1 ac) (hy : Arg w bo y.2.1 bc) :
    Calls Try.prog 24 #[nodeV x ao ac, nodeV y bo bc] w fun e w' => e = .returned (.bool (eqN x y)) ∧ Same0 w w' := by
  obtain ⟨W1, hW1⟩ : ∃ W1, W1 = (w.alloc (.cells #[.int .i64 x.1, .slice ao x.2.1.length ac, .int .i64 x.2.2.1, .bool x.2.2.2.1, .int .i64 x.2.2.2.2] 45)).alloc (.cells #[.int .i64 y.1, .slice bo y.2.1.length bc, .int .i64 y.2.2.1, .bool y.2.2.2.1, .int .i64 y.2.2.2.2] 45) := ⟨_, rfl⟩
  have K1 : Same0 w W1 := by rw [hW1]; exact ((Kept.refl _ w).alloc _).alloc _
  obtain ⟨x0, x1, x2, x3, x4⟩ := box_node' w x ao ac (show Same0 _ W1 by rw [hW1]; exact (Kept.refl _ _).alloc _)
  obtain ⟨y0, y1, y2, y3, y4⟩ := box_node' _ y bo bc (show Same0 _ W1 by rw [hW1]; exact Kept.refl _ _)
  simp only [World.size_alloc] at y0 y1 y2 y3 y4
  have hxm : x.2.1.length ≤ maxLen := by have := hx.size; unfold maxLen; omega
  have CI := sameInts_any ac bc (hx.at'.same K1) (hy.at'.same K1) hxm
  have HK : Hid (∀ ww, Same0 W1 ww → Same0 w ww) := fun ww hk => K1.trans' hk
  have HW : Hid (Same0 W1 W1) := Kept.refl _ _
  have HE : Hid (x.1 = y.1 → x.2.2.1 = y.2.2.1 → x.2.2.2.1 = y.2.2.2.1 → x.2.2.2.2 = y.2.2.2.2 → eqN x y = eqI x.2.1 y.2.1) := fun a b c d => eqN_same ⟨a, b, c, d⟩
  have HN : Hid (¬ (x.1 = y.1 ∧ x.2.2.1 = y.2.2.1 ∧ x.2.2.2.1 = y.2.2.2.1 ∧ x.2.2.2.2 = y.2.2.2.2) → eqN x y = false) := fun h => eqN_no h
  clear hx hy K1
  generalize eqN x y = R at *
  generalize eqI x.2.1 y.2.1 = I at *
  obtain ⟨sx, ax, mx, px, tx⟩ := x
  obtain ⟨sy, ay, my, py, ty⟩ := y
  simp only at *
  have go : ∀ b : Bool, (sx = sy ∧ mx = my ∧ px = py ∧ tx = ty) ∨ ¬ (sx = sy ∧ mx = my ∧ px = py ∧ tx = ty) := fun _ => Classical.em _
  by_cases e1 : sx = sy
  · subst e1
    by_cases e2 : mx = my
    · subst e2
      by_cases e3 : px = py
      · subst e3
        by_cases e4 : tx = ty
        · subst e4
          have HR : Hid (R = I) := HE.out rfl rfl rfl rfl
          clear HE HN go
          go_enter Try.func24, Try.ntmps24
          go_upto_region 1 with fail
          rw [← hW1]
          clear hW1
          go_wp2_with (first | (go_at_call 48; refine CI.mono ?_; rintro e w3 ⟨rfl, k3⟩))
          go_ret
          exact ⟨ret_bool HR.out.symm, HK.out _ k3⟩
        · have HR : Hid (R = false) := HN.out (fun h => e4 h.2.2.2)
          clear HE HN go
          go_enter Try.func24, Try.ntmps24
          go_upto_region 1 with fail
          rw [← hW1]
          clear hW1
          go_wp2
          go_ret
          exact ⟨ret_bool HR.out.symm, HK.out _ HW.out⟩
      · have HR : Hid (R = false) := HN.out (fun h => e3 h.2.2.1)
        clear HE HN go
        go_enter Try.func24, Try.ntmps24
        go_upto_region 1 with fail
        rw [← hW1]
        clear hW1
        go_wp2
        go_ret
        exact ⟨ret_bool HR.out.symm, HK.out _ HW.out⟩
    · have HR : Hid (R = false) := HN.out (fun h => e2 h.2.1)
      clear HE HN go
      go_enter Try.func24, Try.ntmps24
      go_upto_region 1 with fail
      rw [← hW1]
      clear hW1
      go_wp2
      go_ret
      exact ⟨ret_bool HR.out.symm, HK.out _ HW.out⟩
  · have HR : Hid (R = false) := HN.out (fun h => e1 h.1)
    clear HE HN go
    go_enter Try.func24, Try.ntmps24
    go_upto_region 1 with fail
    rw [← hW1]
    clear hW1
    go_wp2
    go_ret
    exact ⟨ret_bool HR.out.symm, HK.out _ HW.out⟩
end Go.Proofs.Ytcbplgfkgkefeaa
