/- The walks of SameFrame and SameFrames of the document's layer 14. -/
import Derived.Test.YtikcocjbbbdmgaaSpineCopy
import Derived.Test.YtikcocjbbbdmgaaIntsSame
namespace Go.Proofs.Ytikcocjbbbdmgaa
set_option maxRecDepth 100000
set_option linter.unusedVariables false
open Go.RowKit
attribute [local go_sem ↓] Go.wp_at_zero Go.wp_at_succ
/-- Whether two frames are alike. -/
def eqF (x y : Fr) : Bool := decide (x = y)
theorem eqF_self (x : Fr) : eqF x x = true := by unfold eqF; simp
theorem eqF_no {x y : Fr} (h : ¬ (x.1 = y.1 ∧ x.2.1 = y.2.1 ∧ x.2.2.1 = y.2.2.1)) : eqF x y = false := by
  unfold eqF; simp; rintro rfl; exact h ⟨rfl, rfl, rfl⟩
theorem eqF_same {x y : Fr} (h : x.1 = y.1 ∧ x.2.1 = y.2.1 ∧ x.2.2.1 = y.2.2.1) : eqF x y = eqI x.2.2.2 y.2.2.2 := by
  obtain ⟨a, b, c, d⟩ := x
  obtain ⟨a', b', c', d'⟩ := y
  obtain ⟨h1, h2, h3⟩ := h
  simp only at h1 h2 h3
  subst h1 h2 h3
  unfold eqF eqI
  simp
theorem box_fr (w : World) (x : Fr) (ao : Option Addr) (ac : Nat) {ww : World} (hk : Same0 (w.alloc (.cells #[.int .i64 x.1, .bool x.2.1, .int .i64 x.2.2.1, .slice ao x.2.2.2.length ac] 30)) ww) :
    ww.cell? ⟨w.heap.size, 0, none⟩ = some (.int .i64 x.1) ∧ ww.cell? ⟨w.heap.size, 1, none⟩ = some (.bool x.2.1) ∧ ww.cell? ⟨w.heap.size, 2, none⟩ = some (.int .i64 x.2.2.1) ∧ ww.cell? ⟨w.heap.size, 3, none⟩ = some (.slice ao x.2.2.2.length ac) :=
  box4 (hk.at0 (heap_alloc_new w _))
set_option maxHeartbeats 2000000 in
theorem sameFrame_any {w : World} {x y : Fr} {ao bo : Option Addr} {ac bc : Nat} (hx : Arg w ao x.2.2.2 ac) (hy : Arg w bo y.2.2.2 bc) :
    Calls Try.prog 17 #[frV x ao ac, frV y bo bc] w fun e w' => e = .returned (.bool (eqF x y)) ∧ Same0 w w' := by
  obtain ⟨W1, hW1⟩ : ∃ W1, W1 = (w.alloc (.cells #[.int .i64 x.1, .bool x.2.1, .int .i64 x.2.2.1, .slice ao x.2.2.2.length ac] 30)).alloc (.cells #[.int .i64 y.1, .bool y.2.1, .int .i64 y.2.2.1, .slice bo y.2.2.2.length bc] 30) := ⟨_, rfl⟩
  have K1 : Same0 w W1 := by rw [hW1]; exact ((Kept.refl _ w).alloc _).alloc _
  obtain ⟨x0, x1, x2, x3⟩ := box_fr w x ao ac (show Same0 _ W1 by rw [hW1]; exact (Kept.refl _ _).alloc _)
  obtain ⟨y0, y1, y2, y3⟩ := box_fr _ y bo bc (show Same0 _ W1 by rw [hW1]; exact Kept.refl _ _)
  simp only [World.size_alloc] at y0 y1 y2 y3
  have hxm : x.2.2.2.length ≤ maxLen := by have := hx.size; unfold maxLen; omega
  have CI := sameInts_any ac bc (hx.at'.same K1) (hy.at'.same K1) hxm
  have HK : Hid (∀ ww, Same0 W1 ww → Same0 w ww) := fun ww hk => K1.trans' hk
  have HW : Hid (Same0 W1 W1) := Kept.refl _ _
  have HE : Hid (x.1 = y.1 → x.2.1 = y.2.1 → x.2.2.1 = y.2.2.1 → eqF x y = eqI x.2.2.2 y.2.2.2) := fun a b c => eqF_same ⟨a, b, c⟩
  have HN : Hid (¬ (x.1 = y.1 ∧ x.2.1 = y.2.1 ∧ x.2.2.1 = y.2.2.1) → eqF x y = false) := fun h => eqF_no h
  clear hx hy K1
  generalize eqF x y = R at *
  generalize eqI x.2.2.2 y.2.2.2 = I at *
  obtain ⟨sx, mx, px, ax⟩ := x
  obtain ⟨sy, my, py, ay⟩ := y
  simp only at *
  by_cases e1 : sx = sy
  · subst e1
    by_cases e2 : mx = my
    · subst e2
      by_cases e3 : px = py
      · subst e3
        have HR : Hid (R = I) := HE.out rfl rfl rfl
        clear HE HN
        go_enter Try.func17, Try.ntmps17
        go_upto_region 1 with fail
        rw [← hW1]
        clear hW1
        go_wp2_with (first | (go_at_call 21; refine CI.mono ?_; rintro e w3 ⟨rfl, k3⟩))
        go_ret
        exact ⟨ret_bool HR.out.symm, HK.out _ k3⟩
      · have HR : Hid (R = false) := HN.out (fun h => e3 h.2.2)
        clear HE HN
        go_enter Try.func17, Try.ntmps17
        go_upto_region 1 with fail
        rw [← hW1]
        clear hW1
        go_wp2
        go_ret
        exact ⟨ret_bool HR.out.symm, HK.out _ HW.out⟩
    · have HR : Hid (R = false) := HN.out (fun h => e2 h.2.1)
      clear HE HN
      go_enter Try.func17, Try.ntmps17
      go_upto_region 1 with fail
      rw [← hW1]
      clear hW1
      go_wp2
      go_ret
      exact ⟨ret_bool HR.out.symm, HK.out _ HW.out⟩
  · have HR : Hid (R = false) := HN.out (fun h => e1 h.1)
    clear HE HN
    go_enter Try.func17, Try.ntmps17
    go_upto_region 1 with fail
    rw [← hW1]
    clear hW1
    go_wp2
    go_ret
    exact ⟨ret_bool HR.out.symm, HK.out _ HW.out⟩
/-- Whether two lists of frames are alike. -/
def eqFs (l l' : List Fr) : Bool := decide (l = l')
theorem eqFs_self (l : List Fr) : eqFs l l = true := by unfold eqFs; simp
set_option maxHeartbeats 2000000 in
theorem sameFrames_any {B B' : Nat → Prop} {w : World} {ao bo : Option Addr} {ac bc : Nat} {l l' : List Fr} (h : FsM B w ao l) (h' : FsM B' w bo l') (hm : l.length ≤ maxLen) :
    Calls Try.prog 24 #[.slice ao l.length ac, .slice bo l'.length bc] w fun e w' => e = .returned (.bool (eqFs l l')) ∧ Same0 w w' := by
  unfold maxLen at hm
  by_cases hl : l.length = l'.length
  · have hl' : (l.length : Int) = (l'.length : Int) := by omega
    have HX : Hid (∀ ww, Same0 w ww → FsM B ww ao l) := fun ww hw => h.same hw
    have HY : Hid (∀ ww, Same0 w ww → FsM B' ww bo l') := fun ww hw => h'.same hw
    have HL : Hid (l.length = l'.length) := hl
    have KR : Same0 w w := Kept.refl _ _
    clear h h' hl
    go_enter Try.func24, Try.ntmps24
    go_wp2
    go_loopw [5] (fun i wr => ∃ k : Nat, k ≤ l.length ∧ i = .int .i64 k ∧ Hid (∀ j (h1 : j < l.length) (h2 : j < l'.length), j < k → l[j] = l'[j]) ∧ Same0 w wr) (fun i _ => l.length - (intOf i).toNat)
    case atStart => exact ⟨0, Nat.zero_le _, rfl, fun j _ _ hj => absurd hj (Nat.not_lt_zero _), KR⟩
    case round =>
      clear KR
      obtain ⟨k, hk, rfl, hall, hw⟩ := hrel
      by_cases hlt : k < l.length
      · have hlt' : k < l'.length := by rw [← HL.out]; exact hlt
        have i1 : (0 : Int) ≤ (k : Int) := by omega
        have i2 : (k : Int) < (l.length : Int) := by omega
        have i3 : (k : Int) < (l'.length : Int) := by omega
        obtain ⟨mb, moff, xo, xc, e, -, m0, m1, m2, m3, m4, -⟩ := (HX.out wr.drew (hw.drew)).get hlt
        subst e
        obtain ⟨nb, noff, yo, yc, e, -, n0, n1, n2, n3, n4, -⟩ := (HY.out wr.drew (hw.drew)).get hlt'
        subst e
        have CS := sameFrame_any m4 n4
        have HEY : Hid (eqF l[k] l'[k] = true → l[k] = l'[k]) := fun e => by unfold eqF at e; simpa using e
        have HEN : Hid (eqF l[k] l'[k] = false → eqFs l l' = false) := fun e => by
          unfold eqF at e
          unfold eqFs
          simp at e ⊢
          rintro rfl
          exact e rfl
        clear m4 n4
        generalize eqF l[k] l'[k] = R at *
        go_upto_region 6 with fail
        go_region_with (first | (go_at_call 17; refine CS.mono ?_; rintro e w8 ⟨rfl, k8⟩))
        all_goals
          have hw8 : Same0 w w8 := Same0.trans' (Kept.drew hw) k8
          clear m0 m1 m2 m3 n0 n1 n2 n3 CS
          cases R
          · have HF : Hid (eqFs l l' = false) := HEN.out rfl
            go_wp2
            go_ret
            exact ⟨ret_bool HF.out.symm, hw8⟩
          · have HF : Hid (∀ j (h1 : j < l.length) (h2 : j < l'.length), j < k + 1 → l[j] = l'[j]) := fun j h1 h2 hj => by
              by_cases e : j = k
              · subst e; exact HEY.out rfl
              · exact hall.out j h1 h2 (by omega)
            go_wp2
            go_roundw
            case rel => first | exact ⟨k + 1, by omega, by go_num, HF, hw8⟩ | ((repeat apply Exists.intro); exact ⟨⟨k + 1, by omega, by go_num, HF, hw8⟩, rfl⟩)
            case measure => simp [intOf]; omega
      · obtain rfl : k = l.length := by omega
        have HE : Hid (eqFs l l' = true) := by
          show _ = _
          unfold eqFs
          simp
          exact List.ext_getElem HL.out (fun j h1 h2 => hall.out j h1 h2 h1)
        clear hall
        go_wp2
        go_ret
        exact ⟨ret_bool HE.out.symm, hw⟩
  · have HE : Hid (eqFs l l' = false) := by show _ = _; unfold eqFs; simp; rintro rfl; exact hl rfl
    have hl' : ¬ (l.length : Int) = (l'.length : Int) := by omega
    have KR : Hid (Same0 w w) := Kept.refl _ _
    clear h h' hl
    go_enter Try.func24, Try.ntmps24
    go_wp2
    go_ret
    exact ⟨ret_bool HE.out.symm, KR.out⟩
end Go.Proofs.Ytikcocjbbbdmgaa
