/- SameInts of the document's layer 11. -/
import Derived.Test.YtikcocjbbbdmgaaArgInts
namespace Go.Proofs.Ytikcocjbbbdmgaa
set_option maxRecDepth 100000
set_option linter.unusedVariables false
open Go.RowKit
attribute [local go_sem ↓] Go.wp_at_zero Go.wp_at_succ
/-- Whether two lists are alike. -/
def eqI (xs ys : List Int) : Bool := decide (xs = ys)
theorem eqI_no {xs ys : List Int} {k : Nat} (h1 : k < xs.length) (h2 : k < ys.length) (h : xs[k] ≠ ys[k]) : eqI xs ys = false := by
  unfold eqI; simp; rintro rfl; exact h rfl
theorem eqI_yes {xs ys : List Int} (hl : xs.length = ys.length) (h : ∀ k (h1 : k < xs.length) (h2 : k < ys.length), xs[k] = ys[k]) : eqI xs ys = true := by
  unfold eqI; simp; exact List.ext_getElem hl (fun k h1 h2 => h k h1 h2)
set_option maxHeartbeats 1000000 in
theorem sameInts_any {w : World} {ao bo : Option Addr} {xs ys : List Int} (ac bc : Nat) (hx : IntsAt w ao xs) (hy : IntsAt w bo ys) (hm : xs.length ≤ maxLen) :
    Calls Try.prog 21 #[.slice ao xs.length ac, .slice bo ys.length bc] w fun e w' => e = .returned (.bool (eqI xs ys)) ∧ Same0 w w' := by
  unfold maxLen at hm
  by_cases hl : xs.length = ys.length
  · have hl' : (xs.length : Int) = (ys.length : Int) := by omega
    have HX : Hid (∀ ww, Same0 w ww → ∀ k (hk : k < xs.length), ∃ b off, ao = some ⟨b, off, none⟩ ∧ ww.cell? ⟨b, off + k, none⟩ = some (.int .i64 xs[k])) := fun ww hw k hk => by
      obtain ⟨b, off, e, _, hc⟩ := (hx.same hw).get hk
      exact ⟨b, off, e, hc⟩
    have HY : Hid (∀ ww, Same0 w ww → ∀ k (hk : k < ys.length), ∃ b off, bo = some ⟨b, off, none⟩ ∧ ww.cell? ⟨b, off + k, none⟩ = some (.int .i64 ys[k])) := fun ww hw k hk => by
      obtain ⟨b, off, e, _, hc⟩ := (hy.same hw).get hk
      exact ⟨b, off, e, hc⟩
    have HL : Hid (xs.length = ys.length) := hl
    have KR : Same0 w w := Kept.refl _ _
    clear hx hy hl
    go_enter Try.func21, Try.ntmps21
    go_wp2
    go_loopw [5] (fun i wr => ∃ k : Nat, k ≤ xs.length ∧ i = .int .i64 k ∧ Hid (∀ j (h1 : j < xs.length) (h2 : j < ys.length), j < k → xs[j] = ys[j]) ∧ Same0 w wr) (fun i _ => xs.length - (intOf i).toNat)
    case atStart => exact ⟨0, Nat.zero_le _, rfl, fun j _ _ hj => absurd hj (Nat.not_lt_zero _), KR⟩
    case round =>
      clear KR
      obtain ⟨k, hk, rfl, hall, hw⟩ := hrel
      by_cases hlt : k < xs.length
      · have hlt' : k < ys.length := by rw [← HL.out]; exact hlt
        obtain ⟨b, off, rfl, hc⟩ := HX.out wr hw k hlt
        obtain ⟨b', off', rfl, hc'⟩ := HY.out wr hw k hlt'
        have i1 : (0 : Int) ≤ (k : Int) := by omega
        have i2 : (k : Int) < (xs.length : Int) := by omega
        have i3 : (k : Int) < (ys.length : Int) := by omega
        obtain ⟨u, hu⟩ : ∃ u, u = xs[k] := ⟨_, rfl⟩
        obtain ⟨u', hu'⟩ : ∃ u', u' = ys[k] := ⟨_, rfl⟩
        rw [← hu] at hc
        rw [← hu'] at hc'
        by_cases he : u = u'
        · have HE : Hid (xs[k] = ys[k]) := by show _ = _; rw [← hu, ← hu', he]
          clear hu hu' HX HY
          subst he
          go_upto_region 6 with fail
          go_quiet (fail)
          go_wp2
          go_roundw
          case rel => exact ⟨k + 1, by omega, by go_num, fun j h1 h2 hj => by
            by_cases e : j = k
            · subst e; exact HE.out
            · exact hall.out j h1 h2 (by omega), hw.drewN _⟩
          case measure => simp [intOf]; omega
        · have HE : Hid (eqI xs ys = false) := eqI_no hlt hlt' (by rw [← hu, ← hu']; exact he)
          clear hu hu' HX HY
          go_upto_region 6 with fail
          go_quiet (fail)
          go_wp2
          go_ret
          exact ⟨ret_bool HE.out.symm, hw.drewN _⟩
      · obtain rfl : k = xs.length := by omega
        have HE : Hid (eqI xs ys = true) := eqI_yes HL.out (fun j h1 h2 => hall.out j h1 h2 h1)
        clear HX HY hall
        go_wp2
        go_ret
        exact ⟨ret_bool HE.out.symm, hw⟩
  · have HE : Hid (eqI xs ys = false) := by show _ = _; unfold eqI; simp; rintro rfl; exact hl rfl
    have hl' : ¬ (xs.length : Int) = (ys.length : Int) := by omega
    clear hx hy hl
    go_enter Try.func21, Try.ntmps21
    go_wp2
    go_ret
    exact ⟨ret_bool HE.out.symm, Kept.refl _ _⟩
end Go.Proofs.Ytikcocjbbbdmgaa
