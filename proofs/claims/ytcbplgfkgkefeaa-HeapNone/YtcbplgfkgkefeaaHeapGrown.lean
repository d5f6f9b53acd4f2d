/- The walk of grown of layer 11's statements. -/
import Derived.Test.YtcbplgfkgkefeaaHeapStepM
import Derived.Test.YtcbplgfkgkefeaaHeapStepK
namespace Go.Proofs.Ytcbplgfkgkefeaa
set_option maxRecDepth 100000
set_option linter.unusedVariables false
open Go.RowKit
attribute [local go_sem ↓] Go.wp_at_zero Go.wp_at_succ
theorem step_any {w : World} {h g room : Nat} {l : List Nd} (p : Hp w h g room l) (x : Raw4) (hx : x.ok) : Calls Try.prog 23 #[.pointer (some ⟨h, 0, none⟩), rawV x] w fun e w' => StepQ w h g room l x e w' := by
  have h7 := pick_lt x.1 (show (0 : Int) < 7 by decide)
  by_cases h4 : pickF x.1 7 < 4
  · exact step_make p x hx _ rfl h4
  · by_cases h6 : pickF x.1 7 = 6
    · exact step_mark p x hx (by omega)
    · exact step_point p x hx _ rfl (by omega)
set_option maxHeartbeats 1000000 in
theorem grown_any {w : World} {ro : Option Addr} {rs : List Raw4} {rc : Nat} (hr : RawsAt w ro rs) (hl : rs.length ≤ maxLen) (hok : ∀ r ∈ rs, r.ok) (rm : Int) (hrm : I64 rm) :
    Calls Try.prog 16 #[.int .i64 rm, .slice ro rs.length rc] w fun e w' => ∃ h g room l, e = .returned (.pointer (some ⟨h, 0, none⟩)) ∧ Hp w' h g room l ∧ Same0 w w' ∧ w.heap.size ≤ h ∧ w.heap.size ≤ g := by
  unfold maxLen at hl
  have hp := pick_lt rm (show (0 : Int) < 200 by decide)
  obtain ⟨P, hP⟩ : ∃ P, P = pickF rm 200 := ⟨_, rfl⟩
  have CP := pick_any rm hrm 200 (by decide) (by decide) w
  rw [← hP] at hp CP
  clear hP
  have CN : Calls Try.prog 13 #[.int .i64 (1 + (P : Int))] w fun e w' => ∃ h g, e = .returned (.tuple #[.pointer (some ⟨h, 0, none⟩), .int .i64 0]) ∧ HpB (fun _ => False) w' h g (P + 1) [] ∧ Same0 w w' ∧ w.heap.size ≤ h ∧ w.heap.size ≤ g := by
    have := hnew_yes (P + 1) w (by omega) (by omega)
    rwa [show ((P + 1 : Nat) : Int) = 1 + (P : Int) by omega] at this
  have HX : Hid (∀ ww, Same0 w ww → RawsAt ww ro rs) := fun ww hk => hr.same hk
  have HO : Hid (∀ r ∈ rs, r.ok) := hok
  clear hr hok
  go_enter Try.func16, Try.ntmps16
  go_upto_region 2 with (first | (go_at_call 25; refine CP.mono ?_; rintro e w1 ⟨rfl, h1⟩; have h1 := h1.symm; subst h1) | (go_at_call 13; refine CN.mono ?_; rintro e w2 ⟨h, g, rfl, p2, k2, hh, hg⟩))
  go_wp2
  clear CP CN
  go_loopw [7] (fun i wr => ∃ (k : Nat) (l : List Nd), i = .int .i64 (k : Int) ∧ k ≤ rs.length ∧ Hid (Hp wr h g (P + 1) l) ∧ Same0 w wr) (fun i _ => rs.length - (intOf i).toNat)
  case atStart => exact ⟨0, [], rfl, Nat.zero_le _, p2.any, k2⟩
  case round =>
    clear p2 k2
    obtain ⟨k, l, rfl, hk, HH, hw⟩ := hrel
    by_cases hlt : k < rs.length
    · have j1 : (k : Int) < (rs.length : Int) := by omega
      have j2 : (0 : Int) ≤ (k : Int) := by omega
      obtain ⟨b, off, rfl, c0, c1, c2, c3⟩ := (HX.out wr hw).get hlt
      have CS := step_any HH.out rs[k] (HO.out _ (List.getElem_mem hlt))
      go_wp2_with (first | (go_at_call 23; refine CS.mono ?_; rintro e w5 ⟨er, l', rfl, p5, k5, -⟩))
      go_roundw
      case rel => exact ⟨k + 1, l', by go_num, by omega, p5, hw.heap hh hg k5⟩
      case measure => simp [intOf]; omega
    · obtain rfl : k = rs.length := by omega
      go_wp2
      go_ret
      exact ⟨h, g, P + 1, l, rfl, HH.out, hw, hh, hg⟩
end Go.Proofs.Ytcbplgfkgkefeaa
