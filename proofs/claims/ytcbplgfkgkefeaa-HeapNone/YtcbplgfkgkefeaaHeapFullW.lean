/- The walk of HeapFull. -/
import Derived.Test.YtcbplgfkgkefeaaHeapPick
namespace Go.Proofs.Ytcbplgfkgkefeaa
set_option maxRecDepth 100000
set_option linter.unusedVariables false
open Go.RowKit
attribute [local go_sem ↓] Go.wp_at_zero Go.wp_at_succ
theorem mk_ok {l : List Nd} {room : Nat} {s : Int} {xs : List Int} (h0 : 0 ≤ s) (h1 : xs.length ≤ 6) (h2 : ∀ z ∈ xs, 0 ≤ z ∧ z < (l.length : Int)) (h3 : l.length < room) : mkE l room s xs = 0 := by
  rw [mkE, if_neg (by omega), if_neg (by rw [insB_iff.2 h2]; simp), if_neg (by omega)]
theorem mk_full {l : List Nd} {room : Nat} {s : Int} (h0 : 0 ≤ s) (h3 : l.length = room) : mkE l room s [] = 111 := by
  rw [mkE, if_neg (by simp; omega), if_neg (by simp [insB]), if_pos h3]
/-- Nodes that HeapFull makes. -/
def FullL (l : List Nd) : Prop := ∀ j (h : j < l.length), l[j].2.2.2.1 = false ∧ (1 ≤ j → ∃ t, l[j].2.1 = [(j : Int) - 1, t])
theorem FullL.snoc {l : List Nd} (h : FullL l) {s : Int} {xs : List Int} (hx : 1 ≤ l.length → ∃ t, xs = [(l.length : Int) - 1, t]) : FullL (l ++ [(s, xs, 0, false, 0)]) := by
  intro j hj
  by_cases e : j < l.length
  · rw [List.getElem_append_left e]; exact h j e
  · obtain rfl : j = l.length := by simp at hj; omega
    simp
    exact hx
set_option maxHeartbeats 600000 in
theorem full_walk {w : World} {so : Option Addr} {xs : List Int} {cap : Nat} (hx : IntsAt w so xs) (hxl : xs.length * 8 ≤ 140737488351232) (hr : ∀ z ∈ xs, I64 z) (rm : Int) (hrm : I64 rm) :
    Calls Try.prog 10 #[.int .i64 rm, .slice so xs.length cap] w fun e w' => e = .returned (.bool true) ∧ Below w.heap.size w w' := by
  have CA := awake11_any w
  have hp := pick_lt rm (show (0 : Int) < 60 by decide)
  obtain ⟨P, hP⟩ : ∃ P, P = pickF rm 60 := ⟨_, rfl⟩
  have CP := fun ww => pick_any rm hrm 60 (by decide) (by decide) ww
  rw [← hP] at hp CP
  clear hP
  have CN : Hid (∀ ww, Calls Try.prog 13 #[.int .i64 (1 + (P : Int))] ww fun e w' => ∃ h g, e = .returned (.tuple #[.pointer (some ⟨h, 0, none⟩), .int .i64 0]) ∧ HpB (fun _ => False) w' h g (P + 1) [] ∧ Same0 ww w' ∧ ww.heap.size ≤ h ∧ ww.heap.size ≤ g) := fun ww => by
    have := hnew_yes (P + 1) ww (by omega) (by omega)
    rwa [show ((P + 1 : Nat) : Int) = 1 + (P : Int) by omega] at this
  have HX : Hid (∀ ww, Same0 w ww → IntsAt ww so xs) := fun ww hk => hx.same hk
  have HR : Hid (∀ z ∈ xs, I64 z) := hr
  clear hx hr
  go_enter Try.func10, Try.ntmps10
  go_upto_region 2 with (first | (go_at_call 12; refine CA.mono ?_; rintro e w1 ⟨rfl, k1⟩))
  go_upto_region 3 with (first | (go_at_call 25; refine (CP _).mono ?_; rintro e w1' ⟨rfl, h1⟩; have h1 := h1.symm; subst h1))
  have CN1 := CN.out w1
  go_upto_region 7 with (first | (go_at_call 13; refine CN1.mono ?_; rintro e w2 ⟨h, g, rfl, p2, k2, hh, hg⟩))
  have K2 : Same0 w w2 := k1.trans' k2
  have hh' : w.heap.size ≤ h := Nat.le_trans k1.size hh
  have hg' : w.heap.size ≤ g := Nat.le_trans k1.size hg
  have hP0 : (0 : Int) ≤ (P : Int) := by omega
  clear CN1 CP CA CN hh hg
  go_loopw [9] (fun i wr => ∃ (k : Nat) (l : List Nd), i = .int .i64 (k : Int) ∧ k ≤ P + 4 ∧ Hid (l.length = min k (P + 1)) ∧ Hid (Hp wr h g (P + 1) l) ∧ Hid (FullL l) ∧ Same0 w wr) (fun i _ => P + 5 - (intOf i).toNat)
  case atStart => exact ⟨0, [], rfl, Nat.zero_le _, by simp [Hid], p2.any, fun j hj => absurd hj (Nat.not_lt_zero _), K2⟩
  case round =>
    clear p2 K2 k2
    obtain ⟨k, l, rfl, hk, HL, HH, HF, hw⟩ := hrel
    by_cases hlt : k < P + 4
    · have j1 : (k : Int) < 1 + (P : Int) + 3 := by omega
      have j2 : (0 : Int) ≤ (k : Int) := by omega
      by_cases hs : k < xs.length
      · have j3 : (k : Int) < (xs.length : Int) := by omega
        have hS := pick_lt xs[k] (show (0 : Int) < 1000 by decide)
        obtain ⟨S, hSe⟩ : ∃ S, S = pickF xs[k] 1000 := ⟨_, rfl⟩
        have CS := fun ww => pick_any xs[k] (HR.out _ (List.getElem_mem hs)) 1000 (by decide) (by decide) ww
        rw [← hSe] at hS CS
        clear hSe
        have hS0 : (0 : Int) ≤ (S : Int) := by omega
        have hSI : I64 (S : Int) := by omega
        obtain ⟨xb, xoff, rfl, -, cX⟩ := (HX.out wr hw).get hs
        go_upto_region 12 with (first | (go_at_call 25; refine (CS _).mono ?_; rintro e w3 ⟨rfl, h3⟩; have h3 := h3.symm; subst h3))
        clear CS cX
        have hkP : k < P + 1 ∨ P + 1 ≤ k := by omega
        rcases hkP with hkP | hkP
        · have hll : l.length = k := by have := HL.out; omega
          have j5 : (k : Int) < 1 + (P : Int) := by omega
          by_cases h0 : k = 0
          · subst h0
            have CM := make_yes HH.out (S : Int) (arg_nil wr) (mk_ok hS0 (by simp) (by simp) (by omega))
            rw [hll] at CM
            have HL2 : Hid (l.length = 0) := hll
            clear hll
            go_wp2_with (first | (go_at_call 29; refine CM.mono ?_; rintro e w5 ⟨rfl, p5, k5⟩))
            go_roundw
            case rel => exact ⟨1, l ++ [((S : Int), [], 0, false, 0)], by go_num, by omega, by (show _ = _); rw [List.length_append, HL2.out]; simp, p5.any, HF.out.snoc (fun q => absurd q (by rw [HL2.out]; omega)), hw.heap hh' hg' k5⟩
            case measure => simp [intOf]
          · have hT := pick_lt (S : Int) (show (0 : Int) < (k : Int) by omega)
            obtain ⟨T, hTe⟩ : ∃ T, T = pickF (S : Int) (k : Int) := ⟨_, rfl⟩
            have CK := fun ww => pick_any (S : Int) hSI (k : Int) (by omega) (by omega) ww
            rw [← hTe] at hT CK
            clear hTe
            have ka : Same0 wr (wr.alloc (.cells #[.int .i64 ((k : Int) - 1), .int .i64 (T : Int)] 3)) := (Kept.refl _ _).alloc _
            have CM := make_yes (HH.out.same ka) (S : Int) (arg_two wr ((k : Int) - 1) (T : Int)) (mk_ok hS0 (by simp) (by intro z hz; simp at hz; rcases hz with rfl | rfl <;> omega) (by omega))
            have HA : Hid (Same0 w (wr.alloc (.cells #[.int .i64 ((k : Int) - 1), .int .i64 (T : Int)] 3))) := hw.trans' ka
            rw [hll] at CM
            have HL2 : Hid (l.length = k) := hll
            have j6 : (0 : Int) < (k : Int) := by omega
            clear hll ka
            go_wp2_with (first | (go_at_call 25; refine (CK _).mono ?_; rintro e w3 ⟨rfl, h3⟩; have h3 := h3.symm; subst h3) | (go_at_call 29; refine CM.mono ?_; rintro e w5 ⟨rfl, p5, k5⟩))
            go_roundw
            case rel => exact ⟨k + 1, l ++ [((S : Int), [(k : Int) - 1, (T : Int)], 0, false, 0)], by go_num, by omega, by (show _ = _); rw [List.length_append, HL2.out]; simp; omega, p5.any, HF.out.snoc (fun _ => ⟨(T : Int), by rw [HL2.out]⟩), HA.out.heap hh' hg' k5⟩
            case measure => simp [intOf]; omega
        · have hll : l.length = P + 1 := by have := HL.out; omega
          have CM := make_err HH.out (S : Int) (arg_nil wr) (E := 111) (mk_full hS0 hll) (by decide)
          have HL2 : Hid (l.length = P + 1) := hll
          have j5 : ¬ (k : Int) < 1 + (P : Int) := by omega
          have j6 : (0 : Int) < (k : Int) := by omega
          have j7 : 1 + (P : Int) ≤ (k : Int) := by omega
          clear hll
          go_wp2_with (first | (go_at_call 29; refine CM.mono ?_; rintro e w5 ⟨rfl, k5⟩))
          go_roundw
          case rel => exact ⟨k + 1, l, by go_num, by omega, by (show _ = _); rw [HL2.out]; omega, HH.out.same k5, HF, hw.trans' k5⟩
          case measure => simp [intOf]; omega
      · have j3 : ¬ (k : Int) < (xs.length : Int) := by omega
        have hS0 : (0 : Int) ≤ (1 : Int) := by omega
        have hSI : I64 (1 : Int) := by omega
        go_upto_region 12 with fail
        have hkP : k < P + 1 ∨ P + 1 ≤ k := by omega
        rcases hkP with hkP | hkP
        · have hll : l.length = k := by have := HL.out; omega
          have j5 : (k : Int) < 1 + (P : Int) := by omega
          by_cases h0 : k = 0
          · subst h0
            have CM := make_yes HH.out (1 : Int) (arg_nil wr) (mk_ok hS0 (by simp) (by simp) (by omega))
            rw [hll] at CM
            have HL2 : Hid (l.length = 0) := hll
            clear hll
            go_wp2_with (first | (go_at_call 29; refine CM.mono ?_; rintro e w5 ⟨rfl, p5, k5⟩))
            go_roundw
            case rel => exact ⟨1, l ++ [((1 : Int), [], 0, false, 0)], by go_num, by omega, by (show _ = _); rw [List.length_append, HL2.out]; simp, p5.any, HF.out.snoc (fun q => absurd q (by rw [HL2.out]; omega)), hw.heap hh' hg' k5⟩
            case measure => simp [intOf]
          · have hT := pick_lt (1 : Int) (show (0 : Int) < (k : Int) by omega)
            obtain ⟨T, hTe⟩ : ∃ T, T = pickF (1 : Int) (k : Int) := ⟨_, rfl⟩
            have CK := fun ww => pick_any (1 : Int) hSI (k : Int) (by omega) (by omega) ww
            rw [← hTe] at hT CK
            clear hTe
            have ka : Same0 wr (wr.alloc (.cells #[.int .i64 ((k : Int) - 1), .int .i64 (T : Int)] 3)) := (Kept.refl _ _).alloc _
            have CM := make_yes (HH.out.same ka) (1 : Int) (arg_two wr ((k : Int) - 1) (T : Int)) (mk_ok hS0 (by simp) (by intro z hz; simp at hz; rcases hz with rfl | rfl <;> omega) (by omega))
            have HA : Hid (Same0 w (wr.alloc (.cells #[.int .i64 ((k : Int) - 1), .int .i64 (T : Int)] 3))) := hw.trans' ka
            rw [hll] at CM
            have HL2 : Hid (l.length = k) := hll
            have j6 : (0 : Int) < (k : Int) := by omega
            clear hll ka
            go_wp2_with (first | (go_at_call 25; refine (CK _).mono ?_; rintro e w3 ⟨rfl, h3⟩; have h3 := h3.symm; subst h3) | (go_at_call 29; refine CM.mono ?_; rintro e w5 ⟨rfl, p5, k5⟩))
            go_roundw
            case rel => exact ⟨k + 1, l ++ [((1 : Int), [(k : Int) - 1, (T : Int)], 0, false, 0)], by go_num, by omega, by (show _ = _); rw [List.length_append, HL2.out]; simp; omega, p5.any, HF.out.snoc (fun _ => ⟨(T : Int), by rw [HL2.out]⟩), HA.out.heap hh' hg' k5⟩
            case measure => simp [intOf]; omega
        · have hll : l.length = P + 1 := by have := HL.out; omega
          have CM := make_err HH.out (1 : Int) (arg_nil wr) (E := 111) (mk_full hS0 hll) (by decide)
          have HL2 : Hid (l.length = P + 1) := hll
          have j5 : ¬ (k : Int) < 1 + (P : Int) := by omega
          have j6 : (0 : Int) < (k : Int) := by omega
          have j7 : 1 + (P : Int) ≤ (k : Int) := by omega
          clear hll
          go_wp2_with (first | (go_at_call 29; refine CM.mono ?_; rintro e w5 ⟨rfl, k5⟩))
          go_roundw
          case rel => exact ⟨k + 1, l, by go_num, by omega, by (show _ = _); rw [HL2.out]; omega, HH.out.same k5, HF, hw.trans' k5⟩
          case measure => simp [intOf]; omega
    · obtain rfl : k = P + 4 := by omega
      have hll : l.length = P + 1 := by have := HL.out; omega
      have hPl : P < l.length := by omega
      have CT : ∀ z : Int, z = (P : Int) → Calls Try.prog 21 #[.pointer (some ⟨h, 0, none⟩), .int .i64 z] wr fun e w' => ∃ bo bc, e = .returned (.tuple #[nodeV l[P] bo bc, .int .i64 0]) ∧ NdOut wr w' l[P] bo bc := fun z hz => by rw [hz]; exact hat_yes HH.out P hPl
      obtain ⟨f1, f2⟩ := HF.out P hPl
      obtain ⟨x, hxe⟩ : ∃ x, x = l[P] := ⟨_, rfl⟩
      rw [← hxe] at CT f1 f2
      have HPP : Hid (∀ ww, Same0 wr ww → Hp ww h g (P + 1) l) := fun ww hk => HH.out.same hk
      have j9 : ((P + 4 : Nat) : Int) = (P : Int) + 4 := by omega
      have HLL : Hid (l.length = P + 1) := hll
      clear hxe hll hPl HH HF HL
      obtain ⟨x0, x1, x2, x3, x4⟩ := x
      simp only at CT f1 f2
      subst f1
      go_upto_region 19 with (first | (go_at_call 21; refine (CT _ (by omega)).mono ?_; rintro e w4 ⟨bo, bc, rfl, ha, hbb, k4⟩))
      clear CT hbb
      have kb := (Kept.refl (fun _ => False) w4).alloc (.cells #[.int .i64 x0, .slice bo x1.length bc, .int .i64 x2, .bool false, .int .i64 x4] 45)
      have p6 := HPP.out _ (k4.trans' kb)
      have C6 := room_any p6
      have C7 := used_any p6
      rw [HLL.out] at C7
      rw [show ((P + 1 : Nat) : Int) = 1 + (P : Int) by omega] at C6 C7
      have K6 : Hid (Below w.heap.size w (w4.alloc (.cells #[.int .i64 x0, .slice bo x1.length bc, .int .i64 x2, .bool false, .int .i64 x4] 45))) := Same0.below (hw.trans' (k4.trans' kb))
      by_cases hP1 : P = 0
      · subst hP1
        clear f2 p6 ha kb HPP HLL
        go_wp2_with (first | (go_at_call 28; refine C6.mono ?_; rintro e w7 ⟨rfl, h7⟩; have h7 := h7.symm; subst h7) | (go_at_call 18; refine C7.mono ?_; rintro e w7 ⟨rfl, h7⟩; have h7 := h7.symm; subst h7))
        go_ret
        exact ⟨rfl, K6.out⟩
      · obtain ⟨t, rfl⟩ := f2 (by omega)
        obtain ⟨xb, xoff, rfl, -, cX⟩ := ((ha.same kb).1.at').get (i := 0) (by simp)
        simp only [Nat.add_zero, List.getElem_cons_zero] at cX
        have j10 : ¬ (1 + (P : Int) = 1) := by omega
        have cY : (w4.alloc (.cells #[.int .i64 x0, .slice (some ⟨xb, xoff, none⟩) 2 bc, .int .i64 x2, .bool false, .int .i64 x4] 45)).cell? ⟨xb, xoff, none⟩ = some (.int .i64 ((P : Int) - 1)) := cX
        clear cX f2 p6 ha kb HPP HLL
        go_wp2_with (first | (go_at_call 28; refine C6.mono ?_; rintro e w7 ⟨rfl, h7⟩; have h7 := h7.symm; subst h7) | (go_at_call 18; refine C7.mono ?_; rintro e w7 ⟨rfl, h7⟩; have h7 := h7.symm; subst h7))
        go_ret
        exact ⟨ret_bool (by simp; omega), K6.out⟩
end Go.Proofs.Ytcbplgfkgkefeaa
