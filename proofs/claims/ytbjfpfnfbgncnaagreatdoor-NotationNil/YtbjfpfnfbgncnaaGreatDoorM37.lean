import Derived.Test.YtbjfpfnfbgncnaaGreatDoorM36
/- The walk of the laws' head. -/
namespace Go.Proofs.YtbjfpfnfbgncnaaGreatDoor
open Go.RowKit
set_option linter.unusedVariables false
set_option maxRecDepth 100000
theorem ints_of_row {B : Nat} {w : World} {ao : Option Addr} {n cap : Nat} {xs : List Int} (h : w.ownsRow B 3 1 (.slice ao n cap) n (intZ xs)) (hn : xs.length = n) : IntsAt w ao xs := by
  rcases h.2 with ⟨e, h0⟩ | ⟨g, cap', cur, e, hb, hg, h1, h2, h3, h4⟩
  · exact .inl (List.eq_nil_of_length_eq_zero (by omega))
  · cases e
    refine .inr ⟨g, 0, rfl, lt_of_at hg, fun i hi => ?_⟩
    have := h.cellAt i (by omega)
    rw [Nat.zero_add, this]
    simp [intZ, hi]
theorem plain_row (w : World) : (w.alloc (.cells #[.string ⟨#[122]⟩, .int .i64 0, .bool false, .string ⟨#[115]⟩, .int .i64 1, .bool false, .string ⟨#[97, 100, 100]⟩, .int .i64 2, .bool true] 95)).ownsRow 0 95 3 (.slice (some ⟨w.heap.size, 0, none⟩) 3 3) 3 (symCells [zS, aS, aAdd]) :=
  ⟨rfl, .inr ⟨w.heap.size, 3, _, rfl, Nat.zero_le _, heap_alloc_new w _, Nat.le_refl _, le_max (by decide), rfl, rfl⟩⟩
set_option maxHeartbeats 8000000 in
theorem awake4_any (w : World) : Calls Tryz.prog 5 #[] w fun e w' => e = .returned (.bool true) ∧ Same0 w w' := by
  go_enter Tryz.func5, Tryz.ntmps5
  have kP : Same0 w (w.alloc (.cells #[.string ⟨#[122]⟩, .int .i64 0, .bool false, .string ⟨#[115]⟩, .int .i64 1, .bool false, .string ⟨#[97, 100, 100]⟩, .int .i64 2, .bool true] 95)) := Kept.alloc (Kept.refl _ w) _
  have cMd := made_any _ _ 3 _ _ (syms_awake w) (by decide)
  rw [madeL_awake] at cMd
  go_upto_region 2 with (first | (go_at_call 13; refine (plain_any _).mono ?_; rintro e w' ⟨rfl, rfl⟩) | (go_at_call 12; refine cMd.mono ?_; rintro e w1 ⟨b, rv, rfl, hsg, _, hk⟩))
  have K1 : Same0 w w1 := kP.trans' hk
  clear cMd kP hk
  obtain ⟨n, hn⟩ : ∃ n, n = w1.heap.size := ⟨_, rfl⟩
  rw [← hn] at hsg
  have hn1 : n ≤ w1.heap.size := by omega
  clear hn
  go_upto_region 5 with (first | (go_at_call 14; refine (awA _).mono ?_; rintro e w2 ⟨lv, rfl, hL, k2⟩))
  have K2 := K1.trans' k2
  have hsg2 := hsg.same k2
  have hz2 := k2.size
  go_upto_region 6 with (first | (go_at_call 6; refine (awB hsg2 (by omega)).mono ?_; rintro e w3 ⟨tv, rfl, hT, k3⟩))
  have K3 := K2.trans' k3
  have hsg3 := hsg2.same k3
  have hz3 := k3.size
  go_upto_region 7 with (first | (go_at_call 6; refine (awC hsg3 (by omega)).mono ?_; rintro e w4 ⟨er, rfl, hF, k4⟩))
  have K4 := K3.trans' k4
  have hsg4 := hsg3.same k4
  have hz4 := k4.size
  go_upto_region 8 with (first | (go_at_call 8; refine (awP hsg4 (by omega)).mono ?_; rintro e w5 ⟨rfl, k5⟩))
  go_upto_region 9 with (first | (go_at_call 15; refine (awM _).mono ?_; rintro e w6 ⟨mo, mc, rfl, hM, k6⟩))
  have k56 := k5.trans' k6
  have hF6 := hF.same k56
  have hT6 := (k4.trans' k56).row hT (fun _ _ f => f)
  have hL6 : w6.ownsRow _ 95 3 lv 3 (symCells [zS, aS, aAdd]) := ((k3.trans' k4).trans' k56).row hL (fun _ _ f => f)
  have K6 := K4.trans' k56
  clear hsg hsg2 hsg3 hsg4 hF hT hL K1 K2 K3 K4
  have cS := same_fault (hF6.same (Kept.alloc (Kept.refl _ w6) (.cells #[.int .i64 43, .int .i64 4] 39))) (lv := .slice (some ⟨w6.heap.size, 0, none⟩) 1 1) (c := 43) (p := 4) ⟨w6.heap.size, rfl, heap_alloc_new w6 _⟩
  go_upto_region 10 with (first | (go_at_call 10; refine cS.mono ?_; rintro e w7 ⟨rfl, k7⟩))
  obtain ⟨ta, tc, rfl⟩ : ∃ ao cap, tv = .slice ao 4 cap := row_shape hT6
  have k7' : Same0 w6 w7 := k7.behind
  have cR := same_any (acap := tc) (bcap := 4) ((ints_of_row (k7'.row hT6 (fun _ _ f => f)) rfl).same (Kept.alloc (Kept.refl _ w7) (.cells #[.int .i64 2, .int .i64 1, .int .i64 (-1), .int .i64 (-2)] 3))) (ints_new w7 [2, 1, -1, -2] 3 rfl) (by decide)
  rw [show sameB [2, 1, -1, -2] [2, 1, -1, -2] = true by decide] at cR
  go_upto_region 11 with (first | (go_at_call 16; refine cR.mono ?_; rintro e w8 ⟨rfl, k8⟩))
  have k8' : Same0 w7 w8 := k8.behind
  have cY := samesyms ((Same0.trans' (k7'.trans' k8') (Kept.alloc (Kept.refl _ w8) _)).row hL6 (fun _ _ f => f)) (plain_row w8) (by decide)
  go_upto_region 12 with (first | (go_at_call 13; refine (plain_any _).mono ?_; rintro e w' ⟨rfl, rfl⟩) | (go_at_call 17; refine cY.mono ?_; rintro e w9 ⟨rfl, m9, rfl⟩))
  have kA : Same0 w8 (w8.alloc (.cells #[.string ⟨#[122]⟩, .int .i64 0, .bool false, .string ⟨#[115]⟩, .int .i64 1, .bool false, .string ⟨#[97, 100, 100]⟩, .int .i64 2, .bool true] 95)) := Kept.alloc (Kept.refl _ w8) _
  have kB : Same0 w6 ((w8.alloc (.cells #[.string ⟨#[122]⟩, .int .i64 0, .bool false, .string ⟨#[115]⟩, .int .i64 1, .bool false, .string ⟨#[97, 100, 100]⟩, .int .i64 2, .bool true] 95)).drewN m9) := Kept.drewN ((k7'.trans' k8').trans' kA) m9
  obtain ⟨W, hW⟩ : ∃ W, ((w8.alloc (.cells #[.string ⟨#[122]⟩, .int .i64 0, .bool false, .string ⟨#[115]⟩, .int .i64 1, .bool false, .string ⟨#[97, 100, 100]⟩, .int .i64 2, .bool true] 95)).drewN m9) = W := ⟨_, rfl⟩
  rw [hW] at kB ⊢
  have hMW : MovesAt w5.heap.size W (.slice mo 2 mc) [([], 3), ([1, 0], 0)] := hM.same kB (fun _ _ f => f)
  have cPM := awPM hMW
  have K9 := K6.trans' kB
  clear hW hM hMW kA cS cR cY hF6 hT6 hL6 kB k7 k8
  go_upto_region 13 with (first | (go_at_call 18; refine cPM.mono ?_; rintro e w10 ⟨rfl, k10⟩))
  have hnn := nil_nil w10
  go_wp2_with fail
  go_ret
  exact ⟨rfl, K9.trans' k10⟩
end Go.Proofs.YtbjfpfnfbgncnaaGreatDoor
