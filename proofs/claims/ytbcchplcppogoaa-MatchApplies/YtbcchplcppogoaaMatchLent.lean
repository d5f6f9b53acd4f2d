/- The walks of lent and kept of layer 5's statements. -/
import Derived.Test.YtbcchplcppogoaaLentKept
import Derived.Test.YtbcchplcppogoaaRefPut
namespace Go.Proofs.Ytbcchplcppogoaa
set_option linter.unusedVariables false
open Go.RowKit
attribute [local go_sem ↓] Go.wp_at_zero Go.wp_at_succ
set_option maxHeartbeats 2000000 in
theorem lent5_any {w : World} {ao : Option Addr} {cap : Nat} {xs : List Int} (hx : IntsAt w ao xs) (hn : ao = none → xs.length = 0 ∧ cap = 0) (hsz : xs.length * 8 ≤ 140737488351232) :
    Calls Try.prog 13 #[.slice ao xs.length cap] w fun e w' => ∃ g, e = .returned (.slice (some ⟨g, 0, none⟩) xs.length (xs.length + 1)) ∧ w.heap.size ≤ g ∧ g < w'.heap.size ∧ Row w.heap.size w' (.slice (some ⟨g, 0, none⟩) (xs.length + 1) (xs.length + 1)) (xs ++ [77]) ∧ Same0 w w' := by
  obtain ⟨i, hi, hz0, hz1, hz2⟩ := info_parts info_intT
  have b1 : ((xs.length + 1 : Nat) : Int) = (xs.length : Int) + 1 := by omega
  have e0 : 0 + xs.length = xs.length := Nat.zero_add _
  go_enter Try.func13, Try.ntmps13
  go_wp2_with (first
    | (at_make; refine wpList_make_own _ rfl _ _ 24 rfl w.heap.size 3 i _ 1 Try.underlying24 hi hz0 hz1 _ _ _ (xs.length + 1) rfl rfl (by omega) (by rw [hz2]; omega) (by unfold maxLen; omega) (Nat.le_refl _) ?_; intro w1 hown hgrow; have hx1 := hx.same (Same0.grown (Kept.refl _ w) hgrow))
    | (at_builtin; refine wpList_append_fits_any _ rfl (.tmp 6) (.tmp 7) 24 rfl w.heap.size 3 i 1 Try.underlying24 hi hz1 w.heap.size 0 (xs.length + 1) [] rfl hown ao xs.length cap (iv xs) rfl (by rw [iv_length]; omega) hn (fun ad e j u hj => by obtain ⟨ad', e', hc⟩ := hx1.src (by have := (List.getElem?_eq_some_iff.1 hj).1; omega); rw [e] at e'; cases e'; exact hc j u hj) (iv_oneCell xs) (by omega) ?_; intro w2 hown2 hgrow2; rw [e0, List.nil_append] at hown2)
    | (at_builtin; refine wpList_append_fits _ rfl (.tmp 8) (.tmp 9) 24 rfl w.heap.size 3 i 1 Try.underlying24 hi hz1 w.heap.size xs.length (xs.length + 1) (iv xs) (by first | rfl | (rw [e0]; rfl)) (hown2.alloc _) ⟨w2.heap.size, 0, none⟩ 1 1 [.int .i64 77] rfl rfl (cell_one_new _ _ _) (by simp [Value.oneCell']) (by omega) ?_; intro w3 hown3 hgrow3))
  go_ret
  have k1 : Same0 w w1 := Same0.grown (Kept.refl _ w) hgrow
  have k2 : Same0 w w2 := Kept.grown k1 hgrow2 (fun k e hk => by cases e; omega)
  have k3 : Same0 w w3 := Kept.grown (k2.alloc _) hgrow3 (fun k e hk => by cases e; omega)
  have z3 := (hown3.lt _ rfl).2
  refine ⟨w.heap.size, rfl, Nat.le_refl _, z3, ?_, k3⟩
  unfold Row
  rw [iv_append, List.length_append]
  exact hown3
set_option maxHeartbeats 2000000 in
theorem lent5_at {w : World} {ao : Option Addr} {cap : Nat} {xs : List Int} (hx : IntsAt w ao xs) (hn : ao = none → xs.length = 0 ∧ cap = 0) (hsz : xs.length * 8 ≤ 140737488351232) :
    Calls Try.prog 13 #[.slice ao xs.length cap] w fun e w' => e = .returned (.slice (some ⟨w.heap.size, 0, none⟩) xs.length (xs.length + 1)) ∧ w.heap.size < w'.heap.size ∧ Row w.heap.size w' (.slice (some ⟨w.heap.size, 0, none⟩) (xs.length + 1) (xs.length + 1)) (xs ++ [77]) ∧ Same0 w w' := by
  obtain ⟨i, hi, hz0, hz1, hz2⟩ := info_parts info_intT
  have b1 : ((xs.length + 1 : Nat) : Int) = (xs.length : Int) + 1 := by omega
  have e0 : 0 + xs.length = xs.length := Nat.zero_add _
  go_enter Try.func13, Try.ntmps13
  go_wp2_with (first
    | (at_make; refine wpList_make_own _ rfl _ _ 24 rfl w.heap.size 3 i _ 1 Try.underlying24 hi hz0 hz1 _ _ _ (xs.length + 1) rfl rfl (by omega) (by rw [hz2]; omega) (by unfold maxLen; omega) (Nat.le_refl _) ?_; intro w1 hown hgrow; have hx1 := hx.same (Same0.grown (Kept.refl _ w) hgrow))
    | (at_builtin; refine wpList_append_fits_any _ rfl (.tmp 6) (.tmp 7) 24 rfl w.heap.size 3 i 1 Try.underlying24 hi hz1 w.heap.size 0 (xs.length + 1) [] rfl hown ao xs.length cap (iv xs) rfl (by rw [iv_length]; omega) hn (fun ad e j u hj => by obtain ⟨ad', e', hc⟩ := hx1.src (by have := (List.getElem?_eq_some_iff.1 hj).1; omega); rw [e] at e'; cases e'; exact hc j u hj) (iv_oneCell xs) (by omega) ?_; intro w2 hown2 hgrow2; rw [e0, List.nil_append] at hown2)
    | (at_builtin; refine wpList_append_fits _ rfl (.tmp 8) (.tmp 9) 24 rfl w.heap.size 3 i 1 Try.underlying24 hi hz1 w.heap.size xs.length (xs.length + 1) (iv xs) (by first | rfl | (rw [e0]; rfl)) (hown2.alloc _) ⟨w2.heap.size, 0, none⟩ 1 1 [.int .i64 77] rfl rfl (cell_one_new _ _ _) (by simp [Value.oneCell']) (by omega) ?_; intro w3 hown3 hgrow3))
  go_ret
  have k1 : Same0 w w1 := Same0.grown (Kept.refl _ w) hgrow
  have k2 : Same0 w w2 := Kept.grown k1 hgrow2 (fun k e hk => by cases e; omega)
  have k3 : Same0 w w3 := Kept.grown (k2.alloc _) hgrow3 (fun k e hk => by cases e; omega)
  have z3 := (hown3.lt _ rfl).2
  refine ⟨rfl, z3, ?_, k3⟩
  unfold Row
  rw [iv_append, List.length_append]
  exact hown3
set_option maxHeartbeats 4000000 in
theorem kept5_any {base g : Nat} {w : World} {lo : Option Addr} {lcap : Nat} {xs : List Int} (hr : Row base w (.slice (some ⟨g, 0, none⟩) (xs.length + 1) (xs.length + 1)) (xs ++ [77])) (hl : IntsAt w lo xs) (hsz : xs.length * 8 ≤ 140737488351232) :
    Calls Try.prog 17 #[.slice (some ⟨g, 0, none⟩) xs.length (xs.length + 1), .slice lo xs.length lcap] w fun e w' => e = .returned (.bool true) ∧ Same0 w w' := by
  have c : Calls Try.prog 20 #[.slice (some ⟨g, 0, none⟩) xs.length (xs.length + 1), .slice lo xs.length lcap] w fun e w' => e = .returned (.bool true) ∧ Same0 w w' := by
    have := same_any (acap := xs.length + 1) (bcap := lcap) (row_prefix hr) hl (by unfold maxLen; omega)
    simpa [sameB] using this
  have h77 : Hid (∀ w1, Same0 w w1 → w1.cell? ⟨g, xs.length, none⟩ = some (.int .i64 77)) := fun w1 hk => by
    have h1 : w1.ownsRow base 3 1 (.slice (some ⟨g, 0, none⟩) (xs.length + 1) (xs.length + 1)) (xs.length + 1) (iv (xs ++ [77])) := by
      have := hk.row hr (fun _ _ f => f)
      rw [List.length_append] at this
      exact this
    rw [h1.cellAt xs.length (by omega)]
    simp [iv]
  have i1 : (0 : Int) ≤ (xs.length : Int) := by omega
  have i2 : (xs.length : Int) < ((xs.length + 1 : Nat) : Int) := by omega
  clear hr
  go_enter Try.func17, Try.ntmps17
  go_wp2_with (first | (go_at_call 20; refine c.mono ?_; rintro e w1 ⟨rfl, hk1⟩; have d7 := h77.out _ hk1))
  go_ret
  exact ⟨rfl, hk1⟩
end Go.Proofs.Ytbcchplcppogoaa
