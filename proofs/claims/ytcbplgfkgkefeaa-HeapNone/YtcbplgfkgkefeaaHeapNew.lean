/- The walks of New, Room, Used and At of package heap. -/
import Derived.Test.YtcbplgfkgkefeaaHeapSmall
import Derived.OwnWalk
namespace Go.Proofs.Ytcbplgfkgkefeaa
set_option maxRecDepth 100000
set_option linter.unusedVariables false
open Go.RowKit
attribute [local go_sem ↓] Go.wp_at_zero Go.wp_at_succ
theorem info_node : (Try.prog.info? 45).map (fun i => (i.zero, i.size, i.bytes)) = some (some (.agg #[.int .i64 0, .slice none 0 0, .int .i64 0, .bool false, .int .i64 0]), 5, 56) := by kernel_rfl
theorem Ac.nil : Ac [] := ⟨fun _ => 0, fun i j e => absurd e.1 (Nat.not_lt_zero _)⟩
set_option maxHeartbeats 1000000 in
theorem hnew_no (n : Int) (w : World) (hn : n < 1 ∨ 4000 < n) : Calls Try.prog 13 #[.int .i64 n] w fun e w' => e = .returned (.tuple #[.pointer none, .int .i64 110]) ∧ w' = w := by
  by_cases h1 : n < 1
  · go_enter Try.func13, Try.ntmps13
    go_wp2
    go_ret2
    exact ⟨rfl, rfl⟩
  · have h2 : 4000 < n := by omega
    go_enter Try.func13, Try.ntmps13
    go_wp2
    go_ret2
    exact ⟨rfl, rfl⟩
set_option maxHeartbeats 1000000 in
theorem hnew_yes (n : Nat) (w : World) (h1 : 1 ≤ n) (h2 : n ≤ 4000) : Calls Try.prog 13 #[.int .i64 (n : Int)] w fun e w' => ∃ h g, e = .returned (.tuple #[.pointer (some ⟨h, 0, none⟩), .int .i64 0]) ∧ HpB (fun _ => False) w' h g n [] ∧ Same0 w w' ∧ w.heap.size ≤ h ∧ w.heap.size ≤ g := by
  obtain ⟨i, hi, hz0, hz1, hz2⟩ := info_parts info_node
  have i1 : (1 : Int) ≤ (n : Int) := by omega
  have i2 : (n : Int) ≤ 4000 := by omega
  go_enter Try.func13, Try.ntmps13
  go_wp2_with (first | (at_make; refine wpList_make_full _ rfl _ _ 32 rfl w.heap.size 45 i _ 5 Try.underlying32 hi hz0 hz1 _ _ _ _ n rfl rfl rfl rfl (by rw [hz2]; omega) (by unfold maxLen; omega) (Nat.le_refl _) ?_; intro w1 hown hgrow))
  go_ret2
  obtain ⟨hl, hr⟩ := hown
  rcases hr with ⟨e, h0⟩ | ⟨g, cap, cur, e, hb, hg, hle, hml, hsz, ht⟩
  · cases e
  · simp only [Value.slice.injEq, Option.some.injEq, Addr.mk.injEq, and_true, true_and] at e
    obtain ⟨rfl, rfl⟩ := e
    have K : Same0 w w1 := Same0.grown (Kept.refl _ w) hgrow
    refine ⟨w1.heap.size, w.heap.size, rfl, ⟨heap_alloc_new w1 _, ⟨cur, (Below.heap_alloc _ _ _ (lt_of_at hg)).trans hg, hsz⟩, h1, h2, Nat.zero_le _, fun i hi => absurd hi (Nat.not_lt_zero _), fun x hx => absurd hx (by simp), Ac.nil⟩, K.alloc _, K.size, Nat.le_refl _⟩
set_option maxHeartbeats 1000000 in
theorem room_any {B : Nat → Prop} {w : World} {h g room : Nat} {l : List Nd} (p : HpB B w h g room l) : Calls Try.prog 28 #[.pointer (some ⟨h, 0, none⟩)] w fun e w' => e = .returned (.int .i64 (room : Int)) ∧ w' = w := by
  obtain ⟨c0, c1⟩ := p.cells
  clear p
  go_enter Try.func28, Try.ntmps28
  go_wp2
  go_ret
  exact ⟨rfl, rfl⟩
set_option maxHeartbeats 1000000 in
theorem used_any {B : Nat → Prop} {w : World} {h g room : Nat} {l : List Nd} (p : HpB B w h g room l) : Calls Try.prog 18 #[.pointer (some ⟨h, 0, none⟩)] w fun e w' => e = .returned (.int .i64 (l.length : Int)) ∧ w' = w := by
  obtain ⟨c0, c1⟩ := p.cells
  clear p
  go_enter Try.func18, Try.ntmps18
  go_wp2
  go_ret
  exact ⟨rfl, rfl⟩
theorem ints_one (w : World) (z : Int) : IntsAt (w.alloc (.cells #[.int .i64 z] 3)) (some ⟨w.heap.size, 0, none⟩) [z] :=
  .inr ⟨w.heap.size, 0, rfl, by simp, fun i hi => by
    have hi' : i < 1 := hi
    match i, hi' with
    | 0, _ => exact cellAt (heap_alloc_new w _) 0⟩
theorem ints_two (w : World) (z y : Int) : IntsAt (w.alloc (.cells #[.int .i64 z, .int .i64 y] 3)) (some ⟨w.heap.size, 0, none⟩) [z, y] :=
  .inr ⟨w.heap.size, 0, rfl, by simp, fun i hi => by
    have hi' : i < 2 := hi
    match i, hi' with
    | 0, _ => exact cellAt (heap_alloc_new w _) 0
    | 1, _ => exact cellAt (heap_alloc_new w _) 1⟩
theorem refE_one {n : Nat} {a : Int} (h : 0 ≤ a ∧ a < (n : Int)) : refE (n : Int) [a] = 0 := by
  unfold refE; rw [if_pos (insB_iff.2 (by simpa using h))]
theorem refE_no {n : Nat} {a : Int} (h : ¬ (0 ≤ a ∧ a < (n : Int))) : refE (n : Int) [a] = 112 := by
  unfold refE; rw [if_neg (fun e => h (by simpa using insB_iff.1 e))]
set_option maxHeartbeats 1000000 in
theorem hat_no {B : Nat → Prop} {w : World} {h g room : Nat} {l : List Nd} (p : HpB B w h g room l) (a : Int) (ha : ¬ (0 ≤ a ∧ a < (l.length : Int))) : Calls Try.prog 21 #[.pointer (some ⟨h, 0, none⟩), .int .i64 a] w fun e w' => e = .returned (.tuple #[nodeV (0, [], 0, false, 0) none 0, .int .i64 112]) ∧ Same0 w w' := by
  obtain ⟨W0, hW0⟩ : ∃ W0, W0 = w.alloc (.cells #[.int .i64 0, .slice none 0 0, .int .i64 0, .bool false, .int .i64 0] 45) := ⟨_, rfl⟩
  have k0 : Same0 w W0 := by rw [hW0]; exact (Kept.refl _ w).alloc _
  have hb : W0.heap[w.heap.size]? = some (.cells #[.int .i64 0, .slice none 0 0, .int .i64 0, .bool false, .int .i64 0] 45 (0, 0)) := by rw [hW0]; exact heap_alloc_new w _
  have k1 : Same0 W0 (W0.alloc (.cells #[.int .i64 a] 3)) := (Kept.refl _ _).alloc _
  have C := refusal_hp ((p.same k0).same k1) 1 (ints_one W0 a) (by simp)
  rw [refE_no ha] at C
  obtain ⟨b0, b1, b2, b3, b4⟩ := box5 (k1.at0 hb)
  obtain ⟨g0, g1, g2, g3, g4⟩ := free5 (k1.at0 hb)
  have K : Hid (Same0 w (put5 (W0.alloc (.cells #[.int .i64 a] 3)) w.heap.size 0 (.int .i64 0) (.slice none 0 0) (.int .i64 0) (.bool false) (.int .i64 0))) := (k0.trans' k1).trans (put5_kept _ _ _ _ _ _ _ _) (fun i hi e => by omega)
  clear p ha k0 hb k1
  go_enter Try.func21, Try.ntmps21
  go_upto_region 1 with fail
  rw [← hW0]
  clear hW0
  go_wp2_with (first | (go_at_call 46; refine C.mono ?_; rintro e w' ⟨rfl, rfl⟩))
  exact bodyPost_ret (v := .tuple #[nodeV (0, [], 0, false, 0) none 0, .int .i64 112]) (by simp [results, Try.results21, go_sem, b0, b1, b2, b3, b4]) rfl ⟨rfl, K.out⟩
end Go.Proofs.Ytcbplgfkgkefeaa
