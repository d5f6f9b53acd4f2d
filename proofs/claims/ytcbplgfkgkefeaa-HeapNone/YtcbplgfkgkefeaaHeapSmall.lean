/- The walks of the smallest functions of package heap. -/
import Derived.Test.YtcbplgfkgkefeaaHeapMem
namespace Go.Proofs.Ytcbplgfkgkefeaa
set_option maxRecDepth 100000
set_option linter.unusedVariables false
open Go.RowKit
attribute [local go_sem ↓] Go.wp_at_zero Go.wp_at_succ
/-- Whether all of some numbers are addresses. -/
def insB (n : Int) (xs : List Int) : Bool := xs.all (fun z => decide (0 ≤ z) && decide (z < n))
theorem insB_iff {n : Int} {xs : List Int} : insB n xs = true ↔ ∀ z ∈ xs, 0 ≤ z ∧ z < n := by
  unfold insB; simp [List.all_eq_true]
theorem insB_no {n : Int} {xs : List Int} {k : Nat} (hk : k < xs.length) (h : ¬ (0 ≤ xs[k] ∧ xs[k] < n)) : insB n xs = false := by
  cases e : insB n xs
  · rfl
  · exact absurd (insB_iff.1 e _ (List.getElem_mem hk)) h
set_option maxHeartbeats 1000000 in
theorem inside_any {w : World} {ao : Option Addr} {xs : List Int} (cap : Nat) (hx : IntsAt w ao xs) (hm : xs.length ≤ 1000) (n : Int) :
    Calls Try.prog 51 #[.int .i64 n, .slice ao xs.length cap] w fun e w' => e = .returned (.bool (insB n xs)) ∧ w' = w := by
  have H1 : Hid (∀ k (hk : k < xs.length), ¬ (0 ≤ xs[k] ∧ xs[k] < n) → insB n xs = false) := fun k hk h => insB_no hk h
  go_enter Try.func51, Try.ntmps51
  go_wp2
  go_loop [9] (fun i => ∃ k : Nat, k ≤ xs.length ∧ i = .int .i64 k ∧ Hid (∀ j (hj : j < xs.length), j < k → 0 ≤ xs[j] ∧ xs[j] < n)) (fun i => xs.length - (intOf i).toNat)
  case atStart => exact ⟨0, Nat.zero_le _, rfl, fun j _ hj => absurd hj (Nat.not_lt_zero _)⟩
  case round =>
    obtain ⟨k, hk, rfl, hall⟩ := hrel
    by_cases hlt : k < xs.length
    · obtain ⟨b, off, rfl, hb, hc⟩ := hx.get hlt
      have i1 : (0 : Int) ≤ (k : Int) := by omega
      have i2 : (k : Int) < (xs.length : Int) := by omega
      clear hx
      by_cases h1 : xs[k] < 0
      · have H2 : Hid (insB n xs = false) := H1.out k hlt (by omega)
        clear H1
        go_wp2
        go_ret
        exact ⟨ret_bool H2.out.symm, rfl⟩
      · by_cases h2 : n ≤ xs[k]
        · have H2 : Hid (insB n xs = false) := H1.out k hlt (by omega)
          clear H1
          go_wp2
          go_ret
          exact ⟨ret_bool H2.out.symm, rfl⟩
        · go_wp2
          go_round
          case rel => exact ⟨k + 1, by omega, by go_num, fun j hj hjk => by
            by_cases e : j = k
            · subst e; omega
            · exact hall.out j hj (by omega)⟩
          case measure => simp [intOf]; omega
    · obtain rfl : k = xs.length := by omega
      have H2 : Hid (insB n xs = true) := insB_iff.2 (fun z hz => by
        obtain ⟨j, hj, rfl⟩ := List.mem_iff_getElem.1 hz
        exact hall.out j hj hj)
      clear hall H1
      go_wp2
      go_ret
      exact ⟨ret_bool H2.out.symm, rfl⟩
/-- Why there is not a node at each of some addresses. -/
def refE (n : Int) (xs : List Int) : Int := if insB n xs = true then 0 else 112
set_option maxHeartbeats 1000000 in
theorem refusal_hp {B : Nat → Prop} {w : World} {h g room : Nat} {l : List Nd} (p : HpB B w h g room l) {ao : Option Addr} {xs : List Int} (cap : Nat) (hx : IntsAt w ao xs) (hm : xs.length ≤ 1000) :
    Calls Try.prog 46 #[.pointer (some ⟨h, 0, none⟩), .slice ao xs.length cap] w fun e w' => e = .returned (.int .i64 (refE (l.length : Int) xs)) ∧ w' = w := by
  have C := inside_any cap hx hm (l.length : Int)
  obtain ⟨c0, c1⟩ := p.cells
  clear p hx
  cases hi : insB (l.length : Int) xs
  · have H : Hid (refE (l.length : Int) xs = 112) := by show _ = _; rw [refE, hi]; rfl
    rw [hi] at C
    go_enter Try.func46, Try.ntmps46
    go_wp2_with (first | (go_at_call 51; refine C.mono ?_; rintro e w' ⟨rfl, rfl⟩))
    go_ret
    exact ⟨ret_int H.out.symm, rfl⟩
  · have H : Hid (refE (l.length : Int) xs = 0) := by show _ = _; rw [refE, hi]; rfl
    rw [hi] at C
    go_enter Try.func46, Try.ntmps46
    go_wp2_with (first | (go_at_call 51; refine C.mono ?_; rintro e w' ⟨rfl, rfl⟩))
    go_ret
    exact ⟨ret_int H.out.symm, rfl⟩
set_option maxHeartbeats 1000000 in
theorem refusal_none (v : Value) (w : World) : Calls Try.prog 46 #[.pointer none, v] w fun e w' => e = .returned (.int .i64 1) ∧ w' = w := by
  go_enter Try.func46, Try.ntmps46
  go_wp2
  go_ret
  exact ⟨rfl, rfl⟩
theorem set6_kept (w : World) (a b : Nat) (v v0 v1 v2 v3 v4 : Value) : Kept (fun k => k = a ∨ k = b) w (put5 (w.setCell ⟨a, 1, none⟩ v) b 0 v0 v1 v2 v3 v4) :=
  (Kept.setCell (S := fun k => k = a ∨ k = b) (Kept.refl _ w) (p := ⟨a, 1, none⟩) (fun _ => .inl rfl) v).trans (put5_kept _ _ _ _ _ _ _ _) (fun _ _ e => .inr e)
/-- The value of a node. -/
abbrev nodeV (x : Nd) (ao : Option Addr) (ac : Nat) : Value := .agg #[.int .i64 x.1, .slice ao x.2.1.length ac, .int .i64 x.2.2.1, .bool x.2.2.2.1, .int .i64 x.2.2.2.2]
set_option maxHeartbeats 1000000 in
theorem copied_any {w : World} {x : Nd} {ao : Option Addr} {ac : Nat} (hx : Arg w ao x.2.1 ac) (hm : x.2.1.length ≤ 1000) :
    Calls Try.prog 47 #[nodeV x ao ac] w fun e w' => ∃ bo bc, e = .returned (nodeV x bo bc) ∧ ArgT w' bo x.2.1 bc ∧ (∀ a, bo = some a → w.heap.size ≤ a.block) ∧ Same0 w w' := by
  have k1 : Same0 w (w.alloc (.cells #[.int .i64 x.1, .slice ao x.2.1.length ac, .int .i64 x.2.2.1, .bool x.2.2.2.1, .int .i64 x.2.2.2.2] 45)) := (Kept.refl _ w).alloc _
  have k2 : Same0 w ((w.alloc (.cells #[.int .i64 x.1, .slice ao x.2.1.length ac, .int .i64 x.2.2.1, .bool x.2.2.2.1, .int .i64 x.2.2.2.2] 45)).alloc (.cells #[.int .i64 0, .slice none 0 0, .int .i64 0, .bool false, .int .i64 0] 45)) := k1.alloc _
  have C := cloneI_any (cap := ac) (show Arg _ ao x.2.1 ac from ⟨hx.at'.same k2, hx.cap', hx.nil, hx.size⟩)
  simp only [World.size_alloc] at C
  have hb1 : ((w.alloc (.cells #[.int .i64 x.1, .slice ao x.2.1.length ac, .int .i64 x.2.2.1, .bool x.2.2.2.1, .int .i64 x.2.2.2.2] 45)).alloc (.cells #[.int .i64 0, .slice none 0 0, .int .i64 0, .bool false, .int .i64 0] 45)).heap[w.heap.size]? = some (.cells #[.int .i64 x.1, .slice ao x.2.1.length ac, .int .i64 x.2.2.1, .bool x.2.2.2.1, .int .i64 x.2.2.2.2] 45 (0, 0)) := (Below.heap_alloc _ _ _ (by simp)).trans (heap_alloc_new w _)
  have hb2 := heap_alloc_new (w.alloc (.cells #[.int .i64 x.1, .slice ao x.2.1.length ac, .int .i64 x.2.2.1, .bool x.2.2.2.1, .int .i64 x.2.2.2.2] 45)) (.cells #[.int .i64 0, .slice none 0 0, .int .i64 0, .bool false, .int .i64 0] 45)
  have HB : Hid (∀ ww, Same0 ((w.alloc (.cells #[.int .i64 x.1, .slice ao x.2.1.length ac, .int .i64 x.2.2.1, .bool x.2.2.2.1, .int .i64 x.2.2.2.2] 45)).alloc (.cells #[.int .i64 0, .slice none 0 0, .int .i64 0, .bool false, .int .i64 0] 45)) ww → ww.heap[w.heap.size]? = some (.cells #[.int .i64 x.1, .slice ao x.2.1.length ac, .int .i64 x.2.2.1, .bool x.2.2.2.1, .int .i64 x.2.2.2.2] 45 (0, 0)) ∧ ww.heap[w.heap.size + 1]? = some (.cells #[.int .i64 0, .slice none 0 0, .int .i64 0, .bool false, .int .i64 0] 45 (0, 0))) := fun ww hk => ⟨hk.at0 hb1, by have := hk.at0 hb2; simpa using this⟩
  have HK : Hid (∀ ww, Same0 ((w.alloc (.cells #[.int .i64 x.1, .slice ao x.2.1.length ac, .int .i64 x.2.2.1, .bool x.2.2.2.1, .int .i64 x.2.2.2.2] 45)).alloc (.cells #[.int .i64 0, .slice none 0 0, .int .i64 0, .bool false, .int .i64 0] 45)) ww → Same0 w ww) := fun ww hk => k2.trans' hk
  clear hb1 hb2 k1 k2 hx
  go_enter Try.func47, Try.ntmps47
  go_upto_region 2 with (first | (go_at_call 60; refine C.mono ?_; rintro e w1 ⟨v, rfl, hr, hk⟩; obtain ⟨bo, bc, rfl, ha, hbb⟩ := hr.arg (by omega); obtain ⟨q1, q2⟩ := HB.out w1 hk; obtain ⟨a0, a1, a2, a3, a4⟩ := box5 q1; obtain ⟨b0, b1, b2, b3, b4⟩ := box5 q2; obtain ⟨-, f1, -, -, -⟩ := free5 q1; obtain ⟨g0, g1, g2, g3, g4⟩ := free5 q2; clear q1 q2))
  go_wp2
  have K6 := set6_kept w1 w.heap.size (w.heap.size + 1) (.slice bo x.2.1.length bc) (.int .i64 x.1) (.slice bo x.2.1.length bc) (.int .i64 x.2.2.1) (.bool x.2.2.2.1) (.int .i64 x.2.2.2.2)
  have R1 := ha.kept' K6 (fun a e s => by have := hbb a e; omega)
  have R2 : Same0 w _ := (HK.out w1 hk).trans K6 (fun i hi e => by omega)
  exact bodyPost_ret (v := nodeV x bo bc) (by simp [results, Try.results47, go_sem, b0, b1, b2, b3, b4]) rfl ⟨bo, bc, rfl, R1, fun a e => by have := hbb a e; omega, R2⟩
end Go.Proofs.Ytcbplgfkgkefeaa
