/- The walks of pick and awake of layer 11's statements. -/
import Derived.Test.YtcbplgfkgkefeaaHeapMakeY
import Derived.Test.YtcbplgfkgkefeaaHeapPoint
namespace Go.Proofs.Ytcbplgfkgkefeaa
set_option maxRecDepth 100000
set_option linter.unusedVariables false
open Go.RowKit
attribute [local go_sem ↓] Go.wp_at_zero Go.wp_at_succ
/-- A number that a machine's int holds. -/
abbrev I64 (c : Int) : Prop := -9223372036854775808 ≤ c ∧ c < 9223372036854775808
theorem hwrap {c : Int} (h1 : -9223372036854775808 ≤ c) (h2 : c < 9223372036854775808) : IntKind.i64.wrap c = c := by
  simp [IntKind.wrap, IntKind.bits, IntKind.signed]; omega
/-- Which of n things a raw number speaks of. -/
def pickF (c n : Int) : Nat := ((if c < 0 then -(c + 1) else c) % n).toNat
theorem pick_lt (c : Int) {n : Int} (hn : 0 < n) : (pickF c n : Int) < n := by
  unfold pickF
  have h1 := Int.emod_nonneg (if c < 0 then -(c + 1) else c) (show n ≠ 0 by omega)
  have h2 := Int.emod_lt_of_pos (if c < 0 then -(c + 1) else c) hn
  omega
set_option maxHeartbeats 1000000 in
theorem pick_any (c : Int) (hc : I64 c) (n : Int) (hn : 1 ≤ n) (hn' : n ≤ 1000000) (w : World) : Calls Try.prog 25 #[.int .i64 c, .int .i64 n] w fun e w' => e = .returned (.int .i64 (pickF c n : Int)) ∧ w' = w := by
  have hz : ¬ n = 0 := by omega
  have hz' : (n == 0) = false := by simpa using hz
  by_cases h : c < 0
  · have h1 : IntKind.i64.wrap (c + 1) = c + 1 := hwrap (by omega) (by omega)
    have h2 : IntKind.i64.wrap (-(c + 1)) = -(c + 1) := hwrap (by omega) (by omega)
    have HE : Hid ((pickF c n : Int) = (-(c + 1)) % n) := by
      show _ = _
      unfold pickF
      rw [if_pos h]
      have := Int.emod_nonneg (-(c + 1)) hz
      omega
    have hp : 0 ≤ -(c + 1) := by omega
    go_enter Try.func25, Try.ntmps25
    go_wp2
    go_ret
    refine ⟨ret_int ?_, rfl⟩
    rw [HE.out]
    first | rfl | (rw [← Int.neg_tmod, Int.tmod_eq_emod_of_nonneg (by omega)]) | (rw [Int.tmod_eq_emod_of_nonneg (by omega)])
  · have HE : Hid ((pickF c n : Int) = c % n) := by
      show _ = _
      unfold pickF
      rw [if_neg h]
      have := Int.emod_nonneg c hz
      omega
    have hp : 0 ≤ c := by omega
    go_enter Try.func25, Try.ntmps25
    go_wp2
    go_ret
    refine ⟨ret_int ?_, rfl⟩
    rw [HE.out]
/-- A heap, whatever blocks its arguments lie in. -/
abbrev Hp (w : World) (h g room : Nat) (l : List Nd) : Prop := HpB (fun _ => True) w h g room l
theorem HpB.any {B : Nat → Prop} {w : World} {h g room : Nat} {l : List Nd} (p : HpB B w h g room l) : Hp w h g room l := p.mono (fun _ _ _ _ => trivial)
theorem arg_nil (w : World) : Arg w none [] 0 := (ArgT.nil w).1
theorem arg_one (w : World) (z : Int) : Arg (w.alloc (.cells #[.int .i64 z] 3)) (some ⟨w.heap.size, 0, none⟩) [z] 1 := ⟨ints_one w z, Nat.le_refl _, (fun e => by cases e), by simp⟩
theorem arg_two (w : World) (z y : Int) : Arg (w.alloc (.cells #[.int .i64 z, .int .i64 y] 3)) (some ⟨w.heap.size, 0, none⟩) [z, y] 2 := ⟨ints_two w z y, Nat.le_refl _, (fun e => by cases e), by simp⟩
/-- What a heap's calls turn is the heap's own. -/
theorem Same0.heap {w w1 w2 : World} (k : Same0 w w1) {h g : Nat} (hh : w.heap.size ≤ h) (hg : w.heap.size ≤ g) (k2 : Kept (fun k => k = h ∨ k = g) w1 w2) : Same0 w w2 := k.trans k2 (fun i hi e => by omega)
theorem make_err {B : Nat → Prop} {w : World} {h g room : Nat} {l : List Nd} (p : HpB B w h g room l) (s : Int) {ao : Option Addr} {xs : List Int} {cap : Nat} (hx : Arg w ao xs cap) {E : Int} (hE : mkE l room s xs = E) (he : E ≠ 0) :
    Calls Try.prog 29 #[.pointer (some ⟨h, 0, none⟩), .int .i64 s, .slice ao xs.length cap] w fun e w' => e = .returned (.tuple #[.int .i64 0, .int .i64 E]) ∧ Same0 w w' := by
  subst hE; exact make_no p s hx he
set_option maxHeartbeats 4000000 in
theorem awake11_any (w : World) : Calls Try.prog 12 #[] w fun e w' => e = .returned (.bool true) ∧ Same0 w w' := by
  have C0 := hnew_yes 3 w (by decide) (by decide)
  go_enter Try.func12, Try.ntmps12
  go_upto_region 4 with (first | (go_at_call 13; refine C0.mono ?_; rintro e w1 ⟨h, g, rfl, p1, k1, hh, hg⟩))
  have C1 := make_yes p1 5 (arg_nil w1) (by decide)
  clear C0
  go_upto_region 5 with (first | (go_at_call 29; refine C1.mono ?_; rintro e w2 ⟨rfl, p2, k2⟩))
  have K2 : Same0 w w2 := k1.heap hh hg k2
  have p2' := p2.any.same (show Same0 w2 (w2.alloc (.cells #[.int .i64 0, .int .i64 0] 3)) from (Kept.refl _ _).alloc _)
  have C2 := make_yes p2' 7 (arg_two w2 0 0) (by decide)
  clear C1 p2
  go_upto_region 6 with (first | (go_at_call 29; refine C2.mono ?_; rintro e w3 ⟨rfl, p3, k3⟩))
  have K3 : Same0 w w3 := Same0.heap (Kept.alloc K2 _) hh hg k3
  have p3' := p3.any.same (show Same0 w3 (w3.alloc (.cells #[.int .i64 2] 3)) from (Kept.refl _ _).alloc _)
  have C3 := make_err p3' 8 (arg_one w3 2) (E := 112) (by decide) (by decide)
  clear C2 p3 p2'
  go_upto_region 7 with (first | (go_at_call 29; refine C3.mono ?_; rintro e w4 ⟨rfl, k4⟩))
  have p4 := p3'.same k4
  have K4 : Same0 w w4 := Same0.trans' (Kept.alloc K3 _) k4
  have C4 := hat_yes p4 1 (by decide)
  clear C3 p3'
  have HP : Hid (∀ ww, Same0 w4 ww → Hp ww h g 3 ([] ++ [(5, [], 0, false, 0)] ++ [(7, [0, 0], 0, false, 0)])) := fun ww hk => p4.same hk
  go_upto_region 8 with (first | (go_at_call 21; refine C4.mono ?_; rintro e w5 ⟨bo, bc, rfl, ha, hbb, k5⟩))
  have p6 := HP.out _ (Kept.alloc k5 (.cells #[.int .i64 7, .slice bo 2 bc, .int .i64 0, .bool false, .int .i64 0] 45))
  have C6 := room_any p6
  have C7 := used_any p6
  have K6 : Hid (Same0 w (w5.alloc (.cells #[.int .i64 7, .slice bo 2 bc, .int .i64 0, .bool false, .int .i64 0] 45))) := Same0.trans' K4 (Kept.alloc k5 _)
  clear C4 HP p6 p4 p1 ha hbb
  go_wp2_with (first | (go_at_call 28; refine C6.mono ?_; rintro e w7 ⟨rfl, rfl⟩) | (go_at_call 18; refine C7.mono ?_; rintro e w7 ⟨rfl, rfl⟩))
  go_ret
  exact ⟨rfl, K6.out⟩
end Go.Proofs.Ytcbplgfkgkefeaa
