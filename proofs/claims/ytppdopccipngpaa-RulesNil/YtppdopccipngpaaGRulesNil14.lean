import Derived.Test.YtppdopccipngpaaGRule13
import Derived.RangeFuncNested
import Derived.RangeFuncLeaves
import Derived.RangeFuncBox
import Derived.Shelf.Abstract
import Derived.OwnWalkIn
import Derived.TacticsInMore
import Derived.LoopNIn
import Derived.LoopIn
import Derived.Laws.StructEq
/- The walk of RulesNil: every call of no store. -/
namespace Go.Proofs.Ytppdopccipngpaa
set_option linter.unusedVariables false
open Go.RowKit Go.Shelf
theorem ncheck_any (lo : Option Addr) (ll lc : Nat) (w : World) : Calls Try.prog 14 #[.pointer none, .slice lo ll lc] w fun e w' => ∃ k, e = .returned (.iface 78 (.pointer (some ⟨k, 0, none⟩))) ∧ w'.heap[k]? = some (.cells #[.int .i64 1, .int .i64 0, .nilIface] 80 (0, 0)) ∧ Same0 w w' := by
  go_enter Try.func14, Try.ntmps14
  go_wp2
  go_ret
  exact ⟨_, rfl, heap_alloc_new _ _, (Kept.refl _ w).alloc _⟩
theorem nadd_any (lo : Option Addr) (ll lc : Nat) (w : World) : Calls Try.prog 9 #[.pointer none, .slice lo ll lc] w fun e w' => ∃ k, e = .returned (.iface 78 (.pointer (some ⟨k, 0, none⟩))) ∧ w'.heap[k]? = some (.cells #[.int .i64 1, .int .i64 0, .nilIface] 80 (0, 0)) ∧ Same0 w w' := by
  have hf := err_flt
  go_enter Try.func9, Try.ntmps9
  go_wp2_with (first | (go_at_call 14; refine (ncheck_any _ _ _ _).mono ?_; rintro e w1 ⟨k, rfl, h1, h2⟩))
  go_ret
  exact ⟨_, rfl, h1, h2⟩
theorem nat_any (n : Int) (w : World) : Calls Try.prog 11 #[.pointer none, .int .i64 n] w fun e w' => e = .returned (.tuple #[.agg #[.slice none 0 0, .slice none 0 0], .int .i64 1]) ∧ Same0 w w' := by
  go_enter Try.func11, Try.ntmps11
  go_wp2
  exact bodyPost_ret (v := .tuple #[.agg #[.slice none 0 0, .slice none 0 0], .int .i64 1]) (by simp [results, Try.results11, go_sem]) rfl ⟨rfl, (Kept.refl _ w).alloc _⟩
theorem nlen_any (w : World) : Calls Try.prog 10 #[.pointer none] w fun e w' => e = .returned (.int .i64 0) ∧ w' = w := by
  go_enter Try.func10, Try.ntmps10
  go_wp2
  go_ret
  exact ⟨rfl, rfl⟩
theorem ncopy_any (w : World) : Calls Try.prog 19 #[.pointer none] w fun e w' => e = .returned (.pointer none) ∧ w' = w := by
  go_enter Try.func19, Try.ntmps19
  go_wp2
  go_ret
  exact ⟨rfl, rfl⟩
theorem nof_any (n : Int) (w : World) : Calls Try.prog 18 #[.pointer none, .int .i64 n] w fun e w' => e = .returned (.slice none 0 0) ∧ w' = w := by
  go_enter Try.func18, Try.ntmps18
  go_wp2
  go_ret
  exact ⟨rfl, rfl⟩
theorem nnew_any (w : World) : Calls Try.prog 20 #[.pointer none] w fun e w' => e = .returned (.pointer none) ∧ w' = w := by
  go_enter Try.func20, Try.ntmps20
  go_wp2
  go_ret
  exact ⟨rfl, rfl⟩
attribute [local go_sem] Oper.semAt_some
abbrev ruE (x : Nat × Value) : Array Value := #[.int .i64 (x.1 : Int), x.2]
theorem rall_in (F : Fence) (n : Nat) (h22 : F.fn 17) (hro : F.round = none) (p0 : Option Addr) (w : World) :
    CallsIn F n Try.prog 17 #[.pointer p0] w fun e w' => e = .returned (.func (.func 29) #[] #[.pointer (some ⟨w.heap.size, 0, none⟩)]) ∧ w' = w.alloc (.cells #[.pointer p0] 30) := by
  refine callsIn_of_wp Try.func17 rfl h22 ?_ hro
  simp only [Try.ntmps17, List.size_toArray, List.length_cons, List.length_nil, Nat.reduceAdd, Nat.reduceSub, Array.replicate_succ, Array.replicate_zero, List.push_toArray, List.append_toArray, List.nil_append, List.cons_append]
  gi_wp2
  go_ret
  exact ⟨rfl, rfl⟩
set_option maxRecDepth 100000 in
set_option maxHeartbeats 1000000 in
theorem rall1_nil (F : Fence) (n : Nat) (h37 : F.fn 29) (hro : F.round = none) (l Bn : Nat) (J Jx : List (Nat × Value) → World → Prop) (W : World) (hBn : W.cell? ⟨Bn, 0, none⟩ = some (.pointer none)) (h0 : J [] W) :
    CallsIn F n Try.prog 29 #[.func (.yield l) #[] #[], .pointer (some ⟨Bn, 0, none⟩)] W fun e W' => (∃ v, e = .returned v) ∧
      ((∃ ys, ys = [] ∧ J ys W') ∨ (∃ pre, pre <+: [] ∧ Jx pre W')) := by
  refine callsIn_of_wp Try.func29 rfl h37 ?_ hro
  simp only [Try.ntmps29, List.size_toArray, List.length_cons, List.length_nil, Nat.reduceAdd, Nat.reduceSub, Array.replicate_succ, Array.replicate_zero, List.push_toArray, List.append_toArray, List.nil_append, List.cons_append]
  gi_wp2
  refine bodyPost_ret (results_none rfl _ _ _) rfl ?_
  exact ⟨⟨_, rfl⟩, .inl ⟨[], rfl, h0⟩⟩
theorem rnil_stops (F : Fence) (n : Nat) (h37 : F.fn 29) (hro : F.round = none) (Bn n₀ : Nat) (w : World) (hBn : Bn < w.heap.size) (hc : w.cell? ⟨Bn, 0, none⟩ = some (.pointer none)) :
    SeqStopsK F n Try.prog 29 #[.pointer (some ⟨Bn, 0, none⟩)] ruE (Below n₀) (fun ys => ys = []) (fun pre => pre <+: []) 0 w := fun l J Jx W hW _ _ _ h0 =>
  rall1_nil F n h37 hro l Bn J Jx W ((hW.cell (p := ⟨Bn, 0, none⟩) hBn).trans hc) h0
theorem wrs_one (w : World) {o : Obj} (ho : o = .cells #[.int .i64 1, .int .i64 0] 53 (0, 0)) : WrsAt (w.alloc o) (.slice (some ⟨w.heap.size, 0, none⟩) 1 1) [(1, 0)] :=
  wrs_new w [(1, 0)] _ 53 ho (fun i hi => by have hi' : i < 1 := hi; match i, hi' with | 0, _ => exact ⟨rfl, rfl⟩) 1 rfl
theorem flt_one {w : World} {k : Nat} (h : w.heap[k]? = some (.cells #[.int .i64 1, .int .i64 0, .nilIface] 80 (0, 0))) : FltAt w [(1, 0)] (.iface 78 (.pointer (some ⟨k, 0, none⟩))) := .inr ⟨by omega, k, _, rfl, h, rfl⟩
set_option maxRecDepth 100000 in
set_option maxHeartbeats 4000000 in
theorem rnil_walk (lo : Option Addr) (ll lc : Nat) (n : Int) (w : World) :
    Calls Try.prog 6 #[.slice lo ll lc, .int .i64 n] w fun e w' => e = .returned (.bool true) ∧ Below w.heap.size w w' := by
  refine (callsIn_wide (n := 9)).1 ?_
  refine callsIn_of_wp_marks Try.func6 rfl trivial ?_ rfl
  simp only [Try.ntmps6, List.size_toArray, List.length_cons, List.length_nil, Nat.reduceAdd, Nat.reduceSub, Array.replicate_succ, Array.replicate_zero, List.push_toArray, List.append_toArray, List.nil_append, List.cons_append]
  have hFn : ∀ k, Fence.wide.fn k := fun _ => trivial
  gi_wp2_with (fail)
  refine ((callsIn_wide).2 (awake7_any _)).mono ?_
  rintro e w1 ⟨rfl, k1⟩
  gi_wp2_with (fail)
  refine ((callsIn_wide).2 (ncheck_any lo ll lc _)).mono ?_
  rintro e w2 ⟨f1, rfl, hf1, k2⟩
  gi_wp2_with (fail)
  refine ((callsIn_wide).2 (nadd_any lo ll lc _)).mono ?_
  rintro e w3 ⟨f2, rfl, hf2, k3⟩
  gi_wp2_with (fail)
  refine ((callsIn_wide).2 (nat_any n _)).mono ?_
  rintro e w4 ⟨rfl, k4⟩
  gi_wp2_with (fail)
  have kX : Same0 w4 (w4.alloc (.cells #[.slice none 0 0, .slice none 0 0] 39)) := (Kept.refl _ _).alloc _
  have kY : Same0 (w4.alloc (.cells #[.slice none 0 0, .slice none 0 0] 39)) ((w4.alloc (.cells #[.slice none 0 0, .slice none 0 0] 39)).alloc (.cells #[.int .i64 1, .int .i64 0] 53)) := (Kept.refl _ _).alloc _
  have hW := wrs_one (w4.alloc (.cells #[.slice none 0 0, .slice none 0 0] 39)) rfl
  rw [World.size_alloc] at hW
  have hX := kY.at0 (heap_alloc_new w4 (.cells #[.slice none 0 0, .slice none 0 0] 39))
  have K5 : Same0 w ((w4.alloc (.cells #[.slice none 0 0, .slice none 0 0] 39)).alloc (.cells #[.int .i64 1, .int .i64 0] 53)) := (((((k1.trans' k2).trans' k3).trans' k4).trans' kX).trans' kY)
  have hf1' := kY.at0 (kX.at0 (k4.at0 (k3.at0 hf1)))
  have hf2' := kY.at0 (kX.at0 (k4.at0 hf2))
  obtain ⟨w5, hw5⟩ : ∃ w5, w5 = (w4.alloc (.cells #[.slice none 0 0, .slice none 0 0] 39)).alloc (.cells #[.int .i64 1, .int .i64 0] 53) := ⟨_, rfl⟩
  have hz5 : w4.heap.size < w5.heap.size := by rw [hw5]; simp; omega
  rw [← hw5] at hW hX K5 hf1' hf2' ⊢
  obtain ⟨xb, hxb⟩ : ∃ xb, xb = w4.heap.size := ⟨_, rfl⟩
  rw [← hxb] at hX hW ⊢
  clear kX kY hw5 k1 k2 k3 k4 hf1 hf2 hxb hz5
  refine ((callsIn_wide).2 (same_flt (flt_one hf1') hW (by decide))).mono ?_
  rintro e w6 ⟨rfl, k6⟩
  gi_wp2_with (fail)
  refine ((callsIn_wide).2 (same_flt (flt_one (k6.at0 hf2')) (hW.same k6) (by decide))).mono ?_
  rintro e w7 ⟨rfl, k7⟩
  have K7 := K5.trans' (k6.trans' k7)
  have hX7 := (k6.trans' k7).at0 hX
  clear hW hX k6 k7 K5 hf1' hf2'
  gi_wp2_with (gi_at_call 17; refine (rall_in Fence.wide _ trivial rfl _ _).mono ?_; rintro e w' ⟨rfl, rfl⟩)
  have bM := (Boxed.new w7 3 (.int .i64 0)).alloc (.cells #[.pointer none] 30)
  have bP := Boxed.new (w7.alloc (.cells #[.int .i64 0] 3)) 30 (.pointer none)
  have kM : Same0 w7 ((w7.alloc (.cells #[.int .i64 0] 3)).alloc (.cells #[.pointer none] 30)) := ((Kept.refl _ w7).alloc _).alloc _
  have hX8 := kM.at0 hX7
  have hb5 : Below w.heap.size w ((w7.alloc (.cells #[.int .i64 0] 3)).alloc (.cells #[.pointer none] 30)) := (K7.trans' kM).below
  simp only [World.size_alloc] at bM bP
  have hxl : xb < w7.heap.size := lt_of_at hX7
  have hwl : w.heap.size ≤ w7.heap.size := K7.size
  obtain ⟨W0, hW0⟩ : ∃ W0, (w7.alloc (.cells #[.int .i64 0] 3)).alloc (.cells #[.pointer none] 30) = W0 := ⟨_, rfl⟩
  have hsz : W0.heap.size = w7.heap.size + 2 := by rw [← hW0]; simp
  rw [hW0] at bM bP hX8 hb5 ⊢
  clear hW0 kM hX7 K7
  refine wpIn_rangeFunc_ownH rfl (by omega) (gf := 29) (lb := #[.pointer (some ⟨w7.heap.size + 1, 0, none⟩)]) rfl trivial (enters_of Try.func29 (by kernel_rfl) rfl)
    (rnil_stops Fence.wide _ trivial rfl (w7.heap.size + 1) W0.heap.size W0 (by omega) bP.cell) belowK_t (belowK_b (Nat.le_refl _)) (Below.refl _ _) (fun _ => rfl)
    (fun _ W => Below W0.heap.size W0 W) (fun _ _ _ => False) (ownFrom_below (Nat.le_refl _) (Nat.le_refl _)) (fun _ _ _ _ _ hs _ _ => hs) (Below.refl _ _)
    (fun _ _ _ => True) (fun _ _ _ _ _ _ _ _ _ => trivial) ?assign ?body ?done ?stop
  case assign =>
    rintro l pre z W K hi hK
    gi_wp2
    exact hK _ _ (KeepsFrom.refl _ _) (Below.refl _ _) hi trivial
  case body =>
    rintro l pre z a' W hl _ _ _ hlt
    omega
  case done =>
    rintro D zs W hD rfl hB hK
    have hbW := hb5.trans (hB.mono hb5.size)
    have hX9 := (hB.block xb (by omega)).trans hX8
    have z0 := cellAt hX9 0
    have m0 : W.cell? ⟨w7.heap.size, 0, none⟩ = some (.int .i64 0) := (hB.cell (p := ⟨w7.heap.size, 0, none⟩) (by simp; omega)).trans bM.cell
    simp only [List.getElem?_toArray, List.getElem?_cons_zero] at z0
    gi_wp2_with (first | (gi_at_call 18; refine ((callsIn_wide).2 (nof_any _ _)).mono ?_; rintro e w' ⟨rfl, rfl⟩) | (gi_at_call 19; refine ((callsIn_wide).2 (ncopy_any _)).mono ?_; rintro e w' ⟨rfl, rfl⟩) | (gi_at_call 20; refine ((callsIn_wide).2 (nnew_any _)).mono ?_; rintro e w' ⟨rfl, rfl⟩) | (gi_at_call 10; refine ((callsIn_wide).2 (nlen_any _)).mono ?_; rintro e w' ⟨rfl, rfl⟩))
    refine ⟨by simp, .inl ⟨_, _, rfl, run_takeDeferred hK, ?_⟩⟩
    exact ⟨_, results_tmp rfl _ _ _, rfl, hbW.trans (belowK_b (w := w) (Nat.le_refl _) w' D _ _ (by have := hb5.size; omega) hK rfl rfl)⟩
  case stop =>
    rintro D c pre W _ _ h _
    exact h.elim
end Go.Proofs.Ytppdopccipngpaa
