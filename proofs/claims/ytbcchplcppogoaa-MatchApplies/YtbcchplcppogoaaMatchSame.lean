/- The walk of Same of package match. -/
import Derived.Test.YtbcchplcppogoaaMatchSmall
namespace Go.Proofs.Ytbcchplcppogoaa
set_option maxRecDepth 100000
set_option linter.unusedVariables false
open Go.RowKit
attribute [local go_sem ↓] Go.wp_at_zero Go.wp_at_succ
def alikeE (L : List Sym) (a b : List Int) : Int := if checkE L a ≠ 0 then checkE L a else checkE L b
/-- A term alone, its variables numbered anew. -/
def pl1 (a : List Int) : List Int := a.map (pl (vs [] a))
theorem plains_one (a : List Int) : plains [a] = [pl1 a] := by simp [plains, orderL, pl1]
def alikeB (L : List Sym) (a b : List Int) : Bool := decide (alikeE L a b = 0) && sameB (pl1 a) (pl1 b)
set_option maxHeartbeats 1000000 in
theorem plain_at {ww : World} {B : Nat} {ao : Option Addr} {cap : Nat} {a : List Int} (hB : ww.heap[B]? = some (.cells #[.slice ao a.length cap] 25 (0, 0))) (ha : IntsAt ww ao a) (hn : ao = none → a.length = 0 ∧ cap = 0) (hm : a.length ≤ 2000) :
    Calls Try.prog 41 #[.slice (some ⟨B, 0, none⟩) 1 1] ww fun e w' => ∃ g xo xc, e = .returned (.slice (some ⟨g, 0, none⟩) 1 1) ∧ w'.cell? ⟨g, 0, none⟩ = some (.slice xo (pl1 a).length xc) ∧ g < w'.heap.size ∧ IntsAt w' xo (pl1 a) ∧ Same0 ww w' := by
  have hl : Lists ww (some ⟨B, 0, none⟩) [a] := by
    refine .inr ⟨_, _, rfl, lt_of_at hB, fun i hi => ?_⟩
    obtain rfl : i = 0 := by simpa using hi
    exact ⟨ao, cap, cellAt hB 0, ha, hn⟩
  refine (tplain_any (lcap := 1) hl (by simp) (fun t ht => by simp at ht; subst ht; omega)).mono ?_
  rintro e w' ⟨g, cs, rfl, hP, hk⟩
  rw [plains_one] at hP
  obtain ⟨v, h1, h2, _⟩ := hP.each 0 (by simp)
  obtain ⟨xo, xc, rfl, h3, _, _⟩ := h2.ints
  have gl := hP.row.lt g rfl
  exact ⟨g, xo, xc, rfl, (hP.row.cellAt 0 (by simp)).trans h1, gl.2, h3, hk⟩
set_option maxHeartbeats 4000000 in
theorem msame_any {n b : Nat} {w : World} {L : List Sym} (h : Sg n w b L) {xo yo : Option Addr} {xc yc : Nat} {x y : List Int} (hx : IntsAt w xo x) (hxn : xo = none → x.length = 0 ∧ xc = 0) (hxm : x.length ≤ maxLen) (hy : IntsAt w yo y) (hyn : yo = none → y.length = 0 ∧ yc = 0) (hym : y.length ≤ maxLen) :
    Calls Try.prog 22 #[.pointer (some ⟨b, 0, none⟩), .slice xo x.length xc, .slice yo y.length yc] w fun e w' => e = .returned (.tuple #[.bool (alikeB L x y), .int .i64 (alikeE L x y)]) ∧ Same0 w w' := by
  have c1 := check_any (cap := xc) h hx hxm
  have c2 : Hid (∀ w1, Same0 w w1 → Calls Try.prog 31 #[.pointer (some ⟨b, 0, none⟩), .slice yo y.length yc] w1 fun e w' => e = .returned (.int .i64 (checkE L y)) ∧ Same0 w1 w') := fun w1 hk => check_any (cap := yc) (h.same hk) (hy.same hk) hym
  by_cases hz : checkE L x = 0
  · rw [hz] at c1
    by_cases hq : checkE L y = 0
    · obtain ⟨x1, -, -⟩ := checkE_zero.1 hz
      obtain ⟨y1, -, -⟩ := checkE_zero.1 hq
      have HX : Hid (alikeE L x y = 0 ∧ alikeB L x y = sameB (pl1 x) (pl1 y)) := by
        have e : alikeE L x y = 0 := by simp [alikeE, hz, hq]
        exact ⟨e, by simp [alikeB, e]⟩
      rw [hq] at c2
      clear hz hq
      go_enter Try.func22, Try.ntmps22
      go_upto_region 4 with (first | (go_at_call 31; refine c1.mono ?_; rintro e w1 ⟨rfl, hk1⟩))
      go_upto_region 7 with (first | (go_at_call 31; refine (c2.out _ hk1).mono ?_; rintro e w2 ⟨rfl, hk2⟩))
      have K2 := hk1.trans' hk2
      have CX : Hid (∀ (ww : World) (B : Nat), Same0 w ww → ww.heap[B]? = some (.cells #[.slice xo x.length xc] 25 (0, 0)) → Calls Try.prog 41 #[.slice (some ⟨B, 0, none⟩) 1 1] ww fun e w' => ∃ g xo xc, e = .returned (.slice (some ⟨g, 0, none⟩) 1 1) ∧ w'.cell? ⟨g, 0, none⟩ = some (.slice xo (pl1 x).length xc) ∧ g < w'.heap.size ∧ IntsAt w' xo (pl1 x) ∧ Same0 ww w') := fun ww B hk hB => plain_at hB (hx.same hk) hxn x1
      have CY : Hid (∀ (ww : World) (B : Nat), Same0 w ww → ww.heap[B]? = some (.cells #[.slice yo y.length yc] 25 (0, 0)) → Calls Try.prog 41 #[.slice (some ⟨B, 0, none⟩) 1 1] ww fun e w' => ∃ g xo xc, e = .returned (.slice (some ⟨g, 0, none⟩) 1 1) ∧ w'.cell? ⟨g, 0, none⟩ = some (.slice xo (pl1 y).length xc) ∧ g < w'.heap.size ∧ IntsAt w' xo (pl1 y) ∧ Same0 ww w') := fun ww B hk hB => plain_at hB (hy.same hk) hyn y1
      have hpx : (pl1 x).length ≤ maxLen := by unfold maxLen; simp [pl1]; omega
      clear c1 c2 hk1 hk2 hx hy hxn hyn h hxm hym
      go_region_with (first
        | (go_at_call 41; refine (CX.out _ _ (by first | exact (K2.drew.alloc _) | exact ((K2.drew.alloc _).alloc _)) (by first | exact heap_alloc_new _ _ | exact heap_alloc2_old _ _ _ | exact heap_alloc2_new _ _ _)).mono ?_; rintro e w3 ⟨g3, xo3, xc3, rfl, q1, q2, q3, hk3⟩; have K3 : Same0 w w3 := Same0.trans' (by first | exact (K2.drew.alloc _) | exact ((K2.drew.alloc _).alloc _)) hk3)
        | (go_at_call 41; refine (CY.out _ _ (by first | exact K3 | exact K3.alloc _) (by first | exact heap_alloc_new _ _ | exact hk3.at0 (heap_alloc2_old _ _ _) | exact hk3.at0 (heap_alloc2_new _ _ _))).mono ?_; rintro e w4 ⟨g4, xo4, xc4, rfl, r1, r2, r3, hk4⟩; have k34 : Same0 w3 w4 := (by first | exact hk4 | exact Same0.new hk4); have q1' := (k34.cell (p := ⟨g3, 0, none⟩) q2 (fun f => f)).trans q1; have ce := equal_any (acap := xc3) (bcap := xc4) (q3.same k34) r3 hpx)
        | (go_at_call 40; refine ce.mono ?_; rintro e w5 ⟨rfl, hk5⟩))
      all_goals
        have K5 : Same0 w w5 := (K3.trans' k34).trans' hk5
        clear q1 q1' r1 ce CX CY
        go_wp2
        go_ret2
        exact ⟨by rw [HX.out.1, HX.out.2]; rfl, K5⟩
    · have hq' : (checkE L y == 0) = false := by simpa using hq
      have HX : Hid (alikeE L x y = checkE L y ∧ alikeB L x y = false) := by
        have e : alikeE L x y = checkE L y := by simp [alikeE, hz]
        exact ⟨e, by simp [alikeB, e, hq]⟩
      clear hz hq
      go_enter Try.func22, Try.ntmps22
      go_upto_region 4 with (first | (go_at_call 31; refine c1.mono ?_; rintro e w1 ⟨rfl, hk1⟩))
      go_wp2_with (first | (go_at_call 31; refine (c2.out _ hk1).mono ?_; rintro e w2 ⟨rfl, hk2⟩))
      go_ret2
      exact ⟨by rw [HX.out.1, HX.out.2]; rfl, hk1.trans' hk2⟩
  · have hz' : (checkE L x == 0) = false := by simpa using hz
    have HX : Hid (alikeE L x y = checkE L x ∧ alikeB L x y = false) := by
      have e : alikeE L x y = checkE L x := by simp [alikeE, hz]
      exact ⟨e, by simp [alikeB, e, hz]⟩
    clear hz
    go_enter Try.func22, Try.ntmps22
    go_wp2_with (first | (go_at_call 31; refine c1.mono ?_; rintro e w1 ⟨rfl, hk1⟩))
    go_ret2
    exact ⟨by rw [HX.out.1, HX.out.2]; rfl, hk1⟩
end Go.Proofs.Ytbcchplcppogoaa
