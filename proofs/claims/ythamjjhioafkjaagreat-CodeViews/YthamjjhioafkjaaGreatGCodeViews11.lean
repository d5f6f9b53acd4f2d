import Derived.Test.YthamjjhioafkjaaGreatGCodeViews09
import Derived.Test.YthamjjhioafkjaaGreatGCodeViews10
import Derived.Test.YthamjjhioafkjaaGreatGCodeViews05
import Derived.Test.YthamjjhioafkjaaGreatGCodeViews04
import Derived.Deep.WholeRow
import Derived.Test.YthamjjhioafkjaaGreatGCodeViews08
import Derived.Test.YthamjjhioafkjaaGreatGCodeViews06
import Derived.Test.YthamjjhioafkjaaGreatGCodeViews02
import Derived.Test.YthamjjhioafkjaaGreatProg
import Derived.KernelRfl
import Derived.Handy
import Derived.LaidEql
import Derived.Stop.Asserts
import Derived.RowKitTokens
import Derived.Test.YthamjjhioafkjaaGreatGCodeViews07
import Derived.SizedLaws
namespace Go.Proofs.YthamjjhioafkjaaGreat
set_option maxRecDepth 100000
set_option linter.unusedVariables false
open Go.RowKit
attribute [local go_sem ↓] Go.wp_at_zero Go.wp_at_succ
theorem led_zero {J : List Int} (hv : ∀ x ∈ J,-198 ≤ x) : Led J (ld0 J) (ld0 J) (fun x => if 0 ≤ x then 1 else 0) := by
  have hl := ld0_ok hv
  refine ⟨hl.part, hl.idem, fun x _ => Iff.rfl, fun x hx hn => ?_⟩
  by_cases h : 0 ≤ x ∧ at' J x < 0
  · have e : ld0 J x = at' J x := by unfold ld0; rw [if_pos h]
    simp only [e]
    rw [if_neg (by omega), if_pos h.1]; omega
  · exact absurd (by unfold ld0; rw [if_neg h]) hn
theorem JJ.jat {L : List Sym} {w0 w : World} {B : JB} {J : List Int} (hv : ∀ x ∈ J,-198 ≤ x) (h : JJ w0 B w J J.length (fun x => x) (fun i => (endN L J i : Int)) (fun i => ld0 J i)) : JAt L B w J (ld0 J) (fun _ => 0) := by
  refine ⟨ld0 J, _, ⟨?_, ?_, h.ends, h.same, h.sizes, h.ap⟩, led_zero hv⟩
  · refine h.head.congr (fun v h1 h2 => ?_)
    unfold ld0; rw [if_neg (by omega)]
  · have hr := h.row
    rcases hr.2 with ⟨e, _⟩ | ⟨g, cap, cur, hv', hb, hg, h1, h2, h3, h4⟩
    · cases e
    · simp only [Value.slice.injEq, Option.some.injEq, Addr.mk.injEq, and_true, true_and] at hv'
      obtain ⟨rfl, rfl⟩ := hv'
      refine ⟨cur, _, hg, by omega, fun i hi => ?_⟩
      have := hr.cellAt i (by omega)
      rw [cellAt hg, iv_get hi] at this
      show cur[i]? = some (.int .i64 (at' J (i : Int)))
      rw [this, at'_nat J i hi]
theorem jl_vars {L : List Sym} {a b : List Int} (ha : checkE L a = 0) (hb : checkE L b = 0) {ap : Nat} (hap : ap ≤ 99) : ∀ x ∈ jl a b ap,-198 ≤ x := by
  intro x hx
  unfold jl at hx
  rcases List.mem_append.1 hx with e | e
  · have := (badE_zero.1 (checkE_zero.1 ha).2.1 x e).2; omega
  · obtain ⟨y, hy, rfl⟩ := List.mem_map.1 e
    have := (badE_zero.1 (checkE_zero.1 hb).2.1 y hy).2
    unfold shF; split <;> omega
def SolPost (L : List Sym) (a b : List Int) (ap : Nat) (w : World) (e : Ending) (w' : World) : Prop := Same0 w w' ∧
  (checkE L a ≠ 0 → e = .returned (.tuple #[.pointer none, .int .i64 0, .int .i64 (checkE L a)])) ∧
  (checkE L a = 0 → checkE L b ≠ 0 → e = .returned (.tuple #[.pointer none, .int .i64 0, .int .i64 (checkE L b)])) ∧
  (checkE L a = 0 → checkE L b = 0 → solF L (jl a b ap) a.length = none → e = .returned (.tuple #[.pointer none, .int .i64 0, .int .i64 60])) ∧
  (checkE L a = 0 → checkE L b = 0 → ∀ ld k, solF L (jl a b ap) a.length = some (ld, k) → ∃ B sz', e = .returned (.tuple #[.pointer (some ⟨B.jb, 0, none⟩), .int .i64 k, .int .i64 0]) ∧ JAt L B w' (jl a b ap) ld sz' ∧ LdOk (jl a b ap) ld ∧ (∀ f, B.Foot f → w.heap.size ≤ f ∧ f < w'.heap.size) ∧ ∃ u, Val L (jl a b ap) ld 0 u ∧ k = min (u.length : Int) 2001)
set_option maxHeartbeats 4000000 in
theorem solve_any {b : Nat} {w : World} {L : List Sym} (h : Sg w.heap.size w b L) {xo yo : Option Addr} {xc yc : Nat} {x y : List Int} (hx : IntsAt w xo x) (hy : IntsAt w yo y) (hxm : x.length ≤ maxLen) (hym : y.length ≤ maxLen) {ap : Nat} (hap : ap ≤ 99) :
    Calls Tryz.prog 176 #[.pointer (some ⟨b,0,none⟩),.slice xo x.length xc,.slice yo y.length yc,.int .i64 (ap : Int)] w (SolPost L x y ap w) := by
  have c1 := check_any (cap := xc) h hx hxm
  have c2 : Hid (∀ w1, Same0 w w1 → Calls Tryz.prog 52 #[.pointer (some ⟨b, 0, none⟩), .slice yo y.length yc] w1 fun e w' => e = .returned (.int .i64 (checkE L y)) ∧ Same0 w1 w') := fun w1 hk => check_any (cap := yc) (h.same hk) (hy.same hk) hym
  by_cases hz : checkE L x = 0
  · by_cases hq : checkE L y = 0
    · obtain ⟨x1, x2, x3⟩ := checkE_zero.1 hz
      obtain ⟨y1, y2, y3⟩ := checkE_zero.1 hq
      obtain ⟨J, hJ⟩ : ∃ J, jl x y ap = J := ⟨_, rfl⟩
      have hJl : J.length = x.length + y.length := by rw [← hJ]; simp [jl]
      have hv := jl_vars hz hq hap
      have hT := trs_jl (apart := (ap : Int)) (by omega) x3 y3
      rw [hJ] at hv hT
      have p1 := isT_pos x3
      have p2 := isT_pos y3
      obtain ⟨res, hU, hR1, hR2⟩ := (sol_any hT hv (m := x.length) (by omega) (by omega)).uni
      have CJ : Hid (∀ w1, Same0 w w1 → Calls Tryz.prog 180 #[.pointer (some ⟨b, 0, none⟩), .slice xo x.length xc, .slice yo y.length yc, .int .i64 (ap : Int)] w1 fun e w' => ∃ B, e = .returned (.pointer (some ⟨B.jb, 0, none⟩)) ∧ JAt L B w' J (ld0 J) (fun _ => 0) ∧ (∀ f, B.Foot f → w.heap.size ≤ f) ∧ Same0 w w') := by
        intro w1 hk
        have hg : Sg w1.heap.size w1 b L := by
          have := h.same hk
          obtain ⟨⟨sv, mr, s1, s2⟩, s3⟩ := this
          exact ⟨⟨sv, mr, s1, fun k hk' => Nat.lt_of_lt_of_le (s2 k hk') hk.size⟩, s3⟩
        refine (ujoin_any hg (hx.same hk) (hy.same hk) x3 y3 x1 y1 (fun z hz => (badE_zero.1 y2 z hz).2) hap).mono ?_
        rintro e w' ⟨B, rfl, hj⟩
        rw [hJ] at hj
        exact ⟨B, rfl, hj.jat hv, fun f hf => Nat.le_trans hk.size (hj.new f hf), hk.trans' hj.kept⟩
      have CU : Hid (∀ B w1, JAt L B w1 J (ld0 J) (fun _ => 0) → Calls Tryz.prog 181 #[.pointer (some ⟨B.jb, 0, none⟩), .int .i64 0, .int .i64 (x.length : Int)] w1 (UEnd L B J (fun _ => 0) res w1)) := by
        intro B w1 hj
        exact unite_any (a := 0) hj (by omega) (by omega) (by omega) hU
      rw [hz] at c1
      rw [hq] at c2
      cases res with
      | none =>
        have HX : Hid (∀ w', Same0 w w' → SolPost L x y ap w (.returned (.tuple #[.pointer none, .int .i64 0, .int .i64 60])) w') := by
          intro w' hk
          refine ⟨hk, fun f => absurd hz f, fun _ f => absurd hq f, fun _ _ _ => rfl, fun _ _ ld k f => ?_⟩
          rw [hJ, hR1 rfl] at f; cases f
        clear hU hR1 hR2 hz hq hx hy h hJ
        go_enter Tryz.func176, Tryz.ntmps176
        go_upto_region 4 with (first | (go_at_call 52; refine c1.mono ?_; rintro e w1 ⟨rfl, hk1⟩))
        go_upto_region 7 with (first | (go_at_call 52; refine (c2.out _ hk1).mono ?_; rintro e w2 ⟨rfl, hk2⟩))
        have K2 := hk1.trans' hk2
        go_wp2_with (first | (go_at_call 180; refine (CJ.out _ K2).mono ?_; rintro e w3 ⟨B, rfl, hj3, hf3, hk3⟩) | (go_at_call 181; refine (CU.out _ _ hj3).mono ?_; rintro e w4 ⟨-, he4, hk4⟩; obtain rfl := he4 rfl; clear he4))
        have K4 : Same0 w w4 := hk3.trans hk4 (fun i hi f => by have := hf3 i (JB.way_foot f); omega)
        exact bodyPost_ret (v := .tuple #[.pointer none, .int .i64 0, .int .i64 60]) (by simp [results, Tryz.results176, go_sem]) rfl (HX.out _ K4)
      | some ld =>
        obtain ⟨hld, k, sz', hs, hk1, hk2⟩ := hR2 ld rfl
        have CS : Hid (∀ B w1, JAt L B w1 J ld (fun _ => 0) → Calls Tryz.prog 182 #[.pointer (some ⟨B.jb, 0, none⟩), .int .i64 0] w1 (SizPost L B J ld w1 k sz')) := fun B w1 hj => usize_any hT hld (by omega) _ w1 _ 0 k sz' hj (part_nat (p := 0) (by omega)) (fun p => .inr ⟨by simp, by simp⟩) hs
        have HX : Hid (∀ B w', JAt L B w' J ld sz' → (∀ f, B.Foot f → w.heap.size ≤ f) → Same0 w w' → (k = -1 → SolPost L x y ap w (.returned (.tuple #[.pointer none, .int .i64 0, .int .i64 60])) w') ∧ (k ≠ -1 → SolPost L x y ap w (.returned (.tuple #[.pointer (some ⟨B.jb, 0, none⟩), .int .i64 k, .int .i64 0])) w')) := by
          intro B w' hj hf hk
          have hfl : ∀ f, B.Foot f → f < w'.heap.size := by
            obtain ⟨nx, ρ, hC, -⟩ := id hj
            exact fun f hf => hC.lt hf
          refine ⟨fun e => ?_, fun e => ?_⟩
          · refine ⟨hk, fun f => absurd hz f, fun _ f => absurd hq f, fun _ _ _ => rfl, fun _ _ ld k f => ?_⟩
            rw [hJ, hk1 e] at f; cases f
          · obtain ⟨e1, u, e2, e3⟩ := hk2 e
            refine ⟨hk, fun f => absurd hz f, fun _ f => absurd hq f, fun _ _ f => ?_, fun _ _ ld' k' f => ?_⟩
            · rw [hJ, e1] at f; cases f
            · rw [hJ] at f ⊢
              rw [e1] at f
              simp only [Option.some.injEq, Prod.mk.injEq] at f
              obtain ⟨rfl, rfl⟩ := f
              exact ⟨B, sz', rfl, hj, hld, fun f hf' => ⟨hf f hf', hfl f hf'⟩, u, e2, e3⟩
        clear hU hR1 hR2 hz hq hx hy h hJ hk1 hk2 hs
        go_enter Tryz.func176, Tryz.ntmps176
        go_upto_region 4 with (first | (go_at_call 52; refine c1.mono ?_; rintro e w1 ⟨rfl, hk1⟩))
        go_upto_region 7 with (first | (go_at_call 52; refine (c2.out _ hk1).mono ?_; rintro e w2 ⟨rfl, hk2⟩))
        have K2 := hk1.trans' hk2
        go_upto_region 10 with (first | (go_at_call 180; refine (CJ.out _ K2).mono ?_; rintro e w3 ⟨B, rfl, hj3, hf3, hk3⟩) | (go_at_call 181; refine (CU.out _ _ hj3).mono ?_; rintro e w4 ⟨he4, -, hk4⟩; obtain ⟨rfl, hj4⟩ := he4 ld rfl; clear he4))
        have K4 : Same0 w w4 := hk3.trans hk4 (fun i hi f => by have := hf3 i (JB.way_foot f); omega)
        by_cases hk : k = -1
        · subst hk
          go_wp2_with (first | (go_at_call 182; refine (CS.out _ _ hj4).mono ?_; rintro e w5 ⟨rfl, hj5, hk5⟩))
          have K5 : Same0 w w5 := K4.trans hk5 (fun i hi f => by
            have := hf3 i (by rcases f with e | e | e; exact .inl e; exact .inr (.inr (.inr (.inl e))); exact .inr (.inr (.inr (.inr e)))); omega)
          exact bodyPost_ret (v := .tuple #[.pointer none, .int .i64 0, .int .i64 60]) (by simp [results, Tryz.results176, go_sem]) rfl ((HX.out B w5 hj5 hf3 K5).1 (by trivial))
        · go_wp2_with (first | (go_at_call 182; refine (CS.out _ _ hj4).mono ?_; rintro e w5 ⟨rfl, hj5, hk5⟩))
          have K5 : Same0 w w5 := K4.trans hk5 (fun i hi f => by
            have := hf3 i (by rcases f with e | e | e; exact .inl e; exact .inr (.inr (.inr (.inl e))); exact .inr (.inr (.inr (.inr e)))); omega)
          exact bodyPost_ret (v := .tuple #[.pointer (some ⟨B.jb, 0, none⟩), .int .i64 k, .int .i64 0]) (by simp [results, Tryz.results176, go_sem]) rfl ((HX.out B w5 hj5 hf3 K5).2 hk)
    · rw [hz] at c1
      have HX : Hid (∀ w', Same0 w w' → SolPost L x y ap w (.returned (.tuple #[.pointer none, .int .i64 0, .int .i64 (checkE L y)])) w') := fun w' hk => ⟨hk, fun f => absurd hz f, fun _ _ => rfl, fun _ f => absurd f hq, fun _ f => absurd f hq⟩
      have hq' : (checkE L y == 0) = false := by simpa using hq
      clear hz hq
      go_enter Tryz.func176, Tryz.ntmps176
      go_upto_region 4 with (first | (go_at_call 52; refine c1.mono ?_; rintro e w1 ⟨rfl, hk1⟩))
      go_wp2_with (first | (go_at_call 52; refine (c2.out _ hk1).mono ?_; rintro e w2 ⟨rfl, hk2⟩))
      exact bodyPost_ret (v := .tuple #[.pointer none, .int .i64 0, .int .i64 (checkE L y)]) (by simp [results, Tryz.results176, go_sem]) rfl (HX.out _ (hk1.trans' hk2))
  · have HX : Hid (∀ w', Same0 w w' → SolPost L x y ap w (.returned (.tuple #[.pointer none, .int .i64 0, .int .i64 (checkE L x)])) w') := fun w' hk => ⟨hk, fun _ => rfl, fun f => absurd f hz, fun f => absurd f hz, fun f => absurd f hz⟩
    have hz' : (checkE L x == 0) = false := by simpa using hz
    clear hz
    go_enter Tryz.func176, Tryz.ntmps176
    go_wp2_with (first | (go_at_call 52; refine c1.mono ?_; rintro e w1 ⟨rfl, hk1⟩))
    exact bodyPost_ret (v := .tuple #[.pointer none, .int .i64 0, .int .i64 (checkE L x)]) (by simp [results, Tryz.results176, go_sem]) rfl (HX.out _ hk1)
end Go.Proofs.YthamjjhioafkjaaGreat
namespace Go.Proofs.YthamjjhioafkjaaGreat
set_option maxRecDepth 100000
set_option linter.unusedVariables false
open Go.RowKit
attribute [local go_sem ↓] Go.wp_at_zero Go.wp_at_succ
structure ZWk (Z : Array Value) : Prop where
  size : Z.size = 202
  var : ∀ v, 1 ≤ v → v < 199 → Z[2 + v]? = some (.int .i64 0)
  last : Z[201]? = some (.int .i64 0)
  one : Z.all (·.oneCell') = true
end Go.Proofs.YthamjjhioafkjaaGreat
namespace Go.Proofs.YthamjjhioafkjaaGreat
set_option maxRecDepth 100000
set_option linter.unusedVariables false
open Go.RowKit
attribute [local go_sem ↓] Go.wp_at_zero Go.wp_at_succ
theorem sg_up {n b : Nat} {w : World} {L : List Sym} (h : Sg n w b L) {m : Nat} (hn : n ≤ m) : Sg m w b L := by
  obtain ⟨⟨sv, mr, s1, s2⟩, s3⟩ := h
  exact ⟨⟨sv, mr, s1, fun k hk => Nat.lt_of_lt_of_le (s2 k hk) hn⟩, s3⟩
def claE (L : List Sym) (a b : List Int) : Int := if checkE L a ≠ 0 then checkE L a else checkE L b
def claB (L : List Sym) (a b : List Int) : Bool := decide (claE L a b = 0) && (solF L (jl a b 99) a.length).isNone
theorem bad_ne (L : List Sym) (t : List Int) : badE L t ≠ 60 := by
  induction t with
  | nil => simp [badE]
  | cons x r ih =>
    simp only [badE, ne_eq]
    split
    · omega
    · split
      · omega
      · exact ih
theorem check_ne (L : List Sym) (t : List Int) : checkE L t ≠ 60 := by
  have := bad_ne L t
  unfold checkE
  split
  · omega
  · split
    · exact this
    · split <;> omega
theorem clash_any {b : Nat} {w : World} {L : List Sym} (h : Sg w.heap.size w b L) {xo yo : Option Addr} {xc yc : Nat} {x y : List Int} (hx : IntsAt w xo x) (hy : IntsAt w yo y) (hxm : x.length ≤ maxLen) (hym : y.length ≤ maxLen) :
    Calls Tryz.prog 168 #[.pointer (some ⟨b,0,none⟩),.slice xo x.length xc,.slice yo y.length yc] w fun e w' => e = .returned (.tuple #[.bool (claB L x y),.int .i64 (claE L x y)]) ∧ Same0 w w' := by
  have c := solve_any (xc := xc) (yc := yc) h hx hy hxm hym (ap := 99) (by omega)
  clear h hx hy
  by_cases hz : checkE L x = 0
  · by_cases hq : checkE L y = 0
    · have e0 : claE L x y = 0 := by simp [claE, hz, hq]
      cases hs : solF L (jl x y 99) x.length with
      | none =>
        have e1 : claB L x y = true := by simp [claB, e0, hs]
        rw [e0, e1]
        have c2 : Calls Tryz.prog 176 #[.pointer (some ⟨b, 0, none⟩), .slice xo x.length xc, .slice yo y.length yc, .int .i64 99] w fun e w' => e = .returned (.tuple #[.pointer none, .int .i64 0, .int .i64 60]) ∧ Same0 w w' := c.mono (fun e w' g => ⟨g.2.2.2.1 hz hq hs, g.1⟩)
        clear c hz hq hs e0 e1
        go_enter Tryz.func168, Tryz.ntmps168
        go_wp2_with (first | (go_at_call 176; refine c2.mono ?_; rintro e w1 ⟨rfl, hk⟩))
        go_ret2
        exact ⟨rfl, hk⟩
      | some v =>
        obtain ⟨ld, k⟩ := v
        have e1 : claB L x y = false := by simp [claB, e0, hs]
        rw [e0, e1]
        have c2 : Calls Tryz.prog 176 #[.pointer (some ⟨b, 0, none⟩), .slice xo x.length xc, .slice yo y.length yc, .int .i64 99] w fun e w' => (∃ j, e = .returned (.tuple #[.pointer (some ⟨j, 0, none⟩), .int .i64 k, .int .i64 0])) ∧ Same0 w w' := c.mono (fun e w' g => by
          obtain ⟨B, sz', a1, _⟩ := g.2.2.2.2 hz hq ld k hs
          exact ⟨⟨_, a1⟩, g.1⟩)
        clear c hz hq hs e0 e1
        go_enter Tryz.func168, Tryz.ntmps168
        go_wp2_with (first | (go_at_call 176; refine c2.mono ?_; rintro e w1 ⟨⟨j, rfl⟩, hk⟩))
        go_ret2
        exact ⟨rfl, hk⟩
    · have e0 : claE L x y = checkE L y := by simp [claE, hz]
      have e1 : claB L x y = false := by simp [claB, e0, hq]
      rw [e0, e1]
      have c2 : Calls Tryz.prog 176 #[.pointer (some ⟨b, 0, none⟩), .slice xo x.length xc, .slice yo y.length yc, .int .i64 99] w fun e w' => e = .returned (.tuple #[.pointer none, .int .i64 0, .int .i64 (checkE L y)]) ∧ Same0 w w' := c.mono (fun e w' g => ⟨g.2.2.1 hz hq, g.1⟩)
      have hn : (checkE L y == 60) = false := by simpa using check_ne L y
      clear c hz hq e0 e1
      go_enter Tryz.func168, Tryz.ntmps168
      go_wp2_with (first | (go_at_call 176; refine c2.mono ?_; rintro e w1 ⟨rfl, hk⟩))
      go_ret2
      exact ⟨rfl, hk⟩
  · have e0 : claE L x y = checkE L x := by simp [claE, hz]
    have e1 : claB L x y = false := by simp [claB, e0, hz]
    rw [e0, e1]
    have c2 : Calls Tryz.prog 176 #[.pointer (some ⟨b, 0, none⟩), .slice xo x.length xc, .slice yo y.length yc, .int .i64 99] w fun e w' => e = .returned (.tuple #[.pointer none, .int .i64 0, .int .i64 (checkE L x)]) ∧ Same0 w w' := c.mono (fun e w' g => ⟨g.2.1 hz, g.1⟩)
    have hn : (checkE L x == 60) = false := by simpa using check_ne L x
    clear c hz e0 e1
    go_enter Tryz.func168, Tryz.ntmps168
    go_wp2_with (first | (go_at_call 176; refine c2.mono ?_; rintro e w1 ⟨rfl, hk⟩))
    go_ret2
    exact ⟨rfl, hk⟩
end Go.Proofs.YthamjjhioafkjaaGreat
namespace Go.Proofs.YthamjjhioafkjaaGreat
set_option linter.unusedVariables false
abbrev Ru := List Int × List Int
def defB (L : List Sym) (n : Int) : Bool := if n < 0 then false else match L[n.toNat]? with | some x => x.df | none => false
theorem defB_at {L : List Sym} {i : Nat} (h : i < L.length) : defB L (i : Int) = L[i].df := by
  rw [defB, if_neg (by omega)]; simp [h]
theorem defB_no {L : List Sym} {n : Int} (h : n < 0 ∨ (L.length : Int) ≤ n) : defB L n = false := by
  unfold defB
  rcases h with h | h
  · simp [h]
  · rw [if_neg (by omega), List.getElem?_eq_none (by omega)]
def negN (t : List Int) : Nat := t.countP (fun n => decide (n < 0))
theorem negN_take {t : List Int} {k : Nat} (h : k < t.length) : negN (t.take (k + 1)) = negN (t.take k) + if t[k] < 0 then 1 else 0 := by
  unfold negN
  rw [List.take_add_one, List.getElem?_eq_getElem h, List.countP_append]
  simp [List.countP_cons]
theorem negN_le (t : List Int) : negN t ≤ t.length := List.countP_le_length
def freeB (l : List Int) (n : Int) : Bool := decide (n < 0) && !decide (n ∈ l)
def meetB (L : List Sym) (a x : List Int) : Bool := !claB L a x && decide (claE L a x = 0)
def askB (L : List Sym) (N : Nat) (A : List Ru) (x : Ru) : Nat → Bool
  | 0 => decide (N ≤ 100)
  | 1 => decide (checkE L x.1 = 0) && decide (checkE L x.2 = 0)
  | 2 => decide (x.1.length ≤ 200) && decide (x.2.length ≤ 200)
  | 3 => defB L (x.1.headD (-1))
  | 4 => decide (negN x.1 = (varsL x.1).length)
  | 5 => x.1.tail.all (fun n => !defB L n)
  | 6 => x.2.all (fun n => !freeB x.1 n)
  | _ => A.all (fun a => !meetB L a.1 x.1)
def ckB (L : List Sym) (own l : List Ru) (j n : Nat) : Bool := askB L (own.length + l.length) (own ++ l.take n) (l.getD n ([], [])) j
def Upto (L : List Sym) (own l : List Ru) (j n : Nat) : Prop := (∀ i, i < j → ∀ m, m < l.length → ckB L own l i m = true) ∧ ∀ m, m < n → m < l.length → ckB L own l j m = true
def wrongL (L : List Sym) (own l : List Ru) (j n : Nat) : List (Int × Int) :=
  if j = 1 then [(71, (n : Int)), (if checkE L (l.getD n ([], [])).1 = 0 then checkE L (l.getD n ([], [])).2 else checkE L (l.getD n ([], [])).1, -1)]
  else if j = 7 then [(77, (n : Int)), (78, (((own ++ l.take n).findIdx (fun a => meetB L a.1 (l.getD n ([], [])).1) : Nat) : Int))]
  else [((70 + j : Nat), (n : Int))]
def Ans (L : List Sym) (own l : List Ru) (ws : List (Int × Int)) : Prop :=
  (ws = [] ∧ Upto L own l 8 0) ∨ ∃ j n, j < 8 ∧ n < l.length ∧ Upto L own l j n ∧ ckB L own l j n = false ∧ ws = wrongL L own l j n
theorem Upto.nil (L : List Sym) (own l : List Ru) : Upto L own l 0 0 := ⟨fun i hi => absurd hi (by omega),fun m hm => absurd hm (by omega)⟩
theorem Upto.step {L : List Sym} {own l : List Ru} {j n : Nat} (h : Upto L own l j n) (hc : ckB L own l j n = true) : Upto L own l j (n + 1) :=
  ⟨h.1, fun m hm hl => by
    by_cases e : m = n
    · subst e; exact hc
    · exact h.2 m (by omega) hl⟩
theorem Upto.next {L : List Sym} {own l : List Ru} {j n : Nat} (h : Upto L own l j n) (hn : l.length ≤ n) : Upto L own l (j + 1) 0 :=
  ⟨fun i hi m hm => by
    by_cases e : i = j
    · subst e; exact h.2 m (by omega) hm
    · exact h.1 i (by omega) m hm, fun m hm => absurd hm (by omega)⟩
theorem wrongL_ne (L : List Sym) (own l : List Ru) (j n : Nat) : wrongL L own l j n ≠ [] := by
  unfold wrongL
  split
  · simp
  · split <;> simp
theorem Ans.uniq {L : List Sym} {own l : List Ru} {a b : List (Int × Int)} (h : Ans L own l a) (k : Ans L own l b) : a = b := by
  have key : ∀ {j n j' n' : Nat}, n < l.length → n' < l.length → Upto L own l j n → ckB L own l j n = false → Upto L own l j' n' → ckB L own l j' n' = false → j = j' ∧ n = n' := by
    intro j n j' n' h1 h2 u1 c1 u2 c2
    have e : j = j' := by
      rcases Nat.lt_trichotomy j j' with q | q | q
      · have := u2.1 j q n h1; rw [c1] at this; cases this
      · exact q
      · have := u1.1 j' q n' h2; rw [c2] at this; cases this
    subst e
    refine ⟨rfl, ?_⟩
    rcases Nat.lt_trichotomy n n' with q | q | q
    · have := u2.2 n q h1; rw [c1] at this; cases this
    · exact q
    · have := u1.2 n' q h2; rw [c2] at this; cases this
  rcases h with ⟨rfl, u⟩ | ⟨j, n, h1, h2, u, c, rfl⟩
  · rcases k with ⟨rfl, _⟩ | ⟨j, n, h1, h2, u', c, rfl⟩
    · rfl
    · have := u.1 j h1 n h2; rw [c] at this; cases this
  · rcases k with ⟨rfl, u'⟩ | ⟨j', n', h1', h2', u', c', rfl⟩
    · have := u'.1 j h1 n h2; rw [c] at this; cases this
    · obtain ⟨rfl, rfl⟩ := key h2 h2' u c u' c'; rfl
theorem Ans.nil {L : List Sym} {own l : List Ru} (h : Ans L own l []) : ∀ j,j < 8 → ∀ n,n < l.length → ckB L own l j n = true := by
  rcases h with ⟨_, u⟩ | ⟨j, n, _, _, _, _, e⟩
  · exact fun j hj n hn => u.1 j hj n hn
  · exact absurd e.symm (wrongL_ne _ _ _ _ _)
theorem Ans.of_all {L : List Sym} {own l : List Ru} (h : ∀ j,j < 8 → ∀ n,n < l.length → ckB L own l j n = true) : Ans L own l [] := .inl ⟨rfl,h,fun m hm => absurd hm (by omega)⟩
theorem claB_swap {L : List Sym} {a b : List Int} (ha : checkE L a = 0) (hb : checkE L b = 0) : claB L a b = claB L b a := by
  have one : ∀ {a b : List Int}, checkE L a = 0 → checkE L b = 0 → (solF L (jl a b 99) a.length).isNone = true → (solF L (jl b a 99) b.length).isNone = true := by
    intro a b ha hb h
    rcases com_u (ap := 99) (Nat.le_refl _) hb ha with e | ⟨u, hu⟩
    · have e' : solF L (jl b a 99) b.length = none := e
      rw [e']; rfl
    · obtain ⟨v, ⟨ld, k, h1, _⟩, _⟩ := com_swap ha hb hu
      rw [h1] at h; cases h
  have e1 : claE L a b = 0 := by simp [claE, ha, hb]
  have e2 : claE L b a = 0 := by simp [claE, ha, hb]
  unfold claB
  rw [e1, e2]
  simp only [decide_true, Bool.true_and]
  cases h1 : (solF L (jl a b 99) a.length).isNone with
  | true => exact (one ha hb h1).symm
  | false =>
    cases h2 : (solF L (jl b a 99) b.length).isNone with
    | false => rfl
    | true => have := one hb ha h2; rw [h1] at this; cases this
theorem meetB_eq {L : List Sym} {a x : List Int} (ha : checkE L a = 0) (hx : checkE L x = 0) : meetB L a x = !claB L x a := by
  have e1 : claE L a x = 0 := by simp [claE, ha, hx]
  rw [meetB, e1, claB_swap ha hx]; simp
end Go.Proofs.YthamjjhioafkjaaGreat
namespace Go.Proofs.YthamjjhioafkjaaGreat
open Go.RowKit Go.Extern.Stop Go.Stop Go.Extern
set_option linter.unusedVariables false
set_option maxRecDepth 100000
theorem is_typeOf (v : Value) (w : World) : (Extern.ReflectliteType.typeOf #[.iface 58 v]).run Tryz.prog w = .ok (.iface 255 (.agg #[.pointer (some ⟨0,58,none⟩)])) w := by kernel_rfl
theorem is_comparable (w : World) : (callFunc 209 #[.agg #[.pointer (some ⟨0,58,none⟩)]]).run Tryz.prog w = .ok (.value (.bool true)) w :=
  (@run_callFunc_extern Tryz.prog 209 _ (Extern.ReflectliteType.method fun t => do Extern.Rtype.noPackHeld "Comparable" t; pure (.bool (← typeInfo t).comparable)) Tryz.func209 (by kernel_rfl) (by kernel_rfl) (by kernel_rfl) (by kernel_rfl) _ w).trans (by kernel_rfl)
theorem is_mComparable (v : Value) (w : World) : (Go.method 426 255 v "Comparable").run Tryz.prog w = .ok (209, v) w := by kernel_rfl
theorem is_noIs (v : Value) (xT : TypeId) (w : World) : (Instr.typeAssert (.iface 58 v) xT 257 true).run Tryz.prog w = .ok (.tuple #[.nilIface,.bool false]) w := run_typeAssert_lacksB Tryz.underlying257 (by kernel_rfl) (by kernel_rfl) v xT w
theorem is_noUnwrap (v : Value) (xT : TypeId) (w : World) : (Instr.typeAssert (.iface 58 v) xT 260 true).run Tryz.prog w = .ok (.tuple #[.nilIface,.bool false]) w := run_typeAssert_lacksB Tryz.underlying260 (by kernel_rfl) (by kernel_rfl) v xT w
theorem is_noUnwraps (v : Value) (xT : TypeId) (w : World) : (Instr.typeAssert (.iface 58 v) xT 261 true).run Tryz.prog w = .ok (.tuple #[.nilIface,.bool false]) w := run_typeAssert_lacksB Tryz.underlying261 (by kernel_rfl) (by kernel_rfl) v xT w
theorem is_hasIs (v : Value) (xT : TypeId) (w : World) : (Instr.typeAssert (.iface 106 v) xT 257 true).run Tryz.prog w = .ok (.tuple #[.iface 106 v,.bool true]) w := run_typeAssert_hasB Tryz.underlying257 (by kernel_rfl) v xT w
theorem is_hasUnwrap (v : Value) (xT : TypeId) (w : World) : (Instr.typeAssert (.iface 106 v) xT 260 true).run Tryz.prog w = .ok (.tuple #[.iface 106 v,.bool true]) w := run_typeAssert_hasB Tryz.underlying260 (by kernel_rfl) v xT w
theorem is_mIs (v : Value) (w : World) : (Go.method 426 106 v "Is").run Tryz.prog w = .ok (204, v) w := by kernel_rfl
theorem is_mUnwrap (v : Value) (w : World) : (Go.method 426 106 v "Unwrap").run Tryz.prog w = .ok (205, v) w := by kernel_rfl
theorem is_eqE (a b : Int) (w : World) : (binOp .eql 47 (.iface 58 (.int .i64 a)) (.iface 58 (.int .i64 b))).run Tryz.prog w = .ok (.bool (a == b)) w := by kernel_rfl
theorem is_eqF (v u : Value) (w : World) : (binOp .eql 47 (.iface 106 v) (.iface 58 u)).run Tryz.prog w = .ok (.bool false) w := by kernel_rfl
theorem is_asE (v : Value) (xT : TypeId) (w : World) : (Instr.typeAssert (.iface 58 v) xT 58 true).run Tryz.prog w = .ok (.tuple #[v,.bool true]) w := by kernel_rfl
theorem is_nilE (v : Value) (w : World) : (binOp .eql 47 .nilIface (.iface 58 v)).run Tryz.prog w = .ok (.bool false) w := by kernel_rfl
def FltAt (w : World) : List (Int × Int) → Value → Prop
  | [], v => v = .nilIface
  | (c, p) :: r, v => (p = -1 ∧ r = [] ∧ v = .iface 58 (.int .i64 c)) ∨ (p ≠ -1 ∧ ∃ b u, v = .iface 106 (.pointer (some ⟨b, 0, none⟩)) ∧ w.heap[b]? = some (.cells #[.int .i64 c, .int .i64 p, u] 108 (0, 0)) ∧ FltAt w r u)
theorem FltAt.same {w w' : World} (hk : Same0 w w') : ∀ {ws : List (Int × Int)} {v : Value},FltAt w ws v → FltAt w' ws v
  | [], _, h => h
  | (c, p) :: r, v, h => by
    rcases h with h | ⟨h0, b, u, h1, h2, h3⟩
    · exact .inl h
    · exact .inr ⟨h0, b, u, h1, hk.at0 h2, FltAt.same hk h3⟩
theorem fIs_any {w : World} {b : Nat} {c p : Int} {u : Value} (h : w.heap[b]? = some (.cells #[.int .i64 c,.int .i64 p,u] 108 (0,0))) (d : Int) :
    Calls Tryz.prog 204 #[.pointer (some ⟨b,0,none⟩),.iface 58 (.int .i64 d)] w fun e w' => e = .returned (.bool (d == c)) ∧ w' = w := by
  have aE := is_asE
  have b0 := cellAt h 0
  simp only [List.getElem?_toArray, List.getElem?_cons_zero] at b0
  clear h
  by_cases hd : d = c
  · have e1 : (d == c) = true := by simpa using hd
    go_enter Tryz.func204, Tryz.ntmps204
    go_wp2
    go_ret
    exact ⟨by rw [e1]; rfl, rfl⟩
  · have e1 : (d == c) = false := by simpa using hd
    go_enter Tryz.func204, Tryz.ntmps204
    go_wp2
    go_ret
    exact ⟨by rw [e1]; rfl, rfl⟩
theorem fUnwrap_any {w : World} {b : Nat} {c p : Int} {u : Value} (h : w.heap[b]? = some (.cells #[.int .i64 c,.int .i64 p,u] 108 (0,0))) :
    Calls Tryz.prog 205 #[.pointer (some ⟨b,0,none⟩)] w fun e w' => e = .returned u ∧ w' = w := by
  have b0 := cellAt h 2
  simp only [List.getElem?_toArray, List.getElem?_cons_zero, List.getElem?_cons_succ] at b0
  clear h
  go_enter Tryz.func205, Tryz.ntmps205
  go_wp2
  go_ret
  exact ⟨rfl, rfl⟩
theorem is_one (a d : Int) (w : World) : Calls Tryz.prog 107 #[.iface 58 (.int .i64 a),.iface 58 (.int .i64 d)] w fun e w' => e = .returned (.bool (a == d)) ∧ w' = w := by
  have h8 := @run_callFunc_extern Tryz.prog 146 _ Extern.ReflectliteType.typeOf Tryz.func146 (by kernel_rfl) (by kernel_rfl) (by kernel_rfl) (by kernel_rfl)
  have tT := is_typeOf
  have cT := is_comparable
  have mR := is_mComparable
  have nE := is_noIs
  have uE := is_noUnwrap
  have vE := is_noUnwraps
  by_cases hd : a = d
  · subst hd
    have e1 : (a == a) = true := by simp
    have eq := is_eqE a a
    rw [e1] at eq ⊢
    clear e1
    go_enter Tryz.func107, Tryz.ntmps107
    go_wp2
    refine wp_loop_rounds 1 ?_
    rw [rounds_succ]
    go_wp2
    go_ret
    exact ⟨rfl, rfl⟩
  · have e1 : (a == d) = false := by simpa using hd
    have eq := is_eqE a d
    rw [e1] at eq ⊢
    clear hd e1
    go_enter Tryz.func107, Tryz.ntmps107
    go_wp2
    refine wp_loop_rounds 1 ?_
    rw [rounds_succ]
    go_wp2
    go_ret
    exact ⟨rfl, rfl⟩
theorem is_fault {w : World} {b : Nat} {c p : Int} (h : w.heap[b]? = some (.cells #[.int .i64 c,.int .i64 p,.nilIface] 108 (0,0))) (d : Int) :
    Calls Tryz.prog 107 #[.iface 106 (.pointer (some ⟨b,0,none⟩)),.iface 58 (.int .i64 d)] w fun e w' => e = .returned (.bool (d == c)) ∧ w' = w := by
  have h8 := @run_callFunc_extern Tryz.prog 146 _ Extern.ReflectliteType.typeOf Tryz.func146 (by kernel_rfl) (by kernel_rfl) (by kernel_rfl) (by kernel_rfl)
  have tT := is_typeOf
  have cT := is_comparable
  have mR := is_mComparable
  have nE := is_hasIs
  have uE := is_hasUnwrap
  have m1 := is_mIs
  have m2 := is_mUnwrap
  have eq := is_eqF
  have c1 := fIs_any h d
  have c2 := fUnwrap_any h
  clear h
  generalize (d == c) = r at *
  cases r
  · go_enter Tryz.func107, Tryz.ntmps107
    go_wp2
    refine wp_loop_rounds 1 ?_
    rw [rounds_succ]
    go_wp2_with (first | (go_at_call 204; refine c1.mono ?_; rintro e w' ⟨rfl, rfl⟩) | (go_at_call 205; refine c2.mono ?_; rintro e w' ⟨rfl, rfl⟩))
    go_ret
    exact ⟨rfl, rfl⟩
  · go_enter Tryz.func107, Tryz.ntmps107
    go_wp2
    refine wp_loop_rounds 1 ?_
    rw [rounds_succ]
    go_wp2_with (first | (go_at_call 204; refine c1.mono ?_; rintro e w' ⟨rfl, rfl⟩) | (go_at_call 205; refine c2.mono ?_; rintro e w' ⟨rfl, rfl⟩))
    go_ret
    exact ⟨rfl, rfl⟩
set_option maxHeartbeats 4000000 in
theorem is_fault_one {w : World} {b : Nat} {c p : Int} {k : Int} (h : w.heap[b]? = some (.cells #[.int .i64 c,.int .i64 p,.iface 58 (.int .i64 k)] 108 (0,0))) (d : Int) :
    Calls Tryz.prog 107 #[.iface 106 (.pointer (some ⟨b,0,none⟩)),.iface 58 (.int .i64 d)] w fun e w' => e = .returned (.bool ((d == c) || k == d)) ∧ w' = w := by
  have h8 := @run_callFunc_extern Tryz.prog 146 _ Extern.ReflectliteType.typeOf Tryz.func146 (by kernel_rfl) (by kernel_rfl) (by kernel_rfl) (by kernel_rfl)
  have tT := is_typeOf
  have cT := is_comparable
  have mR := is_mComparable
  have nE := is_hasIs
  have uE := is_hasUnwrap
  have m1 := is_mIs
  have m2 := is_mUnwrap
  have eq := is_eqF
  have c1 := fIs_any h d
  have c2 := fUnwrap_any h
  have eqk := is_eqE k d w
  have nE' := is_noIs
  have uE' := is_noUnwrap
  have vE' := is_noUnwraps
  clear h
  generalize (d == c) = r at *
  cases r
  · simp only [Bool.false_or]
    generalize (k == d) = q at *
    cases q
    · go_enter Tryz.func107, Tryz.ntmps107
      go_wp2
      refine wp_loop_rounds 2 ?_
      rw [rounds_succ]
      go_wp2_with (first | (go_at_call 204; refine c1.mono ?_; rintro e w' ⟨rfl, rfl⟩) | (go_at_call 205; refine c2.mono ?_; rintro e w' ⟨rfl, rfl⟩))
      rw [rounds_succ]
      go_wp2
      go_ret
      exact ⟨rfl, rfl⟩
    · go_enter Tryz.func107, Tryz.ntmps107
      go_wp2
      refine wp_loop_rounds 2 ?_
      rw [rounds_succ]
      go_wp2_with (first | (go_at_call 204; refine c1.mono ?_; rintro e w' ⟨rfl, rfl⟩) | (go_at_call 205; refine c2.mono ?_; rintro e w' ⟨rfl, rfl⟩))
      rw [rounds_succ]
      go_wp2
      go_ret
      exact ⟨rfl, rfl⟩
  · simp only [Bool.true_or]
    clear c2
    go_enter Tryz.func107, Tryz.ntmps107
    go_wp2
    refine wp_loop_rounds 2 ?_
    rw [rounds_succ]
    go_wp2_with (first | (go_at_call 204; refine c1.mono ?_; rintro e w' ⟨rfl, rfl⟩))
    go_ret
    exact ⟨rfl, rfl⟩
set_option maxHeartbeats 4000000 in
theorem is_fault_two {w : World} {b : Nat} {c p : Int} {b' : Nat} {c' p' : Int} (h : w.heap[b]? = some (.cells #[.int .i64 c,.int .i64 p,.iface 106 (.pointer (some ⟨b', 0,none⟩))] 108 (0,0))) (h' : w.heap[b']? = some (.cells #[.int .i64 c', .int .i64 p', .nilIface] 108 (0,0))) (d : Int) :
    Calls Tryz.prog 107 #[.iface 106 (.pointer (some ⟨b,0,none⟩)),.iface 58 (.int .i64 d)] w fun e w' => e = .returned (.bool ((d == c) || d == c')) ∧ w' = w := by
  have h8 := @run_callFunc_extern Tryz.prog 146 _ Extern.ReflectliteType.typeOf Tryz.func146 (by kernel_rfl) (by kernel_rfl) (by kernel_rfl) (by kernel_rfl)
  have tT := is_typeOf
  have cT := is_comparable
  have mR := is_mComparable
  have nE := is_hasIs
  have uE := is_hasUnwrap
  have m1 := is_mIs
  have m2 := is_mUnwrap
  have eq := is_eqF
  have c1 := fIs_any h d
  have c2 := fUnwrap_any h
  have c3 := fIs_any h' d
  have c4 := fUnwrap_any h'
  clear h'
  clear h
  generalize (d == c) = r at *
  cases r
  · simp only [Bool.false_or]
    generalize (d == c') = q at *
    cases q
    · go_enter Tryz.func107, Tryz.ntmps107
      go_wp2
      refine wp_loop_rounds 2 ?_
      rw [rounds_succ]
      go_wp2_with (first | (go_at_call 204; refine c1.mono ?_; rintro e w' ⟨rfl, rfl⟩) | (go_at_call 205; refine c2.mono ?_; rintro e w' ⟨rfl, rfl⟩))
      rw [rounds_succ]
      go_wp2_with (first | (go_at_call 204; refine c3.mono ?_; rintro e w' ⟨rfl, rfl⟩) | (go_at_call 205; refine c4.mono ?_; rintro e w' ⟨rfl, rfl⟩))
      go_ret
      exact ⟨rfl, rfl⟩
    · go_enter Tryz.func107, Tryz.ntmps107
      go_wp2
      refine wp_loop_rounds 2 ?_
      rw [rounds_succ]
      go_wp2_with (first | (go_at_call 204; refine c1.mono ?_; rintro e w' ⟨rfl, rfl⟩) | (go_at_call 205; refine c2.mono ?_; rintro e w' ⟨rfl, rfl⟩))
      rw [rounds_succ]
      go_wp2_with (first | (go_at_call 204; refine c3.mono ?_; rintro e w' ⟨rfl, rfl⟩) | (go_at_call 205; refine c4.mono ?_; rintro e w' ⟨rfl, rfl⟩))
      go_ret
      exact ⟨rfl, rfl⟩
  · simp only [Bool.true_or]
    clear c2
    go_enter Tryz.func107, Tryz.ntmps107
    go_wp2
    refine wp_loop_rounds 2 ?_
    rw [rounds_succ]
    go_wp2_with (first | (go_at_call 204; refine c1.mono ?_; rintro e w' ⟨rfl, rfl⟩))
    go_ret
    exact ⟨rfl, rfl⟩
theorem is_none (d : Int) (w : World) : Calls Tryz.prog 107 #[.nilIface,.iface 58 (.int .i64 d)] w fun e w' => e = .returned (.bool false) ∧ w' = w := by
  have hn := is_nilE
  go_enter Tryz.func107, Tryz.ntmps107
  go_wp2
  go_ret
  exact ⟨rfl, rfl⟩
def bears (ws : List (Int × Int)) (d : Int) : Bool := decide (d ∈ ws.map Prod.fst)
theorem is_any {w : World} {ws : List (Int × Int)} {v : Value} (h : FltAt w ws v) (h2 : ws.length ≤ 2) (d : Int) :
    Calls Tryz.prog 107 #[v,.iface 58 (.int .i64 d)] w fun e w' => e = .returned (.bool (bears ws d)) ∧ w' = w := by
  match ws, h2 with
  | [], _ =>
    obtain rfl : v = .nilIface := h
    exact is_none d w
  | [(c, p)], _ =>
    rcases h with ⟨rfl, _, rfl⟩ | ⟨_, b, u, rfl, h1, hu⟩
    · refine (is_one c d w).mono ?_
      rintro e w' ⟨rfl, rfl⟩
      refine ⟨ret_bool ?_, rfl⟩
      by_cases e : d = c
      · simp [bears, e]
      · simp [bears, e]; omega
    · obtain rfl : u = .nilIface := hu
      refine (is_fault h1 d).mono ?_
      rintro e w' ⟨rfl, rfl⟩
      refine ⟨ret_bool ?_, rfl⟩
      by_cases e : d = c <;> simp [bears, e]
  | [(c, p), (c', p')], _ =>
    rcases h with ⟨_, e, _⟩ | ⟨_, b, u, rfl, h1, hu⟩
    · cases e
    · rcases hu with ⟨rfl, _, rfl⟩ | ⟨_, b', u', rfl, h1', hu'⟩
      · refine (is_fault_one h1 d).mono ?_
        rintro e w' ⟨rfl, rfl⟩
        refine ⟨ret_bool ?_, rfl⟩
        by_cases e : d = c
        · simp [bears, e]
        · by_cases e' : d = c'
          · simp [bears, e']
          · have : (c' == d) = false := by simp; omega
            simp [bears, e, e', this]
      · obtain rfl : u' = .nilIface := hu'
        refine (is_fault_two h1 h1' d).mono ?_
        rintro e w' ⟨rfl, rfl⟩
        refine ⟨ret_bool ?_, rfl⟩
        by_cases e : d = c
        · simp [bears, e]
        · by_cases e' : d = c' <;> simp [bears, e, e']
end Go.Proofs.YthamjjhioafkjaaGreat
namespace Go.Proofs.YthamjjhioafkjaaGreat
set_option linter.unusedVariables false
open Go.RowKit Go.Deep
structure Arg (w : World) (ao : Option Addr) (xs : List Int) (cap : Nat) : Prop where
  at' : IntsAt w ao xs
  cap' : xs.length ≤ cap
  nil : ao = none → xs.length = 0 ∧ cap = 0
  size : xs.length * 8 ≤ 140737488351232
section
variable {H : Type} {enc : TypeId × Value → H} {w : World} {spare : Nat → Bool} {held : Bool}
theorem bytes_int : Tryz.prog.bytesOf 3 = 8 := by kernel_rfl
theorem open_ints {t fuel : Nat} {cs : List Value} {x : DataW H × List MemPlace} (ht : Tryz.prog.underlying t = some (.slice 3)) (h : DataW.trod enc Tryz.prog w 0 spare held fuel t cs = some x) (hw : ∀ n ∈ x.1.weights Tryz.prog t,n ≤ reachBytes) :
    ∃ ao cap xs, cs = [.slice ao xs.length cap] ∧ Arg w ao xs cap := by
  have h' := h
  rcases open_slice ht h with ⟨hcs, _⟩ | ⟨a, len, cap, m, n, D, Pl, hcs, _, hl, hm, hmm, rfl, hx⟩
  · exact ⟨none, 0, [], hcs, .inl rfl, Nat.le_refl _, fun _ => ⟨rfl, rfl⟩, by simp⟩
  · subst hcs
    have hsz : len * 8 ≤ 140737488351232 := by
      have := hw ((((List.range len).map D).length + ((List.range (m - len)).map fun j => D (len + j)).length) * Tryz.prog.bytesOf 3) (by simp [DataW.weights, ht])
      rw [bytes_int] at this
      simp [reachBytes] at this
      omega
    rcases open_elems ht cells_int (by omega) h' with ⟨e, _, _⟩ | ⟨a', e, hl1, hl2, hall⟩
    · cases e
    · cases e
      have each : ∀ i, i < len → ∃ z : Int, w.cell? ⟨a.block, a.off + i, none⟩ = some (.int .i64 z) := by
        intro i hi
        obtain ⟨_, _, cs, n, y, hl, hcell, hy⟩ := hall i hi
        obtain ⟨z, e1, _, _⟩ := DataW.trod_int Tryz.underlying3 hy
        subst e1
        exact ⟨z, by simpa using hcell 0 (by omega)⟩
      obtain ⟨f, hf⟩ := Classical.axiomOfChoice (fun i : Fin len => each i i.2)
      refine ⟨some a, cap, List.ofFn f, by simp, ?_, by simpa using hl, (fun e => by cases e), by simpa using hsz⟩
      by_cases h0 : len = 0
      · subst h0; exact .inl (by simp)
      · obtain ⟨ea, hlt, _⟩ := hall 0 (by omega)
        refine .inr ⟨a.block, a.off, by rw [← ea], hlt, fun i hi => ?_⟩
        have hi' : i < len := by simpa using hi
        simpa using hf ⟨i, hi'⟩
structure CaseIs (w : World) (v : Value) (lo : Option Addr) (ll lc : Nat) (ls : List Sym) (so : Option Addr) (tc : Nat) (t : List Int) (at' : Int) (uo : Option Addr) (uc : Nat) (u : List Int) (po : Option Addr) (pc : Nat) (path : List Int) : Prop where
  eq : v = .agg #[.slice lo ll lc, .slice so t.length tc, .int .i64 at', .slice uo u.length uc, .slice po path.length pc]
  syms : SymsAt w lo ll ls
  sl : ll ≤ maxLen
  t' : Arg w so t tc
  u' : Arg w uo u uc
  p' : Arg w po path pc
end
end Go.Proofs.YthamjjhioafkjaaGreat
