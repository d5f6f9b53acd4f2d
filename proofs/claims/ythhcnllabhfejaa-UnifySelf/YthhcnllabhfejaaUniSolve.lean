/- The walks of package unify's solve, common, Unify, Overlap and Clash. -/
import Derived.Test.YthhcnllabhfejaaUniJoin
import Derived.Test.YthhcnllabhfejaaUniUnite
import Derived.Test.YthhcnllabhfejaaUniWrite
import Derived.Test.YthhcnllabhfejaaUniSol
import Derived.Test.YthhcnllabhfejaaTermEnd
import Derived.Deep.WholeRow
namespace Go.Proofs.Ythhcnllabhfejaa
set_option maxRecDepth 100000
set_option linter.unusedVariables false
open Go.RowKit
attribute [local go_sem ↓] Go.wp_at_zero Go.wp_at_succ
/-- A joint as join leaves it. -/
theorem led_zero {J : List Int} (hv : ∀ x ∈ J, -198 ≤ x) : Led J (ld0 J) (ld0 J) (fun x => if 0 ≤ x then 1 else 0) := by
  have hl := ld0_ok hv
  refine ⟨hl.part, hl.idem, fun x _ => Iff.rfl, fun x hx hn => ?_⟩
  by_cases h : 0 ≤ x ∧ at' J x < 0
  · have e : ld0 J x = at' J x := by unfold ld0; rw [if_pos h]
    simp only [e]
    rw [if_neg (by omega), if_pos h.1]; omega
  · exact absurd (by unfold ld0; rw [if_neg h]) hn
theorem JJ.jat {L : List Sym} {w0 w : World} {B : JB} {J : List Int} (hv : ∀ x ∈ J, -198 ≤ x) (h : JJ w0 B w J J.length (fun x => x) (fun i => (endN L J i : Int)) (fun i => ld0 J i)) : JAt L B w J (ld0 J) (fun _ => 0) := by
  refine ⟨ld0 J, _, ⟨?_, ?_, h.ends, h.same, h.sizes, h.ap⟩, led_zero hv⟩
  · refine h.head.congr (fun v h1 h2 => ?_)
    unfold ld0; rw [if_neg (by omega)]
  · have hr := h.row
    rcases hr.2 with ⟨e, _⟩ | ⟨g, cap, cur, hv', hb, hg, h1, h2, h3, h4⟩
    · cases e
    · simp only [Value.slice.injEq, Option.some.injEq, Addr.mk.injEq, and_true, true_and] at hv'
      obtain ⟨rfl, rfl⟩ := hv'
      refine ⟨cur, _, hg, by omega, fun i hi => ?_⟩
      have := hr.cellAt i (by omega)
      rw [cellAt hg, iv_get hi] at this
      show cur[i]? = some (.int .i64 (at' J (i : Int)))
      rw [this, at'_nat J i hi]
theorem jl_vars {L : List Sym} {a b : List Int} (ha : checkE L a = 0) (hb : checkE L b = 0) {ap : Nat} (hap : ap ≤ 99) : ∀ x ∈ jl a b ap, -198 ≤ x := by
  intro x hx
  unfold jl at hx
  rcases List.mem_append.1 hx with e | e
  · have := (badE_zero.1 (checkE_zero.1 ha).2.1 x e).2; omega
  · obtain ⟨y, hy, rfl⟩ := List.mem_map.1 e
    have := (badE_zero.1 (checkE_zero.1 hb).2.1 y hy).2
    unfold shF; split <;> omega
def SolPost (L : List Sym) (a b : List Int) (ap : Nat) (w : World) (e : Ending) (w' : World) : Prop := Same0 w w' ∧
  (checkE L a ≠ 0 → e = .returned (.tuple #[.pointer none, .int .i64 0, .int .i64 (checkE L a)])) ∧
  (checkE L a = 0 → checkE L b ≠ 0 → e = .returned (.tuple #[.pointer none, .int .i64 0, .int .i64 (checkE L b)])) ∧
  (checkE L a = 0 → checkE L b = 0 → solF L (jl a b ap) a.length = none → e = .returned (.tuple #[.pointer none, .int .i64 0, .int .i64 60])) ∧
  (checkE L a = 0 → checkE L b = 0 → ∀ ld k, solF L (jl a b ap) a.length = some (ld, k) → ∃ B sz', e = .returned (.tuple #[.pointer (some ⟨B.jb, 0, none⟩), .int .i64 k, .int .i64 0]) ∧ JAt L B w' (jl a b ap) ld sz' ∧ LdOk (jl a b ap) ld ∧ (∀ f, B.Foot f → w.heap.size ≤ f ∧ f < w'.heap.size) ∧ ∃ u, Val L (jl a b ap) ld 0 u ∧ k = min (u.length : Int) 2001)
set_option maxHeartbeats 4000000 in
theorem solve_any {b : Nat} {w : World} {L : List Sym} (h : Sg w.heap.size w b L) {xo yo : Option Addr} {xc yc : Nat} {x y : List Int} (hx : IntsAt w xo x) (hy : IntsAt w yo y) (hxm : x.length ≤ maxLen) (hym : y.length ≤ maxLen) {ap : Nat} (hap : ap ≤ 99) :
    Calls Try.prog 27 #[.pointer (some ⟨b, 0, none⟩), .slice xo x.length xc, .slice yo y.length yc, .int .i64 (ap : Int)] w (SolPost L x y ap w) := by
  have c1 := check_any (cap := xc) h hx hxm
  have c2 : Hid (∀ w1, Same0 w w1 → Calls Try.prog 42 #[.pointer (some ⟨b, 0, none⟩), .slice yo y.length yc] w1 fun e w' => e = .returned (.int .i64 (checkE L y)) ∧ Same0 w1 w') := fun w1 hk => check_any (cap := yc) (h.same hk) (hy.same hk) hym
  by_cases hz : checkE L x = 0
  · by_cases hq : checkE L y = 0
    · obtain ⟨x1, x2, x3⟩ := checkE_zero.1 hz
      obtain ⟨y1, y2, y3⟩ := checkE_zero.1 hq
      obtain ⟨J, hJ⟩ : ∃ J, jl x y ap = J := ⟨_, rfl⟩
      have hJl : J.length = x.length + y.length := by rw [← hJ]; simp [jl]
      have hv := jl_vars hz hq hap
      have hT := trs_jl (apart := (ap : Int)) (by omega) x3 y3
      rw [hJ] at hv hT
      have p1 := isT_pos x3
      have p2 := isT_pos y3
      obtain ⟨res, hU, hR1, hR2⟩ := (sol_any hT hv (m := x.length) (by omega) (by omega)).uni
      have CJ : Hid (∀ w1, Same0 w w1 → Calls Try.prog 43 #[.pointer (some ⟨b, 0, none⟩), .slice xo x.length xc, .slice yo y.length yc, .int .i64 (ap : Int)] w1 fun e w' => ∃ B, e = .returned (.pointer (some ⟨B.jb, 0, none⟩)) ∧ JAt L B w' J (ld0 J) (fun _ => 0) ∧ (∀ f, B.Foot f → w.heap.size ≤ f) ∧ Same0 w w') := by
        intro w1 hk
        have hg : Sg w1.heap.size w1 b L := by
          have := h.same hk
          obtain ⟨⟨sv, mr, s1, s2⟩, s3⟩ := this
          exact ⟨⟨sv, mr, s1, fun k hk' => Nat.lt_of_lt_of_le (s2 k hk') hk.size⟩, s3⟩
        refine (ujoin_any hg (hx.same hk) (hy.same hk) x3 y3 x1 y1 (fun z hz => (badE_zero.1 y2 z hz).2) hap).mono ?_
        rintro e w' ⟨B, rfl, hj⟩
        rw [hJ] at hj
        exact ⟨B, rfl, hj.jat hv, fun f hf => Nat.le_trans hk.size (hj.new f hf), hk.trans' hj.kept⟩
      have CU : Hid (∀ B w1, JAt L B w1 J (ld0 J) (fun _ => 0) → Calls Try.prog 44 #[.pointer (some ⟨B.jb, 0, none⟩), .int .i64 0, .int .i64 (x.length : Int)] w1 (UEnd L B J (fun _ => 0) res w1)) := by
        intro B w1 hj
        exact unite_any (a := 0) hj (by omega) (by omega) (by omega) hU
      rw [hz] at c1
      rw [hq] at c2
      cases res with
      | none =>
        have HX : Hid (∀ w', Same0 w w' → SolPost L x y ap w (.returned (.tuple #[.pointer none, .int .i64 0, .int .i64 60])) w') := by
          intro w' hk
          refine ⟨hk, fun f => absurd hz f, fun _ f => absurd hq f, fun _ _ _ => rfl, fun _ _ ld k f => ?_⟩
          rw [hJ, hR1 rfl] at f; cases f
        clear hU hR1 hR2 hz hq hx hy h hJ
        go_enter Try.func27, Try.ntmps27
        go_upto_region 4 with (first | (go_at_call 42; refine c1.mono ?_; rintro e w1 ⟨rfl, hk1⟩))
        go_upto_region 7 with (first | (go_at_call 42; refine (c2.out _ hk1).mono ?_; rintro e w2 ⟨rfl, hk2⟩))
        have K2 := hk1.trans' hk2
        go_wp2_with (first | (go_at_call 43; refine (CJ.out _ K2).mono ?_; rintro e w3 ⟨B, rfl, hj3, hf3, hk3⟩) | (go_at_call 44; refine (CU.out _ _ hj3).mono ?_; rintro e w4 ⟨-, he4, hk4⟩; obtain rfl := he4 rfl; clear he4))
        have K4 : Same0 w w4 := hk3.trans hk4 (fun i hi f => by have := hf3 i (JB.way_foot f); omega)
        exact bodyPost_ret (v := .tuple #[.pointer none, .int .i64 0, .int .i64 60]) (by simp [results, Try.results27, go_sem]) rfl (HX.out _ K4)
      | some ld =>
        obtain ⟨hld, k, sz', hs, hk1, hk2⟩ := hR2 ld rfl
        have CS : Hid (∀ B w1, JAt L B w1 J ld (fun _ => 0) → Calls Try.prog 45 #[.pointer (some ⟨B.jb, 0, none⟩), .int .i64 0] w1 (SizPost L B J ld w1 k sz')) := fun B w1 hj => usize_any hT hld (by omega) _ w1 _ 0 k sz' hj (part_nat (p := 0) (by omega)) (fun p => .inr ⟨by simp, by simp⟩) hs
        have HX : Hid (∀ B w', JAt L B w' J ld sz' → (∀ f, B.Foot f → w.heap.size ≤ f) → Same0 w w' → (k = -1 → SolPost L x y ap w (.returned (.tuple #[.pointer none, .int .i64 0, .int .i64 60])) w') ∧ (k ≠ -1 → SolPost L x y ap w (.returned (.tuple #[.pointer (some ⟨B.jb, 0, none⟩), .int .i64 k, .int .i64 0])) w')) := by
          intro B w' hj hf hk
          have hfl : ∀ f, B.Foot f → f < w'.heap.size := by
            obtain ⟨nx, ρ, hC, -⟩ := id hj
            exact fun f hf => hC.lt hf
          refine ⟨fun e => ?_, fun e => ?_⟩
          · refine ⟨hk, fun f => absurd hz f, fun _ f => absurd hq f, fun _ _ _ => rfl, fun _ _ ld k f => ?_⟩
            rw [hJ, hk1 e] at f; cases f
          · obtain ⟨e1, u, e2, e3⟩ := hk2 e
            refine ⟨hk, fun f => absurd hz f, fun _ f => absurd hq f, fun _ _ f => ?_, fun _ _ ld' k' f => ?_⟩
            · rw [hJ, e1] at f; cases f
            · rw [hJ] at f ⊢
              rw [e1] at f
              simp only [Option.some.injEq, Prod.mk.injEq] at f
              obtain ⟨rfl, rfl⟩ := f
              exact ⟨B, sz', rfl, hj, hld, fun f hf' => ⟨hf f hf', hfl f hf'⟩, u, e2, e3⟩
        clear hU hR1 hR2 hz hq hx hy h hJ hk1 hk2 hs
        go_enter Try.func27, Try.ntmps27
        go_upto_region 4 with (first | (go_at_call 42; refine c1.mono ?_; rintro e w1 ⟨rfl, hk1⟩))
        go_upto_region 7 with (first | (go_at_call 42; refine (c2.out _ hk1).mono ?_; rintro e w2 ⟨rfl, hk2⟩))
        have K2 := hk1.trans' hk2
        go_upto_region 10 with (first | (go_at_call 43; refine (CJ.out _ K2).mono ?_; rintro e w3 ⟨B, rfl, hj3, hf3, hk3⟩) | (go_at_call 44; refine (CU.out _ _ hj3).mono ?_; rintro e w4 ⟨he4, -, hk4⟩; obtain ⟨rfl, hj4⟩ := he4 ld rfl; clear he4))
        have K4 : Same0 w w4 := hk3.trans hk4 (fun i hi f => by have := hf3 i (JB.way_foot f); omega)
        by_cases hk : k = -1
        · subst hk
          go_wp2_with (first | (go_at_call 45; refine (CS.out _ _ hj4).mono ?_; rintro e w5 ⟨rfl, hj5, hk5⟩))
          have K5 : Same0 w w5 := K4.trans hk5 (fun i hi f => by
            have := hf3 i (by rcases f with e | e | e; exact .inl e; exact .inr (.inr (.inr (.inl e))); exact .inr (.inr (.inr (.inr e)))); omega)
          exact bodyPost_ret (v := .tuple #[.pointer none, .int .i64 0, .int .i64 60]) (by simp [results, Try.results27, go_sem]) rfl ((HX.out B w5 hj5 hf3 K5).1 (by trivial))
        · go_wp2_with (first | (go_at_call 45; refine (CS.out _ _ hj4).mono ?_; rintro e w5 ⟨rfl, hj5, hk5⟩))
          have K5 : Same0 w w5 := K4.trans hk5 (fun i hi f => by
            have := hf3 i (by rcases f with e | e | e; exact .inl e; exact .inr (.inr (.inr (.inl e))); exact .inr (.inr (.inr (.inr e)))); omega)
          exact bodyPost_ret (v := .tuple #[.pointer (some ⟨B.jb, 0, none⟩), .int .i64 k, .int .i64 0]) (by simp [results, Try.results27, go_sem]) rfl ((HX.out B w5 hj5 hf3 K5).2 hk)
    · rw [hz] at c1
      have HX : Hid (∀ w', Same0 w w' → SolPost L x y ap w (.returned (.tuple #[.pointer none, .int .i64 0, .int .i64 (checkE L y)])) w') := fun w' hk => ⟨hk, fun f => absurd hz f, fun _ _ => rfl, fun _ f => absurd f hq, fun _ f => absurd f hq⟩
      have hq' : (checkE L y == 0) = false := by simpa using hq
      clear hz hq
      go_enter Try.func27, Try.ntmps27
      go_upto_region 4 with (first | (go_at_call 42; refine c1.mono ?_; rintro e w1 ⟨rfl, hk1⟩))
      go_wp2_with (first | (go_at_call 42; refine (c2.out _ hk1).mono ?_; rintro e w2 ⟨rfl, hk2⟩))
      exact bodyPost_ret (v := .tuple #[.pointer none, .int .i64 0, .int .i64 (checkE L y)]) (by simp [results, Try.results27, go_sem]) rfl (HX.out _ (hk1.trans' hk2))
  · have HX : Hid (∀ w', Same0 w w' → SolPost L x y ap w (.returned (.tuple #[.pointer none, .int .i64 0, .int .i64 (checkE L x)])) w') := fun w' hk => ⟨hk, fun _ => rfl, fun f => absurd f hz, fun f => absurd f hz, fun f => absurd f hz⟩
    have hz' : (checkE L x == 0) = false := by simpa using hz
    clear hz
    go_enter Try.func27, Try.ntmps27
    go_wp2_with (first | (go_at_call 42; refine c1.mono ?_; rintro e w1 ⟨rfl, hk1⟩))
    exact bodyPost_ret (v := .tuple #[.pointer none, .int .i64 0, .int .i64 (checkE L x)]) (by simp [results, Try.results27, go_sem]) rfl (HX.out _ hk1)
end Go.Proofs.Ythhcnllabhfejaa
