import Derived.Test.YtlemcinjalepkaaGreatGRule19
/- The walks of the document's Common and Clash. -/
namespace Go.Proofs.YtlemcinjalepkaaGreat
set_option maxRecDepth 100000
set_option linter.unusedVariables false
open Go.RowKit
attribute [local go_sem ↓] Go.wp_at_zero Go.wp_at_succ
def RComP (L : List Sym) (a b : List Int) (ap : Int) (w : World) (e : Ending) (w' : World) : Prop := ∃ v, e = .returned (.tuple #[v, .int .i64 (comE L a b ap)]) ∧ Row w.heap.size w' v (comT L a b ap) ∧ Same0 w w'
theorem rclash_any {w : World} {rv : Value} {L : List Sym} {ao bo : Option Addr} {ac bc : Nat} {a b : List Int} (hca : checkE L a = 0) (hcb : checkE L b = 0) (cS : Calls Tryz.prog 128 #[rv, .slice ao a.length ac, .slice bo b.length bc, .bool true] w (SolQ L true (a ++ b) (jl a b (apI true)) a.length w)) :
    Calls Tryz.prog 98 #[rv, .slice ao a.length ac, .slice bo b.length bc] w fun e w' => e = .returned (.bool (claB L a b)) ∧ Same0 w w' := by
  obtain ⟨a1, a2, a3⟩ := checkE_zero.1 hca
  obtain ⟨b1, b2, b3⟩ := checkE_zero.1 hcb
  have p1 := isT_pos a3
  have p2 := isT_pos b3
  have hT := trs_jl (apart := (99 : Int)) (by omega) a3 b3
  have hv : ∀ x ∈ jl a b 99, -198 ≤ x := jl_low hca hcb (ap := 99) (by omega)
  have hJl : (jl a b 99).length = a.length + b.length := by simp [jl]
  obtain ⟨n1, n2⟩ := net_same (ap := 99) (by omega) hca hcb
  obtain ⟨res, hN, hR1, hR2⟩ := nsol_any hT hv (m := a.length) (by omega) (by omega)
  have e0 : apI true = 99 := rfl
  rw [e0] at cS
  have ec : claE L a b = 0 := by unfold claE; rw [if_neg (by rw [hca]; simp), hcb]
  cases hs : nsF L (jl a b 99) a.length with
  | none =>
    have hs2 := n1 hs
    have e1 : claB L a b = true := by unfold claB; rw [ec, show solF L (jl a b 99) a.length = none from hs2]; rfl
    rw [e1]
    have cS2 : Calls Tryz.prog 128 #[rv, .slice ao a.length ac, .slice bo b.length bc, .bool true] w fun e w' => e = .returned (.tuple #[.pointer none, .int .i64 0]) ∧ Same0 w w' := cS.mono (fun e w' g => ⟨g.2.1 hs, g.1⟩)
    clear cS e1 hR1 hR2 hN n1 n2 hT hv hs ec e0 hs2
    go_enter Tryz.func98, Tryz.ntmps98
    go_wp2_with (first | (go_at_call 128; refine cS2.mono ?_; rintro e w1 ⟨rfl, hk1⟩))
    go_ret
    exact ⟨rfl, hk1⟩
  | some r =>
    obtain ⟨ld, k⟩ := r
    have hfull : Closed L (jl a b 99) a.length ld ∧ ∃ u, Val L (jl a b 99) ld 0 u ∧ k = min (u.length : Int) 2001 := by
      cases res with
      | none => rw [hR1 rfl] at hs; cases hs
      | some ld' =>
        obtain ⟨g1, k', sz', g2, g3, g4⟩ := hR2 ld' rfl
        by_cases e : k' = -1
        · rw [g3 e] at hs; cases hs
        · obtain ⟨f1, f2⟩ := g4 e
          rw [f1] at hs
          simp only [Option.some.injEq, Prod.mk.injEq] at hs
          obtain ⟨rfl, rfl⟩ := hs
          exact ⟨g1, f2⟩
    obtain ⟨hcl, u, hu, hku⟩ := hfull
    obtain ⟨v, ⟨ld2, k2, hsol, _⟩, hvl, hwr⟩ := n2 ld k u hs hcl hu
    have p0 : UPart (jl a b 99) 0 := part_nat (p := 0) (by omega)
    have hupos := isT_pos (hu.isT hT hcl.ok p0)
    have hk0 : ¬ k = 0 := by omega
    have e1 : claB L a b = false := by unfold claB; rw [show solF L (jl a b 99) a.length = some (ld2, k2) from hsol]; simp
    rw [e1]
    have cS2 : Calls Tryz.prog 128 #[rv, .slice ao a.length ac, .slice bo b.length bc, .bool true] w fun e w' => (∃ B : NB, e = .returned (.tuple #[.pointer (some ⟨B.nb, 0, none⟩), .int .i64 k])) ∧ Same0 w w' := cS.mono (fun e w' g => ⟨(g.2.2 ld k hs).imp (fun B h => h.1), g.1⟩)
    clear cS e1 hR1 hR2 hN n1 n2 hT hv hs ec e0 hcl hu hku hwr hsol
    go_enter Tryz.func98, Tryz.ntmps98
    go_wp2_with (first | (go_at_call 128; refine cS2.mono ?_; rintro e w1 ⟨⟨B, rfl⟩, hk1⟩))
    go_ret
    exact ⟨by simp [hk0], hk1⟩
end Go.Proofs.YtlemcinjalepkaaGreat
