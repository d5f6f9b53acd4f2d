import Derived.Test.YthhcnllabhfejaaGUnifyOverlaps13
import Derived.Test.YthhcnllabhfejaaGUnifyOverlaps10
/- The walks of the document's Common and Clash. -/
namespace Go.Proofs.Ythhcnllabhfejaa
set_option maxRecDepth 100000
set_option linter.unusedVariables false
open Go.RowKit
attribute [local go_sem ↓] Go.wp_at_zero Go.wp_at_succ
def RComP (L : List Sym) (a b : List Int) (ap : Int) (w : World) (e : Ending) (w' : World) : Prop := ∃ v, e = .returned (.tuple #[v, .int .i64 (comE L a b ap)]) ∧ Row w.heap.size w' v (comT L a b ap) ∧ Same0 w w'
set_option maxHeartbeats 4000000 in
theorem rcommon_any {w : World} {rv : Value} {L : List Sym} {ao bo : Option Addr} {ac bc : Nat} {a b : List Int} (hca : checkE L a = 0) (hcb : checkE L b = 0) {ap : Bool} (cS : Calls Try.prog 26 #[rv, .slice ao a.length ac, .slice bo b.length bc, .bool ap] w (SolQ L ap (a ++ b) (jl a b (apI ap)) a.length w)) :
    Calls Try.prog 25 #[rv, .slice ao a.length ac, .slice bo b.length bc, .bool ap] w (RComP L a b (apI ap) w) := by
  obtain ⟨a1, a2, a3⟩ := checkE_zero.1 hca
  obtain ⟨b1, b2, b3⟩ := checkE_zero.1 hcb
  have p1 := isT_pos a3
  have p2 := isT_pos b3
  obtain ⟨k9, hk9, hk99⟩ := apI_nat ap
  have hT := trs_jl (apart := apI ap) (by omega) a3 b3
  have hv : ∀ x ∈ jl a b (apI ap), -198 ≤ x := by rw [hk9]; exact jl_low hca hcb hk99
  have hJl : (jl a b (apI ap)).length = a.length + b.length := by simp [jl]
  have hsy : ∀ p : Nat, p < (jl a b (apI ap)).length → 0 ≤ at' (jl a b (apI ap)) p → at' (a ++ b) p = at' (jl a b (apI ap)) p := fun p hp h => jl_syms hp h
  obtain ⟨n1, n2⟩ := net_same (ap := k9) hk99 hca hcb
  rw [← hk9] at n1 n2
  obtain ⟨res, hN, hR1, hR2⟩ := nsol_any hT hv (m := a.length) (by omega) (by omega)
  have bad : ∀ z, comE L a b (apI ap) = z → z ≠ 0 → Hid (∀ w', Same0 w w' → RComP L a b (apI ap) w (.returned (.tuple #[.slice none 0 0, .int .i64 z])) w') := by
    intro z hz hne w' hk
    refine ⟨_, by rw [hz], ?_, hk⟩
    unfold comT; rw [if_neg (by rw [hz]; exact hne)]; exact World.ownsRow_nil _ _ _ _
  cases hs : nsF L (jl a b (apI ap)) a.length with
  | none =>
    have e1 : comE L a b (apI ap) = 60 := by simp [comE, hca, hcb, n1 hs]
    have HX := bad 60 e1 (by omega)
    have cS2 : Calls Try.prog 26 #[rv, .slice ao a.length ac, .slice bo b.length bc, .bool ap] w fun e w' => e = .returned (.tuple #[.pointer none, .int .i64 0]) ∧ Same0 w w' := cS.mono (fun e w' g => ⟨g.2.1 hs, g.1⟩)
    clear cS bad e1 hR1 hR2 hN n1 n2 hsy hT hv hs
    go_enter Try.func25, Try.ntmps25
    go_wp2_with (first | (go_at_call 26; refine cS2.mono ?_; rintro e w1 ⟨rfl, hk1⟩))
    go_ret2
    exact HX.out _ hk1
  | some r =>
    obtain ⟨ld, k⟩ := r
    have hfull : Closed L (jl a b (apI ap)) a.length ld ∧ ∃ u, Val L (jl a b (apI ap)) ld 0 u ∧ k = min (u.length : Int) 2001 := by
      cases res with
      | none => rw [hR1 rfl] at hs; cases hs
      | some ld' =>
        obtain ⟨g1, k', sz', g2, g3, g4⟩ := hR2 ld' rfl
        by_cases e : k' = -1
        · rw [g3 e] at hs; cases hs
        · obtain ⟨f1, f2⟩ := g4 e
          rw [f1] at hs
          simp only [Option.some.injEq, Prod.mk.injEq] at hs
          obtain ⟨rfl, rfl⟩ := hs
          exact ⟨g1, f2⟩
    obtain ⟨hcl, u, hu, hku⟩ := hfull
    obtain ⟨v, hcom, hvl, hwr⟩ := n2 ld k u hs hcl hu
    obtain ⟨m1, m2⟩ := hcom.com hca hcb
    have p0 : UPart (jl a b (apI ap)) 0 := part_nat (p := 0) (by omega)
    have hupos := isT_pos (hu.isT hT hcl.ok p0)
    have cS2 : Calls Try.prog 26 #[rv, .slice ao a.length ac, .slice bo b.length bc, .bool ap] w fun e w' => (∃ B, e = .returned (.tuple #[.pointer (some ⟨B.nb, 0, none⟩), .int .i64 k]) ∧ NAt L ap B w' (a ++ b) (jl a b (apI ap)) ld ∧ B.top ≤ w'.heap.size) ∧ Same0 w w' := cS.mono (fun e w' g => ⟨g.2.2 ld k hs, g.1⟩)
    by_cases hk : 2000 < k
    · have e1 : comE L a b (apI ap) = 20 := m1 (by omega)
      have HX := bad 20 e1 (by omega)
      have hk0 : ¬ k = 0 := by omega
      clear cS bad e1 hR1 hR2 hN n1 n2 hsy hT hv hs hcom m1 m2 hcl hu hku hwr
      go_enter Try.func25, Try.ntmps25
      go_wp2_with (first | (go_at_call 26; refine cS2.mono ?_; rintro e w1 ⟨⟨B, rfl, -, -⟩, hk1⟩))
      go_ret2
      exact HX.out _ hk1
    · obtain ⟨n, hn⟩ : ∃ n, u.length = n := ⟨_, rfl⟩
      have hkn : k = (n : Int) := by rw [hku]; omega
      subst hkn
      have hn2 : n ≤ 2000 := by omega
      obtain ⟨e1, e2⟩ := m2 (by omega)
      have hlow : ∀ x ∈ u, -198 ≤ x := by
        intro x hx
        rcases hu.in hT hcl.ok p0 x hx with ⟨_, q⟩ | ⟨q, _⟩
        · exact q.1
        · omega
      have e3 : wrF [] (u.map (tellN (jl a b (apI ap)).length)) = comT L a b (apI ap) := by rw [wr_tell hlow, e2, hwr]
      have hlow2 : ∀ x ∈ u.map (tellN (jl a b (apI ap)).length), -1000000 ≤ x := by
        intro x hx
        obtain ⟨y, hy, rfl⟩ := List.mem_map.1 hx
        have := hlow y hy
        unfold tellN nodeV
        split
        · split <;> omega
        · omega
      obtain ⟨d, hd⟩ := hu
      have CT : Hid (∀ B w1, NAt L ap B w1 (a ++ b) (jl a b (apI ap)) ld → B.top ≤ w1.heap.size → Calls Try.prog 38 #[.pointer (some ⟨B.nb, 0, none⟩), .slice none 0 0, .int .i64 0] w1 fun e w2 => ∃ to' tc, e = .returned (.slice to' n tc) ∧ IntsAt w2 to' (u.map (tellN (jl a b (apI ap)).length)) ∧ Kept (fun q => w1.heap.size ≤ q) w1 w2) := by
        intro B w1 ⟨up, rep, cl, ρ, h1, h2⟩ h3
        refine (told_any hT hcl.ok (by omega) h2 hsy (base := w1.heap.size) h3 d w1 0 u (.slice none 0 0) [] h1 (by omega) hd (World.ownsRow_nil _ _ _ _) (Nat.le_refl _) (by simp; omega)).mono ?_
        rintro e w2 ⟨v', rfl, q1, q2⟩
        rw [List.nil_append] at q1
        obtain ⟨to', tc, rfl, q3, _, _⟩ := q1.ints
        exact ⟨to', tc, by rw [List.length_map, hn], q3, q2⟩
      have CP : Hid (∀ w2 to' tc, IntsAt w2 to' (u.map (tellN (jl a b (apI ap)).length)) → Calls Try.prog 37 #[.slice to' n tc] w2 fun e w3 => ∃ v, e = .returned v ∧ Row w2.heap.size w3 v (comT L a b (apI ap)) ∧ Same0 w2 w3) := by
        intro w2 to' tc hi
        have := nplain_any (cap := tc) hi (by rw [List.length_map]; omega) hlow2
        rw [List.length_map, hn, e3] at this
        exact this
      have HX : Hid (∀ w1 w2 w3 v, Same0 w w1 → Kept (fun q => w1.heap.size ≤ q) w1 w2 → Row w2.heap.size w3 v (comT L a b (apI ap)) → Same0 w2 w3 → RComP L a b (apI ap) w (.returned (.tuple #[v, .int .i64 0])) w3) := by
        intro w1 w2 w3 v q1 q2 q3 q4
        have s1 := q1.size
        have s2 := q2.size
        have q5 : Same0 w w2 := q1.trans q2 (fun q hq f => by omega)
        exact ⟨v, by rw [e1], row_mono q3 (by omega), q5.trans' q4⟩
      have hk0 : ¬ (n : Int) = 0 := by omega
      have hk2 : (n : Int) ≤ 2000 := by omega
      clear cS bad e1 e2 e3 hR1 hR2 hN n1 n2 hsy hT hv hs hcom m1 m2 hcl hku hwr hd hlow hlow2 hn
      go_enter Try.func25, Try.ntmps25
      go_wp2_with (first | (go_at_call 26; refine cS2.mono ?_; rintro e w1 ⟨⟨B, rfl, hA1, ht1⟩, hk1⟩) | (go_at_call 38; refine (CT.out B w1 hA1 ht1).mono ?_; rintro e w2 ⟨to', tc, rfl, hi2, hk2'⟩) | (go_at_call 37; refine (CP.out w2 to' tc hi2).mono ?_; rintro e w3 ⟨v3, rfl, hr3, hk3⟩))
      go_ret2
      exact HX.out w1 w2 _ _ hk1 hk2' hr3 hk3
theorem rclash_any {w : World} {rv : Value} {L : List Sym} {ao bo : Option Addr} {ac bc : Nat} {a b : List Int} (hca : checkE L a = 0) (hcb : checkE L b = 0) (cS : Calls Try.prog 26 #[rv, .slice ao a.length ac, .slice bo b.length bc, .bool true] w (SolQ L true (a ++ b) (jl a b (apI true)) a.length w)) :
    Calls Try.prog 16 #[rv, .slice ao a.length ac, .slice bo b.length bc] w fun e w' => e = .returned (.bool (claB L a b)) ∧ Same0 w w' := by
  obtain ⟨a1, a2, a3⟩ := checkE_zero.1 hca
  obtain ⟨b1, b2, b3⟩ := checkE_zero.1 hcb
  have p1 := isT_pos a3
  have p2 := isT_pos b3
  have hT := trs_jl (apart := (99 : Int)) (by omega) a3 b3
  have hv : ∀ x ∈ jl a b 99, -198 ≤ x := jl_low hca hcb (ap := 99) (by omega)
  have hJl : (jl a b 99).length = a.length + b.length := by simp [jl]
  obtain ⟨n1, n2⟩ := net_same (ap := 99) (by omega) hca hcb
  obtain ⟨res, hN, hR1, hR2⟩ := nsol_any hT hv (m := a.length) (by omega) (by omega)
  have e0 : apI true = 99 := rfl
  rw [e0] at cS
  have ec : claE L a b = 0 := by unfold claE; rw [if_neg (by rw [hca]; simp), hcb]
  cases hs : nsF L (jl a b 99) a.length with
  | none =>
    have hs2 := n1 hs
    have e1 : claB L a b = true := by unfold claB; rw [ec, show solF L (jl a b 99) a.length = none from hs2]; rfl
    rw [e1]
    have cS2 : Calls Try.prog 26 #[rv, .slice ao a.length ac, .slice bo b.length bc, .bool true] w fun e w' => e = .returned (.tuple #[.pointer none, .int .i64 0]) ∧ Same0 w w' := cS.mono (fun e w' g => ⟨g.2.1 hs, g.1⟩)
    clear cS e1 hR1 hR2 hN n1 n2 hT hv hs ec e0 hs2
    go_enter Try.func16, Try.ntmps16
    go_wp2_with (first | (go_at_call 26; refine cS2.mono ?_; rintro e w1 ⟨rfl, hk1⟩))
    go_ret
    exact ⟨rfl, hk1⟩
  | some r =>
    obtain ⟨ld, k⟩ := r
    have hfull : Closed L (jl a b 99) a.length ld ∧ ∃ u, Val L (jl a b 99) ld 0 u ∧ k = min (u.length : Int) 2001 := by
      cases res with
      | none => rw [hR1 rfl] at hs; cases hs
      | some ld' =>
        obtain ⟨g1, k', sz', g2, g3, g4⟩ := hR2 ld' rfl
        by_cases e : k' = -1
        · rw [g3 e] at hs; cases hs
        · obtain ⟨f1, f2⟩ := g4 e
          rw [f1] at hs
          simp only [Option.some.injEq, Prod.mk.injEq] at hs
          obtain ⟨rfl, rfl⟩ := hs
          exact ⟨g1, f2⟩
    obtain ⟨hcl, u, hu, hku⟩ := hfull
    obtain ⟨v, ⟨ld2, k2, hsol, _⟩, hvl, hwr⟩ := n2 ld k u hs hcl hu
    have p0 : UPart (jl a b 99) 0 := part_nat (p := 0) (by omega)
    have hupos := isT_pos (hu.isT hT hcl.ok p0)
    have hk0 : ¬ k = 0 := by omega
    have e1 : claB L a b = false := by unfold claB; rw [show solF L (jl a b 99) a.length = some (ld2, k2) from hsol]; simp
    rw [e1]
    have cS2 : Calls Try.prog 26 #[rv, .slice ao a.length ac, .slice bo b.length bc, .bool true] w fun e w' => (∃ B : NB, e = .returned (.tuple #[.pointer (some ⟨B.nb, 0, none⟩), .int .i64 k])) ∧ Same0 w w' := cS.mono (fun e w' g => ⟨(g.2.2 ld k hs).imp (fun B h => h.1), g.1⟩)
    clear cS e1 hR1 hR2 hN n1 n2 hT hv hs ec e0 hcl hu hku hwr hsol
    go_enter Try.func16, Try.ntmps16
    go_wp2_with (first | (go_at_call 26; refine cS2.mono ?_; rintro e w1 ⟨⟨B, rfl⟩, hk1⟩))
    go_ret
    exact ⟨by simp [hk0], hk1⟩
end Go.Proofs.Ythhcnllabhfejaa
