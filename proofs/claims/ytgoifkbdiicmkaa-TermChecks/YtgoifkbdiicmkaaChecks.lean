/- The walk of TermChecks. -/
import Derived.Test.YtgoifkbdiicmkaaRefDepth
import Derived.Test.YtgoifkbdiicmkaaLeads
namespace Go.Proofs.Ytgoifkbdiicmkaa
set_option linter.unusedVariables false
open Go.RowKit
attribute [local go_sem ↓] Go.wp_at_zero Go.wp_at_succ
set_option maxRecDepth 4000 in
set_option maxHeartbeats 4000000 in
theorem checks_walk (v : Value) (w : World) {lo : Option Addr} {ll lc : Nat} {ls : List Sym} {so : Option Addr} {tc : Nat} {t : List Int} {at' : Int} {uo : Option Addr} {uc : Nat} {u : List Int} {po : Option Addr} {pc : Nat} {path : List Int} (hc : CaseIs w v lo ll lc ls so tc t at' uo uc u po pc path) :
    Calls Try.prog 4 #[v] w fun e w' => e = .returned (.bool true) ∧ Below w.heap.size w w' := by
  obtain ⟨rfl, hsy, hsl, ht, hu, hp⟩ := hc
  obtain ⟨wb, hwb⟩ : ∃ wb, wb = w.alloc (.cells #[.slice lo ll lc, .slice so t.length tc, .int .i64 at', .slice uo u.length uc, .slice po path.length pc] 27) := ⟨_, rfl⟩
  have kb : Same0 w wb := by rw [hwb]; exact (Kept.refl _ w).alloc _
  have hbox : wb.heap[w.heap.size]? = some (.cells #[.slice lo ll lc, .slice so t.length tc, .int .i64 at', .slice uo u.length uc, .slice po path.length pc] 27 (0, 0)) := by rw [hwb]; exact heap_alloc_new w _
  go_enter Try.func4, Try.ntmps4
  go_wp2_with fail
  rw [← hwb]
  generalize hcb : w.heap.size = cb at *
  clear hwb
  refine (awake2_any _).mono ?_
  rintro e w1 ⟨rfl, k1⟩
  obtain ⟨d0, _, _, _, _⟩ := case_cells hbox k1 (fun f => f)
  go_wp2_with fail
  refine (made_any lo ll lc ls w1 (hsy.same (kb.trans' k1)) hsl).mono ?_
  rintro e w2 ⟨b, rv, rfl, hsg, hrl, k2⟩
  obtain ⟨L0, hL0⟩ : ∃ L0, L0 = madeL ls := ⟨_, rfl⟩
  rw [← hL0] at hsg hrl
  clear hL0
  have K2 := k1.trans' k2
  clear d0
  obtain ⟨_, d1, _, _, _⟩ := case_cells hbox K2 (fun f => f)
  go_wp2_with fail
  refine (lent_any (ht.at'.same (kb.trans' K2)) ht.nil ht.size).mono ?_
  rintro e w3 ⟨g, rfl, hg1, hg2, hrow, k3⟩
  have K3 := K2.trans' k3
  have KW3 := kb.trans' K3
  have mT := maxLen_of ht.size
  have cC := check_any (cap := t.length + 1) (hsg.same k3) (row_prefix hrow) mT
  clear d1
  go_wp2_with fail
  refine cC.mono ?_
  rintro e w4 ⟨rfl, k4⟩
  have sg4 := (hsg.same k3).same k4
  have row4 := Kept.row k4 hrow (fun _ _ f => f)
  have cD := tdepth_any (cap := t.length + 1) sg4 (row_prefix row4) mT
  clear cC
  go_wp2_with fail
  refine cD.mono ?_
  rintro e w5 ⟨rfl, k5⟩
  have K5 := (K3.trans' k4).trans' k5
  have KW5 := kb.trans' K5
  have rl5 := ((hrl.same k3).same k4).same k5
  have row5 := Kept.row k5 row4 (fun _ _ f => f)
  have i5 := ht.at'.same KW5
  obtain ⟨_, d1, _, _, _⟩ := case_cells hbox K5 (fun f => f)
  have cR := rcheck_any (cap := tc) rl5 i5 mT
  have hwg : w.heap.size ≤ g := by have := (kb.trans' K2).size; omega
  have KG : ∀ w6, Same0 w5 w6 → w6.cell? ⟨cb, 1, none⟩ = some (.slice so t.length tc) ∧ Calls Try.prog 16 #[.slice (some ⟨g, 0, none⟩) t.length (t.length + 1), .slice so t.length tc] w6 fun e w' => e = .returned (.bool true) ∧ Kept (fun k => k = g) w6 w' := fun w6 k6 =>
    ⟨(case_cells hbox (K5.trans' k6) (fun f => f)).2.1, kept_any (Kept.row k6 row5 (fun _ _ f => f)) (i5.same k6) ht.size⟩
  have FIN : ∀ w6 w7, Same0 w5 w6 → Kept (fun k => k = g) w6 w7 → Below w.heap.size w w7 := fun w6 w7 k6 k7 => (Same0.after (KW5.trans' k6) k7 (fun i hi e => by omega)).below
  have HK : Hid (∀ w6, Same0 w5 w6 → w6.cell? ⟨cb, 1, none⟩ = some (.slice so t.length tc) ∧ Calls Try.prog 16 #[.slice (some ⟨g, 0, none⟩) t.length (t.length + 1), .slice so t.length tc] w6 fun e w' => e = .returned (.bool true) ∧ Kept (fun k => k = g) w6 w') := KG
  have HFIN : Hid (∀ w6 w7, Same0 w5 w6 → Kept (fun k => k = g) w6 w7 → Below w.heap.size w w7) := FIN
  by_cases hz : checkE L0 t = 0
  · obtain ⟨h1, _, h2⟩ := checkE_zero.1 hz
    have cP := rdepth_any (cap := tc) rl5 i5 h1
    have eD : depthA L0 t = (deepN L0 t t.length : Int) := by rw [depthA, if_pos hz]
    rw [hz, eD]
    rw [hz] at cR
    clear KG FIN cD eD row5 row4 rl5 sg4 hrow hbox K5 K3 K2 k1 k2 k3 k4 k5 kb KW5 KW3 hsg hrl i5
    generalize deepN L0 t t.length = D at *
    go_wp2_with (first
      | (go_at_call 14; refine cR.mono ?_; rintro e w5 ⟨rfl, rfl⟩)
      | (go_at_call 15; refine cP.mono ?_; rintro e w6 ⟨rfl, k6⟩; obtain ⟨e4, ck⟩ := HK.out _ k6)
      | (go_at_call 16; refine ck.mono ?_; rintro e w7 ⟨rfl, k7⟩))
    go_ret
    exact ⟨by first | rfl | simp, HFIN.out _ _ k6 k7⟩
  · have eD : depthA L0 t = 0 := by rw [depthA, if_neg hz]
    rw [eD]
    have hz' : (checkE L0 t == 0) = false := by simpa using hz
    obtain ⟨e4, ck⟩ := KG _ (Kept.refl _ _)
    clear KG FIN cD eD row5 row4 rl5 sg4 hrow hbox K5 K3 K2 k1 k2 k3 k4 k5 kb KW5 KW3 hsg hrl i5
    go_wp2_with (first
      | (go_at_call 14; refine cR.mono ?_; rintro e w5 ⟨rfl, rfl⟩)
      | (go_at_call 16; refine ck.mono ?_; rintro e w7 ⟨rfl, k7⟩))
    go_ret
    exact ⟨by first | rfl | simp, HFIN.out _ _ (Kept.refl _ _) k7⟩
end Go.Proofs.Ytgoifkbdiicmkaa
