/- The walk of TermLeads. -/
import Derived.Test.YtgoifkbdiicmkaaRefFrom
import Derived.Test.YtgoifkbdiicmkaaOpenCase
namespace Go.Proofs.Ytgoifkbdiicmkaa
set_option linter.unusedVariables false
open Go.RowKit
attribute [local go_sem ↓] Go.wp_at_zero Go.wp_at_succ
theorem lead_eq {L : List Sym} {t path : List Int} (h : checkE L t = 0) : (leadR L t path < 0 → leadA L t path = 0 ∧ leadE L t path = 25) ∧ (¬ leadR L t path < 0 → leadA L t path = leadR L t path ∧ leadE L t path = 0) := by
  unfold leadR leadA leadE
  cases hl : leads L t 0 path with
  | none => simp [h]
  | some q => simp [h]
theorem lead_bad {L : List Sym} {t path : List Int} (h : checkE L t ≠ 0) : leadA L t path = 0 ∧ leadE L t path = checkE L t := by
  unfold leadA leadE
  simp [h]
theorem maxLen_of {n : Nat} (h : n * 8 ≤ 140737488351232) : n ≤ maxLen := by unfold maxLen; omega
theorem Arg.same {w w' : World} {ao : Option Addr} {xs : List Int} {cap : Nat} (h : Arg w ao xs cap) (hk : Same0 w w') : Arg w' ao xs cap := ⟨h.at'.same hk, h.cap', h.nil, h.size⟩
theorem SymsAt.same {w w' : World} {ao : Option Addr} {len : Nat} {xs : List Sym} (h : SymsAt w ao len xs) (hk : Same0 w w') : SymsAt w' ao len xs := h.kept hk.below
/-- The cells of a Case that was boxed. -/
theorem case_cells {w w' : World} {cb : Nat} {a0 a1 a2 a3 a4 : Value} {T : TypeId} (hb : w.heap[cb]? = some (.cells #[a0, a1, a2, a3, a4] T (0, 0))) {S : Nat → Prop} (hk : Kept S w w') (hn : ¬ S cb) :
    w'.cell? ⟨cb, 0, none⟩ = some a0 ∧ w'.cell? ⟨cb, 1, none⟩ = some a1 ∧ w'.cell? ⟨cb, 2, none⟩ = some a2 ∧ w'.cell? ⟨cb, 3, none⟩ = some a3 ∧ w'.cell? ⟨cb, 4, none⟩ = some a4 := by
  have h := hk.at hb hn
  exact ⟨cellAt h 0, cellAt h 1, cellAt h 2, cellAt h 3, cellAt h 4⟩
set_option maxRecDepth 4000 in
set_option maxHeartbeats 4000000 in
theorem leads_walk (v : Value) (w : World) {lo : Option Addr} {ll lc : Nat} {ls : List Sym} {so : Option Addr} {tc : Nat} {t : List Int} {at' : Int} {uo : Option Addr} {uc : Nat} {u : List Int} {po : Option Addr} {pc : Nat} {path : List Int} (hc : CaseIs w v lo ll lc ls so tc t at' uo uc u po pc path) :
    Calls Try.prog 7 #[v] w fun e w' => e = .returned (.bool true) ∧ Below w.heap.size w w' := by
  obtain ⟨rfl, hsy, hsl, ht, hu, hp⟩ := hc
  obtain ⟨wb, hwb⟩ : ∃ wb, wb = w.alloc (.cells #[.slice lo ll lc, .slice so t.length tc, .int .i64 at', .slice uo u.length uc, .slice po path.length pc] 27) := ⟨_, rfl⟩
  have kb : Same0 w wb := by rw [hwb]; exact (Kept.refl _ w).alloc _
  have hbox : wb.heap[w.heap.size]? = some (.cells #[.slice lo ll lc, .slice so t.length tc, .int .i64 at', .slice uo u.length uc, .slice po path.length pc] 27 (0, 0)) := by rw [hwb]; exact heap_alloc_new w _
  go_enter Try.func7, Try.ntmps7
  go_wp2_with fail
  rw [← hwb]
  generalize hcb : w.heap.size = cb at *
  clear hwb
  refine (awake2_any _).mono ?_
  rintro e w1 ⟨rfl, k1⟩
  obtain ⟨d0, _, _, _, _⟩ := case_cells hbox k1 (fun f => f)
  go_wp2_with fail
  refine (made_any lo ll lc ls w1 (hsy.same (kb.trans' k1)) hsl).mono ?_
  rintro e w2 ⟨b, rv, rfl, hsg, hrl, k2⟩
  obtain ⟨L0, hL0⟩ : ∃ L0, L0 = madeL ls := ⟨_, rfl⟩
  rw [← hL0] at hsg hrl
  clear hL0
  have K2 := k1.trans' k2
  clear d0
  obtain ⟨_, _, _, _, d4⟩ := case_cells hbox K2 (fun f => f)
  go_wp2_with fail
  refine (lent_any (hp.at'.same (kb.trans' K2)) hp.nil hp.size).mono ?_
  rintro e w3 ⟨g, rfl, hg1, hg2, hrow, k3⟩
  have K3 := K2.trans' k3
  clear d4
  obtain ⟨_, d1, _, _, _⟩ := case_cells hbox K3 (fun f => f)
  have KW3 := kb.trans' K3
  go_wp2_with fail
  refine (place_any (hsg.same k3) (ht.at'.same KW3) (maxLen_of ht.size) (row_prefix hrow) (maxLen_of hp.size)).mono ?_
  rintro e w4 ⟨rfl, k4⟩
  have K4 := K3.trans' k4
  clear d1
  obtain ⟨_, d1, _, _, d4⟩ := case_cells hbox K4 (fun f => f)
  have KW4 := kb.trans' K4
  have hrl4 := (hrl.same k3).same k4
  have hrow4 := Kept.row k4 hrow (fun _ _ f => f)
  have KG : ∀ w5, Same0 w4 w5 → w5.cell? ⟨cb, 4, none⟩ = some (.slice po path.length pc) ∧ Calls Try.prog 16 #[.slice (some ⟨g, 0, none⟩) path.length (path.length + 1), .slice po path.length pc] w5 fun e w' => e = .returned (.bool true) ∧ Kept (fun k => k = g) w5 w' := fun w5 k5 =>
    ⟨(case_cells hbox (K4.trans' k5) (fun f => f)).2.2.2.2, kept_any (Kept.row k5 hrow4 (fun _ _ f => f)) (hp.at'.same (KW4.trans' k5)) hp.size⟩
  have hwg : w.heap.size ≤ g := by have := (kb.trans' K2).size; omega
  have FIN : ∀ w5 w6, Same0 w4 w5 → Kept (fun k => k = g) w5 w6 → Below w.heap.size w w6 := fun w5 w6 k5 k6 => (Same0.after (KW4.trans' k5) k6 (fun i hi e => by omega)).below
  have cch := rcheck_any (cap := tc) hrl4 (ht.at'.same KW4) (maxLen_of ht.size)
  have hfr : checkE L0 t = 0 → Calls Try.prog 30 #[rv, .slice so t.length tc, .int .i64 0, .slice po path.length pc] w4 fun e w' => e = .returned (.int .i64 (leadR L0 t path)) ∧ Same0 w4 w' := fun hz => by
    obtain ⟨h1, _, h2⟩ := checkE_zero.1 hz
    exact rfrom_any hrl4 (ht.at'.same KW4) h1 h2 (hp.at'.same KW4) (maxLen_of hp.size)
  clear hrl4 hrl hsg hrow hrow4 hsy KW3 K3 k3 k4 K2 k2 k1 kb hbox
  by_cases hz : checkE L0 t = 0
  · have hq := lead_eq (path := path) hz
    have cF := hfr hz
    rw [hz] at cch
    clear hfr
    by_cases hneg : leadR L0 t path < 0
    · obtain ⟨q1, q2⟩ := hq.1 hneg
      rw [q1, q2]
      clear hq
      go_wp2_with (first | (go_at_call 14; refine cch.mono ?_; rintro e w' ⟨rfl, rfl⟩) | (go_at_call 30; refine cF.mono ?_; rintro e w5 ⟨rfl, k5⟩; obtain ⟨e4, ck⟩ := KG _ k5) | (go_at_call 16; refine ck.mono ?_; rintro e w6 ⟨rfl, k6⟩))
      go_ret
      exact ⟨rfl, FIN _ _ k5 k6⟩
    · obtain ⟨q1, q2⟩ := hq.2 hneg
      rw [q1, q2]
      clear hq
      go_wp2_with (first | (go_at_call 14; refine cch.mono ?_; rintro e w' ⟨rfl, rfl⟩) | (go_at_call 30; refine cF.mono ?_; rintro e w5 ⟨rfl, k5⟩; obtain ⟨e4, ck⟩ := KG _ k5) | (go_at_call 16; refine ck.mono ?_; rintro e w6 ⟨rfl, k6⟩))
      go_ret
      exact ⟨by simp, FIN _ _ k5 k6⟩
  · obtain ⟨q1, q2⟩ := lead_bad (path := path) hz
    rw [q1, q2]
    obtain ⟨e4, ck⟩ := KG _ (Kept.refl _ _)
    have hz' : (checkE L0 t == 0) = false := by simpa using hz
    clear hfr
    go_wp2_with (first | (go_at_call 14; refine cch.mono ?_; rintro e w' ⟨rfl, rfl⟩) | (go_at_call 16; refine ck.mono ?_; rintro e w6 ⟨rfl, k6⟩))
    go_ret
    exact ⟨by simp, FIN _ _ (Kept.refl _ _) k6⟩
end Go.Proofs.Ytgoifkbdiicmkaa
