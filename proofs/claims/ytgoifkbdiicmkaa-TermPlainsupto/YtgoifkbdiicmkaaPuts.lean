/- The walk of TermPuts. -/
import Derived.Test.YtgoifkbdiicmkaaRefPut
import Derived.Test.YtgoifkbdiicmkaaLeads
namespace Go.Proofs.Ytgoifkbdiicmkaa
set_option linter.unusedVariables false
open Go.RowKit
attribute [local go_sem ↓] Go.wp_at_zero Go.wp_at_succ
/-- apart, of three rows whose blocks are apart. -/
theorem apart_rows {ba bb bw : Nat} {w : World} {va vb vw : Value} {ys : List Int} (ra : Row ba w va ys) (rb : Row bb w vb ys) (rw' : Row bw w vw ys) (hb0 : ba ≤ w.heap.size) (hd : ∀ k, va.ownBlock = some k → vb.ownBlock ≠ some k ∧ vw.ownBlock ≠ some k) (hsz : ys.length ≤ 17592186044000) :
    Calls Try.prog 26 #[va, vb, vw] w fun e w' => e = .returned (.bool true) ∧ Kept (fun k => va.ownBlock = some k) w w' := by
  obtain ⟨bo, bcap, rfl, hb, _, hbl⟩ := rb.ints
  obtain ⟨wo, wcap, rfl, hw, _, hwl⟩ := rw'.ints
  refine apart_any ra hb0 hb hw ?_ ?_ (fun a e => (hbl a e).2) (fun a e => (hwl a e).2) hsz
  · rintro a rfl e
    exact (hd _ e).1 rfl
  · rintro a rfl e
    exact (hd _ e).2 rfl
theorem put_bad {L : List Sym} {t u : List Int} {a : Int} (h : placeE L t a ≠ 0) : putE L t a u = placeE L t a ∧ putA L t a u = [] := by
  have e : putE L t a u = placeE L t a := by simp [putE, h]
  exact ⟨e, by rw [putA, e, if_neg h]⟩
theorem put_badu {L : List Sym} {t u : List Int} {a : Int} (h : placeE L t a = 0) (hu : checkE L u ≠ 0) : putE L t a u = checkE L u ∧ putA L t a u = [] := by
  have e : putE L t a u = checkE L u := by simp [putE, h, hu]
  exact ⟨e, by rw [putA, e, if_neg hu]⟩
theorem put_long {L : List Sym} {t u : List Int} {p : Nat} (h : placeE L t p = 0) (hu : checkE L u = 0) (hl : 2000 < (putN L t p u).length) : putE L t p u = 20 ∧ putA L t p u = [] := by
  have e : putE L t p u = 20 := by simp [putE, h, hu, hl]
  exact ⟨e, by rw [putA, e]; rfl⟩
theorem put_good {L : List Sym} {t u : List Int} {p : Nat} (h : placeE L t p = 0) (hu : checkE L u = 0) (hl : ¬ 2000 < (putN L t p u).length) : putE L t p u = 0 ∧ putA L t p u = putN L t p u := by
  have e : putE L t p u = 0 := by simp [putE, h, hu, hl]
  exact ⟨e, by rw [putA, e]; rfl⟩
theorem putA_le (L : List Sym) (t u : List Int) (a : Int) : (putA L t a u).length ≤ 2000 := by
  unfold putA
  split
  · rename_i h
    unfold putE at h
    by_cases h1 : placeE L t a = 0
    · by_cases h2 : checkE L u = 0
      · by_cases h3 : 2000 < (putN L t a.toNat u).length
        · simp [h1, h2, h3] at h
        · omega
      · simp [h1, h2] at h
    · simp [h1] at h
  · simp
/-- What is known when the two lists are lent. -/
structure PutsAt (w w4 : World) (cb gt gu n b : Nat) (rv : Value) (L : List Sym) (so : Option Addr) (tc : Nat) (t : List Int) (at' : Int) (uo : Option Addr) (uc : Nat) (u : List Int) (lv pv : Value) : Prop where
  box : w4.heap[cb]? = some (.cells #[lv, .slice so t.length tc, .int .i64 at', .slice uo u.length uc, pv] 27 (0, 0))
  t' : Arg w4 so t tc
  u' : Arg w4 uo u uc
  sg : Sg n w4 b L
  rl : Rl n w4 rv L
  rt : Row w.heap.size w4 (.slice (some ⟨gt, 0, none⟩) (t.length + 1) (t.length + 1)) (t ++ [77])
  ru : Row w.heap.size w4 (.slice (some ⟨gu, 0, none⟩) (u.length + 1) (u.length + 1)) (u ++ [77])
  ne : gt ≠ gu
  so' : ∀ a, so = some a → t = [] ∨ a.block < w.heap.size
  uo' : ∀ a, uo = some a → u = [] ∨ a.block < w.heap.size
  cb' : w.heap.size ≤ cb
  cbt : cb ≠ gt
  cbu : cb ≠ gu
  k : Same0 w w4
theorem PutsAt.same {w w4 w5 : World} {cb gt gu n b : Nat} {rv : Value} {L : List Sym} {so : Option Addr} {tc : Nat} {t : List Int} {at' : Int} {uo : Option Addr} {uc : Nat} {u : List Int} {lv pv : Value} (h : PutsAt w w4 cb gt gu n b rv L so tc t at' uo uc u lv pv) (k : Same0 w4 w5) : PutsAt w w5 cb gt gu n b rv L so tc t at' uo uc u lv pv :=
  ⟨k.at h.box (fun f => f), h.t'.same k, h.u'.same k, h.sg.same k, h.rl.same k, Kept.row k h.rt (fun _ _ f => f), Kept.row k h.ru (fun _ _ f => f), h.ne, h.so', h.uo', h.cb', h.cbt, h.cbu, h.k.trans' k⟩
theorem PutsAt.cells {w w4 : World} {cb gt gu n b : Nat} {rv : Value} {L : List Sym} {so : Option Addr} {tc : Nat} {t : List Int} {at' : Int} {uo : Option Addr} {uc : Nat} {u : List Int} {lv pv : Value} (h : PutsAt w w4 cb gt gu n b rv L so tc t at' uo uc u lv pv) :
    w4.cell? ⟨cb, 1, none⟩ = some (.slice so t.length tc) ∧ w4.cell? ⟨cb, 2, none⟩ = some (.int .i64 at') ∧ w4.cell? ⟨cb, 3, none⟩ = some (.slice uo u.length uc) :=
  ⟨cellAt h.box 1, cellAt h.box 2, cellAt h.box 3⟩
theorem IntsAt.kept' {w w' : World} {S : Nat → Prop} {ao : Option Addr} {xs : List Int} (h : IntsAt w ao xs) (hk : Kept S w w') (hs : ∀ a, ao = some a → xs = [] ∨ ¬ S a.block) : IntsAt w' ao xs := by
  by_cases hx : xs = []
  · exact .inl hx
  · exact h.kept hk (fun a e => (hs a e).resolve_left hx)
/-- The rest behind the document's answer, in memory: both are kept, and what was told is apart. -/
theorem PutsAt.rest {w w5 w6 w7 : World} {cb gt gu n b : Nat} {rv : Value} {L : List Sym} {so : Option Addr} {tc : Nat} {t : List Int} {at' : Int} {uo : Option Addr} {uc : Nat} {u : List Int} {lv pv : Value} (h : PutsAt w w5 cb gt gu n b rv L so tc t at' uo uc u lv pv)
    {vw va vb : Value} {ys : List Int} {bw : Nat} (rw5 : Row bw w5 vw ys) (hbw : w.heap.size ≤ bw) (hwt : vw.ownBlock ≠ some gt) (hwu : vw.ownBlock ≠ some gu) (ra : Row w5.heap.size w6 va ys) (k6 : Same0 w5 w6) (rb : Row w6.heap.size w7 vb ys) (k7 : Same0 w6 w7) (hys : ys.length ≤ 2000) :
    (w7.cell? ⟨cb, 1, none⟩ = some (.slice so t.length tc) ∧ Calls Try.prog 16 #[.slice (some ⟨gt, 0, none⟩) t.length (t.length + 1), .slice so t.length tc] w7 fun e w' => e = .returned (.bool true) ∧ Kept (fun k => k = gt) w7 w') ∧
    ∀ w8, Kept (fun k => k = gt) w7 w8 → (w8.cell? ⟨cb, 3, none⟩ = some (.slice uo u.length uc) ∧ Calls Try.prog 16 #[.slice (some ⟨gu, 0, none⟩) u.length (u.length + 1), .slice uo u.length uc] w8 fun e w' => e = .returned (.bool true) ∧ Kept (fun k => k = gu) w8 w') ∧
    ∀ w9, Kept (fun k => k = gu) w8 w9 → Calls Try.prog 26 #[va, vb, vw] w9 fun e w' => e = .returned (.bool true) ∧ Below w.heap.size w w' := by
  have k57 := k6.trans' k7
  have h7 := h.same k57
  have gtl := (h.rt.lt gt rfl)
  have gul := (h.ru.lt gu rfl)
  have ra7 := Kept.row k7 ra (fun _ _ f => f)
  have rw7 := Kept.row k57 rw5 (fun _ _ f => f)
  have al : ∀ k, va.ownBlock = some k → w5.heap.size ≤ k ∧ k < w6.heap.size := fun k e => ra.lt k e
  have bl : ∀ k, vb.ownBlock = some k → w6.heap.size ≤ k := fun k e => (rb.lt k e).1
  have wl : ∀ k, vw.ownBlock = some k → bw ≤ k ∧ k < w5.heap.size := fun k e => rw5.lt k e
  refine ⟨⟨h7.cells.1, kept_any h7.rt h7.t'.at' h7.t'.size⟩, fun w8 k8 => ⟨⟨?_, ?_⟩, fun w9 k9 => ?_⟩⟩
  · exact (k8.cell (p := ⟨cb, 3, none⟩) (lt_of_at h7.box) (by exact h.cbt)).trans h7.cells.2.2
  · refine kept_any (Kept.row k8 h7.ru ?_) (h7.u'.at'.kept' k8 ?_) h7.u'.size
    · intro k e e'
      simp [Value.ownBlock] at e
      exact h.ne (by omega)
    · intro a e
      rcases h.uo' a e with e1 | e1
      · exact .inl e1
      · exact .inr (by omega)
  · have ra9 := (Kept.row k9 (Kept.row k8 ra7 (fun k e e' => by have := al k e; omega)) (fun k e e' => by have := al k e; omega))
    have rb9 := (Kept.row k9 (Kept.row k8 rb (fun k e e' => by have := bl k e; have := k6.size; omega)) (fun k e e' => by have := bl k e; have := k6.size; omega))
    have rw9 := (Kept.row k9 (Kept.row k8 rw7 (fun k e e' => hwt (by rw [e, e']))) (fun k e e' => hwu (by rw [e, e'])))
    have z9 : w5.heap.size ≤ w9.heap.size := by have := k57.size; have := k8.size; have := k9.size; omega
    refine (apart_rows ra9 rb9 rw9 z9 (fun k e => ⟨fun e' => ?_, fun e' => ?_⟩) (by omega)).mono ?_
    · have := al k e; have := bl k e'; omega
    · have := al k e; have := wl k e'; omega
    · rintro e w10 ⟨rfl, k10⟩
      refine ⟨rfl, ?_⟩
      have zz := h.k.size
      have s8 := Same0.after h7.k k8 (fun i hi e => by omega)
      have s9 := Same0.after s8 k9 (fun i hi e => by omega)
      exact (Same0.after s9 k10 (fun i hi e => by have := al i e; omega)).below
theorem IntsAt.old {w : World} {ao : Option Addr} {xs : List Int} (h : IntsAt w ao xs) : ∀ a, ao = some a → xs = [] ∨ a.block < w.heap.size := by
  intro a e
  rcases h with h | ⟨b, off, e', hlt, _⟩
  · exact .inl h
  · rw [e] at e'; cases e'; exact .inr hlt
set_option maxRecDepth 8000 in
set_option maxHeartbeats 8000000 in
theorem puts_walk (v : Value) (w : World) {lo : Option Addr} {ll lc : Nat} {ls : List Sym} {so : Option Addr} {tc : Nat} {t : List Int} {at' : Int} {uo : Option Addr} {uc : Nat} {u : List Int} {po : Option Addr} {pc : Nat} {path : List Int} (hc : CaseIs w v lo ll lc ls so tc t at' uo uc u po pc path) :
    Calls Try.prog 6 #[v] w fun e w' => e = .returned (.bool true) ∧ Below w.heap.size w w' := by
  obtain ⟨rfl, hsy, hsl, ht, hu, hp⟩ := hc
  obtain ⟨wb, hwb⟩ : ∃ wb, wb = w.alloc (.cells #[.slice lo ll lc, .slice so t.length tc, .int .i64 at', .slice uo u.length uc, .slice po path.length pc] 27) := ⟨_, rfl⟩
  have kb : Same0 w wb := by rw [hwb]; exact (Kept.refl _ w).alloc _
  have hbox : wb.heap[w.heap.size]? = some (.cells #[.slice lo ll lc, .slice so t.length tc, .int .i64 at', .slice uo u.length uc, .slice po path.length pc] 27 (0, 0)) := by rw [hwb]; exact heap_alloc_new w _
  go_enter Try.func6, Try.ntmps6
  go_wp2_with fail
  rw [← hwb]
  generalize hcb : w.heap.size = cb at *
  clear hwb
  refine (awake2_any _).mono ?_
  rintro e w1 ⟨rfl, k1⟩
  obtain ⟨d0, _, _, _, _⟩ := case_cells hbox k1 (fun f => f)
  go_wp2_with fail
  refine (made_any lo ll lc ls w1 (hsy.same (kb.trans' k1)) hsl).mono ?_
  rintro e w2 ⟨b, rv, rfl, hsg, hrl, k2⟩
  obtain ⟨L0, hL0⟩ : ∃ L0, L0 = madeL ls := ⟨_, rfl⟩
  rw [← hL0] at hsg hrl
  clear hL0
  have K2 := k1.trans' k2
  clear d0
  obtain ⟨_, d1, _, _, _⟩ := case_cells hbox K2 (fun f => f)
  go_wp2_with fail
  refine (lent_any (ht.at'.same (kb.trans' K2)) ht.nil ht.size).mono ?_
  rintro e w3 ⟨gt, rfl, hg1, hg2, hrt, k3⟩
  have K3 := K2.trans' k3
  clear d1
  obtain ⟨_, _, _, d3, _⟩ := case_cells hbox K3 (fun f => f)
  have KW3 := kb.trans' K3
  go_wp2_with fail
  refine (lent_any (hu.at'.same KW3) hu.nil hu.size).mono ?_
  rintro e w4 ⟨gu, rfl, hv1, hv2, hru, k4⟩
  have K4 := K3.trans' k4
  have KW4 := kb.trans' K4
  have z2 := (kb.trans' K2).size
  have zb := lt_of_at hbox
  have z2b := K2.size
  have z3 := k3.size
  have PA : PutsAt w w4 cb gt gu w2.heap.size b rv L0 so tc t at' uo uc u (.slice lo ll lc) (.slice po path.length pc) :=
    ⟨K4.at hbox (fun f => f), ht.same KW4, hu.same KW4, (hsg.same k3).same k4, (hrl.same k3).same k4, row_mono (Kept.row k4 hrt (fun _ _ f => f)) z2, row_mono hru (by omega), by omega, ht.at'.old, hu.at'.old, by omega, by omega, by omega, KW4⟩
  have hoff : cb ≠ gt ∧ cb ≠ gu := ⟨by omega, by omega⟩
  clear d3 hru hrt hsg hrl k4 K4 KW4 KW3 K3 k3 hv1 hg1 K2 k2 k1 kb hbox hsy hsl ht hu hp z2 zb z2b z3 hoff hcb hg2
  obtain ⟨d1, d2, d3⟩ := PA.cells
  have cpl := places_any (cap := tc) PA.rl PA.t'.at' (maxLen_of PA.t'.size) at'
  by_cases hz : placeE L0 t at' = 0
  · have ccu := rcheck_any (cap := uc) PA.rl PA.u'.at' (maxLen_of PA.u'.size)
    rw [hz] at cpl
    by_cases hzu : checkE L0 u = 0
    · obtain ⟨p, hpe, hpl, h0, h1, h2⟩ := place_zero hz
      obtain ⟨u1, _, u2⟩ := checkE_zero.1 hzu
      subst hpe
      rw [hzu] at ccu
      have crp := rput_any (cap := tc) (ucap := uc) PA.rl PA.t'.at' h1 PA.t'.cap' h2 p hpl PA.u'.at' u1 (isT_pos u2)
      go_upto_region 13 with (first
        | (go_at_call 17; refine cpl.mono ?_; rintro e w4 ⟨rfl, rfl⟩)
        | (go_at_call 14; refine ccu.mono ?_; rintro e w4 ⟨rfl, rfl⟩)
        | (go_at_call 27; refine crp.mono ?_; rintro e w5 ⟨vw, rfl, rwp, k5⟩))
      clear crp ccu cpl
      obtain ⟨wo, wcap, rfl, _, _, _⟩ := rwp.ints
      by_cases hlong : 2000 < (putN L0 t p u).length
      · obtain ⟨q1, q2⟩ := put_long hz hzu hlong
        have rw5 : Row w.heap.size w5 (.slice none 0 0) (putA L0 t p u) := by rw [q2]; exact World.ownsRow_nil _ _ _ _
        have hbw := Nat.le_refl w.heap.size
        have hwt : Value.ownBlock (.slice none 0 0) ≠ some gt := by simp [Value.ownBlock]
        have hwu : Value.ownBlock (.slice none 0 0) ≠ some gu := by simp [Value.ownBlock]
        clear rwp
        have hl' : (2000 : Int) < ((putN L0 t p u).length : Int) := by omega
        have PA5 := PA.same k5
        obtain ⟨x1, x2, x3⟩ := PA5.cells
        have cp := put_any (cap := t.length + 1) (ucap := u.length + 1) PA5.sg (row_prefix PA5.rt) (maxLen_of PA5.t'.size) (by omega) (row_prefix PA5.ru) (maxLen_of PA5.u'.size) p
        go_wp2_with fail
        refine cp.mono ?_
        rintro e w6 ⟨va, rfl, ra, k6⟩
        have PA6 := PA5.same k6
        obtain ⟨y1, y2, y3⟩ := PA6.cells
        have cq := put_any (cap := t.length + 1) (ucap := u.length + 1) PA6.sg (row_prefix PA6.rt) (maxLen_of PA6.t'.size) (by omega) (row_prefix PA6.ru) (maxLen_of PA6.u'.size) p
        clear cp
        go_wp2_with fail
        refine cq.mono ?_
        rintro e w7 ⟨vb, rfl, rb, k7⟩
        clear cq
        obtain ⟨⟨q1, cka⟩, restK⟩ := PA5.rest rw5 hbw hwt hwu ra k6 rb k7 (putA_le _ _ _ _)
        go_wp2_with fail
        refine cka.mono ?_
        rintro e w8 ⟨rfl, k8⟩
        obtain ⟨⟨q3, ckb⟩, restA⟩ := restK w8 k8
        go_wp2_with fail
        refine ckb.mono ?_
        rintro e w9 ⟨rfl, k9⟩
        have cap9 := restA w9 k9
        clear restK restA
        go_wp2_with fail
        refine cap9.mono ?_
        rintro e w10 ⟨rfl, hbel⟩
        go_wp2
        go_ret
        exact ⟨by first | rfl | simp, hbel⟩
      · obtain ⟨q1, q2⟩ := put_good hz hzu hlong
        have gtl := PA.rt.lt gt rfl
        have gul := PA.ru.lt gu rfl
        have rwl := fun k e => (rwp.lt k e).1
        have rw5 : Row w.heap.size w5 (.slice wo (putN L0 t p u).length wcap) (putA L0 t p u) := by rw [q2]; exact row_mono rwp PA.k.size
        have hbw := Nat.le_refl w.heap.size
        have hwt : Value.ownBlock (.slice wo (putN L0 t p u).length wcap) ≠ some gt := fun e => by have := rwl _ e; omega
        have hwu : Value.ownBlock (.slice wo (putN L0 t p u).length wcap) ≠ some gu := fun e => by have := rwl _ e; omega
        have hl' : ¬ (2000 : Int) < ((putN L0 t p u).length : Int) := by omega
        clear rwl gtl gul rwp
        have PA5 := PA.same k5
        obtain ⟨x1, x2, x3⟩ := PA5.cells
        have cp := put_any (cap := t.length + 1) (ucap := u.length + 1) PA5.sg (row_prefix PA5.rt) (maxLen_of PA5.t'.size) (by omega) (row_prefix PA5.ru) (maxLen_of PA5.u'.size) p
        go_wp2_with fail
        refine cp.mono ?_
        rintro e w6 ⟨va, rfl, ra, k6⟩
        have PA6 := PA5.same k6
        obtain ⟨y1, y2, y3⟩ := PA6.cells
        have cq := put_any (cap := t.length + 1) (ucap := u.length + 1) PA6.sg (row_prefix PA6.rt) (maxLen_of PA6.t'.size) (by omega) (row_prefix PA6.ru) (maxLen_of PA6.u'.size) p
        clear cp
        go_wp2_with fail
        refine cq.mono ?_
        rintro e w7 ⟨vb, rfl, rb, k7⟩
        clear cq
        obtain ⟨⟨q1, cka⟩, restK⟩ := PA5.rest rw5 hbw hwt hwu ra k6 rb k7 (putA_le _ _ _ _)
        go_wp2_with fail
        refine cka.mono ?_
        rintro e w8 ⟨rfl, k8⟩
        obtain ⟨⟨q3, ckb⟩, restA⟩ := restK w8 k8
        go_wp2_with fail
        refine ckb.mono ?_
        rintro e w9 ⟨rfl, k9⟩
        have cap9 := restA w9 k9
        clear restK restA
        go_wp2_with fail
        refine cap9.mono ?_
        rintro e w10 ⟨rfl, hbel⟩
        go_wp2
        go_ret
        exact ⟨by first | rfl | simp, hbel⟩
    · obtain ⟨q1, q2⟩ := put_badu hz hzu
      have hzu' : (checkE L0 u == 0) = false := by simpa using hzu
      go_upto_region 16 with (first
        | (go_at_call 17; refine cpl.mono ?_; rintro e w4 ⟨rfl, rfl⟩)
        | (go_at_call 14; refine ccu.mono ?_; rintro e w4 ⟨rfl, rfl⟩))
      clear ccu cpl
      have k5 : Same0 w4 w4 := Kept.refl _ _
      have rw5 : Row w.heap.size w4 (.slice none 0 0) (putA L0 t at' u) := by rw [q2]; exact World.ownsRow_nil _ _ _ _
      have hbw := Nat.le_refl w.heap.size
      have hwt : Value.ownBlock (.slice none 0 0) ≠ some gt := by simp [Value.ownBlock]
      have hwu : Value.ownBlock (.slice none 0 0) ≠ some gu := by simp [Value.ownBlock]
      have PA5 := PA.same k5
      obtain ⟨x1, x2, x3⟩ := PA5.cells
      have cp := put_any (cap := t.length + 1) (ucap := u.length + 1) PA5.sg (row_prefix PA5.rt) (maxLen_of PA5.t'.size) (by omega) (row_prefix PA5.ru) (maxLen_of PA5.u'.size) at'
      go_wp2_with fail
      refine cp.mono ?_
      rintro e w6 ⟨va, rfl, ra, k6⟩
      have PA6 := PA5.same k6
      obtain ⟨y1, y2, y3⟩ := PA6.cells
      have cq := put_any (cap := t.length + 1) (ucap := u.length + 1) PA6.sg (row_prefix PA6.rt) (maxLen_of PA6.t'.size) (by omega) (row_prefix PA6.ru) (maxLen_of PA6.u'.size) at'
      clear cp
      go_wp2_with fail
      refine cq.mono ?_
      rintro e w7 ⟨vb, rfl, rb, k7⟩
      clear cq
      obtain ⟨⟨q1, cka⟩, restK⟩ := PA5.rest rw5 hbw hwt hwu ra k6 rb k7 (putA_le _ _ _ _)
      go_wp2_with fail
      refine cka.mono ?_
      rintro e w8 ⟨rfl, k8⟩
      obtain ⟨⟨q3, ckb⟩, restA⟩ := restK w8 k8
      go_wp2_with fail
      refine ckb.mono ?_
      rintro e w9 ⟨rfl, k9⟩
      have cap9 := restA w9 k9
      clear restK restA
      go_wp2_with fail
      refine cap9.mono ?_
      rintro e w10 ⟨rfl, hbel⟩
      go_wp2
      go_ret
      exact ⟨by first | rfl | simp, hbel⟩
  · obtain ⟨q1, q2⟩ := put_bad (u := u) hz
    have hz' : (placeE L0 t at' == 0) = false := by simpa using hz
    go_upto_region 16 with (first
      | (go_at_call 17; refine cpl.mono ?_; rintro e w4 ⟨rfl, rfl⟩))
    clear cpl
    have k5 : Same0 w4 w4 := Kept.refl _ _
    have rw5 : Row w.heap.size w4 (.slice none 0 0) (putA L0 t at' u) := by rw [q2]; exact World.ownsRow_nil _ _ _ _
    have hbw := Nat.le_refl w.heap.size
    have hwt : Value.ownBlock (.slice none 0 0) ≠ some gt := by simp [Value.ownBlock]
    have hwu : Value.ownBlock (.slice none 0 0) ≠ some gu := by simp [Value.ownBlock]
    have PA5 := PA.same k5
    obtain ⟨x1, x2, x3⟩ := PA5.cells
    have cp := put_any (cap := t.length + 1) (ucap := u.length + 1) PA5.sg (row_prefix PA5.rt) (maxLen_of PA5.t'.size) (by omega) (row_prefix PA5.ru) (maxLen_of PA5.u'.size) at'
    go_wp2_with fail
    refine cp.mono ?_
    rintro e w6 ⟨va, rfl, ra, k6⟩
    have PA6 := PA5.same k6
    obtain ⟨y1, y2, y3⟩ := PA6.cells
    have cq := put_any (cap := t.length + 1) (ucap := u.length + 1) PA6.sg (row_prefix PA6.rt) (maxLen_of PA6.t'.size) (by omega) (row_prefix PA6.ru) (maxLen_of PA6.u'.size) at'
    clear cp
    go_wp2_with fail
    refine cq.mono ?_
    rintro e w7 ⟨vb, rfl, rb, k7⟩
    clear cq
    obtain ⟨⟨q1, cka⟩, restK⟩ := PA5.rest rw5 hbw hwt hwu ra k6 rb k7 (putA_le _ _ _ _)
    go_wp2_with fail
    refine cka.mono ?_
    rintro e w8 ⟨rfl, k8⟩
    obtain ⟨⟨q3, ckb⟩, restA⟩ := restK w8 k8
    go_wp2_with fail
    refine ckb.mono ?_
    rintro e w9 ⟨rfl, k9⟩
    have cap9 := restA w9 k9
    clear restK restA
    go_wp2_with fail
    refine cap9.mono ?_
    rintro e w10 ⟨rfl, hbel⟩
    go_wp2
    go_ret
    exact ⟨by first | rfl | simp, hbel⟩
end Go.Proofs.Ytgoifkbdiicmkaa
