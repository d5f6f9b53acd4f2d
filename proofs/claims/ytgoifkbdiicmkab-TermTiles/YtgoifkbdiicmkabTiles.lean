/- The walk of TermTiles. -/
import Derived.Test.YtgoifkbdiicmkabTilesPlain
import Derived.Test.YtgoifkbdiicmkabLeads
namespace Go.Proofs.Ytgoifkbdiicmkab
set_option linter.unusedVariables false
open Go.RowKit
attribute [local go_sem ↓] Go.wp_at_zero Go.wp_at_succ
/-- What is known in each round: but for the counts all is as it was. -/
structure TilesAt (w w5 wr : World) (cb g n b : Nat) (L : List Sym) (so : Option Addr) (tc : Nat) (t : List Int) (a0 a2 a3 a4 : Value) (ys : List Int) : Prop where
  box : w5.heap[cb]? = some (.cells #[a0, .slice so t.length tc, a2, a3, a4] 26 (0, 0))
  t' : Arg w5 so t tc
  sg : Sg n w5 b L
  ng : n ≤ g
  cg : cb ≠ g
  tg : ∀ a, so = some a → t = [] ∨ a.block < w.heap.size
  wg : w.heap.size ≤ g
  row : Row w.heap.size wr (.slice (some ⟨g, 0, none⟩) t.length t.length) ys
  k0 : Same0 w w5
  k : Kept (fun k => k = g) w5 wr
section
variable {w w5 wr : World} {cb g n b : Nat} {L : List Sym} {so : Option Addr} {tc : Nat} {t : List Int} {a0 a2 a3 a4 : Value} {ys : List Int}
theorem TilesAt.cell (h : TilesAt w w5 wr cb g n b L so tc t a0 a2 a3 a4 ys) : wr.cell? ⟨cb, 1, none⟩ = some (.slice so t.length tc) := cellAt (h.k.at h.box h.cg) 1
theorem TilesAt.ints (h : TilesAt w w5 wr cb g n b L so tc t a0 a2 a3 a4 ys) : IntsAt wr so t := by
  by_cases hx : t = []
  · exact .inl hx
  · exact h.t'.at'.kept h.k (fun a e f => by have := (h.tg a e).resolve_left hx; have := h.wg; omega)
theorem TilesAt.sg' (h : TilesAt w w5 wr cb g n b L so tc t a0 a2 a3 a4 ys) : Sg n wr b L := h.sg.kept h.k (fun k hk e => by have := h.ng; omega)
theorem TilesAt.same (h : TilesAt w w5 wr cb g n b L so tc t a0 a2 a3 a4 ys) {w' : World} (k : Same0 wr w') : TilesAt w w5 w' cb g n b L so tc t a0 a2 a3 a4 ys :=
  ⟨h.box, h.t', h.sg, h.ng, h.cg, h.tg, h.wg, Kept.row k h.row (fun _ _ f => f), h.k0, h.k.trans k (fun _ _ f => f.elim)⟩
theorem TilesAt.len (h : TilesAt w w5 wr cb g n b L so tc t a0 a2 a3 a4 ys) : ys.length = t.length := by
  obtain ⟨ao, cap, hv, _, _, _⟩ := h.row.ints
  simp only [Value.slice.injEq] at hv
  exact hv.2.1.symm
theorem TilesAt.row' (h : TilesAt w w5 wr cb g n b L so tc t a0 a2 a3 a4 ys) : wr.ownsRow w.heap.size 3 1 (.slice (some ⟨g, 0, none⟩) t.length t.length) t.length (iv ys) := by
  have h1 := h.row
  unfold Row at h1
  rwa [h.len] at h1
theorem TilesAt.store (h : TilesAt w w5 wr cb g n b L so tc t a0 a2 a3 a4 ys) (P : Nat) (x : Int) : TilesAt w w5 (wr.setCell ⟨g, P, none⟩ (.int .i64 x)) cb g n b L so tc t a0 a2 a3 a4 (ys.set P x) := by
  refine ⟨h.box, h.t', h.sg, h.ng, h.cg, h.tg, h.wg, ?_, h.k0, h.k.setCell (p := ⟨g, P, none⟩) (fun _ => rfl) _⟩
  have := (h.row'.stored P (.int .i64 x)).1
  unfold Row
  rw [List.length_set, h.len]
  have e : iv (ys.set P x) = (iv ys).set P (.int .i64 x) := by simp [iv, List.map_set]
  rw [e]; exact this
theorem TilesAt.get (h : TilesAt w w5 wr cb g n b L so tc t a0 a2 a3 a4 ys) {P : Nat} (hP : P < t.length) : wr.cell? ⟨g, P, none⟩ = some (.int .i64 (ys[P]'(by rw [h.len]; exact hP))) ∧ wr.frozen? ⟨g, P, none⟩ = false :=
  ⟨(h.row'.cellAt P (by omega)).trans (iv_get (by rw [h.len]; exact hP)), h.row'.frozenAt P⟩
theorem TilesAt.fin (h : TilesAt w w5 wr cb g n b L so tc t a0 a2 a3 a4 ys) : Below w.heap.size w wr := (Same0.after h.k0 h.k (fun i hi e => by have := h.wg; omega)).below
end
theorem made_zero (n : Nat) : (madeCells (Value.int .i64 0).cells (n * 1)).toList = iv (List.replicate n 0) := by
  apply List.ext_getElem
  · simp [madeCells, iv]
  · intro i h1 h2
    simp [madeCells, iv, Value.cells, Nat.mod_one]
theorem place_ok {L : List Sym} {t : List Int} {p : Nat} (h : checkE L t = 0) (hp : p < t.length) : placeE L t (p : Int) = 0 ∧ endA L t (p : Int) = (endN L t p : Int) ∧ argsA L t (p : Int) = ofN (argsN L t p) := by
  have e : placeE L t (p : Int) = 0 := by
    unfold placeE
    rw [if_neg (by omega), if_neg (by omega)]
  exact ⟨e, by rw [endA, if_pos e]; simp, by rw [argsA, if_pos e]; simp⟩
set_option maxRecDepth 8000 in
set_option maxHeartbeats 8000000 in
theorem tiles_walk (v : Value) (w : World) {lo : Option Addr} {ll lc : Nat} {ls : List Sym} {so : Option Addr} {tc : Nat} {t : List Int} {at' : Int} {uo : Option Addr} {uc : Nat} {u : List Int} {po : Option Addr} {pc : Nat} {path : List Int} (hc : CaseIs w v lo ll lc ls so tc t at' uo uc u po pc path) :
    Calls Try.prog 4 #[v] w fun e w' => e = .returned (.bool true) ∧ Below w.heap.size w w' := by
  obtain ⟨rfl, hsy, hsl, ht, hu, hp⟩ := hc
  obtain ⟨wb, hwb⟩ : ∃ wb, wb = w.alloc (.cells #[.slice lo ll lc, .slice so t.length tc, .int .i64 at', .slice uo u.length uc, .slice po path.length pc] 26) := ⟨_, rfl⟩
  have kb : Same0 w wb := by rw [hwb]; exact (Kept.refl _ w).alloc _
  have hbox : wb.heap[w.heap.size]? = some (.cells #[.slice lo ll lc, .slice so t.length tc, .int .i64 at', .slice uo u.length uc, .slice po path.length pc] 26 (0, 0)) := by rw [hwb]; exact heap_alloc_new w _
  go_enter Try.func4, Try.ntmps4
  go_wp2_with fail
  rw [← hwb]
  generalize hcb : w.heap.size = cb at *
  clear hwb
  refine (awake2_any _).mono ?_
  rintro e w1 ⟨rfl, k1⟩
  obtain ⟨d0, _, _, _, _⟩ := case_cells hbox k1 (fun f => f)
  go_wp2_with fail
  refine (made_any lo ll lc ls w1 (hsy.same (kb.trans' k1)) hsl).mono ?_
  rintro e w2 ⟨b, rv, rfl, hsg, hrl, k2⟩
  obtain ⟨L0, hL0⟩ : ∃ L0, L0 = madeL ls := ⟨_, rfl⟩
  rw [← hL0] at hsg hrl
  clear hL0
  have K2 := k1.trans' k2
  have KW2 := kb.trans' K2
  clear d0
  obtain ⟨_, d1, _, _, _⟩ := case_cells hbox K2 (fun f => f)
  have cch := rcheck_any (cap := tc) hrl (ht.at'.same KW2) (maxLen_of ht.size)
  by_cases hz : checkE L0 t = 0
  · obtain ⟨h1, _, h2⟩ := checkE_zero.1 hz
    rw [hz] at cch
    obtain ⟨i, hi, hz0, hz1, hz2⟩ := info_parts info_int
    go_wp2_with (first | (go_at_call 9; refine cch.mono ?_; rintro e w2 ⟨rfl, rfl⟩) | (at_make; refine wpList_make_full _ rfl _ _ 23 rfl w.heap.size 3 i _ 1 Try.underlying23 hi hz0 hz1 _ _ _ _ t.length rfl rfl rfl rfl (by rw [hz2]; omega) (by unfold maxLen; omega) KW2.size ?_; intro w3 hown hgrow))
    have hgg : w2.heap.size ≤ w2.heap.size := Nat.le_refl _
    have z2 := KW2.size
    have zb := lt_of_at hbox
    have z2b := K2.size
    have TA : TilesAt w w3 w3 cb w2.heap.size w2.heap.size b L0 so tc t (.slice lo ll lc) (.int .i64 at') (.slice uo u.length uc) (.slice po path.length pc) (seenL L0 t t.length 0 0) := by
      have k3 : Same0 w2 w3 := Same0.grown (Kept.refl _ w2) hgrow
      refine ⟨(K2.trans' k3).at hbox (fun f => f), (ht.same KW2).same k3, hsg.same k3, Nat.le_refl _, by omega, ?_, by omega, ?_, KW2.trans' k3, Kept.refl _ _⟩
      · intro a e
        rcases ht.at' with e1 | ⟨b', off', e', hlt, _⟩
        · exact .inl e1
        · rw [e] at e'; cases e'; right; omega
      · unfold Row
        rw [seenL_length, seenL_zero, ← made_zero]
        exact hown
    clear hown hgrow hsg hrl cch d1 hbox k1 k2 K2 KW2 kb hsy hsl ht hu hp z2 zb z2b hgg hi hz0 hz1 hz2 hcb
    generalize w2.heap.size = g at *
    have hmT : t.length ≤ maxLen := by unfold maxLen; omega
    go_loopw [7] (fun iv' wr => ∃ i : Nat, i ≤ t.length ∧ iv' = .int .i64 (i : Int) ∧ TilesAt w w3 wr cb g g b L0 so tc t (.slice lo ll lc) (.int .i64 at') (.slice uo u.length uc) (.slice po path.length pc) (seenL L0 t t.length i 0)) (fun iv' _ => t.length - (intOf iv').toNat)
    case atStart => exact ⟨0, Nat.zero_le _, rfl, TA⟩
    case round =>
      obtain ⟨i, hile, rfl, hT⟩ := hrel
      have d1 := hT.cell
      by_cases hlt : i < t.length
      · obtain ⟨o1, o2, o3⟩ := place_ok hz hlt
        have cE := tend_any (cap := tc) hT.sg' hT.ints hmT (i : Int)
        rw [o1, o2] at cE
        obtain ⟨e1, e2⟩ := endN_le h2 hlt
        have hf := (Forest.one h2 hlt).kids.2
        have har := arN_le hT.sg.2 t[i]
        go_wp2_with fail
        refine cE.mono ?_
        rintro e w6 ⟨rfl, k6⟩
        have hT6 := hT.same k6
        have d6 := hT6.cell
        have cA := args_any (cap := tc) hT6.sg' hT6.ints hmT (i : Int)
        rw [o1, o3] at cA
        clear cE d1 hT k6 o1 o2 o3
        go_wp2_with fail
        refine cA.mono ?_
        rintro e w7 ⟨va, rfl, ra, k7⟩
        have hT7 := hT6.same k7
        have d7 := hT7.cell
        have gl := (hT6.row'.lt g rfl).2
        obtain ⟨ao, acap, rfl, hai, _, hab⟩ := ra.ints
        have hab' : ∀ a, ao = some a → a.block ≠ g := fun a e => by have := (hab a e).1; omega
        have hlen : (ofN (argsN L0 t i)).length = arN L0 t[i] := by rw [argsN_eq hlt]; simp [ofN, starts_length]
        have HA : Hid (argsN L0 t i = starts L0 t (arN L0 t[i]) (i + 1)) := argsN_eq hlt
        have hpA : Hid (past L0 t (arN L0 t[i]) (i + 1) = endN L0 t i) := hf.past
        clear cA d6 hT6 k7 ra hab gl
        have j0 : (i : Int) < (t.length : Int) := by omega
        have j1 : ¬ (endN L0 t i : Int) ≤ (i : Int) := by omega
        have j2 : ¬ (t.length : Int) < (endN L0 t i : Int) := by omega
        have j1' : ¬ endN L0 t i ≤ i := by omega
        have j2' : ¬ t.length < endN L0 t i := by omega
        obtain ⟨A, hA⟩ : ∃ A, A = arN L0 t[i] := ⟨_, rfl⟩
        rw [← hA] at hlen HA hpA hf har
        rw [hlen]
        go_wp2
        obtain ⟨wo, rfl⟩ : ∃ wo : World, wo = wr := ⟨_, rfl⟩
        have hS0 := hT7
        go_loopw [12, 13] (fun at2 kv wr => ∃ k : Nat, k ≤ A ∧ kv = .int .i64 (k : Int) ∧ at2 = .int .i64 (past L0 t k (i + 1) : Int) ∧ IntsAt wr ao (ofN (argsN L0 t i)) ∧ TilesAt w w3 wr cb g g b L0 so tc t (.slice lo ll lc) (.int .i64 at') (.slice uo u.length uc) (.slice po path.length pc) (seenL L0 t t.length i k)) (fun _ kv _ => A - (intOf kv).toNat)
        case atStart => exact ⟨0, Nat.zero_le _, rfl, rfl, hai, hS0⟩
        case round =>
          clear hai hT7 hS0 d7
          obtain ⟨k, hkA, rfl, rfl, hai, hT8⟩ := hrel
          have d8 := hT8.cell
          by_cases hkl : k < A
          · have hfk := hf.drop (i := k) (by omega)
            rw [show A - k = (A - k - 1) + 1 by omega] at hfk
            have hq : past L0 t k (i + 1) < endN L0 t i := by have := hfk.pos; have := hfk.le; omega
            have hqt : past L0 t k (i + 1) < t.length := by omega
            obtain ⟨ab, aoff, rfl, _, hac⟩ := hai.get (i := k) (by omega)
            have hk' : (argsN L0 t i)[k]? = some (past L0 t k (i + 1)) := by rw [HA.out]; exact starts_at hkl
            have hge : (ofN (argsN L0 t i))[k]'(by omega) = ((past L0 t k (i + 1) : Nat) : Int) := by
              have e2 := (List.getElem?_eq_some_iff.1 hk').2
              simp [ofN, e2]
            rw [hge] at hac
            obtain ⟨hsc, hsf⟩ := hT8.get hqt
            rw [seenL_get hqt] at hsc
            have hX1 := cntR_le hT8.sg.2 t (past L0 t k (i + 1)) 0 i
            have hX2 := List.count_le_length (a := past L0 t k (i + 1)) (l := (argsN L0 t i).take k)
            have hX3 : ((argsN L0 t i).take k).length ≤ 6 := by have := argsN_len hT8.sg.2 t i; simp; omega
            have hst := hT8.store (past L0 t k (i + 1)) ((cntR L0 t (past L0 t k (i + 1)) 0 i + ((argsN L0 t i).take k).count (past L0 t k (i + 1)) : Nat) + 1 : Int)
            rw [← seenL_next hk'] at hst
            have hbX : cntR L0 t (past L0 t k (i + 1)) 0 i + ((argsN L0 t i).take k).count (past L0 t k (i + 1)) ≤ 20000 := by omega
            have ep : Hid (past L0 t (k + 1) (i + 1) = endN L0 t (past L0 t k (i + 1))) := past_succ L0 t k (i + 1)
            obtain ⟨o1, o2, _⟩ := place_ok hz hqt
            clear hX1 hX2 hX3 hge hk' hfk hT8
            generalize past L0 t k (i + 1) = P at *
            generalize cntR L0 t P 0 i + ((argsN L0 t i).take k).count P = X at *
            have hai' : IntsAt (wr.setCell ⟨g, P, none⟩ (.int .i64 ((X : Int) + 1))) (some ⟨ab, aoff, none⟩) (ofN (argsN L0 t i)) := hai.kept (S := fun k => k = g) (Kept.setCell (S := fun k => k = g) (p := ⟨g, P, none⟩) (Kept.refl _ wr) (fun _ => rfl) _) (fun a e => hab' a e)
            have d9 := hst.cell
            have cE := tend_any (cap := tc) hst.sg' hst.ints hmT (P : Int)
            rw [o1, o2] at cE
            have m0 : (0 : Int) ≤ (k : Int) := by omega
            have m1 : (k : Int) < (A : Int) := by omega
            have m2 : ¬ (endN L0 t i : Int) ≤ (P : Int) := by omega
            have m2' : ¬ endN L0 t i ≤ P := by omega
            have m3 : (0 : Int) ≤ (P : Int) := by omega
            have m4 : (P : Int) < (t.length : Int) := by omega
            clear hai o1 o2
            go_wp2_with (first | (go_at_call 15; refine cE.mono ?_; rintro e w10 ⟨rfl, k10⟩))
            refine ⟨⟨k + 1, by omega, by go_num, by rw [ep.out], hai'.same k10, hst.same k10⟩, by simp [intOf]; omega⟩
          · obtain rfl : k = A := by omega
            have hpA' := hpA.out
            rw [hpA']
            have hT9 := hT8
            have hll : (argsN L0 t i).length = k := by rw [HA.out, starts_length]
            have hr0 := seenL_row (L := L0) (t := t) (N := t.length) (i := i)
            rw [hll] at hr0
            rw [hr0] at hT9
            clear hpA' hT8 hai hr0 hll
            go_wp2
            exact ⟨⟨i + 1, by omega, by go_num, hT9⟩, by simp [intOf]; omega⟩
      · obtain rfl : i = t.length := by omega
        have hfin : ∀ p, p < t.length → wr.cell? ⟨g, p, none⟩ = some (.int .i64 (if p = 0 then 0 else 1)) := fun p hp => by
          have := (hT.get hp).1
          rw [seenL_get hp, tiles_all h2 p hp] at this
          simp at this
          rw [this]
          split <;> rfl
        have hF : Hid (∀ p, p < t.length → wr.cell? ⟨g, p, none⟩ = some (.int .i64 (if p = 0 then 0 else 1))) := hfin
        have hpos := isT_pos h2
        clear hfin
        go_wp2
        go_loop [16] (fun pv => ∃ p : Nat, 1 ≤ p ∧ p ≤ t.length ∧ pv = .int .i64 (p : Int)) (fun pv => t.length - (intOf pv).toNat)
        case atStart => exact ⟨1, Nat.le_refl _, by omega, rfl⟩
        case round =>
          obtain ⟨p, hp1, hp2, rfl⟩ := hrel
          by_cases hpl : p < t.length
          · have hcell := hF.out p hpl
            rw [if_neg (by omega)] at hcell
            have m0 : (0 : Int) ≤ (p : Int) := by omega
            have m1 : (p : Int) < (t.length : Int) := by omega
            go_wp2
            exact ⟨⟨p + 1, by omega, by omega, by go_num⟩, by simp [intOf]; omega⟩
          · have hcell := hF.out 0 hpos
            rw [if_pos rfl] at hcell
            have m1 : (0 : Int) < (t.length : Int) := by omega
            go_wp2
            go_ret
            exact ⟨rfl, hT.fin⟩
  · have hz' : (checkE L0 t == 0) = false := by simpa using hz
    go_wp2_with (first | (go_at_call 9; refine cch.mono ?_; rintro e w2 ⟨rfl, rfl⟩))
    go_ret
    exact ⟨rfl, KW2.below⟩
end Go.Proofs.Ytgoifkbdiicmkab
