/- The walk of Match of package match. -/
import Derived.Test.YtbcchplcppogoaaMatchBinds
namespace Go.Proofs.Ytbcchplcppogoaa
set_option maxRecDepth 100000
set_option linter.unusedVariables false
open Go.RowKit
attribute [local go_sem ↓] Go.wp_at_zero Go.wp_at_succ
def matchE (L : List Sym) (p t : List Int) (a : Int) : Int := if checkE L p ≠ 0 then checkE L p else placeE L t a
def matchS (L : List Sym) (p t : List Int) (a : Int) : Option Tb := if matchE L p t a = 0 then mw L p (subN L t a.toNat) noT else none
def matchB (L : List Sym) (p t : List Int) (a : Int) : List Bd := match matchS L p t a with | some σ => blN σ 100 | none => []
theorem match_bad {L : List Sym} {p t : List Int} {a : Int} (h : matchE L p t a ≠ 0) : matchS L p t a = none ∧ matchB L p t a = [] := by
  have h1 : matchS L p t a = none := by rw [matchS, if_neg h]
  exact ⟨h1, by rw [matchB, h1]⟩
set_option maxHeartbeats 4000000 in
theorem match_any {n b : Nat} {w : World} {L : List Sym} (h : Sg n w b L) (hn : n ≤ w.heap.size) {po ao : Option Addr} {pcap cap : Nat} {p t : List Int} (hp : IntsAt w po p) (hpm : p.length ≤ maxLen) (ht : IntsAt w ao t) (hm : t.length ≤ maxLen) (hcap : t.length ≤ cap) (a : Int) :
    Calls Try.prog 14 #[.pointer (some ⟨b, 0, none⟩), .slice po p.length pcap, .slice ao t.length cap, .int .i64 a] w fun e w' => ∃ v l, e = .returned (.tuple #[v, .bool (matchS L p t a).isSome, .int .i64 (matchE L p t a)]) ∧ BOwn w.heap.size w' v l (matchB L p t a) ∧ Same0 w w' := by
  have cp := check_any (cap := pcap) h hp hpm
  by_cases hz : checkE L p = 0
  · have cs1 : Hid (∀ w1, Same0 w w1 → Calls Try.prog 32 #[.pointer (some ⟨b, 0, none⟩), .slice ao t.length cap, .int .i64 a] w1 fun e w' => ∃ v, e = .returned (.tuple #[v, .int .i64 (placeE L t a)]) ∧ Row w1.heap.size w' v (subA L t a) ∧ Same0 w1 w') := fun w1 hk => sub_any (cap := cap) (h.same hk) (ht.same hk) hm hcap a
    have HE : matchE L p t a = placeE L t a := by simp [matchE, hz]
    rw [hz] at cp
    by_cases hq : placeE L t a = 0
    · obtain ⟨q, rfl, hql, h0, h1, h2⟩ := place_zero hq
      obtain ⟨p1, p2, p3⟩ := checkE_zero.1 hz
      have pv : ∀ x ∈ p, -99 ≤ x := fun x hx => ((badE_zero.1 p2) x hx).2
      have HS : matchS L p t q = mw L p (subN L t q) noT := by rw [matchS, HE, if_pos hq]; rfl
      have HA : subA L t q = subN L t q := by rw [subA, if_pos hq]; rfl
      have hsl := sub_length h2 hql
      have hle := endN_le h2 hql
      have hst := sub_need h2 hql
      have c2 : Hid (∀ w1, Same0 w w1 → Calls Try.prog 32 #[.pointer (some ⟨b, 0, none⟩), .slice ao t.length cap, .int .i64 (q : Int)] w1 fun e w' => ∃ uo uc, e = .returned (.tuple #[.slice uo (subN L t q).length uc, .int .i64 0]) ∧ Same0 w w' ∧ Calls Try.prog 33 #[.pointer (some ⟨b, 0, none⟩), .slice po p.length pcap, .slice uo (subN L t q).length uc] w' fun e w'' => ∃ cs f, e = .returned (.tuple #[.agg cs, .bool f]) ∧ cs.size = 100 ∧ Same0 w w'' ∧ f = (matchS L p t q).isSome ∧ cs.all (·.oneCell') = true ∧ ∀ σ, matchS L p t q = some σ → TabV w''.heap.size w'' cs σ ∧ Bnd σ) := fun w1 hk => by
        refine (cs1.out w1 hk).mono ?_
        rintro e w2 ⟨v, rfl, hr, hk2⟩
        rw [HA] at hr
        obtain ⟨uo, uc, rfl, u1, u2, u3⟩ := hr.ints
        have K2 := hk.trans' hk2
        have hn2 : n ≤ w2.heap.size := Nat.le_trans hn K2.size
        refine ⟨uo, uc, by rw [hq], K2, ?_⟩
        have sg2 : Sg w2.heap.size w2 b L := by
          obtain ⟨⟨sv, mr, x1, x2⟩, x3⟩ := h.same K2
          exact ⟨⟨sv, mr, x1, fun k e => by have := x2 k e; omega⟩, x3⟩
        refine (walk_any (pcap := pcap) sg2 (hp.same K2) u1 p1 (by omega) u2 pv (even_term p3 hst) (isT_pos hst)).mono ?_
        rintro e w3 ⟨cs, f, rfl, hk3, y1, y2⟩
        have z3 := hk3.size
        have K3 := K2.trans' hk3
        rw [HS]
        cases hm : mw L p (subN L t q) noT with
        | none =>
          obtain ⟨rfl, ty⟩ := y2 hm
          exact ⟨cs, false, rfl, ty.1, K3, rfl, ty.one, fun σ e => by cases e⟩
        | some σ =>
          obtain ⟨rfl, ty, tb⟩ := y1 σ hm
          refine ⟨cs, true, rfl, ty.1, K3, rfl, ty.one, fun σ' e => ?_⟩
          cases e
          refine ⟨⟨ty.1, fun v hv => ?_⟩, tb⟩
          obtain ⟨xo, xc, g1, g2, g3, g4, g5⟩ := ty.2 v hv
          exact ⟨xo, xc, g1, g2, g3, g4, fun a e => by have := g5 a e; omega⟩
      have HE' : Hid (matchE L p t q = 0) := by show _ = _; rw [HE]; exact hq
      obtain ⟨Z, hZ⟩ : ∃ Z : Array Value, Z = Array.replicate 100 (.slice none 0 0) := ⟨_, rfl⟩
      have hzz : Try.zeroCells68 = Z := zeros_table.trans hZ.symm
      have hZs : Z.size = 100 := by rw [hZ]; simp
      have HST : Hid (∀ (w' : World) (cs : Array Value), cs.size = 100 → cs.all (·.oneCell') = true → (storeCells ⟨w'.heap.size, 0, none⟩ cs.toList 0).run Try.prog (w'.alloc (.cells Z 68)) = .ok () (w'.alloc (.cells cs 68))) := fun w' cs h1 h2 => run_storeCells_new w' _ Z cs (by rw [h1]; exact info_table) (by omega) h2
      clear hZ cs1 hq HE HS HA hsl hle hst h2 h1 h0 hz p1 p2 p3 pv
      cases hS : matchS L p t q with
      | none =>
        have HB : Hid (matchB L p t q = []) := by show _ = _; rw [matchB, hS]
        rw [hS] at c2
        go_enter Try.func14, Try.ntmps14
        go_wp2_with (first | (go_at_call 31; refine cp.mono ?_; rintro e w1 ⟨rfl, hk1⟩) | (go_at_call 32; refine (c2.out _ hk1).mono ?_; rintro e w2 ⟨uo, uc, rfl, hk2, cw⟩) | (go_at_call 33; refine cw.mono ?_; rintro e w3 ⟨cs, f, rfl, hcs, hk3, rfl, hone, _⟩; have hst := HST.out w3 cs hcs hone))
        go_ret3
        refine ⟨.slice none 0 0, [], by rw [HE'.out]; rfl, ?_, hk3.alloc _⟩
        rw [HB.out]; exact BOwn.nil _ _
      | some σ =>
        have HB : Hid (matchB L p t q = blN σ 100) := by show _ = _; rw [matchB, hS]
        rw [hS] at c2
        have cB : Hid (∀ (w3 : World) (cs : Array Value), Same0 w w3 → TabV w3.heap.size w3 cs σ → Bnd σ → Calls Try.prog 34 #[.pointer (some ⟨w3.heap.size, 0, none⟩)] (w3.alloc (.cells cs 68)) fun e w' => ∃ v l, e = .returned v ∧ BOwn w.heap.size w' v l (blN σ 100) ∧ Same0 w w') := fun w3 cs hk3 ht3 hb3 => by
          have k4 : Same0 w3 (w3.alloc (.cells cs 68)) := (Kept.refl _ w3).alloc _
          refine (binds_any (N := w3.heap.size) (A := w3.heap.size) (w := w3.alloc (.cells cs 68)) ⟨cs, heap_alloc_new w3 _, ht3.same k4⟩ hb3).mono ?_
          rintro e w5 ⟨v, l, rfl, hB, hk5⟩
          have K5 := (hk3.trans' k4)
          have z5 := K5.size
          exact ⟨v, l, rfl, ⟨row_mono hB.row z5, hB.len, fun i x y => ⟨(hB.each i x y).1, row_mono (hB.each i x y).2.1 z5, (hB.each i x y).2.2⟩, hB.apart⟩, K5.trans' hk5⟩
        go_enter Try.func14, Try.ntmps14
        go_wp2_with (first | (go_at_call 31; refine cp.mono ?_; rintro e w1 ⟨rfl, hk1⟩) | (go_at_call 32; refine (c2.out _ hk1).mono ?_; rintro e w2 ⟨uo, uc, rfl, hk2, cw⟩) | (go_at_call 33; refine cw.mono ?_; rintro e w3 ⟨cs, f, rfl, hcs, hk3, rfl, hone, htt⟩; have hst := HST.out w3 cs hcs hone; have cbb := cB.out w3 cs hk3 (htt σ rfl).1 (htt σ rfl).2; clear htt) | (go_at_call 34; refine cbb.mono ?_; rintro e w5 ⟨v, l, rfl, hB, hk5⟩))
        go_ret3
        refine ⟨v, l, by rw [HE'.out]; rfl, ?_, hk5⟩
        rw [HB.out]; exact hB
    · have hq' : (placeE L t a == 0) = false := by simpa using hq
      have HE' : Hid (matchE L p t a = placeE L t a ∧ matchS L p t a = none ∧ matchB L p t a = []) := ⟨HE, match_bad (by rw [HE]; exact hq)⟩
      clear HE hz
      go_enter Try.func14, Try.ntmps14
      go_wp2_with (first | (go_at_call 31; refine cp.mono ?_; rintro e w1 ⟨rfl, hk1⟩) | (go_at_call 32; refine (cs1.out _ hk1).mono ?_; rintro e w2 ⟨v, rfl, hr, hk2⟩))
      go_ret3
      refine ⟨.slice none 0 0, [], by rw [HE'.out.1, HE'.out.2.1]; rfl, ?_, hk1.trans' hk2⟩
      rw [HE'.out.2.2]; exact BOwn.nil _ _
  · have hz' : (checkE L p == 0) = false := by simpa using hz
    have HE' : Hid (matchE L p t a = checkE L p ∧ matchS L p t a = none ∧ matchB L p t a = []) := by
      have e : matchE L p t a = checkE L p := by simp [matchE, hz]
      exact ⟨e, match_bad (by rw [e]; exact hz)⟩
    go_enter Try.func14, Try.ntmps14
    go_wp2_with (first | (go_at_call 31; refine cp.mono ?_; rintro e w1 ⟨rfl, hk1⟩))
    go_ret3
    refine ⟨.slice none 0 0, [], by rw [HE'.out.1, HE'.out.2.1]; rfl, ?_, hk1⟩
    rw [HE'.out.2.2]; exact BOwn.nil _ _
end Go.Proofs.Ytbcchplcppogoaa
