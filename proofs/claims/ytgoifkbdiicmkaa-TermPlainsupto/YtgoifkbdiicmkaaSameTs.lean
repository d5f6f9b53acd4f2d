/- The walk of SameTerms. -/
import Derived.Test.YtgoifkbdiicmkaaRefPlain
import Derived.Test.YtgoifkbdiicmkaaMade
namespace Go.Proofs.Ytgoifkbdiicmkaa
set_option linter.unusedVariables false
open Go.RowKit
attribute [local go_sem ↓] Go.wp_at_zero Go.wp_at_succ
/-- Lists that can be read. -/
def Told (w : World) (vo : Option Addr) (xss : List (List Int)) : Prop :=
  xss = [] ∨ ∃ b, vo = some ⟨b, 0, none⟩ ∧ b < w.heap.size ∧ ∀ i (h : i < xss.length), ∃ ao cap, w.cell? ⟨b, i, none⟩ = some (.slice ao xss[i].length cap) ∧ IntsAt w ao xss[i]
theorem Told.same {w w' : World} {vo : Option Addr} {xss : List (List Int)} (h : Told w vo xss) (hk : Same0 w w') : Told w' vo xss := by
  refine h.imp id ?_
  rintro ⟨b, rfl, hlt, hc⟩
  refine ⟨b, rfl, Nat.lt_of_lt_of_le hlt hk.size, fun i hi => ?_⟩
  obtain ⟨ao, cap, c1, c2⟩ := hc i hi
  exact ⟨ao, cap, (hk.cell (p := ⟨b, i, none⟩) hlt (fun f => f)).trans c1, c2.same hk⟩
theorem OutAt.told {base : Nat} {w : World} {ov : Value} {xss : List (List Int)} (h : OutAt base w ov xss) : ∃ vo vcap, ov = .slice vo xss.length vcap ∧ Told w vo xss := by
  obtain ⟨cs, h1, h2⟩ := h
  obtain ⟨vo, vcap, rfl⟩ := row_shape h1
  refine ⟨vo, vcap, rfl, ?_⟩
  by_cases h0 : xss.length = 0
  · exact .inl (List.eq_nil_of_length_eq_zero h0)
  · obtain ⟨g, cap, hv, _, hlt⟩ := h1.form (by omega)
    cases hv
    refine .inr ⟨g, rfl, hlt, fun i hi => ?_⟩
    obtain ⟨v, g1, g2, _⟩ := h2 i hi
    obtain ⟨ao, cap', hv, hi', _, _⟩ := g2.ints
    exact ⟨ao, cap', by rw [h1.cellAt i (by omega), g1, hv], hi'⟩
theorem PlAt.out {s : Nat} {w : World} {g n : Nat} {cs : List Value} {done : List (List Int)} (h : PlAt s w g n cs done) (hd : done.length = n) : OutAt s w (.slice (some ⟨g, 0, none⟩) n n) done := by
  subst hd
  refine ⟨cs, h.row, fun j hj => ?_⟩
  obtain ⟨v, g1, g2, g3⟩ := h.each j hj
  exact ⟨v, g1, g2, fun k e e' => g3 (by simp only [Value.ownBlock, Option.some.injEq] at e'; rw [e, e'])⟩
set_option maxHeartbeats 4000000 in
theorem sameTs_any {w : World} {ao bo : Option Addr} {acap bcap : Nat} {xss : List (List Int)} (ha : Told w ao xss) (hb : Told w bo xss) (hn : xss.length ≤ 1048576) (hB : ∀ t ∈ xss, t.length ≤ 1048576) :
    Calls Try.prog 33 #[.slice ao xss.length acap, .slice bo xss.length bcap] w fun e w' => e = .returned (.bool true) ∧ Same0 w w' := by
  have HB : Hid (∀ t ∈ xss, t.length ≤ 1048576) := hB
  clear hB
  go_enter Try.func33, Try.ntmps33
  go_wp2
  go_loopw [5] (fun iv' wr => ∃ i : Nat, i ≤ xss.length ∧ iv' = .int .i64 (i : Int) ∧ Same0 w wr) (fun iv' _ => xss.length - (intOf iv').toNat)
  case atStart => exact ⟨0, Nat.zero_le _, rfl, Kept.refl _ _⟩
  case round =>
    obtain ⟨i, hile, rfl, hs⟩ := hrel
    by_cases hlt : i < xss.length
    · have ne : xss ≠ [] := by intro e; rw [e] at hlt; simp at hlt
      obtain ⟨ab, rfl, hab, hac⟩ := (ha.same hs).resolve_left ne
      obtain ⟨bb, rfl, hbb, hbc⟩ := (hb.same hs).resolve_left ne
      obtain ⟨xo, xc, a1, a2⟩ := hac i hlt
      obtain ⟨yo, yc, b1, b2⟩ := hbc i hlt
      have hti := HB.out xss[i] (List.getElem_mem hlt)
      have d1 : wr.drew.cell? ⟨ab, i, none⟩ = some (.slice xo xss[i].length xc) := a1
      have d2 : wr.drew.cell? ⟨bb, i, none⟩ = some (.slice yo xss[i].length yc) := b1
      have kd : Same0 wr wr.drew := (Kept.refl _ _).drew
      have cS : Calls Try.prog 36 #[.slice xo xss[i].length xc, .slice yo xss[i].length yc] wr.drew fun e w' => e = .returned (.bool true) ∧ Same0 wr.drew w' := by
        have := same_any (acap := xc) (bcap := yc) (a2.same kd) (b2.same kd) (by unfold maxLen; omega)
        simpa [sameB] using this
      have i1 : (0 : Int) ≤ (i : Int) := by omega
      have i2 : (i : Int) < (xss.length : Int) := by omega
      have hk9 : Same0 w wr.drew := hs.drew
      clear hac hbc a2 b2
      generalize xss[i] = x at *
      go_wp2_with fail
      go_region_with (first | (go_at_call 36; refine cS.mono ?_; rintro e w4 ⟨rfl, k4⟩))
      all_goals
        go_wp2
        go_roundw
        case rel => first | exact ⟨i + 1, by omega, by go_num, hk9.trans' k4⟩ | ((repeat apply Exists.intro); exact ⟨⟨i + 1, by omega, by go_num, hk9.trans' k4⟩, rfl⟩)
        case measure => simp [intOf]; omega
    · go_wp2
      go_ret
      exact ⟨rfl, hs⟩
end Go.Proofs.Ytgoifkbdiicmkaa
