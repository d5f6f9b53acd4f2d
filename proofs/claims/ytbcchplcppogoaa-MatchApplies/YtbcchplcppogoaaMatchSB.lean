/- The walk of the document's comparison of two lists of binds, where they are the same. -/
import Derived.Test.YtbcchplcppogoaaMatchTable
namespace Go.Proofs.Ytbcchplcppogoaa
set_option maxRecDepth 100000
set_option linter.unusedVariables false
open Go.RowKit
attribute [local go_sem ↓] Go.wp_at_zero Go.wp_at_succ
set_option maxHeartbeats 4000000 in
theorem sameBinds_any {w : World} {ao bo : Option Addr} {acap bcap : Nat} {bs : List Bd} (ha : BindsAt w ao bs) (hb : BindsAt w bo bs) (hn : bs.length ≤ 1048576) (hB : ∀ x ∈ bs, x.2.length ≤ 1048576) :
    Calls Try.prog 15 #[.slice ao bs.length acap, .slice bo bs.length bcap] w fun e w' => e = .returned (.bool true) ∧ Same0 w w' := by
  have HB : Hid (∀ x ∈ bs, x.2.length ≤ 1048576) := hB
  clear hB
  go_enter Try.func15, Try.ntmps15
  go_wp2
  go_loopw [5] (fun iv' wr => ∃ i : Nat, i ≤ bs.length ∧ iv' = .int .i64 (i : Int) ∧ Same0 w wr) (fun iv' _ => bs.length - (intOf iv').toNat)
  case atStart => exact ⟨0, Nat.zero_le _, rfl, Kept.refl _ _⟩
  case round =>
    obtain ⟨i, hile, rfl, hs⟩ := hrel
    by_cases hlt : i < bs.length
    · obtain ⟨ab, aoff, xo, xc, rfl, hab, a0, a1, a2, _, _⟩ := (ha.same hs).get hlt
      obtain ⟨bb, boff, yo, yc, rfl, hbb, b0, b1, b2, _, _⟩ := (hb.same hs).get hlt
      have hti := HB.out bs[i] (List.getElem_mem hlt)
      have d1 : wr.drew.cell? ⟨ab, aoff + i * 2 + 1, none⟩ = some (.slice xo bs[i].2.length xc) := a1
      have d2 : wr.drew.cell? ⟨bb, boff + i * 2 + 1, none⟩ = some (.slice yo bs[i].2.length yc) := b1
      have kd : Same0 wr wr.drew := (Kept.refl _ _).drew
      have cS : Calls Try.prog 20 #[.slice xo bs[i].2.length xc, .slice yo bs[i].2.length yc] wr.drew fun e w' => e = .returned (.bool true) ∧ Same0 wr.drew w' ∧ w'.cell? ⟨ab, aoff + i * 2, none⟩ = some (.int .i64 bs[i].1) ∧ w'.cell? ⟨bb, boff + i * 2, none⟩ = some (.int .i64 bs[i].1) := by
        have := same_any (acap := xc) (bcap := yc) (a2.same kd) (b2.same kd) (by unfold maxLen; omega)
        refine this.mono ?_
        rintro e w' ⟨rfl, hk⟩
        exact ⟨by simp [sameB], hk, ((kd.trans' hk).cell (p := ⟨ab, aoff + i * 2, none⟩) hab (fun f => f)).trans a0, ((kd.trans' hk).cell (p := ⟨bb, boff + i * 2, none⟩) hbb (fun f => f)).trans b0⟩
      have i1 : (0 : Int) ≤ (i : Int) := by omega
      have i2 : (i : Int) < (bs.length : Int) := by omega
      have hk9 : Same0 w wr.drew := hs.drew
      clear a2 b2 a1 b1 a0 b0
      obtain ⟨x, hx⟩ : ∃ x, x = bs[i].1 := ⟨_, rfl⟩
      obtain ⟨u, hu⟩ : ∃ u, u = bs[i].2 := ⟨_, rfl⟩
      rw [← hx, ← hu] at cS
      rw [← hu] at d1 d2 hti
      clear hx hu
      go_wp2_with fail
      go_cut [6] from 18 to 28 (fun x6 w4 => x6 = .bool true ∧ Same0 w w4 ∧ w4.cell? ⟨ab, aoff + i * 2, none⟩ = some (.int .i64 x) ∧ w4.cell? ⟨bb, boff + i * 2, none⟩ = some (.int .i64 x))
      case first =>
        go_region_with (first | (go_at_call 20; refine cS.mono ?_; rintro e w4 ⟨rfl, k4, e1, e2⟩))
        all_goals
          go_wp2_with fail
          go_meet
          case rel => exact ⟨rfl, hk9.trans' k4, e1, e2⟩
      case rest =>
        obtain ⟨rfl, hk4, e1, e2⟩ := hcut
        have e1' : wc.drew.cell? ⟨ab, aoff + i * 2, none⟩ = some (.int .i64 x) := e1
        have e2' : wc.drew.cell? ⟨bb, boff + i * 2, none⟩ = some (.int .i64 x) := e2
        go_wp2
        go_quiet (fail)
        go_wp2
        refine ⟨⟨i + 1, by omega, by go_num, hk4.drewN _⟩, by simp [intOf]; omega⟩
    · go_wp2
      go_ret
      exact ⟨rfl, hs⟩
end Go.Proofs.Ytbcchplcppogoaa
