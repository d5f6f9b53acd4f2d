/- The walk of the document's From. -/
import Derived.Test.YtgoifkbdiicmkaaLentKept
namespace Go.Proofs.Ytgoifkbdiicmkaa
set_option linter.unusedVariables false
open Go.RowKit
attribute [local go_sem ↓] Go.wp_at_zero Go.wp_at_succ
def leadR (L : List Sym) (t path : List Int) : Int := match leads L t 0 path with | some q => (q : Int) | none => -1
theorem Row.get {base : Nat} {w : World} {v : Value} {xs : List Int} (h : Row base w v xs) {i : Nat} (hi : i < xs.length) : ∃ g cap, v = .slice (some ⟨g, 0, none⟩) xs.length cap ∧ g < w.heap.size ∧ w.cell? ⟨g, i, none⟩ = some (.int .i64 xs[i]) := by
  obtain ⟨g, cap, hv, _, hlt⟩ := h.form (by omega)
  subst hv
  exact ⟨g, cap, rfl, hlt, (h.cellAt i (by omega)).trans (iv_get hi)⟩
set_option maxHeartbeats 4000000 in
theorem rfrom_any {n : Nat} {w : World} {rv : Value} {L : List Sym} (h : Rl n w rv L) {ao po : Option Addr} {cap pcap : Nat} {t path : List Int} (ht : IntsAt w ao t) (hm : t.length ≤ 2000) (hT : IsT L t) (hp : IntsAt w po path) (hpm : path.length ≤ maxLen) :
    Calls Try.prog 30 #[rv, .slice ao t.length cap, .int .i64 0, .slice po path.length pcap] w fun e w' => e = .returned (.int .i64 (leadR L t path)) ∧ Same0 w w' := by
  unfold maxLen at hpm
  have c1 : ∀ w1 q, Same0 w w1 → q < t.length → Calls Try.prog 19 #[rv, .slice ao t.length cap, .int .i64 (q : Int)] w1 fun e w' => ∃ v, e = .returned v ∧ Row w1.heap.size w' v (ofN (argsN L t q)) ∧ Same0 w1 w' := fun w1 q hk hq => rargs_any (cap := cap) (h.same hk) (ht.same hk) hm hT q hq
  obtain ⟨ro, rcap, rfl⟩ := row_shape h.1
  go_enter Try.func30, Try.ntmps30
  go_wp2
  go_loopw [2, 9] (fun at' i wr => ∃ k q : Nat, k ≤ path.length ∧ i = .int .i64 (k : Int) ∧ at' = .int .i64 (q : Int) ∧ q < t.length ∧ Hid (leads L t 0 path = leads L t q (path.drop k)) ∧ Same0 w wr) (fun _ i _ => path.length - (intOf i).toNat)
  case atStart => exact ⟨0, 0, Nat.zero_le _, rfl, rfl, isT_pos hT, by simp [Hid], Kept.refl _ _⟩
  case round =>
    obtain ⟨k, q, hk, rfl, rfl, hq, HL, hs⟩ := hrel
    by_cases hlt : k < path.length
    · have cA := c1 _ _ hs hq
      obtain ⟨pb, poff, rfl, hpb, hpc⟩ := (hp.same hs).get hlt
      have i1 : (0 : Int) ≤ (k : Int) := by omega
      have i2 : (k : Int) < (path.length : Int) := by omega
      have hlen : (ofN (argsN L t q)).length = arN L t[q] := by rw [argsN_eq hq]; simp [ofN, starts_length]
      clear c1
      go_wp2_with fail
      refine cA.mono ?_
      rintro e w2 ⟨v, rfl, hr, hk2⟩
      have hpc2 : w2.cell? ⟨pb, poff + k, none⟩ = some (.int .i64 path[k]) := (hk2.cell (p := ⟨pb, poff + k, none⟩) hpb (fun f => f)).trans hpc
      have hs2 := hs.trans' hk2
      clear cA hpc
      by_cases hn0 : path[k] < 0
      · have H : Hid (leadR L t path = -1) := by
          have := leads_bad HL.out hlt hq (.inl hn0)
          simp [leadR, this, Hid]
        obtain ⟨vo, vcap, rfl⟩ := row_shape hr
        go_wp2
        go_ret
        exact ⟨ret_int H.out.symm, hs2⟩
      · by_cases hna : (arN L t[q] : Int) ≤ path[k]
        · have H : Hid (leadR L t path = -1) := by
            have := leads_bad HL.out hlt hq (.inr hna)
            simp [leadR, this, Hid]
          obtain ⟨vo, vcap, rfl⟩ := row_shape hr
          have hna' : ((ofN (argsN L t q)).length : Int) ≤ path[k] := by omega
          go_wp2
          go_ret
          exact ⟨ret_int H.out.symm, hs2⟩
        · obtain ⟨i, hi⟩ : ∃ i : Nat, path[k] = (i : Int) := ⟨path[k].toNat, by omega⟩
          have hia : i < arN L t[q] := by omega
          have HN : Hid (leads L t 0 path = leads L t (past L t i (q + 1)) (path.drop (k + 1))) := leads_good HL.out hlt hq hi hia
          have hpl := past_lt hT hq hia
          obtain ⟨g, vcap, rfl, hg, hgc⟩ := hr.get (i := i) (by omega)
          have hge : (ofN (argsN L t q))[i]'(by omega) = ((past L t i (q + 1) : Nat) : Int) := by
            have e1 := starts_at (L := L) (t := t) (p := q + 1) hia
            rw [← argsN_eq hq] at e1
            have e2 := (List.getElem?_eq_some_iff.1 e1).2
            simp [ofN, e2]
          rw [hge] at hgc
          rw [hi] at hpc2
          have j1 : (0 : Int) ≤ (i : Int) := by omega
          have j2 : (i : Int) < ((ofN (argsN L t q)).length : Int) := by omega
          have j3 : ¬ (ofN (argsN L t q)).length ≤ i := by omega
          have j4 : decide ((ofN (argsN L t q)).length ≤ i) = false := by simp; omega
          clear hge hn0 hna HL hi
          generalize (ofN (argsN L t q)).length = N at *
          generalize past L t i (q + 1) = P at *
          go_wp2
          exact ⟨⟨k + 1, P, by omega, by go_num, rfl, hpl, HN, hs2⟩, by simp [intOf]; omega⟩
    · have H : Hid (leadR L t path = (q : Int)) := by
        have := HL.out
        rw [List.drop_eq_nil_of_le (by omega)] at this
        simp [leadR, this, leads, Hid]
      clear c1
      go_wp2
      go_ret
      exact ⟨ret_int H.out.symm, hs⟩
end Go.Proofs.Ytgoifkbdiicmkaa
