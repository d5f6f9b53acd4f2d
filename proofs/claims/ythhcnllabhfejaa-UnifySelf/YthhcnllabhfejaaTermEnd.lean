/- The walks of end, Check, checkPlace of package term. -/
import Derived.Test.YthhcnllabhfejaaTermBase
namespace Go.Proofs.Ythhcnllabhfejaa
set_option maxRecDepth 100000
open Go.RowKit
attribute [local go_sem ↓] Go.wp_at_zero Go.wp_at_succ
def endI (L : List Sym) (t : List Int) (p : Nat) : Int := match endO L t p with | some e => (e : Int) | none => -1
theorem endO_round {L : List Sym} {t : List Int} {p0 p k : Nat} (h : endO L t p0 = (scan L (k + 1) (t.drop p)).map (p + ·)) (hp : p < t.length) : endO L t p0 = (scan L (k + arN L t[p]) (t.drop (p + 1))).map (p + 1 + ·) := by
  rw [h, List.drop_eq_getElem_cons hp, scan, Option.map_map]
  congr 1
  funext x
  simp; omega
theorem endO_stop {L : List Sym} {t : List Int} {p0 p : Nat} (h : endO L t p0 = (scan L 0 (t.drop p)).map (p + ·)) : endI L t p0 = (p : Int) := by
  simp [endI, h, scan_zero]
theorem endO_none {L : List Sym} {t : List Int} {p0 p k : Nat} (h : endO L t p0 = (scan L (k + 1) (t.drop p)).map (p + ·)) (hp : t.length ≤ p) : endI L t p0 = -1 := by
  rw [List.drop_eq_nil_of_le hp] at h
  simp [endI, h, scan]
set_option maxHeartbeats 2000000 in
theorem end_any {n b : Nat} {w : World} {L : List Sym} (h : Sg n w b L) {ao : Option Addr} {cap : Nat} {t : List Int} (ht : IntsAt w ao t) (hm : t.length ≤ 2000) (p0 : Nat) (hp0 : p0 ≤ t.length) :
    Calls Try.prog 61 #[.pointer (some ⟨b, 0, none⟩), .slice ao t.length cap, .int .i64 (p0 : Int)] w fun e w' => e = .returned (.int .i64 (endI L t p0)) ∧ Same0 w w' := by
  have ha := h.2
  go_enter Try.func61, Try.ntmps61
  go_wp2
  go_loopw [2, 7] (fun at' la wr => ∃ p k : Nat, p0 ≤ p ∧ p ≤ t.length ∧ at' = .int .i64 (p : Int) ∧ la = .int .i64 ((k + 1 : Nat) : Int) ∧ k ≤ 6 * (p - p0) ∧ endO L t p0 = (scan L (k + 1) (t.drop p)).map (p + ·) ∧ Same0 w wr) (fun at' _ _ => t.length - (intOf at').toNat)
  case atStart => exact ⟨p0, 0, Nat.le_refl _, hp0, rfl, rfl, by omega, rfl, Kept.refl _ _⟩
  case round =>
    obtain ⟨p, k, h1, h2, rfl, rfl, h3, h4, hk⟩ := hrel
    by_cases hlt : p < t.length
    · obtain ⟨tb, off, rfl, htb, hc⟩ := (ht.same hk).get hlt
      have c := arity_any (h.same hk) t[p]
      have hle := arN_le ha t[p]
      have h5 := endO_round h4 hlt
      have H5 : Hid (endO L t p0 = (scan L (k + arN L t[p]) (t.drop (p + 1))).map (p + 1 + ·)) := h5
      clear h5 h4
      have i1 : (0 : Int) ≤ (p : Int) := by omega
      have i2 : (p : Int) < (t.length : Int) := by omega
      generalize arN L t[p] = a at *
      by_cases hz : k + a = 0
      · have z1 : ((k : Int) + 1 + ((a : Int) - 1) == 0) = true := by simp; omega
        have H6 : Hid (endI L t p0 = (p : Int) + 1) := by
          have H5 := H5.out
          rw [hz] at H5
          have := endO_stop H5
          show _ = _
          rw [this]; simp
        go_wp2_with (first | (go_at_call 68; refine c.mono ?_; rintro e w' ⟨rfl, hk1⟩))
        go_ret
        exact ⟨ret_int H6.out.symm, hk.trans' hk1⟩
      · have z1 : ((k : Int) + 1 + ((a : Int) - 1) == 0) = false := by simp; omega
        go_wp2_with (first | (go_at_call 68; refine c.mono ?_; rintro e w' ⟨rfl, hk1⟩))
        refine ⟨⟨p + 1, k + a - 1, by omega, by omega, by go_num, by congr 1; omega, by omega, ?_, hk.trans' hk1⟩, by simp [intOf]; omega⟩
        rw [show k + a - 1 + 1 = k + a by omega]
        exact H5.out
    · have H6 : Hid (endI L t p0 = -1) := endO_none h4 (by omega)
      go_wp2
      go_ret
      exact ⟨ret_int H6.out.symm, hk⟩
theorem badE_step {L : List Sym} {t : List Int} {p : Nat} (hp : p < t.length) (h : badE L (t.take p) = 0) : (numE L t[p] ≠ 0 → badE L t = numE L t[p]) ∧ (numE L t[p] = 0 → badE L (t.take (p + 1)) = 0) := by
  have e : t = t.take p ++ (t[p] :: t.drop (p + 1)) := by rw [← List.drop_eq_getElem_cons hp, List.take_append_drop]
  constructor
  · intro hn
    have h2 := badE_append L (t.take p) (t[p] :: t.drop (p + 1)) h
    rw [← e] at h2
    rw [h2, badE]
    unfold numE at hn ⊢
    by_cases q1 : (L.length : Int) ≤ t[p]
    · rw [if_pos q1, if_pos q1]
    · rw [if_neg q1, if_neg q1]
      rw [if_neg q1] at hn
      by_cases q2 : t[p] < -99
      · rw [if_pos q2, if_pos q2]
      · rw [if_neg q2] at hn; exact absurd rfl hn
  · intro hn
    rw [List.take_add_one, badE_append _ _ _ h, List.getElem?_eq_getElem hp]
    simpa [badE, numE] using hn
theorem checkE_long {L : List Sym} {t : List Int} (h : 2000 < t.length) : checkE L t = 20 := by simp [checkE, h]
theorem checkE_bad {L : List Sym} {t : List Int} (h : ¬ 2000 < t.length) (hb : badE L t ≠ 0) : checkE L t = badE L t := by simp [checkE, h, hb]
theorem checkE_end {L : List Sym} {t : List Int} (h : ¬ 2000 < t.length) (hb : badE L t = 0) : checkE L t = if endI L t 0 = (t.length : Int) then 0 else 23 := by
  have e : endI L t 0 = (t.length : Int) ↔ need L 1 t = some 0 := by
    constructor
    · intro h
      unfold endI endO at h
      cases hs : scan L 1 t with
      | none => simp [hs] at h
      | some m =>
        simp [hs] at h
        obtain rfl : m = t.length := by omega
        have := (scan_need hs).2
        simpa using this
    · intro h
      have := need_scan (b := []) h
      rw [List.append_nil] at this
      simp [endI, endO, this]
  simp only [checkE, h, hb, if_false, ne_eq, not_true, e]
set_option maxHeartbeats 2000000 in
theorem check_any {n b : Nat} {w : World} {L : List Sym} (h : Sg n w b L) {ao : Option Addr} {cap : Nat} {t : List Int} (ht : IntsAt w ao t) (hm : t.length ≤ maxLen) :
    Calls Try.prog 42 #[.pointer (some ⟨b, 0, none⟩), .slice ao t.length cap] w fun e w' => e = .returned (.int .i64 (checkE L t)) ∧ Same0 w w' := by
  unfold maxLen at hm
  by_cases hl : 2000 < t.length
  · have H : Hid (checkE L t = 20) := checkE_long hl
    go_enter Try.func42, Try.ntmps42
    go_wp2
    go_ret
    exact ⟨ret_int H.out.symm, Kept.refl _ _⟩
  · have hl' : t.length ≤ 2000 := by omega
    go_enter Try.func42, Try.ntmps42
    go_wp2
    go_loop [15] (fun i => ∃ p : Nat, p ≤ t.length ∧ i = .int .i64 (p : Int) ∧ badE L (t.take p) = 0) (fun i => t.length - (intOf i).toNat)
    case atStart => exact ⟨0, Nat.zero_le _, rfl, by simp [badE]⟩
    case round =>
      obtain ⟨p, h1, rfl, h2⟩ := hrel
      by_cases hlt : p < t.length
      · obtain ⟨tb, off, rfl, htb, hc⟩ := ht.get hlt
        have i1 : (0 : Int) ≤ (p : Int) := by omega
        have i2 : (p : Int) < (t.length : Int) := by omega
        have c := checkNumber_any h t[p]
        obtain ⟨s1, s2⟩ := badE_step hlt h2
        by_cases hz : numE L t[p] = 0
        · have S2 : Hid (badE L (t.take (p + 1)) = 0) := s2 hz
          rw [hz] at c
          clear s1 s2 h2
          go_wp2_with (first | (go_at_call 60; refine c.mono ?_; rintro e w' ⟨rfl, rfl⟩))
          exact ⟨⟨p + 1, by omega, by go_num, S2.out⟩, by simp [intOf]; omega⟩
        · have hb := s1 hz
          have H : Hid (checkE L t = numE L t[p]) := by show _ = _; rw [checkE_bad hl (by rw [hb]; exact hz), hb]
          have hz' : (numE L t[p] == 0) = false := by simpa using hz
          clear s1 s2 h2 hb
          go_wp2_with (first | (go_at_call 60; refine c.mono ?_; rintro e w' ⟨rfl, rfl⟩))
          go_ret
          exact ⟨ret_int H.out.symm, Kept.refl _ _⟩
      · obtain rfl : p = t.length := by omega
        rw [List.take_length] at h2
        have c := end_any (cap := cap) h ht hl' 0 (Nat.zero_le _)
        have he := checkE_end hl h2
        by_cases hz : endI L t 0 = (t.length : Int)
        · have H : Hid (checkE L t = 0) := by show _ = _; rw [he, if_pos hz]
          rw [hz] at c
          clear he
          go_wp2_with (first | (go_at_call 61; refine c.mono ?_; rintro e w' ⟨rfl, hk1⟩))
          all_goals
            go_ret
            exact ⟨ret_int H.out.symm, hk1⟩
        · have H : Hid (checkE L t = 23) := by show _ = _; rw [he, if_neg hz]
          have hz' : (endI L t 0 == (t.length : Int)) = false := by simpa using hz
          clear he
          go_wp2_with (first | (go_at_call 61; refine c.mono ?_; rintro e w' ⟨rfl, hk1⟩))
          all_goals
            go_ret
            exact ⟨ret_int H.out.symm, hk1⟩
/-- Check of no signature. -/
theorem check_nil (ao : Option Addr) (len cap : Nat) (w : World) : Calls Try.prog 42 #[.pointer none, .slice ao len cap] w fun e w' => e = .returned (.int .i64 1) ∧ w' = w := by
  go_enter Try.func42, Try.ntmps42
  go_wp2
  go_ret
  exact ⟨rfl, rfl⟩
end Go.Proofs.Ythhcnllabhfejaa
