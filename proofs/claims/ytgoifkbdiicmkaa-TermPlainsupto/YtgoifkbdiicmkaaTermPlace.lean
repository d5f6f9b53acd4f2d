/- The walk of Place of package term. -/
import Derived.Test.YtgoifkbdiicmkaaTermJoin
namespace Go.Proofs.Ytgoifkbdiicmkaa
set_option linter.unusedVariables false
open Go.RowKit
attribute [local go_sem ↓] Go.wp_at_zero Go.wp_at_succ
def leadE (L : List Sym) (t : List Int) (path : List Int) : Int := if checkE L t ≠ 0 then checkE L t else match leads L t 0 path with | some _ => 0 | none => 25
def leadA (L : List Sym) (t : List Int) (path : List Int) : Int := if checkE L t ≠ 0 then 0 else match leads L t 0 path with | some q => (q : Int) | none => 0
theorem leads_bad {L : List Sym} {t path : List Int} {q k : Nat} (h : leads L t 0 path = leads L t q (path.drop k)) (hk : k < path.length) (hq : q < t.length) (hn : path[k] < 0 ∨ (arN L t[q] : Int) ≤ path[k]) : leads L t 0 path = none := by
  rw [h, List.drop_eq_getElem_cons hk, leads]
  split
  · rfl
  · rw [argsN_eq hq, List.getElem?_eq_none (by rw [starts_length]; omega)]
theorem leads_good {L : List Sym} {t path : List Int} {q k i : Nat} (h : leads L t 0 path = leads L t q (path.drop k)) (hk : k < path.length) (hq : q < t.length) (hi : path[k] = (i : Int)) (hn : i < arN L t[q]) : leads L t 0 path = leads L t (past L t i (q + 1)) (path.drop (k + 1)) := by
  rw [h, List.drop_eq_getElem_cons hk, leads, hi, if_neg (by omega), argsN_eq hq]
  simp only [Int.toNat_natCast]
  rw [starts_at hn]
theorem past_lt {L : List Sym} {t : List Int} (h : IsT L t) {q i : Nat} (hq : q < t.length) (hi : i < arN L t[q]) : past L t i (q + 1) < t.length := by
  have hf := (Forest.one h hq).kids.2
  have hd := hf.drop (i := i) (by omega)
  rw [show arN L t[q] - i = (arN L t[q] - i - 1) + 1 by omega] at hd
  have := hd.pos
  have := hd.le
  omega
set_option maxRecDepth 4000 in
set_option maxHeartbeats 4000000 in
theorem place_any {n b : Nat} {w : World} {L : List Sym} (h : Sg n w b L) {ao po : Option Addr} {cap pcap : Nat} {t path : List Int} (ht : IntsAt w ao t) (hm : t.length ≤ maxLen) (hp : IntsAt w po path) (hpm : path.length ≤ maxLen) :
    Calls Try.prog 29 #[.pointer (some ⟨b, 0, none⟩), .slice ao t.length cap, .slice po path.length pcap] w fun e w' => e = .returned (.tuple #[.int .i64 (leadA L t path), .int .i64 (leadE L t path)]) ∧ Same0 w w' := by
  have c := check_any (cap := cap) h ht hm
  unfold maxLen at hpm
  by_cases hz : checkE L t = 0
  · obtain ⟨h1, _, h2⟩ := checkE_zero.1 hz
    have c1 : ∀ w1 x, Same0 w w1 → Calls Try.prog 43 #[.pointer (some ⟨b, 0, none⟩), .int .i64 x] w1 fun e w' => e = .returned (.int .i64 ((arN L x : Nat) : Int)) ∧ Same0 w1 w' := fun w1 x hk => arity_any (h.same hk) x
    have c2 : ∀ w1 q, Same0 w w1 → q < t.length → Calls Try.prog 41 #[.pointer (some ⟨b, 0, none⟩), .slice ao t.length cap, .int .i64 (q : Int)] w1 fun e w' => e = .returned (.int .i64 (endN L t q : Int)) ∧ Same0 w1 w' := fun w1 q hk hq => by
      have := end_any (cap := cap) (h.same hk) (ht.same hk) h1 q (by omega)
      rwa [endI_of h2 hq] at this
    have har := fun x => arN_le h.2 x
    have HAR : Hid (∀ x, arN L x ≤ 6) := har
    clear har
    rw [hz] at c
    go_enter Try.func29, Try.ntmps29
    go_wp2_with (first | (go_at_call 12; refine c.mono ?_; rintro e w1 ⟨rfl, hk1⟩))
    go_loopw [9, 20] (fun at' i wr => ∃ k q : Nat, k ≤ path.length ∧ i = .int .i64 (k : Int) ∧ at' = .int .i64 (q : Int) ∧ q < t.length ∧ leads L t 0 path = leads L t q (path.drop k) ∧ Same0 w wr) (fun _ i _ => path.length - (intOf i).toNat)
    case atStart => exact ⟨0, 0, Nat.zero_le _, rfl, rfl, isT_pos h2, by simp, hk1⟩
    case round =>
      obtain ⟨k, q, hk, rfl, rfl, hq, hl, hs⟩ := hrel
      have HL : Hid (leads L t 0 path = leads L t q (path.drop k)) := hl
      clear hl
      by_cases hlt : k < path.length
      · obtain ⟨pb, poff, rfl, hpb, hpc⟩ := (hp.same hs).get hlt
        obtain ⟨tb, off, rfl, htb, hc⟩ := (ht.same hs).get hq
        have i1 : (0 : Int) ≤ (k : Int) := by omega
        have i2 : (k : Int) < (path.length : Int) := by omega
        have i3 : (0 : Int) ≤ (q : Int) := by omega
        have i4 : (q : Int) < (t.length : Int) := by omega
        have ca := c1 wr t[q] hs
        have hae := HAR.out t[q]
        by_cases hn0 : path[k] < 0
        · have H : Hid (leadA L t path = 0 ∧ leadE L t path = 25) := by
            have := leads_bad HL.out hlt hq (.inl hn0)
            constructor
            · simp [leadA, hz, this]
            · simp [leadE, hz, this]
          clear c c1 c2
          go_wp2
          go_ret2
          exact ⟨by rw [H.out.1, H.out.2]; rfl, hs⟩
        · by_cases hna : (arN L t[q] : Int) ≤ path[k]
          · have H : Hid (leadA L t path = 0 ∧ leadE L t path = 25) := by
              have := leads_bad HL.out hlt hq (.inr hna)
              constructor
              · simp [leadA, hz, this]
              · simp [leadE, hz, this]
            clear c c1 c2
            go_wp2_with (first | (go_at_call 43; refine ca.mono ?_; rintro e w2 ⟨rfl, hk2⟩))
            go_ret2
            exact ⟨by rw [H.out.1, H.out.2]; rfl, hs.trans' hk2⟩
          · obtain ⟨i, hi⟩ : ∃ i : Nat, path[k] = (i : Int) := ⟨path[k].toNat, by omega⟩
            have hia : i < arN L t[q] := by omega
            have HN : Hid (leads L t 0 path = leads L t (past L t i (q + 1)) (path.drop (k + 1))) := leads_good HL.out hlt hq hi hia
            have hpl := past_lt h2 hq hia
            have hpls : Hid (∀ j, j < i → past L t j (q + 1) < t.length) := fun j hj => past_lt h2 hq (by omega)
            rw [hi] at hpc hn0 hna
            have hna' : ¬ arN L t[q] ≤ i := by omega
            have hna'' : decide (arN L t[q] ≤ i) = false := by simp; omega
            clear c c1
            obtain ⟨wo, rfl⟩ : ∃ wo : World, wo = wr := ⟨_, rfl⟩
            go_wp2_with (first | (go_at_call 43; refine ca.mono ?_; rintro e w2 ⟨rfl, hk2⟩))
            go_loopw [9, 39] (fun at' c wr => ∃ j : Nat, j ≤ i ∧ c = .int .i64 (j : Int) ∧ at' = .int .i64 (past L t j (q + 1) : Int) ∧ Same0 w wr) (fun _ c _ => i - (intOf c).toNat)
            case atStart => exact ⟨0, Nat.zero_le _, rfl, by simp [past], hs.trans' hk2⟩
            case round =>
              obtain ⟨j, hj, rfl, rfl, hs3⟩ := hrel
              by_cases hji : j < i
              · have j1 : (0 : Int) ≤ (j : Int) := by omega
                have j2 : (j : Int) < (i : Int) := by omega
                have e1 : Hid (past L t (j + 1) (q + 1) = endN L t (past L t j (q + 1))) := past_succ L t j (q + 1)
                have c3 := c2 _ _ hs3 (hpls.out j hji)
                clear c2 ca
                go_wp2_with (first | (go_at_call 41; refine c3.mono ?_; rintro e w5 ⟨rfl, hk5⟩))
                refine ⟨⟨j + 1, by omega, by go_num, ?_, hs3.trans' hk5⟩, by simp [intOf]; omega⟩
                rw [e1.out]
              · obtain rfl : j = i := by omega
                clear c2 ca
                go_wp2
                refine ⟨⟨k + 1, past L t j (q + 1), by omega, by go_num, rfl, hpl, HN.out, hs3⟩, by simp [intOf]; omega⟩
      · have H : Hid (leadA L t path = (q : Int) ∧ leadE L t path = 0) := by
          have := HL.out
          rw [List.drop_eq_nil_of_le (by omega)] at this
          constructor
          · simp [leadA, hz, this, leads]
          · simp [leadE, hz, this, leads]
        clear c c1 c2
        go_wp2
        go_ret2
        exact ⟨by rw [H.out.1, H.out.2]; rfl, hs⟩
  · have H : Hid (leadA L t path = 0 ∧ leadE L t path = checkE L t) := by
      constructor
      · simp [leadA, hz]
      · simp [leadE, hz]
    have hz' : (checkE L t == 0) = false := by simpa using hz
    go_enter Try.func29, Try.ntmps29
    go_wp2_with (first | (go_at_call 12; refine c.mono ?_; rintro e w1 ⟨rfl, hk1⟩))
    go_ret2
    exact ⟨by rw [H.out.1, H.out.2]; rfl, hk1⟩
end Go.Proofs.Ytgoifkbdiicmkaa
