/- The walk of LexPlaces: each token's text stands at its place, and nothing is said between; tokens with blanks between are cut the same. -/
import Derived.Test.YtecbfnaeglkbaaaStands
import Derived.Test.YtecbfnaeglkbaaaJoins1
namespace Go.Proofs.Ytecbfnaeglkbaaa
open Go.RowKit
set_option linter.unusedVariables false
/-- What holds at the head of a round: k tokens have been looked at, up to place p. -/
structure Seen (L : List UInt8) (l : List Tok) (k p : Nat) : Prop where
  le : k ≤ l.length
  place : p ≤ L.length
  more : k < l.length → Stand p (L.drop p) (l.drop k)
  fin : k = l.length → p = L.length ∧ ∀ h : 0 < l.length, (l[l.length - 1]).kind = 13
  few : (apartL (l.take k)).length ≤ p + k
theorem Seen.start {L : List UInt8} {l : List Tok} (h : Stand 0 L l) : Seen L l 0 0 := by
  have hne := h.ne
  have hp : 0 < l.length := by cases l with | nil => exact absurd rfl hne | cons x r => simp
  exact ⟨Nat.zero_le _, Nat.zero_le _, fun _ => by simpa using h, fun e => by omega, by simp [apartL]⟩
theorem Seen.head {L : List UInt8} {l : List Tok} {k p : Nat} (h : Seen L l k p) (hk : k < l.length) : Next L p l[k] (l.drop (k + 1)) := by
  have := h.more hk
  rw [List.drop_eq_getElem_cons hk] at this
  exact stand_next h.place this
theorem Seen.next {L : List UInt8} {l : List Tok} {k p : Nat} (h : Seen L l k p) (hk : k < l.length) : Seen L l (k + 1) (l[k].at' + l[k].text.length) := by
  have hn := h.head hk
  refine ⟨hk, hn.upto, fun h2 => hn.more (by simp; omega), fun e => ?_, ?_⟩
  · have hr : l.drop (k + 1) = [] := by rw [e]; simp
    obtain ⟨h1, h2⟩ := hn.fin hr
    have ht := hn.last.2 hr
    refine ⟨by rw [h1, ht]; simp, fun h0 => ?_⟩
    have e2 : l.length - 1 = k := by omega
    simp only [e2]; exact h2
  · rw [apartL_snoc hk]
    have := h.few
    have := hn.from'
    simp only [List.length_append, List.length_cons, List.length_nil]
    omega
theorem txt_empty : txt [] = ⟨#[]⟩ := rfl
theorem txt_app (a b : List UInt8) : txt a ++ txt b ++ ⟨#[32]⟩ = txt (a ++ b ++ [32]) := by
  apply txt_of
  simp [txt_list]
theorem toList_txt (a : List UInt8) : (txt a).toList = a := by rw [ByteArray.toList_eq, txt_list]
/-- What a round asks of a token. -/
theorem round_facts {s : ByteArray} {l : List Tok} {k p : Nat} (hL : s.size = s.data.toList.length) (h : Seen s.data.toList l k p) (hk : k < l.length) :
    p ≤ l[k].at' ∧ l[k].at' + (txt l[k].text).size ≤ s.size ∧ s.extract l[k].at' (l[k].at' + (txt l[k].text).size) = txt l[k].text ∧ silentF false (s.extract p l[k].at').data.toList = true ∧
      ((((txt l[k].text).toList == []) = true ∧ ((k : Int) == (l.length : Int) - 1) = true) ∨ (((txt l[k].text).toList == []) = false ∧ ((k : Int) == (l.length : Int) - 1) = false)) := by
  have hn := h.head hk
  have hu := hn.upto
  have hf := hn.from'
  refine ⟨hf, by rw [txt_size, hL]; exact hu, ?_, ?_, ?_⟩
  · apply txt_of
    rw [txt_size]
    have := hn.text
    simp
    exact this
  · have := hn.quiet
    simp
    exact this
  · rw [toList_txt]
    by_cases hr : l.drop (k + 1) = []
    · have ht := hn.last.2 hr
      have hk1 : l.length ≤ k + 1 := by have := congrArg List.length hr; simp at this; omega
      exact .inl ⟨by rw [ht]; rfl, by rw [beq_iff_eq]; omega⟩
    · have ht : l[k].text ≠ [] := fun e => hr (hn.last.1 e)
      have hk1 : k + 1 < l.length := by
        by_cases h2 : k + 1 < l.length
        · exact h2
        · exact absurd (by rw [List.drop_eq_nil_iff]; omega) hr
      exact .inr ⟨by rw [beq_eq_false_iff_ne]; exact ht, by rw [beq_eq_false_iff_ne]; omega⟩
set_option maxRecDepth 100000 in
set_option maxHeartbeats 1000000 in
theorem places_no (s : ByteArray) (hs : s.size ≤ maxLen) (w : World) {c p : Nat} (hR : scanL s.data.toList = .error (c, p)) : Calls Try.prog 6 #[.string s] w fun e w' => e = .returned (.bool true) ∧ Below w.heap.size w w' := by
  have hfne := fun W v => fault_nil_ne W v
  go_enter Try.func6, Try.ntmps6
  go_upto_region 3 with (first | (go_at_call 7; refine (awake_any _).mono ?_; rintro e w1 ⟨rfl, k1⟩) | (go_at_call 9; refine (scan_any _ _ hs).mono ?_; rintro e w2 ⟨v, er, rfl, t2, k2⟩))
  rw [hR] at t2
  obtain ⟨rfl, b1, rfl, _, _⟩ := t2
  go_wp2
  go_ret
  exact ⟨rfl, (k1.trans' k2).below⟩
set_option maxRecDepth 100000 in
set_option maxHeartbeats 2000000 in
theorem places_yes (s : ByteArray) (hs0 : s.size ≤ 20000) (w : World) {l : List Tok} (hR : scanL s.data.toList = .ok l) : Calls Try.prog 6 #[.string s] w fun e w' => e = .returned (.bool true) ∧ Below w.heap.size w w' := by
  have hs : s.size ≤ maxLen := by unfold maxLen; omega
  have hL := size_list s
  have hSt : Stand 0 s.data.toList l := by
    have : lexF 0 s.data.toList = .ok l := by rw [← scan_le hs0]; exact hR
    exact lexF_stand _ _ _ _ (Nat.le_refl _) this
  have hll := scanL_len hR
  have HS0 : Hid (Seen s.data.toList l 0 0) := Seen.start hSt
  have hlp : 0 < l.length := by have := hSt.ne; cases l with | nil => exact absurd rfl this | cons x r => simp
  have HLs : Hid (s.size = s.data.toList.length) := hL
  have hnne := fun W => nil_nil_ne W
  clear hSt hL
  go_enter Try.func6, Try.ntmps6
  go_upto_region 3 with (first | (go_at_call 7; refine (awake_any _).mono ?_; rintro e w1 ⟨rfl, k1⟩) | (go_at_call 9; refine (scan_any _ _ hs).mono ?_; rintro e w2 ⟨v, er, rfl, t2, k2⟩))
  have HR : Hid (scanL s.data.toList = .ok l) := hR
  rw [hR] at t2
  obtain ⟨hrow, rfl⟩ := t2
  have K2 : Same0 w w2 := k1.trans' k2
  obtain ⟨ao, cap, rfl⟩ := row_shape hrow
  have HW : Hid (TRow w1.heap.size w2 (.slice ao l.length cap) l) := hrow
  clear hR k1 k2 hrow
  go_wp2
  clear hnne
  go_loopw [6, 7, 8] (fun at' ap i wr => ∃ k p : Nat, at' = .int .i64 (p : Int) ∧ ap = .string (txt (apartL (l.take k))) ∧ i = .int .i64 (k : Int) ∧ Hid (Seen s.data.toList l k p) ∧ Same0 w2 wr) (fun _ _ i _ => l.length - (intOf i).toNat)
  case atStart => exact ⟨0, 0, rfl, rfl, rfl, HS0, Kept.refl _ _⟩
  case round =>
    obtain ⟨k, p, rfl, rfl, rfl, hS, hsm⟩ := hrel
    have hkl := hS.out.le
    have hpl := hS.out.place
    by_cases hlt : k < l.length
    · obtain ⟨g, rfl, _, _, x0, x1, x2⟩ := (HW.out.same hsm).get (i := k) hlt
      have i1 : (0 : Int) ≤ (k : Int) := by omega
      have i2 : (k : Int) < (l.length : Int) := by omega
      have hF := round_facts HLs.out hS.out hlt
      have HNx : Hid (Seen s.data.toList l (k + 1) (l[k].at' + l[k].text.length)) := hS.out.next hlt
      have HAp : Hid (txt (apartL (l.take (k + 1))) = txt (apartL (l.take k)) ++ txt l[k].text ++ ⟨#[32]⟩) := by
        show _ = _
        rw [apartL_snoc hlt, txt_app]
      have hfew := hS.out.few
      have hap : (txt (apartL (l.take k))).size ≤ 40001 := by rw [txt_size]; omega
      have HTs : Hid ((txt l[k].text).size = l[k].text.length) := txt_size _
      obtain ⟨AP, hAP⟩ : ∃ AP, txt (apartL (l.take k)) = AP := ⟨_, rfl⟩
      obtain ⟨T, hT⟩ : ∃ T, txt l[k].text = T := ⟨_, rfl⟩
      obtain ⟨A, hA⟩ : ∃ A, l[k].at' = A := ⟨_, rfl⟩
      obtain ⟨D, hD⟩ : ∃ D, l[k].kind = D := ⟨_, rfl⟩
      rw [hAP] at HAp hap
      rw [hAP]
      rw [hT] at HTs hF x2 HAp
      rw [hA] at hF x1 HNx
      rw [hD] at x0
      clear hAP hT hA hD hfew
      obtain ⟨f1, f2, f3, f4, f5⟩ := hF
      have j1 : (0 : Int) ≤ (A : Int) := by omega
      have j2 : (p : Int) ≤ (A : Int) := by omega
      have j3 : (A : Int) + (T.size : Int) ≤ (s.size : Int) := by omega
      have j4 : (A : Int) ≤ (s.size : Int) := by omega
      have j5 : (A : Int) ≤ (A : Int) + (T.size : Int) := by omega
      have j6 : (0 : Int) ≤ (A : Int) + (T.size : Int) := by omega
      have g1 : decide ((A : Int) < (p : Int)) = false := by simp; omega
      have g2 : decide ((s.size : Int) < (A : Int) + (T.size : Int)) = false := by simp; omega
      have n1 : decide (A < p) = false := by simp; omega
      have n2 : decide (s.size < A + T.size) = false := by simp; omega
      have g3 : ((A : Int) + (T.size : Int)).toNat = A + T.size := by omega
      have hsz1 : (s.extract p A).size ≤ 20000 := by simp; omega
      have cS := fun W => silent_any (s.extract p A) W hsz1 f4
      have HC : Hid (∀ W, Calls Try.prog 12 #[.string (s.extract p A)] W fun e w' => e = .returned (.bool true) ∧ w' = W) := cS
      clear cS f4 hsz1
      rcases f5 with ⟨e1, e2⟩ | ⟨e1, e2⟩
      all_goals
        go_upto_region 11 with fail
        go_quiet (fail)
        go_wp2_with (go_at_call 12; refine (HC.out _).mono ?_; rintro e w' ⟨rfl, rfl⟩)
        refine ⟨⟨k + 1, A + l[k].text.length, ?_, ?_, by go_num, HNx, ?_⟩, by simp [intOf]; omega⟩
        · rw [← HTs.out]; go_num
        · rw [HAp.out]
        · exact Kept.drewN (Kept.alloc hsm _) nq
    · obtain rfl : k = l.length := by omega
      obtain ⟨hp, hkd⟩ := hS.out.fin rfl
      have hps : p = s.size := by rw [HLs.out]; exact hp
      subst hps
      have hK13 := hkd hlp
      obtain ⟨g, rfl, _, _, x0, _, _⟩ := (HW.out.same hsm).get (i := l.length - 1) (by omega)
      rw [hK13] at x0
      rw [List.take_length]
      have hap : (txt (apartL l)).size ≤ 40001 := by
        rw [txt_size]
        have := hS.out.few
        rw [List.take_length] at this
        omega
      have i2 : ¬ (l.length : Int) < (l.length : Int) := by omega
      have i3 : (0 : Int) ≤ (l.length : Int) - 1 := by omega
      have i4 : (l.length : Int) - 1 < (l.length : Int) := by omega
      have i5 : ((l.length : Int) - 1).toNat = l.length - 1 := by omega
      have i6 : ((l.length : Int) == 0) = false := by rw [beq_eq_false_iff_ne]; omega
      have HTl : Hid ((txt (apartL l)).data.toList = apartL l) := txt_list _
      have HTz : Hid ((txt (apartL l)).size = (apartL l).length) := txt_size _
      have hmx : (txt (apartL l)).size ≤ maxLen := by unfold maxLen; omega
      clear hp hkd hK13 hS HS0 hkl hpl hlt
      generalize txt (apartL l) = AP at *
      by_cases h2 : 20000 < AP.size
      · have j1 : (20000 : Int) < (AP.size : Int) := by omega
        go_wp2
        go_ret
        exact ⟨rfl, (K2.trans' hsm).below⟩
      · have j1 : ((20000 : Int) < (AP.size : Int)) = False := by simp; omega
        have j2 : decide ((20000 : Int) < (AP.size : Int)) = false := by simp; omega
        obtain ⟨m, hm, hmm⟩ := apart_scan HR.out (by rw [← HTz.out]; omega)
        have HM : Hid (scanL AP.data.toList = .ok m) := by show _ = _; rw [HTl.out]; exact hm
        have hml : m.length = l.length := by have := congrArg List.length hmm; simpa using this
        have HML : Hid (m.length = l.length) := hml
        have HMM : Hid (∀ i (h1 : i < m.length) (h2 : i < l.length), m[i].kind = l[i].kind ∧ m[i].text = l[i].text) := by
          intro i h1 h2
          have h3 := congrArg (fun q => q[i]?) hmm
          simp [h1, h2] at h3
          exact h3
        clear hm hmm hml
        have cS : ∀ W : World, Calls Try.prog 9 #[.string AP] W fun e w' => ∃ mo mc, e = .returned (.tuple #[.slice mo l.length mc, .nilIface]) ∧ Hid (TRow W.heap.size w' (.slice mo l.length mc) m) ∧ Same0 W w' := by
          intro W
          refine (scan_any AP W hmx).mono ?_
          rintro e w' ⟨v, er, rfl, ht, hk⟩
          rw [HM.out] at ht
          obtain ⟨hr, rfl⟩ := ht
          obtain ⟨mo, mc, rfl⟩ := row_shape hr
          rw [HML.out] at hr
          exact ⟨mo, mc, by rw [HML.out], hr, hk⟩
        have HC : Hid (∀ W : World, Calls Try.prog 9 #[.string AP] W fun e w' => ∃ mo mc, e = .returned (.tuple #[.slice mo l.length mc, .nilIface]) ∧ Hid (TRow W.heap.size w' (.slice mo l.length mc) m) ∧ Same0 W w') := cS
        have hnne := fun W => nil_nil_ne W
        clear cS HM
        go_wp2_with (go_at_call 9; refine (HC.out _).mono ?_; rintro e w5 ⟨mo, mc, rfl, hr5, k5⟩)
        clear hnne HC
        have HW5 : Hid (TRow w1.heap.size w5 (.slice (some ⟨g, 0, none⟩) l.length cap) l) := (HW.out.same hsm).same k5
        have K5 : Same0 w w5 := (K2.trans' hsm).trans' k5
        go_loopw [13] (fun i wr => ∃ k m : Nat, k ≤ l.length ∧ i = .int .i64 (k : Int) ∧ wr = w5.drewN m) (fun i _ => l.length - (intOf i).toNat)
        case atStart => exact ⟨0, 0, Nat.zero_le _, rfl, rfl⟩
        case round =>
          obtain ⟨q, n, hq, rfl, rfl⟩ := hrel
          by_cases hql : q < l.length
          · have hqm : q < m.length := by rw [HML.out]; exact hql
            obtain ⟨e1, e2⟩ := HMM.out q hqm hql
            have hr6 : TRow wr.heap.size w5 (.slice mo m.length mc) m := by rw [HML.out]; exact hr5.out
            obtain ⟨g2, rfl, _, _, y0, _, y2⟩ := TRow.get hr6 hqm
            obtain ⟨g3, hg3, _, _, z0, _, z2⟩ := TRow.get HW5.out hql
            cases hg3
            rw [e1] at y0
            rw [e2] at y2
            have q1 : (0 : Int) ≤ (q : Int) := by omega
            have q2 : (q : Int) < (l.length : Int) := by omega
            clear e1 e2 hr6 x0
            go_wp2
            go_quiet (fail)
            go_wp2
            exact ⟨⟨q + 1, n + nq, by omega, by go_num, rfl⟩, by simp [intOf]; omega⟩
          · have q2 : ¬ (q : Int) < (l.length : Int) := by omega
            clear x0
            go_wp2
            go_ret
            exact ⟨rfl, Same0.below (Kept.drewN K5 n)⟩
theorem places_any (s : ByteArray) (hs : s.size ≤ maxLen) (w : World) : Calls Try.prog 6 #[.string s] w fun e w' => e = .returned (.bool true) ∧ Below w.heap.size w w' := by
  cases hR : scanL s.data.toList with
  | error e => exact places_no s hs w (c := e.1) (p := e.2) hR
  | ok l =>
    have h : s.size ≤ 20000 := by
      unfold scanL at hR
      split at hR
      · cases hR
      · rw [size_list]; omega
    exact places_yes s h w hR
end Go.Proofs.Ytecbfnaeglkbaaa
