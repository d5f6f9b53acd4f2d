/- The walk of Ring of the document's layer 11. -/
import Derived.Test.YtcbplgfkgkefeaaHeapRing
namespace Go.Proofs.Ytcbplgfkgkefeaa
set_option maxRecDepth 100000
set_option linter.unusedVariables false
open Go.RowKit
attribute [local go_sem ↓] Go.wp_at_zero Go.wp_at_succ
/-- Whether the first q of some addresses are marked. -/
def allM (s : List Bool) (D : List Int) (q : Nat) : Bool := (D.take q).all (fun z => s.getD z.toNat false)
theorem allM_succ {s : List Bool} {D : List Int} {q : Nat} (h : q < D.length) : allM s D (q + 1) = (allM s D q && s.getD D[q].toNat false) := by
  unfold allM
  rw [List.take_succ_eq_append_getElem h, List.all_append]
  simp
theorem allM_yes {s : List Bool} {D : List Int} {l : List Nd} {k : Nat} (h : allM s D D.length = true) (hd : ∀ j : Nat, Ed l k j → (j : Int) ∈ D) : ∀ j, Ed l k j → Mk s j := by
  intro j e
  unfold allM at h
  rw [List.take_length, List.all_eq_true] at h
  have := h _ (hd j e)
  simp only [Int.toNat_natCast] at this
  unfold Mk
  rw [List.getD_eq_getElem?_getD] at this
  cases q : s[j]? with
  | none => rw [q] at this; simp at this
  | some b => rw [q] at this; simp at this; rw [this]
theorem allM_no {s : List Bool} {D : List Int} {l : List Nd} {k : Nat} (h : allM s D D.length = false) (hd : ∀ j : Nat, (j : Int) ∈ D → Ed l k j) (hp : ∀ z ∈ D, 0 ≤ z) : ¬ ∀ j, Ed l k j → Mk s j := by
  intro H
  unfold allM at h
  rw [List.take_length] at h
  have : D.all (fun z => s.getD z.toNat false) = true := by
    rw [List.all_eq_true]
    intro z hz
    have h0 := hp z hz
    have := H z.toNat (hd z.toNat (by rw [Int.toNat_of_nonneg h0]; exact hz))
    unfold Mk at this
    rw [List.getD_eq_getElem?_getD, this]
    rfl
  rw [this] at h
  cases h
theorem Pass.still {l : List Nd} {s0 s : List Bool} {C k : Nat} {ag : Bool} (h : Pass l s0 C k ag s) (hk : (∀ m, Ed l k m → Mk s m) → Mk s k) : Pass l s0 C (k + 1) ag s := by
  rcases h with ⟨h1, h2, h3⟩ | h
  · refine .inl ⟨h1, h2, fun j hj => ?_⟩
    by_cases e : j = k
    · subst e; subst h2; exact hk
    · exact h3 j (by omega)
  · exact .inr h
theorem Pass.le {l : List Nd} {s0 s : List Bool} {C k : Nat} {ag : Bool} (h : Pass l s0 C k ag s) (hC : C = s0.count false) : s.count false ≤ C := by
  rcases h with ⟨_, h2, _⟩ | h
  · rw [h2, hC]; exact Nat.le_refl _
  · omega
theorem Pass.set {l : List Nd} {s0 s : List Bool} {C k k' i : Nat} {ag : Bool} (h : Pass l s0 C k ag s) (hC : C = s0.count false) (hi : s[i]? = some false) : Pass l s0 C k' true (s.set i true) := by
  have h1 := h.le hC
  have h2 := count_set hi
  exact .inr ⟨rfl, by omega⟩
/-- What Ring answers. -/
def RingQ (l : List Nd) (w : World) (e : Ending) (w' : World) : Prop := ∃ b : Bool, e = .returned (.bool b) ∧ (b = true ↔ ¬ Ac l) ∧ Same0 w w'
set_option maxHeartbeats 2000000 in
theorem ring_any {B : Nat → Prop} {w : World} {ao : Option Addr} {ac : Nat} {l : List Nd} (h : NsM B w ao l) (hin : InL l) (few : ∀ x ∈ l, x.2.1.length ≤ 6) (hN : l.length ≤ 4000) :
    Calls Try.prog 20 #[.slice ao l.length ac] w fun e w' => RingQ l w e w' := by
  obtain ⟨i, hi, hz0, hz1, hz2⟩ := info_parts info_boolT
  have HL : Hid (∀ ww, Same0 w ww → NsM B ww ao l) := fun ww hk => h.same hk
  have HI : Hid (InL l) := hin
  have HW : Hid (∀ x ∈ l, x.2.1.length ≤ 6) := few
  obtain ⟨N, hNe⟩ : ∃ N, N = l.length := ⟨_, rfl⟩
  have HNE : Hid (N = l.length) := hNe
  rw [← hNe] at hN ⊢
  have i5 : (0 : Int) ≤ (N : Int) := by omega
  clear h hin few hNe
  go_enter Try.func20, Try.ntmps20
  go_upto_region 2 with (first | (at_make; refine wpList_make_full _ rfl _ _ 77 rfl w.heap.size 4 i _ 1 Try.underlying77 hi hz0 hz1 _ _ _ _ N rfl rfl rfl rfl (by rw [hz2]; omega) (by unfold maxLen; omega) (Nat.le_refl _) ?_; intro w1 hown hgrow))
  rw [made_bools] at hown
  have K1 : Same0 w w1 := Same0.grown (Kept.refl _ w) hgrow
  obtain ⟨mb, hmb⟩ : ∃ mb, mb = w.heap.size := ⟨_, rfl⟩
  have hlo : w.heap.size ≤ mb := by omega
  rw [← hmb] at hown ⊢
  have HR1 : Hid (w1.ownsRow mb 4 1 (.slice (some ⟨mb, 0, none⟩) N N) N (bv (List.replicate N false))) := hown
  clear hmb hown hgrow hz0 hz1 hz2 hi
  go_upto_region 3 with fail
  go_loopw [4] (fun a wr => ∃ (s : List Bool) (again : Bool), a = .bool again ∧ Hid (wr.ownsRow mb 4 1 (.slice (some ⟨mb, 0, none⟩) N N) N (bv s)) ∧ Hid (Snd l (Mk s)) ∧ Hid (again = false → ∀ j, j < N → (∀ m, Ed l j m → Mk s m) → Mk s j) ∧ Same0 w wr) (fun a wr => 2 * falses wr mb N + (match a with | .bool true => 1 | _ => 0))
  case atStart => exact ⟨List.replicate N false, true, rfl, HR1, ⟨fun _ => 0, fun i j hm _ => by unfold Mk at hm; rw [List.getElem?_replicate] at hm; split at hm <;> cases hm⟩, (fun e => by cases e), K1⟩
  case round =>
    clear K1 HR1
    obtain ⟨s, again, rfl, HR, HS, HC, hw⟩ := hrel
    cases again
    · go_upto_region 32 with fail
      go_loop [13] (fun i => ∃ k : Nat, k ≤ N ∧ i = .int .i64 k ∧ Hid (∀ j, j < k → Mk s j)) (fun i => N - (intOf i).toNat)
      case atStart => exact ⟨0, Nat.zero_le _, rfl, fun j hj => absurd hj (Nat.not_lt_zero _)⟩
      case round =>
        obtain ⟨k, hk, rfl, hall⟩ := hrel
        by_cases hlt : k < N
        · obtain ⟨b, hb1, hb2, hb3⟩ := row_bool HR.out hlt
          have HB : Hid (s[k]? = some b) := hb1
          have j1 : (k : Int) < (N : Int) := by omega
          have j2 : (0 : Int) ≤ (k : Int) := by omega
          clear hb1 hb3
          cases b
          · have HA : Hid (¬ Ac l) := fun hac => by
              have := hac.all HI.out (S := Mk s) (fun i hi hm => HC.out (by first | rfl | trivial) i (by rw [HNE.out]; exact hi) hm) k (by rw [← HNE.out]; exact hlt)
              unfold Mk at this
              rw [HB.out] at this
              cases this
            go_wp2
            go_ret
            exact ⟨true, rfl, ⟨fun _ => HA.out, fun _ => rfl⟩, hw⟩
          · go_wp2
            go_round
            case rel => exact ⟨k + 1, by omega, by go_num, fun j hj => by
              by_cases e : j = k
              · subst e; exact HB.out
              · exact hall.out j (by omega)⟩
            case measure => simp [intOf]; omega
        · have hkN : k = N := by omega
          rw [hkN] at hall
          clear hkN
          have hlt' : ¬ (k : Int) < (N : Int) := by omega
          have HA : Hid (Ac l) := HS.out.ac (fun i hi => hall.out i (by rw [HNE.out]; exact hi))
          clear hall
          go_wp2
          go_ret
          exact ⟨false, rfl, ⟨fun e => (by cases e), fun e => absurd HA.out e⟩, hw⟩
    · obtain ⟨wo, rfl⟩ : ∃ wo, wo = wr := ⟨_, rfl⟩
      have HFO : Hid (falses wo mb N = s.count false) := falses_row HR.out
      obtain ⟨C, hC⟩ : ∃ C, C = s.count false := ⟨_, rfl⟩
      have HCE : Hid (C = s.count false) := hC
      clear hC HC
      go_upto_region 6 with fail
      go_loopw [4, 5] (fun a i wr2 => ∃ (k : Nat) (s' : List Bool) (ag : Bool), i = .int .i64 (k : Int) ∧ k ≤ N ∧ a = .bool ag ∧ Hid (wr2.ownsRow mb 4 1 (.slice (some ⟨mb, 0, none⟩) N N) N (bv s')) ∧ Hid (Snd l (Mk s')) ∧ Hid (Pass l s C k ag s') ∧ Same0 w wr2) (fun _ i _ => N - (intOf i).toNat)
      case atStart => exact ⟨0, s, false, rfl, Nat.zero_le _, rfl, HR, HS, .inl ⟨rfl, rfl, fun j hj => absurd hj (Nat.not_lt_zero _)⟩, hw⟩
      case round =>
        obtain ⟨k, s', ag, rfl, hk, rfl, HR', HS', HP', hw'⟩ := hrel
        by_cases hlt : k < N
        · obtain ⟨j, rfl⟩ : ∃ j, j = k := ⟨_, rfl⟩
          have hjN : j < N := hlt
          have hjl : j < l.length := by rw [← HNE.out]; exact hjN
          have j1 : (j : Int) < (N : Int) := by omega
          have j2 : (0 : Int) ≤ (j : Int) := by omega
          clear hlt
          obtain ⟨b, hb1, hb2, hb3⟩ := row_bool HR'.out hjN
          have HB : Hid (s'[j]? = some b) := hb1
          clear hb1
          cases b
          · clear hb3
            rcases HL.out wr hw' with e | ⟨nb, noff, e, hnb, hn⟩
            · subst e; simp at hjl
            subst e
            obtain ⟨xo, xc, n0, n1, n2, n3, n4, n5, -⟩ := hn j hjl
            have CD := down_any n5
            have HD : Hid (∀ z ∈ downL l[j], 0 ≤ z ∧ z < (l.length : Int)) := HI.out j hjl
            have HDE : Hid (∀ z : Nat, (z : Int) ∈ downL l[j] → Ed l j z) := fun z hz => ⟨hjl, hz⟩
            have HED : Hid (∀ z : Nat, Ed l j z → (z : Int) ∈ downL l[j]) := fun z hz => hz.2
            have dl : (downL l[j]).length ≤ 1000 := by have := HW.out _ (List.getElem_mem hjl); unfold downL; split <;> (simp; try omega)
            generalize downL l[j] = D at *
            clear n5 hn
            go_upto_region 12 with (first | (go_at_call 19; refine CD.mono ?_; rintro e w3 ⟨bo, bc, rfl, hD, -, hk3⟩))
            have hw3 := hw'.trans' hk3
            have HR3 : Hid (w3.ownsRow mb 4 1 (.slice (some ⟨mb, 0, none⟩) N N) N (bv s')) := hk3.row HR'.out (fun _ _ f => f)
            have HDI : Hid (IntsAt w3 bo D) := hD
            clear CD n0 n1 n2 n3 n4 hD hk3 hb2
            go_loop [6, 8] (fun al c => ∃ q : Nat, q ≤ D.length ∧ c = .int .i64 (q : Int) ∧ al = .bool (allM s' D q)) (fun _ c => D.length - (intOf c).toNat)
            case atStart => exact ⟨0, Nat.zero_le _, rfl, rfl⟩
            case round =>
              obtain ⟨q, hq, rfl, rfl⟩ := hrel
              by_cases hql : q < D.length
              · have q0 : (0 : Int) ≤ (q : Int) := by omega
                have q1 : (q : Int) < (D.length : Int) := by omega
                obtain ⟨db, doff, rfl, -, cD⟩ := HDI.out.get hql
                have hz := HD.out _ (List.getElem_mem hql)
                obtain ⟨bz, hbz⟩ : ∃ bz : Nat, D[q] = (bz : Int) := ⟨D[q].toNat, by omega⟩
                have hbN : bz < N := by rw [HNE.out]; omega
                have q2 : (0 : Int) ≤ (bz : Int) := by omega
                have q3 : (bz : Int) < (N : Int) := by omega
                obtain ⟨vb, m0, m1, -⟩ := row_bool HR3.out hbN
                have HAM : Hid (allM s' D (q + 1) = (allM s' D q && vb)) := by
                  show _ = _
                  rw [allM_succ hql, hbz]
                  simp only [Int.toNat_natCast]
                  rw [List.getD_eq_getElem?_getD, m0]
                  rfl
                rw [hbz] at cD
                clear hbz hz m0
                generalize allM s' D q = A at *
                cases A
                · go_wp2
                  go_round
                  case rel => exact ⟨q + 1, by omega, by go_num, by rw [HAM.out]; rfl⟩
                  case measure => simp [intOf]; omega
                · go_wp2
                  go_round
                  case rel => exact ⟨q + 1, by omega, by go_num, by rw [HAM.out]; rfl⟩
                  case measure => simp [intOf]; omega
              · obtain rfl : q = D.length := by omega
                have HAY : Hid (allM s' D D.length = true → ∀ m, Ed l j m → Mk s' m) := fun e => allM_yes e HED.out
                have HAN : Hid (allM s' D D.length = false → ¬ ∀ m, Ed l j m → Mk s' m) := fun e => allM_no e HDE.out (fun z hz => (HD.out z hz).1)
                generalize allM s' D D.length = A at *
                cases A
                · go_wp2
                  go_roundw
                  case rel => exact ⟨j + 1, s', ag, by go_num, by omega, rfl, HR3, HS', HP'.out.still (fun e => absurd e (HAN.out rfl)), hw3⟩
                  case measure => simp [intOf]; omega
                · obtain ⟨_, -, t1, t2⟩ := row_bool HR3.out hjN
                  have HR4 : Hid ((w3.setCell ⟨mb, j, none⟩ (.bool true)).ownsRow mb 4 1 (.slice (some ⟨mb, 0, none⟩) N N) N (bv (s'.set j true))) := by show World.ownsRow _ _ _ _ _ _ _; rw [bv_set]; exact (HR3.out.stored j _).1
                  have hw4 : Same0 w (w3.setCell ⟨mb, j, none⟩ (.bool true)) := hw3.own hlo _
                  have hjs : j < s'.length := (List.getElem?_eq_some_iff.1 HB.out).1
                  have HS4 : Hid (Snd l (Mk (s'.set j true))) := snd_set HS'.out hjs (HAY.out rfl)
                  go_wp2
                  go_roundw
                  case rel => exact ⟨j + 1, s'.set j true, true, by go_num, by omega, rfl, HR4, HS4, HP'.out.set HCE.out HB.out, hw4⟩
                  case measure => simp [intOf]; omega
          · clear hb3
            go_wp2
            go_roundw
            case rel => exact ⟨j + 1, s', ag, by go_num, by omega, rfl, HR', HS', HP'.out.still (fun _ => HB.out), hw'⟩
            case measure => simp [intOf]; omega
        · obtain rfl : N = k := by omega
          obtain ⟨s1, hs1⟩ : ∃ s1, s1 = s' := ⟨_, rfl⟩
          subst hs1
          obtain ⟨ag1, hag1⟩ : ∃ ag1, ag1 = ag := ⟨_, rfl⟩
          subst hag1
          have HR1' := HR'
          have HS1' := HS'
          have HP1' := HP'
          have hw1' := hw'
          clear HR' HS' HP' hw' hlt hk
          go_upto_region 19 with fail
          go_loopw [4, 9] (fun a i wr2 => ∃ (k : Nat) (s' : List Bool) (ag : Bool), i = .int .i64 ((k : Int) - 1) ∧ k ≤ N ∧ a = .bool ag ∧ Hid (wr2.ownsRow mb 4 1 (.slice (some ⟨mb, 0, none⟩) N N) N (bv s')) ∧ Hid (Snd l (Mk s')) ∧ Hid (Pass l s C N ag s') ∧ Same0 w wr2) (fun _ i _ => (intOf i + 1).toNat)
          case atStart => exact ⟨N, s1, ag1, by rfl, Nat.le_refl _, rfl, HR1', HS1', HP1', hw1'⟩
          case round =>
            obtain ⟨k, s', ag, rfl, hk, rfl, HR', HS', HP', hw'⟩ := hrel
            by_cases hlt : 0 < k
            · obtain ⟨j, rfl⟩ : ∃ j, k = j + 1 := ⟨k - 1, by omega⟩
              have hjN : j < N := by omega
              have hjl : j < l.length := by rw [← HNE.out]; exact hjN
              have j1 : (j : Int) < (N : Int) := by omega
              have j2 : (0 : Int) ≤ (j : Int) := by omega
              rw [show ((j + 1 : Nat) : Int) - 1 = (j : Int) by omega]
              clear hlt
              obtain ⟨b, hb1, hb2, hb3⟩ := row_bool HR'.out hjN
              have HB : Hid (s'[j]? = some b) := hb1
              clear hb1
              cases b
              · clear hb3
                rcases HL.out wr hw' with e | ⟨nb, noff, e, hnb, hn⟩
                · subst e; simp at hjl
                subst e
                obtain ⟨xo, xc, n0, n1, n2, n3, n4, n5, -⟩ := hn j hjl
                have CD := down_any n5
                have HD : Hid (∀ z ∈ downL l[j], 0 ≤ z ∧ z < (l.length : Int)) := HI.out j hjl
                have HDE : Hid (∀ z : Nat, (z : Int) ∈ downL l[j] → Ed l j z) := fun z hz => ⟨hjl, hz⟩
                have HED : Hid (∀ z : Nat, Ed l j z → (z : Int) ∈ downL l[j]) := fun z hz => hz.2
                have dl : (downL l[j]).length ≤ 1000 := by have := HW.out _ (List.getElem_mem hjl); unfold downL; split <;> (simp; try omega)
                generalize downL l[j] = D at *
                clear n5 hn
                go_upto_region 25 with (first | (go_at_call 19; refine CD.mono ?_; rintro e w3 ⟨bo, bc, rfl, hD, -, hk3⟩))
                have hw3 := hw'.trans' hk3
                have HR3 : Hid (w3.ownsRow mb 4 1 (.slice (some ⟨mb, 0, none⟩) N N) N (bv s')) := hk3.row HR'.out (fun _ _ f => f)
                have HDI : Hid (IntsAt w3 bo D) := hD
                clear CD n0 n1 n2 n3 n4 hD hk3 hb2
                go_loop [10, 12] (fun al c => ∃ q : Nat, q ≤ D.length ∧ c = .int .i64 (q : Int) ∧ al = .bool (allM s' D q)) (fun _ c => D.length - (intOf c).toNat)
                case atStart => exact ⟨0, Nat.zero_le _, rfl, rfl⟩
                case round =>
                  obtain ⟨q, hq, rfl, rfl⟩ := hrel
                  by_cases hql : q < D.length
                  · have q0 : (0 : Int) ≤ (q : Int) := by omega
                    have q1 : (q : Int) < (D.length : Int) := by omega
                    obtain ⟨db, doff, rfl, -, cD⟩ := HDI.out.get hql
                    have hz := HD.out _ (List.getElem_mem hql)
                    obtain ⟨bz, hbz⟩ : ∃ bz : Nat, D[q] = (bz : Int) := ⟨D[q].toNat, by omega⟩
                    have hbN : bz < N := by rw [HNE.out]; omega
                    have q2 : (0 : Int) ≤ (bz : Int) := by omega
                    have q3 : (bz : Int) < (N : Int) := by omega
                    obtain ⟨vb, m0, m1, -⟩ := row_bool HR3.out hbN
                    have HAM : Hid (allM s' D (q + 1) = (allM s' D q && vb)) := by
                      show _ = _
                      rw [allM_succ hql, hbz]
                      simp only [Int.toNat_natCast]
                      rw [List.getD_eq_getElem?_getD, m0]
                      rfl
                    rw [hbz] at cD
                    clear hbz hz m0
                    generalize allM s' D q = A at *
                    cases A
                    · go_wp2
                      go_round
                      case rel => exact ⟨q + 1, by omega, by go_num, by rw [HAM.out]; rfl⟩
                      case measure => simp [intOf]; omega
                    · go_wp2
                      go_round
                      case rel => exact ⟨q + 1, by omega, by go_num, by rw [HAM.out]; rfl⟩
                      case measure => simp [intOf]; omega
                  · obtain rfl : q = D.length := by omega
                    have HAY : Hid (allM s' D D.length = true → ∀ m, Ed l j m → Mk s' m) := fun e => allM_yes e HED.out
                    have HAN : Hid (allM s' D D.length = false → ¬ ∀ m, Ed l j m → Mk s' m) := fun e => allM_no e HDE.out (fun z hz => (HD.out z hz).1)
                    generalize allM s' D D.length = A at *
                    cases A
                    · go_wp2
                      go_roundw
                      case rel => exact ⟨j, s', ag, rfl, by omega, rfl, HR3, HS', HP'.out, hw3⟩
                      case measure => simp [intOf]
                    · obtain ⟨_, -, t1, t2⟩ := row_bool HR3.out hjN
                      have HR4 : Hid ((w3.setCell ⟨mb, j, none⟩ (.bool true)).ownsRow mb 4 1 (.slice (some ⟨mb, 0, none⟩) N N) N (bv (s'.set j true))) := by show World.ownsRow _ _ _ _ _ _ _; rw [bv_set]; exact (HR3.out.stored j _).1
                      have hw4 : Same0 w (w3.setCell ⟨mb, j, none⟩ (.bool true)) := hw3.own hlo _
                      have hjs : j < s'.length := (List.getElem?_eq_some_iff.1 HB.out).1
                      have HS4 : Hid (Snd l (Mk (s'.set j true))) := snd_set HS'.out hjs (HAY.out rfl)
                      go_wp2
                      go_roundw
                      case rel => exact ⟨j, s'.set j true, true, rfl, by omega, rfl, HR4, HS4, HP'.out.set HCE.out HB.out, hw4⟩
                      case measure => simp [intOf]
              · clear hb3
                go_wp2
                go_roundw
                case rel => exact ⟨j, s', ag, rfl, by omega, rfl, HR', HS', HP'.out, hw'⟩
                case measure => simp [intOf]
            · obtain rfl : k = 0 := by omega
              have HFN : Hid (falses wr mb N = s'.count false) := falses_row HR'.out
              have HLS : Hid (2 * s'.count false + (match Value.bool ag with | .bool true => 1 | _ => 0) < 2 * C + 1) := by
                (show _ < _)
                rcases HP'.out with ⟨e1, e2, _⟩ | ⟨e1, e2⟩
                · subst e1; rw [e2, ← HCE.out]; simp
                · subst e1; simp; omega
              have HCN : Hid (ag = false → ∀ j, j < N → (∀ m, Ed l j m → Mk s' m) → Mk s' j) := fun e => by
                rcases HP'.out with ⟨_, e2, e3⟩ | ⟨e1, _⟩
                · subst e2; exact e3
                · rw [e] at e1; cases e1
              go_wp2
              go_roundw
              case rel => exact ⟨s', ag, rfl, HR', HS', HCN, hw'⟩
              case measure =>
                have h1 := HFN.out
                have h2 := HFO.out
                have h3 := HLS.out
                have h4 := HCE.out
                rw [h1, h2, ← h4]
                exact h3
end Go.Proofs.Ytcbplgfkgkefeaa
