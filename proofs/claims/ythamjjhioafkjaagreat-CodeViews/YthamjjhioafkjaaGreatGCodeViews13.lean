import Derived.Test.YthamjjhioafkjaaGreatGCodeViews12
import Derived.Laws.AppendOwnNone
import Derived.Lib.AppendZeros
namespace Go.Proofs.YthamjjhioafkjaaGreat
set_option maxRecDepth 100000
set_option linter.unusedVariables false
open Go.RowKit
attribute [local go_sem ↓] Go.wp_at_zero Go.wp_at_succ
def FoundAt (z : Int) (q : Bool) : Prop := decide (0 ≤ z) = q
theorem FoundAt.eq {z : Int} {q : Bool} (h : FoundAt z q) : decide (0 ≤ z) = q := h
set_option maxHeartbeats 2000000 in
theorem indexf_def {w0 : World} {P : Int → Bool} {cb lo : Option Addr} {ll lc : Nat} {n : Int} (hP : ∀ ww z,Same0 w0 ww → Calls Tryz.prog 163 #[.agg #[.pointer cb,.slice lo ll lc,.int .i64 n],.int .i64 z] ww fun e w' => e = .returned (.bool (P z)) ∧ Same0 w0 w') {so : Option Addr} {sc : Nat} {t : List Int} (ht : IntsAt w0 so t) (hm : t.length ≤ 2000) {w : World} (hw : Same0 w0 w) :
    Calls Tryz.prog 90 #[.slice so t.length sc,.func (.func 163) #[.agg #[.pointer cb,.slice lo ll lc,.int .i64 n]] #[]] w fun e w' => ∃ z : Int,e = .returned (.int .i64 z) ∧ FoundAt z (t.any P) ∧ Same0 w0 w' := by
  have CP : Hid (∀ ww z, Same0 w0 ww → Calls Tryz.prog 163 #[.agg #[.pointer cb, .slice lo ll lc, .int .i64 n], .int .i64 z] ww fun e w' => e = .returned (.bool (P z)) ∧ Same0 w0 w') := hP
  clear hP
  go_enter Tryz.func90, Tryz.ntmps90
  go_wp2
  go_loopw [8] (fun i wr => ∃ k : Nat, k ≤ t.length ∧ i = .int .i64 (k : Int) ∧ Hid ((t.take k).any P = false) ∧ Same0 w0 wr) (fun i _ => t.length - (intOf i).toNat)
  case atStart => exact ⟨0, Nat.zero_le _, rfl, by show _ = _; simp, hw⟩
  case round =>
    clear hw
    obtain ⟨k, hk, rfl, ha, hw⟩ := hrel
    by_cases hlt : k < t.length
    · obtain ⟨tb, off, rfl, _, hc⟩ := (ht.same hw).get hlt
      have i1 : (0 : Int) ≤ (k : Int) := by omega
      have i2 : (k : Int) < (t.length : Int) := by omega
      have hz : ∀ q, P t[k] = q → Hid (P t[k] = q) := fun q h => h
      cases hq : P t[k] with
      | true =>
        have H : Hid (FoundAt (k : Int) (t.any P)) := by
          have e1 : t.any P = true := List.any_eq_true.2 ⟨t[k], List.getElem_mem hlt, hq⟩
          show decide _ = _
          rw [e1]; simp
        have C := CP.out _ t[k] hw
        rw [hq] at C
        clear CP hz hq ha
        go_wp2_with (first | (go_at_call 163; refine C.mono ?_; rintro e w2 ⟨rfl, hw2⟩))
        go_ret
        exact ⟨_, rfl, H.out, hw2⟩
      | false =>
        have H : Hid ((t.take (k + 1)).any P = false) := by
          have e1 := ha.out
          show _ = _
          rw [List.take_add_one, List.getElem?_eq_getElem hlt, List.any_append, e1]
          simp [hq]
        have C := CP.out _ t[k] hw
        rw [hq] at C
        clear hz hq ha
        go_wp2_with (first | (go_at_call 163; refine C.mono ?_; rintro e w2 ⟨rfl, hw2⟩))
        exact ⟨⟨k + 1, by omega, by go_num, H, hw2⟩, by simp [intOf]; omega⟩
    · have H : Hid (FoundAt (-1) (t.any P)) := by
        have := ha.out
        rw [List.take_of_length_le (by omega)] at this
        show decide _ = _
        rw [this]; rfl
      go_wp2
      go_ret
      exact ⟨_, rfl, H.out, hw⟩
set_option maxHeartbeats 1000000 in
theorem containsf_def {w0 : World} {P : Int → Bool} {cb lo : Option Addr} {ll lc : Nat} {n : Int} (hP : ∀ ww z,Same0 w0 ww → Calls Tryz.prog 163 #[.agg #[.pointer cb,.slice lo ll lc,.int .i64 n],.int .i64 z] ww fun e w' => e = .returned (.bool (P z)) ∧ Same0 w0 w') {so : Option Addr} {sc : Nat} {t : List Int} (ht : IntsAt w0 so t) (hm : t.length ≤ 2000) {w : World} (hw : Same0 w0 w) :
    Calls Tryz.prog 53 #[.slice so t.length sc,.func (.func 163) #[.agg #[.pointer cb,.slice lo ll lc,.int .i64 n]] #[]] w fun e w' => e = .returned (.bool (t.any P)) ∧ Same0 w0 w' := by
  have C := indexf_def (sc := sc) hP ht hm hw
  clear hP ht hw
  go_enter Tryz.func53, Tryz.ntmps53
  go_wp2_with (first | (go_at_call 90; refine C.mono ?_; rintro e w2 ⟨z, rfl, hz, hw2⟩))
  go_ret
  exact ⟨ret_bool (FoundAt.eq hz), hw2⟩
set_option maxHeartbeats 2000000 in
theorem indexf_free {w0 : World} {P : Int → Bool} {cb : Option Addr} (hP : ∀ ww z,Same0 w0 ww → Calls Tryz.prog 165 #[.int .i64 z,.pointer cb] ww fun e w' => e = .returned (.bool (P z)) ∧ Same0 w0 w') {so : Option Addr} {sc : Nat} {t : List Int} (ht : IntsAt w0 so t) (hm : t.length ≤ 2000) {w : World} (hw : Same0 w0 w) :
    Calls Tryz.prog 90 #[.slice so t.length sc,.func (.func 165) #[] #[.pointer cb]] w fun e w' => ∃ z : Int,e = .returned (.int .i64 z) ∧ FoundAt z (t.any P) ∧ Same0 w0 w' := by
  have CP : Hid (∀ ww z, Same0 w0 ww → Calls Tryz.prog 165 #[.int .i64 z, .pointer cb] ww fun e w' => e = .returned (.bool (P z)) ∧ Same0 w0 w') := hP
  clear hP
  go_enter Tryz.func90, Tryz.ntmps90
  go_wp2
  go_loopw [8] (fun i wr => ∃ k : Nat, k ≤ t.length ∧ i = .int .i64 (k : Int) ∧ Hid ((t.take k).any P = false) ∧ Same0 w0 wr) (fun i _ => t.length - (intOf i).toNat)
  case atStart => exact ⟨0, Nat.zero_le _, rfl, by show _ = _; simp, hw⟩
  case round =>
    clear hw
    obtain ⟨k, hk, rfl, ha, hw⟩ := hrel
    by_cases hlt : k < t.length
    · obtain ⟨tb, off, rfl, _, hc⟩ := (ht.same hw).get hlt
      have i1 : (0 : Int) ≤ (k : Int) := by omega
      have i2 : (k : Int) < (t.length : Int) := by omega
      have hz : ∀ q, P t[k] = q → Hid (P t[k] = q) := fun q h => h
      cases hq : P t[k] with
      | true =>
        have H : Hid (FoundAt (k : Int) (t.any P)) := by
          have e1 : t.any P = true := List.any_eq_true.2 ⟨t[k], List.getElem_mem hlt, hq⟩
          show decide _ = _
          rw [e1]; simp
        have C := CP.out _ t[k] hw
        rw [hq] at C
        clear CP hz hq ha
        go_wp2_with (first | (go_at_call 165; refine C.mono ?_; rintro e w2 ⟨rfl, hw2⟩))
        go_ret
        exact ⟨_, rfl, H.out, hw2⟩
      | false =>
        have H : Hid ((t.take (k + 1)).any P = false) := by
          have e1 := ha.out
          show _ = _
          rw [List.take_add_one, List.getElem?_eq_getElem hlt, List.any_append, e1]
          simp [hq]
        have C := CP.out _ t[k] hw
        rw [hq] at C
        clear hz hq ha
        go_wp2_with (first | (go_at_call 165; refine C.mono ?_; rintro e w2 ⟨rfl, hw2⟩))
        exact ⟨⟨k + 1, by omega, by go_num, H, hw2⟩, by simp [intOf]; omega⟩
    · have H : Hid (FoundAt (-1) (t.any P)) := by
        have := ha.out
        rw [List.take_of_length_le (by omega)] at this
        show decide _ = _
        rw [this]; rfl
      go_wp2
      go_ret
      exact ⟨_, rfl, H.out, hw⟩
set_option maxHeartbeats 1000000 in
theorem containsf_free {w0 : World} {P : Int → Bool} {cb : Option Addr} (hP : ∀ ww z,Same0 w0 ww → Calls Tryz.prog 165 #[.int .i64 z,.pointer cb] ww fun e w' => e = .returned (.bool (P z)) ∧ Same0 w0 w') {so : Option Addr} {sc : Nat} {t : List Int} (ht : IntsAt w0 so t) (hm : t.length ≤ 2000) {w : World} (hw : Same0 w0 w) :
    Calls Tryz.prog 53 #[.slice so t.length sc,.func (.func 165) #[] #[.pointer cb]] w fun e w' => e = .returned (.bool (t.any P)) ∧ Same0 w0 w' := by
  have C := indexf_free (sc := sc) hP ht hm hw
  clear hP ht hw
  go_enter Tryz.func53, Tryz.ntmps53
  go_wp2_with (first | (go_at_call 90; refine C.mono ?_; rintro e w2 ⟨z, rfl, hz, hw2⟩))
  go_ret
  exact ⟨ret_bool (FoundAt.eq hz), hw2⟩
set_option maxHeartbeats 2000000 in
theorem index_term {w : World} {so : Option Addr} {sc : Nat} {t : List Int} (ht : IntsAt w so t) (hm : t.length ≤ 2000) (y : Int) :
    Calls Tryz.prog 117 #[.slice so t.length sc,.int .i64 y] w fun e w' => ∃ z : Int,e = .returned (.int .i64 z) ∧ FoundAt z (decide (y ∈ t)) ∧ w' = w := by
  go_enter Tryz.func117, Tryz.ntmps117
  go_wp2
  go_loop [8] (fun i => ∃ k : Nat, k ≤ t.length ∧ i = .int .i64 (k : Int) ∧ Hid (¬ y ∈ t.take k)) (fun i => t.length - (intOf i).toNat)
  case atStart => exact ⟨0, Nat.zero_le _, rfl, by show ¬ _; simp⟩
  case round =>
    obtain ⟨k, hk, rfl, ha⟩ := hrel
    by_cases hlt : k < t.length
    · obtain ⟨tb, off, rfl, _, hc⟩ := ht.get hlt
      have i1 : (0 : Int) ≤ (k : Int) := by omega
      have i2 : (k : Int) < (t.length : Int) := by omega
      by_cases hq : y = t[k]
      · have H : Hid (FoundAt (k : Int) (decide (y ∈ t))) := by
          have e1 : y ∈ t := hq ▸ List.getElem_mem hlt
          show decide _ = _
          simp [e1]
        have q1 : (y == t[k]) = true := by simpa using hq
        clear hq ha
        go_wp2
        go_ret
        exact ⟨_, rfl, H.out, rfl⟩
      · have H : Hid (¬ y ∈ t.take (k + 1)) := by
          have e1 := ha.out
          intro hmem
          rw [List.take_add_one, List.getElem?_eq_getElem hlt] at hmem
          rcases List.mem_append.1 hmem with q | q
          · exact e1 q
          · simp at q; exact hq q
        have q1 : (y == t[k]) = false := by simpa using hq
        clear hq ha
        go_wp2
        exact ⟨⟨k + 1, by omega, by go_num, H⟩, by simp [intOf]; omega⟩
    · have H : Hid (FoundAt (-1) (decide (y ∈ t))) := by
        have := ha.out
        rw [List.take_of_length_le (by omega)] at this
        show decide _ = _
        simp [this]
      go_wp2
      go_ret
      exact ⟨_, rfl, H.out, rfl⟩
set_option maxHeartbeats 1000000 in
theorem contains_term {w : World} {so : Option Addr} {sc : Nat} {t : List Int} (ht : IntsAt w so t) (hm : t.length ≤ 2000) (y : Int) :
    Calls Tryz.prog 166 #[.slice so t.length sc,.int .i64 y] w fun e w' => e = .returned (.bool (decide (y ∈ t))) ∧ w' = w := by
  have C := index_term (sc := sc) ht hm y
  clear ht
  go_enter Tryz.func166, Tryz.ntmps166
  go_wp2_with (first | (go_at_call 117; refine C.mono ?_; rintro e w2 ⟨z, rfl, hz, rfl⟩))
  go_ret
  exact ⟨ret_bool (FoundAt.eq hz), rfl⟩
end Go.Proofs.YthamjjhioafkjaaGreat
namespace Go.Proofs.YthamjjhioafkjaaGreat
set_option maxRecDepth 100000
set_option linter.unusedVariables false
open Go.RowKit
attribute [local go_sem ↓] Go.wp_at_zero Go.wp_at_succ
set_option maxHeartbeats 4000000 in
theorem below_any {w : World} {b bs : Nat} {ro : Option Addr} {rc : Nat} {L : List Sym} {R : List Ru} {lo : Option Addr} {l : List Ru} {n lc : Nat} (h : Cnd w b bs ro rc L R lo l n) (hu : Upto L R l 5 n) :
    Calls Tryz.prog 143 #[.agg #[.pointer (some ⟨b,0,none⟩),.slice lo l.length lc,.int .i64 (n : Int)]] w fun e w' => ∃ v,e = .returned v ∧ FltAt w' (askW L R l 5 n) v ∧ Same0 w w' := by
  obtain ⟨lb, off, ao, ac, bo, bc, x, rfl, hx, W0, CC0, HS, HA, CR, CU⟩ := h.opened lc
  have W1 : Same0 (w.alloc (.cells #[.pointer (some ⟨b, 0, none⟩), .slice (some ⟨lb, off, none⟩) l.length lc, .int .i64 (n : Int)] 202)) (w.alloc (.cells #[.pointer (some ⟨b, 0, none⟩), .slice (some ⟨lb, off, none⟩) l.length lc, .int .i64 (n : Int)] 202)).drew := Kept.drew (Kept.refl _ _)
  have f0 := field_left
  have f1 := field_right
  have hc : checkE L x.1 = 0 ∧ checkE L x.2 = 0 := by
    have := hu.1 1 (by omega) n h.hn
    simp only [ckB, askB, ← hx, Bool.and_eq_true, decide_eq_true_eq] at this
    exact this
  have hm : x.1.length ≤ 2000 := (checkE_zero.1 hc.1).1
  have hm2 : x.2.length ≤ 2000 := (checkE_zero.1 hc.2).1
  have hp : 0 < x.1.length := isT_pos (checkE_zero.1 hc.1).2.2
  have E : Hid (∀ q : Bool, q = (!x.1.tail.any (defB L)) → (if q = true then [(0, -1)] else [(75, (n : Int))]) = askW L R l 5 n) := by
    intro q hq
    have e1 : x.1.tail.all (fun n => !defB L n) = !x.1.tail.any (defB L) := by simp [List.all_eq_not_any_not]
    subst hq
    simp only [askW, ckB, askB, wrongL, ← hx, e1]
    rfl
  obtain ⟨ab, ao', rfl, hab⟩ : ∃ ab ao', ao = some ⟨ab, ao', none⟩ ∧ IntsAt (w.alloc (.cells #[.pointer (some ⟨b, 0, none⟩), .slice (some ⟨lb, off, none⟩) l.length lc, .int .i64 (n : Int)] 202)) (if ac = 1 then some ⟨ab, ao', none⟩ else some ⟨ab, ao' + 1, none⟩) x.1.tail := by
    have hA := ((HA.out _ (Kept.refl _ _)).1).at'
    obtain ⟨ab, ao', e, hlt, hc⟩ := hA.get hp
    refine ⟨ab, ao', e, ?_⟩
    have hcap := ((HA.out _ (Kept.refl _ _)).1).cap'
    by_cases hac : ac = 1
    · left
      exact List.eq_nil_of_length_eq_zero (by simp; omega)
    rw [if_neg hac]
    refine .inr ⟨ab, ao' + 1, rfl, hlt, fun i hi => ?_⟩
    have hi' : i + 1 < x.1.length := by simp at hi; omega
    obtain ⟨ab2, ao2, e2, _, hc2⟩ := hA.get hi'
    rw [e] at e2
    simp only [Option.some.injEq, Addr.mk.injEq] at e2
    obtain ⟨rfl, rfl, _⟩ := e2
    rw [show ao' + 1 + i = ao' + (i + 1) by omega, hc2]
    simp
  have hac := ((HA.out _ (Kept.refl _ _)).1).cap'
  have i1 : (1 : Int) ≤ (x.1.length : Int) := by omega
  have i2 : (x.1.length : Int) ≤ (ac : Int) := by omega
  have CD : ∀ ww z, Same0 (w.alloc (.cells #[.pointer (some ⟨b, 0, none⟩), .slice (some ⟨lb, off, none⟩) l.length lc, .int .i64 (n : Int)] 202)) ww → Calls Tryz.prog 163 #[.agg #[.pointer (some ⟨b, 0, none⟩), .slice (some ⟨lb, off, none⟩) l.length lc, .int .i64 (n : Int)], .int .i64 z] ww fun e w' => e = .returned (.bool (defB L z)) ∧ Same0 (w.alloc (.cells #[.pointer (some ⟨b, 0, none⟩), .slice (some ⟨lb, off, none⟩) l.length lc, .int .i64 (n : Int)] 202)) w' := fun ww z hk => (isDefined_any (HA.out ww hk).2.2 _ _ _ _ _).mono (fun e w' ⟨q1, q2⟩ => ⟨q1, hk.trans' q2⟩)
  have CB : Hid (∀ ww so sl sc, so = (if ac = 1 then some ⟨ab, ao', none⟩ else some ⟨ab, ao' + 1, none⟩) → sl = x.1.tail.length → Same0 (w.alloc (.cells #[.pointer (some ⟨b, 0, none⟩), .slice (some ⟨lb, off, none⟩) l.length lc, .int .i64 (n : Int)] 202)) ww → Calls Tryz.prog 53 #[.slice so sl sc, .func (.func 163) #[.agg #[.pointer (some ⟨b, 0, none⟩), .slice (some ⟨lb, off, none⟩) l.length lc, .int .i64 (n : Int)]] #[]] ww fun e w' => e = .returned (.bool (x.1.tail.any (defB L))) ∧ Same0 (w.alloc (.cells #[.pointer (some ⟨b, 0, none⟩), .slice (some ⟨lb, off, none⟩) l.length lc, .int .i64 (n : Int)] 202)) w') := fun ww so sl sc e' e hk => by
    subst e e'
    exact containsf_def CD hab (by simp; omega) hk
  have tl : x.1.tail.length = x.1.length - 1 := by simp
  have TL : Hid (x.1.tail.length = x.1.length - 1) := tl
  clear h hu hx hab hc CD tl
  by_cases hac1 : ac = 1
  · subst hac1
    have CB1 : Hid (∀ ww sc, Same0 (w.alloc (.cells #[.pointer (some ⟨b, 0, none⟩), .slice (some ⟨lb, off, none⟩) l.length lc, .int .i64 (n : Int)] 202)) ww → Calls Tryz.prog 53 #[.slice (some ⟨ab, ao', none⟩) 0 sc, .func (.func 163) #[.agg #[.pointer (some ⟨b, 0, none⟩), .slice (some ⟨lb, off, none⟩) l.length lc, .int .i64 (n : Int)]] #[]] ww fun e w' => e = .returned (.bool (x.1.tail.any (defB L))) ∧ Same0 (w.alloc (.cells #[.pointer (some ⟨b, 0, none⟩), .slice (some ⟨lb, off, none⟩) l.length lc, .int .i64 (n : Int)] 202)) w') := fun ww sc hk => CB.out ww _ 0 sc (by simp) (by rw [TL.out]; omega) hk
    clear CB TL
    go_enter Tryz.func143, Tryz.ntmps143
    go_wp2
    go_region_held3 (fun w' => (w'.cell? ⟨b, 0, none⟩ = some (.pointer (some ⟨bs, 0, none⟩)) ∧ w'.cell? ⟨b, 1, none⟩ = some (.slice ro R.length rc)) ∧ (w'.cell? ⟨w.heap.size, 0, none⟩ = some (.pointer (some ⟨b, 0, none⟩)) ∧ w'.cell? ⟨w.heap.size, 1, none⟩ = some (.slice (some ⟨lb, off, none⟩) l.length lc) ∧ w'.cell? ⟨w.heap.size, 2, none⟩ = some (.int .i64 (n : Int))) ∧ w'.cell? ⟨lb, off + n * 2, none⟩ = some (.slice (some ⟨ab, ao', none⟩) x.1.length 1) ∧ w'.cell? ⟨lb, off + n * 2 + 1, none⟩ = some (.slice bo x.2.length bc)) (first | exact cc1 | exact CC0) (first | (go_at_call 161; refine (CR.out _ (by first | exact hw1 | exact W1)).mono ?_; rintro e w1 ⟨rfl, hw1⟩; have cc1 := HS.out _ hw1) | (go_at_call 53; refine (CB1.out _ _ (by first | exact hw1 | exact W1)).mono ?_; rintro e w1 ⟨rfl, hw1⟩; have cc1 := HS.out _ hw1) | (go_at_call 160; refine (CU.out _ _ _ (by first | exact hw1 | exact W1)).mono ?_; rintro e w2 ⟨v, rfl, hv, hw2⟩; have cc1 := HS.out _ hw2))
    all_goals
      go_wp2
      go_ret
      exact ⟨_, rfl, by rw [← E.out _ rfl]; exact hv, W0.trans' hw2⟩
  · have CB1 : Hid (∀ ww sc, Same0 (w.alloc (.cells #[.pointer (some ⟨b, 0, none⟩), .slice (some ⟨lb, off, none⟩) l.length lc, .int .i64 (n : Int)] 202)) ww → Calls Tryz.prog 53 #[.slice (some ⟨ab, ao' + 1, none⟩) (x.1.length - 1) sc, .func (.func 163) #[.agg #[.pointer (some ⟨b, 0, none⟩), .slice (some ⟨lb, off, none⟩) l.length lc, .int .i64 (n : Int)]] #[]] ww fun e w' => e = .returned (.bool (x.1.tail.any (defB L))) ∧ Same0 (w.alloc (.cells #[.pointer (some ⟨b, 0, none⟩), .slice (some ⟨lb, off, none⟩) l.length lc, .int .i64 (n : Int)] 202)) w') := fun ww sc hk => CB.out ww _ _ sc (by simp [hac1]) TL.out.symm hk
    clear CB TL
    go_enter Tryz.func143, Tryz.ntmps143
    go_wp2
    go_region_held3 (fun w' => (w'.cell? ⟨b, 0, none⟩ = some (.pointer (some ⟨bs, 0, none⟩)) ∧ w'.cell? ⟨b, 1, none⟩ = some (.slice ro R.length rc)) ∧ (w'.cell? ⟨w.heap.size, 0, none⟩ = some (.pointer (some ⟨b, 0, none⟩)) ∧ w'.cell? ⟨w.heap.size, 1, none⟩ = some (.slice (some ⟨lb, off, none⟩) l.length lc) ∧ w'.cell? ⟨w.heap.size, 2, none⟩ = some (.int .i64 (n : Int))) ∧ w'.cell? ⟨lb, off + n * 2, none⟩ = some (.slice (some ⟨ab, ao', none⟩) x.1.length ac) ∧ w'.cell? ⟨lb, off + n * 2 + 1, none⟩ = some (.slice bo x.2.length bc)) (first | exact cc1 | exact CC0) (first | (go_at_call 161; refine (CR.out _ (by first | exact hw1 | exact W1)).mono ?_; rintro e w1 ⟨rfl, hw1⟩; have cc1 := HS.out _ hw1) | (go_at_call 53; refine (CB1.out _ _ (by first | exact hw1 | exact W1)).mono ?_; rintro e w1 ⟨rfl, hw1⟩; have cc1 := HS.out _ hw1) | (go_at_call 160; refine (CU.out _ _ _ (by first | exact hw1 | exact W1)).mono ?_; rintro e w2 ⟨v, rfl, hv, hw2⟩; have cc1 := HS.out _ hw2))
    all_goals
      go_wp2
      go_ret
      exact ⟨_, rfl, by rw [← E.out _ rfl]; exact hv, W0.trans' hw2⟩
end Go.Proofs.YthamjjhioafkjaaGreat
namespace Go.Proofs.YthamjjhioafkjaaGreat
set_option maxRecDepth 100000
set_option linter.unusedVariables false
open Go.RowKit
attribute [local go_sem ↓] Go.wp_at_zero Go.wp_at_succ
set_option maxHeartbeats 4000000 in
theorem free_any {w : World} {b bs : Nat} {ro : Option Addr} {rc : Nat} {L : List Sym} {R : List Ru} {lo : Option Addr} {l : List Ru} {n lc : Nat} (h : Cnd w b bs ro rc L R lo l n) (hu : Upto L R l 6 n) :
    Calls Tryz.prog 144 #[.agg #[.pointer (some ⟨b,0,none⟩),.slice lo l.length lc,.int .i64 (n : Int)]] w fun e w' => ∃ v,e = .returned v ∧ FltAt w' (askW L R l 6 n) v ∧ Same0 w w' := by
  obtain ⟨lb, off, ao, ac, bo, bc, x, rfl, hx, W0, CC0, HS, HA, CR, CU⟩ := h.opened lc
  have W1 : Same0 (w.alloc (.cells #[.pointer (some ⟨b, 0, none⟩), .slice (some ⟨lb, off, none⟩) l.length lc, .int .i64 (n : Int)] 202)) (w.alloc (.cells #[.pointer (some ⟨b, 0, none⟩), .slice (some ⟨lb, off, none⟩) l.length lc, .int .i64 (n : Int)] 202)).drew := Kept.drew (Kept.refl _ _)
  have f0 := field_left
  have f1 := field_right
  have hc : checkE L x.1 = 0 ∧ checkE L x.2 = 0 := by
    have := hu.1 1 (by omega) n h.hn
    simp only [ckB, askB, ← hx, Bool.and_eq_true, decide_eq_true_eq] at this
    exact this
  have hm : x.1.length ≤ 2000 := (checkE_zero.1 hc.1).1
  have hm2 : x.2.length ≤ 2000 := (checkE_zero.1 hc.2).1
  have hp : 0 < x.1.length := isT_pos (checkE_zero.1 hc.1).2.2
  have CL : Hid (∀ ww z, Same0 (w.alloc (.cells #[.pointer (some ⟨b, 0, none⟩), .slice (some ⟨lb, off, none⟩) l.length lc, .int .i64 (n : Int)] 202)) ww → Calls Tryz.prog 166 #[.slice ao x.1.length ac, .int .i64 z] ww fun e w' => e = .returned (.bool (decide (z ∈ x.1))) ∧ Same0 (w.alloc (.cells #[.pointer (some ⟨b, 0, none⟩), .slice (some ⟨lb, off, none⟩) l.length lc, .int .i64 (n : Int)] 202)) w') := fun ww z hk => (contains_term (HA.out ww hk).1.at' hm z).mono (fun e w' ⟨q1, q2⟩ => ⟨q1, by rw [q2]; exact hk⟩)
  have CP : ∀ ww z, Same0 (w.alloc (.cells #[.pointer (some ⟨b, 0, none⟩), .slice (some ⟨lb, off, none⟩) l.length lc, .int .i64 (n : Int)] 202)) ww → Calls Tryz.prog 165 #[.int .i64 z, .pointer (some ⟨w.heap.size, 0, none⟩)] ww fun e w' => e = .returned (.bool (freeB x.1 z)) ∧ Same0 (w.alloc (.cells #[.pointer (some ⟨b, 0, none⟩), .slice (some ⟨lb, off, none⟩) l.length lc, .int .i64 (n : Int)] 202)) w' := by
    intro ww z hw1
    clear W1 CC0 hx h hu hc
    obtain ⟨c1, c2, c3⟩ := HS.out _ hw1
    by_cases hz : z < 0
    · have F : Hid (freeB x.1 z = !decide (z ∈ x.1)) := by show _ = _; simp [freeB, hz]
      generalize freeB x.1 z = q at *
      have CL' := fun ww => CL.out ww z
      generalize decide (z ∈ x.1) = q2 at *
      go_enter Tryz.func165, Tryz.ntmps165
      go_wp2_with (first | (go_at_call 161; refine (CR.out _ (by exact hw1)).mono ?_; rintro e w1 ⟨rfl, hw1⟩; have cc1 := HS.out _ hw1) | (go_at_call 166; refine (CL' _ hw1).mono ?_; rintro e w1 ⟨rfl, hw1⟩))
      go_ret
      exact ⟨by rw [F.out]; rfl, hw1⟩
    · have F : Hid (freeB x.1 z = false) := by show _ = _; simp [freeB, hz]
      go_enter Tryz.func165, Tryz.ntmps165
      go_wp2
      go_ret
      exact ⟨by rw [F.out]; rfl, hw1⟩
  have CB : Hid (∀ ww, Same0 (w.alloc (.cells #[.pointer (some ⟨b, 0, none⟩), .slice (some ⟨lb, off, none⟩) l.length lc, .int .i64 (n : Int)] 202)) ww → Calls Tryz.prog 53 #[.slice bo x.2.length bc, .func (.func 165) #[] #[.pointer (some ⟨w.heap.size, 0, none⟩)]] ww fun e w' => e = .returned (.bool (x.2.any (freeB x.1))) ∧ Same0 (w.alloc (.cells #[.pointer (some ⟨b, 0, none⟩), .slice (some ⟨lb, off, none⟩) l.length lc, .int .i64 (n : Int)] 202)) w') := fun ww hk => containsf_free CP (HA.out _ (Kept.refl _ _)).2.1.at' hm2 hk
  have E : Hid (∀ q : Bool, q = (!x.2.any (freeB x.1)) → (if q = true then [(0, -1)] else [(76, (n : Int))]) = askW L R l 6 n) := by
    intro q hq
    have e1 : x.2.all (fun n => !freeB x.1 n) = !x.2.any (freeB x.1) := by simp [List.all_eq_not_any_not]
    subst hq
    simp only [askW, ckB, askB, wrongL, ← hx, e1]
    rfl
  clear h hu hx hc CP CL
  go_enter Tryz.func144, Tryz.ntmps144
  go_wp2
  go_region_held3 (fun w' => (w'.cell? ⟨b, 0, none⟩ = some (.pointer (some ⟨bs, 0, none⟩)) ∧ w'.cell? ⟨b, 1, none⟩ = some (.slice ro R.length rc)) ∧ (w'.cell? ⟨w.heap.size, 0, none⟩ = some (.pointer (some ⟨b, 0, none⟩)) ∧ w'.cell? ⟨w.heap.size, 1, none⟩ = some (.slice (some ⟨lb, off, none⟩) l.length lc) ∧ w'.cell? ⟨w.heap.size, 2, none⟩ = some (.int .i64 (n : Int))) ∧ w'.cell? ⟨lb, off + n * 2, none⟩ = some (.slice ao x.1.length ac) ∧ w'.cell? ⟨lb, off + n * 2 + 1, none⟩ = some (.slice bo x.2.length bc)) (first | exact cc1 | exact CC0) (first | (go_at_call 161; refine (CR.out _ (by first | exact hw1 | exact W1)).mono ?_; rintro e w1 ⟨rfl, hw1⟩; have cc1 := HS.out _ hw1) | (go_at_call 53; refine (CB.out _ (by first | exact hw1 | exact W1)).mono ?_; rintro e w1 ⟨rfl, hw1⟩; have cc1 := HS.out _ hw1) | (go_at_call 160; refine (CU.out _ _ _ (by first | exact hw1 | exact W1)).mono ?_; rintro e w2 ⟨v, rfl, hv, hw2⟩; have cc1 := HS.out _ hw2))
  all_goals
    go_wp2
    go_ret
    exact ⟨_, rfl, by rw [← E.out _ rfl]; exact hv, W0.trans' hw2⟩
end Go.Proofs.YthamjjhioafkjaaGreat
namespace Go.Proofs.YthamjjhioafkjaaGreat
set_option maxRecDepth 100000
set_option linter.unusedVariables false
open Go.RowKit
attribute [local go_sem ↓] Go.wp_at_zero Go.wp_at_succ
theorem info_rule : (Tryz.prog.info? 118).map (fun i => (i.zero,i.size,i.bytes)) = some (some (.agg #[.slice none 0 0,.slice none 0 0]),2,48) := by kernel_rfl
def RCells (w : World) (vs : List Value) (l : List Ru) : Prop :=
  vs.length = l.length * 2 ∧ ∀ i (h : i < l.length), ∃ ao ac bo bc, vs[i * 2]? = some (.slice ao l[i].1.length ac) ∧ vs[i * 2 + 1]? = some (.slice bo l[i].2.length bc) ∧ Arg w ao l[i].1 ac ∧ Arg w bo l[i].2 bc
theorem RCells.nil (w : World) : RCells w [] [] := ⟨rfl,fun i h => absurd h (by simp)⟩
theorem RCells.same {w w' : World} {vs : List Value} {l : List Ru} (h : RCells w vs l) (hk : Same0 w w') : RCells w' vs l :=
  ⟨h.1, fun i hi => by
    obtain ⟨ao, ac, bo, bc, h1, h2, h3, h4⟩ := h.2 i hi
    exact ⟨ao, ac, bo, bc, h1, h2, h3.same hk, h4.same hk⟩⟩
theorem RCells.append {w : World} {vs us : List Value} {l m : List Ru} (h : RCells w vs l) (k : RCells w us m) : RCells w (vs ++ us) (l ++ m) := by
  refine ⟨by simp [h.1, k.1]; omega, fun i hi => ?_⟩
  by_cases hl : i < l.length
  · rw [List.getElem_append_left hl, List.getElem?_append_left (by rw [h.1]; omega), List.getElem?_append_left (by rw [h.1]; omega)]
    exact h.2 i hl
  · have hm : i - l.length < m.length := by simp at hi; omega
    rw [List.getElem_append_right (by omega), List.getElem?_append_right (by rw [h.1]; omega), List.getElem?_append_right (by rw [h.1]; omega)]
    have e1 : i * 2 - vs.length = (i - l.length) * 2 := by rw [h.1]; omega
    have e2 : i * 2 + 1 - vs.length = (i - l.length) * 2 + 1 := by rw [h.1]; omega
    rw [e1, e2]
    exact k.2 _ hm
theorem RCells.one {w : World} {vs : List Value} {l : List Ru} (h : RCells w vs l) : ∀ u ∈ vs,u.oneCell' = true := by
  intro u hu
  obtain ⟨j, hj, rfl⟩ := List.mem_iff_getElem.1 hu
  have hj' : j / 2 < l.length := by rw [h.1] at hj; omega
  obtain ⟨ao, ac, bo, bc, h1, h2, _⟩ := h.2 (j / 2) hj'
  rcases Nat.mod_two_eq_zero_or_one j with e | e
  · have e1 : j / 2 * 2 = j := by omega
    rw [e1, List.getElem?_eq_getElem hj] at h1
    simp only [Option.some.injEq] at h1
    rw [h1]; rfl
  · have e1 : j / 2 * 2 + 1 = j := by omega
    rw [e1, List.getElem?_eq_getElem hj] at h2
    simp only [Option.some.injEq] at h2
    rw [h2]; rfl
theorem addr_add (b off j : Nat) : (⟨b,off,none⟩ : Addr).add j = ⟨b,off + j,none⟩ := by
  unfold Addr.add
  split
  · rename_i h; subst h; simp
  · simp
theorem RsAt.cells {w : World} {lo : Option Addr} {l : List Ru} (h : RsAt w lo l) : ∃ vs,RCells w vs l ∧ ∀ ad,lo = some ad → ∀ j u,vs[j]? = some u → w.cell? (ad.add j) = some u := by
  rcases h with rfl | ⟨b, off, rfl, hb, hc⟩
  · exact ⟨[], RCells.nil w, fun ad _ j u hj => by simp at hj⟩
  · have key : ∀ j, j < l.length * 2 → ∃ u, w.cell? ⟨b, off + j, none⟩ = some u := fun j hj => by
      obtain ⟨ao, ac, bo, bc, h1, h2, _⟩ := hc (j / 2) (by omega)
      rcases Nat.mod_two_eq_zero_or_one j with e | e
      · exact ⟨_, by rw [← h1]; congr 2; omega⟩
      · exact ⟨_, by rw [← h2]; congr 2; omega⟩
    refine ⟨(List.range (l.length * 2)).map (fun j => (w.cell? ⟨b, off + j, none⟩).getD undef), ⟨by simp, fun i hi => ?_⟩, fun ad e j u hj => ?_⟩
    · obtain ⟨ao, ac, bo, bc, h1, h2, h3, h4⟩ := hc i hi
      have g1 : i * 2 < l.length * 2 := by omega
      have g2 : i * 2 + 1 < l.length * 2 := by omega
      have h2' : w.cell? ⟨b, off + (i * 2 + 1), none⟩ = some (.slice bo l[i].2.length bc) := by rw [← h2]; congr 2
      exact ⟨ao, ac, bo, bc, by simp [g1, h1], by simp [g2, h2'], h3, h4⟩
    · cases e
      rw [addr_add]
      have hlt : j < l.length * 2 := by have := (List.getElem?_eq_some_iff.1 hj).1; simpa using this
      obtain ⟨v, hv⟩ := key j hlt
      simp [hlt, hv] at hj
      rw [hv, hj]
theorem row_rules {w : World} {base N : Nat} {v : Value} {vs : List Value} {l : List Ru} (hr : w.ownsRow base 118 2 v N vs) (hc : RCells w vs l) : ∃ ao cap,v = .slice ao l.length cap ∧ RsAt w ao l ∧ (ao = none → cap = 0) ∧ N = l.length := by
  have hN : N = l.length := by have := hr.1; rw [hc.1] at this; omega
  subst hN
  rcases hr.2 with ⟨rfl, h0⟩ | ⟨g, cap, cur, rfl, _, hg, _, _, _, ht⟩
  · exact ⟨none, 0, by rw [h0], .inl (List.eq_nil_of_length_eq_zero h0), fun _ => rfl, rfl⟩
  · refine ⟨_, cap, rfl, .inr ⟨g, 0, rfl, lt_of_at hg, fun i hi => ?_⟩, (fun e => by cases e), rfl⟩
    obtain ⟨ao, ac, bo, bc, h1, h2, h3, h4⟩ := hc.2 i hi
    have q1 := hr.cells (g := g) rfl _ _ h1
    have q2 := hr.cells (g := g) rfl _ _ h2
    rw [addr_add] at q1 q2
    exact ⟨ao, ac, bo, bc, q1, by rw [← q2]; congr 2, h3, h4⟩
theorem RsAt.src {w : World} {lo : Option Addr} {l : List Ru} (h : RsAt w lo l) : ∃ us,RCells w us l ∧ Hid (∀ ww,Same0 w ww → ∀ ad,lo = some ad → ∀ j u,us[j]? = some u → ww.cell? (ad.add j) = some u) := by
  obtain ⟨us, h1, h2⟩ := h.cells
  refine ⟨us, h1, fun ww hk ad e j u hj => ?_⟩
  have := h2 ad e j u hj
  exact (hk.cell (World.block_lt_of_cell? w _ this) (fun f => f)).trans this
theorem wpList_rules {w0 W : World} {ops : Array Oper} {rest : List Oper} {o : Oper} {a : Act} {Q : Exit → Act → World → Prop} (hgd : o.guard = none) (s x : Operand)
    (ho : o.op = .call { callee := .builtin .append, args := #[s, x], argTypes := #[37, 37] })
    (base N : Nat) (vs : List Value) (v : Value) (hs : a.eval s = v) (hr : w0.ownsRow base 118 2 v N vs) (lo : Option Addr) (lc : Nat) (l : List Ru) (us : List Value) (hx : a.eval x = .slice lo l.length lc) (hc : RCells W us l) (hu : ∀ ad, lo = some ad → ∀ j u, us[j]? = some u → w0.cell? (ad.add j) = some u) (hn : lo = none → lc = 0 ∧ l = []) (hb : base ≤ w0.heap.size) (hsz : N + l.length ≤ 1000)
    (h : ∀ v' w', w'.ownsRow base 118 2 v' (N + l.length) (vs ++ us) → Kept (fun k => v.ownBlock = some k) w0 w' → wpList Tryz.prog ops Q rest (a.put o.dst v') w') :
    wpList Tryz.prog ops Q (o :: rest) a w0 := by
  obtain ⟨i, hi, hz0, hz1, hz2⟩ := info_parts info_rule
  cases lo with
  | none =>
    obtain ⟨rfl, rfl⟩ := hn rfl
    have e0 : us = [] := List.eq_nil_of_length_eq_zero (by simpa using hc.1)
    subst e0
    refine wpList_append_own_none hgd s x 37 ho base 118 i 2 Tryz.underlying37 hi v N vs hs hr hx ?_
    exact h v w0 (by simpa using hr) (Kept.refl _ _)
  | some ad =>
    refine wpList_append_own _ hgd s x 37 ho base 118 i _ 2 48 Tryz.underlying37 hi hz0 hz1 hz2 rfl (by decide) v N vs hs hr ad l.length lc us hx hc.1 (hu ad rfl) hc.one (by unfold maxLen; omega) (by omega) hb ?_
    intro v' w' hown hgrow _
    exact h v' w' hown (Kept.grown (Kept.refl _ w0) hgrow (fun _ e _ => e))
theorem RsAt.none {w : World} {lo : Option Addr} {l : List Ru} {lc : Nat} (h : RsAt w lo l) (hn : lo = none → lc = 0) : lo = none → lc = 0 ∧ l = [] := fun e => ⟨hn e,by
  rcases h with h | ⟨_, _, e', _⟩
  · exact h
  · rw [e] at e'; cases e'⟩
end Go.Proofs.YthamjjhioafkjaaGreat
namespace Go.Proofs.YthamjjhioafkjaaGreat
set_option maxRecDepth 100000
set_option linter.unusedVariables false
open Go.RowKit
attribute [local go_sem ↓] Go.wp_at_zero Go.wp_at_succ
set_option maxHeartbeats 1000000 in
theorem grow_any (w : World) (N : Nat) (hN : N ≤ 1000) :
    Calls Tryz.prog 175 #[.slice none 0 0,.int .i64 (N : Int)] w fun e w' => ∃ v,e = .returned v ∧ w'.ownsRow w.heap.size 118 2 v 0 [] ∧ Same0 w w' := by
  have i0 : ¬ (N : Int) < 0 := by omega
  by_cases h0 : N = 0
  · subst h0
    go_enter Tryz.func175, Tryz.ntmps175
    go_wp2
    go_ret
    exact ⟨_, rfl, World.ownsRow_nil _ _ _ _, Kept.refl _ _⟩
  · obtain ⟨i, hi, hz0, hz1, hz2⟩ := info_parts info_rule
    have i1 : (0 : Int) < (N : Int) := by omega
    have hrun := fun ty => Lib.run_append_nil_zeros (P := Tryz.prog) w 37 3 ty 118 i _ .i64 .i64 Tryz.underlying37 Tryz.underlying3 hi hz0 N (by omega) (by omega) (by omega) (by rw [hz2]; omega)
    have hge := grownCap_ge w N 0 118
    have hle := grownCap_le_maxLen w N 0 118 (by unfold maxLen; omega)
    generalize grownCap w N 0 118 = cap at *
    obtain ⟨Z, hZ⟩ : ∃ Z, Z = Builtin.zeroCells (Value.agg #[.slice none 0 0, .slice none 0 0]).cells N ++ Builtin.zeroCells (Value.agg #[.slice none 0 0, .slice none 0 0]).cells (cap - N) := ⟨_, rfl⟩
    rw [← hZ] at hrun
    have hzs : Z.size = cap * 2 := by
      rw [hZ, Array.size_append, size_zeroCells, size_zeroCells]
      have : (Value.agg #[.slice none 0 0, .slice none 0 0]).cells.size = 2 := rfl
      rw [this]; omega
    have HR : Hid ((w.drew.alloc (.cells Z 118)).ownsRow w.heap.size 118 2 (.slice (some ⟨w.heap.size, 0, none⟩) 0 cap) 0 []) := ⟨rfl, .inr ⟨w.heap.size, cap, Z, rfl, Nat.le_refl _, heap_alloc_new w.drew _, Nat.zero_le _, hle, hzs, by simp⟩⟩
    have HK : Hid (Same0 w (w.drew.alloc (.cells Z 118))) := ((Kept.refl _ w).drew).alloc _
    clear hZ hzs hi hz0 hz1 hz2 hge hle
    have j1 : (0 : Int) ≤ (cap : Int) := by omega
    go_enter Tryz.func175, Tryz.ntmps175
    go_wp2_with (first | (at_builtin; refine Lib.wpList_append_run _ rfl _ _ 37 3 rfl _ _ rfl rfl _ _ (hrun _) ?_))
    go_ret
    exact ⟨_, rfl, HR.out, HK.out⟩
theorem own_kept {w w1 w2 : World} {base N : Nat} {v : Value} {vs : List Value} (hk : Same0 w w1) (hr : w1.ownsRow base 118 2 v N vs) (hb : w.heap.size ≤ base) (k2 : Kept (fun k => v.ownBlock = some k) w1 w2) : Same0 w w2 :=
  Kept.trans hk k2 (fun i hi e => by have := (hr.lt i e).1; omega)
set_option maxHeartbeats 4000000 in
theorem concat_any {w : World} {g : Nat} {ro : Option Addr} {rc : Nat} {R : List Ru} {lo : Option Addr} {lc : Nat} {M : List Ru} (hg : w.heap[g]? = some (.cells #[.slice ro R.length rc,.slice lo M.length lc] 37 (0,0))) (hR : RsAt w ro R) (hM : RsAt w lo M) (n1 : ro = none → rc = 0) (n2 : lo = none → lc = 0) (l1 : R.length ≤ 100) (l2 : M.length ≤ 100) :
    Calls Tryz.prog 167 #[.slice (some ⟨g,0,none⟩) 2 2] w fun e w' => ∃ vo vc,e = .returned (.slice vo (R ++ M).length vc) ∧ RsAt w' vo (R ++ M) ∧ Same0 w w' := by
  have C0 : Hid (∀ ww, Same0 w ww → ww.cell? ⟨g, 0, none⟩ = some (.slice ro R.length rc) ∧ ww.cell? ⟨g, 1, none⟩ = some (.slice lo M.length lc)) := fun ww hk => ⟨cellAt (hk.at0 hg) 0, cellAt (hk.at0 hg) 1⟩
  obtain ⟨c0, c1⟩ := C0.out w (Kept.refl _ _)
  have G := fun ww => grow_any ww (R.length + M.length) (by omega)
  have e1 : ((R.length + M.length : Nat) : Int) = (R.length : Int) + (M.length : Int) := by omega
  rw [e1] at G
  have N1 : Hid (ro = none → rc = 0 ∧ R = []) := hR.none n1
  have N2 : Hid (lo = none → lc = 0 ∧ M = []) := hM.none n2
  obtain ⟨us, hu, US⟩ := hR.src
  obtain ⟨ms, hm, MS⟩ := hM.src
  clear e1 hg n1 n2 hR hM
  go_enter Tryz.func167, Tryz.ntmps167
  go_wp2
  refine wp_loop_rounds 3 ?_
  rw [rounds_succ]
  go_wp2
  rw [rounds_succ]
  go_wp2
  rw [rounds_succ]
  go_wp2_with (first | (go_at_call 175; refine (G _).mono ?_; rintro e w1 ⟨v, rfl, hr, hk⟩))
  obtain ⟨vo, vc, rfl⟩ := row_shape hr
  obtain ⟨d0, d1⟩ := C0.out _ hk
  have z1 := hk.size
  clear c0 c1 G
  refine wp_loop_rounds 3 ?_
  rw [rounds_succ]
  go_wp2_with (first | (at_builtin; refine wpList_rules rfl _ _ rfl w.heap.size 0 [] _ rfl hr ro rc R us rfl hu (US.out _ hk) N1.out z1 (by omega) ?_; intro v2 w2 hr2 k2))
  have s2 := own_kept hk hr (Nat.le_refl _) k2
  obtain ⟨vo2, vc2, rfl⟩ := row_shape hr2
  obtain ⟨f0, f1⟩ := C0.out _ s2
  have z2 := s2.size
  clear d0 d1 z1 hr k2 hk
  rw [rounds_succ]
  go_wp2_with (first | (at_builtin; refine wpList_rules rfl _ _ rfl w.heap.size _ _ _ rfl hr2 lo lc M ms rfl hm (MS.out _ s2) N2.out z2 (by omega) ?_; intro v3 w3 hr3 k3))
  have s3 := own_kept s2 hr2 (Nat.le_refl _) k3
  obtain ⟨vo3, vc3, rfl⟩ := row_shape hr3
  obtain ⟨o3, c3, e3, r3, _, _⟩ := row_rules hr3 (by simpa using (hu.append hm).same s3)
  have E3 : Hid (∃ vo vc, Value.slice vo3 (0 + R.length + M.length) vc3 = .slice vo (R ++ M).length vc ∧ RsAt w3 vo (R ++ M) ∧ Same0 w w3) := ⟨o3, c3, e3, r3, s3⟩
  clear hr2 hr3 k3 e3 r3 s2
  rw [rounds_succ]
  go_wp2
  go_ret
  obtain ⟨vo, vc, q1, q2, q3⟩ := E3.out
  exact ⟨vo, vc, by rw [← q1]; rfl, q2, q3⟩
end Go.Proofs.YthamjjhioafkjaaGreat
