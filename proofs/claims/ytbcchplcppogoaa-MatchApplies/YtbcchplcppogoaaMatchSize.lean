/- The walks of size, behind of package match, and of Clone of package slices. -/
import Derived.Test.YtbcchplcppogoaaMatchSmall
namespace Go.Proofs.Ytbcchplcppogoaa
set_option maxRecDepth 100000
set_option linter.unusedVariables false
open Go.RowKit
attribute [local go_sem ↓] Go.wp_at_zero Go.wp_at_succ
/-! ### size -/
/-- Each term that stands for a variable has at most so many numbers. -/
def Bnd (σ : Tb) : Prop := ∀ v, (σ v).length ≤ 2000
theorem part_len {σ : Tb} (hb : Bnd σ) (n : Int) : (partL σ n).length ≤ 2000 := by
  unfold partL
  split
  · simp
  · exact hb _
theorem inst_part (σ : Tb) (n : Int) : (inst σ n).length = max 1 (partL σ n).length := by
  rw [inst_len, partL]
  split <;> simp
theorem app_take {σ : Tb} {t : List Int} {k : Nat} (h : k < t.length) : appT σ (t.take (k + 1)) = appT σ (t.take k) ++ inst σ t[k] := by
  rw [take_one h, app_append, app_cons, app_nil, List.append_nil]
theorem app_le {σ : Tb} (hb : Bnd σ) (t : List Int) : (appT σ t).length ≤ 2000 * t.length := by
  induction t with
  | nil => simp [appT]
  | cons n t ih =>
    rw [app_cons, List.length_append, inst_part]
    have := part_len hb n
    simp only [List.length_cons]; omega
set_option maxHeartbeats 2000000 in
theorem size_any {N : Nat} {w : World} {A : Nat} {σ : Tb} (h : TabAt N w A σ) (hb : Bnd σ) {ao : Option Addr} {cap : Nat} {t : List Int} (ht : IntsAt w ao t) (hm : t.length ≤ 2000) (hv : ∀ x ∈ t, -99 ≤ x) :
    Calls Try.prog 37 #[.pointer (some ⟨A, 0, none⟩), .slice ao t.length cap] w fun e w' => e = .returned (.int .i64 ((appT σ t).length : Int)) ∧ w' = w := by
  go_enter Try.func37, Try.ntmps37
  go_wp2
  go_loop [5, 10] (fun s i => ∃ k : Nat, k ≤ t.length ∧ i = .int .i64 (k : Int) ∧ s = .int .i64 ((appT σ (t.take k)).length : Int)) (fun _ i => t.length - (intOf i).toNat)
  case atStart => exact ⟨0, Nat.zero_le _, rfl, by simp [appT]⟩
  case round =>
    obtain ⟨k, hk, rfl, rfl⟩ := hrel
    by_cases hlt : k < t.length
    · obtain ⟨tb, off, rfl, htb, hc⟩ := ht.get hlt
      have i1 : (0 : Int) ≤ (k : Int) := by omega
      have i2 : (k : Int) < (t.length : Int) := by omega
      have c := part_any h t[k] (hv _ (List.getElem_mem hlt))
      have e1 : ((appT σ (t.take (k + 1))).length : Int) = ((appT σ (t.take k)).length : Int) + max 1 ((partL σ t[k]).length : Int) := by
        rw [app_take hlt, List.length_append, inst_part]; omega
      have E1 : Hid (((appT σ (t.take (k + 1))).length : Int) = ((appT σ (t.take k)).length : Int) + max 1 ((partL σ t[k]).length : Int)) := e1
      have b1 := app_le hb (t.take k)
      have b2 : (t.take k).length ≤ 2000 := by rw [List.length_take]; omega
      have b3 := part_len hb t[k]
      have b4 : (appT σ (t.take k)).length ≤ 4000000 := by omega
      clear e1 b1 b2
      generalize (appT σ (t.take k)).length = M at *
      go_wp2_with (first | (go_at_call 38; refine c.mono ?_; rintro e w' ⟨po, pc, rfl, q1, q2, q3, rfl⟩))
      all_goals
        refine ⟨⟨k + 1, by omega, by go_num, ?_⟩, by simp [intOf]; omega⟩
        rw [E1.out]
        first | rfl | (congr 1; omega) | trace_state
    · obtain rfl : k = t.length := by omega
      have e1 : t.take t.length = t := List.take_length
      rw [e1]
      clear e1
      go_wp2
      go_ret
      exact ⟨rfl, rfl⟩
/-! ### behind -/
set_option maxHeartbeats 2000000 in
theorem behind_any {n b : Nat} {w : World} {L : List Sym} (h : Sg n w b L) {ao : Option Addr} {cap : Nat} {t : List Int} (ht : IntsAt w ao t) (hm : t.length ≤ 2000) {p m : Nat} (hp : p ≤ t.length) (hs : scan L 1 (t.drop p) = some m) :
    Calls Try.prog 54 #[.pointer (some ⟨b, 0, none⟩), .slice ao t.length cap, .int .i64 (p : Int)] w fun e w' => e = .returned (.int .i64 ((p + m : Nat) : Int)) ∧ Same0 w w' := by
  have ha := h.2
  go_enter Try.func54, Try.ntmps54
  go_wp2
  go_loopw [2, 7] (fun at' la wr => ∃ q k : Nat, p ≤ q ∧ q ≤ t.length ∧ at' = .int .i64 (q : Int) ∧ la = .int .i64 (k : Int) ∧ k ≤ 6 * (q - p) + 1 ∧ Hid ((scan L k (t.drop q)).map (q + ·) = some (p + m)) ∧ Same0 w wr) (fun at' _ _ => t.length + 1 - (intOf at').toNat)
  case atStart => exact ⟨p, 1, Nat.le_refl _, hp, rfl, rfl, by omega, by show _ = _; rw [hs]; rfl, Kept.refl _ _⟩
  case round =>
    obtain ⟨q, k, h1, h2, rfl, rfl, h3, h4, hk⟩ := hrel
    cases k with
    | zero =>
      have H : Hid (q = p + m) := by
        have := h4.out
        rw [scan_zero] at this
        simpa [Hid] using this
      go_wp2
      go_ret
      exact ⟨ret_int (by rw [H.out]), hk⟩
    | succ k =>
      by_cases hlt : q < t.length
      · obtain ⟨tb, off, rfl, htb, hc⟩ := (ht.same hk).get hlt
        obtain ⟨⟨sv, mr, g1, _⟩, _⟩ := h.same hk
        have H5 : Hid ((scan L (k + arN L t[q]) (t.drop (q + 1))).map (q + 1 + ·) = some (p + m)) := by
          have := h4.out
          rw [List.drop_eq_getElem_cons hlt, scan, Option.map_map] at this
          show _ = _
          rw [← this]
          congr 1
          funext x
          simp; omega
        have hle := arN_le ha t[q]
        have i1 : (0 : Int) ≤ (q : Int) := by omega
        have i2 : (q : Int) < (t.length : Int) := by omega
        clear h4
        by_cases hx : t[q] < 0 ∨ (L.length : Int) ≤ t[q]
        · have e1 := ar_no (L := L) hx
          rw [e1] at H5
          have c := at_no g1 t[q] hx
          clear hle e1
          go_wp2_with (first | (go_at_call 63; refine c.mono ?_; rintro e w' ⟨rfl, hk1⟩))
          exact ⟨⟨q + 1, k, by omega, by omega, by go_num, by go_num, by omega, H5, (hk.trans' hk1).alloc _⟩, by simp [intOf]; omega⟩
        · obtain ⟨i, hi'⟩ : ∃ i : Nat, t[q] = (i : Int) := ⟨t[q].toNat, by omega⟩
          have hi : i < L.length := by omega
          have e1 := ar_of ha hi
          rw [hi'] at H5 hle hc
          generalize arN L (i : Int) = a at *
          have c := at_yes g1 i hi
          have e2 : Hid (L[i].ar = (a : Int)) := e1.symm
          have E2 := e2.out
          rw [E2] at c
          clear e1 E2 hx hi' e2
          go_wp2_with (first | (go_at_call 63; refine c.mono ?_; rintro e w' ⟨rfl, hk1⟩))
          exact ⟨⟨q + 1, k + a, by omega, by omega, by go_num, by congr 1; omega, by omega, H5, (hk.trans' hk1).alloc _⟩, by simp [intOf]; omega⟩
      · exfalso
        have := h4.out
        rw [List.drop_eq_nil_of_le (by omega)] at this
        simp [scan] at this
/-! ### Clone -/
set_option maxHeartbeats 2000000 in
theorem clone_term {w : World} {ao : Option Addr} {cap : Nat} {xs : List Int} (hx : IntsAt w ao xs) (hn : 0 < xs.length) (hsz : xs.length ≤ 2000) :
    Calls Try.prog 55 #[.slice ao xs.length cap] w fun e w' => ∃ v, e = .returned v ∧ Row w.heap.size w' v xs ∧ Same0 w w' := by
  obtain ⟨xb, off, rfl, hxb, hc⟩ := hx.get hn
  have k0 : Same0 w (w.alloc (.cells #[] 3)) := (Kept.refl _ w).alloc _
  have r0 : Row w.heap.size (w.alloc (.cells #[] 3)) (.slice (some ⟨w.heap.size, 0, none⟩) 0 0) [] := row_empty w _ (Nat.le_refl _) rfl
  have cI := hx.same k0
  have z0 := k0.size
  have hnil := eqnil
  go_enter Try.func55, Try.ntmps55
  go_wp2_with (first | (at_builtin; refine wpList_more rfl _ _ 25 rfl Try.underlying25 w.heap.size [] _ rfl r0 xs _ _ _ rfl rfl cI z0 (by simp; omega) ?_; intro v' w4 hr4 hk4))
  go_ret
  exact ⟨_, rfl, by simpa using hr4, k0.onto r0 hk4⟩
end Go.Proofs.Ytbcchplcppogoaa
