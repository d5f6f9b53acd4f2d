/- The walks of the functions that tell names and variables. -/
import Derived.Test.YthhcnllabhfejaaNamesPlain
import Derived.Test.YthhcnllabhfejaaCommon
import Derived.Test.YthhcnllabhfejaaProg
import Derived.WalkKit
import Derived.WalkSpells
import Derived.WalkLawsBesides
namespace Go.Proofs.Ythhcnllabhfejaa
set_option maxRecDepth 100000
open Go.RowKit
set_option maxHeartbeats 400000 in
theorem small_any (c : Int) (w : World) : Calls Try.prog 64 #[.int .u8 c] w fun e w' => e = .returned (.bool (smB c)) ∧ w' = w := by
  unfold smB
  by_cases h : 97 ≤ c
  all_goals
    go_enter Try.func64, Try.ntmps64
    go_wp2
    go_ret
    exact ⟨by simp [h] <;> omega, rfl⟩
set_option maxHeartbeats 400000 in
theorem digit_any (c : Int) (w : World) : Calls Try.prog 65 #[.int .u8 c] w fun e w' => e = .returned (.bool (dgB c)) ∧ w' = w := by
  unfold dgB
  by_cases h : 48 ≤ c
  all_goals
    go_enter Try.func65, Try.ntmps65
    go_wp2
    go_ret
    exact ⟨by simp [h] <;> omega, rfl⟩
set_option maxHeartbeats 400000 in
theorem rsmall_any (c : Int) (w : World) : Calls Try.prog 53 #[.int .u8 c] w fun e w' => e = .returned (.bool (smB c)) ∧ w' = w := by
  unfold smB
  by_cases h : 97 ≤ c
  all_goals
    go_enter Try.func53, Try.ntmps53
    go_wp2
    go_ret
    exact ⟨by simp [h] <;> omega, rfl⟩
set_option maxHeartbeats 400000 in
theorem rdigit_any (c : Int) (w : World) : Calls Try.prog 54 #[.int .u8 c] w fun e w' => e = .returned (.bool (dgB c)) ∧ w' = w := by
  unfold dgB
  by_cases h : 48 ≤ c
  all_goals
    go_enter Try.func54, Try.ntmps54
    go_wp2
    go_ret
    exact ⟨by simp [h] <;> omega, rfl⟩
def fitB (s : ByteArray) : Bool := decide (1 ≤ s.size) && decide (s.size ≤ 12)
set_option maxHeartbeats 400000 in
theorem fits_any (s : ByteArray) (w : World) : Calls Try.prog 63 #[.string s] w fun e w' => e = .returned (.bool (fitB s)) ∧ w' = w := by
  unfold fitB
  by_cases h : 1 ≤ s.size
  all_goals
    go_enter Try.func63, Try.ntmps63
    go_wp2
    go_ret
    exact ⟨by simp [h] <;> omega, rfl⟩
theorem name_of_loop {s : ByteArray} (h1 : 1 ≤ s.size) (h2 : s.size ≤ 12) (h0 : nmAt 0 (s[0].toNat : Int) = true) (h : ∀ j (hj : j < s.size), 1 ≤ j → nmAt j (s[j].toNat : Int) = true) : NameP s :=
  ⟨h1, h2, fun i hi => by by_cases e : i = 0; · subst e; exact h0
                          · exact h i hi (by omega)⟩
theorem var_of_loop {s : ByteArray} (h1 : 1 ≤ s.size) (h2 : s.size ≤ 12) (h0 : vrAt 0 (s[0].toNat : Int) = true) (h : ∀ j (hj : j < s.size), 1 ≤ j → vrAt j (s[j].toNat : Int) = true) : VarP s :=
  ⟨h1, h2, fun i hi => by by_cases e : i = 0; · subst e; exact h0
                          · exact h i hi (by omega)⟩
set_option maxHeartbeats 1000000 in
theorem isName_any (s : ByteArray) (w : World) (hs : s.size ≤ maxLen) : Calls Try.prog 50 #[.string s] w fun e w' => e = .returned (.bool (nameB s)) ∧ w' = w := by
  unfold maxLen at hs
  by_cases hf : fitB s = true
  · have hf1 : 1 ≤ s.size := by simp [fitB] at hf; omega
    have hf2 : s.size ≤ 12 := by simp [fitB] at hf; omega
    by_cases h0 : smB (s[0].toNat : Int) = true
    · go_enter Try.func50, Try.ntmps50
      go_wp2_with (first | (go_at_call 63; refine (fits_any _ _).mono ?_; rintro e w' ⟨rfl, rfl⟩) | (go_at_call 64; refine (small_any _ _).mono ?_; rintro e w' ⟨rfl, rfl⟩))
      go_loop [3] (fun i => ∃ k : Nat, 1 ≤ k ∧ k ≤ s.size ∧ i = .int .i64 k ∧ ∀ j (hj : j < s.size), 1 ≤ j → j < k → nmAt j (s[j].toNat : Int) = true) (fun i => s.size - (intOf i).toNat)
      case atStart => exact ⟨1, by omega, hf1, rfl, by intro j _ _ _; omega⟩
      case round =>
        obtain ⟨k, hk1, hk, rfl, hal⟩ := hrel
        by_cases hlt : k < s.size
        · by_cases hsm : smB (s[k].toNat : Int) = true
          · have hnx : ∀ j (hj : j < s.size), 1 ≤ j → j < k + 1 → nmAt j (s[j].toNat : Int) = true := by
              intro j hj h1 h2
              by_cases e : j = k
              · subst e; simp [nmAt, hsm]
              · exact hal j hj h1 (by omega)
            go_wp2_with (first | (go_at_call 64; refine (small_any _ _).mono ?_; rintro e w' ⟨rfl, rfl⟩) | (go_at_call 65; refine (digit_any _ _).mono ?_; rintro e w' ⟨rfl, rfl⟩))
            go_round
            case rel => exact ⟨k + 1, by omega, by omega, by go_num, hnx⟩
            case measure => simp [intOf]; omega
          · have hsm' : smB (s[k].toNat : Int) = false := by simpa using hsm
            by_cases hdg : dgB (s[k].toNat : Int) = true
            · have hnx : ∀ j (hj : j < s.size), 1 ≤ j → j < k + 1 → nmAt j (s[j].toNat : Int) = true := by
                intro j hj h1 h2
                by_cases e : j = k
                · subst e; simp [nmAt, hdg]; omega
                · exact hal j hj h1 (by omega)
              go_wp2_with (first | (go_at_call 64; refine (small_any _ _).mono ?_; rintro e w' ⟨rfl, rfl⟩) | (go_at_call 65; refine (digit_any _ _).mono ?_; rintro e w' ⟨rfl, rfl⟩))
              go_round
              case rel => exact ⟨k + 1, by omega, by omega, by go_num, hnx⟩
              case measure => simp [intOf]; omega
            · have hdg' : dgB (s[k].toNat : Int) = false := by simpa using hdg
              have hno : nameB s = false := nameB_no fun h => by have := h.2.2 k hlt; simp [nmAt, hsm', hdg'] at this
              go_wp2_with (first | (go_at_call 64; refine (small_any _ _).mono ?_; rintro e w' ⟨rfl, rfl⟩) | (go_at_call 65; refine (digit_any _ _).mono ?_; rintro e w' ⟨rfl, rfl⟩))
              go_ret
              exact ⟨ret_bool hno.symm, rfl⟩
        · have hyes : nameB s = true := nameB_yes (name_of_loop hf1 hf2 (by simp [nmAt, h0]) fun j hj h1 => hal j hj h1 (by omega))
          go_wp2
          go_ret
          first | exact ⟨rfl, rfl⟩ | exact ⟨ret_bool hyes.symm, rfl⟩
    · have h0' : smB (s[0].toNat : Int) = false := by simpa using h0
      have hno : nameB s = false := nameB_no fun h => by have := h.2.2 0 hf1; simp [nmAt, h0'] at this
      go_enter Try.func50, Try.ntmps50
      go_wp2_with (first | (go_at_call 63; refine (fits_any _ _).mono ?_; rintro e w' ⟨rfl, rfl⟩) | (go_at_call 64; refine (small_any _ _).mono ?_; rintro e w' ⟨rfl, rfl⟩))
      go_ret
      exact ⟨ret_bool hno.symm, rfl⟩
  · have hf' : fitB s = false := by simpa using hf
    have hno : nameB s = false := nameB_no fun h => hf (by simp [fitB, h.1, h.2.1])
    go_enter Try.func50, Try.ntmps50
    go_wp2_with (first | (go_at_call 63; refine (fits_any _ _).mono ?_; rintro e w' ⟨rfl, rfl⟩))
    go_ret
    exact ⟨ret_bool hno.symm, rfl⟩
set_option maxHeartbeats 1000000 in
theorem rIsName_any (s : ByteArray) (w : World) (hs : s.size ≤ maxLen) : Calls Try.prog 34 #[.string s] w fun e w' => e = .returned (.bool (nameB s)) ∧ w' = w := by
  unfold maxLen at hs
  by_cases hf1 : 1 ≤ s.size
  · by_cases hf2 : s.size ≤ 12
    · go_enter Try.func34, Try.ntmps34
      go_wp2
      go_loop [3, 4, 5] (fun i _ _ => ∃ k : Nat, k ≤ s.size ∧ i = .int .i64 k ∧ ∀ j (hj : j < s.size), j < k → nmAt j (s[j].toNat : Int) = true) (fun i _ _ => s.size - (intOf i).toNat)
      case atStart => exact ⟨0, Nat.zero_le _, rfl, by intro j _ _; omega⟩
      case round =>
        obtain ⟨k, hk, rfl, hal⟩ := hrel
        by_cases hlt : k < s.size
        · by_cases hk0 : k = 0
          · subst hk0
            by_cases hsmB : smB (s[0].toNat : Int) = true
            ·
              by_cases hdgB : dgB (s[0].toNat : Int) = true
              ·
                have hnx : ∀ j (hj : j < s.size), j < 0 + 1 → nmAt j (s[j].toNat : Int) = true := by
                  intro j hj h2
                  by_cases e : j = 0
                  · subst e; simp [nmAt, hsmB, hdgB] <;> omega
                  · exact hal j hj (by omega)
                go_wp2_with (first | (go_at_call 53; refine (rsmall_any _ _).mono ?_; rintro e w' ⟨rfl, rfl⟩) | (go_at_call 54; refine (rdigit_any _ _).mono ?_; rintro e w' ⟨rfl, rfl⟩))
                go_round
                case rel => exact ⟨0 + 1, by omega, by go_num, hnx⟩
                case measure => simp [intOf] <;> omega
              · have hdgBn : dgB (s[0].toNat : Int) = false := by simpa using hdgB
                have hnx : ∀ j (hj : j < s.size), j < 0 + 1 → nmAt j (s[j].toNat : Int) = true := by
                  intro j hj h2
                  by_cases e : j = 0
                  · subst e; simp [nmAt, hsmB, hdgBn] <;> omega
                  · exact hal j hj (by omega)
                go_wp2_with (first | (go_at_call 53; refine (rsmall_any _ _).mono ?_; rintro e w' ⟨rfl, rfl⟩) | (go_at_call 54; refine (rdigit_any _ _).mono ?_; rintro e w' ⟨rfl, rfl⟩))
                go_round
                case rel => exact ⟨0 + 1, by omega, by go_num, hnx⟩
                case measure => simp [intOf] <;> omega
            · have hsmBn : smB (s[0].toNat : Int) = false := by simpa using hsmB
              by_cases hdgB : dgB (s[0].toNat : Int) = true
              ·
                have hno : nameB s = false := nameB_no fun h => by have := h.2.2 0 hlt; simp [nmAt, hsmBn, hdgB] at this
                go_wp2_with (first | (go_at_call 53; refine (rsmall_any _ _).mono ?_; rintro e w' ⟨rfl, rfl⟩) | (go_at_call 54; refine (rdigit_any _ _).mono ?_; rintro e w' ⟨rfl, rfl⟩))
                go_ret
                first | exact ⟨rfl, rfl⟩ | exact ⟨ret_bool hno.symm, rfl⟩
              · have hdgBn : dgB (s[0].toNat : Int) = false := by simpa using hdgB
                have hno : nameB s = false := nameB_no fun h => by have := h.2.2 0 hlt; simp [nmAt, hsmBn, hdgBn] at this
                go_wp2_with (first | (go_at_call 53; refine (rsmall_any _ _).mono ?_; rintro e w' ⟨rfl, rfl⟩) | (go_at_call 54; refine (rdigit_any _ _).mono ?_; rintro e w' ⟨rfl, rfl⟩))
                go_ret
                first | exact ⟨rfl, rfl⟩ | exact ⟨ret_bool hno.symm, rfl⟩
          · have hk0' : ((k : Int) == 0) = false := by simp; omega
            have hkp : 0 < k := by omega
            by_cases hsmB : smB (s[k].toNat : Int) = true
            ·
              by_cases hdgB : dgB (s[k].toNat : Int) = true
              ·
                have hnx : ∀ j (hj : j < s.size), j < k + 1 → nmAt j (s[j].toNat : Int) = true := by
                  intro j hj h2
                  by_cases e : j = k
                  · subst e; simp [nmAt, hsmB, hdgB] <;> omega
                  · exact hal j hj (by omega)
                go_wp2_with (first | (go_at_call 53; refine (rsmall_any _ _).mono ?_; rintro e w' ⟨rfl, rfl⟩) | (go_at_call 54; refine (rdigit_any _ _).mono ?_; rintro e w' ⟨rfl, rfl⟩))
                go_round
                case rel => exact ⟨k + 1, by omega, by go_num, hnx⟩
                case measure => simp [intOf] <;> omega
              · have hdgBn : dgB (s[k].toNat : Int) = false := by simpa using hdgB
                have hnx : ∀ j (hj : j < s.size), j < k + 1 → nmAt j (s[j].toNat : Int) = true := by
                  intro j hj h2
                  by_cases e : j = k
                  · subst e; simp [nmAt, hsmB, hdgBn] <;> omega
                  · exact hal j hj (by omega)
                go_wp2_with (first | (go_at_call 53; refine (rsmall_any _ _).mono ?_; rintro e w' ⟨rfl, rfl⟩) | (go_at_call 54; refine (rdigit_any _ _).mono ?_; rintro e w' ⟨rfl, rfl⟩))
                go_round
                case rel => exact ⟨k + 1, by omega, by go_num, hnx⟩
                case measure => simp [intOf] <;> omega
            · have hsmBn : smB (s[k].toNat : Int) = false := by simpa using hsmB
              by_cases hdgB : dgB (s[k].toNat : Int) = true
              ·
                have hnx : ∀ j (hj : j < s.size), j < k + 1 → nmAt j (s[j].toNat : Int) = true := by
                  intro j hj h2
                  by_cases e : j = k
                  · subst e; simp [nmAt, hsmBn, hdgB] <;> omega
                  · exact hal j hj (by omega)
                go_wp2_with (first | (go_at_call 53; refine (rsmall_any _ _).mono ?_; rintro e w' ⟨rfl, rfl⟩) | (go_at_call 54; refine (rdigit_any _ _).mono ?_; rintro e w' ⟨rfl, rfl⟩))
                go_round
                case rel => exact ⟨k + 1, by omega, by go_num, hnx⟩
                case measure => simp [intOf] <;> omega
              · have hdgBn : dgB (s[k].toNat : Int) = false := by simpa using hdgB
                have hno : nameB s = false := nameB_no fun h => by have := h.2.2 k hlt; simp [nmAt, hsmBn, hdgBn] at this
                go_wp2_with (first | (go_at_call 53; refine (rsmall_any _ _).mono ?_; rintro e w' ⟨rfl, rfl⟩) | (go_at_call 54; refine (rdigit_any _ _).mono ?_; rintro e w' ⟨rfl, rfl⟩))
                go_ret
                first | exact ⟨rfl, rfl⟩ | exact ⟨ret_bool hno.symm, rfl⟩
        · have hyes : nameB s = true := nameB_yes ⟨hf1, hf2, fun j hj => hal j hj (by omega)⟩
          go_wp2
          go_ret
          first | exact ⟨rfl, rfl⟩ | exact ⟨ret_bool hyes.symm, rfl⟩
    · have hno : nameB s = false := nameB_no fun h => hf2 h.2.1
      go_enter Try.func34, Try.ntmps34
      go_wp2
      go_ret
      first | exact ⟨rfl, rfl⟩ | exact ⟨ret_bool hno.symm, rfl⟩
  · have hno : nameB s = false := nameB_no fun h => hf1 h.1
    go_enter Try.func34, Try.ntmps34
    go_wp2
    go_ret
    first | exact ⟨rfl, rfl⟩ | exact ⟨ret_bool hno.symm, rfl⟩
end Go.Proofs.Ythhcnllabhfejaa
