import Derived.Test.YtbjfpfnfbgncnaaGreatDoorM01
import Derived.Test.YtbjfpfnfbgncnaaGreatDoorM03
import Derived.Test.YtbjfpfnfbgncnaaGreatDoorProg
import Derived.WalkKit
import Derived.WalkSpells
import Derived.WalkLawsBesides
import Derived.Test.YtbjfpfnfbgncnaaGreatDoorM07
/- The walks of the functions that tell names and variables. -/
namespace Go.Proofs.YtbjfpfnfbgncnaaGreatDoor
set_option maxRecDepth 100000
open Go.RowKit
set_option maxHeartbeats 400000 in
theorem small_any (c : Int) (w : World) : Calls Tryz.prog 109 #[.int .u8 c] w fun e w' => e = .returned (.bool (smB c)) ∧ w' = w := by
  unfold smB
  by_cases h : 97 ≤ c
  all_goals
    go_enter Tryz.func109, Tryz.ntmps109
    go_wp2
    go_ret
    exact ⟨by simp [h] <;> omega, rfl⟩
set_option maxHeartbeats 400000 in
theorem digit_any (c : Int) (w : World) : Calls Tryz.prog 110 #[.int .u8 c] w fun e w' => e = .returned (.bool (dgB c)) ∧ w' = w := by
  unfold dgB
  by_cases h : 48 ≤ c
  all_goals
    go_enter Tryz.func110, Tryz.ntmps110
    go_wp2
    go_ret
    exact ⟨by simp [h] <;> omega, rfl⟩
set_option maxHeartbeats 400000 in
theorem rsmall_any (c : Int) (w : World) : Calls Tryz.prog 36 #[.int .u8 c] w fun e w' => e = .returned (.bool (smB c)) ∧ w' = w := by
  unfold smB
  by_cases h : 97 ≤ c
  all_goals
    go_enter Tryz.func36, Tryz.ntmps36
    go_wp2
    go_ret
    exact ⟨by simp [h] <;> omega, rfl⟩
set_option maxHeartbeats 400000 in
theorem rdigit_any (c : Int) (w : World) : Calls Tryz.prog 37 #[.int .u8 c] w fun e w' => e = .returned (.bool (dgB c)) ∧ w' = w := by
  unfold dgB
  by_cases h : 48 ≤ c
  all_goals
    go_enter Tryz.func37, Tryz.ntmps37
    go_wp2
    go_ret
    exact ⟨by simp [h] <;> omega, rfl⟩
def fitB (s : ByteArray) : Bool := decide (1 ≤ s.size) && decide (s.size ≤ 12)
set_option maxHeartbeats 400000 in
theorem fits_any (s : ByteArray) (w : World) : Calls Tryz.prog 108 #[.string s] w fun e w' => e = .returned (.bool (fitB s)) ∧ w' = w := by
  unfold fitB
  by_cases h : 1 ≤ s.size
  all_goals
    go_enter Tryz.func108, Tryz.ntmps108
    go_wp2
    go_ret
    exact ⟨by simp [h] <;> omega, rfl⟩
theorem name_of_loop {s : ByteArray} (h1 : 1 ≤ s.size) (h2 : s.size ≤ 12) (h0 : nmAt 0 (s[0].toNat : Int) = true) (h : ∀ j (hj : j < s.size), 1 ≤ j → nmAt j (s[j].toNat : Int) = true) : NameP s :=
  ⟨h1, h2, fun i hi => by by_cases e : i = 0; · subst e; exact h0
                          · exact h i hi (by omega)⟩
theorem var_of_loop {s : ByteArray} (h1 : 1 ≤ s.size) (h2 : s.size ≤ 12) (h0 : vrAt 0 (s[0].toNat : Int) = true) (h : ∀ j (hj : j < s.size), 1 ≤ j → vrAt j (s[j].toNat : Int) = true) : VarP s :=
  ⟨h1, h2, fun i hi => by by_cases e : i = 0; · subst e; exact h0
                          · exact h i hi (by omega)⟩
set_option maxHeartbeats 1000000 in
theorem isName_any (s : ByteArray) (w : World) (hs : s.size ≤ maxLen) : Calls Tryz.prog 93 #[.string s] w fun e w' => e = .returned (.bool (nameB s)) ∧ w' = w := by
  unfold maxLen at hs
  by_cases hf : fitB s = true
  · have hf1 : 1 ≤ s.size := by simp [fitB] at hf; omega
    have hf2 : s.size ≤ 12 := by simp [fitB] at hf; omega
    by_cases h0 : smB (s[0].toNat : Int) = true
    · go_enter Tryz.func93, Tryz.ntmps93
      go_wp2_with (first | (go_at_call 108; refine (fits_any _ _).mono ?_; rintro e w' ⟨rfl, rfl⟩) | (go_at_call 109; refine (small_any _ _).mono ?_; rintro e w' ⟨rfl, rfl⟩))
      go_loop [3] (fun i => ∃ k : Nat, 1 ≤ k ∧ k ≤ s.size ∧ i = .int .i64 k ∧ ∀ j (hj : j < s.size), 1 ≤ j → j < k → nmAt j (s[j].toNat : Int) = true) (fun i => s.size - (intOf i).toNat)
      case atStart => exact ⟨1, by omega, hf1, rfl, by intro j _ _ _; omega⟩
      case round =>
        obtain ⟨k, hk1, hk, rfl, hal⟩ := hrel
        by_cases hlt : k < s.size
        · by_cases hsm : smB (s[k].toNat : Int) = true
          · have hnx : ∀ j (hj : j < s.size), 1 ≤ j → j < k + 1 → nmAt j (s[j].toNat : Int) = true := by
              intro j hj h1 h2
              by_cases e : j = k
              · subst e; simp [nmAt, hsm]
              · exact hal j hj h1 (by omega)
            go_wp2_with (first | (go_at_call 109; refine (small_any _ _).mono ?_; rintro e w' ⟨rfl, rfl⟩) | (go_at_call 110; refine (digit_any _ _).mono ?_; rintro e w' ⟨rfl, rfl⟩))
            go_round
            case rel => exact ⟨k + 1, by omega, by omega, by go_num, hnx⟩
            case measure => simp [intOf]; omega
          · have hsm' : smB (s[k].toNat : Int) = false := by simpa using hsm
            by_cases hdg : dgB (s[k].toNat : Int) = true
            · have hnx : ∀ j (hj : j < s.size), 1 ≤ j → j < k + 1 → nmAt j (s[j].toNat : Int) = true := by
                intro j hj h1 h2
                by_cases e : j = k
                · subst e; simp [nmAt, hdg]; omega
                · exact hal j hj h1 (by omega)
              go_wp2_with (first | (go_at_call 109; refine (small_any _ _).mono ?_; rintro e w' ⟨rfl, rfl⟩) | (go_at_call 110; refine (digit_any _ _).mono ?_; rintro e w' ⟨rfl, rfl⟩))
              go_round
              case rel => exact ⟨k + 1, by omega, by omega, by go_num, hnx⟩
              case measure => simp [intOf]; omega
            · have hdg' : dgB (s[k].toNat : Int) = false := by simpa using hdg
              have hno : nameB s = false := nameB_no fun h => by have := h.2.2 k hlt; simp [nmAt, hsm', hdg'] at this
              go_wp2_with (first | (go_at_call 109; refine (small_any _ _).mono ?_; rintro e w' ⟨rfl, rfl⟩) | (go_at_call 110; refine (digit_any _ _).mono ?_; rintro e w' ⟨rfl, rfl⟩))
              go_ret
              exact ⟨ret_bool hno.symm, rfl⟩
        · have hyes : nameB s = true := nameB_yes (name_of_loop hf1 hf2 (by simp [nmAt, h0]) fun j hj h1 => hal j hj h1 (by omega))
          go_wp2
          go_ret
          first | exact ⟨rfl, rfl⟩ | exact ⟨ret_bool hyes.symm, rfl⟩
    · have h0' : smB (s[0].toNat : Int) = false := by simpa using h0
      have hno : nameB s = false := nameB_no fun h => by have := h.2.2 0 hf1; simp [nmAt, h0'] at this
      go_enter Tryz.func93, Tryz.ntmps93
      go_wp2_with (first | (go_at_call 108; refine (fits_any _ _).mono ?_; rintro e w' ⟨rfl, rfl⟩) | (go_at_call 109; refine (small_any _ _).mono ?_; rintro e w' ⟨rfl, rfl⟩))
      go_ret
      exact ⟨ret_bool hno.symm, rfl⟩
  · have hf' : fitB s = false := by simpa using hf
    have hno : nameB s = false := nameB_no fun h => hf (by simp [fitB, h.1, h.2.1])
    go_enter Tryz.func93, Tryz.ntmps93
    go_wp2_with (first | (go_at_call 108; refine (fits_any _ _).mono ?_; rintro e w' ⟨rfl, rfl⟩))
    go_ret
    exact ⟨ret_bool hno.symm, rfl⟩
set_option maxHeartbeats 1000000 in
theorem rIsName_any (s : ByteArray) (w : World) (hs : s.size ≤ maxLen) : Calls Tryz.prog 11 #[.string s] w fun e w' => e = .returned (.bool (nameB s)) ∧ w' = w := by
  unfold maxLen at hs
  by_cases hf1 : 1 ≤ s.size
  · by_cases hf2 : s.size ≤ 12
    · go_enter Tryz.func11, Tryz.ntmps11
      go_wp2
      go_loop [3, 4, 5] (fun i _ _ => ∃ k : Nat, k ≤ s.size ∧ i = .int .i64 k ∧ ∀ j (hj : j < s.size), j < k → nmAt j (s[j].toNat : Int) = true) (fun i _ _ => s.size - (intOf i).toNat)
      case atStart => exact ⟨0, Nat.zero_le _, rfl, by intro j _ _; omega⟩
      case round =>
        obtain ⟨k, hk, rfl, hal⟩ := hrel
        by_cases hlt : k < s.size
        · by_cases hk0 : k = 0
          · subst hk0
            by_cases hsmB : smB (s[0].toNat : Int) = true
            ·
              by_cases hdgB : dgB (s[0].toNat : Int) = true
              ·
                have hnx : ∀ j (hj : j < s.size), j < 0 + 1 → nmAt j (s[j].toNat : Int) = true := by
                  intro j hj h2
                  by_cases e : j = 0
                  · subst e; simp [nmAt, hsmB, hdgB] <;> omega
                  · exact hal j hj (by omega)
                go_wp2_with (first | (go_at_call 36; refine (rsmall_any _ _).mono ?_; rintro e w' ⟨rfl, rfl⟩) | (go_at_call 37; refine (rdigit_any _ _).mono ?_; rintro e w' ⟨rfl, rfl⟩))
                go_round
                case rel => exact ⟨0 + 1, by omega, by go_num, hnx⟩
                case measure => simp [intOf] <;> omega
              · have hdgBn : dgB (s[0].toNat : Int) = false := by simpa using hdgB
                have hnx : ∀ j (hj : j < s.size), j < 0 + 1 → nmAt j (s[j].toNat : Int) = true := by
                  intro j hj h2
                  by_cases e : j = 0
                  · subst e; simp [nmAt, hsmB, hdgBn] <;> omega
                  · exact hal j hj (by omega)
                go_wp2_with (first | (go_at_call 36; refine (rsmall_any _ _).mono ?_; rintro e w' ⟨rfl, rfl⟩) | (go_at_call 37; refine (rdigit_any _ _).mono ?_; rintro e w' ⟨rfl, rfl⟩))
                go_round
                case rel => exact ⟨0 + 1, by omega, by go_num, hnx⟩
                case measure => simp [intOf] <;> omega
            · have hsmBn : smB (s[0].toNat : Int) = false := by simpa using hsmB
              by_cases hdgB : dgB (s[0].toNat : Int) = true
              ·
                have hno : nameB s = false := nameB_no fun h => by have := h.2.2 0 hlt; simp [nmAt, hsmBn, hdgB] at this
                go_wp2_with (first | (go_at_call 36; refine (rsmall_any _ _).mono ?_; rintro e w' ⟨rfl, rfl⟩) | (go_at_call 37; refine (rdigit_any _ _).mono ?_; rintro e w' ⟨rfl, rfl⟩))
                go_ret
                first | exact ⟨rfl, rfl⟩ | exact ⟨ret_bool hno.symm, rfl⟩
              · have hdgBn : dgB (s[0].toNat : Int) = false := by simpa using hdgB
                have hno : nameB s = false := nameB_no fun h => by have := h.2.2 0 hlt; simp [nmAt, hsmBn, hdgBn] at this
                go_wp2_with (first | (go_at_call 36; refine (rsmall_any _ _).mono ?_; rintro e w' ⟨rfl, rfl⟩) | (go_at_call 37; refine (rdigit_any _ _).mono ?_; rintro e w' ⟨rfl, rfl⟩))
                go_ret
                first | exact ⟨rfl, rfl⟩ | exact ⟨ret_bool hno.symm, rfl⟩
          · have hk0' : ((k : Int) == 0) = false := by simp; omega
            have hkp : 0 < k := by omega
            by_cases hsmB : smB (s[k].toNat : Int) = true
            ·
              by_cases hdgB : dgB (s[k].toNat : Int) = true
              ·
                have hnx : ∀ j (hj : j < s.size), j < k + 1 → nmAt j (s[j].toNat : Int) = true := by
                  intro j hj h2
                  by_cases e : j = k
                  · subst e; simp [nmAt, hsmB, hdgB] <;> omega
                  · exact hal j hj (by omega)
                go_wp2_with (first | (go_at_call 36; refine (rsmall_any _ _).mono ?_; rintro e w' ⟨rfl, rfl⟩) | (go_at_call 37; refine (rdigit_any _ _).mono ?_; rintro e w' ⟨rfl, rfl⟩))
                go_round
                case rel => exact ⟨k + 1, by omega, by go_num, hnx⟩
                case measure => simp [intOf] <;> omega
              · have hdgBn : dgB (s[k].toNat : Int) = false := by simpa using hdgB
                have hnx : ∀ j (hj : j < s.size), j < k + 1 → nmAt j (s[j].toNat : Int) = true := by
                  intro j hj h2
                  by_cases e : j = k
                  · subst e; simp [nmAt, hsmB, hdgBn] <;> omega
                  · exact hal j hj (by omega)
                go_wp2_with (first | (go_at_call 36; refine (rsmall_any _ _).mono ?_; rintro e w' ⟨rfl, rfl⟩) | (go_at_call 37; refine (rdigit_any _ _).mono ?_; rintro e w' ⟨rfl, rfl⟩))
                go_round
                case rel => exact ⟨k + 1, by omega, by go_num, hnx⟩
                case measure => simp [intOf] <;> omega
            · have hsmBn : smB (s[k].toNat : Int) = false := by simpa using hsmB
              by_cases hdgB : dgB (s[k].toNat : Int) = true
              ·
                have hnx : ∀ j (hj : j < s.size), j < k + 1 → nmAt j (s[j].toNat : Int) = true := by
                  intro j hj h2
                  by_cases e : j = k
                  · subst e; simp [nmAt, hsmBn, hdgB] <;> omega
                  · exact hal j hj (by omega)
                go_wp2_with (first | (go_at_call 36; refine (rsmall_any _ _).mono ?_; rintro e w' ⟨rfl, rfl⟩) | (go_at_call 37; refine (rdigit_any _ _).mono ?_; rintro e w' ⟨rfl, rfl⟩))
                go_round
                case rel => exact ⟨k + 1, by omega, by go_num, hnx⟩
                case measure => simp [intOf] <;> omega
              · have hdgBn : dgB (s[k].toNat : Int) = false := by simpa using hdgB
                have hno : nameB s = false := nameB_no fun h => by have := h.2.2 k hlt; simp [nmAt, hsmBn, hdgBn] at this
                go_wp2_with (first | (go_at_call 36; refine (rsmall_any _ _).mono ?_; rintro e w' ⟨rfl, rfl⟩) | (go_at_call 37; refine (rdigit_any _ _).mono ?_; rintro e w' ⟨rfl, rfl⟩))
                go_ret
                first | exact ⟨rfl, rfl⟩ | exact ⟨ret_bool hno.symm, rfl⟩
        · have hyes : nameB s = true := nameB_yes ⟨hf1, hf2, fun j hj => hal j hj (by omega)⟩
          go_wp2
          go_ret
          first | exact ⟨rfl, rfl⟩ | exact ⟨ret_bool hyes.symm, rfl⟩
    · have hno : nameB s = false := nameB_no fun h => hf2 h.2.1
      go_enter Tryz.func11, Tryz.ntmps11
      go_wp2
      go_ret
      first | exact ⟨rfl, rfl⟩ | exact ⟨ret_bool hno.symm, rfl⟩
  · have hno : nameB s = false := nameB_no fun h => hf1 h.1
    go_enter Tryz.func11, Tryz.ntmps11
    go_wp2
    go_ret
    first | exact ⟨rfl, rfl⟩ | exact ⟨ret_bool hno.symm, rfl⟩
end Go.Proofs.YtbjfpfnfbgncnaaGreatDoor
/- The walks of package sig: what New, has, Len, Find, refusal and At do to a signature. -/
namespace Go.Proofs.YtbjfpfnfbgncnaaGreatDoor
set_option maxRecDepth 100000
open Go.RowKit
set_option maxHeartbeats 400000 in
theorem new_any (w : World) : Calls Tryz.prog 38 #[] w fun e w' => e = .returned (.pointer (some ⟨w.heap.size, 0, none⟩)) ∧ w' = w.alloc (.cells #[.slice none 0 0, .map none] 134) := by
  go_enter Tryz.func38, Tryz.ntmps38
  go_wp2
  go_ret
  exact ⟨rfl, rfl⟩
theorem sig_new (w : World) : SigAt (w.alloc (.cells #[.slice none 0 0, .map none] 134)) w.heap.size [] (.slice none 0 0) none :=
  ⟨heap_alloc_new w _, World.ownsRow_nil _ _ _ _, rfl, by simp [Value.ownBlock], by simp, by simp⟩
set_option maxHeartbeats 400000 in
theorem has_any {w : World} {b : Nat} {L : List Sym} {sv : Value} {mr : Option Nat} (h : SigAt w b L sv mr) (s : ByteArray) (hs : s.size ≤ maxLen) :
    Calls Tryz.prog 94 #[.pointer (some ⟨b, 0, none⟩), .string s] w fun e w' => e = .returned (.bool (findI L s).isSome) ∧ w' = w := by
  have c1 : w.cell? ⟨b, 1, none⟩ = some (.map mr) := cellAt h.blk 1
  have hl := h.map.look hs
  go_enter Tryz.func94, Tryz.ntmps94
  go_wp2
  go_ret
  exact ⟨rfl, rfl⟩
set_option maxHeartbeats 400000 in
theorem len_any {w : World} {b : Nat} {L : List Sym} {sv : Value} {mr : Option Nat} (h : SigAt w b L sv mr) :
    Calls Tryz.prog 88 #[.pointer (some ⟨b, 0, none⟩)] w fun e w' => e = .returned (.int .i64 (L.length : Int)) ∧ w' = w := by
  obtain ⟨ao, cap, rfl⟩ := h.sv
  have c0 : w.cell? ⟨b, 0, none⟩ = some (.slice ao L.length cap) := cellAt h.blk 0
  go_enter Tryz.func88, Tryz.ntmps88
  go_wp2
  go_ret
  exact ⟨rfl, rfl⟩
set_option maxHeartbeats 400000 in
theorem find_any {w : World} {b : Nat} {L : List Sym} {sv : Value} {mr : Option Nat} (h : SigAt w b L sv mr) (s : ByteArray) (hs : s.size ≤ maxLen) :
    Calls Tryz.prog 56 #[.pointer (some ⟨b, 0, none⟩), .string s] w fun e w' => e = .returned (.tuple #[.int .i64 (((findI L s).getD 0 : Nat) : Int), .int .i64 (if (findI L s).isSome then 0 else 14)]) ∧ w' = w := by
  have c1 : w.cell? ⟨b, 1, none⟩ = some (.map mr) := cellAt h.blk 1
  have hl := h.map.look hs
  cases hf : findI L s with
  | none =>
    rw [hf] at hl
    go_enter Tryz.func56, Tryz.ntmps56
    go_wp2
    go_ret2
    exact ⟨rfl, rfl⟩
  | some i =>
    rw [hf] at hl
    go_enter Tryz.func56, Tryz.ntmps56
    go_wp2
    go_ret2
    exact ⟨rfl, rfl⟩
set_option maxHeartbeats 1000000 in
theorem refusal_any {w : World} {b : Nat} {L : List Sym} {sv : Value} {mr : Option Nat} (h : SigAt w b L sv mr) (x : Sym) (hs : x.name.size ≤ maxLen) :
    Calls Tryz.prog 67 #[.pointer (some ⟨b, 0, none⟩), .agg #[.string x.name, .int .i64 x.ar, .bool x.df]] w fun e w' => e = .returned (.int .i64 (addErr L x)) ∧ w' = w.alloc (.cells #[.string x.name, .int .i64 x.ar, .bool x.df] 95) := by
  have h1 : SigAt (w.alloc (.cells #[.string x.name, .int .i64 x.ar, .bool x.df] 95)) b L sv mr := h.kept (Kept.alloc (Kept.refl (fun _ => False) w) _) (fun _ _ f => f)
  have hlen := h.len
  cases hn : nameB x.name with
  | false =>
    have he : addErr L x = 10 := by simp [addErr, hn]
    go_enter Tryz.func67, Tryz.ntmps67
    go_wp2_with (first | (go_at_call 93; refine (isName_any _ _ hs).mono ?_; rintro e w' ⟨rfl, rfl⟩))
    go_ret
    exact ⟨ret_int he.symm, rfl⟩
  | true =>
    by_cases ha : x.ar < 0
    · have he : addErr L x = 11 := by simp [addErr, hn, ha]
      go_enter Tryz.func67, Tryz.ntmps67
      go_wp2_with (first | (go_at_call 93; refine (isName_any _ _ hs).mono ?_; rintro e w' ⟨rfl, rfl⟩))
      go_ret
      exact ⟨ret_int he.symm, rfl⟩
    · by_cases hb : 6 < x.ar
      · have he : addErr L x = 11 := by simp [addErr, hn, hb]
        go_enter Tryz.func67, Tryz.ntmps67
        go_wp2_with (first | (go_at_call 93; refine (isName_any _ _ hs).mono ?_; rintro e w' ⟨rfl, rfl⟩))
        go_ret
        exact ⟨ret_int he.symm, rfl⟩
      · cases hf : (findI L x.name).isSome with
        | true =>
          have he : addErr L x = 12 := by simp [addErr, hn, ha, hb, hf]
          go_enter Tryz.func67, Tryz.ntmps67
          go_wp2_with (first | (go_at_call 93; refine (isName_any _ _ hs).mono ?_; rintro e w' ⟨rfl, rfl⟩) | (go_at_call 94; refine (has_any h1 _ hs).mono ?_; rintro e w' ⟨rfl, rfl⟩))
          go_ret
          exact ⟨ret_int he.symm, rfl⟩
        | false =>
          by_cases hm : 64 ≤ L.length
          · have he : addErr L x = 13 := by simp [addErr, hn, ha, hb, hf, hm]
            go_enter Tryz.func67, Tryz.ntmps67
            go_wp2_with (first | (go_at_call 93; refine (isName_any _ _ hs).mono ?_; rintro e w' ⟨rfl, rfl⟩) | (go_at_call 94; refine (has_any h1 _ hs).mono ?_; rintro e w' ⟨rfl, rfl⟩) | (go_at_call 88; refine (len_any h1).mono ?_; rintro e w' ⟨rfl, rfl⟩))
            go_ret
            exact ⟨ret_int he.symm, rfl⟩
          · have he : addErr L x = 0 := by simp [addErr, hn, ha, hb, hf, hm]
            go_enter Tryz.func67, Tryz.ntmps67
            go_wp2_with (first | (go_at_call 93; refine (isName_any _ _ hs).mono ?_; rintro e w' ⟨rfl, rfl⟩) | (go_at_call 94; refine (has_any h1 _ hs).mono ?_; rintro e w' ⟨rfl, rfl⟩) | (go_at_call 88; refine (len_any h1).mono ?_; rintro e w' ⟨rfl, rfl⟩))
            go_ret
            exact ⟨ret_int he.symm, rfl⟩
end Go.Proofs.YtbjfpfnfbgncnaaGreatDoor
