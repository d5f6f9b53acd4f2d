/- The walks of the smallest functions of package lex and of the document's answer: kinds of bytes and runes. -/
import Derived.Test.YtecbfnaeglkbaaaLexPlain
import Derived.Test.YtecbfnaeglkbaaaProg
import Derived.WalkKit
import Derived.WalkSpells
import Derived.WalkLawsBesides
namespace Go.Proofs.Ytecbfnaeglkbaaa
open Go.RowKit
set_option linter.unusedVariables false
set_option linter.unusedSimpArgs false
theorem ret_int {k : IntKind} {a b : Int} (h : a = b) : Ending.returned (.int k a) = .returned (.int k b) := by rw [h]
theorem ret_bool {a b : Bool} (h : a = b) : Ending.returned (.bool a) = .returned (.bool b) := by rw [h]
set_option maxHeartbeats 400000 in
theorem lsmall_any (c : Int) (w : World) : Calls Try.prog 22 #[.int .i32 c] w fun e w' => e = .returned (.bool (smB c)) ∧ w' = w := by
  unfold smB
  by_cases h : 97 ≤ c
  all_goals
    go_enter Try.func22, Try.ntmps22
    go_wp2
    go_ret
    exact ⟨by simp [h] <;> omega, rfl⟩
set_option maxHeartbeats 400000 in
theorem lgreat_any (c : Int) (w : World) : Calls Try.prog 23 #[.int .i32 c] w fun e w' => e = .returned (.bool (grB c)) ∧ w' = w := by
  unfold grB
  by_cases h : 65 ≤ c
  all_goals
    go_enter Try.func23, Try.ntmps23
    go_wp2
    go_ret
    exact ⟨by simp [h] <;> omega, rfl⟩
set_option maxHeartbeats 400000 in
theorem ldigit_any (c : Int) (w : World) : Calls Try.prog 24 #[.int .i32 c] w fun e w' => e = .returned (.bool (dgB c)) ∧ w' = w := by
  unfold dgB
  by_cases h : 48 ≤ c
  all_goals
    go_enter Try.func24, Try.ntmps24
    go_wp2
    go_ret
    exact ⟨by simp [h] <;> omega, rfl⟩
set_option maxHeartbeats 400000 in
theorem rsmall_any (c : Int) (w : World) : Calls Try.prog 27 #[.int .u8 c] w fun e w' => e = .returned (.bool (smB c)) ∧ w' = w := by
  unfold smB
  by_cases h : 97 ≤ c
  all_goals
    go_enter Try.func27, Try.ntmps27
    go_wp2
    go_ret
    exact ⟨by simp [h] <;> omega, rfl⟩
set_option maxHeartbeats 400000 in
theorem rgreat_any (c : Int) (w : World) : Calls Try.prog 28 #[.int .u8 c] w fun e w' => e = .returned (.bool (grB c)) ∧ w' = w := by
  unfold grB
  by_cases h : 65 ≤ c
  all_goals
    go_enter Try.func28, Try.ntmps28
    go_wp2
    go_ret
    exact ⟨by simp [h] <;> omega, rfl⟩
set_option maxHeartbeats 400000 in
theorem rdigit_any (c : Int) (w : World) : Calls Try.prog 29 #[.int .u8 c] w fun e w' => e = .returned (.bool (dgB c)) ∧ w' = w := by
  unfold dgB
  by_cases h : 48 ≤ c
  all_goals
    go_enter Try.func29, Try.ntmps29
    go_wp2
    go_ret
    exact ⟨by simp [h] <;> omega, rfl⟩
/-- The kind of the piece that a rune begins. -/
def begunZ (r : Int) : Int := if smB r = true then 1 else if grB r = true then 2 else if dgB r = true then 3 else if r = 9 then -2 else if r = 10 then -2 else if r = 13 then -2 else if r = 32 then -2 else if r = 37 then -1 else if r = 40 then 4 else if r = 41 then 5 else if r = 44 then 6 else if r = 59 then 7 else if r = 45 then 8 else if r = 47 then 9 else if r = 46 then 10 else if r = 58 then 11 else if r = 42 then 12 else 0
set_option maxHeartbeats 4000000 in
theorem begun_any (r : Int) (w : World) : Calls Try.prog 14 #[.int .i32 r] w fun e w' => e = .returned (.int .i64 (begunZ r)) ∧ w' = w := by
  go_enter Try.func14, Try.ntmps14
  go_wp2_with (first | (go_at_call 22; refine (lsmall_any _ _).mono ?_; rintro e w' ⟨rfl, rfl⟩) | (go_at_call 23; refine (lgreat_any _ _).mono ?_; rintro e w' ⟨rfl, rfl⟩) | (go_at_call 24; refine (ldigit_any _ _).mono ?_; rintro e w' ⟨rfl, rfl⟩))
  all_goals
    go_ret
    refine ⟨ret_int ?_, rfl⟩
    simp_all [begunZ]
/-- Does a rune, so many bytes behind a piece's beginning, belong to it? -/
def onZ (kind at' r : Int) : Bool := if kind = 2 then grB r || (smB r || dgB r) else if kind = 1 then smB r || dgB r else if kind = 3 then dgB r else if kind = 8 then decide (at' = 1) && (r == 62) else if kind = -1 then r != 10 else false
set_option maxHeartbeats 4000000 in
theorem goesOn_any (kind at' r : Int) (w : World) : Calls Try.prog 25 #[.int .i64 kind, .int .i64 at', .int .i32 r] w fun e w' => e = .returned (.bool (onZ kind at' r)) ∧ w' = w := by
  by_cases h1 : at' = 1
  all_goals
    go_enter Try.func25, Try.ntmps25
    go_wp2_with (first | (go_at_call 22; refine (lsmall_any _ _).mono ?_; rintro e w' ⟨rfl, rfl⟩) | (go_at_call 23; refine (lgreat_any _ _).mono ?_; rintro e w' ⟨rfl, rfl⟩) | (go_at_call 24; refine (ldigit_any _ _).mono ?_; rintro e w' ⟨rfl, rfl⟩))
    all_goals
      go_ret
      refine ⟨ret_bool ?_, rfl⟩
      simp_all [onZ]
set_option maxHeartbeats 400000 in
theorem isToken_any (kind : Int) (w : World) : Calls Try.prog 17 #[.int .i64 kind] w fun e w' => e = .returned (.bool (decide (0 < kind))) ∧ w' = w := by
  go_enter Try.func17, Try.ntmps17
  go_wp2
  go_ret
  exact ⟨rfl, rfl⟩
theorem u8_eq (b : UInt8) (n : Nat) (h : n < 256) : ((b.toNat : Int) = (n : Int)) ↔ b = UInt8.ofNat n := by
  rw [← UInt8.toNat_inj, UInt8.toNat_ofNat']
  have : n % 2 ^ 8 = n := Nat.mod_eq_of_lt h
  rw [this]; omega
def blankZ (c : Int) : Bool := decide (c = 9 ∨ c = 10 ∨ c = 13 ∨ c = 32)
set_option maxHeartbeats 400000 in
theorem rblank_int (c : Int) (w : World) : Calls Try.prog 19 #[.int .u8 c] w fun e w' => e = .returned (.bool (blankZ c)) ∧ w' = w := by
  go_enter Try.func19, Try.ntmps19
  go_wp2
  all_goals
    go_ret
    refine ⟨ret_bool ?_, rfl⟩
    rw [Bool.eq_iff_iff]
    simp_all [blankZ]
theorem blankZ_eq (b : UInt8) : blankZ (b.toNat : Int) = blankB b := by
  have h1 : ((b.toNat : Int) = 9) ↔ b = 9 := u8_eq b 9 (by omega)
  have h2 : ((b.toNat : Int) = 10) ↔ b = 10 := u8_eq b 10 (by omega)
  have h3 : ((b.toNat : Int) = 13) ↔ b = 13 := u8_eq b 13 (by omega)
  have h4 : ((b.toNat : Int) = 32) ↔ b = 32 := u8_eq b 32 (by omega)
  unfold blankZ blankB
  rw [decide_eq_decide, h1, h2, h3, h4]
theorem rblank_any (b : UInt8) (w : World) : Calls Try.prog 19 #[.int .u8 (b.toNat : Int)] w fun e w' => e = .returned (.bool (blankB b)) ∧ w' = w := by
  rw [← blankZ_eq]; exact rblank_int _ w
def markZ (c : Int) : Int := if c = 40 then 4 else if c = 41 then 5 else if c = 44 then 6 else if c = 59 then 7 else if c = 47 then 9 else if c = 46 then 10 else if c = 58 then 11 else if c = 42 then 12 else 0
set_option maxHeartbeats 1000000 in
theorem rmark_int (c : Int) (w : World) : Calls Try.prog 30 #[.int .u8 c] w fun e w' => e = .returned (.int .i64 (markZ c)) ∧ w' = w := by
  go_enter Try.func30, Try.ntmps30
  go_wp2
  all_goals
    go_ret
    refine ⟨ret_int ?_, rfl⟩
    simp_all [markZ]
theorem markZ_eq (b : UInt8) : markZ (b.toNat : Int) = (markK b : Int) := by
  have h0 : ((b.toNat : Int) = 40) ↔ b = 40 := u8_eq b 40 (by omega)
  have h1 : ((b.toNat : Int) = 41) ↔ b = 41 := u8_eq b 41 (by omega)
  have h2 : ((b.toNat : Int) = 44) ↔ b = 44 := u8_eq b 44 (by omega)
  have h3 : ((b.toNat : Int) = 59) ↔ b = 59 := u8_eq b 59 (by omega)
  have h4 : ((b.toNat : Int) = 47) ↔ b = 47 := u8_eq b 47 (by omega)
  have h5 : ((b.toNat : Int) = 46) ↔ b = 46 := u8_eq b 46 (by omega)
  have h6 : ((b.toNat : Int) = 58) ↔ b = 58 := u8_eq b 58 (by omega)
  have h7 : ((b.toNat : Int) = 42) ↔ b = 42 := u8_eq b 42 (by omega)
  unfold markZ markK
  simp only [h0, h1, h2, h3, h4, h5, h6, h7]
  clear h0 h1 h2 h3 h4 h5 h6 h7
  repeat' split
  all_goals rfl
theorem rmark_any (b : UInt8) (w : World) : Calls Try.prog 30 #[.int .u8 (b.toNat : Int)] w fun e w' => e = .returned (.int .i64 (markK b : Int)) ∧ w' = w := by
  rw [← markZ_eq]; exact rmark_int _ w
end Go.Proofs.Ytecbfnaeglkbaaa
