import Derived.Test.YtbjckinehhlknaaGreatDoorM05
/- The walks of the document's small functions (ref03): goes, begins, length. -/
namespace Go.Proofs.YtbjckinehhlknaaGreatDoor
open Go.RowKit
set_option linter.unusedVariables false
set_option linter.unusedSimpArgs false
set_option maxHeartbeats 2000000 in
theorem rgoes_any (kind : Nat) (b : UInt8) (w : World) : Calls Tryz.prog 157 #[.int .i64 (kind : Int), .int .u8 (b.toNat : Int)] w fun e w' => e = .returned (.bool (goesB kind b)) ∧ w' = w := by
  have e1 : dgB (b.toNat : Int) = dgU b := rfl
  have e2 : smB (b.toNat : Int) = smU b := rfl
  have e3 : grB (b.toNat : Int) = grU b := rfl
  cases h1 : dgB (b.toNat : Int) <;> cases h2 : smB (b.toNat : Int) <;> cases h3 : grB (b.toNat : Int)
  all_goals
    rw [h1] at e1; rw [h2] at e2; rw [h3] at e3
    have g1 := e1.symm; have g2 := e2.symm; have g3 := e3.symm
    clear e1 e2 e3
    go_enter Tryz.func157, Tryz.ntmps157
    go_wp2_with (first | (go_at_call 153; refine (r3small_any _ _).mono ?_; rintro e w' ⟨rfl, rfl⟩) | (go_at_call 154; refine (r3great_any _ _).mono ?_; rintro e w' ⟨rfl, rfl⟩) | (go_at_call 155; refine (r3digit_any _ _).mono ?_; rintro e w' ⟨rfl, rfl⟩))
    all_goals
      go_ret
      refine ⟨ret_bool ?_, rfl⟩
      unfold goesB
      rw [g1, g2, g3]
      simp_all <;> omega
/-- The bytes behind a place. -/
def rst (s : ByteArray) (p : Nat) : List UInt8 := s.data.toList.drop (p + 1)
theorem drop_at {s : ByteArray} {p : Nat} (h : p < s.size) : s.data.toList.drop p = s[p] :: rst s p := by
  rw [rst, List.drop_eq_getElem_cons (by simpa using h)]; rfl
theorem rst_head {s : ByteArray} {p : Nat} (h : p + 1 < s.size) : (rst s p).head? = some s[p + 1] := by
  rw [rst, List.drop_eq_getElem_cons (by simpa using h)]; rfl
theorem rst_none {s : ByteArray} {p : Nat} (h : ¬ p + 1 < s.size) : rst s p = [] := by
  rw [rst, List.drop_of_length_le (by rw [← size_list]; omega)]
theorem rst_len (s : ByteArray) (p : Nat) : (rst s p).length = s.size - (p + 1) := by rw [rst, List.length_drop, ← size_list]
theorem rst_get {s : ByteArray} {p j : Nat} (h : p + 1 + j < s.size) (h' : j < (rst s p).length) : (rst s p)[j] = s[p + 1 + j] := by
  simp only [rst, List.getElem_drop]; rfl
set_option maxHeartbeats 4000000 in
theorem rbegins_any (s : ByteArray) (p : Nat) (w : World) (hs : s.size ≤ 20000) (hp : p < s.size) : Calls Tryz.prog 132 #[.string s, .int .i64 (p : Int)] w fun e w' => e = .returned (.int .i64 (beginsK s[p] (rst s p) : Int)) ∧ w' = w := by
  have i1 : (0 : Int) ≤ (p : Int) := by omega
  have i2 : (p : Int) < (s.size : Int) := by omega
  cases h1 : smB (s[p].toNat : Int) with
  | true =>
    have H : Hid (beginsK s[p] (rst s p) = 1) := by show _ = _; unfold beginsK; rw [if_pos (show smU s[p] = true from h1)]
    go_enter Tryz.func132, Tryz.ntmps132
    go_wp2_with (first | (go_at_call 153; refine (r3small_any _ _).mono ?_; rintro e w' ⟨rfl, rfl⟩))
    go_ret
    exact ⟨ret_int (by rw [H.out]; rfl), rfl⟩
  | false =>
    have c1 : ¬ smU s[p] = true := by unfold smU; rw [h1]; simp
    cases h2 : grB (s[p].toNat : Int) with
    | true =>
      have H : Hid (beginsK s[p] (rst s p) = 2) := by show _ = _; unfold beginsK; rw [if_neg c1, if_pos (show grU s[p] = true from h2)]
      clear c1
      go_enter Tryz.func132, Tryz.ntmps132
      go_wp2_with (first | (go_at_call 153; refine (r3small_any _ _).mono ?_; rintro e w' ⟨rfl, rfl⟩) | (go_at_call 154; refine (r3great_any _ _).mono ?_; rintro e w' ⟨rfl, rfl⟩))
      go_ret
      exact ⟨ret_int (by rw [H.out]; rfl), rfl⟩
    | false =>
      have c2 : ¬ grU s[p] = true := by unfold grU; rw [h2]; simp
      cases h3 : dgB (s[p].toNat : Int) with
      | true =>
        have H : Hid (beginsK s[p] (rst s p) = 3) := by show _ = _; unfold beginsK; rw [if_neg c1, if_neg c2, if_pos (show dgU s[p] = true from h3)]
        clear c1 c2
        go_enter Tryz.func132, Tryz.ntmps132
        go_wp2_with (first | (go_at_call 153; refine (r3small_any _ _).mono ?_; rintro e w' ⟨rfl, rfl⟩) | (go_at_call 154; refine (r3great_any _ _).mono ?_; rintro e w' ⟨rfl, rfl⟩) | (go_at_call 155; refine (r3digit_any _ _).mono ?_; rintro e w' ⟨rfl, rfl⟩))
        go_ret
        exact ⟨ret_int (by rw [H.out]; rfl), rfl⟩
      | false =>
        have c3 : ¬ dgU s[p] = true := by unfold dgU; rw [h3]; simp
        by_cases h4 : s[p] = 45 ∧ (rst s p).head? = some 62
        · have H : Hid (beginsK s[p] (rst s p) = 8) := by show _ = _; unfold beginsK; rw [if_neg c1, if_neg c2, if_neg c3, if_pos h4]
          have hp1 : p + 1 < s.size := by
            by_cases hp1 : p + 1 < s.size
            · exact hp1
            · have := h4.2; rw [rst_none hp1] at this; simp at this
          have h5 : s[p + 1] = 62 := by have := h4.2; rw [rst_head hp1] at this; simpa using this
          have e4 : ((s[p].toNat : Int) == 45) = true := by rw [h4.1]; rfl
          have e5 : ((s[p + 1].toNat : Int) == 62) = true := by rw [h5]; rfl
          have i3 : (p : Int) + 1 < (s.size : Int) := by omega
          clear c1 c2 c3 h4 h5
          go_enter Tryz.func132, Tryz.ntmps132
          go_wp2_with (first | (go_at_call 153; refine (r3small_any _ _).mono ?_; rintro e w' ⟨rfl, rfl⟩) | (go_at_call 154; refine (r3great_any _ _).mono ?_; rintro e w' ⟨rfl, rfl⟩) | (go_at_call 155; refine (r3digit_any _ _).mono ?_; rintro e w' ⟨rfl, rfl⟩))
          all_goals go_ret
          all_goals exact ⟨ret_int (by rw [H.out]; rfl), rfl⟩
        · have H : Hid (beginsK s[p] (rst s p) = markK s[p]) := begins_mark c1 c2 c3 h4
          clear c1 c2 c3
          by_cases h45 : s[p] = 45
          · have e4 : ((s[p].toNat : Int) == 45) = true := by rw [h45]; rfl
            by_cases hp1 : p + 1 < s.size
            · have e5 : ((s[p + 1].toNat : Int) == 62) = false := by
                rw [beq_eq_false_iff_ne]; intro e
                refine h4 ⟨h45, ?_⟩
                rw [rst_head hp1, (u8_eq s[p + 1] 62 (by omega)).1 e]; rfl
              have i3 : (p : Int) + 1 < (s.size : Int) := by omega
              clear h4 h45
              go_enter Tryz.func132, Tryz.ntmps132
              go_wp2_with (first | (go_at_call 153; refine (r3small_any _ _).mono ?_; rintro e w' ⟨rfl, rfl⟩) | (go_at_call 154; refine (r3great_any _ _).mono ?_; rintro e w' ⟨rfl, rfl⟩) | (go_at_call 155; refine (r3digit_any _ _).mono ?_; rintro e w' ⟨rfl, rfl⟩) | (go_at_call 156; refine (rmark_any _ _).mono ?_; rintro e w' ⟨rfl, rfl⟩))
              all_goals go_ret
              all_goals exact ⟨ret_int (by rw [H.out]), rfl⟩
            · have i3 : ¬ (p : Int) + 1 < (s.size : Int) := by omega
              have d3 : decide ((p : Int) + 1 < (s.size : Int)) = false := by simpa using i3
              clear h4 h45
              go_enter Tryz.func132, Tryz.ntmps132
              go_wp2_with (first | (go_at_call 153; refine (r3small_any _ _).mono ?_; rintro e w' ⟨rfl, rfl⟩) | (go_at_call 154; refine (r3great_any _ _).mono ?_; rintro e w' ⟨rfl, rfl⟩) | (go_at_call 155; refine (r3digit_any _ _).mono ?_; rintro e w' ⟨rfl, rfl⟩) | (go_at_call 156; refine (rmark_any _ _).mono ?_; rintro e w' ⟨rfl, rfl⟩))
              all_goals go_ret
              all_goals exact ⟨ret_int (by rw [H.out]), rfl⟩
          · have e4 : ((s[p].toNat : Int) == 45) = false := by
              rw [beq_eq_false_iff_ne]; intro e; exact h45 ((u8_eq s[p] 45 (by omega)).1 e)
            clear h4 h45
            go_enter Tryz.func132, Tryz.ntmps132
            go_wp2_with (first | (go_at_call 153; refine (r3small_any _ _).mono ?_; rintro e w' ⟨rfl, rfl⟩) | (go_at_call 154; refine (r3great_any _ _).mono ?_; rintro e w' ⟨rfl, rfl⟩) | (go_at_call 155; refine (r3digit_any _ _).mono ?_; rintro e w' ⟨rfl, rfl⟩) | (go_at_call 156; refine (rmark_any _ _).mono ?_; rintro e w' ⟨rfl, rfl⟩))
            all_goals go_ret
            all_goals exact ⟨ret_int (by rw [H.out]), rfl⟩
set_option maxHeartbeats 2000000 in
theorem rlength_any (s : ByteArray) (p kind : Nat) (w : World) (hs : s.size ≤ 20000) (hp : p < s.size) : Calls Tryz.prog 133 #[.string s, .int .i64 (p : Int), .int .i64 (kind : Int)] w fun e w' => e = .returned (.int .i64 (lenK kind (rst s p) : Int)) ∧ w' = w := by
  by_cases h8 : kind = 8
  · subst h8
    go_enter Tryz.func133, Tryz.ntmps133
    go_wp2
    go_ret
    exact ⟨ret_int (by simp [lenK]), rfl⟩
  · have h8' : ((kind : Int) == 8) = false := by rw [beq_eq_false_iff_ne]; omega
    have HL : Hid (∀ k, k ≤ (rst s p).length → (∀ j, (h : j < (rst s p).length) → j < k → goesB kind (rst s p)[j] = true) → (∀ h : k < (rst s p).length, goesB kind (rst s p)[k] = false) → lenK kind (rst s p) = 1 + k) := by
      intro k h1 h2 h3
      rw [lenK_n8 h8, takeWhile_len h1 h2 h3]
    have hlen := rst_len s p
    have HN : Hid ((rst s p).length = s.size - (p + 1)) := hlen
    clear hlen
    go_enter Tryz.func133, Tryz.ntmps133
    go_wp2
    go_loop [7] (fun n => ∃ k : Nat, p + 1 + k ≤ s.size ∧ n = .int .i64 (1 + (k : Int)) ∧ Hid (∀ j, (h : j < (rst s p).length) → j < k → goesB kind (rst s p)[j] = true)) (fun n => s.size - (intOf n).toNat)
    case atStart => exact ⟨0, by omega, rfl, fun j _ h => by omega⟩
    case round =>
      obtain ⟨k, hk, rfl, hal⟩ := hrel
      by_cases hlt : p + 1 + k < s.size
      · have i1 : (0 : Int) ≤ (p : Int) + (1 + (k : Int)) := by omega
        have i2 : (p : Int) + (1 + (k : Int)) < (s.size : Int) := by omega
        have hkr : k < (rst s p).length := by rw [HN.out]; omega
        have HG : Hid ((rst s p)[k] = s[p + 1 + k]) := rst_get hlt hkr
        have hix : ((p : Int) + (1 + (k : Int))).toNat = p + 1 + k := by omega
        have c := rgoes_any kind s[p + 1 + k] w
        cases hon : goesB kind s[p + 1 + k] with
        | true =>
          rw [hon] at c
          have hnx : Hid (∀ j, (h : j < (rst s p).length) → j < k + 1 → goesB kind (rst s p)[j] = true) := by
            intro j h h2
            by_cases e : j = k
            · subst e; rw [HG.out]; exact hon
            · exact hal.out j h (by omega)
          clear hon HL hal HG HN
          go_wp2_with (go_at_call 157; refine c.mono ?_; rintro e w' ⟨rfl, rfl⟩)
          go_round
          case rel => first | exact ⟨k + 1, by omega, by go_num, hnx⟩ | (refine ⟨trivial, ?_⟩; (repeat apply Exists.intro); exact ⟨⟨k + 1, by omega, by go_num, hnx⟩, rfl⟩)
          case measure => simp [intOf]; omega
        | false =>
          rw [hon] at c
          have hE : Hid (lenK kind (rst s p) = 1 + k) := HL.out k (by omega) hal.out (fun h => by rw [HG.out]; exact hon)
          clear hon HL hal HG HN
          go_wp2_with (go_at_call 157; refine c.mono ?_; rintro e w' ⟨rfl, rfl⟩)
          go_ret
          exact ⟨ret_int (by rw [hE.out]; omega), rfl⟩
      · have hE : Hid (lenK kind (rst s p) = 1 + k) := HL.out k (by rw [HN.out]; omega) hal.out (fun h => by rw [HN.out] at h; omega)
        have i2 : ¬ (p : Int) + (1 + (k : Int)) < (s.size : Int) := by omega
        clear HL hal HN
        go_wp2
        go_ret
        exact ⟨ret_int (by rw [hE.out]; omega), rfl⟩
end Go.Proofs.YtbjckinehhlknaaGreatDoor
