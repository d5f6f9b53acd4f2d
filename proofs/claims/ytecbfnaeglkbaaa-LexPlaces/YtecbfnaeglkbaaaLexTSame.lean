/- The walk of the document's Same: of two rows of the same tokens; how many tokens a text has. -/
import Derived.Test.YtecbfnaeglkbaaaLexRefScan
namespace Go.Proofs.Ytecbfnaeglkbaaa
open Go.RowKit
set_option linter.unusedVariables false
theorem lexF_len (n : Nat) : ∀ (a : Nat) (t : List UInt8) (l : List Tok), t.length ≤ n → lexF a t = .ok l → l.length ≤ t.length + 1 := by
  induction n with
  | zero =>
    intro a t l h hl
    have : t = [] := List.eq_nil_of_length_eq_zero (by omega)
    subst this
    rw [lexF_nil] at hl
    cases hl
    simp
  | succ n ih =>
    intro a t l h hl
    cases t with
    | nil => rw [lexF_nil] at hl; cases hl; simp
    | cons b r =>
      simp only [List.length_cons] at h ⊢
      by_cases h1 : blankB b = true
      · rw [lexF_blank h1] at hl; have := ih _ _ _ (by omega) hl; omega
      · have h1 : blankB b = false := by simpa using h1
        by_cases h2 : b = 37
        · subst h2
          rw [lexF_comment] at hl
          have := (List.dropWhile_sublist (fun x : UInt8 => decide (x ≠ 10)) (l := r)).length_le
          have := ih _ _ _ (by omega) hl
          omega
        · by_cases h3 : beginsK b r = 0
          · rw [lexF_none h1 h2 h3] at hl; cases hl
          · by_cases h4 : wrongK (beginsK b r) (lenK (beginsK b r) r) b = 0
            · rw [lexF_tok h1 h2 h3 h4] at hl
              cases hx : lexF (a + lenK (beginsK b r) r) (r.drop (lenK (beginsK b r) r - 1)) with
              | error e => rw [hx] at hl; cases hl
              | ok m =>
                rw [hx] at hl
                cases hl
                have := ih _ _ _ (by simp; omega) hx
                simp at this ⊢
                omega
            · rw [lexF_wrong h1 h2 h3 h4] at hl; cases hl
theorem scanL_len {t : List UInt8} {l : List Tok} (h : scanL t = .ok l) : l.length ≤ 20001 := by
  unfold scanL at h
  split at h
  · cases h
  · have := lexF_len _ _ _ _ (Nat.le_refl _) h
    omega
set_option maxRecDepth 100000 in
set_option maxHeartbeats 2000000 in
theorem tsame_any {w : World} {b1 b2 : Nat} {va vb : Value} {l : List Tok} (ha : TRow b1 w va l) (hb : TRow b2 w vb l) (hl : l.length ≤ 100000) :
    Calls Try.prog 11 #[va, vb] w fun e w' => e = .returned (.bool true) ∧ ∃ m, w' = w.drewN m := by
  obtain ⟨ao, ac, rfl⟩ := row_shape ha
  obtain ⟨bo, bc, rfl⟩ := row_shape hb
  go_enter Try.func11, Try.ntmps11
  go_wp2
  go_loopw [5] (fun i wr => ∃ k m : Nat, k ≤ l.length ∧ i = .int .i64 (k : Int) ∧ wr = w.drewN m) (fun i _ => l.length - (intOf i).toNat)
  case atStart => exact ⟨0, 0, Nat.zero_le _, rfl, rfl⟩
  case round =>
    obtain ⟨k, m, hk, rfl, rfl⟩ := hrel
    by_cases hlt : k < l.length
    · obtain ⟨g, rfl, _, _, x0, x1, x2⟩ := ha.get hlt
      obtain ⟨h, rfl, _, _, y0, y1, y2⟩ := hb.get hlt
      have i1 : (0 : Int) ≤ (k : Int) := by omega
      have i2 : (k : Int) < (l.length : Int) := by omega
      clear ha hb
      go_wp2
      go_quiet (fail)
      go_wp2
      exact ⟨⟨k + 1, m + nq, by omega, by go_num, rfl⟩, by simp [intOf]; omega⟩
    · have i2 : ¬ (k : Int) < (l.length : Int) := by omega
      go_wp2
      go_ret
      exact ⟨rfl, m, rfl⟩
end Go.Proofs.Ytecbfnaeglkbaaa
