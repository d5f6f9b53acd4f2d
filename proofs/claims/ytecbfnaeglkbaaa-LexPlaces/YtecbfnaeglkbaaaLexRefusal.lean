/- The walk of why a piece may not stand in a text (package lex). -/
import Derived.Test.YtecbfnaeglkbaaaLexPiece
namespace Go.Proofs.Ytecbfnaeglkbaaa
open Go.RowKit
set_option linter.unusedVariables false
set_option linter.unusedSimpArgs false
theorem str_ne {a b : ByteArray} (h : ¬ a = b) : (a.toList == b.toList) = false  := by
  rw [beq_eq_false_iff_ne]
  intro e
  rw [ByteArray.toList_eq, ByteArray.toList_eq] at e
  exact h (Go.WideShapes.bytes_inj e)
theorem head48 {p : ByteArray} (h : 0 < p.size) : p.data.toList.head? = some 48 ↔ p[0] = 48 := by
  rw [list_head h]; simp
theorem refZ_3 {p : ByteArray} (h : 0 < p.size) : refZ 3 p = if 9 < p.size ∨ (1 < p.size ∧ p[0] = 48) then 33 else 0 := by
  unfold refZ
  simp only [head48 h]
  rfl
set_option maxHeartbeats 2000000 in
theorem refusal_any (kind : Int) (p : ByteArray) (w : World) (hp : 0 < p.size) (hs : p.size ≤ 20000) : Calls Try.prog 16 #[.int .i64 kind, .string p] w fun e w' => e = .returned (.int .i64 (refZ kind p)) ∧ w' = w := by
  by_cases h0 : kind = 0
  · subst h0
    go_enter Try.func16, Try.ntmps16
    go_wp2
    go_ret
    exact ⟨ret_int rfl, rfl⟩
  · by_cases h8 : kind = 8
    · subst h8
      by_cases he : p = ⟨#[45, 62]⟩
      · subst he
        go_enter Try.func16, Try.ntmps16
        go_wp2
        go_ret
        exact ⟨ret_int (by simp [refZ]), rfl⟩
      · have hne : (p.toList == [45, 62]) = false := by
          rw [beq_eq_false_iff_ne]
          intro e
          rw [ByteArray.toList_eq] at e
          exact he (Go.WideShapes.bytes_inj e)
        have H : Hid (refZ 8 p = 31) := by show _ = _; simp [refZ, he]
        go_enter Try.func16, Try.ntmps16
        go_wp2
        go_ret
        exact ⟨ret_int H.out.symm, rfl⟩
    · by_cases h3 : kind = 3
      · subst h3
        have i2 : (0 : Int) < (p.size : Int) := by omega
        by_cases h9 : 9 < p.size
        · have H : Hid (refZ 3 p = 33) := by show _ = _; rw [refZ_3 hp, if_pos (.inl h9)]
          have d9 : (9 : Int) < (p.size : Int) := by omega
          go_enter Try.func16, Try.ntmps16
          go_wp2
          go_ret
          exact ⟨ret_int H.out.symm, rfl⟩
        · have d9 : ¬ (9 : Int) < (p.size : Int) := by omega
          by_cases h1 : 1 < p.size
          · have d1 : (1 : Int) < (p.size : Int) := by omega
            by_cases h48 : p[0] = 48
            · have H : Hid (refZ 3 p = 33) := by show _ = _; rw [refZ_3 hp, if_pos (.inr ⟨h1, h48⟩)]
              have e48 : ((p[0].toNat : Int) == 48) = true := by rw [h48]; rfl
              clear h48
              go_enter Try.func16, Try.ntmps16
              go_wp2
              all_goals go_ret
              all_goals exact ⟨ret_int H.out.symm, rfl⟩
            · have H : Hid (refZ 3 p = 0) := by show _ = _; rw [refZ_3 hp, if_neg (fun x => x.elim h9 (fun y => h48 y.2))]
              have e48 : ((p[0].toNat : Int) == 48) = false := by
                rw [beq_eq_false_iff_ne]; intro e; exact h48 ((u8_eq p[0] 48 (by omega)).1 e)
              go_enter Try.func16, Try.ntmps16
              go_wp2
              all_goals go_ret
              all_goals exact ⟨ret_int H.out.symm, rfl⟩
          · have d1 : ¬ (1 : Int) < (p.size : Int) := by omega
            have H : Hid (refZ 3 p = 0) := by show _ = _; rw [refZ_3 hp, if_neg (by omega)]
            go_enter Try.func16, Try.ntmps16
            go_wp2
            all_goals go_ret
            all_goals exact ⟨ret_int H.out.symm, rfl⟩
      · by_cases h12 : 12 < p.size
        · have d12 : (12 : Int) < (p.size : Int) := by omega
          go_enter Try.func16, Try.ntmps16
          go_wp2
          all_goals go_ret
          all_goals exact ⟨ret_int (by simp_all [refZ]), rfl⟩
        · have d12 : ¬ (12 : Int) < (p.size : Int) := by omega
          go_enter Try.func16, Try.ntmps16
          go_wp2
          all_goals go_ret
          all_goals exact ⟨ret_int (by simp_all [refZ]), rfl⟩
end Go.Proofs.Ytecbfnaeglkbaaa
