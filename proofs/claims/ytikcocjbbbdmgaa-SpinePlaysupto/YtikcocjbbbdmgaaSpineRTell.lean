/- The walks of the document's Path and Nodes. -/
import Derived.Test.YtikcocjbbbdmgaaSpineLent
namespace Go.Proofs.Ytikcocjbbbdmgaa
set_option maxRecDepth 100000
set_option linter.unusedVariables false
open Go.RowKit
attribute [local go_sem ↓] Go.wp_at_zero Go.wp_at_succ
set_option maxHeartbeats 2000000 in
theorem rpath_any {B : Nat → Prop} {base : Nat} {w : World} {s : Nat} {v : Value} {l : List Fr} (p : SpT 55 B base w s v l) (hl : (pathsL l).length * 8 ≤ 140737488355328) :
    Calls Try.prog 33 #[.pointer (some ⟨s, 0, none⟩)] w fun e w' => ∃ u, e = .returned u ∧ Row w.heap.size w' u (pathsL l) ∧ Same0 w w' := by
  have hmx : l.length ≤ 9223372036854775807 := by
    obtain ⟨vs, h1, _⟩ := p.row
    rcases h1.2 with ⟨_, e⟩ | ⟨_, _, _, _, _, _, h2, h3, _⟩
    · omega
    · unfold maxLen at h3; omega
  obtain ⟨vo, vc, rfl⟩ := p.row.shape
  have HS : Hid (∀ ww, Same0 w ww → SpT 55 B base ww s (.slice vo l.length vc) l) := fun ww hk => p.same hk
  have HL : Hid ((pathsL l).length * 8 ≤ 140737488355328) := hl
  have H0 : Hid (Row w.heap.size w (.slice none (pathsL (l.take 0)).length 0) (pathsL (l.take 0)) ∧ Same0 w w) := ⟨(World.ownsRow_nil _ _ _ _ : Row w.heap.size w (.slice none 0 0) []), Kept.refl _ _⟩
  clear p hl
  go_enter Try.func33, Try.ntmps33
  go_upto_region 3 with fail
  go_loopw [3, 4] (fun pv i wr => ∃ (k : Nat) (qo : Option Addr) (qc : Nat), i = .int .i64 (k : Int) ∧ pv = .slice qo (pathsL (l.take k)).length qc ∧ k ≤ l.length ∧ Hid (Row w.heap.size wr (.slice qo (pathsL (l.take k)).length qc) (pathsL (l.take k)) ∧ Same0 w wr)) (fun _ i _ => l.length - (intOf i).toNat)
  case atStart => exact ⟨0, none, 0, rfl, by simp [pathsL], Nat.zero_le _, H0⟩
  case round =>
    clear H0
    obtain ⟨k, qo, qc, rfl, rfl, hk, HP⟩ := hrel
    by_cases hlt : k < l.length
    · have i0 : (0 : Int) ≤ (k : Int) := by omega
      have i1 : (k : Int) < (l.length : Int) := by omega
      have i2 : IntKind.i64.wrap ((k : Int) + 1) = (k : Int) + 1 := fwrap (by omega) (by omega)
      have pw := HS.out wr HP.out.2
      have c0 := pw.cell.1
      obtain ⟨b, off, xo, xc, e, -, m0, m1, m2, m3, m4, -⟩ := pw.row.mem.get hlt
      subst e
      have HPT : Hid (pathsL (l.take (k + 1)) = pathsL (l.take k) ++ l[k].2.2.2) := pathsL_take hlt
      have HPL : Hid ((pathsL (l.take k)).length + (l[k].2.2.2).length ≤ (pathsL l).length) := by
        have : (pathsL (l.take (k + 1))).length ≤ (pathsL l).length := pathsL_le _
        rw [HPT.out, List.length_append] at this
        exact this
      clear pw m1 m2
      generalize pathsL (l.take k) = X at *
      generalize l[k] = z at *
      have HM := m4.at'
      have HMN := m4.nil
      have rW := HP.out.1
      have hbs : w.heap.size ≤ wr.heap.size := HP.out.2.size

      have HSZ : (X.length + (z.2.2.2).length) * 8 ≤ 140737488355328 := by have := HPL.out; have := HL.out; omega
      have HFIN : Hid (∀ uo uc w7, Row w.heap.size w7 (.slice uo (X ++ z.2.2.2).length uc) (X ++ z.2.2.2) → Kept (fun k => (Value.slice qo X.length qc).ownBlock = some k) wr w7 → Hid (Row w.heap.size w7 (.slice uo (pathsL (l.take (k + 1))).length uc) (pathsL (l.take (k + 1))) ∧ Same0 w w7)) := fun uo uc w7 q1 q2 => by
        show _ ∧ _
        rw [HPT.out]
        refine ⟨q1, HP.out.2.trans q2 (fun i hi e => by have := (HP.out.1.lt i e).1; omega)⟩
      have HLE : Hid ((pathsL (l.take (k + 1))).length = (X ++ z.2.2.2).length) := by show _ = _; rw [HPT.out]
      go_wp2_with (first | (at_builtin; refine wpList_more9 rfl _ _ 28 rfl Try.underlying28 w.heap.size _ _ rfl rW z.2.2.2 xo _ xc rfl rfl HM HMN hbs HSZ ?_; intro v7 w7 r7 k7; obtain ⟨uo, uc, e7⟩ := row_shape r7; subst e7; have HN := HFIN.out uo uc w7 r7 k7; clear r7 k7))
      go_roundw
      case rel => first | exact ⟨k + 1, uo, uc, by go_num, by rw [HLE.out]; simp, by omega, HN⟩ | ((repeat apply Exists.intro); exact ⟨⟨k + 1, uo, uc, by go_num, by rw [HLE.out]; simp, by omega, HN⟩, rfl⟩)
      case measure => simp [intOf]; omega
    · have hkl : k = l.length := by omega
      subst hkl
      have c0 := (HS.out wr HP.out.2).cell.1
      have HQ : Hid (Row w.heap.size wr (.slice qo (pathsL l).length qc) (pathsL l) ∧ Same0 w wr) := by
        have q := HP.out
        rw [List.take_length] at q
        exact q
      rw [List.take_length]
      clear HP
      go_wp2
      go_ret
      exact ⟨_, rfl, HQ.out.1, HQ.out.2⟩
set_option maxHeartbeats 2000000 in
theorem rnodes_any {B : Nat → Prop} {base : Nat} {w : World} {s : Nat} {v : Value} {l : List Fr} (p : SpT 55 B base w s v l) (hl : l.length * 8 ≤ 140737488355328) :
    Calls Try.prog 34 #[.pointer (some ⟨s, 0, none⟩)] w fun e w' => ∃ u, e = .returned u ∧ Row w.heap.size w' u (nodesL l) ∧ Same0 w w' := by
  have hmx : l.length ≤ 9223372036854775807 := by
    obtain ⟨vs, h1, _⟩ := p.row
    rcases h1.2 with ⟨_, e⟩ | ⟨_, _, _, _, _, _, h2, h3, _⟩
    · omega
    · unfold maxLen at h3; omega
  obtain ⟨vo, vc, rfl⟩ := p.row.shape
  have HS : Hid (∀ ww, Same0 w ww → SpT 55 B base ww s (.slice vo l.length vc) l) := fun ww hk => p.same hk
  have HL : Hid (l.length * 8 ≤ 140737488355328) := hl
  have H0 : Hid (Row w.heap.size w (.slice none (nodesL (l.take 0)).length 0) (nodesL (l.take 0)) ∧ Same0 w w) := ⟨(World.ownsRow_nil _ _ _ _ : Row w.heap.size w (.slice none 0 0) []), Kept.refl _ _⟩
  clear p hl
  go_enter Try.func34, Try.ntmps34
  go_upto_region 3 with fail
  go_loopw [3, 4] (fun pv i wr => ∃ (k : Nat) (qo : Option Addr) (qc : Nat), i = .int .i64 (k : Int) ∧ pv = .slice qo (nodesL (l.take k)).length qc ∧ k ≤ l.length ∧ Hid (Row w.heap.size wr (.slice qo (nodesL (l.take k)).length qc) (nodesL (l.take k)) ∧ Same0 w wr)) (fun _ i _ => l.length - (intOf i).toNat)
  case atStart => exact ⟨0, none, 0, rfl, by simp [nodesL], Nat.zero_le _, H0⟩
  case round =>
    clear H0
    obtain ⟨k, qo, qc, rfl, rfl, hk, HP⟩ := hrel
    by_cases hlt : k < l.length
    · have i0 : (0 : Int) ≤ (k : Int) := by omega
      have i1 : (k : Int) < (l.length : Int) := by omega
      have i2 : IntKind.i64.wrap ((k : Int) + 1) = (k : Int) + 1 := fwrap (by omega) (by omega)
      have pw := HS.out wr HP.out.2
      have c0 := pw.cell.1
      obtain ⟨b, off, xo, xc, e, -, m0, m1, m2, m3, m4, -⟩ := pw.row.mem.get hlt
      subst e
      have HPT : Hid (nodesL (l.take (k + 1)) = nodesL (l.take k) ++ [l[k].1]) := nodesL_take hlt
      have HPL : Hid ((nodesL (l.take k)).length + ([l[k].1]).length ≤ l.length) := by
        have : (nodesL (l.take (k + 1))).length ≤ l.length := (by unfold nodesL; rw [List.length_map, List.length_take]; omega)
        rw [HPT.out, List.length_append] at this
        exact this
      clear pw m1 m2
      generalize nodesL (l.take k) = X at *
      generalize l[k] = z at *
      have HM := (arg_new1 wr z.1).at'
      have ka : Same0 wr (wr.alloc (.cells #[.int .i64 z.1] 3)) := (Kept.refl _ _).alloc _
      have rW := ka.row HP.out.1 (fun _ _ f => f)
      have hbs : w.heap.size ≤ (wr.alloc (.cells #[.int .i64 z.1] 3)).heap.size := (HP.out.2.trans' ka).size
      have HSZ : (X.length + ([z.1]).length) * 8 ≤ 140737488355328 := by have := HPL.out; have := HL.out; omega
      have HFIN : Hid (∀ uo uc w7, Row w.heap.size w7 (.slice uo (X ++ [z.1]).length uc) (X ++ [z.1]) → Kept (fun k => (Value.slice qo X.length qc).ownBlock = some k) (wr.alloc (.cells #[.int .i64 z.1] 3)) w7 → Hid (Row w.heap.size w7 (.slice uo (nodesL (l.take (k + 1))).length uc) (nodesL (l.take (k + 1))) ∧ Same0 w w7)) := fun uo uc w7 q1 q2 => by
        show _ ∧ _
        rw [HPT.out]
        refine ⟨q1, (HP.out.2.trans' ka).trans q2 (fun i hi e => by have := (HP.out.1.lt i e).1; omega)⟩
      have HLE : Hid ((nodesL (l.take (k + 1))).length = (X ++ [z.1]).length) := by show _ = _; rw [HPT.out]
      go_wp2_with (first | (at_builtin; refine wpList_more9 rfl _ _ 28 rfl Try.underlying28 w.heap.size _ _ rfl rW [z.1] _ _ _ rfl rfl HM (fun e => by cases e) hbs HSZ ?_; intro v7 w7 r7 k7; obtain ⟨uo, uc, e7⟩ := row_shape r7; subst e7; have HN := HFIN.out uo uc w7 r7 k7; clear r7 k7))
      go_roundw
      case rel => first | exact ⟨k + 1, uo, uc, by go_num, by rw [HLE.out]; simp, by omega, HN⟩ | ((repeat apply Exists.intro); exact ⟨⟨k + 1, uo, uc, by go_num, by rw [HLE.out]; simp, by omega, HN⟩, rfl⟩)
      case measure => simp [intOf]; omega
    · have hkl : k = l.length := by omega
      subst hkl
      have c0 := (HS.out wr HP.out.2).cell.1
      have HQ : Hid (Row w.heap.size wr (.slice qo (nodesL l).length qc) (nodesL l) ∧ Same0 w wr) := by
        have q := HP.out
        rw [List.take_length] at q
        exact q
      rw [List.take_length]
      clear HP
      go_wp2
      go_ret
      exact ⟨_, rfl, HQ.out.1, HQ.out.2⟩
end Go.Proofs.Ytikcocjbbbdmgaa
