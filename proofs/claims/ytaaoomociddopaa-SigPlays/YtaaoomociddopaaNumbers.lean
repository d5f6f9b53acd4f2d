/- The walk of the law's numbers: Of, twice, of which the first is written over by its owner, and grown. -/
import Derived.Test.YtaaoomociddopaaRefOf
namespace Go.Proofs.Ytaaoomociddopaa
open Go.RowKit
theorem Kept.ofBelow {w w' : World} (h : Below w.heap.size w w') : Kept (fun _ => False) w w' := ⟨h.os, h.tape, h.output, h.size, fun k hk _ => h.block k hk⟩
theorem seqs_of {w : World} {b : Nat} {L : List Sym} {sv : Value} {mr : Option Nat} (h : SigAt w b L sv mr) : Seqs w w.heap.size (some ⟨b, 0, none⟩) L := .inr ⟨b, sv, mr, rfl, h, sig_foot_lt h⟩
theorem of_any {w : World} {b : Nat} {L : List Sym} {sv : Value} {mr : Option Nat} (h : SigAt w b L sv mr) (d : Bool) :
    Calls Try.prog 23 #[.pointer (some ⟨b, 0, none⟩), .bool d] w fun e w' => ∃ v, e = .returned v ∧ w'.ownsRow w.heap.size 3 1 v (ofNums d L.zipIdx).length ((ofNums d L.zipIdx).map (Value.int .i64)) ∧ Kept (fun _ => False) w w' := by
  refine ((callsIn_wide (n := 3)).1 (of_in Fence.wide 3 trivial trivial trivial rfl (by omega) _ L d w (seqs_of h))).mono ?_
  rintro e w' ⟨v, rfl, hr, hb⟩
  exact ⟨v, rfl, by rw [← ofVals_nums, ← ofVals_len]; exact hr, Kept.ofBelow hb⟩
theorem rof_any' {w : World} {base : Nat} {L : List Sym} {v : Value} (hr : w.ownsRow base 35 3 v L.length (symCells L)) (hlen : L.length ≤ 64) (d : Bool) :
    Calls Try.prog 38 #[v, .bool d] w fun e w' => ∃ o, e = .returned o ∧ w'.ownsRow w.heap.size 3 1 o (ofNums d L.zipIdx).length ((ofNums d L.zipIdx).map (Value.int .i64)) ∧ Kept (fun _ => False) w w' := by
  refine (rof_any hr hlen d).mono ?_
  rintro e w' ⟨o, rfl, h, hk⟩
  exact ⟨o, rfl, by rw [← ofVals_nums, ← ofVals_len]; exact h, hk⟩
theorem ofNums_le (d : Bool) (L : List Sym) : (ofNums d L.zipIdx).length ≤ L.length := by
  have := ofVals_le d L.zipIdx
  rw [ofVals_len] at this
  simpa using this
theorem hideF {p : Prop} (h : p) : Hid p := h
set_option maxHeartbeats 4000000 in
theorem numbers_any {w : World} {b : Nat} {L : List Sym} {sv rv : Value} {mr : Option Nat} (hs : SigAt w b L sv mr) (hr : w.ownsRow 0 35 3 rv L.length (symCells L)) (d : Bool) :
    Calls Try.prog 33 #[.pointer (some ⟨b, 0, none⟩), rv, .bool d] w fun e w' => e = .returned (.bool true) ∧ Kept (fun _ => False) w w' := by
  have hlen := hs.len
  have hzl := ofNums_le d L
  obtain ⟨zs, hzs⟩ : ∃ zs, ofNums d L.zipIdx = zs := ⟨_, rfl⟩
  rw [hzs] at hzl
  have ofA : ∀ (w' : World), SigAt w' b L sv mr → Calls Try.prog 23 #[.pointer (some ⟨b, 0, none⟩), .bool d] w' fun e w'' => ∃ v, e = .returned v ∧ w''.ownsRow w'.heap.size 3 1 v zs.length (zs.map (Value.int .i64)) ∧ Kept (fun _ => False) w' w'' := fun w' h => by
    have := of_any h d
    rwa [hzs] at this
  have rofA : ∀ (w' : World), w'.ownsRow 0 35 3 rv L.length (symCells L) → Calls Try.prog 38 #[rv, .bool d] w' fun e w'' => ∃ v, e = .returned v ∧ w''.ownsRow w'.heap.size 3 1 v zs.length (zs.map (Value.int .i64)) ∧ Kept (fun _ => False) w' w'' := fun w' h => by
    have := rof_any' h hlen d
    rwa [hzs] at this
  have HOF := hideF ofA
  have HRO := hideF rofA
  clear hzs ofA rofA
  go_enter Try.func33, Try.ntmps33
  go_wp2_with fail
  refine (HOF.out w hs).mono ?_
  rintro e w1 ⟨va, rfl, ha, k1⟩
  have hs1 := hs.kept k1 (fun _ _ f => f)
  go_wp2_with fail
  refine (HOF.out w1 hs1).mono ?_
  rintro e w2 ⟨vb, rfl, hb, k2⟩
  have K2 := k1.trans k2 (fun _ _ f => f)
  have hs2 := hs.kept K2 (fun _ _ f => f)
  go_wp2_with fail
  refine (HRO.out w2 (K2.row hr (fun _ _ f => f))).mono ?_
  rintro e w3 ⟨vw, rfl, hw, k3⟩
  have K3 := K2.trans k3 (fun _ _ f => f)
  have ha3 := (k2.trans k3 (fun _ _ f => f)).row ha (fun _ _ f => f)
  have hb3 := k3.row hb (fun _ _ f => f)
  go_wp2_with fail
  refine (same_any ha3 hw (by omega)).mono ?_
  rintro e w' ⟨rfl, m, rfl⟩
  obtain ⟨ao, acap, rfl⟩ := row_shape ha
  go_wp2_with fail
  go_loopw [11] (fun i wr => ∃ (k : Nat) (ys : List Value), k ≤ zs.length ∧ i = .int .i64 k ∧ wr.ownsRow w.heap.size 3 1 (.slice ao zs.length acap) zs.length ys ∧ Kept (fun j => Value.ownBlock (.slice ao zs.length acap) = some j) w3 wr) (fun i _ => zs.length - (intOf i).toNat)
  case atStart => exact ⟨0, _, Nat.zero_le _, rfl, ha3, (Kept.refl _ w3).drewN _⟩
  case round =>
    obtain ⟨k, ys, hk, rfl, hy, hkp⟩ := hrel
    by_cases hlt : k < zs.length
    · obtain ⟨g, gc, hv, _, _⟩ := hy.form (by omega)
      simp only [Value.slice.injEq, true_and] at hv
      obtain ⟨rfl, rfl⟩ := hv
      have hyl := hy.1
      have hc : ∃ u, wr.cell? ⟨g, k, none⟩ = some u := by rw [hy.cellAt k (by omega)]; exact ⟨ys[k]'(by omega), List.getElem?_eq_getElem (by omega)⟩
      obtain ⟨u, hc⟩ := hc
      have hfz := hy.frozenAt k
      obtain ⟨hy2, hg2⟩ := hy.stored k (.int .i64 (-7))
      have i1 : (0 : Int) ≤ (k : Int) := by omega
      have i2 : (k : Int) < (zs.length : Int) := by omega
      go_wp2
      refine ⟨⟨k + 1, _, by omega, by go_num, hy2, Kept.grown hkp hg2 (fun j e _ => e)⟩, by simp [intOf]; omega⟩
    · rename World => wo
      go_wp2
      obtain ⟨i0, hi, hz0, hz1, hz2⟩ := info_parts info_int
      go_loopw [7, 12] (fun a i wr => ∃ (k n : Nat) (ys : List Value), k ≤ 9 ∧ i = .int .i64 k ∧ wr.ownsRow w.heap.size 3 1 a n ys ∧ n ≤ zs.length + k ∧ Kept (fun j => Value.ownBlock (.slice ao zs.length acap) = some j) w3 wr ∧ ∀ j, a.ownBlock = some j → Value.ownBlock (.slice ao zs.length acap) = some j ∨ w3.heap.size ≤ j) (fun _ i _ => 9 - (intOf i).toNat)
      case atStart => exact ⟨0, _, _, Nat.zero_le _, rfl, hy, by omega, hkp, fun j e => .inl e⟩
      case round =>
        obtain ⟨q2, n, zs2, hk2, rfl, hy2, hn2, hkp2, hat2⟩ := hrel
        obtain ⟨ao2, acap2, rfl⟩ := row_shape hy2
        by_cases hlt2 : q2 < 9
        · have b1 : n + 1 ≤ maxLen := by unfold maxLen; omega
          have b2 : (n + 1) * 8 ≤ 140737488355328 := by omega
          have b3 : w.heap.size ≤ (wr.alloc (.cells #[.int .i64 (-8)] 3)).heap.size := by have h1 := hkp2.size; have h2 := K3.size; simp; omega
          have i2 : (q2 : Int) < 9 := by omega
          go_wp2_with (first | (at_builtin; refine wpList_append_lies _ rfl _ _ 53 rfl w.heap.size 3 i0 (.int .i64 0) 1 8 Try.underlying53 hi hz0 hz1 hz2 rfl (by decide) (.slice ao2 n acap2) n zs2 rfl (hy2.alloc _) ⟨wr.heap.size, 0, none⟩ 1 1 [.int .i64 (-8)] rfl rfl (cell_one_new _ _ _) (by simp [Value.oneCell']) (by omega) b1 b2 b3 (wr.heap.size + 1) (by simp) ?_; intro gg gcap w5 hown hgrow hat hglt))
          refine ⟨⟨q2 + 1, n + 1, _, by omega, by go_num, hown, by omega, Kept.grown (hkp2.alloc _) hgrow (fun j e hj => (hat2 j e).resolve_right (by omega)), fun j e => ?_⟩, by simp [intOf]; omega⟩
          simp only [Value.ownBlock, Option.some.injEq] at e
          subst e
          rcases hat with e | e
          · exact hat2 _ e
          · right; have := hkp2.size; omega
        · rename World => wz
          have Kz : Kept (fun _ => False) w wz := K3.trans hkp2 (fun i hi e => by have := (ha.lt i e).1; omega)
          have hbz := hkp2.row hb3 (fun j e e' => by have h1 := (hb.lt j e).1; have h2 := (ha.lt j e').2; omega)
          have hwz := hkp2.row hw (fun j e e' => by have h1 := (hw.lt j e).1; have h2 := (ha.lt j e').2; have h3 := k2.size; omega)
          have hsz := hs.kept Kz (fun _ _ f => f)
          go_wp2_with fail
          refine (same_any hbz hwz (by omega)).mono ?_
          rintro e w' ⟨rfl, m2, rfl⟩
          have hsz2 : SigAt (wz.drewN m2) b L sv mr := hsz.kept ((Kept.refl (fun _ => False) wz).drewN m2) (fun _ _ f => f)
          have hwz2 := ((Kept.refl (fun _ => False) wz).drewN m2).row hwz (fun _ _ f => f)
          go_wp2_with fail
          refine (HOF.out _ hsz2).mono ?_
          rintro e w6 ⟨vc, rfl, hc6, k6⟩
          go_wp2_with (first | (go_at_call 39; refine (same_any hc6 (k6.row hwz2 (fun _ _ f => f)) (by omega)).mono ?_; rintro e w' ⟨rfl, m3, rfl⟩))
          go_ret
          exact ⟨rfl, ((Kz.drewN m2).trans k6 (fun _ _ f => f)).drewN m3⟩
end Go.Proofs.Ytaaoomociddopaa
