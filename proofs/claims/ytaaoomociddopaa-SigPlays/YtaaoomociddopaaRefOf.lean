/- The walks of the document's Of, of sameInts and of pick. -/
import Derived.Test.YtaaoomociddopaaRefAdd
import Derived.OpenShut
namespace Go.Proofs.Ytaaoomociddopaa
open Go.RowKit
attribute [local go_sem ↓] Go.wp_at_zero Go.wp_at_succ
def ofNums (d : Bool) (pre : List (Sym × Nat)) : List Int := (pre.filter (ofB d)).map fun x => (x.2 : Int)
theorem ofVals_nums (d : Bool) (pre : List (Sym × Nat)) : ofVals d pre = (ofNums d pre).map (Value.int .i64) := by simp [ofVals, ofNums]
theorem ofVals_len (d : Bool) (pre : List (Sym × Nat)) : (ofVals d pre).length = (ofNums d pre).length := by simp [ofVals_nums]
set_option maxHeartbeats 2000000 in
theorem rof_any {w : World} {base : Nat} {L : List Sym} {v : Value} (hr : w.ownsRow base 35 3 v L.length (symCells L)) (hlen : L.length ≤ 64) (d : Bool) :
    Calls Try.prog 38 #[v, .bool d] w fun e w' => ∃ o, e = .returned o ∧ w'.ownsRow w.heap.size 3 1 o (ofVals d L.zipIdx).length (ofVals d L.zipIdx) ∧ Kept (fun _ => False) w w' := by
  obtain ⟨ao, cap, rfl⟩ := row_shape hr
  obtain ⟨i0, hi, hz0, hz1, hz2⟩ := info_parts info_int
  go_enter Try.func38, Try.ntmps38
  go_wp2
  go_loopw [5, 6] (fun o i wr => ∃ k : Nat, k ≤ L.length ∧ i = .int .i64 k ∧ wr.ownsRow w.heap.size 3 1 o (ofVals d (L.zipIdx.take k)).length (ofVals d (L.zipIdx.take k)) ∧ Kept (fun _ => False) w wr) (fun _ i _ => L.length - (intOf i).toNat)
  case atStart => exact ⟨0, Nat.zero_le _, rfl, World.ownsRow_nil _ _ _ _, Kept.refl _ _⟩
  case round =>
    obtain ⟨k, hk, rfl, hro, hkp⟩ := hrel
    by_cases hlt : k < L.length
    · obtain ⟨g, rfl, hg, x0, x1, x2⟩ := row_sym (hkp.row hr (fun _ _ f => f)) hlt
      have i1 : (0 : Int) ≤ (k : Int) := by omega
      have i2 : (k : Int) < (L.length : Int) := by omega
      have htk := take_zip hlt
      have hle := ofVals_le d (L.zipIdx.take k)
      have hle2 : (L.zipIdx.take k).length ≤ k := List.length_take_le _ _
      cases hd : (L[k].df == d) with
      | true =>
        have e1 : ofVals d (L.zipIdx.take (k + 1)) = ofVals d (L.zipIdx.take k) ++ [.int .i64 (k : Int)] := by rw [htk]; exact ofVals_yes (x := (L[k], k)) hd
        have E1 : Hid (ofVals d (L.zipIdx.take (k + 1)) = ofVals d (L.zipIdx.take k) ++ [.int .i64 (k : Int)]) := e1
        have b1 : (ofVals d (L.zipIdx.take k)).length + 1 ≤ maxLen := by unfold maxLen; omega
        have b2 : ((ofVals d (L.zipIdx.take k)).length + 1) * 8 ≤ 140737488355328 := by omega
        have b3 : w.heap.size ≤ (wr.alloc (.cells #[.int .i64 (k : Int)] 3)).heap.size := by have := hkp.size; simp; omega
        clear e1 htk
        go_wp2_with (first | (at_builtin; refine wpList_append_own _ rfl _ _ 53 rfl w.heap.size 3 i0 (.int .i64 0) 1 8 Try.underlying53 hi hz0 hz1 hz2 rfl (by decide) _ _ _ rfl (hro.alloc _) ⟨wr.heap.size, 0, none⟩ 1 1 [.int .i64 (k : Int)] rfl rfl (cell_one_new _ _ _) (by simp [Value.oneCell']) b1 b2 b3 ?_; intro v' w1 hown' hgrow _))
        refine ⟨⟨k + 1, by omega, by go_num, ?_, ?_⟩, by simp [intOf]; omega⟩
        · rw [E1.out]; simpa using hown'
        · exact Kept.grown (hkp.alloc _) hgrow (fun j e hj => by have := (hro.lt j e).1; omega)
      | false =>
        have e1 : ofVals d (L.zipIdx.take (k + 1)) = ofVals d (L.zipIdx.take k) := by rw [htk]; exact ofVals_no (x := (L[k], k)) hd
        have E1 : Hid (ofVals d (L.zipIdx.take (k + 1)) = ofVals d (L.zipIdx.take k)) := e1
        clear e1 htk
        go_wp2
        refine ⟨⟨k + 1, by omega, by go_num, ?_, hkp⟩, by simp [intOf]; omega⟩
        rw [E1.out]; exact hro
    · have hz : L.zipIdx.take k = L.zipIdx := List.take_of_length_le (by simp; omega)
      rw [hz] at hro
      clear hz
      go_wp2
      go_ret
      exact ⟨_, rfl, hro, hkp⟩
set_option maxHeartbeats 2000000 in
theorem same_any {w : World} {ba bb : Nat} {va vb : Value} {zs : List Int} (ha : w.ownsRow ba 3 1 va zs.length (zs.map (Value.int .i64))) (hb : w.ownsRow bb 3 1 vb zs.length (zs.map (Value.int .i64))) (hlen : zs.length ≤ 1000) :
    Calls Try.prog 39 #[va, vb] w fun e w' => e = .returned (.bool true) ∧ ∃ m, w' = w.drewN m := by
  obtain ⟨ao, cap, rfl⟩ := row_shape ha
  obtain ⟨bo, cbp, rfl⟩ := row_shape hb
  go_enter Try.func39, Try.ntmps39
  go_wp2
  go_loopw [5] (fun i wr => ∃ k : Nat, k ≤ zs.length ∧ i = .int .i64 k ∧ ∃ m, wr = w.drewN m) (fun i _ => zs.length - (intOf i).toNat)
  case atStart => exact ⟨0, Nat.zero_le _, rfl, 0, rfl⟩
  case round =>
    obtain ⟨k, hk, rfl, m, rfl⟩ := hrel
    by_cases hlt : k < zs.length
    · obtain ⟨g, c1, hv, _, _⟩ := ha.form (by omega)
      obtain ⟨g2, c2, hv2, _, _⟩ := hb.form (by omega)
      simp only [Value.slice.injEq, true_and] at hv hv2
      obtain ⟨rfl, rfl⟩ := hv
      obtain ⟨rfl, rfl⟩ := hv2
      have y1 : w.cell? ⟨g, k, none⟩ = some (.int .i64 zs[k]) := by rw [ha.cellAt k (by omega)]; simp [hlt]
      have y2 : w.cell? ⟨g2, k, none⟩ = some (.int .i64 zs[k]) := by rw [hb.cellAt k (by omega)]; simp [hlt]
      have i1 : (0 : Int) ≤ (k : Int) := by omega
      have i2 : (k : Int) < (zs.length : Int) := by omega
      go_wp2_with fail
      go_quiet (fail)
      go_wp2
      refine ⟨⟨k + 1, by omega, by go_num, m + nq, ?_⟩, by simp [intOf]; omega⟩
      simp [World.drewN]
    · go_wp2
      go_ret
      exact ⟨rfl, m, rfl⟩
set_option maxHeartbeats 1000000 in
theorem pick_any (c n : Int) (w : World) (hc : (Lit.int .i64 c).wf = true) (hn : 0 < n) (hn' : n ≤ 1000) :
    Calls Try.prog 14 #[.int .i64 c, .int .i64 n] w fun e w' => (∃ r : Int, 0 ≤ r ∧ r < n ∧ e = .returned (.int .i64 r)) ∧ w' = w := by
  have hbd := bounds_i64 hc
  by_cases h : c < 0
  · go_enter Try.func14, Try.ntmps14
    go_wp2
    go_ret
    have e : -(c + 1).tmod n = (-(c + 1)) % n := by rw [← Int.neg_tmod, Int.tmod_eq_emod_of_nonneg (by omega)]
    exact ⟨⟨_, by rw [e]; exact Int.emod_nonneg _ (by omega), by rw [e]; exact Int.emod_lt_of_pos _ hn, rfl⟩, rfl⟩
  · go_enter Try.func14, Try.ntmps14
    go_wp2
    go_ret
    exact ⟨⟨_, Int.emod_nonneg _ (by omega), Int.emod_lt_of_pos _ hn, rfl⟩, rfl⟩
end Go.Proofs.Ytaaoomociddopaa
