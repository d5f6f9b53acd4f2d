import Derived.Test.YthamjjhioafkjaaGreatGCodeViews41
import Derived.Test.YthamjjhioafkjaaGreatGCodeViews42
import Derived.Test.YthamjjhioafkjaaGreatGCodeViews33
import Derived.Test.YthamjjhioafkjaaGreatGCodeViews07
import Derived.Test.YthamjjhioafkjaaGreatGCodeViews06
import Derived.Test.YthamjjhioafkjaaGreatGCodeViews16
namespace Go.Proofs.YthamjjhioafkjaaGreat
set_option maxRecDepth 100000
set_option linter.unusedVariables false
open Go.RowKit
attribute [local go_sem ↓] Go.wp_at_zero Go.wp_at_succ
abbrev L9x : List Sym := [⟨⟨#[122]⟩, 0, false⟩, ⟨⟨#[115]⟩, 1, false⟩, ⟨⟨#[97, 100, 100]⟩, 2, true⟩, ⟨⟨#[104]⟩, 0, true⟩]
theorem madeL_aw9 : madeL L9x = L9x := by
  simp [madeL, addL, addErr, nm8_z, nm8_s, nm8_add, nm8_h, findI]
abbrev ru9a : Ru := ([2, 0, -1], [-1])
abbrev ru9b : Ru := ([2, 1, -1, -2], [1, 2, -1, -2])
theorem aw9_a : Ans L9x [] [ru9a] [] := Ans.of_all (by decide +kernel)
theorem aw9_b : Ans L9x [ru9a] [ru9b] [] := Ans.of_all (by decide +kernel)
theorem aw9_R {R : List Ru} (h : StoredR L9x [ru9a,ru9b] [] R) : R = [ru9a,ru9b] := by
  rcases h with ⟨_, h⟩ | ⟨h, _⟩
  · rcases h with ⟨_, h⟩ | ⟨h, _⟩
    · exact h
    · exact absurd aw9_b h
  · exact absurd aw9_a h
def fail9 (n : Nat) : Tr (n + 1) := (3, 0, [], [])
theorem aw9_grow (n : Nat) : growF L9x (n + 1 + 1) (rootP L9x 2) (rootR L9x [ru9a,ru9b] 2) = .ok (tree8 n) := by rfl
theorem aw9_none (n : Nat) : growF L9x (n + 1) (rootP L9x 3) (rootR L9x [ru9a,ru9b] 3) = .ok (fail9 n) := by rfl
theorem aw9_tree : treeF L9x [ru9a,ru9b] 2 = .ok (tree8 1999) := aw9_grow 1999
theorem aw9_fail : treeF L9x [ru9a,ru9b] 3 = .ok (fail9 2000) := aw9_none 2000
abbrev ins9 : List I3 := [(1, 0, 0), (2, 0, 4), (2, 1, 5), (3, 0, 0), (4, 0, 0), (4, 1, 0), (3, 0, 0)]
theorem aw9_lay (n : Nat) : layS (n + 1 + 1) (tree8 n) ([],[]) = ([(1,0,0),(2,0,4),(2,1,5),(3,0,0),(4,0,0),(4,1,0)],[[0]]) := by rfl
theorem aw9_lay2 (n : Nat) (s : St9) : layS (n + 1) (fail9 n) s = (s.1 ++ [(3,0,0)],s.2) := by rfl
theorem aw9_cmp : cmpS L9x [ru9a,ru9b] 4 = ((ins9,[[0]]),[-1,-1,0,6]) := by
  rw [cmpS_yes (k := 3) (by decide) aw9_fail, cmpS_yes (k := 2) (by decide) aw9_tree, cmpS_no (k := 1) (by decide), cmpS_no (k := 0) (by decide)]
  have e1 : layS 2001 (tree8 1999) (cmpS L9x [ru9a, ru9b] 0).1 = _ := aw9_lay 1999
  have e2 := fun s => aw9_lay2 2000 s
  rw [e1]
  erw [e2]
  rfl
theorem aw9_all : ∀ k,k < L9x.length → defB L9x (k : Int) = true → ∃ t,treeF L9x [ru9a,ru9b] k = .ok t := by
  intro k hk hd
  have hk' : k < 4 := hk
  match k, hk' with
  | 0, _ => exact absurd hd (by decide)
  | 1, _ => exact absurd hd (by decide)
  | 2, _ => exact ⟨_, aw9_tree⟩
  | 3, _ => exact ⟨_, aw9_fail⟩
theorem aw9_run : codeF L9x (clsB L9x [2,1,0,0]) [2,1,0,0] ins9 [[0]] [-1,-1,0,6] 2 0 = (1,1,[],0,0) := by decide +kernel
theorem aw9_idx : idxB 1 (rightsL L9x [ru9a,ru9b]).length = true := by decide +kernel
theorem aw9_len : ∀ i (h : i < (rightsL L9x [ru9a,ru9b]).length),(rightsL L9x [ru9a,ru9b])[i].length ≤ 140737488355328 := by
  intro i h
  have h1 : ∀ q ∈ rightsL L9x [ru9a, ru9b], q.length ≤ 140737488355328 := by decide +kernel
  exact h1 _ (List.getElem_mem h)
theorem aw9_wt : wtN ((rightsL L9x [ru9a,ru9b]).getD (1 : Int).toNat []) = 2 := by decide +kernel
theorem aw9_lit (w : World) : InsAt (w.alloc (.cells #[.int .i64 1,.int .i64 0,.int .i64 0,.int .i64 2,.int .i64 0,.int .i64 4,.int .i64 2,.int .i64 1,.int .i64 5,.int .i64 3,.int .i64 0,.int .i64 0,.int .i64 4,.int .i64 0,.int .i64 0,.int .i64 4,.int .i64 1,.int .i64 0,.int .i64 3,.int .i64 0,.int .i64 0] 34)) (some ⟨w.heap.size,0,none⟩) ins9 := by
  refine .inr ⟨_, _, rfl, by simp, fun i hi => ?_⟩
  have hi' : i < 7 := by simpa using hi
  rw [cellAt (heap_alloc_new w _), cellAt (heap_alloc_new w _), cellAt (heap_alloc_new w _)]
  match i, hi' with
  | 0, _ => exact ⟨rfl, rfl, rfl⟩
  | 1, _ => exact ⟨rfl, rfl, rfl⟩
  | 2, _ => exact ⟨rfl, rfl, rfl⟩
  | 3, _ => exact ⟨rfl, rfl, rfl⟩
  | 4, _ => exact ⟨rfl, rfl, rfl⟩
  | 5, _ => exact ⟨rfl, rfl, rfl⟩
  | 6, _ => exact ⟨rfl, rfl, rfl⟩
theorem syms_aw9 (w : World) (T : TypeId) : SymsAt (w.alloc (.cells #[.string ⟨#[122]⟩,.int .i64 0,.bool false,.string ⟨#[115]⟩,.int .i64 1,.bool false,.string ⟨#[97,100,100]⟩,.int .i64 2,.bool true,.string ⟨#[104]⟩,.int .i64 0,.bool true] T)) (some ⟨w.heap.size,0,none⟩) 4 L9x := by
  refine ⟨rfl, .inr ⟨_, _, rfl, by simp, fun i hi => ?_⟩, ?_⟩
  · have hi' : i < 4 := by simpa using hi
    rw [cellAt (heap_alloc_new w _), cellAt (heap_alloc_new w _), cellAt (heap_alloc_new w _)]
    match i, hi' with
    | 0, _ => exact ⟨rfl, rfl, rfl⟩
    | 1, _ => exact ⟨rfl, rfl, rfl⟩
    | 2, _ => exact ⟨rfl, rfl, rfl⟩
    | 3, _ => exact ⟨rfl, rfl, rfl⟩
  · intro x hx
    simp at hx
    rcases hx with rfl | rfl | rfl | rfl <;> exact ⟨by decide +kernel, by decide +kernel⟩
set_option maxHeartbeats 1000000 in
theorem plain9_any (w : World) : Calls Tryz.prog 36 #[] w fun e w' => ∃ g g', e = .returned (.tuple #[.slice (some ⟨g,0,none⟩) 4 4,.slice (some ⟨g', 0,none⟩) 2 2]) ∧ SymsAt w' (some ⟨g,0,none⟩) 4 L9x ∧ RsAt w' (some ⟨g', 0,none⟩) [ru9a,ru9b] ∧ Same0 w w' := by
  have S := syms_aw9 w 82
  have K : Same0 w (w.alloc (.cells #[.string ⟨#[122]⟩, .int .i64 0, .bool false, .string ⟨#[115]⟩, .int .i64 1, .bool false, .string ⟨#[97, 100, 100]⟩, .int .i64 2, .bool true, .string ⟨#[104]⟩, .int .i64 0, .bool true] 82)) := (Kept.refl _ w).alloc _
  have RR := rs_two (w.alloc (.cells #[.string ⟨#[122]⟩, .int .i64 0, .bool false, .string ⟨#[115]⟩, .int .i64 1, .bool false, .string ⟨#[97, 100, 100]⟩, .int .i64 2, .bool true, .string ⟨#[104]⟩, .int .i64 0, .bool true] 82)) [2, 0, -1] [-1] [2, 1, -1, -2] [1, 2, -1, -2] 3 3 3 3 118 (by decide) (by decide) (by decide) (by decide) rfl rfl rfl rfl rfl
  have HH : Hid _ := RR
  have HS : Hid _ := S
  clear RR S
  go_enter Tryz.func36, Tryz.ntmps36
  go_wp2
  go_ret2
  obtain ⟨r1, r2⟩ := HH.out
  simp only [World.size_alloc] at r1 r2
  exact ⟨_, _, rfl, SymsAt.same8 HS.out r2, r1, K.trans' r2⟩
theorem aw9_err (w : World) : (binOp .neq 47 .nilIface .nilIface).run Tryz.prog w = .ok (.bool false) w := by kernel_rfl
theorem aw9_arg {W : World} {k : Nat} (h : W.heap[k]? = some (.cells #[.int .i64 2,.int .i64 1,.int .i64 0,.int .i64 0] 3 (0,0))) : Arg W (some ⟨k,0,none⟩) [2,1,0,0] 4 := by
  refine ⟨?_, Nat.le_refl _, (fun e => by cases e), by decide⟩
  refine .inr ⟨_, _, rfl, lt_of_at h, fun i hi => ?_⟩
  have hi' : i < 4 := by simpa using hi
  rw [cellAt h]
  match i, hi' with
  | 0, _ => rfl
  | 1, _ => rfl
  | 2, _ => rfl
  | 3, _ => rfl
theorem zf9 {W : World} {k : Nat} (h : W.heap[k]? = some (.cells #[.int .i64 0,.int .i64 0,.slice none 0 0,.int .i64 0] 73 (0,0))) : W.cell? ⟨k,0,none⟩ = some (.int .i64 0) ∧ W.cell? ⟨k,1,none⟩ = some (.int .i64 0) ∧ W.cell? ⟨k,2,none⟩ = some (.slice none 0 0) ∧ W.cell? ⟨k,3,none⟩ = some (.int .i64 0) ∧ W.frozen? ⟨k,0,none⟩ = false ∧ W.frozen? ⟨k,1,none⟩ = false ∧ W.frozen? ⟨k,2,none⟩ = false ∧ W.frozen? ⟨k,3,none⟩ = false :=
  ⟨cellAt h 0, cellAt h 1, cellAt h 2, cellAt h 3, frozenAt h 0, frozenAt h 1, frozenAt h 2, frozenAt h 3⟩
set_option maxHeartbeats 16000000 in
theorem awake9_any (w : World) : Calls Tryz.prog 9 #[] w fun e w' => e = .returned (.bool true) ∧ Same0 w w' := by
  have hnn := aw9_err
  have hpn := ptr_nil
  have CP := plain9_any w
  go_enter Tryz.func9, Tryz.ntmps9
  go_upto_region 2 with (first | (go_at_call 36; refine CP.mono ?_; rintro e w0 ⟨g, g', rfl, hsy, hru, K0⟩))
  have CS := stored_any (cap := 4) (lc := 2) hsy (by decide) hru (by decide) (by decide)
  rw [madeL_aw9] at CS
  clear CP hsy hru
  go_upto_region 3 with (first | (go_at_call 14; refine CS.mono ?_; rintro e w1 ⟨bs, b, m, ro, rc, lv, vs, mv, ms, R, rfl, hT, hR⟩))
  obtain rfl := aw9_R hR
  have K1 : Same0 w w1 := K0.trans' hT.same
  have hst := hT.st
  clear CS hR K0 hT
  have CC : Calls Tryz.prog 15 #[.pointer (some ⟨b, 0, none⟩)] w1 fun e w' => ∃ io ic po pc eo ec ro rc, e = .returned (.tuple #[.agg #[.slice io 7 ic, .slice po 1 pc, .slice eo 4 ec, .slice ro 2 rc], .nilIface]) ∧ Hid (InsAt w' io ins9 ∧ PthAt w' po [[0]] ∧ IntsAt w' eo [-1, -1, 0, 6] ∧ RgAt w' ro (rightsL L9x [ru9a, ru9b])) ∧ Same0 w1 w' := by
    refine (compile_ok hst aw9_all).mono ?_
    intro e w' h
    have e4 : cmpS L9x [ru9a, ru9b] L9x.length = _ := aw9_cmp
    unfold CmpOut at h
    rw [e4] at h
    obtain ⟨io, ic, po, pc, eo, ec, ro, rc, cs, rfl, hL, hE, hrr, hrt, k2⟩ := h
    refine ⟨io, ic, po, pc, eo, ec, ro, rc, rfl, ⟨hL.insAt, hL.pthAt, ?_, hrt.rgAt hrr⟩, k2⟩
    obtain ⟨eo', ec', e1, h1, _⟩ := hE.ints
    cases e1
    exact h1
  have HSG : Hid (∀ ww, Same0 w1 ww → Sg ww.heap.size ww bs L9x) := fun ww hk => (hst.same hk).sig
  clear hst
  go_upto_region 6 with (first | (go_at_call 15; refine CC.mono ?_; rintro e w2 ⟨io, ic, po, pc, eo, ec, ro', rc', rfl, hL, k2⟩))
  obtain ⟨w3, hw3⟩ : ∃ w3, w3 = w2.alloc (.cells #[.slice io 7 ic, .slice po 1 pc, .slice eo 4 ec, .slice ro' 2 rc'] 45) := ⟨_, rfl⟩
  have k3 : Same0 w2 w3 := by rw [hw3]; exact (Kept.refl _ _).alloc _
  have HC : Hid (∀ ww, Same0 w3 ww → ww.cell? ⟨w2.heap.size, 0, none⟩ = some (.slice io 7 ic) ∧ ww.cell? ⟨w2.heap.size, 1, none⟩ = some (.slice po 1 pc) ∧ ww.cell? ⟨w2.heap.size, 2, none⟩ = some (.slice eo 4 ec) ∧ ww.cell? ⟨w2.heap.size, 3, none⟩ = some (.slice ro' 2 rc')) := fun ww hk => by
    have h0 : w3.heap[w2.heap.size]? = some (.cells #[.slice io 7 ic, .slice po 1 pc, .slice eo 4 ec, .slice ro' 2 rc'] 45 (0, 0)) := by rw [hw3]; exact heap_alloc_new w2 _
    have h1 := hk.at0 h0
    exact ⟨cellAt h1 0, cellAt h1 1, cellAt h1 2, cellAt h1 3⟩
  have HL : Hid (∀ ww, Same0 w3 ww → InsAt ww io ins9 ∧ PthAt ww po [[0]] ∧ IntsAt ww eo [-1, -1, 0, 6] ∧ RgAt ww ro' (rightsL L9x [ru9a, ru9b])) := fun ww hk => by
    obtain ⟨h1, h2, h3, h4⟩ := hL.out
    exact ⟨h1.same (k3.trans' hk), h2.same (k3.trans' hk), h3.same (k3.trans' hk), h4.same (k3.trans' hk)⟩
  have K3 : Same0 w1 w3 := k2.trans' k3
  rw [← hw3]
  clear hw3 hL CC k2 k3
  have k4 : Same0 w3 (w3.alloc (.cells #[.int .i64 1, .int .i64 0, .int .i64 0, .int .i64 2, .int .i64 0, .int .i64 4, .int .i64 2, .int .i64 1, .int .i64 5, .int .i64 3, .int .i64 0, .int .i64 0, .int .i64 4, .int .i64 0, .int .i64 0, .int .i64 4, .int .i64 1, .int .i64 0, .int .i64 3, .int .i64 0, .int .i64 0] 34)) := (Kept.refl _ _).alloc _
  obtain ⟨c0, c1, c2, c3⟩ := HC.out _ k4
  have B1 := sameIns_any (HL.out _ k4).1 (aw9_lit w3) (by decide) ic 7
  go_upto_region 8 with (first | (go_at_call 12; refine B1.mono ?_; rintro e w5 ⟨rfl, k5⟩))
  have K5 : Same0 w3 w5 := k4.trans' k5
  clear c0 c1 c2 c3 B1 k4 k5
  go_upto_region 10 with fail
  have C0 := HC.out w5 K5
  have CO : Hid (∀ ww k, Same0 w3 ww → ww.heap[k]? = some (.cells #[.int .i64 2, .int .i64 1, .int .i64 0, .int .i64 0] 3 (0, 0)) → Calls Tryz.prog 23 #[.pointer (some ⟨bs, 0, none⟩), .slice (some ⟨k, 0, none⟩) 4 4] ww fun e w' => ∃ ho hn hc go gn gc, e = .returned (.agg #[.slice ho hn hc, .slice go gn gc]) ∧ Hid (∃ base, VwAt base w' L9x (clsB L9x [2, 1, 0, 0]) [2, 1, 0, 0] (.agg #[.slice ho hn hc, .slice go gn gc])) ∧ Same0 ww w') := fun ww k hk hr => by
    refine (over_any (HSG.out ww (K3.trans' hk)) (aw9_arg hr)).mono ?_
    rintro e w' ⟨ho, hn, hc, go, gn, gc, rfl, h1, h2⟩
    exact ⟨ho, hn, hc, go, gn, gc, rfl, ⟨_, h1⟩, h2⟩
  have CR : Hid (∀ ww ho hn hc go gn gc, Same0 w3 ww → (∃ base, VwAt base ww L9x (clsB L9x [2, 1, 0, 0]) [2, 1, 0, 0] (.agg #[.slice ho hn hc, .slice go gn gc])) → Calls Tryz.prog 24 #[.agg #[.slice io 7 ic, .slice po 1 pc, .slice eo 4 ec, .slice ro' 2 rc'], .int .i64 2, .iface 70 (.agg #[.slice ho hn hc, .slice go gn gc]), .int .i64 0] ww fun e w' => ∃ qo qc, e = .returned (.tuple #[.agg #[.int .i64 1, .int .i64 1, .slice qo 0 qc, .int .i64 0], .int .i64 0]) ∧ Same0 ww w') := fun ww ho hn hc go gn gc hk hv => by
    obtain ⟨base, hv⟩ := hv
    obtain ⟨h1, h2, h3, _⟩ := HL.out ww hk
    refine (run_any hv h1 (by decide) h2 h3 ic pc ec ro' 2 rc' 2 0).mono ?_
    intro e w' h
    rw [aw9_run] at h
    obtain ⟨qo, qc, rfl, _, h5⟩ := h
    exact ⟨qo, qc, rfl, h5⟩
  go_cut [10, 11] from 51 to 59 (fun s10 s11 wc => ∃ g qo qc, s10 = .pointer (some ⟨g, 0, none⟩) ∧ s11 = .int .i64 0 ∧ wc.heap[g]? = some (.cells #[.int .i64 1, .int .i64 1, .slice qo 0 qc, .int .i64 0] 73 (0, 0)) ∧ Same0 w3 wc)
  case first =>
    go_region_held3 (fun w' => w'.cell? ⟨w2.heap.size, 0, none⟩ = some (.slice io 7 ic) ∧ w'.cell? ⟨w2.heap.size, 1, none⟩ = some (.slice po 1 pc) ∧ w'.cell? ⟨w2.heap.size, 2, none⟩ = some (.slice eo 4 ec) ∧ w'.cell? ⟨w2.heap.size, 3, none⟩ = some (.slice ro' 2 rc')) (first | exact C0 | exact cc1 | exact cc2 | exact HC.out _ (by repeat (first | assumption | exact Kept.refl _ _ | refine Kept.alloc ?_ _ | refine Kept.drew ?_ | refine Same0.own ?_ (by omega) _))) (first
      | (go_at_call 23; refine (CO.out _ _ (by repeat (first | assumption | exact Kept.refl _ _ | refine Kept.alloc ?_ _ | refine Kept.drew ?_ | refine Same0.own ?_ (by omega) _)) (by first | exact heap_alloc_new _ _ | exact heap_alloc2_old _ _ _ | exact heap_al_al _ _ _)).mono ?_; rintro e w6 ⟨ho, hn, hc, go, gn, gc, rfl, hV, k6⟩; have K6 : Same0 w3 w6 := Same0.trans' (by repeat (first | assumption | exact Kept.refl _ _ | refine Kept.alloc ?_ _ | refine Kept.drew ?_ | refine Same0.own ?_ (by omega) _)) k6; have cc1 := HC.out _ K6)
      | (go_at_call 24; refine (CR.out _ _ _ _ _ _ _ (by repeat (first | assumption | exact Kept.refl _ _ | refine Kept.alloc ?_ _ | refine Kept.drew ?_ | refine Same0.own ?_ (by omega) _)) (by obtain ⟨bb, hh⟩ := hV.out; exact ⟨bb, hh.same (by repeat (first | assumption | exact Kept.refl _ _ | refine Kept.alloc ?_ _ | refine Kept.drew ?_ | refine Same0.own ?_ (by omega) _))⟩)).mono ?_; rintro e w7 ⟨qo, qc, rfl, k7⟩; have K7 : Same0 w3 w7 := Same0.trans' (by repeat (first | assumption | exact Kept.refl _ _ | refine Kept.alloc ?_ _ | refine Kept.drew ?_ | refine Same0.own ?_ (by omega) _)) k7; have cc2 := HC.out _ K7; have z5 := K5.size; have z6 := K6.size; first | (have zb : w7.heap[w6.heap.size]? = some (.cells #[.int .i64 0, .int .i64 0, .slice none 0 0, .int .i64 0] 73 (0, 0)) := k7.at0 (heap_alloc_new w6 _); obtain ⟨zc0, zc1, zc2, zc3, zf0, zf1, zf2, zf3⟩ := zf9 zb) | (have zb : w7.heap[w5.heap.size]? = some (.cells #[.int .i64 0, .int .i64 0, .slice none 0 0, .int .i64 0] 73 (0, 0)) := k7.at0 (k6.at0 (heap_alloc2_old w5.drew _ _)); obtain ⟨zc0, zc1, zc2, zc3, zf0, zf1, zf2, zf3⟩ := zf9 zb) | (have zb : w7.heap[w5.heap.size + 1]? = some (.cells #[.int .i64 0, .int .i64 0, .slice none 0 0, .int .i64 0] 73 (0, 0)) := k7.at0 (k6.at0 (heap_al_al w5.drew _ _)); obtain ⟨zc0, zc1, zc2, zc3, zf0, zf1, zf2, zf3⟩ := zf9 zb) | skip))
    all_goals
      go_wp2_with fail
      go_meet
      case rel =>
        first
          | exact ⟨_, qo, qc, rfl, rfl, heap_alloc_new w7 _, by repeat (first | assumption | exact Kept.refl _ _ | refine Kept.alloc ?_ _ | refine Kept.drew ?_ | refine Same0.own ?_ (by omega) _)⟩
          | exact ⟨_, qo, qc, rfl, rfl, setAt (setAt (setAt (setAt zb 0 _) 1 _) 2 _) 3 _, Same0.own (Same0.own (Same0.own (Same0.own K7 (by omega) _) (by omega) _) (by omega) _) (by omega) _⟩
  case rest =>
    obtain ⟨g, qo, qc, rfl, rfl, hg, kc⟩ := hcut
    obtain ⟨c0, c1, c2, c3⟩ := HC.out wc kc
    have BW := weight_any (HL.out wc kc).2.2.2 aw9_len io po eo 7 ic 1 pc 4 ec rc' 1
    rw [aw9_idx, aw9_wt] at BW
    clear CO CR C0
    go_upto_region 12 with (first | (go_at_call 20; refine BW.mono ?_; rintro e w8 ⟨rfl, k8⟩))
    have hg8 := k8.at0 hg
    have g0 := cellAt hg8 0
    have g1 := cellAt hg8 1
    have g2 := cellAt hg8 2
    have g3 := cellAt hg8 3
    have BS := fsame_any (w := w8) (k := 1) (r := 1) (nd := 0) (p := []) (po := qo) (po' := none) (pc := qc) (pc' := 0) (.inl rfl) (.inl rfl) (by decide)
    have KF : Same0 w w8 := ((K1.trans' K3).trans' kc).trans' k8
    go_wp2_with (first | (go_at_call 26; refine BS.mono ?_; rintro e w9 ⟨rfl, k9⟩))
    go_ret
    exact ⟨rfl, KF.trans' k9⟩
end Go.Proofs.YthamjjhioafkjaaGreat
namespace Go.Proofs.YthamjjhioafkjaaGreat
set_option maxRecDepth 100000
set_option linter.unusedVariables false
open Go.RowKit
attribute [local go_sem ↓] Go.wp_at_zero Go.wp_at_succ
theorem row_get9 {base : Nat} {w : World} {v : Value} {xs : List Int} (h : Row base w v xs) {i : Nat} (hi : i < xs.length) : ∃ g cap,v = .slice (some ⟨g,0,none⟩) xs.length cap ∧ g < w.heap.size ∧ w.cell? ⟨g,i,none⟩ = some (.int .i64 xs[i]) := by
  obtain ⟨g, cap, hv, _, hlt⟩ := h.form (by omega)
  subst hv
  exact ⟨g, cap, rfl, hlt, (h.cellAt i (by omega)).trans (iv_get hi)⟩
theorem cls_neg {L : List Sym} {t : List Int} {k : Nat} (h : k < t.length) (hx : t[k] < 0) : clsB L t = false := by
  have : t.any (fun x => decide (x < 0)) = true := List.any_eq_true.2 ⟨t[k], List.getElem_mem h, by simpa using hx⟩
  simp [clsB, this]
theorem cls_none {L : List Sym} {t : List Int} (h : ∀ x ∈ t,0 ≤ x) : clsB L t = decide (checkE L t = 0) := by
  have : t.any (fun x => decide (x < 0)) = false := by
    rw [List.any_eq_false]
    intro x hx
    have := h x hx
    simp; omega
  simp [clsB, this]
theorem cls_pos {L : List Sym} {t : List Int} (h : clsB L t = true) : checkE L t = 0 ∧ ∀ x ∈ t,0 ≤ x := by
  unfold clsB at h
  simp only [Bool.and_eq_true, decide_eq_true_eq, Bool.not_eq_true', List.any_eq_false, decide_eq_true_eq] at h
  exact ⟨h.1, fun x hx => by have := h.2 x hx; omega⟩
set_option maxHeartbeats 4000000 in
theorem rclosed_any {n : Nat} {w : World} {rv : Value} {L : List Sym} (h : Rl n w rv L) {ao : Option Addr} {cap : Nat} {t : List Int} (ht : IntsAt w ao t) (hm : t.length ≤ maxLen) :
    Calls Tryz.prog 32 #[rv,.slice ao t.length cap] w fun e w' => e = .returned (.bool (clsB L t)) ∧ w' = w := by
  have CK := rcheck_any (cap := cap) h ht hm
  unfold maxLen at hm
  obtain ⟨ro, rcap, rfl⟩ := row_shape h.1
  go_enter Tryz.func32, Tryz.ntmps32
  go_wp2
  go_loopw [5] (fun i wr => ∃ k : Nat, k ≤ t.length ∧ i = .int .i64 (k : Int) ∧ Hid (∀ x ∈ t.take k, 0 ≤ x) ∧ wr = w) (fun i _ => t.length - (intOf i).toNat)
  case atStart => exact ⟨0, Nat.zero_le _, rfl, fun x hx => by simp at hx, rfl⟩
  case round =>
    obtain ⟨k, hk, rfl, hH, rfl⟩ := hrel
    by_cases hlt : k < t.length
    · obtain ⟨b, off, rfl, hb, hc⟩ := ht.get hlt
      have i1 : (0 : Int) ≤ (k : Int) := by omega
      have i2 : (k : Int) < (t.length : Int) := by omega
      by_cases hx : t[k] < 0
      · have H : Hid (clsB L t = false) := cls_neg hlt hx
        generalize t[k] = x at *
        go_wp2
        go_ret
        exact ⟨by rw [H.out]; rfl, rfl⟩
      · have H : Hid (∀ x ∈ t.take (k + 1), 0 ≤ x) := fun x hm' => by
          rw [← List.take_append_getElem hlt, List.mem_append] at hm'
          rcases hm' with h1 | h1
          · exact hH.out x h1
          · simp at h1; omega
        generalize t[k] = x at *
        go_wp2
        go_roundw
        case rel => exact ⟨k + 1, by omega, by go_num, H, trivial⟩
        case measure => simp [intOf]; omega
    · have H : Hid (clsB L t = decide (checkE L t = 0)) := cls_none (fun x hx => hH.out x (by rw [List.take_of_length_le (by omega)]; exact hx))
      generalize checkE L t = z at *
      go_wp2_with (first | (go_at_call 61; refine CK.mono ?_; rintro e w2 ⟨rfl, rfl⟩))
      go_ret
      exact ⟨by rw [H.out]; rfl, rfl⟩
set_option maxHeartbeats 4000000 in
theorem rhead9_any {n : Nat} {w : World} {rv : Value} {L : List Sym} (h : Rl n w rv L) {ao : Option Addr} {cap : Nat} {t : List Int} (ht : IntsAt w ao t) (hm : t.length ≤ maxLen) (p : Int) :
    Calls Tryz.prog 29 #[rv,.slice ao t.length cap,.int .i64 p] w fun e w' => e = .returned (.int .i64 (headI (clsB L t) t p)) ∧ w' = w := by
  have CK := rclosed_any (cap := cap) h ht hm
  unfold maxLen at hm
  obtain ⟨ro, rcap, rfl⟩ := row_shape h.1
  cases hcl : clsB L t with
  | false =>
    rw [hcl] at CK
    go_enter Tryz.func29, Tryz.ntmps29
    go_wp2_with (first | (go_at_call 32; refine CK.mono ?_; rintro e w2 ⟨rfl, rfl⟩))
    go_ret
    exact ⟨rfl, rfl⟩
  | true =>
    rw [hcl] at CK
    by_cases h0 : p < 0
    · have H : Hid (headI true t p = -1) := by show _ = _; simp [headI, idxB]; omega
      go_enter Tryz.func29, Tryz.ntmps29
      go_wp2_with (first | (go_at_call 32; refine CK.mono ?_; rintro e w2 ⟨rfl, rfl⟩))
      go_ret
      exact ⟨by rw [H.out]; rfl, rfl⟩
    · by_cases h1 : p < (t.length : Int)
      · obtain ⟨i, rfl⟩ : ∃ i : Nat, p = (i : Int) := ⟨p.toNat, by omega⟩
        have hi : i < t.length := by omega
        have H : Hid (headI true t (i : Int) = t[i]) := by show _ = _; simp [headI, idxB, hi]
        obtain ⟨b, off, rfl, hb, hc⟩ := ht.get hi
        have i1 : (0 : Int) ≤ (i : Int) := by omega
        generalize t[i] = x at *
        go_enter Tryz.func29, Tryz.ntmps29
        go_wp2_with (first | (go_at_call 32; refine CK.mono ?_; rintro e w2 ⟨rfl, rfl⟩))
        go_ret
        exact ⟨by rw [H.out]; rfl, rfl⟩
      · have H : Hid (headI true t p = -1) := by show _ = _; simp [headI, idxB]; omega
        go_enter Tryz.func29, Tryz.ntmps29
        go_wp2_with (first | (go_at_call 32; refine CK.mono ?_; rintro e w2 ⟨rfl, rfl⟩))
        go_ret
        exact ⟨by rw [H.out]; rfl, rfl⟩
set_option maxHeartbeats 4000000 in
theorem rarg9_any {n : Nat} {w : World} {rv : Value} {L : List Sym} (h : Rl n w rv L) {ao : Option Addr} {cap : Nat} {t : List Int} (ht : IntsAt w ao t) (hm : t.length ≤ maxLen) (p m : Int) :
    Calls Tryz.prog 31 #[rv,.slice ao t.length cap,.int .i64 p,.int .i64 m] w fun e w' => e = .returned (.int .i64 (argI L (clsB L t) t p m)) ∧ Same0 w w' := by
  have CH := rhead9_any (cap := cap) h ht hm p
  by_cases hok : (clsB L t && idxB p t.length) = true
  · have hok2 := hok
    rw [Bool.and_eq_true] at hok2
    obtain ⟨hcl, hix⟩ := hok2
    obtain ⟨i, rfl, hi⟩ := idx_yes hix
    obtain ⟨ck, hpos⟩ := cls_pos hcl
    obtain ⟨h2000, _, hT⟩ := checkE_zero.1 ck
    have CA := rargs_any (cap := cap) h ht h2000 hT i hi
    have hh : headI (clsB L t) t (i : Int) = t[i] := by simp [headI, hok, hi]
    have hx : 0 ≤ t[i] := hpos _ (List.getElem_mem hi)
    rw [hh] at CH
    have HA : Hid (argI L (clsB L t) t (i : Int) m = if idxB m (argsN L t i).length = true then (((argsN L t i).getD m.toNat 0 : Nat) : Int) else -1) := by show _ = _; rw [argI, if_pos hok, Int.toNat_natCast]
    have hl : (ofN (argsN L t i)).length = (argsN L t i).length := by simp [ofN]
    obtain ⟨ro, rcap, rfl⟩ := row_shape h.1
    generalize t[i] = x at *
    clear hok hcl hix hpos ck hh h
    by_cases h0 : m < 0
    · have H : Hid (argI L (clsB L t) t (i : Int) m = -1) := by show _ = _; rw [HA.out, if_neg (by simp [idxB]; omega)]
      go_enter Tryz.func31, Tryz.ntmps31
      go_wp2_with (first | (go_at_call 29; refine CH.mono ?_; rintro e w2 ⟨rfl, rfl⟩) | (go_at_call 60; refine CA.mono ?_; rintro e w3 ⟨v, rfl, hr, k3⟩; obtain ⟨vo, vc, rfl, hv, _⟩ := hr.ints))
      go_ret
      exact ⟨by rw [H.out]; rfl, k3⟩
    · by_cases h1 : m < ((argsN L t i).length : Int)
      · obtain ⟨j, rfl⟩ : ∃ j : Nat, m = (j : Int) := ⟨m.toNat, by omega⟩
        have hj : j < (argsN L t i).length := by omega
        have H : Hid (argI L (clsB L t) t (i : Int) (j : Int) = (ofN (argsN L t i))[j]) := by
          show _ = _
          rw [HA.out, if_pos (by simp [idxB, hj])]
          simp [ofN, hj]
        have i1 : (0 : Int) ≤ (j : Int) := by omega
        have i2 : (j : Int) < ((ofN (argsN L t i)).length : Int) := by omega
        go_enter Tryz.func31, Tryz.ntmps31
        go_wp2_with (first | (go_at_call 29; refine CH.mono ?_; rintro e w2 ⟨rfl, rfl⟩) | (go_at_call 60; refine CA.mono ?_; rintro e w3 ⟨v, rfl, hr, k3⟩; obtain ⟨g, gc, rfl, hgl, hgc⟩ := row_get9 hr (i := j) (by omega)))
        go_ret
        exact ⟨by rw [H.out]; rfl, k3⟩
      · have H : Hid (argI L (clsB L t) t (i : Int) m = -1) := by show _ = _; rw [HA.out, if_neg (by simp [idxB]; omega)]
        have h1' : ¬ m < ((ofN (argsN L t i)).length : Int) := by omega
        go_enter Tryz.func31, Tryz.ntmps31
        go_wp2_with (first | (go_at_call 29; refine CH.mono ?_; rintro e w2 ⟨rfl, rfl⟩) | (go_at_call 60; refine CA.mono ?_; rintro e w3 ⟨v, rfl, hr, k3⟩; obtain ⟨vo, vc, rfl, hv, _⟩ := hr.ints))
        go_ret
        exact ⟨by rw [H.out]; rfl, k3⟩
  · have hh : headI (clsB L t) t p = -1 := by rw [headI, if_neg hok]
    have H : Hid (argI L (clsB L t) t p m = -1) := by show _ = _; rw [argI, if_neg hok]
    rw [hh] at CH
    obtain ⟨ro, rcap, rfl⟩ := row_shape h.1
    clear hok hh
    go_enter Tryz.func31, Tryz.ntmps31
    go_wp2_with (first | (go_at_call 29; refine CH.mono ?_; rintro e w2 ⟨rfl, rfl⟩))
    go_ret
    exact ⟨by rw [H.out]; rfl, Kept.refl _ _⟩
end Go.Proofs.YthamjjhioafkjaaGreat
namespace Go.Proofs.YthamjjhioafkjaaGreat
set_option maxRecDepth 100000
set_option linter.unusedVariables false
open Go.RowKit
attribute [local go_sem ↓] Go.wp_at_zero Go.wp_at_succ
set_option maxHeartbeats 2000000 in
theorem made_both (ao : Option Addr) (len cap : Nat) (xs : List Sym) (w : World) (hx : SymsAt w ao len xs) (hm : len ≤ maxLen) :
    Calls Tryz.prog 22 #[.slice ao len cap] w fun e w' => ∃ b ro rc sv mr,e = .returned (.tuple #[.pointer (some ⟨b,0,none⟩),.slice ro (madeL xs).length rc]) ∧ SigAt w' b (madeL xs) sv mr ∧ (∀ k,Foot b sv mr k → w.heap.size ≤ k ∧ k < w'.heap.size) ∧ Sg w'.heap.size w' b (madeL xs) ∧ Rl w'.heap.size w' (.slice ro (madeL xs).length rc) (madeL xs) ∧ (∀ k,(Value.slice ro (madeL xs).length rc).ownBlock = some k → ¬ Foot b sv mr k) ∧ Same0 w w' := by
  unfold maxLen at hm
  go_enter Tryz.func22, Tryz.ntmps22
  go_wp2_with (first | (go_at_call 50; refine (new_any _).mono ?_; rintro e w' ⟨rfl, rfl⟩))
  go_loopw [6] (fun i wr => ∃ (k : Nat) (sv : Value) (mr : Option Nat) (rv : Value), k ≤ len ∧ i = .int .i64 (k : Int) ∧ Both w.heap.size w wr w.heap.size (w.heap.size + 1) (madeL (xs.take k)) sv mr rv) (fun i _ => len - (intOf i).toNat)
  case atStart => exact ⟨0, _, _, _, Nat.zero_le _, rfl, Both.start w⟩
  case round =>
    obtain ⟨k, sv, mr, rv, hk, rfl, hb⟩ := hrel
    have hlen := hb.sg.len
    by_cases hlt : k < len
    · obtain ⟨xl, xc, xw⟩ := hx.kept (from_below hb.k).below
      obtain ⟨xb, off, rfl, hxb, hxc⟩ := xc.resolve_left (by omega)
      have hkx : k < xs.length := by omega
      obtain ⟨x0, x1, x2⟩ := hxc k hkx
      have xsz := (xw xs[k] (List.getElem_mem hkx)).1
      have i1 : (0 : Int) ≤ (k : Int) := by omega
      have i2 : (k : Int) < (len : Int) := by omega
      have E1 : Hid (madeL (xs.take (k + 1)) = addL (madeL (xs.take k)) xs[k]) := madeL_snoc hkx
      have hn0 := hb.k.size
      have hxs := hx
      clear hxc xw xc xl
      generalize madeL (xs.take k) = L at *
      go_wp2_with fail
      refine (add_any hb.sg xs[k] xsz).mono ?_
      rintro e w1 ⟨rfl, sv1, mr1, h1, h2, h3⟩
      have hr1 : RefAt w1 (w.heap.size + 1) L rv := hb.rf.kept h2 (fun k hk' e => hb.d k e hk')
      have k1 : Kept (From w.heap.size) w w1 := hb.k.trans h2 (fun i _ e => hb.f i e)
      obtain ⟨y0, y1, y2⟩ : w1.cell? ⟨xb, off + k * 3, none⟩ = some (.string xs[k].name) ∧ w1.cell? ⟨xb, off + k * 3 + 1, none⟩ = some (.int .i64 xs[k].ar) ∧ w1.cell? ⟨xb, off + k * 3 + 2, none⟩ = some (.bool xs[k].df) := by
        obtain ⟨_, yc, _⟩ := hxs.kept (from_below k1).below
        obtain ⟨_, _, e, _, hyc⟩ := yc.resolve_left (by omega)
        simp only [Option.some.injEq, Addr.mk.injEq, and_true] at e
        rw [e.1, e.2]
        exact hyc k hkx
      clear x0 x1 x2
      go_wp2_with fail
      refine (radd_any hr1 hlen xs[k] xsz).mono ?_
      rintro e w2 ⟨rfl, hr⟩
      obtain ⟨rv2, hb2⟩ := hb.next xs[k] hn0 h1 h2 h3 hr
      go_wp2
      refine ⟨⟨k + 1, sv1, mr1, rv2, by omega, by go_num, ?_⟩, by simp [intOf]; omega⟩
      rw [E1.out]; exact hb2
    · have hxl := hx.1
      have E1 : xs.take k = xs := List.take_of_length_le (by omega)
      rw [E1] at hb hlen
      have r0 := hb.rf.c0
      obtain ⟨ro, rc, rfl⟩ := row_shape hb.rf.row
      clear E1
      go_wp2
      go_quiet (fail)
      go_wp2
      go_ret2
      have kd : Same0 wr (wr.drewN nq) := (Kept.refl _ _).drewN nq
      have hz : (wr.drewN nq).heap.size = wr.heap.size := by first | rfl | simp
      have fin : Sg wr.heap.size wr w.heap.size (madeL xs) ∧ Rl wr.heap.size wr (.slice ro (madeL xs).length rc) (madeL xs) ∧ Same0 w wr := ⟨⟨⟨sv, mr, hb.sg, sig_foot_lt hb.sg⟩, hb.a⟩, ⟨hb.rf.row, fun k e => hb.rf.lt k (.inr e), hb.a, hlen⟩, from_below hb.k⟩
      exact ⟨w.heap.size, ro, rc, sv, mr, rfl, hb.sg.kept kd (fun _ _ f => f), fun k hk => ⟨hb.f k hk, Nat.lt_of_lt_of_le (sig_foot_lt hb.sg k hk) kd.size⟩, sg_up (fin.1.same kd) kd.size, rl_up (fin.2.1.same kd) kd.size, fun k e hf => hb.d k hf (.inr e), fin.2.2.trans' kd⟩
set_option maxHeartbeats 4000000 in
theorem over_nil (ao : Option Addr) (len cap : Nat) (w : World) : Calls Tryz.prog 23 #[.pointer none,.slice ao len cap] w fun e w' => e = .returned (.agg #[.slice none 0 0,.slice none 0 0]) ∧ Same0 w w' := by
  obtain ⟨W1, hW1⟩ : ∃ W1, W1 = w.alloc (.cells #[.slice none 0 0, .slice none 0 0] 70) := ⟨_, rfl⟩
  have KW : Same0 w W1 := by rw [hW1]; exact (Kept.refl _ w).alloc _
  have hbx : W1.heap[w.heap.size]? = some (.cells #[.slice none 0 0, .slice none 0 0] 70 (0, 0)) := by rw [hW1]; exact heap_alloc_new w _
  have r2 := cellAt hbx 0
  have r3 := cellAt hbx 1
  have f2 := frozenAt hbx 0
  have f3 := frozenAt hbx 1
  have PUT : Hid (∀ x y, (((W1.setCell ⟨w.heap.size, 0, none⟩ x).setCell ⟨w.heap.size, 1, none⟩ y).cell? ⟨w.heap.size, 0, none⟩ = some x ∧ ((W1.setCell ⟨w.heap.size, 0, none⟩ x).setCell ⟨w.heap.size, 1, none⟩ y).cell? ⟨w.heap.size, 1, none⟩ = some y) ∧ Same0 w ((W1.setCell ⟨w.heap.size, 0, none⟩ x).setCell ⟨w.heap.size, 1, none⟩ y)) := fun x y => by
    have h2 := setAt (setAt hbx 0 x) 1 y
    exact ⟨⟨cellAt h2 0, cellAt h2 1⟩, Same0.own (Same0.own KW (Nat.le_refl _) _) (Nat.le_refl _) _⟩
  clear hbx
  go_enter Tryz.func23, Tryz.ntmps23
  go_upto_region 1 with fail
  rw [← hW1]
  clear hW1
  go_wp2_with (first | (go_at_call 52; refine (check_nil _ _ _ _).mono ?_; rintro e w2 ⟨rfl, rfl⟩))
  obtain ⟨⟨g0, g1⟩, ks⟩ := PUT.out (.slice none 0 0) (.slice none 0 0)
  exact bodyPost_ret (v := .agg #[.slice none 0 0, .slice none 0 0]) (by simp [results, Tryz.results23, go_sem, g0, g1]) rfl ⟨rfl, ks⟩
end Go.Proofs.YthamjjhioafkjaaGreat
