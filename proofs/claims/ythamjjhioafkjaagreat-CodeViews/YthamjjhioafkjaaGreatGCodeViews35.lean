import Derived.Test.YthamjjhioafkjaaGreatGCodeViews34
import Derived.Test.YthamjjhioafkjaaGreatGCodeViews30
namespace Go.Proofs.YthamjjhioafkjaaGreat
set_option maxRecDepth 100000
set_option linter.unusedVariables false
open Go.RowKit
attribute [local go_sem ↓] Go.wp_at_zero Go.wp_at_succ
theorem lookF_of {L : List Sym} {ok : Bool} {T : List Int} {I : List I3} {E : List Int} {node : Int} {a : Nat} {p : List Int} {nd s : Int} {j : Nat} {has : Bool} (hnd : wayI L ok T node p = nd) (hs : headI ok T nd = s) (hJ : caseF I s (a + 1) = (j,has)) : lookF L ok T I E node a p = if has = true then (if (I.getD j (0,0,0)).2.2 ≤ (j : Int) then .inl bad5 else .inr (I.getD j (0,0,0)).2.2) else if hasB E s = true then .inl (3,0,p,nd,0) else .inr (j : Int) := by
  subst hnd
  subst hs
  unfold lookF
  rw [hJ]
def LookOut (w : World) (r : R5 ⊕ Int) (e : Ending) (w' : World) : Prop :=
  match r with
  | .inl R => ∃ qo qc, e = .returned (.tuple #[.agg #[.int .i64 R.1, .int .i64 R.2.1, .slice qo R.2.2.1.length qc, .int .i64 R.2.2.2.1], .int .i64 0, .int .i64 R.2.2.2.2]) ∧ Row w.heap.size w' (.slice qo R.2.2.1.length qc) R.2.2.1 ∧ Same0 w w'
  | .inr z => e = .returned (.tuple #[.agg #[.int .i64 0, .int .i64 0, .slice none 0 0, .int .i64 0], .int .i64 z, .int .i64 0]) ∧ Same0 w w'
set_option maxHeartbeats 16000000 in
theorem look_any {base : Nat} {w : World} {L : List Sym} {ok : Bool} {T : List Int} {ho : Option Addr} {hn hc : Nat} {go : Option Addr} {gn gc : Nat} (hv : VwAt base w L ok T (.agg #[.slice ho hn hc,.slice go gn gc])) {io : Option Addr} {I : List I3} (hI : InsAt w io I) (hl : I.length ≤ 140737488355328) {eo : Option Addr} {E : List Int} (hE : IntsAt w eo E) {qo : Option Addr} {qc : Nat} {p : List Int} (hp : Arg w qo p qc) (ic ec : Nat) (po ro : Option Addr) (pl pc rl rc : Nat) (node : Int) (a : Nat) (ha : a < I.length) :
    Calls Tryz.prog 92 #[.agg #[.slice io I.length ic,.slice po pl pc,.slice eo E.length ec,.slice ro rl rc,.iface 70 (.agg #[.slice ho hn hc,.slice go gn gc]),.int .i64 node],.int .i64 (a : Int),.slice qo p.length qc] w (LookOut w (lookF L ok T I E node a p)) := by
  have hmx : p.length ≤ maxLen := by have := hp.size; unfold maxLen; omega
  obtain ⟨W1, hW1⟩ : ∃ W1, W1 = (w.alloc (.cells #[.slice io I.length ic, .slice po pl pc, .slice eo E.length ec, .slice ro rl rc, .iface 70 (.agg #[.slice ho hn hc, .slice go gn gc]), .int .i64 node] 140)).alloc (.cells #[.int .i64 0, .int .i64 0, .slice none 0 0, .int .i64 0] 73) := ⟨_, rfl⟩
  have KW : Same0 w W1 := by rw [hW1]; exact ((Kept.refl _ w).alloc _).alloc _
  have hbx : W1.heap[w.heap.size]? = some (.cells #[.slice io I.length ic, .slice po pl pc, .slice eo E.length ec, .slice ro rl rc, .iface 70 (.agg #[.slice ho hn hc, .slice go gn gc]), .int .i64 node] 140 (0, 0)) := by rw [hW1]; exact heap_alloc2_old _ _ _
  have hfd : W1.heap[w.heap.size + 1]? = some (.cells #[.int .i64 0, .int .i64 0, .slice none 0 0, .int .i64 0] 73 (0, 0)) := by rw [hW1]; exact heap_al_al _ _ _
  have BX : Hid (∀ ww, Same0 W1 ww → ww.cell? ⟨w.heap.size, 0, none⟩ = some (.slice io I.length ic) ∧ ww.cell? ⟨w.heap.size, 1, none⟩ = some (.slice po pl pc) ∧ ww.cell? ⟨w.heap.size, 2, none⟩ = some (.slice eo E.length ec) ∧ ww.cell? ⟨w.heap.size, 3, none⟩ = some (.slice ro rl rc) ∧ ww.cell? ⟨w.heap.size, 4, none⟩ = some (.iface 70 (.agg #[.slice ho hn hc, .slice go gn gc])) ∧ ww.cell? ⟨w.heap.size, 5, none⟩ = some (.int .i64 node)) := fun ww hk => by
    have := hk.at0 hbx
    exact ⟨cellAt this 0, cellAt this 1, cellAt this 2, cellAt this 3, cellAt this 4, cellAt this 5⟩
  have RC : Hid (∀ ww, Same0 W1 ww → (ww.cell? ⟨w.heap.size + 1, 0, none⟩ = some (.int .i64 0) ∧ ww.cell? ⟨w.heap.size + 1, 1, none⟩ = some (.int .i64 0) ∧ ww.cell? ⟨w.heap.size + 1, 2, none⟩ = some (.slice none 0 0) ∧ ww.cell? ⟨w.heap.size + 1, 3, none⟩ = some (.int .i64 0)) ∧ ww.frozen? ⟨w.heap.size + 1, 0, none⟩ = false ∧ ww.frozen? ⟨w.heap.size + 1, 1, none⟩ = false ∧ ww.frozen? ⟨w.heap.size + 1, 2, none⟩ = false ∧ ww.frozen? ⟨w.heap.size + 1, 3, none⟩ = false) := fun ww hk => by
    have := hk.at0 hfd
    exact ⟨⟨cellAt this 0, cellAt this 1, cellAt this 2, cellAt this 3⟩, frozenAt this 0, frozenAt this 1, frozenAt this 2, frozenAt this 3⟩
  have PUT : Hid (∀ ww x0 x1 x2 x3, Same0 W1 ww → (((((ww.setCell ⟨w.heap.size + 1, 0, none⟩ x0).setCell ⟨w.heap.size + 1, 1, none⟩ x1).setCell ⟨w.heap.size + 1, 2, none⟩ x2).setCell ⟨w.heap.size + 1, 3, none⟩ x3).cell? ⟨w.heap.size + 1, 0, none⟩ = some x0 ∧ ((((ww.setCell ⟨w.heap.size + 1, 0, none⟩ x0).setCell ⟨w.heap.size + 1, 1, none⟩ x1).setCell ⟨w.heap.size + 1, 2, none⟩ x2).setCell ⟨w.heap.size + 1, 3, none⟩ x3).cell? ⟨w.heap.size + 1, 1, none⟩ = some x1 ∧ ((((ww.setCell ⟨w.heap.size + 1, 0, none⟩ x0).setCell ⟨w.heap.size + 1, 1, none⟩ x1).setCell ⟨w.heap.size + 1, 2, none⟩ x2).setCell ⟨w.heap.size + 1, 3, none⟩ x3).cell? ⟨w.heap.size + 1, 2, none⟩ = some x2 ∧ ((((ww.setCell ⟨w.heap.size + 1, 0, none⟩ x0).setCell ⟨w.heap.size + 1, 1, none⟩ x1).setCell ⟨w.heap.size + 1, 2, none⟩ x2).setCell ⟨w.heap.size + 1, 3, none⟩ x3).cell? ⟨w.heap.size + 1, 3, none⟩ = some x3) ∧ Kept (fun q => q = w.heap.size + 1) ww ((((ww.setCell ⟨w.heap.size + 1, 0, none⟩ x0).setCell ⟨w.heap.size + 1, 1, none⟩ x1).setCell ⟨w.heap.size + 1, 2, none⟩ x2).setCell ⟨w.heap.size + 1, 3, none⟩ x3) ∧ Same0 w ((((ww.setCell ⟨w.heap.size + 1, 0, none⟩ x0).setCell ⟨w.heap.size + 1, 1, none⟩ x1).setCell ⟨w.heap.size + 1, 2, none⟩ x2).setCell ⟨w.heap.size + 1, 3, none⟩ x3)) := by
    intro ww x0 x1 x2 x3 hk
    have rs := hk.at0 hfd
    have s3 := setAt (setAt (setAt (setAt rs 0 x0) 1 x1) 2 x2) 3 x3
    have k1 := kept_at ww (w.heap.size + 1) 0 x0
    have k2 := Kept.trans k1 (kept_at _ (w.heap.size + 1) 1 x1) (fun _ _ e => e)
    have k3 := Kept.trans k2 (kept_at _ (w.heap.size + 1) 2 x2) (fun _ _ e => e)
    have k4 := Kept.trans k3 (kept_at _ (w.heap.size + 1) 3 x3) (fun _ _ e => e)
    exact ⟨⟨cellAt s3 0, cellAt s3 1, cellAt s3 2, cellAt s3 3⟩, k4, Kept.trans (KW.trans' hk) k4 (fun i hi e => by omega)⟩
  have CK : Hid (∀ ww, Same0 w ww → Calls Tryz.prog 125 #[.agg #[.slice io I.length ic, .slice po pl pc, .slice eo E.length ec, .slice ro rl rc, .iface 70 (.agg #[.slice ho hn hc, .slice go gn gc]), .int .i64 node], .slice qo p.length qc] ww fun e w' => e = .returned (.tuple #[.int .i64 (wayI L ok T node p), .int .i64 (headI ok T (wayI L ok T node p)), .bool false, .int .i64 0]) ∧ Same0 ww w') := fun ww hk => cask_any (hv.same hk) (hp.at'.same hk) hmx _ _ _ _ _ _ _ _ _ _ _ _ node
  have CO : Hid (∀ ww s, Same0 w ww → Calls Tryz.prog 126 #[.agg #[.slice io I.length ic, .slice po pl pc, .slice eo E.length ec, .slice ro rl rc, .iface 70 (.agg #[.slice ho hn hc, .slice go gn gc]), .int .i64 node], .int .i64 s, .int .i64 ((a : Int) + 1)] ww fun e w' => e = .returned (.tuple #[.int .i64 ((caseF I s (a + 1)).1 : Int), .bool (caseF I s (a + 1)).2]) ∧ Same0 ww w') := fun ww s hk => ccase_any (hI.same hk) hl _ _ _ _ _ _ _ _ _ _ _ node s (a + 1) (by omega)
  have CB : Hid (∀ ww n, Same0 w ww → Calls Tryz.prog 57 #[.agg #[.slice io I.length ic, .slice po pl pc, .slice eo E.length ec, .slice ro rl rc], .int .i64 n] ww fun e w' => e = .returned (.bool (hasB E n)) ∧ Same0 ww w') := fun ww n hk => chas_any (hE.same hk) _ _ _ _ _ _ _ _ _ _ n
  have CC : Hid (∀ ww, Same0 w ww → Calls Tryz.prog 70 #[.slice qo p.length qc] ww fun e w' => ∃ zo zc, e = .returned (.slice zo p.length zc) ∧ Hid (Row ww.heap.size w' (.slice zo p.length zc) p) ∧ Same0 ww w') := fun ww hk => by
    refine (cloneI_any (hp.same hk)).mono ?_
    rintro e w' ⟨v, rfl, hr, hk'⟩
    obtain ⟨zo, zc, rfl, _⟩ := hr.ints
    exact ⟨zo, zc, rfl, hr, hk'⟩
  have HI : Hid (∀ ww j (hj : j < I.length), Same0 w ww → ∃ b off, io = some ⟨b, off, none⟩ ∧ ww.cell? ⟨b, off + j * 3 + 2, none⟩ = some (.int .i64 I[j].2.2)) := fun ww j hj hk => by
    obtain ⟨b, off, e, _, _, _, h2⟩ := (hI.same hk).get hj
    exact ⟨b, off, e, h2⟩
  have C1 := CK.out W1 KW
  obtain ⟨x0, x1, x2, x3, x4, x5⟩ := BX.out W1 (Kept.refl _ _)
  have ai : (a : Int) < 140737488355328 := by omega
  obtain ⟨nd, hnd⟩ : ∃ nd, wayI L ok T node p = nd := ⟨_, rfl⟩
  rw [hnd] at C1
  obtain ⟨s, hs⟩ : ∃ s, headI ok T nd = s := ⟨_, rfl⟩
  rw [hs] at C1
  obtain ⟨cle, cl2, clt⟩ := caseF_le (I := I) (s := s) (a := a + 1) (by omega)
  obtain ⟨j, has, hJ⟩ : ∃ j has, caseF I s (a + 1) = (j, has) := ⟨_, _, rfl⟩
  have C2 : Hid (∀ ww, Same0 w ww → Calls Tryz.prog 126 #[.agg #[.slice io I.length ic, .slice po pl pc, .slice eo E.length ec, .slice ro rl rc, .iface 70 (.agg #[.slice ho hn hc, .slice go gn gc]), .int .i64 node], .int .i64 s, .int .i64 ((a : Int) + 1)] ww fun e w' => e = .returned (.tuple #[.int .i64 (j : Int), .bool has]) ∧ Same0 ww w') := fun ww hk => by
    have := CO.out ww s hk
    rw [hJ] at this
    exact this
  have HF : Hid _ := lookF_of (E := E) hnd hs hJ
  rw [hJ] at cle cl2 clt
  simp only at cle cl2 clt
  have j0 : (0 : Int) ≤ (j : Int) := by omega
  clear hJ CO CK hv hI hE hp hbx hfd hnd hs
  cases has with
  | true =>
    have hj := clt rfl
    obtain ⟨ib, ioff, rfl, _⟩ := HI.out w j hj (Kept.refl _ _)
    have HC : Hid (∀ ww, Same0 w ww → ww.cell? ⟨ib, ioff + j * 3 + 2, none⟩ = some (.int .i64 I[j].2.2)) := fun ww hk => by
      obtain ⟨b', off', e, h2⟩ := HI.out ww j hj hk
      simp only [Option.some.injEq, Addr.mk.injEq, and_true] at e
      obtain ⟨rfl, rfl⟩ := e
      exact h2
    have eg : I.getD j (0, 0, 0) = I[j] := by simp [hj]
    rw [if_pos rfl, eg] at HF
    have j1 : (j : Int) < (I.length : Int) := by omega
    generalize I[j].2.2 = z at *
    clear HI clt eg CB CC
    by_cases hz : z ≤ (j : Int)
    · rw [if_pos hz] at HF
      rw [HF.out]
      clear HF
      go_enter Tryz.func92, Tryz.ntmps92
      go_upto_region 1 with fail
      rw [← hW1]
      clear hW1
      go_wp2_with (first
        | (go_at_call 125; refine C1.mono ?_; rintro e w2 ⟨rfl, k2⟩; have C3 := C2.out w2 (KW.trans' k2); obtain ⟨y0, y1, y2, y3, y4, y5⟩ := BX.out w2 k2)
        | (go_at_call 126; refine C3.mono ?_; rintro e w3 ⟨rfl, k3⟩; have k13 := k2.trans' k3; obtain ⟨z0, z1, z2, z3, z4, z5⟩ := BX.out w3 k13; have cz := HC.out w3 (KW.trans' k13); obtain ⟨⟨r0, r1, r2, r3⟩, f0, f1, f2, f3⟩ := RC.out w3 k13))
      obtain ⟨⟨g0, g1, g2, g3⟩, kk, ks⟩ := PUT.out w3 (.int .i64 0) (.int .i64 0) (.slice none 0 0) (.int .i64 0) k13
      exact bodyPost_ret (v := .tuple #[.agg #[.int .i64 0, .int .i64 0, .slice none 0 0, .int .i64 0], .int .i64 0, .int .i64 92]) (by simp [results, Tryz.results92, go_sem, g0, g1, g2, g3]) rfl ⟨none, 0, rfl, World.ownsRow_nil _ _ _ _, ks⟩
    · rw [if_neg hz] at HF
      rw [HF.out]
      have hzd : decide (z ≤ (j : Int)) = false := by simpa using hz
      clear HF hz
      go_enter Tryz.func92, Tryz.ntmps92
      go_upto_region 1 with fail
      rw [← hW1]
      clear hW1
      go_upto_region 5 with (first
        | (go_at_call 125; refine C1.mono ?_; rintro e w2 ⟨rfl, k2⟩; have C3 := C2.out w2 (KW.trans' k2); obtain ⟨y0, y1, y2, y3, y4, y5⟩ := BX.out w2 k2)
        | (go_at_call 126; refine C3.mono ?_; rintro e w3 ⟨rfl, k3⟩; have k13 := k2.trans' k3; obtain ⟨z0, z1, z2, z3, z4, z5⟩ := BX.out w3 k13; have cz := HC.out w3 (KW.trans' k13); obtain ⟨⟨r0, r1, r2, r3⟩, f0, f1, f2, f3⟩ := RC.out w3 k13))
      go_upto_region 7 with fail
      go_upto_region 8 with fail
      have PH : Hid _ := PUT.out w3 (.int .i64 0) (.int .i64 0) (.slice none 0 0) (.int .i64 0) k13
      have S0 : w3.cell? ⟨w.heap.size, 0, none⟩ = some (.slice (some ⟨ib, ioff, none⟩) I.length ic) ∧ w3.cell? ⟨ib, ioff + j * 3 + 2, none⟩ = some (.int .i64 z) := ⟨z0, cz⟩
      have S1 : Hid ((((((w3.setCell ⟨w.heap.size + 1, 0, none⟩ (.int .i64 0)).setCell ⟨w.heap.size + 1, 1, none⟩ (.int .i64 0)).setCell ⟨w.heap.size + 1, 2, none⟩ (.slice none 0 0)).setCell ⟨w.heap.size + 1, 3, none⟩ (.int .i64 0))).cell? ⟨w.heap.size, 0, none⟩ = some (.slice (some ⟨ib, ioff, none⟩) I.length ic) ∧ (((((w3.setCell ⟨w.heap.size + 1, 0, none⟩ (.int .i64 0)).setCell ⟨w.heap.size + 1, 1, none⟩ (.int .i64 0)).setCell ⟨w.heap.size + 1, 2, none⟩ (.slice none 0 0)).setCell ⟨w.heap.size + 1, 3, none⟩ (.int .i64 0))).cell? ⟨ib, ioff + j * 3 + 2, none⟩ = some (.int .i64 z)) := by
        obtain ⟨_, kk, _⟩ := PH.out
        have hib : ib < w.heap.size := World.block_lt_of_cell? w _ (HC.out w (Kept.refl _ _))
        exact ⟨(kk.cell (p := ⟨w.heap.size, 0, none⟩) (World.block_lt_of_cell? _ _ z0) (fun e => by have e' : w.heap.size = w.heap.size + 1 := e; omega)).trans z0, (kk.cell (p := ⟨ib, ioff + j * 3 + 2, none⟩) (World.block_lt_of_cell? _ _ cz) (fun e => by have e' : ib = w.heap.size + 1 := e; omega)).trans cz⟩
      clear y0 y1 y2 y3 y4 y5 z0 z1 z2 z3 z4 z5 cz
      go_region_held3 (fun w' => w'.cell? ⟨w.heap.size, 0, none⟩ = some (.slice (some ⟨ib, ioff, none⟩) I.length ic) ∧ w'.cell? ⟨ib, ioff + j * 3 + 2, none⟩ = some (.int .i64 z)) (first | exact S0 | exact S1.out) (fail)
      all_goals
        go_wp2_with fail
        obtain ⟨⟨g0, g1, g2, g3⟩, kk, ks⟩ := PH.out
        exact bodyPost_ret (v := .tuple #[.agg #[.int .i64 0, .int .i64 0, .slice none 0 0, .int .i64 0], .int .i64 z, .int .i64 0]) (by simp [results, Tryz.results92, go_sem, g0, g1, g2, g3]) rfl ⟨rfl, Kept.drew ks⟩
  | false =>
    have CB2 : Hid (∀ ww, Same0 w ww → Calls Tryz.prog 57 #[.agg #[.slice io I.length ic, .slice po pl pc, .slice eo E.length ec, .slice ro rl rc], .int .i64 s] ww fun e w' => e = .returned (.bool (hasB E s)) ∧ Same0 ww w') := fun ww hk => CB.out ww s hk
    rw [if_neg (by simp)] at HF
    clear HI clt CB
    cases hb : hasB E s with
    | true =>
      rw [hb] at CB2
      rw [if_pos hb] at HF
      rw [HF.out]
      clear HF hb
      go_enter Tryz.func92, Tryz.ntmps92
      go_upto_region 1 with fail
      rw [← hW1]
      clear hW1
      go_wp2_with (first
        | (go_at_call 125; refine C1.mono ?_; rintro e w2 ⟨rfl, k2⟩; have C3 := C2.out w2 (KW.trans' k2); obtain ⟨y0, y1, y2, y3, y4, y5⟩ := BX.out w2 k2)
        | (go_at_call 126; refine C3.mono ?_; rintro e w3 ⟨rfl, k3⟩; have k13 := k2.trans' k3; obtain ⟨z0, z1, z2, z3, z4, z5⟩ := BX.out w3 k13; have C4 := CB2.out w3 (KW.trans' k13))
        | (go_at_call 57; refine C4.mono ?_; rintro e w4 ⟨rfl, k4⟩; have k14 := k13.trans' k4; have C5 := CC.out w4 (KW.trans' k14))
        | (go_at_call 70; refine C5.mono ?_; rintro e w5 ⟨zo, zc, rfl, hr, k5⟩; have k15 := k14.trans' k5; obtain ⟨⟨r0, r1, r2, r3⟩, f0, f1, f2, f3⟩ := RC.out w5 k15))
      obtain ⟨⟨g0, g1, g2, g3⟩, kk, ks⟩ := PUT.out w5 (.int .i64 3) (.int .i64 0) (.slice zo p.length zc) (.int .i64 nd) k15
      have z5 := (KW.trans' k14).size
      have zz := k14.size
      have zW : w.heap.size + 1 < W1.heap.size := by
        obtain ⟨⟨q0, _⟩, _⟩ := RC.out W1 (Kept.refl _ _)
        exact World.block_lt_of_cell? _ _ q0
      refine bodyPost_ret (v := .tuple #[.agg #[.int .i64 3, .int .i64 0, .slice zo p.length zc, .int .i64 nd], .int .i64 0, .int .i64 0]) (by simp [results, Tryz.results92, go_sem, g0, g1, g2, g3]) rfl ⟨zo, zc, rfl, ?_, ks⟩
      have hr2 := kk.row hr.out (fun k e q => by
        rcases hr.out.2 with ⟨e1, _⟩ | ⟨g, _, _, e1, e2, _⟩
        · rw [e1] at e; simp [Value.ownBlock] at e
        · rw [e1] at e; simp only [Value.ownBlock, Option.some.injEq] at e; omega)
      exact row_mono hr2 z5
    | false =>
      rw [hb] at CB2
      rw [if_neg (by rw [hb]; simp)] at HF
      rw [HF.out]
      clear HF hb CC
      go_enter Tryz.func92, Tryz.ntmps92
      go_upto_region 1 with fail
      rw [← hW1]
      clear hW1
      go_wp2_with (first
        | (go_at_call 125; refine C1.mono ?_; rintro e w2 ⟨rfl, k2⟩; have C3 := C2.out w2 (KW.trans' k2); obtain ⟨y0, y1, y2, y3, y4, y5⟩ := BX.out w2 k2)
        | (go_at_call 126; refine C3.mono ?_; rintro e w3 ⟨rfl, k3⟩; have k13 := k2.trans' k3; obtain ⟨z0, z1, z2, z3, z4, z5⟩ := BX.out w3 k13; have C4 := CB2.out w3 (KW.trans' k13))
        | (go_at_call 57; refine C4.mono ?_; rintro e w4 ⟨rfl, k4⟩; have k14 := k13.trans' k4; obtain ⟨⟨r0, r1, r2, r3⟩, f0, f1, f2, f3⟩ := RC.out w4 k14))
      obtain ⟨⟨g0, g1, g2, g3⟩, kk, ks⟩ := PUT.out w4 (.int .i64 0) (.int .i64 0) (.slice none 0 0) (.int .i64 0) k14
      exact bodyPost_ret (v := .tuple #[.agg #[.int .i64 0, .int .i64 0, .slice none 0 0, .int .i64 0], .int .i64 (j : Int), .int .i64 0]) (by simp [results, Tryz.results92, go_sem, g0, g1, g2, g3]) rfl ⟨rfl, ks⟩
end Go.Proofs.YthamjjhioafkjaaGreat
