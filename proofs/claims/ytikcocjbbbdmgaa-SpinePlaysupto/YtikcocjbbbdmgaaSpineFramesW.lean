/- The walk of SpineFrames: Frames, Nodes and Path say one thing. -/
import Derived.Test.YtikcocjbbbdmgaaSpinePathsW
namespace Go.Proofs.Ytikcocjbbbdmgaa
set_option maxRecDepth 100000
set_option linter.unusedVariables false
open Go.RowKit
attribute [local go_sem ↓] Go.wp_at_zero Go.wp_at_succ
/-- append of numbers to a row of the call's own: where the new row lies. -/
theorem wpList_moreL {w0 : World} {ops : Array Oper} {rest : List Oper} {o : Oper} {a : Act} {Q : Exit → Act → World → Prop} (hgd : o.guard = none) (s x : Operand) (t : TypeId)
    (ho : o.op = .call { callee := .builtin .append, args := #[s, x], argTypes := #[t, t] }) (ht : Try.prog.underlying t = some (.slice 3))
    (base : Nat) (xs : List Int) (vo : Option Addr) (vc : Nat) (hs : a.eval s = .slice vo xs.length vc) (hr : Row base w0 (.slice vo xs.length vc) xs) (ys : List Int) (ao : Option Addr) (m c : Nat) (hx : a.eval x = .slice ao m c) (hm : m = ys.length) (hy : IntsAt w0 ao ys) (hnil : ao = none → ys.length = 0 ∧ c = 0) (hb : base ≤ w0.heap.size) (hsz : (xs.length + ys.length) * 8 ≤ 140737488355328)
    (h : ∀ uo uc w', Row base w' (.slice uo (xs.length + ys.length) uc) (xs ++ ys) → Kept (fun k => (Value.slice vo xs.length vc).ownBlock = some k) w0 w' → (∀ k, (Value.slice uo (xs.length + ys.length) uc).ownBlock = some k → (Value.slice vo xs.length vc).ownBlock = some k ∨ w0.heap.size ≤ k) → wpList Try.prog ops Q rest (a.put o.dst (.slice uo (xs.length + ys.length) uc)) w') :
    wpList Try.prog ops Q (o :: rest) a w0 := by
  subst hm
  obtain ⟨i, hi, hz0, hz1, hz2⟩ := info_parts info_intT
  cases ao with
  | none =>
    obtain ⟨h1, rfl⟩ := hnil rfl
    have : ys = [] := List.eq_nil_of_length_eq_zero h1
    subst this
    exact wpList_append_own_none hgd s x t ho base 3 i 1 ht hi _ xs.length (iv xs) hs hr hx (h vo vc w0 (by simpa using hr) (Kept.refl _ _) (fun k e => .inl e))
  | some ad =>
    by_cases h0 : ys.length = 0
    · have : ys = [] := List.eq_nil_of_length_eq_zero h0
      subst this
      have hcap : xs.length ≤ vc := by
        rcases hr.2 with ⟨e, q⟩ | ⟨g, cap, cur, e, _, _, q, _⟩
        · simp only [Value.slice.injEq] at e; omega
        · simp only [Value.slice.injEq] at e; omega
      refine Lib.wpList_append_run w0 hgd s x t t ho _ _ hs hx (.slice vo xs.length vc) w0 ?_ (h vo vc w0 (by simpa using hr) (Kept.refl _ _) (fun k e => .inl e))
      cases vo <;> simp [Builtin.append_, run_underlying ht, sizeOf, typeInfo, hi, Builtin.lenOf, Builtin.firstCells, loadCells, loadCellsFrom, hcap, storeCells]
    · refine wpList_append_lies _ hgd s x t ho base 3 i (.int .i64 0) 1 8 ht hi hz0 hz1 hz2 rfl (by decide) _ xs.length (iv xs) hs hr ad ys.length c (iv ys) hx (by rw [iv_length]; omega) (fun j u hj => ?_) (iv_oneCell ys) (by omega) (by unfold maxLen; omega) hsz hb w0.heap.size rfl ?_
      · obtain ⟨ad', e, hc⟩ := hy.src (by have := (List.getElem?_eq_some_iff.1 hj).1; omega)
        cases e
        exact hc j u hj
      · intro g cap w' hown hgrow hat hlt
        refine h (some ⟨g, 0, none⟩) cap w' ?_ (Kept.grown (Kept.refl _ w0) hgrow (fun _ e _ => e)) (fun k e => ?_)
        · unfold Row; rw [iv_append, List.length_append]; exact hown
        · have : g = k := Option.some.inj e
          subst this
          exact hat.imp id (fun e => by omega)
theorem Row.keptI {base : Nat} {w w' : World} {v : Value} {xs : List Int} {S : Nat → Prop} (h : Row base w v xs) (hk : Kept S w w') (hS : ∀ k, S k → NotI w k) : Row base w' v xs := by
  refine hk.row h (fun k e f => ?_)
  rcases h.2 with ⟨e2, _⟩ | ⟨g, cap, cur, e2, _, hg, _⟩
  · rw [e2] at e; cases e
  · rw [e2] at e
    have : g = k := Option.some.inj e
    exact hS k f cur (by rw [← this]; exact hg)
theorem Row.isI {base : Nat} {w : World} {v : Value} {xs : List Int} (h : Row base w v xs) {k : Nat} (e : v.ownBlock = some k) : ∃ cur, w.heap[k]? = some (.cells cur 3 (0, 0)) := by
  rcases h.2 with ⟨e2, _⟩ | ⟨g, cap, cur, e2, _, hg, _⟩
  · rw [e2] at e; cases e
  · rw [e2] at e
    have : g = k := Option.some.inj e
    exact ⟨cur, by rw [← this]; exact hg⟩
/-- The frames of the second spine, so far. -/
def tlF (L : List Fr) (k : Nat) : List Fr := if k = 0 then [(-5, true, 0, [])] else L.take k
/-- What stands between two rounds of SpineFrames. -/
def FrI (w5 : World) (L : List Fr) (k : Nat) (pv : Value) (wr : World) : Prop :=
  ∃ tv, SpT 53 (fun b => w5.heap.size ≤ b ∧ pv.ownBlock ≠ some b) w5.heap.size wr w5.heap.size tv (tlF L k) ∧ Row w5.heap.size wr pv (pathsL (L.take k)) ∧ Same0 w5 wr
theorem FrI.more {w5 wr w' : World} {L : List Fr} {k : Nat} {vo uo : Option Addr} {n m vc uc : Nat} {tv : Value} {xs : List Int} (p : SpT 53 (fun b => w5.heap.size ≤ b ∧ (Value.slice vo n vc).ownBlock ≠ some b) w5.heap.size wr w5.heap.size tv (tlF L k)) (hr : Row w5.heap.size wr (.slice vo n vc) xs) (hs : Same0 w5 wr) (hk : Kept (fun k => (Value.slice vo n vc).ownBlock = some k) wr w') (hat : ∀ k, (Value.slice uo m uc).ownBlock = some k → (Value.slice vo n vc).ownBlock = some k ∨ wr.heap.size ≤ k) :
    SpT 53 (fun b => w5.heap.size ≤ b ∧ (Value.slice uo m uc).ownBlock ≠ some b) w5.heap.size w' w5.heap.size tv (tlF L k) ∧ Same0 w5 w' := by
  have p' := p.mono (B' := fun b => (w5.heap.size ≤ b ∧ (Value.slice vo n vc).ownBlock ≠ some b) ∧ b < wr.heap.size) (fun b hb h => ⟨h, hb⟩)
  have q := p'.kept hk (fun e => ?_) (fun b e f => ?_) (fun b h f => absurd f h.1.2)
  · refine ⟨q.mono (fun b _ h => ⟨h.1.1, fun e => ?_⟩), hs.trans hk (fun i hi e => by have := (hr.lt i e).1; omega)⟩
    rcases hat b e with r | r
    · exact h.1.2 r
    · have := h.2; omega
  · obtain ⟨cur, hc⟩ := hr.isI e
    exact p.notI cur hc
  · obtain ⟨cur, hc⟩ := hr.isI f
    exact (p.row.block e).2.2.1 cur hc
theorem FrI.put {w5 wr w' : World} {pv tv tv' : Value} {l' : List Fr} {xs : List Int} {l : List Fr} (p : SpT 53 (fun b => w5.heap.size ≤ b ∧ pv.ownBlock ≠ some b) w5.heap.size wr w5.heap.size tv l) (hr : Row w5.heap.size wr pv xs) (hs : Same0 w5 wr) (hk : Kept (fun k => k = w5.heap.size ∨ tv.ownBlock = some k) wr w') : Row w5.heap.size w' pv xs ∧ Same0 w5 w' := by
  refine ⟨hr.keptI hk (fun k e => ?_), hs.trans hk (fun i hi e => ?_)⟩
  · rcases e with e | e
    · rw [e]; exact p.notI
    · exact (p.row.block e).2.2.1
  · rcases e with e | e
    · omega
    · have := (p.row.block e).1; omega
set_option maxHeartbeats 4000000 in
theorem sframes_walk {B : Nat → Prop} {w : World} (root : Int) {ao : Option Addr} {l : List Fr} (h : FsM B w ao l) (ac : Nat) (hl : l.length ≤ 1048576) (hlp : ∀ x ∈ l, x.2.2.2.length ≤ 1048576) :
    Calls Try.prog 7 #[.int .i64 root, .slice ao l.length ac] w fun e w' => e = .returned (.bool true) ∧ Below w.heap.size w w' := by
  have C0 := awake14_any w
  have HB : Hid (∀ ww, Same0 w ww → Below w.heap.size w ww) := fun ww hk => Kept.below hk (Nat.le_refl _) (fun _ _ f => f)
  have HF : Hid (∀ ww, Same0 w ww → FsM B ww ao l) := fun ww hk => h.same hk
  have HL : Hid (l.length * 48 ≤ 140737488351232) := by show _ ≤ _; omega
  obtain ⟨L, hL⟩ : ∃ L : List Fr, L = (root, true, 0, []) :: l := ⟨_, rfl⟩
  obtain ⟨P, hP⟩ : ∃ P, P = pathsL L := ⟨_, rfl⟩
  have HPB : P.length ≤ 1048577 * 1048576 := by
    rw [hP, hL]
    refine Nat.le_trans (pathsL_bound (m := 1048576) (fun x hx => ?_)) (Nat.mul_le_mul_right _ (by simp; omega))
    rcases List.mem_cons.1 hx with e | e
    · rw [e]; simp
    · exact hlp x e
  have HP : Hid (P = pathsL L) := hP
  have HLN : Hid (L.length = l.length + 1) := by show _ = _; rw [hL]; simp
  have HPS : Hid ((pathsL L).length * 8 ≤ 140737488355328) := by show _ ≤ _; rw [← hP]; omega
  have HLL : Hid (L.length * 48 ≤ 140737488355280) := by show _ ≤ _; rw [hL]; simp; omega
  have HEI : Hid (∀ xs, eqI xs xs = true) := fun xs => by unfold eqI; simp
  clear h hlp
  go_enter Try.func7, Try.ntmps7
  go_upto_region 2 with (first | (go_at_call 9; refine C0.mono ?_; rintro e w1 ⟨rfl, k1⟩))
  have C1 := filled_any root (HF.out w1 k1) ac HL.out
  rw [← hL] at C1
  have K1 : Hid (Same0 w w1) := k1
  clear C0 k1 hL hP
  go_upto_region 5 with (first | (go_at_call 13; refine C1.mono ?_; rintro e w2 ⟨rfl, v2, p2, k2⟩))
  have C2 := frames_any p2 (by have := HLL.out; omega)
  have P2 : Hid (SpT 53 (fun k => w1.heap.size ≤ k) w1.heap.size w2 w1.heap.size v2 L ∧ Same0 w w2) := ⟨p2, K1.out.trans' k2⟩
  clear C1 p2 k2
  go_upto_region 6 with (first | (go_at_call 22; refine C2.mono ?_; rintro e w3 ⟨u3, rfl, r3, k3⟩))
  have C3 := nodes_any (P2.out.1.same k3) (by have := HLL.out; omega)
  have R3 : Hid (FRow (fun k => w2.heap.size ≤ k) w2.heap.size w3 u3 L ∧ Same0 w2 w3) := ⟨r3, k3⟩
  clear C2 r3 k3
  go_upto_region 7 with (first | (go_at_call 25; refine C3.mono ?_; rintro e w4 ⟨u4, rfl, r4, k4⟩))
  have C4 := path_any (P2.out.1.same (R3.out.2.trans' k4)) HPS.out
  have R4 : Hid (Row w3.heap.size w4 u4 (nodesL L) ∧ Same0 w3 w4) := ⟨r4, k4⟩
  clear C3 r4 k4
  go_upto_region 8 with (first | (go_at_call 20; refine C4.mono ?_; rintro e w5 ⟨u5, rfl, r5, k5⟩))
  rw [← HP.out] at r5
  have C5 := snewF_any w5 (-5) (fun b => w5.heap.size ≤ b) (fun k h => h)
  obtain ⟨fo, fc, e3⟩ := R3.out.1.shape
  obtain ⟨no, nc, e4⟩ := row_shape R4.out.1
  obtain ⟨po, pc, e5⟩ := row_shape r5
  rw [HLN.out] at e3
  have hnl : (nodesL L).length = l.length + 1 := by unfold nodesL; rw [List.length_map, HLN.out]
  rw [hnl] at e4
  subst e3 e4 e5
  have R5 : Hid (FsM (fun k => w2.heap.size ≤ k) w5 fo L ∧ IntsAt w5 no (nodesL L) ∧ IntsAt w5 po P ∧ Same0 w w5) := ⟨(R3.out.1.same (R4.out.2.trans' k5)).mem, (Row.intsX R4.out.1).same k5, Row.intsX r5, P2.out.2.trans' (R3.out.2.trans' (R4.out.2.trans' k5))⟩
  clear C4 r5 k5 R3 R4 P2 hnl
  go_upto_region 9 with (first | (go_at_call 10; refine C5.mono ?_; rintro e w6 ⟨rfl, v6, p6, k6⟩))
  have n1 : IntKind.i64.wrap ((l.length : Int) + 1) = (l.length : Int) + 1 := fwrap (by omega) (by omega)
  have H6 : Hid (FrI w5 L 0 (.slice none 0 0) w6) := by
    refine ⟨v6, ?_, (World.ownsRow_nil _ _ _ _ : Row w5.heap.size w6 (.slice none 0 0) []), k6⟩
    exact p6.mono (fun b _ h => ⟨h, fun e => by cases e⟩)
  clear C5 p6 k6
  go_upto_region 13 with fail
  go_loopw [11, 12] (fun pv i wr => ∃ (k : Nat) (qo : Option Addr) (qc : Nat), i = .int .i64 (k : Int) ∧ pv = .slice qo (pathsL (L.take k)).length qc ∧ k ≤ l.length + 1 ∧ Hid (FrI w5 L k (.slice qo (pathsL (L.take k)).length qc) wr)) (fun _ i _ => l.length + 1 - (intOf i).toNat)
  case atStart => exact ⟨0, none, 0, rfl, by simp [pathsL], by omega, by simpa [pathsL] using H6⟩
  case round =>
    clear H6
    obtain ⟨k, qo, qc, rfl, rfl, hk, HI⟩ := hrel
    by_cases hlt : k < l.length + 1
    · obtain ⟨tv, pt, rp, ks⟩ := HI.out
      have hkL : k < L.length := by rw [HLN.out]; exact hlt
      have HX : Hid (∀ ww, Same0 w5 ww → ∃ nb noff b off xo xc, no = some ⟨nb, noff, none⟩ ∧ fo = some ⟨b, off, none⟩ ∧ ww.cell? ⟨nb, noff + k, none⟩ = some (.int .i64 L[k].1) ∧ ww.cell? ⟨b, off + k * 4, none⟩ = some (.int .i64 L[k].1) ∧ ww.cell? ⟨b, off + k * 4 + 1, none⟩ = some (.bool L[k].2.1) ∧ ww.cell? ⟨b, off + k * 4 + 2, none⟩ = some (.int .i64 L[k].2.2.1) ∧ ww.cell? ⟨b, off + k * 4 + 3, none⟩ = some (.slice xo L[k].2.2.2.length xc) ∧ Arg ww xo L[k].2.2.2 xc) := fun ww hk => by
        obtain ⟨nb, noff, e1, -, c1⟩ := (R5.out.2.1.same hk).get (i := k) (by unfold nodesL; rw [List.length_map]; exact hkL)
        obtain ⟨b, off, xo, xc, e2, -, m0, m1, m2, m3, m4, -⟩ := (R5.out.1.same hk).get hkL
        refine ⟨nb, noff, b, off, xo, xc, e1, e2, ?_, m0, m1, m2, m3, m4⟩
        rw [c1]
        unfold nodesL
        simp
      obtain ⟨nb, noff, b, off, xo, xc, e1, e2, c1, m0, m1, m2, m3, m4⟩ := HX.out wr ks
      subst e1 e2
      have HX2 : Hid (∀ ww, Same0 w5 ww → ∃ xo xc, ww.cell? ⟨b, off + k * 4, none⟩ = some (.int .i64 L[k].1) ∧ ww.cell? ⟨b, off + k * 4 + 1, none⟩ = some (.bool L[k].2.1) ∧ ww.cell? ⟨b, off + k * 4 + 2, none⟩ = some (.int .i64 L[k].2.2.1) ∧ ww.cell? ⟨b, off + k * 4 + 3, none⟩ = some (.slice xo L[k].2.2.2.length xc) ∧ Arg ww xo L[k].2.2.2 xc) := fun ww hk => by
        obtain ⟨_, _, b', off', xo, xc, _, e, -, m⟩ := HX.out ww hk
        simp only [Option.some.injEq, Addr.mk.injEq, and_true] at e
        obtain ⟨rfl, rfl⟩ := e
        exact ⟨xo, xc, m⟩
      have HPT : Hid (pathsL (L.take (k + 1)) = pathsL (L.take k) ++ L[k].2.2.2) := pathsL_take hkL
      have HPL : Hid ((pathsL (L.take k)).length + L[k].2.2.2.length ≤ 1048577 * 1048576) := by
        have := pathsL_le (l := L) (k + 1)
        rw [HPT.out, List.length_append, ← HP.out] at this
        show _ ≤ _
        omega
      have HLK : Hid (∀ y, tlF L k ++ [y] = tlF L k ++ [y]) := fun _ => rfl
      have i0 : (0 : Int) ≤ (k : Int) := by omega
      have i1 : (k : Int) < (l.length : Int) + 1 := by omega
      have i2 : IntKind.i64.wrap ((k : Int) + 1) = (k : Int) + 1 := fwrap (by omega) (by omega)
      have HPR : Hid (SpT 53 (fun b => w5.heap.size ≤ b ∧ (Value.slice qo (pathsL (L.take k)).length qc).ownBlock ≠ some b) w5.heap.size wr w5.heap.size tv (tlF L k) ∧ Row w5.heap.size wr (.slice qo (pathsL (L.take k)).length qc) (pathsL (L.take k)) ∧ Same0 w5 wr) := ⟨pt, rp, ks⟩
      have HTL : Hid (tlF L (k + 1) = L.take (k + 1)) := by show _ = _; unfold tlF; simp
      have HTK : Hid (L.take (k + 1) = L.take k ++ [L[k]]) := List.take_succ_eq_append_getElem hkL
      clear HX m1 m2 m3 m4 pt rp ks HI HLK
      generalize hX : pathsL (L.take k) = X at *
      generalize L[k] = z at *
      clear hX
      go_upto_region 15 with fail
      go_quiet (fail)
      go_upto_region 17 with fail
      obtain ⟨W1, hW1⟩ : ∃ W1, W1 = wr.drewN nq := ⟨_, rfl⟩
      rw [← hW1]
      have kW : Same0 wr W1 := by rw [hW1]; exact (Kept.refl _ _).drewN _
      obtain ⟨xo, xc, m0', m1, m2, m3, m4⟩ := HX2.out W1 (HPR.out.2.2.trans' kW)
      have rW := kW.row HPR.out.2.1 (fun _ _ f => f)
      have hbs : w5.heap.size ≤ W1.heap.size := (HPR.out.2.2.trans' kW).size
      have HM := m4.at'
      have HMN := m4.nil
      have HSZ : (X.length + z.2.2.2.length) * 8 ≤ 140737488355328 := by have := HPL.out; omega
      clear hW1 c1 m0 m4
      go_upto_region 18 with (first | (at_builtin; refine wpList_moreL rfl _ _ 28 rfl Try.underlying28 w5.heap.size X qo qc rfl rW z.2.2.2 xo _ xc rfl rfl HM HMN hbs HSZ ?_; intro uo uc w7 r7 k7 hat7))
      obtain ⟨p7, s7⟩ := FrI.more (HPR.out.1.same kW) rW (HPR.out.2.2.trans' kW) k7 hat7
      obtain ⟨yo, yc, y0, y1, y2, y3, y4⟩ := HX2.out w7 s7
      clear m0' m1 m2 m3 HM HMN HSZ rW hbs kW HPR k7 hat7
      have HFIN : Hid (∀ w8 tv', SpT 53 (fun b => w5.heap.size ≤ b ∧ (Value.slice uo (X.length + z.2.2.2.length) uc).ownBlock ≠ some b) w5.heap.size w8 w5.heap.size tv' (L.take (k + 1)) → Row w5.heap.size w8 (.slice uo (X.length + z.2.2.2.length) uc) (X ++ z.2.2.2) → Same0 w5 w8 → Hid (FrI w5 L (k + 1) (.slice uo (pathsL (L.take (k + 1))).length uc) w8)) := fun w8 tv' q1 q2 q3 => by
        show FrI _ _ _ _ _
        rw [HPT.out, List.length_append]
        refine ⟨tv', by rw [HTL.out]; exact q1, by rw [HPT.out]; exact q2, q3⟩
      have HLE : Hid ((pathsL (L.take (k + 1))).length = X.length + z.2.2.2.length) := by show _ = _; rw [HPT.out, List.length_append]
      by_cases hz : k = 0
      · subst hz
        have CT := turn_yes (l0 := []) (y := (-5, true, 0, [])) p7 y4 (fun j hj => ⟨Nat.le_trans s7.size hj, fun e => by have := (r7.lt j e).2; omega⟩)
        have FIN : Hid (∀ w8, SpT 53 (fun b => w5.heap.size ≤ b ∧ (Value.slice uo (X.length + z.2.2.2.length) uc).ownBlock ≠ some b) w5.heap.size w8 w5.heap.size tv ([] ++ [z]) → Kept (fun k => tv.ownBlock = some k) w7 w8 → Hid (FrI w5 L (0 + 1) (.slice uo (pathsL (L.take (0 + 1))).length uc) w8)) := fun w8 q1 q2 => by
          obtain ⟨a1, a2⟩ := FrI.put (tv' := tv) (l' := []) p7 r7 s7 (q2.mono (fun _ _ e => .inr e))
          exact HFIN.out w8 tv (by rw [HTK.out]; exact q1) a1 a2
        simp only [Nat.zero_mul, Nat.add_zero] at y0 y1 y2 y3
        clear HFIN p7 s7 r7 y4
        go_wp2_with (first | (go_at_call 18; refine CT.mono ?_; rintro e w8 ⟨rfl, q8, k8⟩; have HN := FIN.out w8 q8 k8; clear q8 k8))
        go_roundw
        case rel => first | exact ⟨0 + 1, uo, uc, by go_num, by rw [HLE.out], by omega, HN⟩ | ((repeat apply Exists.intro); exact ⟨⟨0 + 1, uo, uc, by go_num, by rw [HLE.out], by omega, HN⟩, rfl⟩)
        case measure => simp [intOf]
      · have hz' : ¬ ((k : Int) = 0) := by omega
        have ht : tlF L k = L.take k := by unfold tlF; rw [if_neg hz]
        rw [ht] at p7
        have CT := push_any p7 y4 (fun j hj => ⟨Nat.le_trans s7.size hj, fun e => by have := (r7.lt j e).2; omega⟩) (by have := HLL.out; rw [List.length_take]; omega)
        have FIN : Hid (∀ w8, PushQ 53 (fun b => w5.heap.size ≤ b ∧ (Value.slice uo (X.length + z.2.2.2.length) uc).ownBlock ≠ some b) w5.heap.size w7 w5.heap.size tv (L.take k) z w8 → Hid (FrI w5 L (k + 1) (.slice uo (pathsL (L.take (k + 1))).length uc) w8)) := fun w8 ⟨tv', q1, _, q2⟩ => by
          obtain ⟨a1, a2⟩ := FrI.put (tv' := tv) (l' := []) p7 r7 s7 q2
          exact HFIN.out w8 tv' (by rw [HTK.out]; exact q1) a1 a2
        clear HFIN p7 s7 r7 y4 ht
        go_wp2_with (first | (go_at_call 19; refine CT.mono ?_; rintro e w8 ⟨⟨u, rfl⟩, q8⟩; have HN := FIN.out w8 q8; clear q8))
        go_roundw
        case rel => first | exact ⟨k + 1, uo, uc, by go_num, by rw [HLE.out], by omega, HN⟩ | ((repeat apply Exists.intro); exact ⟨⟨k + 1, uo, uc, by go_num, by rw [HLE.out], by omega, HN⟩, rfl⟩)
        case measure => simp [intOf]; omega
    · have hkl : k = l.length + 1 := by omega
      subst hkl
      have hkl' : ((l.length + 1 : Nat) : Int) = (l.length : Int) + 1 := by omega
      rw [hkl']
      clear hkl'
      have HTA : L.take (l.length + 1) = L := by rw [← HLN.out, List.take_length]
      rw [HTA, ← HP.out]
      obtain ⟨tv, pt, rp, ks⟩ := HI.out
      rw [HTA, ← HP.out] at pt rp
      have htl : tlF L (l.length + 1) = L := by unfold tlF; rw [if_neg (by omega), HTA]
      rw [htl] at pt
      have CS := sameInts_any pc qc (R5.out.2.2.1.same ks) (Row.intsX rp) (by unfold maxLen; omega)
      rw [HEI.out] at CS
      have HT : Hid (∀ ww, Same0 wr ww → Calls Try.prog 22 #[.pointer (some ⟨w5.heap.size, 0, none⟩)] ww fun e w' => ∃ uo uc, e = .returned (.slice uo (l.length + 1) uc) ∧ Same0 wr w' ∧ Calls Try.prog 24 #[.slice uo (l.length + 1) uc, .slice fo (l.length + 1) fc] w' fun e w'' => e = .returned (.bool true) ∧ Same0 wr w'') := fun ww hk => (frames_any (pt.same hk) (by have := HLL.out; omega)).mono (fun e w' ⟨u, q1, q2, q3⟩ => by
        obtain ⟨uo, uc, e2⟩ := q2.shape
        rw [HLN.out] at e2
        subst e2
        refine ⟨uo, uc, q1, hk.trans' q3, ?_⟩
        have := sameFrames_any (ac := uc) (bc := fc) q2.mem (R5.out.1.same (ks.trans' (hk.trans' q3))) (by rw [HLN.out]; unfold maxLen; omega)
        rw [eqFs_self, HLN.out] at this
        exact this.mono (fun e w'' ⟨a, b⟩ => ⟨a, (hk.trans' q3).trans' b⟩))
      have HU : Hid (∀ ww, Same0 wr ww → Calls Try.prog 20 #[.pointer (some ⟨w5.heap.size, 0, none⟩)] ww fun e w' => ∃ uo uc, e = .returned (.slice uo P.length uc) ∧ Same0 wr w' ∧ Calls Try.prog 21 #[.slice uo P.length uc, .slice po P.length pc] w' fun e w'' => e = .returned (.bool true) ∧ Same0 wr w'') := fun ww hk => (path_any (pt.same hk) HPS.out).mono (fun e w' ⟨u, q1, q2, q3⟩ => by
        rw [← HP.out] at q2
        obtain ⟨uo, uc, e2⟩ := row_shape q2
        subst e2
        refine ⟨uo, uc, q1, hk.trans' q3, ?_⟩
        have := sameInts_any uc pc (Row.intsX q2) (R5.out.2.2.1.same (ks.trans' (hk.trans' q3))) (by unfold maxLen; omega)
        rw [HEI.out] at this
        exact this.mono (fun e w'' ⟨a, b⟩ => ⟨a, (hk.trans' q3).trans' b⟩))
      have HK : Hid (∀ ww, Same0 wr ww → Below w.heap.size w ww) := fun ww hk => HB.out ww (R5.out.2.2.2.trans' (ks.trans' hk))
      clear HI pt rp ks HTA htl R5 HP HPS
      go_upto_region 22 with (first | (go_at_call 21; refine CS.mono ?_; rintro e w8 ⟨rfl, k8⟩))
      have C9 := HT.out w8 k8
      clear CS HT
      go_upto_region 23 with (first | (go_at_call 22; refine C9.mono ?_; rintro e w9 ⟨uo, uc, rfl, k9, C10⟩) | (go_at_call 24; refine C10.mono ?_; rintro e w10 ⟨rfl, k10⟩))
      have C11 := HU.out w10 k10
      clear C9 HU C10
      go_wp2_with (first | (go_at_call 20; refine C11.mono ?_; rintro e w11 ⟨yo, yc, rfl, k11, C12⟩) | (go_at_call 21; refine C12.mono ?_; rintro e w12 ⟨rfl, k12⟩))
      go_ret
      exact ⟨rfl, HK.out _ k12⟩
end Go.Proofs.Ytikcocjbbbdmgaa
