import Derived.Test.YthamjjhioafkjaaGreatGCodeViews35
import Derived.Test.YthamjjhioafkjaaGreatGCodeViews29
namespace Go.Proofs.YthamjjhioafkjaaGreat
set_option maxRecDepth 100000
set_option linter.unusedVariables false
open Go.RowKit
attribute [local go_sem ↓] Go.wp_at_zero Go.wp_at_succ
theorem lookF_inl {L : List Sym} {ok : Bool} {T : List Int} {I : List I3} {E : List Int} {node : Int} {a : Nat} {p : List Int} {R : R5} (h : lookF L ok T I E node a p = .inl R) : R = bad5 ∨ ∃ nd,R = (3,0,p,nd,0) := by
  unfold lookF at h
  split at h
  · split at h
    · cases h; exact .inl rfl
    · cases h
  · split at h
    · cases h; exact .inr ⟨_, rfl⟩
    · cases h
def LKR (w w' : World) (res : R5 ⊕ Int) (k r : Int) (zo : Option Addr) (zl zc : Nat) (nd z err : Int) : Prop :=
  match res with
  | .inl R => k = R.1 ∧ r = R.2.1 ∧ zl = R.2.2.1.length ∧ nd = R.2.2.2.1 ∧ z = 0 ∧ err = R.2.2.2.2 ∧ Row w.heap.size w' (.slice zo zl zc) R.2.2.1
  | .inr x => k = 0 ∧ r = 0 ∧ zo = none ∧ zl = 0 ∧ zc = 0 ∧ nd = 0 ∧ z = x ∧ err = 0
theorem LKR.up {w ww w' w'' : World} {res : R5 ⊕ Int} {k r : Int} {zo : Option Addr} {zl zc : Nat} {nd z err : Int} (h : LKR ww w' res k r zo zl zc nd z err) (_ : Same0 ww w') (hk : Same0 w' w'') (hw : w.heap.size ≤ ww.heap.size) : LKR w w'' res k r zo zl zc nd z err := by
  cases res with
  | inl R =>
    obtain ⟨a, b, c, d, e, f, g⟩ := h
    exact ⟨a, b, c, d, e, f, row_mono (hk.row g (fun _ _ f => f)) hw⟩
  | inr x => exact h
theorem LKR.put {w w' : World} {o : Obj} {res : R5 ⊕ Int} {k r : Int} {zo : Option Addr} {zl zc : Nat} {nd z err : Int} (h : LKR (w.drew.alloc o) w' res k r zo zl zc nd z err) (x0 x1 x2 x3 : Value) : LKR w ((((w'.setCell ⟨w.heap.size,0,none⟩ x0).setCell ⟨w.heap.size,1,none⟩ x1).setCell ⟨w.heap.size,2,none⟩ x2).setCell ⟨w.heap.size,3,none⟩ x3) res k r zo zl zc nd z err := by
  cases res with
  | inl R =>
    obtain ⟨a, b, c, d, e, f, g⟩ := h
    have k1 := kept_at w' w.heap.size 0 x0
    have k2 := Kept.trans k1 (kept_at _ w.heap.size 1 x1) (fun _ _ e => e)
    have k3 := Kept.trans k2 (kept_at _ w.heap.size 2 x2) (fun _ _ e => e)
    have k4 := Kept.trans k3 (kept_at _ w.heap.size 3 x3) (fun _ _ e => e)
    have hz : (w.drew.alloc o).heap.size = w.heap.size + 1 := by simp
    refine ⟨a, b, c, d, e, f, row_mono (k4.row g (fun q e1 e2 => ?_)) (by omega)⟩
    rcases g.2 with ⟨e3, _⟩ | ⟨g', _, _, e3, e4, _⟩
    · rw [e3] at e1; simp [Value.ownBlock] at e1
    · rw [e3] at e1; simp only [Value.ownBlock, Option.some.injEq] at e1; omega
  | inr x => exact h
theorem row_base {base : Nat} {w : World} {v : Value} {xs : List Int} (h : Row base w v xs) {q : Nat} (e : v.ownBlock = some q) : base ≤ q := by
  rcases h.2 with ⟨q3, _⟩ | ⟨g', _, _, q3, q4, _⟩
  · rw [q3] at e; simp [Value.ownBlock] at e
  · rw [q3] at e; simp only [Value.ownBlock, Option.some.injEq] at e; omega
theorem runF_out {L : List Sym} {ok : Bool} {T : List Int} {I : List I3} {P : List (List Int)} {E : List Int} {node : Int} {f a : Nat} (h : I.length ≤ a) : runF L ok T I P E node f a = bad5 := by
  cases f with
  | zero => rfl
  | succ f => rw [runF, List.getElem?_eq_none h]
theorem runF_in {L : List Sym} {ok : Bool} {T : List Int} {I : List I3} {P : List (List Int)} {E : List Int} {node : Int} {f a : Nat} (h : a < I.length) : runF L ok T I P E node (f + 1) a = if I[a].1 = 4 then (1,I[a].2.1,[],0,0) else if I[a].1 = 3 then (2,0,[],0,0) else if I[a].1 = 1 ∧ idxB I[a].2.1 P.length = true then (match lookF L ok T I E node a (P.getD I[a].2.1.toNat []) with | .inl r => r | .inr z => runF L ok T I P E node f z.toNat) else bad5 := by
  rw [runF, List.getElem?_eq_getElem h]; rfl
set_option maxHeartbeats 32000000 in
theorem from_any {base : Nat} {w : World} {L : List Sym} {ok : Bool} {T : List Int} {ho : Option Addr} {hn hc : Nat} {go : Option Addr} {gn gc : Nat} (hv : VwAt base w L ok T (.agg #[.slice ho hn hc,.slice go gn gc])) {io : Option Addr} {I : List I3} (hI : InsAt w io I) (hl : I.length ≤ 140737488355328) {po : Option Addr} {P : List (List Int)} (hP : PthAt w po P) {eo : Option Addr} {E : List Int} (hE : IntsAt w eo E) (ic pc ec : Nat) (ro : Option Addr) (rl rc : Nat) (node : Int) (a0 : Nat) :
    Calls Tryz.prog 58 #[.agg #[.slice io I.length ic,.slice po P.length pc,.slice eo E.length ec,.slice ro rl rc,.iface 70 (.agg #[.slice ho hn hc,.slice go gn gc]),.int .i64 node],.int .i64 (a0 : Int)] w (FndOut w (runF L ok T I P E node (I.length + 1) a0)) := by
  obtain ⟨R, hR⟩ : ∃ R, R = runF L ok T I P E node (I.length + 1) a0 := ⟨_, rfl⟩
  have HR : Hid (R = runF L ok T I P E node (I.length + 1) a0) := hR
  rw [← hR]
  clear hR
  obtain ⟨W1, hW1⟩ : ∃ W1, W1 = (w.alloc (.cells #[.slice io I.length ic, .slice po P.length pc, .slice eo E.length ec, .slice ro rl rc, .iface 70 (.agg #[.slice ho hn hc, .slice go gn gc]), .int .i64 node] 140)).alloc (.cells #[.int .i64 0, .int .i64 0, .slice none 0 0, .int .i64 0] 73) := ⟨_, rfl⟩
  have KW : Same0 w W1 := by rw [hW1]; exact ((Kept.refl _ w).alloc _).alloc _
  have hbx : W1.heap[w.heap.size]? = some (.cells #[.slice io I.length ic, .slice po P.length pc, .slice eo E.length ec, .slice ro rl rc, .iface 70 (.agg #[.slice ho hn hc, .slice go gn gc]), .int .i64 node] 140 (0, 0)) := by rw [hW1]; exact heap_alloc2_old _ _ _
  have hfd : W1.heap[w.heap.size + 1]? = some (.cells #[.int .i64 0, .int .i64 0, .slice none 0 0, .int .i64 0] 73 (0, 0)) := by rw [hW1]; exact heap_al_al _ _ _
  have zW : w.heap.size + 1 < W1.heap.size := lt_of_at hfd
  have BX : Hid (∀ ww, Same0 W1 ww → ww.cell? ⟨w.heap.size, 0, none⟩ = some (.slice io I.length ic) ∧ ww.cell? ⟨w.heap.size, 1, none⟩ = some (.slice po P.length pc) ∧ ww.cell? ⟨w.heap.size, 2, none⟩ = some (.slice eo E.length ec) ∧ ww.cell? ⟨w.heap.size, 3, none⟩ = some (.slice ro rl rc) ∧ ww.cell? ⟨w.heap.size, 4, none⟩ = some (.iface 70 (.agg #[.slice ho hn hc, .slice go gn gc])) ∧ ww.cell? ⟨w.heap.size, 5, none⟩ = some (.int .i64 node)) := fun ww hk => by
    have := hk.at0 hbx
    exact ⟨cellAt this 0, cellAt this 1, cellAt this 2, cellAt this 3, cellAt this 4, cellAt this 5⟩
  have RC : Hid (∀ ww, Same0 W1 ww → (ww.cell? ⟨w.heap.size + 1, 0, none⟩ = some (.int .i64 0) ∧ ww.cell? ⟨w.heap.size + 1, 1, none⟩ = some (.int .i64 0) ∧ ww.cell? ⟨w.heap.size + 1, 2, none⟩ = some (.slice none 0 0) ∧ ww.cell? ⟨w.heap.size + 1, 3, none⟩ = some (.int .i64 0)) ∧ ww.frozen? ⟨w.heap.size + 1, 0, none⟩ = false ∧ ww.frozen? ⟨w.heap.size + 1, 1, none⟩ = false ∧ ww.frozen? ⟨w.heap.size + 1, 2, none⟩ = false ∧ ww.frozen? ⟨w.heap.size + 1, 3, none⟩ = false) := fun ww hk => by
    have := hk.at0 hfd
    exact ⟨⟨cellAt this 0, cellAt this 1, cellAt this 2, cellAt this 3⟩, frozenAt this 0, frozenAt this 1, frozenAt this 2, frozenAt this 3⟩
  have PUT : Hid (∀ ww x0 x1 x2 x3, Same0 W1 ww → (((((ww.setCell ⟨w.heap.size + 1, 0, none⟩ x0).setCell ⟨w.heap.size + 1, 1, none⟩ x1).setCell ⟨w.heap.size + 1, 2, none⟩ x2).setCell ⟨w.heap.size + 1, 3, none⟩ x3).cell? ⟨w.heap.size + 1, 0, none⟩ = some x0 ∧ ((((ww.setCell ⟨w.heap.size + 1, 0, none⟩ x0).setCell ⟨w.heap.size + 1, 1, none⟩ x1).setCell ⟨w.heap.size + 1, 2, none⟩ x2).setCell ⟨w.heap.size + 1, 3, none⟩ x3).cell? ⟨w.heap.size + 1, 1, none⟩ = some x1 ∧ ((((ww.setCell ⟨w.heap.size + 1, 0, none⟩ x0).setCell ⟨w.heap.size + 1, 1, none⟩ x1).setCell ⟨w.heap.size + 1, 2, none⟩ x2).setCell ⟨w.heap.size + 1, 3, none⟩ x3).cell? ⟨w.heap.size + 1, 2, none⟩ = some x2 ∧ ((((ww.setCell ⟨w.heap.size + 1, 0, none⟩ x0).setCell ⟨w.heap.size + 1, 1, none⟩ x1).setCell ⟨w.heap.size + 1, 2, none⟩ x2).setCell ⟨w.heap.size + 1, 3, none⟩ x3).cell? ⟨w.heap.size + 1, 3, none⟩ = some x3) ∧ Kept (fun q => q = w.heap.size + 1) ww ((((ww.setCell ⟨w.heap.size + 1, 0, none⟩ x0).setCell ⟨w.heap.size + 1, 1, none⟩ x1).setCell ⟨w.heap.size + 1, 2, none⟩ x2).setCell ⟨w.heap.size + 1, 3, none⟩ x3) ∧ Same0 w ((((ww.setCell ⟨w.heap.size + 1, 0, none⟩ x0).setCell ⟨w.heap.size + 1, 1, none⟩ x1).setCell ⟨w.heap.size + 1, 2, none⟩ x2).setCell ⟨w.heap.size + 1, 3, none⟩ x3)) := by
    intro ww x0 x1 x2 x3 hk
    have rs := hk.at0 hfd
    have s3 := setAt (setAt (setAt (setAt rs 0 x0) 1 x1) 2 x2) 3 x3
    have k1 := kept_at ww (w.heap.size + 1) 0 x0
    have k2 := Kept.trans k1 (kept_at _ (w.heap.size + 1) 1 x1) (fun _ _ e => e)
    have k3 := Kept.trans k2 (kept_at _ (w.heap.size + 1) 2 x2) (fun _ _ e => e)
    have k4 := Kept.trans k3 (kept_at _ (w.heap.size + 1) 3 x3) (fun _ _ e => e)
    exact ⟨⟨cellAt s3 0, cellAt s3 1, cellAt s3 2, cellAt s3 3⟩, k4, Kept.trans (KW.trans' hk) k4 (fun i hi e => by omega)⟩
  have CLK : Hid (∀ ww a qo qc (p : List Int), Same0 w ww → a < I.length → Arg ww qo p qc → Calls Tryz.prog 92 #[.agg #[.slice io I.length ic, .slice po P.length pc, .slice eo E.length ec, .slice ro rl rc, .iface 70 (.agg #[.slice ho hn hc, .slice go gn gc]), .int .i64 node], .int .i64 (a : Int), .slice qo p.length qc] ww (LookOut ww (lookF L ok T I E node a p))) := fun ww a qo qc p hk ha hp => look_any (hv.same hk) (hI.same hk) hl (hE.same hk) hp _ _ _ _ _ _ _ _ node a ha
  have HI : Hid (∀ ww j (hj : j < I.length), Same0 w ww → ∃ b off, io = some ⟨b, off, none⟩ ∧ ww.cell? ⟨b, off + j * 3, none⟩ = some (.int .i64 I[j].1) ∧ ww.cell? ⟨b, off + j * 3 + 1, none⟩ = some (.int .i64 I[j].2.1) ∧ ww.cell? ⟨b, off + j * 3 + 2, none⟩ = some (.int .i64 I[j].2.2)) := fun ww j hj hk => by
    obtain ⟨b, off, e, _, h0, h1, h2⟩ := (hI.same hk).get hj
    exact ⟨b, off, e, h0, h1, h2⟩
  have HPT : Hid (∀ ww j (hj : j < P.length), Same0 w ww → ∃ b off ao ac, po = some ⟨b, off, none⟩ ∧ ww.cell? ⟨b, off + j, none⟩ = some (.slice ao P[j].length ac) ∧ Arg ww ao P[j] ac) := fun ww j hj hk => by
    obtain ⟨b, off, ao, ac, e, _, h0, h1⟩ := (hP.same hk).get hj
    exact ⟨b, off, ao, ac, e, h0, h1⟩
  have RET : Hid (∀ ww k r err, Same0 w ww → R = (k, r, [], 0, err) → FndOut w R (.returned (.tuple #[.agg #[.int .i64 k, .int .i64 r, .slice none 0 0, .int .i64 0], .int .i64 err])) ww) := fun ww k r err hk e => by
    rw [e]
    exact ⟨none, 0, rfl, World.ownsRow_nil _ _ _ _, hk⟩
  obtain ⟨x0, x1, x2, x3, x4, x5⟩ := BX.out W1 (Kept.refl _ _)
  clear hv hI hP hE hbx hfd
  go_enter Tryz.func58, Tryz.ntmps58
  go_upto_region 1 with fail
  rw [← hW1]
  clear hW1
  go_loopw [1] (fun s1 wr => ∃ a f : Nat, s1 = .int .i64 (a : Int) ∧ Hid (I.length < a + (f + 1) ∧ R = runF L ok T I P E node (f + 1) a) ∧ Same0 W1 wr) (fun s1 _ => I.length - (intOf s1).toNat)
  case atStart => exact ⟨a0, I.length, rfl, ⟨by omega, HR.out⟩, Kept.refl _ _⟩
  case round =>
    clear x0 x1 x2 x3 x4 x5 HR
    obtain ⟨a, f, rfl, hF, hK⟩ := hrel
    obtain ⟨x0, x1, x2, x3, x4, x5⟩ := BX.out wr hK
    obtain ⟨⟨r0, r1, r2, r3⟩, f0, f1, f2, f3⟩ := RC.out wr hK
    by_cases hlt : a < I.length
    · obtain ⟨b, off, rfl, c0, c1, c2⟩ := HI.out wr a hlt (KW.trans' hK)
      have i1 : (0 : Int) ≤ (a : Int) := by omega
      have i2 : (a : Int) < (I.length : Int) := by omega
      obtain ⟨hf1, hf2⟩ := hF.out
      rw [runF_in hlt] at hf2
      obtain ⟨wi, hwi⟩ : ∃ wi, wi = wr.alloc (.cells #[.int .i64 I[a].1, .int .i64 I[a].2.1, .int .i64 I[a].2.2] 34) := ⟨_, rfl⟩
      have ki : Same0 wr wi := by rw [hwi]; exact (Kept.refl _ _).alloc _
      have bi : wi.heap[wr.heap.size]? = some (.cells #[.int .i64 I[a].1, .int .i64 I[a].2.1, .int .i64 I[a].2.2] 34 (0, 0)) := by rw [hwi]; exact heap_alloc_new _ _
      have y0 := cellAt bi 0
      have y1 := cellAt bi 1
      have y2 := cellAt bi 2
      simp only [List.getElem?_toArray, List.getElem?_cons_zero, List.getElem?_cons_succ] at y0 y1 y2
      have hKi := hK.trans' ki
      obtain ⟨v0, v1, v2, v3, v4, v5⟩ := BX.out wi hKi
      obtain ⟨⟨s0, s1, s2, s3⟩, g0, g1, g2, g3⟩ := RC.out wi hKi
      by_cases h4 : I[a].1 = 4
      · rw [if_pos h4] at hf2
        rw [h4] at c0 y0 hwi
        have PH : Hid _ := PUT.out wi (.int .i64 1) (.int .i64 I[a].2.1) (.slice none 0 0) (.int .i64 0) hKi
        have FR : Hid (R = (1, I[a].2.1, [], 0, 0)) := hf2
        generalize I[a].2.1 = z at *
        clear hf1 hf2 hF HI HPT CLK h4
        go_upto_region 3 with fail
        rw [← hwi]
        clear hwi
        go_wp2_with fail
        obtain ⟨⟨q0, q1, q2, q3⟩, kk, ks⟩ := PH.out
        exact bodyPost_ret (v := .tuple #[.agg #[.int .i64 1, .int .i64 z, .slice none 0 0, .int .i64 0], .int .i64 0]) (by simp [results, Tryz.results58, go_sem, q0, q1, q2, q3]) rfl (RET.out _ _ _ _ ks FR.out)
      · rw [if_neg h4] at hf2
        by_cases h3 : I[a].1 = 3
        · rw [if_pos h3] at hf2
          rw [h3] at c0 y0 hwi
          have PH : Hid _ := PUT.out wi (.int .i64 2) (.int .i64 0) (.slice none 0 0) (.int .i64 0) hKi
          have FR : Hid (R = (2, 0, [], 0, 0)) := hf2
          clear hf1 hf2 hF HI HPT CLK h4 h3
          go_upto_region 3 with fail
          rw [← hwi]
          clear hwi
          go_wp2_with fail
          obtain ⟨⟨q0, q1, q2, q3⟩, kk, ks⟩ := PH.out
          exact bodyPost_ret (v := .tuple #[.agg #[.int .i64 2, .int .i64 0, .slice none 0 0, .int .i64 0], .int .i64 0]) (by simp [results, Tryz.results58, go_sem, q0, q1, q2, q3]) rfl (RET.out _ _ _ _ ks FR.out)
        · rw [if_neg h3] at hf2
          have PH : Hid _ := PUT.out wi (.int .i64 0) (.int .i64 0) (.slice none 0 0) (.int .i64 0) hKi
          by_cases h1 : I[a].1 = 1
          · have CI := isIndex_any I[a].2.1 P.length wi
            cases hix : idxB I[a].2.1 P.length with
            | false =>
              rw [hix] at CI
              rw [if_neg (by rw [hix]; simp)] at hf2
              rw [h1] at c0 y0 hwi
              have FR : Hid (R = (0, 0, [], 0, 92)) := hf2
              clear hf1 hf2 hF HI HPT CLK h4 h3 h1 hix
              generalize I[a].2.1 = z at *
              go_upto_region 3 with fail
              rw [← hwi]
              clear hwi
              go_wp2_with (first | (go_at_call 49; refine CI.mono ?_; rintro e w2 ⟨rfl, rfl⟩))
              obtain ⟨⟨q0, q1, q2, q3⟩, kk, ks⟩ := PH.out
              exact bodyPost_ret (v := .tuple #[.agg #[.int .i64 0, .int .i64 0, .slice none 0 0, .int .i64 0], .int .i64 92]) (by simp [results, Tryz.results58, go_sem, q0, q1, q2, q3]) rfl (RET.out _ _ _ _ ks FR.out)
            | true =>
              rw [hix] at CI
              rw [if_pos ⟨h1, hix⟩] at hf2
              obtain ⟨q, hq, hql⟩ := idx_yes hix
              have eg : P.getD I[a].2.1.toNat [] = P[q] := by rw [hq, Int.toNat_natCast]; simp [hql]
              rw [eg] at hf2
              rw [h1] at c0 y0 hwi
              rw [hq] at c1 y1 hwi CI
              obtain ⟨pb, poff, qo, qc, rfl, p0, hA⟩ := HPT.out wi q hql (KW.trans' hKi)
              have HS : Hid (∀ ww, Same0 wi ww → ww.cell? ⟨w.heap.size, 0, none⟩ = some (.slice (some ⟨b, off, none⟩) I.length ic) ∧ ww.cell? ⟨w.heap.size, 1, none⟩ = some (.slice (some ⟨pb, poff, none⟩) P.length pc) ∧ ww.cell? ⟨w.heap.size, 2, none⟩ = some (.slice eo E.length ec) ∧ ww.cell? ⟨w.heap.size, 3, none⟩ = some (.slice ro rl rc) ∧ ww.cell? ⟨w.heap.size, 4, none⟩ = some (.iface 70 (.agg #[.slice ho hn hc, .slice go gn gc])) ∧ ww.cell? ⟨w.heap.size, 5, none⟩ = some (.int .i64 node) ∧ ww.cell? ⟨wr.heap.size, 1, none⟩ = some (.int .i64 (q : Int)) ∧ ww.cell? ⟨pb, poff + q, none⟩ = some (.slice qo P[q].length qc)) := fun ww hk => by
                obtain ⟨t0, t1, t2, t3, t4, t5⟩ := BX.out ww (hKi.trans' hk)
                exact ⟨t0, t1, t2, t3, t4, t5, (hk.cell (p := ⟨wr.heap.size, 1, none⟩) (lt_of_at bi) (fun f => f)).trans y1, (hk.cell (p := ⟨pb, poff + q, none⟩) (World.block_lt_of_cell? _ _ p0) (fun f => f)).trans p0⟩
              have CL : Hid (∀ ww, Same0 wi ww → Calls Tryz.prog 92 #[.agg #[.slice (some ⟨b, off, none⟩) I.length ic, .slice (some ⟨pb, poff, none⟩) P.length pc, .slice eo E.length ec, .slice ro rl rc, .iface 70 (.agg #[.slice ho hn hc, .slice go gn gc]), .int .i64 node], .int .i64 (a : Int), .slice qo P[q].length qc] ww (LookOut ww (lookF L ok T I E node a P[q]))) := fun ww hk => CLK.out ww a qo qc P[q] ((KW.trans' hKi).trans' hk) hlt (hA.same hk)
              have q1 : (0 : Int) ≤ (q : Int) := by omega
              have q2 : (q : Int) < (P.length : Int) := by omega
              have W0 := HS.out wi (Kept.refl _ _)
              have kd : Same0 wi wi.drew := Kept.drew (Kept.refl _ _)
              have HL : Hid (lookF L ok T I E node a P[q] = lookF L ok T I E node a P[q]) := rfl
              have HGT : Hid (∀ z, lookF L ok T I E node a P[q] = .inr z → (a : Int) < z) := fun z e => lookF_gt hlt e
              have CL2 : Hid (∀ ww, Same0 wi ww → Calls Tryz.prog 92 #[.agg #[.slice (some ⟨b, off, none⟩) I.length ic, .slice (some ⟨pb, poff, none⟩) P.length pc, .slice eo E.length ec, .slice ro rl rc, .iface 70 (.agg #[.slice ho hn hc, .slice go gn gc]), .int .i64 node], .int .i64 (a : Int), .slice qo P[q].length qc] ww fun e w' => ∃ k r zo zl zc nd z err, e = .returned (.tuple #[.agg #[.int .i64 k, .int .i64 r, .slice zo zl zc, .int .i64 nd], .int .i64 z, .int .i64 err]) ∧ Hid (LKR ww w' (lookF L ok T I E node a P[q]) k r zo zl zc nd z err) ∧ Same0 ww w') := fun ww hk => by
                refine (CL.out ww hk).mono ?_
                intro e w' h
                cases hlk : lookF L ok T I E node a P[q] with
                | inl r =>
                  rw [hlk] at h
                  obtain ⟨zo, zc, rfl, g1, g2⟩ := h
                  exact ⟨_, _, _, _, _, _, _, _, rfl, ⟨rfl, rfl, rfl, rfl, rfl, rfl, g1⟩, g2⟩
                | inr z =>
                  rw [hlk] at h
                  obtain ⟨rfl, g2⟩ := h
                  exact ⟨_, _, _, _, _, _, _, _, rfl, ⟨rfl, rfl, rfl, rfl, rfl, rfl, rfl, rfl⟩, g2⟩
              have HIN : Hid (∀ r, lookF L ok T I E node a P[q] = .inl r → r = bad5 ∨ ∃ nd, r = (3, 0, P[q], nd, 0)) := fun r e => lookF_inl e
              have NX : Hid (I.length < a + (f + 1) ∧ R = match lookF L ok T I E node a P[q] with | .inl r => r | .inr z => runF L ok T I P E node f z.toNat) := ⟨hf1, hf2⟩
              generalize lookF L ok T I E node a P[q] = res at *
              clear hf1 hf2 hF HI HPT CLK CL h4 h3 h1 hix eg hA HL
              generalize P[q] = pth at *
              generalize I[a].2.2 = ib2 at *
              go_upto_region 3 with fail
              rw [← hwi]
              clear hwi
              go_upto_region 10 with (first | (go_at_call 49; refine CI.mono ?_; rintro e wj ⟨rfl, rfl⟩))
              go_cut [7, 8, 9] from 41 to 54 (fun s7 s8 s9 wc => ∃ g k r zo zl zc nd z err, s7 = .pointer (some ⟨g, 0, none⟩) ∧ s8 = .int .i64 z ∧ s9 = .int .i64 err ∧ wc.heap[g]? = some (.cells #[.int .i64 k, .int .i64 r, .slice zo zl zc, .int .i64 nd] 73 (0, 0)) ∧ LKR wj wc res k r zo zl zc nd z err ∧ Same0 wj wc)
              case first =>
                go_region_held3 (fun w' => w'.cell? ⟨w.heap.size, 0, none⟩ = some (.slice (some ⟨b, off, none⟩) I.length ic) ∧ w'.cell? ⟨w.heap.size, 1, none⟩ = some (.slice (some ⟨pb, poff, none⟩) P.length pc) ∧ w'.cell? ⟨w.heap.size, 2, none⟩ = some (.slice eo E.length ec) ∧ w'.cell? ⟨w.heap.size, 3, none⟩ = some (.slice ro rl rc) ∧ w'.cell? ⟨w.heap.size, 4, none⟩ = some (.iface 70 (.agg #[.slice ho hn hc, .slice go gn gc])) ∧ w'.cell? ⟨w.heap.size, 5, none⟩ = some (.int .i64 node) ∧ w'.cell? ⟨wr.heap.size, 1, none⟩ = some (.int .i64 (q : Int)) ∧ w'.cell? ⟨pb, poff + q, none⟩ = some (.slice qo pth.length qc)) (first | exact W0 | exact cc1 | exact HS.out _ (by first | assumption | exact Kept.alloc (by assumption) _ | exact Same0.own (Same0.own (Same0.own (Same0.own (by assumption) (Nat.le_refl _) _) (Nat.le_refl _) _) (Nat.le_refl _) _) (Nat.le_refl _) _)) (first
                  | (go_at_call 92; refine (CL2.out _ (by first | exact kd | exact Kept.alloc kd _)).mono ?_; rintro e w4 ⟨k, r, zo, zl, zc, nd, z, err, rfl, hLK, k4⟩; have hk1 : Same0 wj w4 := (by first | exact kd.trans' k4 | exact Same0.trans' (Kept.alloc kd _) k4); have cc1 := HS.out _ hk1; try (have zb : w4.heap[wj.heap.size]? = some (.cells #[.int .i64 0, .int .i64 0, .slice none 0 0, .int .i64 0] 73 (0, 0)) := k4.at0 (heap_alloc_new wj.drew _); have zc0 : w4.cell? ⟨wj.heap.size, 0, none⟩ = some (.int .i64 0) := cellAt zb 0; have zc1 : w4.cell? ⟨wj.heap.size, 1, none⟩ = some (.int .i64 0) := cellAt zb 1; have zc2 : w4.cell? ⟨wj.heap.size, 2, none⟩ = some (.slice none 0 0) := cellAt zb 2; have zc3 : w4.cell? ⟨wj.heap.size, 3, none⟩ = some (.int .i64 0) := cellAt zb 3; have zf0 := frozenAt zb 0; have zf1 := frozenAt zb 1; have zf2 := frozenAt zb 2; have zf3 := frozenAt zb 3)))
                all_goals
                  go_wp2_with fail
                  go_meet
                  case rel =>
                    first
                      | exact ⟨_, k, r, zo, zl, zc, nd, z, err, rfl, rfl, rfl, heap_alloc_new w4 _, LKR.up hLK.out k4 (Kept.alloc (Kept.refl _ _) _) (Nat.le_refl _), Kept.alloc hk1 _⟩
                      | exact ⟨_, k, r, zo, zl, zc, nd, z, err, rfl, rfl, rfl, setAt (setAt (setAt (setAt zb 0 _) 1 _) 2 _) 3 _, LKR.put hLK.out _ _ _ _, Same0.own (Same0.own (Same0.own (Same0.own hk1 (Nat.le_refl _) _) (Nat.le_refl _) _) (Nat.le_refl _) _) (Nat.le_refl _) _⟩
              case rest =>
                obtain ⟨g, k, r, zo, zl, zc, nd, z, err, rfl, rfl, rfl, hg, hLK, kc⟩ := hcut
                clear CL2 HS W0 v0 v1 v2 v3 v4 v5 x0 x1 x2 x3 x4 x5 CI y0 y1 y2 c0 c1 c2 s0 s1 s2 s3 g0 g1 g2 g3 r0 r1 r2 r3 f0 f1 f2 f3 PH p0 bi
                have kWc := hKi.trans' kc
                have hjz := hKi.size
                obtain ⟨⟨r0, r1, r2, r3⟩, f0, f1, f2, f3⟩ := RC.out wc kWc
                have d0 := cellAt hg 0
                have d1 := cellAt hg 1
                have d2 := cellAt hg 2
                have d3 := cellAt hg 3
                simp only [List.getElem?_toArray, List.getElem?_cons_zero, List.getElem?_cons_succ] at d0 d1 d2 d3
                have PH : Hid _ := PUT.out wc (.int .i64 k) (.int .i64 r) (.slice zo zl zc) (.int .i64 nd) kWc
                cases res with
                | inr x =>
                  obtain ⟨rfl, rfl, rfl, rfl, rfl, rfl, rfl, rfl⟩ := hLK
                  have hgt := HGT.out z rfl
                  have M : Hid (I.length < z.toNat + (f + 1) ∧ R = runF L ok T I P E node (f + 1) z.toNat) := by
                    obtain ⟨n1, n2⟩ := NX.out
                    refine ⟨by omega, ?_⟩
                    rw [← runF_more f (f + 1) z.toNat (by omega) (by omega)]
                    exact n2
                  have hzn : z = ((z.toNat : Nat) : Int) := by omega
                  have HM : Hid (I.length - z.toNat < I.length - a) := by show _ < _; omega
                  clear NX HGT HIN hgt PH hg
                  go_wp2_with fail
                  go_roundw
                  case rel => first | exact ⟨z.toNat, f, by rw [← hzn], M, kWc⟩ | ((repeat apply Exists.intro); exact ⟨⟨z.toNat, f, by rw [← hzn], M, kWc⟩, rfl⟩)
                  case measure => simp only [intOf]; rw [Int.toNat_natCast]; exact HM.out
                | inl R' =>
                  obtain ⟨e1, e2, e3, e4, e5, e6, e7⟩ := hLK
                  have hR : R = R' := NX.out.2
                  rcases HIN.out R' rfl with h5 | ⟨nd', h5⟩
                  · rw [h5] at e1 e2 e3 e4 e6 e7 hR
                    simp only [bad5] at e1 e2 e3 e4 e6 e7
                    subst e1; subst e2; subst e4; subst e5; subst e6
                    have HB : Hid (FndOut w R (.returned (.tuple #[.agg #[.int .i64 0, .int .i64 0, .slice zo zl zc, .int .i64 0], .int .i64 92])) ((((wc.setCell ⟨w.heap.size + 1, 0, none⟩ (.int .i64 0)).setCell ⟨w.heap.size + 1, 1, none⟩ (.int .i64 0)).setCell ⟨w.heap.size + 1, 2, none⟩ (.slice zo zl zc)).setCell ⟨w.heap.size + 1, 3, none⟩ (.int .i64 0))) := by
                      obtain ⟨_, kk, ks⟩ := PH.out
                      rw [hR]
                      subst e3
                      refine ⟨zo, zc, rfl, row_mono (kk.row e7 (fun q q1 q2 => ?_)) (by omega), ks⟩
                      have := row_base e7 q1
                      omega
                    clear NX HGT HIN hg e3 e7 hR h5
                    go_wp2_with fail
                    obtain ⟨⟨q0, q1, q2, q3⟩, kk, ks⟩ := PH.out
                    exact bodyPost_ret (v := .tuple #[.agg #[.int .i64 0, .int .i64 0, .slice zo zl zc, .int .i64 0], .int .i64 92]) (by simp [results, Tryz.results58, go_sem, q0, q1, q2, q3]) rfl HB.out
                  · rw [h5] at e1 e2 e3 e4 e6 e7 hR
                    simp only at e1 e2 e3 e4 e6 e7
                    subst e1; subst e2; subst e4; subst e5; subst e6
                    have HB : Hid (FndOut w R (.returned (.tuple #[.agg #[.int .i64 3, .int .i64 0, .slice zo zl zc, .int .i64 nd], .int .i64 0])) ((((wc.setCell ⟨w.heap.size + 1, 0, none⟩ (.int .i64 3)).setCell ⟨w.heap.size + 1, 1, none⟩ (.int .i64 0)).setCell ⟨w.heap.size + 1, 2, none⟩ (.slice zo zl zc)).setCell ⟨w.heap.size + 1, 3, none⟩ (.int .i64 nd))) := by
                      obtain ⟨_, kk, ks⟩ := PH.out
                      rw [hR]
                      subst e3
                      refine ⟨zo, zc, rfl, row_mono (kk.row e7 (fun q q1 q2 => ?_)) (by omega), ks⟩
                      have := row_base e7 q1
                      omega
                    clear NX HGT HIN hg e3 e7 hR h5
                    go_wp2_with fail
                    obtain ⟨⟨q0, q1, q2, q3⟩, kk, ks⟩ := PH.out
                    exact bodyPost_ret (v := .tuple #[.agg #[.int .i64 3, .int .i64 0, .slice zo zl zc, .int .i64 nd], .int .i64 0]) (by simp [results, Tryz.results58, go_sem, q0, q1, q2, q3]) rfl HB.out
          · rw [if_neg (fun e => h1 e.1)] at hf2
            have FR : Hid (R = (0, 0, [], 0, 92)) := hf2
            have e4 : (I[a].1 == 4) = false := by simpa using h4
            have e3 : (I[a].1 == 3) = false := by simpa using h3
            have e1 : (I[a].1 == 1) = false := by simpa using h1
            clear hf1 hf2 hF HI HPT CLK h4 h3 h1
            generalize I[a].1 = z at *
            go_upto_region 3 with fail
            rw [← hwi]
            clear hwi
            go_wp2_with fail
            obtain ⟨⟨q0, q1, q2, q3⟩, kk, ks⟩ := PH.out
            exact bodyPost_ret (v := .tuple #[.agg #[.int .i64 0, .int .i64 0, .slice none 0 0, .int .i64 0], .int .i64 92]) (by simp [results, Tryz.results58, go_sem, q0, q1, q2, q3]) rfl (RET.out _ _ _ _ ks FR.out)
    · have FR : Hid (R = (0, 0, [], 0, 92)) := by
        obtain ⟨_, h2⟩ := hF.out
        rw [runF_out (by omega)] at h2
        exact h2
      have PH : Hid _ := PUT.out wr (.int .i64 0) (.int .i64 0) (.slice none 0 0) (.int .i64 0) hK
      clear hF HI HPT CLK
      go_wp2_with fail
      obtain ⟨⟨q0, q1, q2, q3⟩, kk, ks⟩ := PH.out
      exact bodyPost_ret (v := .tuple #[.agg #[.int .i64 0, .int .i64 0, .slice none 0 0, .int .i64 0], .int .i64 92]) (by simp [results, Tryz.results58, go_sem, q0, q1, q2, q3]) rfl (RET.out _ _ _ _ ks FR.out)
end Go.Proofs.YthamjjhioafkjaaGreat
namespace Go.Proofs.YthamjjhioafkjaaGreat
set_option maxRecDepth 100000
set_option linter.unusedVariables false
open Go.RowKit
attribute [local go_sem ↓] Go.wp_at_zero Go.wp_at_succ
theorem vw_nil (v : Value) (w : World) : (binOp .eql 136 (.iface 70 v) .nilIface).run Tryz.prog w = .ok (.bool false) w := by kernel_rfl
theorem vw_ptr (v u : Value) (w : World) : (binOp .eql 136 (.iface 70 v) (.iface 137 u)).run Tryz.prog w = .ok (.bool false) w := by kernel_rfl
set_option maxHeartbeats 16000000 in
theorem run_any {base : Nat} {w : World} {L : List Sym} {ok : Bool} {T : List Int} {ho : Option Addr} {hn hc : Nat} {go : Option Addr} {gn gc : Nat} (hv : VwAt base w L ok T (.agg #[.slice ho hn hc,.slice go gn gc])) {io : Option Addr} {I : List I3} (hI : InsAt w io I) (hl : I.length ≤ 140737488355328) {po : Option Addr} {P : List (List Int)} (hP : PthAt w po P) {eo : Option Addr} {E : List Int} (hE : IntsAt w eo E) (ic pc ec : Nat) (ro : Option Addr) (rl rc : Nat) (n node : Int) :
    Calls Tryz.prog 24 #[.agg #[.slice io I.length ic,.slice po P.length pc,.slice eo E.length ec,.slice ro rl rc],.int .i64 n,.iface 70 (.agg #[.slice ho hn hc,.slice go gn gc]),.int .i64 node] w (FndOut w (codeF L ok T I P E n node)) := by
  have en := vw_nil (.agg #[.slice ho hn hc, .slice go gn gc])
  have ep := vw_ptr (.agg #[.slice ho hn hc, .slice go gn gc]) (.pointer none)
  obtain ⟨W1, hW1⟩ : ∃ W1, W1 = (w.alloc (.cells #[.slice io I.length ic, .slice po P.length pc, .slice eo E.length ec, .slice ro rl rc] 45)).alloc (.cells #[.int .i64 0, .int .i64 0, .slice none 0 0, .int .i64 0] 73) := ⟨_, rfl⟩
  have KW : Same0 w W1 := by rw [hW1]; exact ((Kept.refl _ w).alloc _).alloc _
  have hbx : W1.heap[w.heap.size]? = some (.cells #[.slice io I.length ic, .slice po P.length pc, .slice eo E.length ec, .slice ro rl rc] 45 (0, 0)) := by rw [hW1]; exact heap_alloc2_old _ _ _
  have hfd : W1.heap[w.heap.size + 1]? = some (.cells #[.int .i64 0, .int .i64 0, .slice none 0 0, .int .i64 0] 73 (0, 0)) := by rw [hW1]; exact heap_al_al _ _ _
  have zW : w.heap.size + 1 < W1.heap.size := lt_of_at hfd
  have BX : Hid (∀ ww, Same0 W1 ww → ww.cell? ⟨w.heap.size, 0, none⟩ = some (.slice io I.length ic) ∧ ww.cell? ⟨w.heap.size, 1, none⟩ = some (.slice po P.length pc) ∧ ww.cell? ⟨w.heap.size, 2, none⟩ = some (.slice eo E.length ec) ∧ ww.cell? ⟨w.heap.size, 3, none⟩ = some (.slice ro rl rc)) := fun ww hk => by
    have := hk.at0 hbx
    exact ⟨cellAt this 0, cellAt this 1, cellAt this 2, cellAt this 3⟩
  have RC : Hid (∀ ww, Same0 W1 ww → (ww.cell? ⟨w.heap.size + 1, 0, none⟩ = some (.int .i64 0) ∧ ww.cell? ⟨w.heap.size + 1, 1, none⟩ = some (.int .i64 0) ∧ ww.cell? ⟨w.heap.size + 1, 2, none⟩ = some (.slice none 0 0) ∧ ww.cell? ⟨w.heap.size + 1, 3, none⟩ = some (.int .i64 0)) ∧ ww.frozen? ⟨w.heap.size + 1, 0, none⟩ = false ∧ ww.frozen? ⟨w.heap.size + 1, 1, none⟩ = false ∧ ww.frozen? ⟨w.heap.size + 1, 2, none⟩ = false ∧ ww.frozen? ⟨w.heap.size + 1, 3, none⟩ = false) := fun ww hk => by
    have := hk.at0 hfd
    exact ⟨⟨cellAt this 0, cellAt this 1, cellAt this 2, cellAt this 3⟩, frozenAt this 0, frozenAt this 1, frozenAt this 2, frozenAt this 3⟩
  have PUT : Hid (∀ ww x0 x1 x2 x3, Same0 W1 ww → (((((ww.setCell ⟨w.heap.size + 1, 0, none⟩ x0).setCell ⟨w.heap.size + 1, 1, none⟩ x1).setCell ⟨w.heap.size + 1, 2, none⟩ x2).setCell ⟨w.heap.size + 1, 3, none⟩ x3).cell? ⟨w.heap.size + 1, 0, none⟩ = some x0 ∧ ((((ww.setCell ⟨w.heap.size + 1, 0, none⟩ x0).setCell ⟨w.heap.size + 1, 1, none⟩ x1).setCell ⟨w.heap.size + 1, 2, none⟩ x2).setCell ⟨w.heap.size + 1, 3, none⟩ x3).cell? ⟨w.heap.size + 1, 1, none⟩ = some x1 ∧ ((((ww.setCell ⟨w.heap.size + 1, 0, none⟩ x0).setCell ⟨w.heap.size + 1, 1, none⟩ x1).setCell ⟨w.heap.size + 1, 2, none⟩ x2).setCell ⟨w.heap.size + 1, 3, none⟩ x3).cell? ⟨w.heap.size + 1, 2, none⟩ = some x2 ∧ ((((ww.setCell ⟨w.heap.size + 1, 0, none⟩ x0).setCell ⟨w.heap.size + 1, 1, none⟩ x1).setCell ⟨w.heap.size + 1, 2, none⟩ x2).setCell ⟨w.heap.size + 1, 3, none⟩ x3).cell? ⟨w.heap.size + 1, 3, none⟩ = some x3) ∧ Kept (fun q => q = w.heap.size + 1) ww ((((ww.setCell ⟨w.heap.size + 1, 0, none⟩ x0).setCell ⟨w.heap.size + 1, 1, none⟩ x1).setCell ⟨w.heap.size + 1, 2, none⟩ x2).setCell ⟨w.heap.size + 1, 3, none⟩ x3) ∧ Same0 w ((((ww.setCell ⟨w.heap.size + 1, 0, none⟩ x0).setCell ⟨w.heap.size + 1, 1, none⟩ x1).setCell ⟨w.heap.size + 1, 2, none⟩ x2).setCell ⟨w.heap.size + 1, 3, none⟩ x3)) := by
    intro ww x0 x1 x2 x3 hk
    have rs := hk.at0 hfd
    have s3 := setAt (setAt (setAt (setAt rs 0 x0) 1 x1) 2 x2) 3 x3
    have k1 := kept_at ww (w.heap.size + 1) 0 x0
    have k2 := Kept.trans k1 (kept_at _ (w.heap.size + 1) 1 x1) (fun _ _ e => e)
    have k3 := Kept.trans k2 (kept_at _ (w.heap.size + 1) 2 x2) (fun _ _ e => e)
    have k4 := Kept.trans k3 (kept_at _ (w.heap.size + 1) 3 x3) (fun _ _ e => e)
    exact ⟨⟨cellAt s3 0, cellAt s3 1, cellAt s3 2, cellAt s3 3⟩, k4, Kept.trans (KW.trans' hk) k4 (fun i hi e => by omega)⟩
  have CH := chas_any (hE.same KW) io po ro I.length ic P.length pc ec rl rc n
  obtain ⟨x0, x1, x2, x3⟩ := BX.out W1 (Kept.refl _ _)
  cases hb : hasB E n with
  | false =>
    rw [hb] at CH
    have HR : Hid (codeF L ok T I P E n node = (0, 0, [], 0, 90)) := by show _ = _; rw [codeF, if_neg (by rw [hb]; simp)]
    clear hv hI hP hE hbx hfd hb
    go_enter Tryz.func24, Tryz.ntmps24
    go_upto_region 1 with fail
    rw [← hW1]
    clear hW1
    go_wp2_with (first | (go_at_call 57; refine CH.mono ?_; rintro e w2 ⟨rfl, k2⟩; obtain ⟨⟨r0, r1, r2, r3⟩, f0, f1, f2, f3⟩ := RC.out w2 k2))
    obtain ⟨⟨q0, q1, q2, q3⟩, kk, ks⟩ := PUT.out w2 (.int .i64 0) (.int .i64 0) (.slice none 0 0) (.int .i64 0) k2
    refine bodyPost_ret (v := .tuple #[.agg #[.int .i64 0, .int .i64 0, .slice none 0 0, .int .i64 0], .int .i64 90]) (by simp [results, Tryz.results24, go_sem, q0, q1, q2, q3]) rfl ?_
    rw [HR.out]
    exact ⟨none, 0, rfl, World.ownsRow_nil _ _ _ _, ks⟩
  | true =>
    rw [hb] at CH
    have hb2 := hb
    unfold hasB at hb2
    simp only [Bool.and_eq_true, decide_eq_true_eq] at hb2
    obtain ⟨i, rfl, hil⟩ := idx_yes hb2.1
    have hei : E.getD ((i : Int)).toNat (-1) = E[i] := by rw [Int.toNat_natCast]; simp [hil]
    have h0 : 0 ≤ E[i] := by have := hb2.2; rw [hei] at this; exact this
    obtain ⟨a0, ha0⟩ : ∃ a0 : Nat, E[i] = (a0 : Int) := ⟨E[i].toNat, by omega⟩
    have HR : Hid (codeF L ok T I P E (i : Int) node = runF L ok T I P E node (I.length + 1) a0) := by show _ = _; rw [codeF, if_pos hb, hei, ha0, Int.toNat_natCast]
    obtain ⟨eb, eoff, rfl, heb, hec⟩ := hE.get hil
    rw [ha0] at hec
    have CF : Hid (∀ ww, Same0 w ww → Calls Tryz.prog 58 #[.agg #[.slice io I.length ic, .slice po P.length pc, .slice (some ⟨eb, eoff, none⟩) E.length ec, .slice ro rl rc, .iface 70 (.agg #[.slice ho hn hc, .slice go gn gc]), .int .i64 node], .int .i64 (a0 : Int)] ww fun e w' => ∃ qk qr qo ql qc qn qe, e = .returned (.tuple #[.agg #[.int .i64 qk, .int .i64 qr, .slice qo ql qc, .int .i64 qn], .int .i64 qe]) ∧ Hid (FndOut ww (runF L ok T I P E node (I.length + 1) a0) (.returned (.tuple #[.agg #[.int .i64 qk, .int .i64 qr, .slice qo ql qc, .int .i64 qn], .int .i64 qe])) w') ∧ Same0 ww w') := fun ww hk => by
      refine (from_any (hv.same hk) (hI.same hk) hl (hP.same hk) (hE.same hk) ic pc ec ro rl rc node a0).mono ?_
      intro e w' h
      obtain ⟨qo, qc, rfl, h1, h2⟩ := h
      exact ⟨_, _, _, _, _, _, _, rfl, ⟨qo, qc, rfl, h1, h2⟩, h2⟩
    have i1 : (0 : Int) ≤ (i : Int) := by omega
    have i2 : (i : Int) < (E.length : Int) := by omega
    have HS : Hid (∀ ww, Same0 W1 ww → ww.cell? ⟨w.heap.size, 0, none⟩ = some (.slice io I.length ic) ∧ ww.cell? ⟨w.heap.size, 1, none⟩ = some (.slice po P.length pc) ∧ ww.cell? ⟨w.heap.size, 2, none⟩ = some (.slice (some ⟨eb, eoff, none⟩) E.length ec) ∧ ww.cell? ⟨w.heap.size, 3, none⟩ = some (.slice ro rl rc) ∧ ww.cell? ⟨eb, eoff + i, none⟩ = some (.int .i64 (a0 : Int))) := fun ww hk => by
      obtain ⟨t0, t1, t2, t3⟩ := BX.out ww hk
      exact ⟨t0, t1, t2, t3, ((KW.trans' hk).cell (p := ⟨eb, eoff + i, none⟩) heb (fun f => f)).trans hec⟩
    clear hv hI hP hE hbx hfd hb hb2 hei h0 ha0
    go_enter Tryz.func24, Tryz.ntmps24
    go_upto_region 1 with fail
    rw [← hW1]
    clear hW1
    go_upto_region 5 with (first | (go_at_call 57; refine CH.mono ?_; rintro e w2 ⟨rfl, k2⟩))
    have C0 := HS.out w2 k2
    have kd : Same0 w2 w2.drew := Kept.drew (Kept.refl _ _)
    go_region_held3 (fun w' => w'.cell? ⟨w.heap.size, 0, none⟩ = some (.slice io I.length ic) ∧ w'.cell? ⟨w.heap.size, 1, none⟩ = some (.slice po P.length pc) ∧ w'.cell? ⟨w.heap.size, 2, none⟩ = some (.slice (some ⟨eb, eoff, none⟩) E.length ec) ∧ w'.cell? ⟨w.heap.size, 3, none⟩ = some (.slice ro rl rc) ∧ w'.cell? ⟨eb, eoff + i, none⟩ = some (.int .i64 (a0 : Int))) (first | exact C0 | exact cc3 | exact cc4.out) (first
      | (go_at_call 58; refine (CF.out _ ((KW.trans' k2).trans' kd)).mono ?_; rintro e w3 ⟨qk, qr, qo, ql, qc, qn, qe, rfl, hF, k3⟩; have hk3 : Same0 W1 w3 := (k2.trans' kd).trans' k3; have cc3 := HS.out w3 hk3; obtain ⟨⟨r0, r1, r2, r3⟩, f0, f1, f2, f3⟩ := RC.out w3 hk3; have PH : Hid _ := PUT.out w3 (.int .i64 qk) (.int .i64 qr) (.slice qo ql qc) (.int .i64 qn) hk3; have cc4 : Hid _ := And.intro ((PH.out.2.1.cell (p := ⟨w.heap.size, 0, none⟩) (World.block_lt_of_cell? _ _ cc3.1) (fun e => (by have e' : w.heap.size = w.heap.size + 1 := e; omega))).trans cc3.1) (And.intro ((PH.out.2.1.cell (p := ⟨w.heap.size, 1, none⟩) (World.block_lt_of_cell? _ _ cc3.2.1) (fun e => (by have e' : w.heap.size = w.heap.size + 1 := e; omega))).trans cc3.2.1) (And.intro ((PH.out.2.1.cell (p := ⟨w.heap.size, 2, none⟩) (World.block_lt_of_cell? _ _ cc3.2.2.1) (fun e => (by have e' : w.heap.size = w.heap.size + 1 := e; omega))).trans cc3.2.2.1) (And.intro ((PH.out.2.1.cell (p := ⟨w.heap.size, 3, none⟩) (World.block_lt_of_cell? _ _ cc3.2.2.2.1) (fun e => (by have e' : w.heap.size = w.heap.size + 1 := e; omega))).trans cc3.2.2.2.1) ((PH.out.2.1.cell (p := ⟨eb, eoff + i, none⟩) (World.block_lt_of_cell? _ _ cc3.2.2.2.2) (fun e => (by have e' : eb = w.heap.size + 1 := e; omega))).trans cc3.2.2.2.2))))))
    all_goals
      go_wp2_with fail
      obtain ⟨⟨q0, q1, q2, q3⟩, kk, ks⟩ := PH.out
      refine bodyPost_ret (v := .tuple #[.agg #[.int .i64 qk, .int .i64 qr, .slice qo ql qc, .int .i64 qn], .int .i64 qe]) (by simp [results, Tryz.results24, go_sem, q0, q1, q2, q3]) rfl ?_
      rw [HR.out]
      obtain ⟨zo, zc, e1, h1, h2⟩ := hF.out
      refine ⟨zo, zc, e1, row_mono (kk.row h1 (fun q e e2 => ?_)) ?_, ks⟩
      · have := row_base h1 e
        have e3 : q = w.heap.size + 1 := e2
        have hz := k2.size
        have hz2 : w2.drew.heap.size = w2.heap.size := rfl
        omega
      · have hz := (KW.trans' k2).size
        exact hz
end Go.Proofs.YthamjjhioafkjaaGreat
namespace Go.Proofs.YthamjjhioafkjaaGreat
set_option maxRecDepth 100000
set_option linter.unusedVariables false
open Go.RowKit
attribute [local go_sem ↓] Go.wp_at_zero Go.wp_at_succ
def rulesF : (n : Nat) → Tr n → List Int
  | 0, _ => []
  | n + 1, (k, r, p, l) => if k = 1 then [r] else if k = 2 then l.flatMap (fun x => rulesF n x.2) else []
def SmK : (n : Nat) → Tr n → Prop
  | 0, _ => True
  | n + 1, (k, r, p, l) => l.length ≤ 1000000000 ∧ ∀ i (h : i < l.length), SmK n l[i].2
structure RAt (w : World) (lb base : Nat) (lv : Value) (out : List Int) : Prop where
  blk : w.heap[lb]? = some (.cells #[lv] 23 (0, 0))
  row : Row base w lv out
end Go.Proofs.YthamjjhioafkjaaGreat
