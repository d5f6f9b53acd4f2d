import Derived.Test.YthamjjhioafkjaaGreatGCodeViews30
import Derived.Test.YthamjjhioafkjaaGreatGCodeViews03
import Derived.Laws.Externs
import Derived.MapKept
import Derived.Deep.RegionWith
import Derived.Deep.DrawnRows
import Derived.Test.YthamjjhioafkjaaGreatGCodeViews16
namespace Go.Proofs.YthamjjhioafkjaaGreat
set_option maxRecDepth 100000
set_option linter.unusedVariables false
open Go.RowKit
attribute [local go_sem ↓] Go.wp_at_zero Go.wp_at_succ
theorem growF_zero {L : List Sym} {n : Nat} {P : List (List Int)} {R : List Rw} (h : R.length = 0) : growF L (n + 1) P R = .ok (3,0,[],[]) := by
  rw [growF, if_pos h]
theorem growF_branch {L : List Sym} {n : Nat} {P : List (List Int)} {R : List Rw} (h : ¬ R.length = 0) {c : Nat} (hc : partN R P.length = some c) : growF L (n + 1) P R = BrF L n P R c := by
  rw [growF, if_neg h, hc]
  unfold BrF KidsF
  rfl
theorem growF_leaf {L : List Sym} {n : Nat} {P : List (List Int)} {R : List Rw} (h1 : R.length = 1) (hc : partN R P.length = none) : growF L (n + 1) P R = .ok (1,(R.headD (0,[],[])).1,[],[]) := by
  rw [growF, if_neg (by omega), hc, if_pos h1]
theorem growF_fork {L : List Sym} {n : Nat} {P : List (List Int)} {R : List Rw} (h : ¬ R.length = 0) (h1 : ¬ R.length = 1) (hc : partN R P.length = none) : growF L (n + 1) P R = .error (R.headD (0,[],[])).1 := by
  rw [growF, if_neg h, hc, if_neg h1]
theorem leaf_cs (B : Nat → Prop) (w : World) (n : Nat) (k r : Int) : CsB B w (n + 1) (.agg #[.int .i64 k,.int .i64 r,.slice none 0 0,.slice none 0 0]) (k,r,[],[]) :=
  ⟨none, 0, none, 0, rfl, ⟨.inl rfl, Nat.le_refl _, fun _ => ⟨rfl, rfl⟩, by simp⟩, .inl rfl, fun _ => rfl, Nat.le_refl _, .inl rfl⟩
set_option maxHeartbeats 16000000 in
theorem grow_step {L : List Sym} {n : Nat} (IH : GrowIH L n) : GrowIH L (n + 1) := by
  intro w bs po pc P ro rc R h
  have hle := h.ok.le
  have CPP := fun ww (hk : Same0 w ww) => parting_any (bs := bs) (po := po) (pc := pc) (rc := rc) (h.rs.same hk) h.ok.rows hle h.ok.few
  have CBB := fun c (hc : c < P.length) ww (hk : Same0 w ww) => branch_any IH (rc := rc) (h.same hk) hc
  obtain ⟨N, hN⟩ : ∃ N, N = R.length := ⟨_, rfl⟩
  have HN : Hid (N = R.length) := hN
  rw [← hN] at CPP CBB ⊢
  obtain ⟨W1, hW1⟩ : ∃ W1, W1 = (w.alloc (.cells #[.pointer (some ⟨bs, 0, none⟩), .slice po P.length pc, .slice ro N rc] 152)).alloc zeroCs := ⟨_, rfl⟩
  have KW : Same0 w W1 := by rw [hW1]; exact ((Kept.refl _ w).alloc _).alloc _
  have ez : w.heap.size + 1 < W1.heap.size := by rw [hW1]; simp
  have HH : Hid (∀ ww, Same0 W1 ww → NdIn ww L (n + 1) bs po pc P ro R) := fun ww hk => h.same (KW.trans' hk)
  have BX : Hid (∀ ww, Same0 W1 ww → ww.cell? ⟨w.heap.size, 0, none⟩ = some (.pointer (some ⟨bs, 0, none⟩)) ∧ ww.cell? ⟨w.heap.size, 1, none⟩ = some (.slice po P.length pc) ∧ ww.cell? ⟨w.heap.size, 2, none⟩ = some (.slice ro N rc)) := fun ww hk => by
    have hb : W1.heap[w.heap.size]? = some (.cells #[.pointer (some ⟨bs, 0, none⟩), .slice po P.length pc, .slice ro N rc] 152 (0, 0)) := by rw [hW1]; exact heap_alloc2_old _ _ _
    exact ⟨cellAt (hk.at0 hb) 0, cellAt (hk.at0 hb) 1, cellAt (hk.at0 hb) 2⟩
  have RS : Hid (∀ ww, Same0 W1 ww → ww.heap[w.heap.size + 1]? = some (.cells #[.int .i64 0, .int .i64 0, .slice none 0 0, .slice none 0 0] 26 (0, 0))) := fun ww hk => hk.at0 (by rw [hW1]; exact heap_al_al _ _ _)
  have RC : Hid (∀ ww, Same0 W1 ww → (ww.cell? ⟨w.heap.size + 1, 0, none⟩ = some (.int .i64 0) ∧ ww.cell? ⟨w.heap.size + 1, 1, none⟩ = some (.int .i64 0) ∧ ww.cell? ⟨w.heap.size + 1, 2, none⟩ = some (.slice none 0 0) ∧ ww.cell? ⟨w.heap.size + 1, 3, none⟩ = some (.slice none 0 0)) ∧ ww.frozen? ⟨w.heap.size + 1, 0, none⟩ = false ∧ ww.frozen? ⟨w.heap.size + 1, 1, none⟩ = false ∧ ww.frozen? ⟨w.heap.size + 1, 2, none⟩ = false ∧ ww.frozen? ⟨w.heap.size + 1, 3, none⟩ = false) := fun ww hk => by
    have rs := RS.out ww hk
    exact ⟨⟨cellAt rs 0, cellAt rs 1, cellAt rs 2, cellAt rs 3⟩, frozenAt rs 0, frozenAt rs 1, frozenAt rs 2, frozenAt rs 3⟩
  have PUT : Hid (∀ ww x0 x1 x2 x3, Same0 W1 ww → ((((((ww.setCell ⟨w.heap.size + 1, 0, none⟩ x0).setCell ⟨w.heap.size + 1, 1, none⟩ x1).setCell ⟨w.heap.size + 1, 2, none⟩ x2).setCell ⟨w.heap.size + 1, 3, none⟩ x3).cell? ⟨w.heap.size + 1, 0, none⟩ = some x0) ∧ ((((ww.setCell ⟨w.heap.size + 1, 0, none⟩ x0).setCell ⟨w.heap.size + 1, 1, none⟩ x1).setCell ⟨w.heap.size + 1, 2, none⟩ x2).setCell ⟨w.heap.size + 1, 3, none⟩ x3).cell? ⟨w.heap.size + 1, 1, none⟩ = some x1 ∧ ((((ww.setCell ⟨w.heap.size + 1, 0, none⟩ x0).setCell ⟨w.heap.size + 1, 1, none⟩ x1).setCell ⟨w.heap.size + 1, 2, none⟩ x2).setCell ⟨w.heap.size + 1, 3, none⟩ x3).cell? ⟨w.heap.size + 1, 2, none⟩ = some x2 ∧ ((((ww.setCell ⟨w.heap.size + 1, 0, none⟩ x0).setCell ⟨w.heap.size + 1, 1, none⟩ x1).setCell ⟨w.heap.size + 1, 2, none⟩ x2).setCell ⟨w.heap.size + 1, 3, none⟩ x3).cell? ⟨w.heap.size + 1, 3, none⟩ = some x3) ∧ Kept (fun q => q = w.heap.size + 1) ww ((((ww.setCell ⟨w.heap.size + 1, 0, none⟩ x0).setCell ⟨w.heap.size + 1, 1, none⟩ x1).setCell ⟨w.heap.size + 1, 2, none⟩ x2).setCell ⟨w.heap.size + 1, 3, none⟩ x3) ∧ Same0 w ((((ww.setCell ⟨w.heap.size + 1, 0, none⟩ x0).setCell ⟨w.heap.size + 1, 1, none⟩ x1).setCell ⟨w.heap.size + 1, 2, none⟩ x2).setCell ⟨w.heap.size + 1, 3, none⟩ x3)) := by
    intro ww x0 x1 x2 x3 hk
    have rs := RS.out ww hk
    have s3 := setAt (setAt (setAt (setAt rs 0 x0) 1 x1) 2 x2) 3 x3
    have k1 := Kept.setCell (p := ⟨w.heap.size + 1, 0, none⟩) (Kept.refl (fun q => q = w.heap.size + 1) ww) (fun _ => rfl) x0
    have k2 := Kept.setCell (p := ⟨w.heap.size + 1, 1, none⟩) k1 (fun _ => rfl) x1
    have k3 := Kept.setCell (p := ⟨w.heap.size + 1, 2, none⟩) k2 (fun _ => rfl) x2
    have k4 := Kept.setCell (p := ⟨w.heap.size + 1, 3, none⟩) k3 (fun _ => rfl) x3
    exact ⟨⟨cellAt s3 0, cellAt s3 1, cellAt s3 2, cellAt s3 3⟩, k4, Kept.trans (KW.trans' hk) k4 (fun i hi e => by omega)⟩
  have CP := CPP W1 KW
  obtain ⟨b0, b1, b2⟩ := BX.out W1 (Kept.refl _ _)
  have HR0 : Hid (0 < R.length → ∃ b off, ro = some ⟨b, off, none⟩ ∧ ∀ ww, Same0 W1 ww → ww.cell? ⟨b, off, none⟩ = some (.int .i64 (R.headD (0, [], [])).1)) := fun hp => by
    obtain ⟨b, off, e, hb, ao, ac, bo, bc, r0, _⟩ := h.rs.get hp
    refine ⟨b, off, e, fun ww hk => ?_⟩
    have r0' : w.cell? ⟨b, off, none⟩ = some (.int .i64 R[0].1) := by simpa using r0
    have e2 : R.headD (0, [], []) = R[0] := by
      cases R with
      | nil => simp at hp
      | cons x r => rfl
    rw [e2]
    exact ((KW.trans' hk).cell (p := ⟨b, off, none⟩) hb (fun f => f)).trans r0'
  by_cases h0 : N = 0
  · have hg := growF_zero (L := L) (n := n) (P := P) (by rw [← HN.out]; exact h0)
    rw [hg]
    clear h hg HH CPP CBB HN hN HR0
    subst h0
    generalize partI R P.length = z at *
    go_enter Tryz.func66, Tryz.ntmps66
    go_upto_region 1 with fail
    rw [← hW1]
    clear hW1
    go_upto_region 3 with (first | (go_at_call 101; refine CP.mono ?_; rintro e w2 ⟨rfl, k2⟩; obtain ⟨c0, c1, c2⟩ := BX.out w2 k2; obtain ⟨⟨r0, r1, r2, r3⟩, f0, f1, f2, f3⟩ := RC.out w2 k2))
    go_wp2
    obtain ⟨⟨g0, g1, g2, g3⟩, kk, ks⟩ := PUT.out w2 (.int .i64 3) (.int .i64 0) (.slice none 0 0) (.slice none 0 0) k2
    exact bodyPost_ret (v := .agg #[.int .i64 3, .int .i64 0, .slice none 0 0, .slice none 0 0]) (by simp [results, Tryz.results66, go_sem, g0, g1, g2, g3]) rfl ⟨_, rfl, leaf_cs _ _ _ _ _, ks⟩
  · have hb0 : ((N : Int) == 0) = false := by simpa using h0
    have hR0 : ¬ R.length = 0 := by rw [← HN.out]; exact h0
    cases hp : partN R P.length with
    | some c =>
      obtain ⟨hc, _⟩ := partN_some hp
      have hz : partI R P.length = (c : Int) := by unfold partI; rw [hp]
      rw [hz] at CP
      rw [growF_branch hR0 hp]
      have i1 : (0 : Int) ≤ (c : Int) := by omega
      have CB : Hid (∀ ww, Same0 W1 ww → Calls Tryz.prog 102 #[.agg #[.pointer (some ⟨bs, 0, none⟩), .slice po P.length pc, .slice ro N rc], .int .i64 (c : Int)] ww (TreeOut ww (BrF L n P R c))) := fun ww hk => CBB c hc ww (KW.trans' hk)
      cases hbr : BrF L n P R c with
      | ok t =>
        rw [hbr] at CB
        have CB2 : Hid (∀ ww, Same0 W1 ww → Calls Tryz.prog 102 #[.agg #[.pointer (some ⟨bs, 0, none⟩), .slice po P.length pc, .slice ro N rc], .int .i64 (c : Int)] ww fun e w' => ∃ tk tr tpo tpl tpc tko tkl tkc, e = .returned (.agg #[.int .i64 tk, .int .i64 tr, .slice tpo tpl tpc, .slice tko tkl tkc]) ∧ Hid (CsB (fun b => ww.heap.size ≤ b) w' (n + 1) (.agg #[.int .i64 tk, .int .i64 tr, .slice tpo tpl tpc, .slice tko tkl tkc]) t) ∧ Same0 ww w') := fun ww hk => by
          refine (CB.out ww hk).mono ?_
          rintro e w' ⟨v, rfl, h1, h2⟩
          obtain ⟨tk, tr, tpo, tpl, tpc, tko, tkl, tkc, rfl⟩ := h1.shape
          exact ⟨tk, tr, tpo, tpl, tpc, tko, tkl, tkc, rfl, h1, h2⟩
        clear h HH CPP CBB HN hN hR0 CB hbr hp hz h0 HR0
        go_enter Tryz.func66, Tryz.ntmps66
        go_upto_region 1 with fail
        rw [← hW1]
        clear hW1
        go_upto_region 5 with (first | (go_at_call 101; refine CP.mono ?_; rintro e w2 ⟨rfl, k2⟩; obtain ⟨c0, c1, c2⟩ := BX.out w2 k2))
        have CB3 := CB2.out w2 k2
        go_wp2_with (first | (go_at_call 102; refine CB3.mono ?_; rintro e w3 ⟨tk, tr, tpo, tpl, tpc, tko, tkl, tkc, rfl, hcs, k3⟩; obtain ⟨⟨r0, r1, r2, r3⟩, f0, f1, f2, f3⟩ := RC.out w3 (k2.trans' k3)))
        obtain ⟨⟨g0, g1, g2, g3⟩, kk, ks⟩ := PUT.out w3 (.int .i64 tk) (.int .i64 tr) (.slice tpo tpl tpc) (.slice tko tkl tkc) (k2.trans' k3)
        have z2 := k2.size
        exact bodyPost_ret (v := .agg #[.int .i64 tk, .int .i64 tr, .slice tpo tpl tpc, .slice tko tkl tkc]) (by simp [results, Tryz.results66, go_sem, g0, g1, g2, g3]) rfl ⟨_, rfl, CsB.mono (fun b hb q => by have : w2.heap.size ≤ b := q; omega) (CsB.kept kk (fun b q e => by have : w2.heap.size ≤ b := q; omega) hcs.out), ks⟩
      | error z =>
        rw [hbr] at CB
        have CB2 : Hid (∀ ww, Same0 W1 ww → Calls Tryz.prog 102 #[.agg #[.pointer (some ⟨bs, 0, none⟩), .slice po P.length pc, .slice ro N rc], .int .i64 (c : Int)] ww fun e w' => ∃ b, e = .panicked [{ v := .iface 106 (.pointer (some ⟨b, 0, none⟩)), recovered := false }] ∧ Hid (w'.heap[b]? = some (.cells #[.int .i64 82, .int .i64 z, .nilIface] 108 (0, 0))) ∧ Same0 ww w') := fun ww hk => by
          refine (CB.out ww hk).mono ?_
          rintro e w' ⟨⟨b, h1, h2⟩, h3⟩
          exact ⟨b, h1, h2, h3⟩
        clear h HH CPP CBB HN hN hR0 CB hbr hp hz h0 HR0
        go_enter Tryz.func66, Tryz.ntmps66
        go_upto_region 1 with fail
        rw [← hW1]
        clear hW1
        go_upto_region 5 with (first | (go_at_call 101; refine CP.mono ?_; rintro e w2 ⟨rfl, k2⟩; obtain ⟨c0, c1, c2⟩ := BX.out w2 k2))
        have CB3 := CB2.out w2 k2
        go_wp2_with (first | (go_at_call 102; refine CB3.mono ?_; rintro e w3 ⟨b, rfl, hb, k3⟩))
        exact ⟨rfl, ⟨b, rfl, hb.out⟩, (KW.trans' k2).trans' k3⟩
    | none =>
      have hz : partI R P.length = -1 := by unfold partI; rw [hp]
      rw [hz] at CP
      obtain ⟨rb, roff, rfl, HRC⟩ := HR0.out (by omega)
      have HRD : Hid (∀ ww, Same0 W1 ww → ww.cell? ⟨rb, roff, none⟩ = some (.int .i64 (R.headD (0, [], [])).1)) := HRC
      have i1 : (0 : Int) < (N : Int) := by omega
      by_cases h1 : N = 1
      · rw [growF_leaf (by rw [← HN.out]; exact h1) hp]
        have hb1 : ((N : Int) == 1) = true := by subst h1; rfl
        clear h HH CPP CBB HN hN hR0 hp hz h0 HRC HR0 h1
        generalize (R.headD (0, [], [])).1 = z at *
        go_enter Tryz.func66, Tryz.ntmps66
        go_upto_region 1 with fail
        rw [← hW1]
        clear hW1
        go_upto_region 7 with (first | (go_at_call 101; refine CP.mono ?_; rintro e w2 ⟨rfl, k2⟩; obtain ⟨c0, c1, c2⟩ := BX.out w2 k2))
        obtain ⟨⟨r0, r1, r2, r3⟩, f0, f1, f2, f3⟩ := RC.out w2 k2
        have d0 := HRD.out w2 k2
        go_wp2
        obtain ⟨⟨g0, g1, g2, g3⟩, kk, ks⟩ := PUT.out w2 (.int .i64 1) (.int .i64 z) (.slice none 0 0) (.slice none 0 0) k2
        exact bodyPost_ret (v := .agg #[.int .i64 1, .int .i64 z, .slice none 0 0, .slice none 0 0]) (by simp [results, Tryz.results66, go_sem, g0, g1, g2, g3]) rfl ⟨_, rfl, leaf_cs _ _ _ _ _, ks⟩
      · rw [growF_fork hR0 (by rw [← HN.out]; exact h1) hp]
        have hb1 : ((N : Int) == 1) = false := by simp; omega
        clear h HH CPP CBB HN hN hR0 hp hz h0 HRC HR0 h1
        generalize (R.headD (0, [], [])).1 = z at *
        go_enter Tryz.func66, Tryz.ntmps66
        go_upto_region 1 with fail
        rw [← hW1]
        clear hW1
        go_upto_region 8 with (first | (go_at_call 101; refine CP.mono ?_; rintro e w2 ⟨rfl, k2⟩; obtain ⟨c0, c1, c2⟩ := BX.out w2 k2))
        have d0 := HRD.out w2 k2
        go_wp2
        exact ⟨rfl, ⟨_, rfl, heap_alloc_new w2 _⟩, Kept.alloc (KW.trans' k2) _⟩
theorem tgrow_any (L : List Sym) : ∀ n,GrowIH L n
  | 0 => fun w bs po pc P ro rc R h => absurd h.ok.pos (Nat.lt_irrefl 0)
  | n + 1 => grow_step (tgrow_any L n)
end Go.Proofs.YthamjjhioafkjaaGreat
namespace Go.Proofs.YthamjjhioafkjaaGreat
set_option maxRecDepth 100000
open Go.RowKit
attribute [local go_sem ↓] Go.wp_at_zero Go.wp_at_succ
theorem eql_slice (ao : Option Addr) (n c : Nat) (w : World) : (binOp .eql 36 (.slice ao n c) (.slice none 0 0)).run Tryz.prog w = .ok (.bool ao.isNone) w := by
  cases ao <;> kernel_rfl
set_option maxHeartbeats 1000000 in
theorem clone_nil (n c : Nat) (w : World) : Calls Tryz.prog 113 #[.slice none n c] w fun e w' => e = .returned (.slice none 0 0) ∧ w' = w := by
  have he := eql_slice
  go_enter Tryz.func113, Tryz.ntmps113
  go_wp2
  go_ret
  exact ⟨rfl, rfl⟩
set_option maxHeartbeats 1000000 in
theorem clone_some (a : Addr) (n c : Nat) (xs : List Value) (w : World) (hl : xs.length = n * 3) (hc : ∀ j u,xs[j]? = some u → w.cell? (a.add j) = some u) (h1 : ∀ u ∈ xs,u.oneCell' = true) (hn : n ≤ 64) :
    Calls Tryz.prog 113 #[.slice (some a) n c] w fun e w' => ∃ v,e = .returned v ∧ w'.ownsRow w.heap.size 82 3 v n xs ∧ Kept (fun _ => False) w w' := by
  have he := eql_slice
  obtain ⟨i0, hi0, hz0, hz1, hz2⟩ := info_parts info_Symbol
  go_enter Tryz.func113, Tryz.ntmps113
  have hown : (w.alloc (.cells #[] 82)).ownsRow w.heap.size 82 3 (.slice (some ⟨w.heap.size, 0, none⟩) 0 0) 0 [] := World.ownsRow_made w #[] 0 (Nat.le_refl _) (by simp) (by simp)
  have hnews : ∀ j u, xs[j]? = some u → (w.alloc (.cells #[] 82)).cell? (a.add j) = some u := fun j u hu => by
    have h := hc j u hu
    rw [Kept.cell ((Kept.refl (fun _ => False) w).alloc _) (World.block_lt_of_cell? w _ h) (fun f => f)]
    exact h
  have b1 : 0 + n ≤ maxLen := by unfold maxLen; omega
  have b2 : (0 + n) * 32 ≤ 140737488355328 := by omega
  have b3 : w.heap.size ≤ (w.alloc (.cells #[] 82)).heap.size := by simp
  go_wp2_with (first | (at_builtin; refine wpList_append_own _ rfl _ _ 36 rfl w.heap.size 82 i0 _ 3 32 Tryz.underlying36 hi0 hz0 hz1 hz2 rfl (by omega) (.slice (some ⟨w.heap.size, 0, none⟩) 0 0) 0 [] rfl hown a n c xs rfl hl hnews h1 b1 b2 b3 ?_; intro v' w1 hown1 hgrow _))
  go_ret
  refine ⟨v', rfl, by simpa using hown1, ?_⟩
  exact Kept.grown (Kept.alloc (Kept.refl _ w) _) hgrow (fun k e hk => by simp only [Value.ownBlock, Option.some.injEq] at e; omega)
theorem clone_any {w : World} {v : Value} {L : List Sym} {base : Nat} (hr : w.ownsRow base 82 3 v L.length (symCells L)) (hn : L.length ≤ 64) :
    Calls Tryz.prog 113 #[v] w fun e w' => ∃ v', e = .returned v' ∧ w'.ownsRow w.heap.size 82 3 v' L.length (symCells L) ∧ Kept (fun _ => False) w w' := by
  rcases hr.2 with ⟨rfl, h0⟩ | ⟨g, cap, cur, rfl, _⟩
  · refine (clone_nil 0 0 w).mono ?_
    rintro e w' ⟨rfl, rfl⟩
    obtain rfl : L = [] := List.eq_nil_of_length_eq_zero h0
    exact ⟨_, rfl, World.ownsRow_nil _ _ _ _, Kept.refl _ _⟩
  · exact clone_some _ _ _ _ w (symCells_length L) (hr.cells rfl) (by
      intro u hu
      simp only [symCells, List.mem_flatMap] at hu
      obtain ⟨x, _, hx⟩ := hu
      simp at hx
      rcases hx with rfl | rfl | rfl <;> rfl) hn
theorem run_typeAssert_map (t xT k e : TypeId) (v : Value) (w : World) (h : Tryz.prog.underlying t = some (.map k e)) : (Instr.typeAssert (.iface t v) xT t false).run Tryz.prog w = .ok v w := by
  simp [Instr.typeAssert, run_underlying h, go_sem, Result.andThen]
theorem run_mclone {r : Nat} {es : Array MapEntry} {clock : Nat} (t : TypeId) (w : World) (hb : w.heap[r]? = some (.map es clock)) :
    (Extern.MapsClone.clone #[.iface t (.map (some r))]).run Tryz.prog w = .ok (.iface t (.map (some w.heap.size))) (w.alloc (.map es clock)) := by
  refine (Sem.run_bind _ _ _ _).trans ?_
  simp [MapKept.run_getObj_map hb, Result.andThen, go_sem]
set_option maxHeartbeats 2000000 in
theorem mclone_some (b : Nat) (es : Array MapEntry) (clock : Nat) (w : World) (hb : w.heap[b]? = some (.map es clock)) :
    Calls Tryz.prog 114 #[.map (some b)] w fun e w' => e = .returned (.map (some w.heap.size)) ∧ w' = w.alloc (.map es clock) := by
  have hq := fun w => eql_map (some b) w
  go_enter Tryz.func114, Tryz.ntmps114
  go_wp2
  rw [run_callFunc_extern Tryz.func152 (by kernel_rfl) (by kernel_rfl) (by kernel_rfl) (e := Extern.MapsClone.clone) (by kernel_rfl), run_mclone 143 w hb]
  simp only [Result.andThen]
  rw [Oper.upon_value]
  go_wp2
  rw [run_typeAssert_map 143 _ _ _ _ _ Tryz.underlying143]
  simp only [Result.andThen]
  rw [Oper.upon_value]
  go_wp2
  go_ret
  exact ⟨rfl, rfl⟩
set_option maxHeartbeats 2000000 in
theorem mclone_nil (w : World) : Calls Tryz.prog 114 #[.map none] w fun e w' => e = .returned (.map none) ∧ w' = w := by
  have hq := fun w => eql_map none w
  go_enter Tryz.func114, Tryz.ntmps114
  go_wp2
  go_ret
  exact ⟨rfl, rfl⟩
theorem mclone_any {w : World} {mr : Option Nat} {L : List Sym} (h : MapIs w mr L) :
    Calls Tryz.prog 114 #[.map mr] w fun e w' => ∃ mr', e = .returned (.map mr') ∧ MapIs w' mr' L ∧ (∀ k,mr' = some k → k = w.heap.size ∧ w.heap.size < w'.heap.size) ∧ Kept (fun _ => False) w w' := by
  cases mr with
  | none =>
    refine (mclone_nil w).mono ?_
    rintro e w' ⟨rfl, rfl⟩
    exact ⟨none, rfl, h, by simp, Kept.refl _ _⟩
  | some bm =>
    obtain ⟨n, D, ⟨es, clock, hb, hF⟩, hn, hall⟩ := h
    refine (mclone_some bm es clock w hb).mono ?_
    rintro e w' ⟨rfl, rfl⟩
    exact ⟨some w.heap.size, rfl, ⟨n, D, ⟨es, clock, heap_alloc_new w _, hF⟩, hn, hall⟩, fun k e => ⟨by simpa using e.symm, by simp⟩, Kept.alloc (Kept.refl _ w) _⟩
theorem SigAt.c0 {w : World} {b : Nat} {L : List Sym} {sv : Value} {mr : Option Nat} (h : SigAt w b L sv mr) : w.cell? ⟨b,0,none⟩ = some sv := cellAt h.blk 0
theorem SigAt.c1 {w : World} {b : Nat} {L : List Sym} {sv : Value} {mr : Option Nat} (h : SigAt w b L sv mr) : w.cell? ⟨b,1,none⟩ = some (.map mr) := cellAt h.blk 1
def Copied (w : World) (L : List Sym) (b' : Nat) (w' : World) : Prop := ∃ sv mr, SigAt w' b' L sv mr ∧ (∀ k, Foot b' sv mr k → w.heap.size ≤ k) ∧ Kept (fun _ => False) w w'
theorem copied_of {w w1 w2 : World} {L : List Sym} {v' : Value} {mr' : Option Nat} (hn : L.length ≤ 64) (hnm : ∀ x ∈ L,nameB x.name = true) (hr : w2.ownsRow w.heap.size 82 3 v' L.length (symCells L)) (hm : MapIs w2 mr' L) (hmk : ∀ k,mr' = some k → w.heap.size ≤ k ∧ k < w2.heap.size) (hk : Kept (fun _ => False) w w2) (_e : w1 = w2) :
    Copied w L w2.heap.size (w2.alloc (.cells #[v', .map mr'] 145)) := by
  have ha : Kept (fun _ => False) w2 (w2.alloc (.cells #[v', .map mr'] 145)) := Kept.alloc (Kept.refl _ _) _
  have hr' := ha.row hr (fun _ _ f => f)
  refine ⟨v', mr', ⟨heap_alloc_new w2 _, row_mono hr' (Nat.zero_le _), hm.kept ha (fun _ _ f => f), fun e => ?_, hn, hnm⟩, fun k hk' => ?_, hk.trans ha (fun _ _ f => f)⟩
  · have := (hr.lt _ e).2; omega
  · rcases hk' with e | e | e
    · have := hk.size; omega
    · exact (hr.lt k e).1
    · exact (hmk k e).1
set_option maxHeartbeats 2000000 in
theorem copy_any {w : World} {b : Nat} {L : List Sym} {sv : Value} {mr : Option Nat} (hs : SigAt w b L sv mr) :
    Calls Tryz.prog 78 #[.pointer (some ⟨b,0,none⟩)] w fun e w' => ∃ b', e = .returned (.pointer (some ⟨b', 0,none⟩)) ∧ b' < w'.heap.size ∧ Copied w L b' w' := by
  have hsD : SigAt w.drew b L sv mr := hs.kept (Kept.drew (Kept.refl (fun _ => False) w)) (fun _ _ f => f)
  have q0 := hs.c0
  have q1 := hs.c1
  have hlen := hs.len
  go_enter Tryz.func78, Tryz.ntmps78
  go_wp2_with fail
  go_region_with (first
    | (go_at_call 113; refine (clone_any (L := L) (base := 0) (by first | exact hsD.row | exact hsB.row) hlen).mono ?_; rintro e w1 ⟨v', rfl, hv', hkv⟩; obtain ⟨ao, cp, rfl⟩ := row_shape hv'; have hsA : SigAt w1 b L sv mr := (by first | exact hsB.kept hkv (fun _ _ f => f) | exact hsD.kept hkv (fun _ _ f => f)); have qa := hsA.c1)
    | (go_at_call 114; refine (mclone_any (L := L) (by first | exact hsD.map | exact hsA.map)).mono ?_; rintro e w2 ⟨mr', rfl, hm', hmk, hkm⟩; have hsB : SigAt w2 b L sv mr := (by first | exact hsA.kept hkm (fun _ _ f => f) | exact hsD.kept hkm (fun _ _ f => f)); have qb := hsB.c0))
  all_goals
    go_wp2
    go_ret
    exact ⟨_, rfl, by simp, copied_of hlen hs.names (hkm.row hv' (fun _ _ f => f)) hm' (fun k e => ⟨by have h1 := (hmk k e).1; have h2 := hkv.size; simp at h2; omega, by have h1 := hmk k e; omega⟩) ((Kept.drew (Kept.refl _ w)).trans (hkv.trans hkm (fun _ _ f => f)) (fun _ _ f => f)) rfl⟩
end Go.Proofs.YthamjjhioafkjaaGreat
namespace Go.Proofs.YthamjjhioafkjaaGreat
set_option maxRecDepth 100000
set_option linter.unusedVariables false
open Go.RowKit
attribute [local go_sem ↓] Go.wp_at_zero Go.wp_at_succ
set_option maxHeartbeats 2000000 in
theorem ssig_any {w : World} {b bs : Nat} {L : List Sym} {R : List Ru} {lv : Value} {vs : List Value} (h : StAt w b bs L R lv vs) :
    Calls Tryz.prog 43 #[.pointer (some ⟨b,0,none⟩)] w fun e w' => ∃ b', e = .returned (.pointer (some ⟨b', 0,none⟩)) ∧ b' < w'.heap.size ∧ Copied w L b' w' := by
  have c0 := cellAt h.blk 0
  obtain ⟨⟨sv, mr, hsg, _⟩, _⟩ := h.sig
  have C := copy_any hsg
  simp only [List.getElem?_toArray, List.getElem?_cons_zero] at c0
  clear h hsg
  go_enter Tryz.func43, Tryz.ntmps43
  go_wp2_with (first | (go_at_call 78; refine C.mono ?_; rintro e w1 ⟨b', rfl, hb, hc⟩))
  go_ret
  exact ⟨b', rfl, hb, hc⟩
end Go.Proofs.YthamjjhioafkjaaGreat
