import Derived.Test.YthamjjhioafkjaaGreatGCodeViews32
import Derived.Test.YthamjjhioafkjaaGreatGCodeViews29
import Derived.Test.YthamjjhioafkjaaGreatGCodeViews06
import Derived.Test.YthamjjhioafkjaaGreatGCodeViews25
import Derived.Test.YthamjjhioafkjaaGreatGCodeViews13
import Derived.Test.YthamjjhioafkjaaGreatGCodeViews26
namespace Go.Proofs.YthamjjhioafkjaaGreat
set_option maxRecDepth 100000
set_option linter.unusedVariables false
open Go.RowKit
attribute [local go_sem ↓] Go.wp_at_zero Go.wp_at_succ
abbrev zeroC : Value := .agg #[.int .i64 0, .int .i64 0, .slice none 0 0, .slice none 0 0]
def treeF (L : List Sym) (R : List Ru) (s : Nat) : Except Int (Tr 2001) := growF L 2001 (rootP L s) (rootR L R s)
def BldPost (L : List Sym) (R : List Ru) (n : Int) (w : World) (e : Ending) (w' : World) : Prop :=
  Same0 w w' ∧ if defB L n = true then
    (match treeF L R n.toNat with
    | .ok t => ∃ v, e = .returned (.tuple #[v, .nilIface]) ∧ CsB (fun b => w.heap.size ≤ b) w' 2001 v t
    | .error z => ∃ v, e = .returned (.tuple #[zeroC, v]) ∧ FltAt w' [(81, n), (82, z)] v)
  else ∃ v, e = .returned (.tuple #[zeroC, v]) ∧ FltAt w' [(80, 0)] v
theorem ptr_nil (b : Nat) (w : World) : (binOp .eql 39 (.pointer (some ⟨b,0,none⟩)) (.pointer none)).run Tryz.prog w = .ok (.bool false) w := by kernel_rfl
theorem kidsN_err {α : Type} {has : Nat → Bool} {g : Nat → Except Int α} {z : Int} : ∀ {k : Nat},kidsN has g k = .error z → ∃ j,g j = .error z
  | 0, h => by cases h
  | k + 1, h => by
    rw [kidsN] at h
    cases hk : kidsN has g k with
    | error e => rw [hk] at h; cases h; exact kidsN_err hk
    | ok l =>
      rw [hk] at h
      simp only at h
      split at h
      · cases hg : g k with
        | error e => rw [hg] at h; cases h; exact ⟨k, hg⟩
        | ok t => rw [hg] at h; cases h
      · cases h
theorem growF_err {L : List Sym} {z : Int} : ∀ {n : Nat} {P : List (List Int)} {R : List Rw},(∀ x ∈ R,0 ≤ x.1) → growF L n P R = .error z → 0 ≤ z
  | 0, P, R, hR, h => by rw [growF] at h; cases h; omega
  | n + 1, P, R, hR, h => by
    have hh : ¬ R.length = 0 → 0 ≤ (R.headD (0, [], [])).1 := fun h0 => by
      cases R with
      | nil => simp at h0
      | cons x r => exact hR x (List.mem_cons_self ..)
    by_cases h0 : R.length = 0
    · rw [growF_zero h0] at h; cases h
    · cases hp : partN R P.length with
      | some c =>
        rw [growF_branch h0 hp] at h
        unfold BrF at h
        cases hk : KidsF L n P R c L.length with
        | ok l => rw [hk] at h; cases h
        | error e =>
          rw [hk] at h
          cases h
          obtain ⟨j, hj⟩ := kidsN_err hk
          refine growF_err (fun x hx => ?_) hj
          obtain ⟨y, hy, rfl⟩ := List.mem_map.1 hx
          exact hR y (havR_mem hy).1
      | none =>
        by_cases h1 : R.length = 1
        · rw [growF_leaf h1 hp] at h; cases h
        · rw [growF_fork h0 h1 hp] at h; cases h; exact hh h0
set_option maxHeartbeats 16000000 in
theorem build_any {w : World} {b bs : Nat} {L : List Sym} {R : List Ru} {lv : Value} {vs : List Value} (h : StAt w b bs L R lv vs) (n : Int) :
    Calls Tryz.prog 34 #[.pointer (some ⟨b,0,none⟩),.int .i64 n] w (BldPost L R n w) := by
  have hpn := ptr_nil
  have hle := h.le
  have hok := h.ok
  obtain ⟨W1, hW1⟩ : ∃ W1, W1 = ((w.alloc (.cells #[.int .i64 n] 3)).alloc zeroCs).alloc (.cells #[.nilIface] 47) := ⟨_, rfl⟩
  have KW : Same0 w W1 := by rw [hW1]; exact (((Kept.refl _ w).alloc _).alloc _).alloc _
  have ez : W1.heap.size = w.heap.size + 1 + 1 + 1 := by rw [hW1]; simp
  have BK : Hid (∀ ww, Same0 W1 ww → ww.heap[w.heap.size]? = some (.cells #[.int .i64 n] 3 (0, 0)) ∧ ww.heap[w.heap.size + 1]? = some (.cells #[.int .i64 0, .int .i64 0, .slice none 0 0, .slice none 0 0] 26 (0, 0)) ∧ ww.heap[w.heap.size + 1 + 1]? = some (.cells #[.nilIface] 47 (0, 0))) := fun ww hk => by
    have k1 : Same0 (w.alloc (.cells #[.int .i64 n] 3)) W1 := by rw [hW1]; exact ((Kept.refl _ _).alloc _).alloc _
    have k2 : Same0 ((w.alloc (.cells #[.int .i64 n] 3)).alloc zeroCs) W1 := by rw [hW1]; exact (Kept.refl _ _).alloc _
    have h3 := heap_al_al (w.alloc (.cells #[.int .i64 n] 3)) zeroCs (.cells #[.nilIface] 47)
    rw [World.size_alloc] at h3
    exact ⟨hk.at0 (k1.at0 (heap_alloc_new w _)), hk.at0 (k2.at0 (heap_al_al _ _ _)), hk.at0 (by rw [hW1]; exact h3)⟩
  have RC : Hid (∀ ww, Same0 W1 ww → ww.cell? ⟨w.heap.size, 0, none⟩ = some (.int .i64 n) ∧ (ww.cell? ⟨w.heap.size + 1, 0, none⟩ = some (.int .i64 0) ∧ ww.cell? ⟨w.heap.size + 1, 1, none⟩ = some (.int .i64 0) ∧ ww.cell? ⟨w.heap.size + 1, 2, none⟩ = some (.slice none 0 0) ∧ ww.cell? ⟨w.heap.size + 1, 3, none⟩ = some (.slice none 0 0)) ∧ (ww.frozen? ⟨w.heap.size + 1, 0, none⟩ = false ∧ ww.frozen? ⟨w.heap.size + 1, 1, none⟩ = false ∧ ww.frozen? ⟨w.heap.size + 1, 2, none⟩ = false ∧ ww.frozen? ⟨w.heap.size + 1, 3, none⟩ = false) ∧ ww.cell? ⟨w.heap.size + 1 + 1, 0, none⟩ = some .nilIface ∧ ww.frozen? ⟨w.heap.size + 1 + 1, 0, none⟩ = false) := fun ww hk => by
    obtain ⟨h1, h2, h3⟩ := BK.out ww hk
    exact ⟨cellAt h1 0, ⟨cellAt h2 0, cellAt h2 1, cellAt h2 2, cellAt h2 3⟩, ⟨frozenAt h2 0, frozenAt h2 1, frozenAt h2 2, frozenAt h2 3⟩, cellAt h3 0, frozenAt h3 0⟩
  have CS : Hid (∀ ww, Same0 w ww → Calls Tryz.prog 43 #[.pointer (some ⟨b, 0, none⟩)] ww fun e w' => ∃ bt, e = .returned (.pointer (some ⟨bt, 0, none⟩)) ∧ Hid (Sg w'.heap.size w' bt L) ∧ Same0 ww w') := fun ww hk => by
    refine (ssig_any (h.same hk)).mono ?_
    rintro e w' ⟨bt, rfl, hb, sv, mr, h1, h2, h3⟩
    exact ⟨bt, rfl, ⟨⟨sv, mr, h1, fun k hk => sig_foot_lt h1 k hk⟩, h.sig.2⟩, h3⟩
  have HST : Hid (∀ ww, Same0 w ww → StAt ww b bs L R lv vs) := fun ww hk => h.same hk
  have PUT : Hid (∀ ww x0 x1 x2 x3 y, Same0 W1 ww → ((((((ww.setCell ⟨w.heap.size + 1, 0, none⟩ x0).setCell ⟨w.heap.size + 1, 1, none⟩ x1).setCell ⟨w.heap.size + 1, 2, none⟩ x2).setCell ⟨w.heap.size + 1, 3, none⟩ x3).setCell ⟨w.heap.size + 1 + 1, 0, none⟩ y)).cell? ⟨w.heap.size + 1, 0, none⟩ = some x0 ∧ ((((((ww.setCell ⟨w.heap.size + 1, 0, none⟩ x0).setCell ⟨w.heap.size + 1, 1, none⟩ x1).setCell ⟨w.heap.size + 1, 2, none⟩ x2).setCell ⟨w.heap.size + 1, 3, none⟩ x3).setCell ⟨w.heap.size + 1 + 1, 0, none⟩ y)).cell? ⟨w.heap.size + 1, 1, none⟩ = some x1 ∧ ((((((ww.setCell ⟨w.heap.size + 1, 0, none⟩ x0).setCell ⟨w.heap.size + 1, 1, none⟩ x1).setCell ⟨w.heap.size + 1, 2, none⟩ x2).setCell ⟨w.heap.size + 1, 3, none⟩ x3).setCell ⟨w.heap.size + 1 + 1, 0, none⟩ y)).cell? ⟨w.heap.size + 1, 2, none⟩ = some x2 ∧ ((((((ww.setCell ⟨w.heap.size + 1, 0, none⟩ x0).setCell ⟨w.heap.size + 1, 1, none⟩ x1).setCell ⟨w.heap.size + 1, 2, none⟩ x2).setCell ⟨w.heap.size + 1, 3, none⟩ x3).setCell ⟨w.heap.size + 1 + 1, 0, none⟩ y)).cell? ⟨w.heap.size + 1, 3, none⟩ = some x3 ∧ ((((((ww.setCell ⟨w.heap.size + 1, 0, none⟩ x0).setCell ⟨w.heap.size + 1, 1, none⟩ x1).setCell ⟨w.heap.size + 1, 2, none⟩ x2).setCell ⟨w.heap.size + 1, 3, none⟩ x3).setCell ⟨w.heap.size + 1 + 1, 0, none⟩ y)).cell? ⟨w.heap.size + 1 + 1, 0, none⟩ = some y ∧ Kept (fun q => q = w.heap.size + 1 ∨ q = w.heap.size + 1 + 1) ww ((((((ww.setCell ⟨w.heap.size + 1, 0, none⟩ x0).setCell ⟨w.heap.size + 1, 1, none⟩ x1).setCell ⟨w.heap.size + 1, 2, none⟩ x2).setCell ⟨w.heap.size + 1, 3, none⟩ x3).setCell ⟨w.heap.size + 1 + 1, 0, none⟩ y)) ∧ Same0 w ((((((ww.setCell ⟨w.heap.size + 1, 0, none⟩ x0).setCell ⟨w.heap.size + 1, 1, none⟩ x1).setCell ⟨w.heap.size + 1, 2, none⟩ x2).setCell ⟨w.heap.size + 1, 3, none⟩ x3).setCell ⟨w.heap.size + 1 + 1, 0, none⟩ y))) := by
    intro ww x0 x1 x2 x3 y hk
    obtain ⟨h1, h2, h3⟩ := BK.out ww hk
    have s3 := setAt (setAt (setAt (setAt h2 0 x0) 1 x1) 2 x2) 3 x3
    have k1 := Kept.setCell (p := ⟨w.heap.size + 1, 0, none⟩) (Kept.refl (fun q => q = w.heap.size + 1) ww) (fun _ => rfl) x0
    have k2 := Kept.setCell (p := ⟨w.heap.size + 1, 1, none⟩) k1 (fun _ => rfl) x1
    have k3 := Kept.setCell (p := ⟨w.heap.size + 1, 2, none⟩) k2 (fun _ => rfl) x2
    have k4 := Kept.setCell (p := ⟨w.heap.size + 1, 3, none⟩) k3 (fun _ => rfl) x3
    have h3' := k4.at h3 (fun e => by omega)
    have s4 := setAt h3' 0 y
    have k5 := Kept.setCell (p := ⟨w.heap.size + 1 + 1, 0, none⟩) (Kept.refl (fun q => q = w.heap.size + 1 + 1) ((((ww.setCell ⟨w.heap.size + 1, 0, none⟩ x0).setCell ⟨w.heap.size + 1, 1, none⟩ x1).setCell ⟨w.heap.size + 1, 2, none⟩ x2).setCell ⟨w.heap.size + 1, 3, none⟩ x3)) (fun _ => rfl) y
    have s3' := k5.at s3 (fun e => by omega)
    have kk : Kept (fun q => q = w.heap.size + 1 ∨ q = w.heap.size + 1 + 1) ww ((((((ww.setCell ⟨w.heap.size + 1, 0, none⟩ x0).setCell ⟨w.heap.size + 1, 1, none⟩ x1).setCell ⟨w.heap.size + 1, 2, none⟩ x2).setCell ⟨w.heap.size + 1, 3, none⟩ x3).setCell ⟨w.heap.size + 1 + 1, 0, none⟩ y)) := Kept.trans (k4.mono (fun _ _ e => .inl e)) k5 (fun _ _ e => .inr e)
    exact ⟨cellAt s3' 0, cellAt s3' 1, cellAt s3' 2, cellAt s3' 3, cellAt s4 0, kk, Kept.trans (KW.trans' hk) kk (fun i hi e => by omega)⟩
  clear h
  have C1 := CS.out W1 KW
  cases hd : defB L n with
  | false =>
    have FIN : Hid (∀ ww v, Same0 w ww → FltAt ww [(80, 0)] v → BldPost L R n w (.returned (.tuple #[zeroC, v])) ww) := fun ww v hk hf => ⟨hk, by rw [hd]; exact ⟨v, rfl, hf⟩⟩
    have CD : Hid (∀ ww bt, Same0 W1 ww → Sg ww.heap.size ww bt L → Calls Tryz.prog 62 #[.pointer (some ⟨bt, 0, none⟩), .int .i64 n] ww fun e w' => e = .returned (.bool false) ∧ Same0 ww w') := fun ww bt hk hs => by rw [← hd]; exact tdef_any hs n
    clear hd
    go_enter Tryz.func34, Tryz.ntmps34
    go_upto_region 1 with fail
    rw [← hW1]
    clear hW1
    go_upto_region 4 with (first | (go_at_call 43; refine C1.mono ?_; rintro e w2 ⟨bt, rfl, hs2, k2⟩))
    obtain ⟨r0, _⟩ := RC.out w2 k2
    have C2 := CD.out w2 bt k2 hs2.out
    go_upto_region 5 with (first | (go_at_call 62; refine C2.mono ?_; rintro e w3 ⟨rfl, k3⟩))
    have k13 := k2.trans' k3
    have ka : Same0 W1 (w3.alloc (.cells #[.int .i64 80, .int .i64 0, .nilIface] 108)) := Kept.alloc k13 _
    obtain ⟨_, ⟨q0, q1, q2, q3⟩, ⟨f0, f1, f2, f3⟩, q4, f4⟩ := RC.out _ ka
    have PP := PUT.out _ (.int .i64 0) (.int .i64 0) (.slice none 0 0) (.slice none 0 0) (.iface 106 (.pointer (some ⟨w3.heap.size, 0, none⟩))) ka
    have PH : Hid _ := PP
    clear PP
    go_wp2_with fail
    obtain ⟨g0, g1, g2, g3, g4, kk, ks⟩ := PH.out
    have hf := kk.at (heap_alloc_new w3 _) (fun e => by have := k13.size; omega)
    exact bodyPost_ret (v := .tuple #[zeroC, .iface 106 (.pointer (some ⟨w3.heap.size, 0, none⟩))]) (by simp [results, Tryz.results34, go_sem, g0, g1, g2, g3, g4]) rfl (FIN.out _ _ ks (.inr ⟨by omega, _, _, rfl, hf, rfl⟩))
  | true =>
    obtain ⟨s, hs, rfl⟩ : ∃ s : Nat, s < L.length ∧ n = (s : Int) := by
      by_cases hx : n < 0 ∨ (L.length : Int) ≤ n
      · rw [defB_no hx] at hd; cases hd
      · exact ⟨n.toNat, by omega, by omega⟩
    have CD : Hid (∀ ww bt, Same0 W1 ww → Sg ww.heap.size ww bt L → Calls Tryz.prog 62 #[.pointer (some ⟨bt, 0, none⟩), .int .i64 (s : Int)] ww fun e w' => e = .returned (.bool true) ∧ Same0 ww w') := fun ww bt hk hs => by rw [← hd]; exact tdef_any hs _
    have CR : Hid (∀ ww bt, Same0 W1 ww → Sg ww.heap.size ww bt L → Calls Tryz.prog 65 #[.pointer (some ⟨bt, 0, none⟩), .pointer (some ⟨b, 0, none⟩), .int .i64 (s : Int)] ww fun e w' => ∃ po pc ro rc, e = .returned (.agg #[.pointer (some ⟨bt, 0, none⟩), .slice po (rootP L s).length pc, .slice ro (rootR L R s).length rc]) ∧ Hid (NdIn w' L 2001 bt po pc (rootP L s) ro (rootR L R s)) ∧ Same0 ww w') := fun ww bt hk hg => rootOf_any hg (HST.out ww (KW.trans' hk)) hs
    have CG : Hid (∀ ww bt po pc ro rc, NdIn ww L 2001 bt po pc (rootP L s) ro (rootR L R s) → Calls Tryz.prog 66 #[.agg #[.pointer (some ⟨bt, 0, none⟩), .slice po (rootP L s).length pc, .slice ro (rootR L R s).length rc]] ww (TreeOut ww (treeF L R s))) := fun ww bt po pc ro rc hi => tgrow_any L 2001 ww bt po pc _ ro rc _ hi
    cases ht : treeF L R s with
    | ok t =>
      rw [ht] at CG
      have CG2 : Hid (∀ ww bt po pc ro rc, NdIn ww L 2001 bt po pc (rootP L s) ro (rootR L R s) → Calls Tryz.prog 66 #[.agg #[.pointer (some ⟨bt, 0, none⟩), .slice po (rootP L s).length pc, .slice ro (rootR L R s).length rc]] ww fun e w' => ∃ tk tr tpo tpl tpc tko tkl tkc, e = .returned (.agg #[.int .i64 tk, .int .i64 tr, .slice tpo tpl tpc, .slice tko tkl tkc]) ∧ Hid (CsB (fun b => ww.heap.size ≤ b) w' 2001 (.agg #[.int .i64 tk, .int .i64 tr, .slice tpo tpl tpc, .slice tko tkl tkc]) t) ∧ Same0 ww w') := fun ww bt po pc ro rc hi => by
        refine (CG.out ww bt po pc ro rc hi).mono ?_
        rintro e w' ⟨v, rfl, h1, h2⟩
        obtain ⟨tk, tr, tpo, tpl, tpc, tko, tkl, tkc, rfl⟩ := h1.shape
        exact ⟨tk, tr, tpo, tpl, tpc, tko, tkl, tkc, rfl, h1, h2⟩
      have FIN : Hid (∀ ww v, Same0 w ww → CsB (fun b => w.heap.size ≤ b) ww 2001 v t → BldPost L R (s : Int) w (.returned (.tuple #[v, .nilIface])) ww) := fun ww v hk hf => ⟨hk, by rw [if_pos hd]; simp only [Int.toNat_natCast]; rw [ht]; exact ⟨v, rfl, hf⟩⟩
      clear hd CG ht
      go_enter_defers Tryz.func34, Tryz.ntmps34
      go_upto_region 1 with fail
      rw [← hW1]
      clear hW1
      go_upto_region 4 with (first | (go_at_call 43; refine C1.mono ?_; rintro e w2 ⟨bt, rfl, hs2, k2⟩))
      obtain ⟨r0, _⟩ := RC.out w2 k2
      have C2 := CD.out w2 bt k2 hs2.out
      go_upto_region 7 with (first | (go_at_call 62; refine C2.mono ?_; rintro e w3 ⟨rfl, k3⟩))
      have k13 := k2.trans' k3
      obtain ⟨r3, _⟩ := RC.out w3 k13
      have C3 := CR.out w3 bt k13 (sg_up (hs2.out.same k3) k3.size)
      go_wp2_with (first
        | (go_at_call 65; refine C3.mono ?_; rintro e w4 ⟨po, pc, ro, rc, rfl, hi, k4⟩; have C4 := CG2.out w4 bt po pc ro rc hi.out)
        | (go_at_call 66; refine C4.mono ?_; rintro e w5 ⟨tk, tr, tpo, tpl, tpc, tko, tkl, tkc, rfl, hcs, k5⟩; have k15 := (k13.trans' k4).trans' k5; obtain ⟨_, ⟨q0, q1, q2, q3⟩, ⟨f0, f1, f2, f3⟩, q4, f4⟩ := RC.out _ k15))
      have PH : Hid _ := PUT.out w5 (.int .i64 tk) (.int .i64 tr) (.slice tpo tpl tpc) (.slice tko tkl tkc) .nilIface k15
      refine leaves_cons (f := 63) (args := #[.pointer (some ⟨w.heap.size, 0, none⟩), .pointer (some ⟨w.heap.size + 1 + 1, 0, none⟩)]) (by simp) (by simp [go_sem]) ?_
      refine (catch_none _).mono ?_
      rintro e u' w'' ⟨rfl, rfl, rfl⟩
      obtain ⟨g0, g1, g2, g3, g4, kk, ks⟩ := PH.out
      have z4 := (k13.trans' k4).size
      simp [Leaves, settle, results, Tryz.results34, go_sem, g0, g1, g2, g3, g4]
      exact FIN.out _ _ ks (CsB.mono (fun b hb q => by have : w4.heap.size ≤ b := q; omega) (CsB.kept kk (fun b q e => by have : w4.heap.size ≤ b := q; omega) hcs.out))
    | error z =>
      rw [ht] at CG
      have hz : 0 ≤ z := by
        refine growF_err (fun x hx => ?_) ht
        obtain ⟨y, hy, rfl⟩ := List.mem_map.1 hx
        obtain ⟨j, hj, rfl, _⟩ := rows_fact hok hy
        show (0 : Int) ≤ (j : Int)
        omega
      have CG2 : Hid (∀ ww bt po pc ro rc, NdIn ww L 2001 bt po pc (rootP L s) ro (rootR L R s) → Calls Tryz.prog 66 #[.agg #[.pointer (some ⟨bt, 0, none⟩), .slice po (rootP L s).length pc, .slice ro (rootR L R s).length rc]] ww fun e w' => ∃ k, e = .panicked [{ v := .iface 106 (.pointer (some ⟨k, 0, none⟩)), recovered := false }] ∧ Hid (w'.heap[k]? = some (.cells #[.int .i64 82, .int .i64 z, .nilIface] 108 (0, 0))) ∧ Same0 ww w') := fun ww bt po pc ro rc hi => by
        refine (CG.out ww bt po pc ro rc hi).mono ?_
        rintro e w' ⟨⟨k, h1, h2⟩, h3⟩
        exact ⟨k, h1, h2, h3⟩
      have FIN : Hid (∀ ww v, Same0 w ww → FltAt ww [(81, (s : Int)), (82, z)] v → BldPost L R (s : Int) w (.returned (.tuple #[zeroC, v])) ww) := fun ww v hk hf => ⟨hk, by rw [if_pos hd]; simp only [Int.toNat_natCast]; rw [ht]; exact ⟨v, rfl, hf⟩⟩
      clear hd CG ht
      go_enter_defers Tryz.func34, Tryz.ntmps34
      go_upto_region 1 with fail
      rw [← hW1]
      clear hW1
      go_upto_region 4 with (first | (go_at_call 43; refine C1.mono ?_; rintro e w2 ⟨bt, rfl, hs2, k2⟩))
      obtain ⟨r0, _⟩ := RC.out w2 k2
      have C2 := CD.out w2 bt k2 hs2.out
      go_upto_region 7 with (first | (go_at_call 62; refine C2.mono ?_; rintro e w3 ⟨rfl, k3⟩))
      have k13 := k2.trans' k3
      obtain ⟨r3, _⟩ := RC.out w3 k13
      have C3 := CR.out w3 bt k13 (sg_up (hs2.out.same k3) k3.size)
      go_wp2_with (first
        | (go_at_call 65; refine C3.mono ?_; rintro e w4 ⟨po, pc, ro, rc, rfl, hi, k4⟩; have C4 := CG2.out w4 bt po pc ro rc hi.out)
        | (go_at_call 66; refine C4.mono ?_; rintro e w5 ⟨k, rfl, hk, k5⟩))
      have k15 := (k13.trans' k4).trans' k5
      obtain ⟨x0, ⟨q0, q1, q2, q3⟩, ⟨f0, f1, f2, f3⟩, q4, f4⟩ := RC.out _ k15
      obtain ⟨b1, b2, b3⟩ := BK.out w5 k15
      refine leaves_cons (f := 63) (args := #[.pointer (some ⟨w.heap.size, 0, none⟩), .pointer (some ⟨w.heap.size + 1 + 1, 0, none⟩)]) (by simp) (by simp [go_sem]) ?_
      refine (catch_fork k w5 x0 b3 (by omega)).mono ?_
      rintro e u' w6 ⟨rfl, rfl, q, h1, h2, k6⟩
      have b2' := k6.at b2 (fun e => by omega)
      have g0 := cellAt b2' 0
      have g1 := cellAt b2' 1
      have g2 := cellAt b2' 2
      have g3 := cellAt b2' 3
      have g4 := cellAt h2 0
      simp only [List.getElem?_toArray, List.getElem?_cons_zero, List.getElem?_cons_succ] at g0 g1 g2 g3 g4
      have hk6 := k6.at hk.out (fun e => by subst e; have := hk.out; rw [b3] at this; cases this)
      have ks : Same0 w w6 := Kept.trans (KW.trans' k15) k6 (fun i hi e => by omega)
      simp [Leaves, settle, results, Tryz.results34, go_sem, g0, g1, g2, g3, g4]
      exact FIN.out _ _ ks (.inr ⟨by omega, q, _, rfl, h1, .inr ⟨by omega, k, _, rfl, hk6, rfl⟩⟩)
end Go.Proofs.YthamjjhioafkjaaGreat
namespace Go.Proofs.YthamjjhioafkjaaGreat
set_option maxRecDepth 100000
set_option linter.unusedVariables false
open Go.RowKit
attribute [local go_sem ↓] Go.wp_at_zero Go.wp_at_succ
theorem sameB_self (p : List Int) : sameB p p = true := by simp [sameB]
set_option maxHeartbeats 2000000 in
theorem fsame_any {w : World} {k r nd : Int} {p : List Int} {po po' : Option Addr} {pc pc' : Nat} (ha : IntsAt w po p) (hb : IntsAt w po' p) (hl : p.length ≤ maxLen) :
    Calls Tryz.prog 26 #[.agg #[.int .i64 k,.int .i64 r,.slice po p.length pc,.int .i64 nd],.agg #[.int .i64 k,.int .i64 r,.slice po' p.length pc', .int .i64 nd]] w fun e w' => e = .returned (.bool true) ∧ Same0 w w' := by
  obtain ⟨W1, hW1⟩ : ∃ W1, W1 = (w.alloc (.cells #[.int .i64 k, .int .i64 r, .slice po p.length pc, .int .i64 nd] 73)).alloc (.cells #[.int .i64 k, .int .i64 r, .slice po' p.length pc', .int .i64 nd] 73) := ⟨_, rfl⟩
  have KW : Same0 w W1 := by rw [hW1]; exact ((Kept.refl _ w).alloc _).alloc _
  have BX : Hid (∀ ww, Same0 W1 ww → (ww.cell? ⟨w.heap.size, 0, none⟩ = some (.int .i64 k) ∧ ww.cell? ⟨w.heap.size, 1, none⟩ = some (.int .i64 r) ∧ ww.cell? ⟨w.heap.size, 2, none⟩ = some (.slice po p.length pc) ∧ ww.cell? ⟨w.heap.size, 3, none⟩ = some (.int .i64 nd)) ∧ ww.cell? ⟨w.heap.size + 1, 0, none⟩ = some (.int .i64 k) ∧ ww.cell? ⟨w.heap.size + 1, 1, none⟩ = some (.int .i64 r) ∧ ww.cell? ⟨w.heap.size + 1, 2, none⟩ = some (.slice po' p.length pc') ∧ ww.cell? ⟨w.heap.size + 1, 3, none⟩ = some (.int .i64 nd)) := fun ww hk => by
    have h1 := hk.at0 (show W1.heap[w.heap.size]? = _ by rw [hW1]; exact heap_alloc2_old _ _ _)
    have h2 := hk.at0 (show W1.heap[w.heap.size + 1]? = _ by rw [hW1]; exact heap_al_al _ _ _)
    exact ⟨⟨cellAt h1 0, cellAt h1 1, cellAt h1 2, cellAt h1 3⟩, cellAt h2 0, cellAt h2 1, cellAt h2 2, cellAt h2 3⟩
  have CP := same_any (acap := pc) (bcap := pc') (ha.same KW) (hb.same KW) hl
  rw [sameB_self] at CP
  obtain ⟨⟨x0, x1, x2, x3⟩, y0, y1, y2, y3⟩ := BX.out W1 (Kept.refl _ _)
  have ek : (k == k) = true := by simp
  have er : (r == r) = true := by simp
  have en : (nd == nd) = true := by simp
  clear ha hb
  go_enter Tryz.func26, Tryz.ntmps26
  go_upto_region 1 with fail
  rw [← hW1]
  clear hW1
  go_upto_region 2 with (first | (go_at_call 39; refine CP.mono ?_; rintro e w2 ⟨rfl, k2⟩))
  obtain ⟨⟨u0, u1, u2, u3⟩, v0, v1, v2, v3⟩ := BX.out w2 k2
  clear x0 x1 x2 x3 y0 y1 y2 y3 CP
  go_wp2_with fail
  go_ret
  exact ⟨by simp, KW.trans' k2⟩
end Go.Proofs.YthamjjhioafkjaaGreat
namespace Go.Proofs.YthamjjhioafkjaaGreat
set_option maxRecDepth 100000
set_option linter.unusedVariables false
open Go.RowKit
attribute [local go_sem ↓] Go.wp_at_zero Go.wp_at_succ
end Go.Proofs.YthamjjhioafkjaaGreat
namespace Go.Proofs.YthamjjhioafkjaaGreat
set_option maxRecDepth 100000
set_option linter.unusedVariables false
open Go.RowKit
attribute [local go_sem ↓] Go.wp_at_zero Go.wp_at_succ
end Go.Proofs.YthamjjhioafkjaaGreat
namespace Go.Proofs.YthamjjhioafkjaaGreat
set_option maxRecDepth 100000
set_option linter.unusedVariables false
open Go.RowKit
attribute [local go_sem ↓] Go.wp_at_zero Go.wp_at_succ
theorem nm8_z : nameB ⟨#[122]⟩ = true := by decide +kernel
theorem nm8_s : nameB ⟨#[115]⟩ = true := by decide +kernel
theorem nm8_add : nameB ⟨#[97,100,100]⟩ = true := by decide +kernel
theorem nm8_h : nameB ⟨#[104]⟩ = true := by decide +kernel
def tree8 (n : Nat) : Tr (n + 1 + 1) := (2, 0, [0], [(0, ((1, 0, [], []) : Int × Int × List Int × List (Int × Tr n))), (1, ((1, 1, [], []) : Int × Int × List Int × List (Int × Tr n)))])
theorem SymsAt.same8 {w w' : World} {ao : Option Addr} {len : Nat} {xs : List Sym} (h : SymsAt w ao len xs) (hk : Same0 w w') : SymsAt w' ao len xs := by
  obtain ⟨h1, h2, h3⟩ := h
  refine ⟨h1, h2.imp id ?_, h3⟩
  rintro ⟨b, off, e, hb, hc⟩
  refine ⟨b, off, e, Nat.lt_of_lt_of_le hb hk.size, fun i hi => ?_⟩
  obtain ⟨c1, c2, c3⟩ := hc i hi
  exact ⟨(hk.cell (p := ⟨b, _, none⟩) hb (fun f => f)).trans c1, (hk.cell (p := ⟨b, _, none⟩) hb (fun f => f)).trans c2, (hk.cell (p := ⟨b, _, none⟩) hb (fun f => f)).trans c3⟩
end Go.Proofs.YthamjjhioafkjaaGreat
namespace Go.Proofs.YthamjjhioafkjaaGreat
set_option maxRecDepth 100000
set_option linter.unusedVariables false
open Go.RowKit
attribute [local go_sem ↓] Go.wp_at_zero Go.wp_at_succ
theorem cvar_any (x : Int) (w : World) : Calls Tryz.prog 54 #[.int .i64 x] w fun e w' => e = .returned (.bool (decide (x < 0))) ∧ w' = w := by
  go_enter Tryz.func54, Tryz.ntmps54
  go_wp2
  go_ret
  exact ⟨rfl, rfl⟩
def idxB (n : Int) (m : Nat) : Bool := decide (0 ≤ n) && decide (n < (m : Int))
theorem isIndex_any (n : Int) (m : Nat) (w : World) : Calls Tryz.prog 49 #[.int .i64 n,.int .i64 (m : Int)] w fun e w' => e = .returned (.bool (idxB n m)) ∧ w' = w := by
  by_cases h : 0 ≤ n
  · have H : Hid (idxB n m = decide (n < (m : Int))) := by show _ = _; simp [idxB, h]
    go_enter Tryz.func49, Tryz.ntmps49
    go_wp2
    go_ret
    exact ⟨by rw [H.out]; rfl, rfl⟩
  · have H : Hid (idxB n m = false) := by show _ = _; simp [idxB, h]
    go_enter Tryz.func49, Tryz.ntmps49
    go_wp2
    go_ret
    exact ⟨by rw [H.out]; rfl, rfl⟩
set_option maxHeartbeats 2000000 in
theorem indexf_cvar {w : World} {so : Option Addr} {sc : Nat} {t : List Int} (ht : IntsAt w so t) (hm : t.length ≤ maxLen) :
    Calls Tryz.prog 90 #[.slice so t.length sc,.func (.func 54) #[] #[]] w fun e w' => ∃ z : Int,e = .returned (.int .i64 z) ∧ FoundAt z (t.any (fun x => decide (x < 0))) ∧ w' = w := by
  have CV := cvar_any
  unfold maxLen at hm
  go_enter Tryz.func90, Tryz.ntmps90
  go_wp2
  go_loop [8] (fun i => ∃ k : Nat, k ≤ t.length ∧ i = .int .i64 (k : Int) ∧ Hid ((t.take k).any (fun x => decide (x < 0)) = false)) (fun i => t.length - (intOf i).toNat)
  case atStart => exact ⟨0, Nat.zero_le _, rfl, by show _ = _; simp⟩
  case round =>
    obtain ⟨k, hk, rfl, ha⟩ := hrel
    by_cases hlt : k < t.length
    · obtain ⟨tb, off, rfl, _, hc⟩ := ht.get hlt
      have i1 : (0 : Int) ≤ (k : Int) := by omega
      have i2 : (k : Int) < (t.length : Int) := by omega
      have C := CV t[k] w
      cases hq : decide (t[k] < 0) with
      | true =>
        have H : Hid (FoundAt (k : Int) (t.any (fun x => decide (x < 0)))) := by
          have e1 : t.any (fun x => decide (x < 0)) = true := List.any_eq_true.2 ⟨t[k], List.getElem_mem hlt, hq⟩
          show decide _ = _
          rw [e1]; simp
        rw [hq] at C
        clear hq ha CV
        go_wp2_with (first | (go_at_call 54; refine C.mono ?_; rintro e w2 ⟨rfl, rfl⟩))
        go_ret
        exact ⟨_, rfl, H.out, rfl⟩
      | false =>
        have H : Hid ((t.take (k + 1)).any (fun x => decide (x < 0)) = false) := by
          have e1 := ha.out
          show _ = _
          rw [List.take_add_one, List.getElem?_eq_getElem hlt, List.any_append, e1]
          simpa using hq
        rw [hq] at C
        clear hq ha CV
        go_wp2_with (first | (go_at_call 54; refine C.mono ?_; rintro e w2 ⟨rfl, rfl⟩))
        exact ⟨⟨k + 1, by omega, by go_num, H⟩, by simp [intOf]; omega⟩
    · have H : Hid (FoundAt (-1) (t.any (fun x => decide (x < 0)))) := by
        have := ha.out
        rw [List.take_of_length_le (by omega)] at this
        show decide _ = _
        rw [this]; rfl
      go_wp2
      go_ret
      exact ⟨_, rfl, H.out, rfl⟩
set_option maxHeartbeats 1000000 in
theorem containsf_cvar {w : World} {so : Option Addr} {sc : Nat} {t : List Int} (ht : IntsAt w so t) (hm : t.length ≤ maxLen) :
    Calls Tryz.prog 53 #[.slice so t.length sc,.func (.func 54) #[] #[]] w fun e w' => e = .returned (.bool (t.any (fun x => decide (x < 0)))) ∧ w' = w := by
  have C := indexf_cvar (sc := sc) ht hm
  clear ht
  generalize t.any (fun x => decide (x < 0)) = z at *
  go_enter Tryz.func53, Tryz.ntmps53
  go_wp2_with (first | (go_at_call 90; refine C.mono ?_; rintro e w2 ⟨z', rfl, hz, rfl⟩))
  go_ret
  exact ⟨ret_bool (FoundAt.eq hz), rfl⟩
end Go.Proofs.YthamjjhioafkjaaGreat
namespace Go.Proofs.YthamjjhioafkjaaGreat
set_option maxRecDepth 100000
set_option linter.unusedVariables false
open Go.RowKit
attribute [local go_sem ↓] Go.wp_at_zero Go.wp_at_succ
def argsL (L : List Sym) (T : List Int) : List (List Int) := (List.range T.length).map (fun q => ofN (argsN L T q))
theorem argsL_length (L : List Sym) (T : List Int) : (argsL L T).length = T.length := by simp [argsL]
theorem argsL_at {L : List Sym} {T : List Int} {q : Nat} (h : q < (argsL L T).length) : (argsL L T)[q] = ofN (argsN L T q) := by simp [argsL]
def PsB (base : Nat) (w : World) (po : Option Addr) (P : List (List Int)) : Prop :=
  P = [] ∨ ∃ b off, po = some ⟨b, off, none⟩ ∧ base ≤ b ∧ b < w.heap.size ∧ ∀ i (h : i < P.length), ∃ ao ac, w.cell? ⟨b, off + i, none⟩ = some (.slice ao P[i].length ac) ∧ IntsAt w ao P[i] ∧ ∀ a, ao = some a → base ≤ a.block
theorem PsB.kept {base : Nat} {w w' : World} {po : Option Addr} {P : List (List Int)} {S : Nat → Prop} (h : PsB base w po P) (hk : Kept S w w') (hS : ∀ k,base ≤ k → ¬ S k) : PsB base w' po P := by
  refine h.imp id ?_
  rintro ⟨b, off, rfl, hb, hl, hc⟩
  refine ⟨b, off, rfl, hb, Nat.lt_of_lt_of_le hl hk.size, fun i hi => ?_⟩
  obtain ⟨ao, ac, h1, h2, h3⟩ := hc i hi
  exact ⟨ao, ac, (hk.cell (p := ⟨b, off + i, none⟩) hl (hS b hb)).trans h1, h2.kept hk (fun a e => hS _ (h3 a e)), h3⟩
def VwAt (base : Nat) (w : World) (L : List Sym) (ok : Bool) (T : List Int) (v : Value) : Prop :=
  ∃ ho hc ao ac, v = .agg #[.slice ho (if ok then T.length else 0) hc, .slice ao (if ok then T.length else 0) ac] ∧ (ok = true → IntsAt w ho T ∧ (∀ a, ho = some a → base ≤ a.block) ∧ PsB base w ao (argsL L T))
theorem VwAt.kept {base : Nat} {w w' : World} {L : List Sym} {ok : Bool} {T : List Int} {v : Value} {S : Nat → Prop} (h : VwAt base w L ok T v) (hk : Kept S w w') (hS : ∀ k,base ≤ k → ¬ S k) : VwAt base w' L ok T v := by
  obtain ⟨ho, hc, ao, ac, e, h1⟩ := h
  refine ⟨ho, hc, ao, ac, e, fun q => ?_⟩
  obtain ⟨a, b, c⟩ := h1 q
  exact ⟨a.kept hk (fun x e => hS _ (b x e)), b, c.kept hk hS⟩
theorem VwAt.same {base : Nat} {w w' : World} {L : List Sym} {ok : Bool} {T : List Int} {v : Value} (h : VwAt base w L ok T v) (hk : Same0 w w') : VwAt base w' L ok T v := h.kept hk (fun _ _ f => f)
def headI (ok : Bool) (T : List Int) (p : Int) : Int := if (ok && idxB p T.length) = true then T.getD p.toNat (-1) else -1
def argI (L : List Sym) (ok : Bool) (T : List Int) (p n : Int) : Int := if (ok && idxB p T.length) = true then (if idxB n (argsN L T p.toNat).length = true then (((argsN L T p.toNat).getD n.toNat 0 : Nat) : Int) else -1) else -1
theorem idx_yes {n : Int} {m : Nat} (h : idxB n m = true) : ∃ i : Nat,n = (i : Int) ∧ i < m := by
  simp [idxB] at h
  exact ⟨n.toNat, by omega, by omega⟩
theorem idx_zero (n : Int) : idxB n 0 = false := by
  simp [idxB]
theorem idx_if (ok : Bool) (n : Int) (m : Nat) : idxB n (if ok then m else 0) = (ok && idxB n m) := by
  cases ok
  · simp [idx_zero]
  · simp
set_option maxHeartbeats 2000000 in
theorem head_any {base : Nat} {w : World} {L : List Sym} {ok : Bool} {T : List Int} {v : Value} (h : VwAt base w L ok T v) (p : Int) :
    Calls Tryz.prog 28 #[v,.int .i64 p] w fun e w' => e = .returned (.tuple #[.int .i64 (headI ok T p),.bool false]) ∧ Same0 w w' := by
  obtain ⟨ho, hc, ao, ac, rfl, h1⟩ := h
  have CI := isIndex_any p (if ok then T.length else 0)
  rw [idx_if] at CI
  have ka : Same0 w (w.alloc (.cells #[.slice ho (if ok then T.length else 0) hc, .slice ao (if ok then T.length else 0) ac] 70)) := (Kept.refl _ w).alloc _
  cases hi : (ok && idxB p T.length) with
  | false =>
    rw [hi] at CI
    have H : Hid (headI ok T p = -1) := by show _ = _; rw [headI, if_neg (by rw [hi]; decide)]
    clear hi h1
    generalize (if ok then T.length else 0) = N at *
    go_enter Tryz.func28, Tryz.ntmps28
    go_wp2_with (first | (go_at_call 49; refine (CI _).mono ?_; rintro e w2 ⟨rfl, rfl⟩))
    exact bodyPost_ret (v := .tuple #[.int .i64 (-1), .bool false]) (by simp [results, Tryz.results28, go_sem]) rfl ⟨by rw [H.out], ka⟩
  | true =>
    rw [hi] at CI
    obtain ⟨rfl, hx⟩ : ok = true ∧ idxB p T.length = true := by simpa using hi
    obtain ⟨i, rfl, hl⟩ := idx_yes hx
    have H : Hid (headI true T (i : Int) = T[i]) := by
      show _ = _
      rw [headI, if_pos (by simpa using hx), Int.toNat_natCast]
      simp [hl]
    obtain ⟨a, _, _⟩ := h1 rfl
    obtain ⟨b, off, rfl, hb, hcell⟩ := (a.same ka).get hl
    simp only [if_true] at CI ka hcell ⊢
    have i1 : (0 : Int) ≤ (i : Int) := by omega
    have i2 : (i : Int) < (T.length : Int) := by omega
    clear hi h1 a hx
    go_enter Tryz.func28, Tryz.ntmps28
    go_wp2_with (first | (go_at_call 49; refine (CI _).mono ?_; rintro e w2 ⟨rfl, rfl⟩))
    exact bodyPost_ret (v := .tuple #[.int .i64 T[i], .bool false]) (by simp [results, Tryz.results28, go_sem]) rfl ⟨by rw [H.out], ka⟩
set_option maxHeartbeats 4000000 in
theorem arg_any {base : Nat} {w : World} {L : List Sym} {ok : Bool} {T : List Int} {v : Value} (h : VwAt base w L ok T v) (p n : Int) :
    Calls Tryz.prog 30 #[v,.int .i64 p,.int .i64 n] w fun e w' => e = .returned (.int .i64 (argI L ok T p n)) ∧ Same0 w w' := by
  obtain ⟨ho, hc, ao, ac, rfl, h1⟩ := h
  have CI := isIndex_any p (if ok then T.length else 0)
  rw [idx_if] at CI
  have ka : Same0 w (w.alloc (.cells #[.slice ho (if ok then T.length else 0) hc, .slice ao (if ok then T.length else 0) ac] 70)) := (Kept.refl _ w).alloc _
  cases hi : (ok && idxB p T.length) with
  | false =>
    rw [hi] at CI
    have H : Hid (argI L ok T p n = -1) := by show _ = _; rw [argI, if_neg (by rw [hi]; decide)]
    clear hi h1
    generalize (if ok then T.length else 0) = N at *
    go_enter Tryz.func30, Tryz.ntmps30
    go_wp2_with (first | (go_at_call 49; refine (CI _).mono ?_; rintro e w2 ⟨rfl, rfl⟩))
    go_ret
    exact ⟨by rw [H.out]; rfl, ka⟩
  | true =>
    rw [hi] at CI
    obtain ⟨rfl, hx⟩ : ok = true ∧ idxB p T.length = true := by simpa using hi
    obtain ⟨i, rfl, hl⟩ := idx_yes hx
    obtain ⟨_, _, a⟩ := h1 rfl
    have a' := a.kept ka (fun _ _ f => f)
    rcases a' with e0 | ⟨b, off, rfl, _, hb, hcell⟩
    · have := argsL_length L T; rw [e0] at this; simp at this; omega
    · obtain ⟨qo, qc, c1, c2, _⟩ := hcell i (by rw [argsL_length]; exact hl)
      rw [argsL_at] at c1 c2
      have hN : (ofN (argsN L T i)).length = (argsN L T i).length := ofN_len _
      rw [hN] at c1
      obtain ⟨A, hA⟩ : ∃ A, A = argsN L T i := ⟨_, rfl⟩
      have HV : Hid (argI L true T (i : Int) n = if idxB n A.length = true then ((A.getD n.toNat 0 : Nat) : Int) else -1) := by
        show _ = _
        rw [argI, if_pos (by simpa using hx), Int.toNat_natCast, hA]
      rw [← hA] at c1 c2 hN
      have CJ := isIndex_any n A.length
      simp only [if_true] at CI ka c1 c2 ⊢
      have i1 : (0 : Int) ≤ (i : Int) := by omega
      have i2 : (i : Int) < (T.length : Int) := by omega
      have CC : Hid (∀ (z : Int) (m : Nat) ww, (z = (i : Int) ∧ m = T.length) ∨ (z = n ∧ m = A.length) → Calls Tryz.prog 49 #[.int .i64 z, .int .i64 (m : Int)] ww fun e w' => e = .returned (.bool (idxB z m)) ∧ w' = ww) := fun z m ww _ => isIndex_any z m ww
      have hx2 : idxB (i : Int) T.length = true := hx
      cases hj : idxB n A.length with
      | false =>
        rw [hj] at HV CJ
        have H : Hid (argI L true T (i : Int) n = -1) := by rw [HV.out]; rfl
        clear hi h1 a hx HV hA
        go_enter Tryz.func30, Tryz.ntmps30
        go_wp2_with (first | (go_at_call 49; have hold := hdone; refine (CJ _).mono ?_; rintro e w2 ⟨rfl, rfl⟩) | (go_at_call 49; refine (CI _).mono ?_; rintro e w2 ⟨rfl, rfl⟩; have hdone : True := trivial))
        go_ret
        exact ⟨by rw [H.out]; rfl, ka⟩
      | true =>
        obtain ⟨j, rfl, hjl⟩ := idx_yes hj
        rw [hj] at HV CJ
        have H : Hid (argI L true T (i : Int) (j : Int) = ((A[j] : Nat) : Int)) := by rw [HV.out]; show _ = _; simp [hjl]
        obtain ⟨qb, qoff, rfl, hqb, hq⟩ := c2.get (i := j) (by rw [hN]; exact hjl)
        have hq2 : (ofN A)[j]'(by rw [hN]; exact hjl) = ((A[j] : Nat) : Int) := by simp [ofN]
        rw [hq2] at hq
        have j1 : (0 : Int) ≤ (j : Int) := by omega
        have j2 : (j : Int) < (A.length : Int) := by omega
        clear hi h1 a hx HV hA c2 hq2
        go_enter Tryz.func30, Tryz.ntmps30
        go_wp2_with (first | (go_at_call 49; have hold := hdone; refine (CJ _).mono ?_; rintro e w2 ⟨rfl, rfl⟩) | (go_at_call 49; refine (CI _).mono ?_; rintro e w2 ⟨rfl, rfl⟩; have hdone : True := trivial))
        go_ret
        exact ⟨by rw [H.out]; rfl, ka⟩
end Go.Proofs.YthamjjhioafkjaaGreat
