/- The walks of Turn, the program's and the document's; of a nil spine. -/
import Derived.Test.YtikcocjbbbdmgaaSpinePop
namespace Go.Proofs.Ytikcocjbbbdmgaa
set_option maxRecDepth 100000
set_option linter.unusedVariables false
open Go.RowKit
attribute [local go_sem ↓] Go.wp_at_zero Go.wp_at_succ
theorem turn_no {B : Nat → Prop} {base : Nat} {w : World} {s : Nat} {v : Value} (p : SpT 53 B base w s v []) (x : Fr) (ao : Option Addr) (ac : Nat) :
    Calls Try.prog 18 #[.pointer (some ⟨s, 0, none⟩), frV x ao ac] w fun e w' => e = .returned (.int .i64 140) ∧ Same0 w w' := by
  have k0 : Same0 w (w.alloc (.cells #[.int .i64 x.1, .bool x.2.1, .int .i64 x.2.2.1, .slice ao x.2.2.2.length ac] 30)) := (Kept.refl _ w).alloc _
  have c0 := (p.same k0).cell.1
  obtain ⟨vo, vc, rfl⟩ := p.row.shape
  have CR := refusal_no (p.same k0)
  have HK : Hid (Same0 w (w.alloc (.cells #[.int .i64 x.1, .bool x.2.1, .int .i64 x.2.2.1, .slice ao x.2.2.2.length ac] 30))) := k0
  clear p k0
  go_enter Try.func18, Try.ntmps18
  go_wp2_with (first | (go_at_call 36; refine CR.mono ?_; rintro e w' ⟨rfl, h'⟩; have h' := h'.symm; subst h'))
  go_ret
  exact ⟨rfl, HK.out⟩
theorem rturn_no {B : Nat → Prop} {base : Nat} {w : World} {s : Nat} {v : Value} (p : SpT 55 B base w s v []) (x : Fr) (ao : Option Addr) (ac : Nat) :
    Calls Try.prog 32 #[.pointer (some ⟨s, 0, none⟩), frV x ao ac] w fun e w' => e = .returned (.int .i64 140) ∧ Same0 w w' := by
  have k0 : Same0 w (w.alloc (.cells #[.int .i64 x.1, .bool x.2.1, .int .i64 x.2.2.1, .slice ao x.2.2.2.length ac] 30)) := (Kept.refl _ w).alloc _
  have c0 := (p.same k0).cell.1
  obtain ⟨vo, vc, rfl⟩ := p.row.shape
  have HK : Hid (Same0 w (w.alloc (.cells #[.int .i64 x.1, .bool x.2.1, .int .i64 x.2.2.1, .slice ao x.2.2.2.length ac] 30))) := k0
  clear p k0
  go_enter Try.func32, Try.ntmps32
  go_wp2_with fail
  go_ret
  exact ⟨rfl, HK.out⟩
set_option maxHeartbeats 2000000 in
theorem turn_yes {B : Nat → Prop} {base : Nat} {w : World} {s : Nat} {v : Value} {l0 : List Fr} {y : Fr} (p : SpT 53 B base w s v (l0 ++ [y])) {x : Fr} {ao : Option Addr} {ac : Nat} (hx : Arg w ao x.2.2.2 ac) (hB : ∀ k, w.heap.size ≤ k → B k) :
    Calls Try.prog 18 #[.pointer (some ⟨s, 0, none⟩), frV x ao ac] w fun e w' => e = .returned (.int .i64 0) ∧ SpT 53 B base w' s v (l0 ++ [x]) ∧ Kept (fun k => v.ownBlock = some k) w w' := by
  obtain ⟨W0, hW0⟩ : ∃ W0, W0 = w.alloc (.cells #[.int .i64 x.1, .bool x.2.1, .int .i64 x.2.2.1, .slice ao x.2.2.2.length ac] 30) := ⟨_, rfl⟩
  have k0 : Same0 w W0 := by rw [hW0]; exact (Kept.refl _ w).alloc _
  have hb0 : W0.heap[w.heap.size]? = some (.cells #[.int .i64 x.1, .bool x.2.1, .int .i64 x.2.2.1, .slice ao x.2.2.2.length ac] 30 (0, 0)) := by rw [hW0]; exact heap_alloc_new w _
  have CR := refusal_yes (p.same k0)
  obtain ⟨g, cap, _, _, rfl, -, -, -, -, -, -, hm1, hm2⟩ := p.row.top
  have HM : Hid (l0.length + 1 ≤ 9223372036854775807) := hm2
  have c1 := (p.same k0).cell.1
  have i3 : ¬ ((l0.length : Int) + 1 = 0) := by omega
  have CELLS : Hid (∀ ww, Same0 W0 ww → ww.cell? ⟨s, 0, none⟩ = some (.slice (some ⟨g, 0, none⟩) (l0.length + 1) cap) ∧ ww.cell? ⟨w.heap.size, 0, none⟩ = some (.int .i64 x.1) ∧ ww.cell? ⟨w.heap.size, 1, none⟩ = some (.bool x.2.1) ∧ ww.cell? ⟨w.heap.size, 2, none⟩ = some (.int .i64 x.2.2.1) ∧ ww.cell? ⟨w.heap.size, 3, none⟩ = some (.slice ao x.2.2.2.length ac)) := fun ww hk => ⟨(p.same (k0.trans' hk)).cell.1, (box4 (hk.at0 hb0)).1, (box4 (hk.at0 hb0)).2.1, (box4 (hk.at0 hb0)).2.2.1, (box4 (hk.at0 hb0)).2.2.2⟩
  have CO : Hid (∀ ww, Same0 W0 ww → Calls Try.prog 37 #[frV x ao ac] ww fun e w' => ∃ bo bc, e = .returned (frV x bo bc) ∧ ArgR w' bo x.2.2.2 bc ∧ (∀ a, bo = some a → B a.block ∧ w.heap.size ≤ a.block) ∧ Same0 W0 w') := fun ww hk => (fcopied_any (ac := ac) (show Arg ww ao x.2.2.2 ac from ⟨hx.at'.same (k0.trans' hk), hx.cap', hx.nil, hx.size⟩)).mono (fun e w' ⟨bo, bc, q1, q2, q3⟩ => by
    obtain ⟨ao', ac', e2, h1, h2⟩ := q2.argR hx.size
    simp only [Value.slice.injEq] at e2
    obtain ⟨rfl, _, rfl⟩ := e2
    exact ⟨bo, bc, q1, h1, fun a e => ⟨hB _ (Nat.le_trans (k0.trans' hk).size (h2 a e)), Nat.le_trans (k0.trans' hk).size (h2 a e)⟩, hk.trans' q3⟩)
  have FIN : Hid (∀ w2 bo bc, Same0 W0 w2 → ArgR w2 bo x.2.2.2 bc → (∀ a, bo = some a → B a.block ∧ w.heap.size ≤ a.block) → (∃ u0 u1 u2 u3, w2.cell? ⟨g, l0.length * 4, none⟩ = some u0 ∧ w2.cell? ⟨g, l0.length * 4 + 1, none⟩ = some u1 ∧ w2.cell? ⟨g, l0.length * 4 + 2, none⟩ = some u2 ∧ w2.cell? ⟨g, l0.length * 4 + 3, none⟩ = some u3) ∧ (∀ o, w2.frozen? ⟨g, o, none⟩ = false) ∧ Hid (SpT 53 B base (put4F w2 g (l0.length * 4) (.int .i64 x.1) (.bool x.2.1) (.int .i64 x.2.2.1) (.slice bo x.2.2.2.length bc)) s (.slice (some ⟨g, 0, none⟩) (l0.length + 1) cap) (l0 ++ [x]) ∧ Kept (fun k => (Value.slice (some ⟨g, 0, none⟩) (l0.length + 1) cap).ownBlock = some k) w (put4F w2 g (l0.length * 4) (.int .i64 x.1) (.bool x.2.1) (.int .i64 x.2.2.1) (.slice bo x.2.2.2.length bc)))) := by
    intro w2 bo bc hk ha hbb
    have p2 := p.same (k0.trans' hk)
    have q0 : FRow B base w2 (.slice (some ⟨g, 0, none⟩) (l0 ++ [y]).length cap) (l0 ++ [y]) := by
      have := p2.row
      simpa using this
    have kp := put4F_kept w2 g (l0.length * 4) (.int .i64 x.1) (.bool x.2.1) (.int .i64 x.2.2.1) (.slice bo x.2.2.2.length bc)
    obtain ⟨_, _, _, _, e, v0, v1, v2, v3, -⟩ := q0.top
    simp only [Value.slice.injEq, Option.some.injEq, Addr.mk.injEq, and_true] at e
    obtain ⟨rfl, -, rfl⟩ := e
    obtain ⟨-, -, -, cur, hc⟩ := q0.block (k := g) rfl
    have ne : ¬ s = g := fun e => p2.ne (by rw [e]; rfl)
    have q00 : FRow (fun k => B k ∧ k < w.heap.size) base w2 (.slice (some ⟨g, 0, none⟩) (l0 ++ [y]).length cap) (l0 ++ [y]) := by
      have := (p.row.mono (B' := fun k => B k ∧ k < w.heap.size) (fun k a b => ⟨b, a⟩)).same (k0.trans' hk)
      simpa using this
    have q1 := q00.put (i := l0.length) (by simp) ha hbb
    refine ⟨⟨_, _, _, _, v0, v1, v2, v3⟩, fun o => frozenAt hc o, ⟨kp.at p2.box ne, ?_, p2.low, p2.dif⟩, (Kept.mono (k0.trans' hk) (fun _ _ f => f.elim)).trans kp (fun _ _ e => by rw [e]; rfl)⟩
    simpa using q1
  have W00 : Hid (Same0 W0 W0.drew) := (Kept.refl _ _).drew
  clear hx p hB hb0 k0 hm1 hm2
  go_enter Try.func18, Try.ntmps18
  go_upto_region 1 with fail
  rw [← hW0]
  clear hW0
  go_upto_region 4 with (first | (go_at_call 36; refine CR.mono ?_; rintro e w' ⟨rfl, h'⟩; have h' := h'.symm; subst h'))
  clear c1 i3
  have hm := HM.out
  have i0 : (0 : Int) ≤ (l0.length : Int) := by omega
  have i1 : (l0.length : Int) < (l0.length : Int) + 1 := by omega
  have i2 : (l0.length : Int) < 9223372036854775807 := by omega
  have i4 : IntKind.i64.wrap (l0.length : Int) = (l0.length : Int) := fwrap (by omega) (by omega)
  clear hm
  obtain ⟨d0, d1, d2, d3, d4⟩ := CELLS.out W0.drew W00.out
  go_region_law (first
    | (refine step_callF rfl (CO.out _ W00.out) (by simp [go_sem]) ?_; rintro e w2 ⟨bo, bc, rfl, ha, hbb, hk2⟩; refine ⟨_, rfl, ?_⟩; obtain ⟨e0, -⟩ := CELLS.out _ hk2; obtain ⟨⟨u0, u1, u2, u3, v0, v1, v2, v3⟩, fz, FF⟩ := FIN.out w2 bo bc hk2 ha hbb; have z0 := fz (l0.length * 4); have z1 := fz (l0.length * 4 + 1); have z2 := fz (l0.length * 4 + 2); have z3 := fz (l0.length * 4 + 3); clear fz))
  all_goals
    go_wp2
    go_ret
    exact ⟨rfl, FF.out⟩
set_option maxHeartbeats 2000000 in
theorem rturn_yes {B : Nat → Prop} {base : Nat} {w : World} {s : Nat} {v : Value} {l0 : List Fr} {y : Fr} (p : SpT 55 B base w s v (l0 ++ [y])) {x : Fr} {ao : Option Addr} {ac : Nat} (hx : Arg w ao x.2.2.2 ac) (hB : ∀ k, w.heap.size ≤ k → B k) :
    Calls Try.prog 32 #[.pointer (some ⟨s, 0, none⟩), frV x ao ac] w fun e w' => e = .returned (.int .i64 0) ∧ SpT 55 B base w' s v (l0 ++ [x]) ∧ Kept (fun k => v.ownBlock = some k) w w' := by
  obtain ⟨W0, hW0⟩ : ∃ W0, W0 = w.alloc (.cells #[.int .i64 x.1, .bool x.2.1, .int .i64 x.2.2.1, .slice ao x.2.2.2.length ac] 30) := ⟨_, rfl⟩
  have k0 : Same0 w W0 := by rw [hW0]; exact (Kept.refl _ w).alloc _
  have hb0 : W0.heap[w.heap.size]? = some (.cells #[.int .i64 x.1, .bool x.2.1, .int .i64 x.2.2.1, .slice ao x.2.2.2.length ac] 30 (0, 0)) := by rw [hW0]; exact heap_alloc_new w _
  obtain ⟨g, cap, _, _, rfl, -, -, -, -, -, -, hm1, hm2⟩ := p.row.top
  have HM : Hid (l0.length + 1 ≤ 9223372036854775807) := hm2
  have c1 := (p.same k0).cell.1
  have i3 : ¬ ((l0.length : Int) + 1 = 0) := by omega
  have CELLS : Hid (∀ ww, Same0 W0 ww → ww.cell? ⟨s, 0, none⟩ = some (.slice (some ⟨g, 0, none⟩) (l0.length + 1) cap) ∧ ww.cell? ⟨w.heap.size, 0, none⟩ = some (.int .i64 x.1) ∧ ww.cell? ⟨w.heap.size, 1, none⟩ = some (.bool x.2.1) ∧ ww.cell? ⟨w.heap.size, 2, none⟩ = some (.int .i64 x.2.2.1) ∧ ww.cell? ⟨w.heap.size, 3, none⟩ = some (.slice ao x.2.2.2.length ac)) := fun ww hk => ⟨(p.same (k0.trans' hk)).cell.1, (box4 (hk.at0 hb0)).1, (box4 (hk.at0 hb0)).2.1, (box4 (hk.at0 hb0)).2.2.1, (box4 (hk.at0 hb0)).2.2.2⟩
  have CO : Hid (∀ ww, Same0 W0 ww → Calls Try.prog 42 #[frV x ao ac] ww fun e w' => ∃ bo bc, e = .returned (frV x bo bc) ∧ ArgR w' bo x.2.2.2 bc ∧ (∀ a, bo = some a → B a.block ∧ w.heap.size ≤ a.block) ∧ Same0 W0 w') := fun ww hk => (fown_any (ac := ac) (show Arg ww ao x.2.2.2 ac from ⟨hx.at'.same (k0.trans' hk), hx.cap', hx.nil, hx.size⟩)).mono (fun e w' ⟨bo, bc, q1, q2, q3⟩ => by
    obtain ⟨ao', ac', e2, h1, h2⟩ := q2.argR hx.size
    simp only [Value.slice.injEq] at e2
    obtain ⟨rfl, _, rfl⟩ := e2
    exact ⟨bo, bc, q1, h1, fun a e => ⟨hB _ (Nat.le_trans (k0.trans' hk).size (h2 a e)), Nat.le_trans (k0.trans' hk).size (h2 a e)⟩, hk.trans' q3⟩)
  have FIN : Hid (∀ w2 bo bc, Same0 W0 w2 → ArgR w2 bo x.2.2.2 bc → (∀ a, bo = some a → B a.block ∧ w.heap.size ≤ a.block) → (∃ u0 u1 u2 u3, w2.cell? ⟨g, l0.length * 4, none⟩ = some u0 ∧ w2.cell? ⟨g, l0.length * 4 + 1, none⟩ = some u1 ∧ w2.cell? ⟨g, l0.length * 4 + 2, none⟩ = some u2 ∧ w2.cell? ⟨g, l0.length * 4 + 3, none⟩ = some u3) ∧ (∀ o, w2.frozen? ⟨g, o, none⟩ = false) ∧ Hid (SpT 55 B base (put4F w2 g (l0.length * 4) (.int .i64 x.1) (.bool x.2.1) (.int .i64 x.2.2.1) (.slice bo x.2.2.2.length bc)) s (.slice (some ⟨g, 0, none⟩) (l0.length + 1) cap) (l0 ++ [x]) ∧ Kept (fun k => (Value.slice (some ⟨g, 0, none⟩) (l0.length + 1) cap).ownBlock = some k) w (put4F w2 g (l0.length * 4) (.int .i64 x.1) (.bool x.2.1) (.int .i64 x.2.2.1) (.slice bo x.2.2.2.length bc)))) := by
    intro w2 bo bc hk ha hbb
    have p2 := p.same (k0.trans' hk)
    have q0 : FRow B base w2 (.slice (some ⟨g, 0, none⟩) (l0 ++ [y]).length cap) (l0 ++ [y]) := by
      have := p2.row
      simpa using this
    have kp := put4F_kept w2 g (l0.length * 4) (.int .i64 x.1) (.bool x.2.1) (.int .i64 x.2.2.1) (.slice bo x.2.2.2.length bc)
    obtain ⟨_, _, _, _, e, v0, v1, v2, v3, -⟩ := q0.top
    simp only [Value.slice.injEq, Option.some.injEq, Addr.mk.injEq, and_true] at e
    obtain ⟨rfl, -, rfl⟩ := e
    obtain ⟨-, -, -, cur, hc⟩ := q0.block (k := g) rfl
    have ne : ¬ s = g := fun e => p2.ne (by rw [e]; rfl)
    have q00 : FRow (fun k => B k ∧ k < w.heap.size) base w2 (.slice (some ⟨g, 0, none⟩) (l0 ++ [y]).length cap) (l0 ++ [y]) := by
      have := (p.row.mono (B' := fun k => B k ∧ k < w.heap.size) (fun k a b => ⟨b, a⟩)).same (k0.trans' hk)
      simpa using this
    have q1 := q00.put (i := l0.length) (by simp) ha hbb
    refine ⟨⟨_, _, _, _, v0, v1, v2, v3⟩, fun o => frozenAt hc o, ⟨kp.at p2.box ne, ?_, p2.low, p2.dif⟩, (Kept.mono (k0.trans' hk) (fun _ _ f => f.elim)).trans kp (fun _ _ e => by rw [e]; rfl)⟩
    simpa using q1
  have W00 : Hid (Same0 W0 W0.drew) := (Kept.refl _ _).drew
  clear hx p hB hb0 k0 hm1 hm2
  go_enter Try.func32, Try.ntmps32
  go_upto_region 1 with fail
  rw [← hW0]
  clear hW0
  go_upto_region 3 with fail
  clear c1 i3
  have hm := HM.out
  have i0 : (0 : Int) ≤ (l0.length : Int) := by omega
  have i1 : (l0.length : Int) < (l0.length : Int) + 1 := by omega
  have i2 : (l0.length : Int) < 9223372036854775807 := by omega
  have i4 : IntKind.i64.wrap (l0.length : Int) = (l0.length : Int) := fwrap (by omega) (by omega)
  clear hm
  obtain ⟨d0, d1, d2, d3, d4⟩ := CELLS.out W0.drew W00.out
  go_region_law (first
    | (refine step_callF rfl (CO.out _ W00.out) (by simp [go_sem]) ?_; rintro e w2 ⟨bo, bc, rfl, ha, hbb, hk2⟩; refine ⟨_, rfl, ?_⟩; obtain ⟨e0, -⟩ := CELLS.out _ hk2; obtain ⟨⟨u0, u1, u2, u3, v0, v1, v2, v3⟩, fz, FF⟩ := FIN.out w2 bo bc hk2 ha hbb; have z0 := fz (l0.length * 4); have z1 := fz (l0.length * 4 + 1); have z2 := fz (l0.length * 4 + 2); have z3 := fz (l0.length * 4 + 3); clear fz))
  all_goals
    go_wp2
    go_ret
    exact ⟨rfl, FF.out⟩
end Go.Proofs.Ytikcocjbbbdmgaa
