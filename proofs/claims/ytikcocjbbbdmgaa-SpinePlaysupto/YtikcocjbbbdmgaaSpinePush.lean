/- The walks of Push, the program's and the document's. -/
import Derived.Test.YtikcocjbbbdmgaaSpineCopy
namespace Go.Proofs.Ytikcocjbbbdmgaa
set_option maxRecDepth 100000
set_option linter.unusedVariables false
open Go.RowKit
attribute [local go_sem ↓] Go.wp_at_zero Go.wp_at_succ
/-- What there is behind a Push. -/
def PushQ (t : TypeId) (B : Nat → Prop) (base : Nat) (w : World) (s : Nat) (v : Value) (l : List Fr) (x : Fr) (w' : World) : Prop :=
  ∃ v', SpT t B base w' s v' (l ++ [x]) ∧ (∀ k, v'.ownBlock = some k → v.ownBlock = some k ∨ w.heap.size ≤ k) ∧ Kept (fun k => k = s ∨ v.ownBlock = some k) w w'
set_option maxHeartbeats 2000000 in
theorem push_any {B : Nat → Prop} {base : Nat} {w : World} {s : Nat} {v : Value} {l : List Fr} (p : SpT 53 B base w s v l) {x : Fr} {ao : Option Addr} {ac : Nat} (hx : Arg w ao x.2.2.2 ac) (hB : ∀ k, w.heap.size ≤ k → B k) (hl : (l.length + 1) * 48 ≤ 140737488355328) :
    Calls Try.prog 19 #[.pointer (some ⟨s, 0, none⟩), frV x ao ac] w fun e w' => (∃ u, e = .returned u) ∧ PushQ 53 B base w s v l x w' := by
  obtain ⟨W0, hW0⟩ : ∃ W0, W0 = w.alloc (.cells #[.int .i64 x.1, .bool x.2.1, .int .i64 x.2.2.1, .slice ao x.2.2.2.length ac] 30) := ⟨_, rfl⟩
  have k0 : Same0 w W0 := by rw [hW0]; exact (Kept.refl _ w).alloc _
  have hb0 : W0.heap[w.heap.size]? = some (.cells #[.int .i64 x.1, .bool x.2.1, .int .i64 x.2.2.1, .slice ao x.2.2.2.length ac] 30 (0, 0)) := by rw [hW0]; exact heap_alloc_new w _
  have hbs : base ≤ w.heap.size := by have := p.low; have := p.lt; omega
  have CELLS : Hid (∀ ww, Same0 W0 ww → ww.cell? ⟨s, 0, none⟩ = some v ∧ ww.cell? ⟨w.heap.size, 0, none⟩ = some (.int .i64 x.1) ∧ ww.cell? ⟨w.heap.size, 1, none⟩ = some (.bool x.2.1) ∧ ww.cell? ⟨w.heap.size, 2, none⟩ = some (.int .i64 x.2.2.1) ∧ ww.cell? ⟨w.heap.size, 3, none⟩ = some (.slice ao x.2.2.2.length ac)) := fun ww hk => ⟨(p.same (k0.trans' hk)).cell.1, (box4 (hk.at0 hb0)).1, (box4 (hk.at0 hb0)).2.1, (box4 (hk.at0 hb0)).2.2.1, (box4 (hk.at0 hb0)).2.2.2⟩
  have CO : Hid (∀ ww, Same0 W0 ww → Calls Try.prog 37 #[frV x ao ac] ww fun e w' => ∃ bo bc, e = .returned (frV x bo bc) ∧ ArgR w' bo x.2.2.2 bc ∧ (∀ a, bo = some a → B a.block ∧ w.heap.size ≤ a.block) ∧ Same0 W0 w') := fun ww hk => (fcopied_any (ac := ac) (show Arg ww ao x.2.2.2 ac from ⟨hx.at'.same (k0.trans' hk), hx.cap', hx.nil, hx.size⟩)).mono (fun e w' ⟨bo, bc, q1, q2, q3⟩ => by
    obtain ⟨ao', ac', e2, h1, h2⟩ := q2.argR hx.size
    simp only [Value.slice.injEq] at e2
    obtain ⟨rfl, _, rfl⟩ := e2
    exact ⟨bo, bc, q1, h1, fun a e => ⟨hB _ (Nat.le_trans (k0.trans' hk).size (h2 a e)), Nat.le_trans (k0.trans' hk).size (h2 a e)⟩, hk.trans' q3⟩)
  have HRW : Hid (∀ ww, Same0 W0 ww → FRow (fun k => B k ∧ k < w.heap.size) base ww v l) := fun ww hk => (p.row.mono (fun k a b => ⟨b, a⟩)).same (k0.trans' hk)
  have FIN : Hid (∀ w2 gg cap w9, Same0 W0 w2 → FRow B base w9 (.slice (some ⟨gg, 0, none⟩) (l.length + 1) cap) (l ++ [x]) → Kept (fun k => v.ownBlock = some k) w2 w9 → (v.ownBlock = some gg ∨ w2.heap.size ≤ gg) → (w9.cell? ⟨s, 0, none⟩ = some v ∧ w9.frozen? ⟨s, 0, none⟩ = false) ∧ Hid (PushQ 53 B base w s v l x (w9.setCell ⟨s, 0, none⟩ (.slice (some ⟨gg, 0, none⟩) (l.length + 1) cap)))) := by
    intro w2 gg cap w9 s2 r9 k9 hat
    have kk : Kept (fun k => v.ownBlock = some k) w w9 := (Kept.mono (k0.trans' s2) (fun _ _ f => f.elim)).trans k9 (fun _ _ e => e)
    obtain ⟨q1, q2, q3, q4⟩ := p.turn kk p.ne r9
    refine ⟨⟨q3, q4⟩, _, q1, fun k e => ?_, q2⟩
    have : gg = k := Option.some.inj e
    subst this
    exact hat.imp id (fun e => Nat.le_trans (k0.trans' s2).size e)
  have hbW : base ≤ W0.heap.size := Nat.le_trans hbs k0.size
  have W00 : Hid (Same0 W0 W0.drew) := (Kept.refl _ _).drew
  obtain ⟨vo, vc, rfl⟩ := p.row.shape
  clear hx p hB hb0 k0
  go_enter Try.func19, Try.ntmps19
  go_upto_region 2 with fail
  rw [← hW0]
  clear hW0
  obtain ⟨d0, d1, d2, d3, d4⟩ := CELLS.out W0.drew W00.out
  go_region_law (first
    | (refine step_callF rfl (CO.out _ W00.out) (by simp [go_sem]) ?_; rintro e w2 ⟨bo, bc, rfl, ha, hbb, hk2⟩; refine ⟨_, rfl, ?_⟩; obtain ⟨e0, -⟩ := CELLS.out _ hk2; obtain ⟨f0, -⟩ := CELLS.out _ (hk2.alloc (.cells #[.int .i64 x.1, .bool x.2.1, .int .i64 x.2.2.1, .slice bo x.2.2.2.length bc] 30)))
    | (refine step_fr (w0 := w2) (by rfl) _ _ 35 (by rfl) Try.underlying35 base l (.slice vo l.length vc) (by rfl) (by first | exact (Kept.refl _ w2).alloc _ | exact (Kept.refl _ w2).drew.alloc _ | exact ((Kept.refl _ w2).alloc _).drew) (HRW.out _ hk2) x bo bc w2.heap.size (by rfl) (heap_alloc_new w2 _) ha hbb (Nat.le_trans hbW hk2.size) hl ?_; intro gg cap9 w9 r9 k9 hat; obtain ⟨⟨y0, y1⟩, FF⟩ := FIN.out w2 gg cap9 w9 hk2 r9 k9 hat))
  all_goals
    go_wp2
    first | go_end0 | (refine bodyPost_ret (results_none rfl _ _ _) rfl ?_)
    exact ⟨⟨_, rfl⟩, FF.out⟩
set_option maxHeartbeats 2000000 in
theorem rpush_any {B : Nat → Prop} {base : Nat} {w : World} {s : Nat} {v : Value} {l : List Fr} (p : SpT 55 B base w s v l) {x : Fr} {ao : Option Addr} {ac : Nat} (hx : Arg w ao x.2.2.2 ac) (hB : ∀ k, w.heap.size ≤ k → B k) (hl : (l.length + 1) * 48 ≤ 140737488355328) :
    Calls Try.prog 27 #[.pointer (some ⟨s, 0, none⟩), frV x ao ac] w fun e w' => (∃ u, e = .returned u) ∧ PushQ 55 B base w s v l x w' := by
  obtain ⟨W0, hW0⟩ : ∃ W0, W0 = w.alloc (.cells #[.int .i64 x.1, .bool x.2.1, .int .i64 x.2.2.1, .slice ao x.2.2.2.length ac] 30) := ⟨_, rfl⟩
  have k0 : Same0 w W0 := by rw [hW0]; exact (Kept.refl _ w).alloc _
  have hb0 : W0.heap[w.heap.size]? = some (.cells #[.int .i64 x.1, .bool x.2.1, .int .i64 x.2.2.1, .slice ao x.2.2.2.length ac] 30 (0, 0)) := by rw [hW0]; exact heap_alloc_new w _
  have hbs : base ≤ w.heap.size := by have := p.low; have := p.lt; omega
  have CELLS : Hid (∀ ww, Same0 W0 ww → ww.cell? ⟨s, 0, none⟩ = some v ∧ ww.cell? ⟨w.heap.size, 0, none⟩ = some (.int .i64 x.1) ∧ ww.cell? ⟨w.heap.size, 1, none⟩ = some (.bool x.2.1) ∧ ww.cell? ⟨w.heap.size, 2, none⟩ = some (.int .i64 x.2.2.1) ∧ ww.cell? ⟨w.heap.size, 3, none⟩ = some (.slice ao x.2.2.2.length ac)) := fun ww hk => ⟨(p.same (k0.trans' hk)).cell.1, (box4 (hk.at0 hb0)).1, (box4 (hk.at0 hb0)).2.1, (box4 (hk.at0 hb0)).2.2.1, (box4 (hk.at0 hb0)).2.2.2⟩
  have CO : Hid (∀ ww, Same0 W0 ww → Calls Try.prog 42 #[frV x ao ac] ww fun e w' => ∃ bo bc, e = .returned (frV x bo bc) ∧ ArgR w' bo x.2.2.2 bc ∧ (∀ a, bo = some a → B a.block ∧ w.heap.size ≤ a.block) ∧ Same0 W0 w') := fun ww hk => (fown_any (ac := ac) (show Arg ww ao x.2.2.2 ac from ⟨hx.at'.same (k0.trans' hk), hx.cap', hx.nil, hx.size⟩)).mono (fun e w' ⟨bo, bc, q1, q2, q3⟩ => by
    obtain ⟨ao', ac', e2, h1, h2⟩ := q2.argR hx.size
    simp only [Value.slice.injEq] at e2
    obtain ⟨rfl, _, rfl⟩ := e2
    exact ⟨bo, bc, q1, h1, fun a e => ⟨hB _ (Nat.le_trans (k0.trans' hk).size (h2 a e)), Nat.le_trans (k0.trans' hk).size (h2 a e)⟩, hk.trans' q3⟩)
  have HRW : Hid (∀ ww, Same0 W0 ww → FRow (fun k => B k ∧ k < w.heap.size) base ww v l) := fun ww hk => (p.row.mono (fun k a b => ⟨b, a⟩)).same (k0.trans' hk)
  have FIN : Hid (∀ w2 gg cap w9, Same0 W0 w2 → FRow B base w9 (.slice (some ⟨gg, 0, none⟩) (l.length + 1) cap) (l ++ [x]) → Kept (fun k => v.ownBlock = some k) w2 w9 → (v.ownBlock = some gg ∨ w2.heap.size ≤ gg) → (w9.cell? ⟨s, 0, none⟩ = some v ∧ w9.frozen? ⟨s, 0, none⟩ = false) ∧ Hid (PushQ 55 B base w s v l x (w9.setCell ⟨s, 0, none⟩ (.slice (some ⟨gg, 0, none⟩) (l.length + 1) cap)))) := by
    intro w2 gg cap w9 s2 r9 k9 hat
    have kk : Kept (fun k => v.ownBlock = some k) w w9 := (Kept.mono (k0.trans' s2) (fun _ _ f => f.elim)).trans k9 (fun _ _ e => e)
    obtain ⟨q1, q2, q3, q4⟩ := p.turn kk p.ne r9
    refine ⟨⟨q3, q4⟩, _, q1, fun k e => ?_, q2⟩
    have : gg = k := Option.some.inj e
    subst this
    exact hat.imp id (fun e => Nat.le_trans (k0.trans' s2).size e)
  have hbW : base ≤ W0.heap.size := Nat.le_trans hbs k0.size
  have W00 : Hid (Same0 W0 W0.drew) := (Kept.refl _ _).drew
  obtain ⟨vo, vc, rfl⟩ := p.row.shape
  clear hx p hB hb0 k0
  go_enter Try.func27, Try.ntmps27
  go_upto_region 1 with fail
  rw [← hW0]
  clear hW0
  obtain ⟨d0, d1, d2, d3, d4⟩ := CELLS.out W0.drew W00.out
  go_region_law (first
    | (refine step_callF rfl (CO.out _ W00.out) (by simp [go_sem]) ?_; rintro e w2 ⟨bo, bc, rfl, ha, hbb, hk2⟩; refine ⟨_, rfl, ?_⟩; obtain ⟨e0, -⟩ := CELLS.out _ hk2; obtain ⟨f0, -⟩ := CELLS.out _ (hk2.alloc (.cells #[.int .i64 x.1, .bool x.2.1, .int .i64 x.2.2.1, .slice bo x.2.2.2.length bc] 30)))
    | (refine step_fr (w0 := w2) (by rfl) _ _ 35 (by rfl) Try.underlying35 base l (.slice vo l.length vc) (by rfl) (by first | exact (Kept.refl _ w2).alloc _ | exact (Kept.refl _ w2).drew.alloc _ | exact ((Kept.refl _ w2).alloc _).drew) (HRW.out _ hk2) x bo bc w2.heap.size (by rfl) (heap_alloc_new w2 _) ha hbb (Nat.le_trans hbW hk2.size) hl ?_; intro gg cap9 w9 r9 k9 hat; obtain ⟨⟨y0, y1⟩, FF⟩ := FIN.out w2 gg cap9 w9 hk2 r9 k9 hat))
  all_goals
    go_wp2
    first | go_end0 | (refine bodyPost_ret (results_none rfl _ _ _) rfl ?_)
    exact ⟨⟨_, rfl⟩, FF.out⟩
end Go.Proofs.Ytikcocjbbbdmgaa
