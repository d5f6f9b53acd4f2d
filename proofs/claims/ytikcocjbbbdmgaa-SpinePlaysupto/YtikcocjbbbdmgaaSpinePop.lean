/- The walks of Pop, the program's and the document's. -/
import Derived.Test.YtikcocjbbbdmgaaSpineTop
namespace Go.Proofs.Ytikcocjbbbdmgaa
set_option maxRecDepth 100000
set_option linter.unusedVariables false
open Go.RowKit
attribute [local go_sem ↓] Go.wp_at_zero Go.wp_at_succ
/-- What there is behind a Pop. -/
def PopQ (t : TypeId) (B : Nat → Prop) (base : Nat) (w : World) (s : Nat) (v : Value) (l0 : List Fr) (x : Fr) (bo : Option Addr) (bc : Nat) (w' : World) : Prop :=
  Row w.heap.size w' (.slice bo x.2.2.2.length bc) x.2.2.2 ∧ ∃ v', SpT t B base w' s v' l0 ∧ (∀ k, v'.ownBlock = some k → v.ownBlock = some k) ∧ Kept (fun k => k = s ∨ v.ownBlock = some k) w w'
theorem pop_plain {t : TypeId} {B : Nat → Prop} {base : Nat} {w : World} {s g cap : Nat} {l0 : List Fr} {x : Fr} (p : SpT t B base w s (.slice (some ⟨g, 0, none⟩) (l0.length + 1) cap) (l0 ++ [x])) {W3 W4 : World} {rb nb : Nat} {bo : Option Addr} {bc : Nat} {Zc Xc : Array Value} (k : Same0 w W3) (hrb : w.heap.size ≤ rb) (hnb : w.heap.size ≤ nb)
    (hR : W3.heap[rb]? = some (.cells Zc 30 (0, 0))) (hN : W3.heap[nb]? = some (.cells Xc 30 (0, 0))) (r4 : FRow B base W4 (.slice (some ⟨g, 0, none⟩) l0.length cap) l0) (k4 : Kept (fun k => k = g) W3 W4) {rbase : Nat} (hr : Row rbase W3 (.slice bo x.2.2.2.length bc) x.2.2.2) (hrr : rb < rbase) :
    W4.cell? ⟨s, 0, none⟩ = some (.slice (some ⟨g, 0, none⟩) (l0.length + 1) cap) ∧ W4.frozen? ⟨s, 0, none⟩ = false ∧ (W4.setCell ⟨s, 0, none⟩ (.slice (some ⟨g, 0, none⟩) l0.length cap)).heap[rb]? = some (.cells Zc 30 (0, 0)) ∧ (W4.setCell ⟨s, 0, none⟩ (.slice (some ⟨g, 0, none⟩) l0.length cap)).heap[nb]? = some (.cells Xc 30 (0, 0)) ∧
      PopQ t B base w s (.slice (some ⟨g, 0, none⟩) (l0.length + 1) cap) l0 x bo bc (put4F (W4.setCell ⟨s, 0, none⟩ (.slice (some ⟨g, 0, none⟩) l0.length cap)) rb 0 (.int .i64 x.1) (.bool x.2.1) (.int .i64 x.2.2.1) (.slice bo x.2.2.2.length bc)) := by
  obtain ⟨-, hg, -⟩ := p.row.block (k := g) rfl
  have hs := p.lt
  have K4 : Kept (fun k => k = g) w W4 := (Kept.mono k (fun _ _ f => f.elim)).trans k4 (fun _ _ e => e)
  have ne : ¬ s = g := fun e => p.ne (by rw [e]; rfl)
  obtain ⟨q1, q2, q3, q4⟩ := p.turn K4 ne r4
  have ks : Kept (fun k => k = s) W4 (W4.setCell ⟨s, 0, none⟩ (.slice (some ⟨g, 0, none⟩) l0.length cap)) := Kept.setCell (S := fun k => k = s) (Kept.refl _ _) (p := ⟨s, 0, none⟩) (fun _ => rfl) _
  have hR5 := ks.at (k4.at hR (by omega)) (by omega)
  have hN5 := ks.at (k4.at hN (by omega)) (by omega)
  have kp := put4F_kept (W4.setCell ⟨s, 0, none⟩ (.slice (some ⟨g, 0, none⟩) l0.length cap)) rb 0 (.int .i64 x.1) (.bool x.2.1) (.int .i64 x.2.2.1) (.slice bo x.2.2.2.length bc)
  have hrlo : ∀ k, (Value.slice bo x.2.2.2.length bc).ownBlock = some k → rbase ≤ k := fun k e => (hr.lt k e).1
  refine ⟨q3, q4, hR5, hN5, ?_, _, q1.kept kp (by omega) (fun k e q => ?_) (fun k _ e cur hc => ?_), fun k e => e, q2.trans kp (fun i hi e => by omega) |>.mono (fun i _ e => e.imp id (fun e => by rw [e]; rfl))⟩
  · refine row_mono (kp.row (ks.row (k4.row hr (fun k e q => ?_)) (fun k e q => ?_)) (fun k e q => ?_)) (show w.heap.size ≤ rbase by omega)
    · have := hrlo k e; omega
    · have := hrlo k e; omega
    · have := hrlo k e; omega
  · have : g = k := Option.some.inj e
    omega
  · rw [e, hR5] at hc
    cases hc
set_option maxHeartbeats 1000000 in
theorem pop_no {B : Nat → Prop} {base : Nat} {w : World} {s : Nat} {v : Value} (p : SpT 53 B base w s v []) :
    Calls Try.prog 16 #[.pointer (some ⟨s, 0, none⟩)] w fun e w' => e = .returned (.tuple #[frV (0, false, 0, []) none 0, .int .i64 140]) ∧ Same0 w w' := by
  obtain ⟨W0, hW0⟩ : ∃ W0, W0 = w.alloc (.cells #[.int .i64 0, .bool false, .int .i64 0, .slice none 0 0] 30) := ⟨_, rfl⟩
  have k0 : Same0 w W0 := by rw [hW0]; exact (Kept.refl _ w).alloc _
  have hb0 : W0.heap[w.heap.size]? = some (.cells #[.int .i64 0, .bool false, .int .i64 0, .slice none 0 0] 30 (0, 0)) := by rw [hW0]; exact heap_alloc_new w _
  have CT := top_no (p.same k0)
  have F : Hid (∀ w1, Same0 W0 w1 → (w1.alloc (.cells #[.int .i64 0, .bool false, .int .i64 0, .slice none 0 0] 30)).heap[w.heap.size]? = some (.cells #[.int .i64 0, .bool false, .int .i64 0, .slice none 0 0] 30 (0, 0)) ∧ (w1.alloc (.cells #[.int .i64 0, .bool false, .int .i64 0, .slice none 0 0] 30)).heap[w1.heap.size]? = some (.cells #[.int .i64 0, .bool false, .int .i64 0, .slice none 0 0] 30 (0, 0)) ∧ Same0 w (put4F (w1.alloc (.cells #[.int .i64 0, .bool false, .int .i64 0, .slice none 0 0] 30)) w.heap.size 0 (.int .i64 0) (.bool false) (.int .i64 0) (.slice none 0 0))) := fun w1 hk => ⟨(show Same0 W0 _ from hk.alloc _).at0 hb0, heap_alloc_new w1 _, ((k0.trans' hk).alloc _).trans (put4F_kept _ _ _ _ _ _ _) (fun i hi e => by omega)⟩
  clear p k0 hb0
  go_enter Try.func16, Try.ntmps16
  go_upto_region 1 with fail
  rw [← hW0]
  clear hW0
  go_upto_region 2 with (first | (go_at_call 15; refine CT.mono ?_; rintro e w1 ⟨rfl, hk⟩))
  obtain ⟨q1, q2, q3⟩ := F.out w1 hk
  have Q3 : Hid (Same0 w (put4F (w1.alloc (.cells #[.int .i64 0, .bool false, .int .i64 0, .slice none 0 0] 30)) w.heap.size 0 (.int .i64 0) (.bool false) (.int .i64 0) (.slice none 0 0))) := q3
  clear q3
  obtain ⟨W3, hW3⟩ : ∃ W3, W3 = w1.alloc (.cells #[.int .i64 0, .bool false, .int .i64 0, .slice none 0 0] 30) := ⟨_, rfl⟩
  rw [← hW3] at q1 q2 Q3 ⊢
  obtain ⟨b0, b1, b2, b3⟩ := box4 q1
  obtain ⟨g0, g1, g2, g3⟩ := free4 q1
  obtain ⟨c0, c1, c2, c3⟩ := box4 q2
  clear q1 q2 hW3
  go_wp2
  exact bodyPost_ret (v := .tuple #[frV (0, false, 0, []) none 0, .int .i64 140]) (by simp [results, Try.results16, go_sem, b0, b1, b2, b3]) rfl ⟨rfl, Q3.out⟩
set_option maxHeartbeats 1000000 in
theorem rpop_no {B : Nat → Prop} {base : Nat} {w : World} {s : Nat} {v : Value} (p : SpT 55 B base w s v []) :
    Calls Try.prog 30 #[.pointer (some ⟨s, 0, none⟩)] w fun e w' => e = .returned (.tuple #[frV (0, false, 0, []) none 0, .int .i64 140]) ∧ Same0 w w' := by
  obtain ⟨W0, hW0⟩ : ∃ W0, W0 = w.alloc (.cells #[.int .i64 0, .bool false, .int .i64 0, .slice none 0 0] 30) := ⟨_, rfl⟩
  have k0 : Same0 w W0 := by rw [hW0]; exact (Kept.refl _ w).alloc _
  have hb0 : W0.heap[w.heap.size]? = some (.cells #[.int .i64 0, .bool false, .int .i64 0, .slice none 0 0] 30 (0, 0)) := by rw [hW0]; exact heap_alloc_new w _
  have CT := rtop_no (p.same k0)
  have F : Hid (∀ w1, Same0 W0 w1 → (w1.alloc (.cells #[.int .i64 0, .bool false, .int .i64 0, .slice none 0 0] 30)).heap[w.heap.size]? = some (.cells #[.int .i64 0, .bool false, .int .i64 0, .slice none 0 0] 30 (0, 0)) ∧ (w1.alloc (.cells #[.int .i64 0, .bool false, .int .i64 0, .slice none 0 0] 30)).heap[w1.heap.size]? = some (.cells #[.int .i64 0, .bool false, .int .i64 0, .slice none 0 0] 30 (0, 0)) ∧ Same0 w (put4F (w1.alloc (.cells #[.int .i64 0, .bool false, .int .i64 0, .slice none 0 0] 30)) w.heap.size 0 (.int .i64 0) (.bool false) (.int .i64 0) (.slice none 0 0))) := fun w1 hk => ⟨(show Same0 W0 _ from hk.alloc _).at0 hb0, heap_alloc_new w1 _, ((k0.trans' hk).alloc _).trans (put4F_kept _ _ _ _ _ _ _) (fun i hi e => by omega)⟩
  clear p k0 hb0
  go_enter Try.func30, Try.ntmps30
  go_upto_region 1 with fail
  rw [← hW0]
  clear hW0
  go_upto_region 2 with (first | (go_at_call 29; refine CT.mono ?_; rintro e w1 ⟨rfl, hk⟩))
  obtain ⟨q1, q2, q3⟩ := F.out w1 hk
  have Q3 : Hid (Same0 w (put4F (w1.alloc (.cells #[.int .i64 0, .bool false, .int .i64 0, .slice none 0 0] 30)) w.heap.size 0 (.int .i64 0) (.bool false) (.int .i64 0) (.slice none 0 0))) := q3
  clear q3
  obtain ⟨W3, hW3⟩ : ∃ W3, W3 = w1.alloc (.cells #[.int .i64 0, .bool false, .int .i64 0, .slice none 0 0] 30) := ⟨_, rfl⟩
  rw [← hW3] at q1 q2 Q3 ⊢
  obtain ⟨b0, b1, b2, b3⟩ := box4 q1
  obtain ⟨g0, g1, g2, g3⟩ := free4 q1
  obtain ⟨c0, c1, c2, c3⟩ := box4 q2
  clear q1 q2 hW3
  go_wp2
  exact bodyPost_ret (v := .tuple #[frV (0, false, 0, []) none 0, .int .i64 140]) (by simp [results, Try.results30, go_sem, b0, b1, b2, b3]) rfl ⟨rfl, Q3.out⟩
set_option maxHeartbeats 2000000 in
theorem pop_yes {B : Nat → Prop} {base : Nat} {w : World} {s : Nat} {v : Value} {l0 : List Fr} {x : Fr} (p : SpT 53 B base w s v (l0 ++ [x])) :
    Calls Try.prog 16 #[.pointer (some ⟨s, 0, none⟩)] w fun e w' => ∃ bo bc, e = .returned (.tuple #[frV x bo bc, .int .i64 0]) ∧ PopQ 53 B base w s v l0 x bo bc w' := by
  obtain ⟨W0, hW0⟩ : ∃ W0, W0 = w.alloc (.cells #[.int .i64 0, .bool false, .int .i64 0, .slice none 0 0] 30) := ⟨_, rfl⟩
  have k0 : Same0 w W0 := by rw [hW0]; exact (Kept.refl _ w).alloc _
  have hb0 : W0.heap[w.heap.size]? = some (.cells #[.int .i64 0, .bool false, .int .i64 0, .slice none 0 0] 30 (0, 0)) := by rw [hW0]; exact heap_alloc_new w _
  have hz : Hid (w.heap.size + 1 = W0.heap.size) := by show _ = _; rw [hW0]; simp
  have CT := top_yes (p.same k0)
  obtain ⟨g, cap, _, _, rfl, -, -, -, -, -, -, hm1, hm2⟩ := p.row.top
  have HM : Hid (l0.length + 1 ≤ 9223372036854775807) := hm2
  have HC : Hid (l0.length + 1 ≤ cap) := hm1
  have HP : Hid (SpT 53 B base w s (.slice (some ⟨g, 0, none⟩) (l0.length + 1) cap) (l0 ++ [x])) := p
  have HK0 : Hid (Same0 w W0 ∧ W0.heap[w.heap.size]? = some (.cells #[.int .i64 0, .bool false, .int .i64 0, .slice none 0 0] 30 (0, 0))) := ⟨k0, hb0⟩
  clear p k0 hb0 hm1 hm2
  go_enter Try.func16, Try.ntmps16
  go_upto_region 1 with fail
  rw [← hW0]
  clear hW0
  go_upto_region 2 with (first | (go_at_call 15; refine CT.mono ?_; rintro e w1 ⟨bo, bc, rfl, hr, hk⟩))
  obtain ⟨W3, hW3⟩ : ∃ W3, W3 = w1.alloc (.cells #[.int .i64 x.1, .bool x.2.1, .int .i64 x.2.2.1, .slice bo x.2.2.2.length bc] 30) := ⟨_, rfl⟩
  rw [← hW3]
  have p := HP.out
  obtain ⟨k0, hb0⟩ := HK0.out
  have k13 : Same0 w1 W3 := by rw [hW3]; exact (Kept.refl _ _).alloc _
  have K3 : Same0 w W3 := (k0.trans' hk).trans' k13
  have hN : W3.heap[w1.heap.size]? = some (.cells #[.int .i64 x.1, .bool x.2.1, .int .i64 x.2.2.1, .slice bo x.2.2.2.length bc] 30 (0, 0)) := by rw [hW3]; exact heap_alloc_new w1 _
  have hR : W3.heap[w.heap.size]? = some (.cells #[.int .i64 0, .bool false, .int .i64 0, .slice none 0 0] 30 (0, 0)) := (hk.trans' k13).at0 hb0
  have hz0 := hz.out
  have hz1 := hk.size
  have c3 := (p.same K3).cell.1
  have q0 : FRow B base W3 (.slice (some ⟨g, 0, none⟩) (l0 ++ [x]).length cap) (l0 ++ [x]) := by
    have := (p.same K3).row
    simpa using this
  have r4 : FRow B base (put4F W3 g (l0.length * 4) (.int .i64 0) (.bool false) (.int .i64 0) (.slice none 0 0)) (.slice (some ⟨g, 0, none⟩) l0.length cap) l0 := by
    have q := ((q0.mono (B' := fun k => B k ∧ k < W3.heap.size) (fun k a b => ⟨b, a⟩)).put (i := l0.length) (by simp) (x := (0, false, 0, [])) (ao := none) (ac := 0) (argR_none _) (fun a e => by cases e)).take l0.length (by simp)
    simpa using q
  have k4 : Kept (fun k => k = g) W3 (put4F W3 g (l0.length * 4) (.int .i64 0) (.bool false) (.int .i64 0) (.slice none 0 0)) := put4F_kept _ _ _ _ _ _ _
  obtain ⟨_, _, _, _, e, v0, v1, v2, v3, -⟩ := q0.top
  simp only [Value.slice.injEq, Option.some.injEq, Addr.mk.injEq, and_true] at e
  obtain ⟨rfl, -, rfl⟩ := e
  have fz : ∀ o, W3.frozen? ⟨g, o, none⟩ = false := fun o => by
    obtain ⟨-, -, -, cur, hc⟩ := q0.block (k := g) rfl
    exact frozenAt hc o
  have z0 := fz (l0.length * 4)
  have z1 := fz (l0.length * 4 + 1)
  have z2 := fz (l0.length * 4 + 2)
  have z3 := fz (l0.length * 4 + 3)
  clear fz q0
  obtain ⟨y1, y2, hR5, hN5, q⟩ := pop_plain p K3 (rb := w.heap.size) (nb := w1.heap.size) (Nat.le_refl _) (by omega) hR hN r4 k4 (k13.row hr (fun _ _ f => f)) (by omega)
  have QQ : Hid (PopQ 53 B base w s (.slice (some ⟨g, 0, none⟩) (l0.length + 1) cap) l0 x bo bc (put4F ((put4F W3 g (l0.length * 4) (.int .i64 0) (.bool false) (.int .i64 0) (.slice none 0 0)).setCell ⟨s, 0, none⟩ (.slice (some ⟨g, 0, none⟩) l0.length cap)) w.heap.size 0 (.int .i64 x.1) (.bool x.2.1) (.int .i64 x.2.2.1) (.slice bo x.2.2.2.length bc))) := q
  obtain ⟨W5, hW5⟩ : ∃ W5, W5 = ((put4F W3 g (l0.length * 4) (.int .i64 0) (.bool false) (.int .i64 0) (.slice none 0 0)).setCell ⟨s, 0, none⟩ (.slice (some ⟨g, 0, none⟩) l0.length cap)) := ⟨_, rfl⟩
  rw [← hW5] at hR5 hN5 QQ
  obtain ⟨b0, b1, b2, b3⟩ := box4 hR5
  obtain ⟨g0, g1, g2, g3⟩ := free4 hR5
  obtain ⟨m0, m1, m2, m3⟩ := box4 hN5
  have hm := HM.out
  have i0 : (0 : Int) ≤ (l0.length : Int) := by omega
  have i1 : (l0.length : Int) < (l0.length : Int) + 1 := by omega
  have i5 : (l0.length : Int) ≤ (cap : Int) := by have := HC.out; omega
  have i2 : (l0.length : Int) < 9223372036854775807 := by omega
  have i4 : IntKind.i64.wrap (l0.length : Int) = (l0.length : Int) := fwrap (by omega) (by omega)
  clear hm hW3 hN hR hN5 hR5 k0 hb0 k13 hz0 hz1 hk hr q CT HM HC HP HK0 hz
  clear p r4 k4 K3
  obtain ⟨W4, hW4⟩ : ∃ W4, W4 = (put4F W3 g (l0.length * 4) (.int .i64 0) (.bool false) (.int .i64 0) (.slice none 0 0)) := ⟨_, rfl⟩
  rw [← hW4] at y1 y2 hW5
  simp only [put4F] at hW4
  go_upto_region 6 with fail
  rw [← hW4]
  clear hW4 v0 v1 v2 v3 z0 z1 z2 z3 c3
  go_upto_region 7 with fail
  rw [← hW5]
  clear hW5 y1 y2
  go_wp2
  exact bodyPost_ret (v := .tuple #[frV x bo bc, .int .i64 0]) (by simp [results, Try.results16, go_sem, b0, b1, b2, b3]) rfl ⟨bo, bc, rfl, QQ.out⟩
set_option maxHeartbeats 2000000 in
theorem rpop_yes {B : Nat → Prop} {base : Nat} {w : World} {s : Nat} {v : Value} {l0 : List Fr} {x : Fr} (p : SpT 55 B base w s v (l0 ++ [x])) :
    Calls Try.prog 30 #[.pointer (some ⟨s, 0, none⟩)] w fun e w' => ∃ bo bc, e = .returned (.tuple #[frV x bo bc, .int .i64 0]) ∧ PopQ 55 B base w s v l0 x bo bc w' := by
  obtain ⟨W0, hW0⟩ : ∃ W0, W0 = w.alloc (.cells #[.int .i64 0, .bool false, .int .i64 0, .slice none 0 0] 30) := ⟨_, rfl⟩
  have k0 : Same0 w W0 := by rw [hW0]; exact (Kept.refl _ w).alloc _
  have hb0 : W0.heap[w.heap.size]? = some (.cells #[.int .i64 0, .bool false, .int .i64 0, .slice none 0 0] 30 (0, 0)) := by rw [hW0]; exact heap_alloc_new w _
  have hz : Hid (w.heap.size + 1 = W0.heap.size) := by show _ = _; rw [hW0]; simp
  have CT := rtop_yes (p.same k0)
  obtain ⟨g, cap, _, _, rfl, -, -, -, -, -, -, hm1, hm2⟩ := p.row.top
  have HM : Hid (l0.length + 1 ≤ 9223372036854775807) := hm2
  have HC : Hid (l0.length + 1 ≤ cap) := hm1
  have HP : Hid (SpT 55 B base w s (.slice (some ⟨g, 0, none⟩) (l0.length + 1) cap) (l0 ++ [x])) := p
  have HK0 : Hid (Same0 w W0 ∧ W0.heap[w.heap.size]? = some (.cells #[.int .i64 0, .bool false, .int .i64 0, .slice none 0 0] 30 (0, 0))) := ⟨k0, hb0⟩
  clear p k0 hb0 hm1 hm2
  go_enter Try.func30, Try.ntmps30
  go_upto_region 1 with fail
  rw [← hW0]
  clear hW0
  go_upto_region 2 with (first | (go_at_call 29; refine CT.mono ?_; rintro e w1 ⟨bo, bc, rfl, hr, hk⟩))
  obtain ⟨W3, hW3⟩ : ∃ W3, W3 = w1.alloc (.cells #[.int .i64 x.1, .bool x.2.1, .int .i64 x.2.2.1, .slice bo x.2.2.2.length bc] 30) := ⟨_, rfl⟩
  rw [← hW3]
  have p := HP.out
  obtain ⟨k0, hb0⟩ := HK0.out
  have k13 : Same0 w1 W3 := by rw [hW3]; exact (Kept.refl _ _).alloc _
  have K3 : Same0 w W3 := (k0.trans' hk).trans' k13
  have hN : W3.heap[w1.heap.size]? = some (.cells #[.int .i64 x.1, .bool x.2.1, .int .i64 x.2.2.1, .slice bo x.2.2.2.length bc] 30 (0, 0)) := by rw [hW3]; exact heap_alloc_new w1 _
  have hR : W3.heap[w.heap.size]? = some (.cells #[.int .i64 0, .bool false, .int .i64 0, .slice none 0 0] 30 (0, 0)) := (hk.trans' k13).at0 hb0
  have hz0 := hz.out
  have hz1 := hk.size
  have c3 := (p.same K3).cell.1
  have r4 : FRow B base W3.drew (.slice (some ⟨g, 0, none⟩) l0.length cap) l0 := by
    have q := (p.same (K3.drew)).row.take l0.length (by omega)
    simpa using q
  have k4 : Kept (fun k => k = g) W3 W3.drew := (Kept.refl _ _).drew
  obtain ⟨y1, y2, hR5, hN5, q⟩ := pop_plain p K3 (rb := w.heap.size) (nb := w1.heap.size) (Nat.le_refl _) (by omega) hR hN r4 k4 (k13.row hr (fun _ _ f => f)) (by omega)
  have QQ : Hid (PopQ 55 B base w s (.slice (some ⟨g, 0, none⟩) (l0.length + 1) cap) l0 x bo bc (put4F (W3.drew.setCell ⟨s, 0, none⟩ (.slice (some ⟨g, 0, none⟩) l0.length cap)) w.heap.size 0 (.int .i64 x.1) (.bool x.2.1) (.int .i64 x.2.2.1) (.slice bo x.2.2.2.length bc))) := q
  obtain ⟨W5, hW5⟩ : ∃ W5, W5 = (W3.drew.setCell ⟨s, 0, none⟩ (.slice (some ⟨g, 0, none⟩) l0.length cap)) := ⟨_, rfl⟩
  rw [← hW5] at hR5 hN5 QQ
  obtain ⟨b0, b1, b2, b3⟩ := box4 hR5
  obtain ⟨g0, g1, g2, g3⟩ := free4 hR5
  obtain ⟨m0, m1, m2, m3⟩ := box4 hN5
  have hm := HM.out
  have i0 : (0 : Int) ≤ (l0.length : Int) := by omega
  have i1 : (l0.length : Int) < (l0.length : Int) + 1 := by omega
  have i5 : (l0.length : Int) ≤ (cap : Int) := by have := HC.out; omega
  have i2 : (l0.length : Int) < 9223372036854775807 := by omega
  have i4 : IntKind.i64.wrap (l0.length : Int) = (l0.length : Int) := fwrap (by omega) (by omega)
  clear hm hW3 hN hR hN5 hR5 k0 hb0 k13 hz0 hz1 hk hr q CT HM HC HP HK0 hz
  have e0 := ((p.same K3.drew).cell).1
  clear p r4 k4 K3
  go_upto_region 3 with fail
  go_region
  all_goals
    have hW6 : W5 = (W3.setCell ⟨s, 0, none⟩ (.slice (some ⟨g, 0, none⟩) l0.length cap)).drew := hW5
    rw [← hW6]
    clear hW5 hW6 y1 y2 e0 c3
    go_wp2
    exact bodyPost_ret (v := .tuple #[frV x bo bc, .int .i64 0]) (by simp [results, Try.results30, go_sem, b0, b1, b2, b3]) rfl ⟨bo, bc, rfl, QQ.out⟩
end Go.Proofs.Ytikcocjbbbdmgaa
