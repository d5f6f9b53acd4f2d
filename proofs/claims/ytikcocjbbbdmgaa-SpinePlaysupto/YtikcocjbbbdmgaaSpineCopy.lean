/- A frame in new memory: the program's copied, the document's Own. -/
import Derived.Test.YtikcocjbbbdmgaaSpineMem
namespace Go.Proofs.Ytikcocjbbbdmgaa
set_option maxRecDepth 100000
set_option linter.unusedVariables false
open Go.RowKit
attribute [local go_sem ↓] Go.wp_at_zero Go.wp_at_succ
theorem box4 {w : World} {b : Nat} {v0 v1 v2 v3 : Value} {t : TypeId} (h : w.heap[b]? = some (.cells #[v0, v1, v2, v3] t (0, 0))) : w.cell? ⟨b, 0, none⟩ = some v0 ∧ w.cell? ⟨b, 1, none⟩ = some v1 ∧ w.cell? ⟨b, 2, none⟩ = some v2 ∧ w.cell? ⟨b, 3, none⟩ = some v3 :=
  ⟨cellAt h 0, cellAt h 1, cellAt h 2, cellAt h 3⟩
theorem free4 {w : World} {b : Nat} {cs : Array Value} {t : TypeId} (h : w.heap[b]? = some (.cells cs t (0, 0))) : w.frozen? ⟨b, 0, none⟩ = false ∧ w.frozen? ⟨b, 1, none⟩ = false ∧ w.frozen? ⟨b, 2, none⟩ = false ∧ w.frozen? ⟨b, 3, none⟩ = false :=
  ⟨frozenAt h 0, frozenAt h 1, frozenAt h 2, frozenAt h 3⟩
theorem set5_kept (w : World) (a b : Nat) (v v0 v1 v2 v3 : Value) : Kept (fun k => k = a ∨ k = b) w (put4F (w.setCell ⟨a, 3, none⟩ v) b 0 v0 v1 v2 v3) :=
  (Kept.setCell (S := fun k => k = a ∨ k = b) (Kept.refl _ w) (p := ⟨a, 3, none⟩) (fun _ => .inl rfl) v).trans (put4F_kept _ _ _ _ _ _ _) (fun _ _ e => .inr e)
set_option maxHeartbeats 1000000 in
theorem fcopied_any {w : World} {x : Fr} {ao : Option Addr} {ac : Nat} (hx : Arg w ao x.2.2.2 ac) :
    Calls Try.prog 37 #[frV x ao ac] w fun e w' => ∃ bo bc, e = .returned (frV x bo bc) ∧ Row w.heap.size w' (.slice bo x.2.2.2.length bc) x.2.2.2 ∧ Same0 w w' := by
  have k1 : Same0 w (w.alloc (.cells #[.int .i64 x.1, .bool x.2.1, .int .i64 x.2.2.1, .slice ao x.2.2.2.length ac] 30)) := (Kept.refl _ w).alloc _
  have k2 : Same0 w ((w.alloc (.cells #[.int .i64 x.1, .bool x.2.1, .int .i64 x.2.2.1, .slice ao x.2.2.2.length ac] 30)).alloc (.cells #[.int .i64 0, .bool false, .int .i64 0, .slice none 0 0] 30)) := k1.alloc _
  have C := cloneI_any (cap := ac) (show Arg _ ao x.2.2.2 ac from ⟨hx.at'.same k2, hx.cap', hx.nil, hx.size⟩)
  simp only [World.size_alloc] at C
  have hb1 : ((w.alloc (.cells #[.int .i64 x.1, .bool x.2.1, .int .i64 x.2.2.1, .slice ao x.2.2.2.length ac] 30)).alloc (.cells #[.int .i64 0, .bool false, .int .i64 0, .slice none 0 0] 30)).heap[w.heap.size]? = some (.cells #[.int .i64 x.1, .bool x.2.1, .int .i64 x.2.2.1, .slice ao x.2.2.2.length ac] 30 (0, 0)) := (Below.heap_alloc _ _ _ (by simp)).trans (heap_alloc_new w _)
  have hb2 := heap_alloc_new (w.alloc (.cells #[.int .i64 x.1, .bool x.2.1, .int .i64 x.2.2.1, .slice ao x.2.2.2.length ac] 30)) (.cells #[.int .i64 0, .bool false, .int .i64 0, .slice none 0 0] 30)
  have HB : Hid (∀ ww, Same0 ((w.alloc (.cells #[.int .i64 x.1, .bool x.2.1, .int .i64 x.2.2.1, .slice ao x.2.2.2.length ac] 30)).alloc (.cells #[.int .i64 0, .bool false, .int .i64 0, .slice none 0 0] 30)) ww → ww.heap[w.heap.size]? = some (.cells #[.int .i64 x.1, .bool x.2.1, .int .i64 x.2.2.1, .slice ao x.2.2.2.length ac] 30 (0, 0)) ∧ ww.heap[w.heap.size + 1]? = some (.cells #[.int .i64 0, .bool false, .int .i64 0, .slice none 0 0] 30 (0, 0))) := fun ww hk => ⟨hk.at0 hb1, by have := hk.at0 hb2; simpa using this⟩
  have HK : Hid (∀ ww, Same0 ((w.alloc (.cells #[.int .i64 x.1, .bool x.2.1, .int .i64 x.2.2.1, .slice ao x.2.2.2.length ac] 30)).alloc (.cells #[.int .i64 0, .bool false, .int .i64 0, .slice none 0 0] 30)) ww → Same0 w ww) := fun ww hk => k2.trans' hk
  clear hb1 hb2 k1 k2 hx
  go_enter Try.func37, Try.ntmps37
  go_upto_region 2 with (first | (go_at_call 43; refine C.mono ?_; rintro e w1 ⟨v, rfl, hr, hk⟩; obtain ⟨bo, bc, rfl⟩ := row_shape hr; have hbb : ∀ a, bo = some a → w.heap.size + 1 + 1 ≤ a.block := fun a e => (hr.lt a.block (by rw [e]; rfl)).1; obtain ⟨q1, q2⟩ := HB.out w1 hk; obtain ⟨a0, a1, a2, a3⟩ := box4 q1; obtain ⟨b0, b1, b2, b3⟩ := box4 q2; have f3 := frozenAt q1 3; obtain ⟨g0, g1, g2, g3⟩ := free4 q2; clear q1 q2))
  go_wp2
  have K6 := set5_kept w1 w.heap.size (w.heap.size + 1) (.slice bo x.2.2.2.length bc) (.int .i64 x.1) (.bool x.2.1) (.int .i64 x.2.2.1) (.slice bo x.2.2.2.length bc)
  have R1 := row_mono (K6.row hr (fun k e s => by
    cases bo with
    | none => cases e
    | some a => have := hbb a rfl; have : a.block = k := Option.some.inj e; omega)) (show w.heap.size ≤ w.heap.size + 1 + 1 by omega)
  have R2 : Same0 w _ := (HK.out w1 hk).trans K6 (fun i hi e => by omega)
  exact bodyPost_ret (v := frV x bo bc) (by simp [results, Try.results37, go_sem, b0, b1, b2, b3]) rfl ⟨bo, bc, rfl, R1, R2⟩
set_option maxHeartbeats 1000000 in
theorem fown_any {w : World} {x : Fr} {ao : Option Addr} {ac : Nat} (hx : Arg w ao x.2.2.2 ac) :
    Calls Try.prog 42 #[frV x ao ac] w fun e w' => ∃ bo bc, e = .returned (frV x bo bc) ∧ Row w.heap.size w' (.slice bo x.2.2.2.length bc) x.2.2.2 ∧ Same0 w w' := by
  have k1 : Same0 w (w.alloc (.cells #[.int .i64 x.1, .bool x.2.1, .int .i64 x.2.2.1, .slice ao x.2.2.2.length ac] 30)) := (Kept.refl _ w).alloc _
  have k2 : Same0 w ((w.alloc (.cells #[.int .i64 x.1, .bool x.2.1, .int .i64 x.2.2.1, .slice ao x.2.2.2.length ac] 30)).alloc (.cells #[.int .i64 0, .bool false, .int .i64 0, .slice none 0 0] 30)) := k1.alloc _
  have C := rcopied_row (cap := ac) (show Arg _ ao x.2.2.2 ac from ⟨hx.at'.same k2, hx.cap', hx.nil, hx.size⟩)
  simp only [World.size_alloc] at C
  have hb1 : ((w.alloc (.cells #[.int .i64 x.1, .bool x.2.1, .int .i64 x.2.2.1, .slice ao x.2.2.2.length ac] 30)).alloc (.cells #[.int .i64 0, .bool false, .int .i64 0, .slice none 0 0] 30)).heap[w.heap.size]? = some (.cells #[.int .i64 x.1, .bool x.2.1, .int .i64 x.2.2.1, .slice ao x.2.2.2.length ac] 30 (0, 0)) := (Below.heap_alloc _ _ _ (by simp)).trans (heap_alloc_new w _)
  have hb2 := heap_alloc_new (w.alloc (.cells #[.int .i64 x.1, .bool x.2.1, .int .i64 x.2.2.1, .slice ao x.2.2.2.length ac] 30)) (.cells #[.int .i64 0, .bool false, .int .i64 0, .slice none 0 0] 30)
  have HB : Hid (∀ ww, Same0 ((w.alloc (.cells #[.int .i64 x.1, .bool x.2.1, .int .i64 x.2.2.1, .slice ao x.2.2.2.length ac] 30)).alloc (.cells #[.int .i64 0, .bool false, .int .i64 0, .slice none 0 0] 30)) ww → ww.heap[w.heap.size]? = some (.cells #[.int .i64 x.1, .bool x.2.1, .int .i64 x.2.2.1, .slice ao x.2.2.2.length ac] 30 (0, 0)) ∧ ww.heap[w.heap.size + 1]? = some (.cells #[.int .i64 0, .bool false, .int .i64 0, .slice none 0 0] 30 (0, 0))) := fun ww hk => ⟨hk.at0 hb1, by have := hk.at0 hb2; simpa using this⟩
  have HK : Hid (∀ ww, Same0 ((w.alloc (.cells #[.int .i64 x.1, .bool x.2.1, .int .i64 x.2.2.1, .slice ao x.2.2.2.length ac] 30)).alloc (.cells #[.int .i64 0, .bool false, .int .i64 0, .slice none 0 0] 30)) ww → Same0 w ww) := fun ww hk => k2.trans' hk
  clear hb1 hb2 k1 k2 hx
  go_enter Try.func42, Try.ntmps42
  go_upto_region 2 with (first | (go_at_call 44; refine C.mono ?_; rintro e w1 ⟨v, rfl, hr, hk⟩; obtain ⟨bo, bc, rfl⟩ := row_shape hr; have hbb : ∀ a, bo = some a → w.heap.size + 1 + 1 ≤ a.block := fun a e => (hr.lt a.block (by rw [e]; rfl)).1; obtain ⟨q1, q2⟩ := HB.out w1 hk; obtain ⟨a0, a1, a2, a3⟩ := box4 q1; obtain ⟨b0, b1, b2, b3⟩ := box4 q2; have f3 := frozenAt q1 3; obtain ⟨g0, g1, g2, g3⟩ := free4 q2; clear q1 q2))
  go_wp2
  have K6 := set5_kept w1 w.heap.size (w.heap.size + 1) (.slice bo x.2.2.2.length bc) (.int .i64 x.1) (.bool x.2.1) (.int .i64 x.2.2.1) (.slice bo x.2.2.2.length bc)
  have R1 := row_mono (K6.row hr (fun k e s => by
    cases bo with
    | none => cases e
    | some a => have := hbb a rfl; have : a.block = k := Option.some.inj e; omega)) (show w.heap.size ≤ w.heap.size + 1 + 1 by omega)
  have R2 : Same0 w _ := (HK.out w1 hk).trans K6 (fun i hi e => by omega)
  exact bodyPost_ret (v := frV x bo bc) (by simp [results, Try.results42, go_sem, b0, b1, b2, b3]) rfl ⟨bo, bc, rfl, R1, R2⟩
end Go.Proofs.Ytikcocjbbbdmgaa
