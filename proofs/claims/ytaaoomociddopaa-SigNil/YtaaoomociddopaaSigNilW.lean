/- The walk of SigNil: every call of no signature. -/
import Derived.Test.YtaaoomociddopaaOf
import Derived.Laws.StructEq
namespace Go.Proofs.Ytaaoomociddopaa
open Go.RowKit Go.Shelf
set_option maxHeartbeats 1000000 in
theorem refusal_nil (x : Sym) (w : World) : Calls Try.prog 36 #[.pointer none, symV x] w fun e w' => e = .returned (.int .i64 1) ∧ Kept (fun _ => False) w w' := by
  go_enter Try.func36, Try.ntmps36
  go_wp2
  go_ret
  exact ⟨rfl, Kept.alloc (Kept.refl _ w) _⟩
set_option maxHeartbeats 1000000 in
theorem add_nil (x : Sym) (w : World) : Calls Try.prog 18 #[.pointer none, symV x] w fun e w' => e = .returned (.tuple #[.int .i64 0, .int .i64 1]) ∧ Kept (fun _ => False) w w' := by
  go_enter Try.func18, Try.ntmps18
  go_wp2_with (first | (go_at_call 36; refine (refusal_nil x _).mono ?_; rintro e w1 ⟨rfl, hk⟩))
  go_ret2
  exact ⟨rfl, (Kept.alloc (Kept.refl _ w) _).trans hk (fun _ _ f => f)⟩
set_option maxHeartbeats 1000000 in
theorem at_nil (n : Int) (w : World) : Calls Try.prog 20 #[.pointer none, .int .i64 n] w fun e w' => e = .returned (.tuple #[.agg #[.string ⟨#[]⟩, .int .i64 0, .bool false], .int .i64 1]) ∧ Kept (fun _ => False) w w' := by
  go_enter Try.func20, Try.ntmps20
  go_wp2
  exact bodyPost_ret (v := .tuple #[.agg #[.string ⟨#[]⟩, .int .i64 0, .bool false], .int .i64 1]) (by simp [results, Try.results20, go_sem]) rfl ⟨rfl, Kept.alloc (Kept.refl _ w) _⟩
set_option maxHeartbeats 1000000 in
theorem find_nil (s : ByteArray) (w : World) : Calls Try.prog 21 #[.pointer none, .string s] w fun e w' => e = .returned (.tuple #[.int .i64 0, .int .i64 1]) ∧ w' = w := by
  go_enter Try.func21, Try.ntmps21
  go_wp2
  go_ret2
  exact ⟨rfl, rfl⟩
set_option maxHeartbeats 1000000 in
theorem len_nil (w : World) : Calls Try.prog 19 #[.pointer none] w fun e w' => e = .returned (.int .i64 0) ∧ w' = w := by
  go_enter Try.func19, Try.ntmps19
  go_wp2
  go_ret
  exact ⟨rfl, rfl⟩
set_option maxHeartbeats 1000000 in
theorem copy_nil (w : World) : Calls Try.prog 16 #[.pointer none] w fun e w' => e = .returned (.pointer none) ∧ w' = w := by
  go_enter Try.func16, Try.ntmps16
  go_wp2
  go_ret
  exact ⟨rfl, rfl⟩
theorem of_nil (d : Bool) (w : World) : Calls Try.prog 23 #[.pointer none, .bool d] w fun e w' => ∃ ao cap, e = .returned (.slice ao 0 cap) ∧ Below w.heap.size w w' := by
  refine ((callsIn_wide (n := 3)).1 (of_in Fence.wide 3 trivial trivial trivial rfl (by omega) none [] d w (.inl ⟨rfl, rfl⟩))).mono ?_
  rintro e w' ⟨v, rfl, hr, hb⟩
  rcases hr.2 with ⟨rfl, _⟩ | ⟨g, cap, cur, rfl, _⟩
  · exact ⟨_, _, rfl, hb⟩
  · exact ⟨_, _, rfl, hb⟩
theorem Kept.belowAll {w w' : World} (h : Kept (fun _ => False) w w') : Below w.heap.size w w' := h.below (Nat.le_refl _) (fun _ _ f => f)
theorem box_below {w w1 : World} {x : Sym} (hb : Below (w.alloc (boxOf x)).heap.size (w.alloc (boxOf x)) w1) : w1.cell? ⟨w.heap.size, 0, none⟩ = some (.string x.name) ∧ w1.cell? ⟨w.heap.size, 1, none⟩ = some (.int .i64 x.ar) ∧ w1.cell? ⟨w.heap.size, 2, none⟩ = some (.bool x.df) :=
  ⟨(hb.cell (p := ⟨w.heap.size, 0, none⟩) (by simp)).trans (cellAt (heap_alloc_new w _) 0), (hb.cell (p := ⟨w.heap.size, 1, none⟩) (by simp)).trans (cellAt (heap_alloc_new w _) 1), (hb.cell (p := ⟨w.heap.size, 2, none⟩) (by simp)).trans (cellAt (heap_alloc_new w _) 2)⟩
attribute [local go_sem] Oper.semAt_some
set_option maxRecDepth 100000 in
set_option maxHeartbeats 2000000 in
theorem nil_walk (x : Sym) (n : Int) (w : World) (_hs : x.name.size ≤ maxLen) :
    Calls Try.prog 7 #[symV x, .int .i64 n] w fun e w' => e = .returned (.bool true) ∧ Below w.heap.size w w' := by
  refine (callsIn_wide (n := 9)).1 ?_
  refine callsIn_of_wp_marks Try.func7 rfl trivial ?_ rfl
  simp only [Try.ntmps7, List.size_toArray, List.length_cons, List.length_nil, Nat.reduceAdd, Nat.reduceSub, Array.replicate_succ, Array.replicate_zero, List.push_toArray, List.append_toArray, List.nil_append, List.cons_append]
  have hFn : ∀ k, Fence.wide.fn k := fun _ => trivial
  gi_wp2_with (first | (gi_at_call 8; refine ((callsIn_wide).2 (awake_any _)).mono ?_; rintro e w1 ⟨rfl, hb1⟩; obtain ⟨x0, x1, x2⟩ := box_below hb1))
  refine ((callsIn_wide).2 (add_nil x _)).mono ?_
  rintro e w2 ⟨rfl, hk2⟩
  have hb2 := hb1.trans (hk2.belowAll.mono hb1.size)
  gi_wp2_with (fail)
  refine ((callsIn_wide).2 (at_nil n _)).mono ?_
  rintro e w3 ⟨rfl, hk3⟩
  have hb3 := hb2.trans (hk3.belowAll.mono hb2.size)
  have hb4 := hb3.trans (((Kept.refl (fun _ => False) w3).alloc (.cells #[.string ⟨#[]⟩, .int .i64 0, .bool false] 35)).belowAll.mono hb3.size)
  obtain ⟨y0, y1, y2⟩ := box_below hb4
  gi_wp2_with (fail)
  refine ((callsIn_wide).2 (find_nil x.name _)).mono ?_
  rintro e w' ⟨rfl, rfl⟩
  gi_wp2_with (gi_at_call 22; refine (all_in Fence.wide _ trivial rfl _ _).mono ?_; rintro e w' ⟨rfl, rfl⟩)
  have bM := (Boxed.new (w3.alloc (.cells #[.string ⟨#[]⟩, .int .i64 0, .bool false] 35)) 3 (.int .i64 0)).alloc (.cells #[.pointer none] 25)
  have bP := Boxed.new ((w3.alloc (.cells #[.string ⟨#[]⟩, .int .i64 0, .bool false] 35)).alloc (.cells #[.int .i64 0] 3)) 25 (.pointer none)
  have bY : (((w3.alloc (.cells #[.string ⟨#[]⟩, .int .i64 0, .bool false] 35)).alloc (.cells #[.int .i64 0] 3)).alloc (.cells #[.pointer none] 25)).heap[w3.heap.size]? = some (.cells #[.string ⟨#[]⟩, .int .i64 0, .bool false] 35 (0, 0)) := by
    rw [heap_alloc_old _ _ (by simp; omega), heap_alloc_old _ _ (by simp)]; exact heap_alloc_new w3 _
  have hb5 := (hb4.alloc (by have := hb4.size; simpa using this) (.cells #[.int .i64 0] 3)).alloc (by have := hb4.size; simp at this ⊢; omega) (.cells #[.pointer none] 25)
  simp only [World.size_alloc] at bM bP
  obtain ⟨W0, hW0⟩ : ∃ W0, ((w3.alloc (.cells #[.string ⟨#[]⟩, .int .i64 0, .bool false] 35)).alloc (.cells #[.int .i64 0] 3)).alloc (.cells #[.pointer none] 25) = W0 := ⟨_, rfl⟩
  have hsz : W0.heap.size = w3.heap.size + 3 := by rw [← hW0]; simp
  rw [hW0] at bM bP bY hb5 ⊢
  clear hW0 y0 y1 y2 x0 x1 x2
  refine wpIn_rangeFunc_ownH rfl (by omega) (gf := 37) (lb := #[.pointer (some ⟨w3.heap.size + 1 + 1, 0, none⟩)]) rfl trivial (enters_of Try.func37 (by kernel_rfl) rfl)
    (nil_stops Fence.wide _ trivial rfl (w3.heap.size + 1 + 1) W0.heap.size W0 (by omega) bP.cell) belowK_t (belowK_b (Nat.le_refl _)) (Below.refl _ _) (fun _ => rfl)
    (fun _ W => Below W0.heap.size W0 W) (fun _ _ _ => False) (ownFrom_below (Nat.le_refl _) (Nat.le_refl _)) (fun _ _ _ _ _ hs _ _ => hs) (Below.refl _ _)
    (fun _ _ _ => True) (fun _ _ _ _ _ _ _ _ _ => trivial) ?assign ?body ?done ?stop
  case assign =>
    rintro l pre z W K hi hK
    gi_wp2
    exact hK _ _ (KeepsFrom.refl _ _) (Below.refl _ _) hi trivial
  case body =>
    rintro l pre z a' W hl _ _ _ hlt
    omega
  case done =>
    rintro D zs W hD rfl hB hK
    have hbW := hb5.trans (hB.mono hb5.size)
    obtain ⟨y0, y1, y2⟩ := box_below hbW
    gi_wp2_with (fail)
    refine ((callsIn_wide).2 (of_nil x.df _)).mono ?_
    rintro e w5 ⟨ao, cap, rfl, hB5⟩
    have hB6 : Below W0.heap.size W0 w5 := hB.trans (hB5.mono hB.size)
    have bY6 := (hB6.block w3.heap.size (by omega)).trans bY
    have z0 := cellAt bY6 0
    have z1 := cellAt bY6 1
    have z2 := cellAt bY6 2
    simp only [List.getElem?_toArray, List.getElem?_cons_zero, List.getElem?_cons_succ] at z0 z1 z2
    have m0 : w5.cell? ⟨w3.heap.size + 1, 0, none⟩ = some (.int .i64 0) := (hB6.cell (p := ⟨w3.heap.size + 1, 0, none⟩) (by simp; omega)).trans bM.cell
    have hK6 := (hB5.block D (lt_of_at hK)).trans hK
    gi_wp2_with (first | (gi_at_call 16; refine ((callsIn_wide).2 (copy_nil _)).mono ?_; rintro e w' ⟨rfl, rfl⟩) | (gi_at_call 19; refine ((callsIn_wide).2 (len_nil _)).mono ?_; rintro e w' ⟨rfl, rfl⟩))
    have hfin : Below w.heap.size w w' := ((Below.refl _ w).alloc (Nat.le_refl _) _).trans ((hb5.trans (hB6.mono hb5.size)).mono (by simp))
    refine ⟨by simp, .inl ⟨_, _, rfl, run_takeDeferred hK6, ?_⟩⟩
    exact ⟨_, results_tmp rfl _ _ _, rfl, hfin.trans (belowK_b (w := w) (Nat.le_refl _) w' D _ _ (by have := hb5.size; simp at this; omega) hK6 rfl rfl)⟩
  case stop =>
    rintro D c pre W _ _ h _
    exact h.elim
end Go.Proofs.Ytaaoomociddopaa
