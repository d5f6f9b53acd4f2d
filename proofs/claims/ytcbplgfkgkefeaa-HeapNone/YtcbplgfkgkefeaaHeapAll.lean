/- The iterator All of no heap; the walk of ranged of no heap. -/
import Derived.Test.YtcbplgfkgkefeaaCodeRangeX
import Derived.Test.YtcbplgfkgkefeaaHeapRow
import Derived.Shelf.Abstract
import Derived.OwnWalkIn
import Derived.TacticsInMore
import Derived.LoopNIn
import Derived.LoopIn
namespace Go.Proofs.Ytcbplgfkgkefeaa
set_option maxRecDepth 100000
set_option linter.unusedVariables false
open Go.RowKit Go.Shelf
attribute [local go_sem] Oper.semAt_some
theorem hall_in (F : Fence) (n : Nat) (h22 : F.fn 30) (hro : F.round = none) (p0 : Option Addr) (w : World) :
    CallsIn F n Try.prog 30 #[.pointer p0] w fun e w' => e = .returned (.func (.func 52) #[] #[.pointer (some ⟨w.heap.size, 0, none⟩)]) ∧ w' = w.alloc (.cells #[.pointer p0] 24) := by
  refine callsIn_of_wp Try.func30 rfl h22 ?_ hro
  simp only [Try.ntmps30, List.size_toArray, List.length_cons, List.length_nil, Nat.reduceAdd, Nat.reduceSub, Array.replicate_succ, Array.replicate_zero, List.push_toArray, List.append_toArray, List.nil_append, List.cons_append]
  gi_wp2
  go_ret
  exact ⟨rfl, rfl⟩
theorem hands_none {n : Nat} {w : World} {Bn : Nat} (hbx : w.cell? ⟨Bn, 0, none⟩ = some (.pointer none)) (hn : 1 ≤ n) :
    Hands Fence.wide n Try.prog 52 #[.pointer (some ⟨Bn, 0, none⟩)] w.heap.size 0 (fun _ _ _ => False) w := by
  intro l J W hW hJ hY h0
  have hFn : ∀ k, Fence.wide.fn k := fun _ => trivial
  have s1 : W.cell? ⟨Bn, 0, none⟩ = some (.pointer none) := (hW.cell (p := ⟨Bn, 0, none⟩) (World.block_lt_of_cell? _ _ hbx) (fun f => f)).trans hbx
  refine callsIn_of_wp Try.func52 rfl trivial ?_ rfl
  simp only [Try.ntmps52, List.size_toArray, List.length_cons, List.length_nil, Nat.reduceAdd, Nat.reduceSub, Array.replicate_succ, Array.replicate_zero, List.push_toArray, List.append_toArray, List.nil_append, List.cons_append]
  gi_wp2
  refine bodyPost_ret (results_none rfl _ _ _) rfl ?_
  exact ⟨⟨_, rfl⟩, h0⟩
theorem kept_putH {W : World} {l : Nat} {o' : Obj} : Kept (fun k => k = l) W (W.putObj l o') :=
  ⟨rfl, rfl, rfl, by simp, fun k _ hn => World.putObj_heap_other hn⟩
set_option maxHeartbeats 4000000 in
theorem ranged_none (w : World) : Calls Try.prog 34 #[.pointer none] w fun e w' => e = .returned (.tuple #[.slice none 0 0, .bool true]) ∧ Same0 w w' := by
  have hFn : ∀ k, Fence.wide.fn k := fun _ => trivial
  obtain ⟨W0, hW0⟩ : ∃ W0, W0 = (((w.alloc (.cells #[.slice none 0 0] 32)).alloc (.cells #[.bool false] 4)).alloc (.cells #[.slice none 0 0] 32)).alloc (.cells #[.pointer none] 24) := ⟨_, rfl⟩
  have K0 : Same0 w W0 := by rw [hW0]; exact ((((Kept.refl _ w).alloc _).alloc _).alloc _).alloc _
  have z0 : W0.heap.size = w.heap.size + 4 := by rw [hW0]; simp
  refine (callsIn_wide (n := 9)).1 ?_
  refine callsIn_of_wp_marks Try.func34 rfl trivial ?_ rfl
  simp only [Try.ntmps34, List.size_toArray, List.length_cons, List.length_nil, Nat.reduceAdd, Nat.reduceSub, Array.replicate_succ, Array.replicate_zero, List.push_toArray, List.append_toArray, List.nil_append, List.cons_append]
  gi_wp2_with (gi_at_call 30; refine (hall_in Fence.wide _ trivial rfl _ _).mono ?_; rintro e w' ⟨rfl, rfl⟩)
  have b3 : W0.cell? ⟨w.heap.size + 1 + 1 + 1, 0, none⟩ = some (.pointer none) := by
    rw [hW0]
    have := heap_alloc_new (((w.alloc (.cells #[.slice none 0 0] 32)).alloc (.cells #[.bool false] 4)).alloc (.cells #[.slice none 0 0] 32)) (.cells #[.pointer none] 24)
    simp only [World.size_alloc] at this
    exact cellAt this 0
  have b0 : W0.heap[w.heap.size]? = some (.cells #[.slice none 0 0] 32 (0, 0)) := by
    rw [hW0, heap_alloc_old _ _ (by simp; omega), heap_alloc_old _ _ (by simp; omega), heap_alloc_old _ _ (by simp)]; exact heap_alloc_new w _
  have b1 : W0.heap[w.heap.size + 1]? = some (.cells #[.bool false] 4 (0, 0)) := by
    rw [hW0, heap_alloc_old _ _ (by simp), heap_alloc_old _ _ (by simp)]
    have := heap_alloc_new (w.alloc (.cells #[.slice none 0 0] 32)) (.cells #[.bool false] 4)
    simpa using this
  have b2 : W0.heap[w.heap.size + 1 + 1]? = some (.cells #[.slice none 0 0] 32 (0, 0)) := by
    rw [hW0, heap_alloc_old _ _ (by simp)]
    have := heap_alloc_new ((w.alloc (.cells #[.slice none 0 0] 32)).alloc (.cells #[.bool false] 4)) (.cells #[.slice none 0 0] 32)
    simpa using this
  rw [← hW0]
  clear hW0
  refine wp_hands rfl (by omega) (gf := 52) (lb := #[.pointer (some ⟨w.heap.size + 1 + 1 + 1, 0, none⟩)]) rfl trivial (enters_of Try.func52 (by kernel_rfl) rfl) (B := W0.heap.size) (Nat.le_refl _) (hands_none b3 (by omega)) (fun k vs W h => h.elim)
    (fun _ W => Same0 W0 W) (fun k X Y h hk => h.trans' hk) (fun k X l o o' h hl ho hw => Kept.trans h kept_putH (fun i hi e => by omega)) (Kept.refl _ _) ?round ?done
  case round => exact fun l k vs W hk => absurd hk (Nat.not_lt_zero _)
  case done =>
    rintro D W hD hj hD2
    have ks : Kept (fun q => q = D) W (W.putObj D (.deferred none)) := kept_putH
    have g0 := hj.at0 b0
    have g1 := hj.at0 b1
    have g2 := hj.at0 b2
    have v0 := cellAt g0 0
    have v1 := cellAt g1 0
    have v2 := cellAt g2 0
    have f0 := frozenAt g0 0
    have f1 := frozenAt g1 0
    simp only [List.getElem?_toArray, List.getElem?_cons_zero] at v0 v1 v2
    gi_wp2_with fail
    obtain ⟨Wx, hWx⟩ : ∃ Wx, Wx = (W.setCell ⟨w.heap.size, 0, none⟩ (.slice none 0 0)).setCell ⟨w.heap.size + 1, 0, none⟩ (.bool true) := ⟨_, rfl⟩
    have kx : Kept (fun q => q = w.heap.size ∨ q = w.heap.size + 1) W Wx := by
      rw [hWx]
      exact Kept.setCell (S := fun q => q = w.heap.size ∨ q = w.heap.size + 1) (Kept.setCell (S := fun q => q = w.heap.size ∨ q = w.heap.size + 1) (Kept.refl _ _) (p := ⟨w.heap.size, 0, none⟩) (fun _ => .inl rfl) _) (p := ⟨w.heap.size + 1, 0, none⟩) (fun _ => .inr rfl) _
    have x0 : Wx.heap[w.heap.size]? = some (.cells #[.slice none 0 0] 32 (0, 0)) := by
      rw [hWx]
      exact (Below.heap_setCell _ _ _ _ (by simp)).trans (setAt g0 0 (.slice none 0 0))
    have x1 : Wx.heap[w.heap.size + 1]? = some (.cells #[.bool true] 4 (0, 0)) := by
      rw [hWx]
      exact setAt ((Below.heap_setCell _ _ _ _ (by simp)).trans g1) 0 (.bool true)
    have xD := kx.at hD2 (by omega)
    rw [← hWx]
    have ks' : Kept (fun q => q = D) Wx (Wx.putObj D (.deferred none)) := kept_putH
    have y0 := cellAt (ks'.at x0 (by omega)) 0
    have y1 := cellAt (ks'.at x1 (by omega)) 0
    simp only [List.getElem?_toArray, List.getElem?_cons_zero] at y0 y1
    refine ⟨by simp, .inl ⟨_, _, rfl, run_takeDeferred xD, ?_⟩⟩
    refine ⟨.tuple #[.slice none 0 0, .bool true], by simp [results, Try.results34, go_sem, y0, y1], rfl, ?_⟩
    have h1 : Kept (fun q => q = w.heap.size ∨ q = w.heap.size + 1) W0 Wx := (Kept.mono hj (fun _ _ f => f.elim)).trans kx (fun _ _ e => e)
    exact (K0.trans h1 (fun i hi e => by omega)).trans ks' (fun i hi e => by omega)
end Go.Proofs.Ytcbplgfkgkefeaa
