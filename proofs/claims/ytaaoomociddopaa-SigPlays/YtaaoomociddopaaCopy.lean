/- The walks of slices.Clone, maps.Clone and Copy. -/
import Derived.Test.YtaaoomociddopaaSigAtW
import Derived.Laws.Externs
import Derived.MapKept
import Derived.Deep.RegionWith
import Derived.Deep.DrawnRows
namespace Go.Proofs.Ytaaoomociddopaa
open Go.RowKit
attribute [local go_sem ↓] Go.wp_at_zero Go.wp_at_succ
theorem eql_slice (ao : Option Addr) (n c : Nat) (w : World) : (binOp .eql 29 (.slice ao n c) (.slice none 0 0)).run Try.prog w = .ok (.bool ao.isNone) w := by
  cases ao <;> kernel_rfl
set_option maxHeartbeats 1000000 in
theorem clone_nil (n c : Nat) (w : World) : Calls Try.prog 34 #[.slice none n c] w fun e w' => e = .returned (.slice none 0 0) ∧ w' = w := by
  have he := eql_slice
  go_enter Try.func34, Try.ntmps34
  go_wp2
  go_ret
  exact ⟨rfl, rfl⟩
set_option maxHeartbeats 1000000 in
theorem clone_some (a : Addr) (n c : Nat) (xs : List Value) (w : World) (hl : xs.length = n * 3) (hc : ∀ j u, xs[j]? = some u → w.cell? (a.add j) = some u) (h1 : ∀ u ∈ xs, u.oneCell' = true) (hn : n ≤ 64) :
    Calls Try.prog 34 #[.slice (some a) n c] w fun e w' => ∃ v, e = .returned v ∧ w'.ownsRow w.heap.size 35 3 v n xs ∧ Kept (fun _ => False) w w' := by
  have he := eql_slice
  obtain ⟨i0, hi0, hz0, hz1, hz2⟩ := info_parts info_Symbol
  go_enter Try.func34, Try.ntmps34
  have hown : (w.alloc (.cells #[] 35)).ownsRow w.heap.size 35 3 (.slice (some ⟨w.heap.size, 0, none⟩) 0 0) 0 [] := World.ownsRow_made w #[] 0 (Nat.le_refl _) (by simp) (by simp)
  have hnews : ∀ j u, xs[j]? = some u → (w.alloc (.cells #[] 35)).cell? (a.add j) = some u := fun j u hu => by
    have h := hc j u hu
    rw [Kept.cell ((Kept.refl (fun _ => False) w).alloc _) (World.block_lt_of_cell? w _ h) (fun f => f)]
    exact h
  have b1 : 0 + n ≤ maxLen := by unfold maxLen; omega
  have b2 : (0 + n) * 32 ≤ 140737488355328 := by omega
  have b3 : w.heap.size ≤ (w.alloc (.cells #[] 35)).heap.size := by simp
  go_wp2_with (first | (at_builtin; refine wpList_append_own _ rfl _ _ 29 rfl w.heap.size 35 i0 _ 3 32 Try.underlying29 hi0 hz0 hz1 hz2 rfl (by omega) (.slice (some ⟨w.heap.size, 0, none⟩) 0 0) 0 [] rfl hown a n c xs rfl hl hnews h1 b1 b2 b3 ?_; intro v' w1 hown1 hgrow _))
  go_ret
  refine ⟨v', rfl, by simpa using hown1, ?_⟩
  exact Kept.grown (Kept.alloc (Kept.refl _ w) _) hgrow (fun k e hk => by simp only [Value.ownBlock, Option.some.injEq] at e; omega)
/-- slices.Clone of a row. -/
theorem clone_any {w : World} {v : Value} {L : List Sym} {base : Nat} (hr : w.ownsRow base 35 3 v L.length (symCells L)) (hn : L.length ≤ 64) :
    Calls Try.prog 34 #[v] w fun e w' => ∃ v', e = .returned v' ∧ w'.ownsRow w.heap.size 35 3 v' L.length (symCells L) ∧ Kept (fun _ => False) w w' := by
  rcases hr.2 with ⟨rfl, h0⟩ | ⟨g, cap, cur, rfl, _⟩
  · refine (clone_nil 0 0 w).mono ?_
    rintro e w' ⟨rfl, rfl⟩
    obtain rfl : L = [] := List.eq_nil_of_length_eq_zero h0
    exact ⟨_, rfl, World.ownsRow_nil _ _ _ _, Kept.refl _ _⟩
  · exact clone_some _ _ _ _ w (symCells_length L) (hr.cells rfl) (by
      intro u hu
      simp only [symCells, List.mem_flatMap] at hu
      obtain ⟨x, _, hx⟩ := hu
      simp at hx
      rcases hx with rfl | rfl | rfl <;> rfl) hn
theorem run_typeAssert_map (t xT k e : TypeId) (v : Value) (w : World) (h : Try.prog.underlying t = some (.map k e)) : (Instr.typeAssert (.iface t v) xT t false).run Try.prog w = .ok v w := by
  simp [Instr.typeAssert, run_underlying h, go_sem, Result.andThen]
theorem run_mclone {r : Nat} {es : Array MapEntry} {clock : Nat} (t : TypeId) (w : World) (hb : w.heap[r]? = some (.map es clock)) :
    (Extern.MapsClone.clone #[.iface t (.map (some r))]).run Try.prog w = .ok (.iface t (.map (some w.heap.size))) (w.alloc (.map es clock)) := by
  refine (Sem.run_bind _ _ _ _).trans ?_
  simp [MapKept.run_getObj_map hb, Result.andThen, go_sem]
set_option maxHeartbeats 2000000 in
theorem mclone_some (b : Nat) (es : Array MapEntry) (clock : Nat) (w : World) (hb : w.heap[b]? = some (.map es clock)) :
    Calls Try.prog 35 #[.map (some b)] w fun e w' => e = .returned (.map (some w.heap.size)) ∧ w' = w.alloc (.map es clock) := by
  have hq := fun w => eql_map (some b) w
  go_enter Try.func35, Try.ntmps35
  go_wp2
  rw [run_callFunc_extern Try.func40 (by kernel_rfl) (by kernel_rfl) (by kernel_rfl) (e := Extern.MapsClone.clone) (by kernel_rfl), run_mclone 57 w hb]
  simp only [Result.andThen]
  rw [Oper.upon_value]
  go_wp2
  rw [run_typeAssert_map 57 _ _ _ _ _ Try.underlying57]
  simp only [Result.andThen]
  rw [Oper.upon_value]
  go_wp2
  go_ret
  exact ⟨rfl, rfl⟩
set_option maxHeartbeats 2000000 in
theorem mclone_nil (w : World) : Calls Try.prog 35 #[.map none] w fun e w' => e = .returned (.map none) ∧ w' = w := by
  have hq := fun w => eql_map none w
  go_enter Try.func35, Try.ntmps35
  go_wp2
  go_ret
  exact ⟨rfl, rfl⟩
/-- maps.Clone of a signature's map. -/
theorem mclone_any {w : World} {mr : Option Nat} {L : List Sym} (h : MapIs w mr L) :
    Calls Try.prog 35 #[.map mr] w fun e w' => ∃ mr', e = .returned (.map mr') ∧ MapIs w' mr' L ∧ (∀ k, mr' = some k → k = w.heap.size ∧ w.heap.size < w'.heap.size) ∧ Kept (fun _ => False) w w' := by
  cases mr with
  | none =>
    refine (mclone_nil w).mono ?_
    rintro e w' ⟨rfl, rfl⟩
    exact ⟨none, rfl, h, by simp, Kept.refl _ _⟩
  | some bm =>
    obtain ⟨n, D, ⟨es, clock, hb, hF⟩, hn, hall⟩ := h
    refine (mclone_some bm es clock w hb).mono ?_
    rintro e w' ⟨rfl, rfl⟩
    exact ⟨some w.heap.size, rfl, ⟨n, D, ⟨es, clock, heap_alloc_new w _, hF⟩, hn, hall⟩, fun k e => ⟨by simpa using e.symm, by simp⟩, Kept.alloc (Kept.refl _ w) _⟩
theorem SigAt.c0 {w : World} {b : Nat} {L : List Sym} {sv : Value} {mr : Option Nat} (h : SigAt w b L sv mr) : w.cell? ⟨b, 0, none⟩ = some sv := cellAt h.blk 0
theorem SigAt.c1 {w : World} {b : Nat} {L : List Sym} {sv : Value} {mr : Option Nat} (h : SigAt w b L sv mr) : w.cell? ⟨b, 1, none⟩ = some (.map mr) := cellAt h.blk 1
/-- What Copy leaves: a signature of the same symbols, all of it new. -/
def Copied (w : World) (L : List Sym) (b' : Nat) (w' : World) : Prop := ∃ sv mr, SigAt w' b' L sv mr ∧ (∀ k, Foot b' sv mr k → w.heap.size ≤ k) ∧ Kept (fun _ => False) w w'
theorem copied_of {w w1 w2 : World} {L : List Sym} {v' : Value} {mr' : Option Nat} (hn : L.length ≤ 64) (hnm : ∀ x ∈ L, nameB x.name = true) (hr : w2.ownsRow w.heap.size 35 3 v' L.length (symCells L)) (hm : MapIs w2 mr' L) (hmk : ∀ k, mr' = some k → w.heap.size ≤ k ∧ k < w2.heap.size) (hk : Kept (fun _ => False) w w2) (_e : w1 = w2) :
    Copied w L w2.heap.size (w2.alloc (.cells #[v', .map mr'] 59)) := by
  have ha : Kept (fun _ => False) w2 (w2.alloc (.cells #[v', .map mr'] 59)) := Kept.alloc (Kept.refl _ _) _
  have hr' := ha.row hr (fun _ _ f => f)
  refine ⟨v', mr', ⟨heap_alloc_new w2 _, row_mono hr' (Nat.zero_le _), hm.kept ha (fun _ _ f => f), fun e => ?_, hn, hnm⟩, fun k hk' => ?_, hk.trans ha (fun _ _ f => f)⟩
  · have := (hr.lt _ e).2; omega
  · rcases hk' with e | e | e
    · have := hk.size; omega
    · exact (hr.lt k e).1
    · exact (hmk k e).1
set_option maxHeartbeats 2000000 in
theorem copy_any {w : World} {b : Nat} {L : List Sym} {sv : Value} {mr : Option Nat} (hs : SigAt w b L sv mr) :
    Calls Try.prog 16 #[.pointer (some ⟨b, 0, none⟩)] w fun e w' => ∃ b', e = .returned (.pointer (some ⟨b', 0, none⟩)) ∧ b' < w'.heap.size ∧ Copied w L b' w' := by
  have hsD : SigAt w.drew b L sv mr := hs.kept (Kept.drew (Kept.refl (fun _ => False) w)) (fun _ _ f => f)
  have q0 := hs.c0
  have q1 := hs.c1
  have hlen := hs.len
  go_enter Try.func16, Try.ntmps16
  go_wp2_with fail
  go_region_with (first
    | (go_at_call 34; refine (clone_any (L := L) (base := 0) (by first | exact hsD.row | exact hsB.row) hlen).mono ?_; rintro e w1 ⟨v', rfl, hv', hkv⟩; obtain ⟨ao, cp, rfl⟩ := row_shape hv'; have hsA : SigAt w1 b L sv mr := (by first | exact hsB.kept hkv (fun _ _ f => f) | exact hsD.kept hkv (fun _ _ f => f)); have qa := hsA.c1)
    | (go_at_call 35; refine (mclone_any (L := L) (by first | exact hsD.map | exact hsA.map)).mono ?_; rintro e w2 ⟨mr', rfl, hm', hmk, hkm⟩; have hsB : SigAt w2 b L sv mr := (by first | exact hsA.kept hkm (fun _ _ f => f) | exact hsD.kept hkm (fun _ _ f => f)); have qb := hsB.c0))
  all_goals
    go_wp2
    go_ret
    exact ⟨_, rfl, by simp, copied_of hlen hs.names (hkm.row hv' (fun _ _ f => f)) hm' (fun k e => ⟨by have h1 := (hmk k e).1; have h2 := hkv.size; simp at h2; omega, by have h1 := hmk k e; omega⟩) ((Kept.drew (Kept.refl _ w)).trans (hkv.trans hkm (fun _ _ f => f)) (fun _ _ f => f)) rfl⟩
end Go.Proofs.Ytaaoomociddopaa
