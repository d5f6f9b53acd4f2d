/- The walk of the document's Add where it takes the symbol; of its Of; of sameInts and pick. -/
import Derived.Test.YthhcnllabhfejaaRef
namespace Go.Proofs.Ythhcnllabhfejaa
set_option maxRecDepth 100000
open Go.RowKit
attribute [local go_sem ↓] Go.wp_at_zero Go.wp_at_succ
theorem radd_end {w wc w1 : World} {rb : Nat} {L : List Sym} {rv : Value} {x : Sym} {gg cap : Nat} (h : RefAt w rb L rv) (hrc : RefAt wc rb L rv) (hkp : Kept (fun _ => False) w wc)
    (hown1 : w1.ownsRow 0 48 3 (.slice (some ⟨gg, 0, none⟩) (L.length + 1) cap) (L.length + 1) (symCells L ++ [.string x.name, .int .i64 x.ar, .bool x.df]))
    (hgrow : (wc.alloc (boxOf x)).drew.grownBy w1 rv.ownBlock) (hat : rv.ownBlock = some gg ∨ gg = wc.heap.size + 1) :
    RMoved w rb rv (L ++ [x]) (w1.setCell ⟨rb, 0, none⟩ (.slice (some ⟨gg, 0, none⟩) (L.length + 1) cap)) := by
  have lb := lt_of_at h.blk
  have lbc := lt_of_at hrc.blk
  have hb1 := blk_grown hgrow hrc.blk hrc.apart
  have hgb : gg ≠ rb := by
    rcases hat with e | e
    · intro e'; exact h.apart (by rw [e, e'])
    · omega
  have hk1 : Kept (RFoot rb rv) wc w1 := Kept.grown (Kept.drew (Kept.alloc (Kept.refl _ wc) _)) hgrow (fun _ e _ => .inr e)
  have hk2 : Kept (RFoot rb rv) wc (w1.setCell ⟨rb, 0, none⟩ (.slice (some ⟨gg, 0, none⟩) (L.length + 1) cap)) := Kept.setCell hk1 (fun _ => .inl rfl) _
  have hk3 : Kept (fun k => k = rb) w1 (w1.setCell ⟨rb, 0, none⟩ (.slice (some ⟨gg, 0, none⟩) (L.length + 1) cap)) := Kept.setCell (S := fun k => k = rb) (p := ⟨rb, 0, none⟩) (Kept.refl _ _) (fun _ => rfl) _
  refine ⟨_, ⟨by rw [setAt hb1]; rfl, ?_, by simpa [Value.ownBlock] using hgb⟩, ?_, ?_⟩
  · rw [symCells_snoc]
    have := hk3.row hown1 (fun k e e' => by simp [Value.ownBlock] at e; omega)
    simpa using this
  · exact (hkp.mono (fun _ _ f => f.elim)).trans hk2 (fun _ _ e => e)
  · intro k hk
    rcases hk with e | e
    · exact .inl (.inl e)
    · simp [Value.ownBlock] at e
      subst e
      rcases hat with e | e
      · exact .inl (.inr e)
      · right; have := hkp.size; omega
set_option maxHeartbeats 2000000 in
theorem radd_ok {w : World} {rb : Nat} {L : List Sym} {rv : Value} (h : RefAt w rb L rv) (x : Sym) (hs : x.name.size ≤ maxLen) (hz : addErr L x = 0) :
    Calls Try.prog 23 #[.pointer (some ⟨rb, 0, none⟩), symV x] w fun e w' => e = .returned (.tuple #[.int .i64 (L.length : Int), .int .i64 0]) ∧ RMoved w rb rv (L ++ [x]) w' := by
  have h1 : RefAt (w.alloc (boxOf x)) rb L rv := h.kept (Kept.alloc (Kept.refl (fun _ => False) w) _) (fun _ _ f => f)
  have h2 : ∀ m, RefAt ((w.alloc (boxOf x)).drewN m) rb L rv := fun m => h1.kept (Kept.drewN (Kept.refl (fun _ => False) _) m) (fun _ _ f => f)
  obtain ⟨ao, cap, rfl⟩ := row_shape h.row
  have c0 := h1.c0
  obtain ⟨hf, hn, hm⟩ := add_zero hz
  have hlen : L.length ≤ 64 := by omega
  have har := add_ar hz
  have ha : ¬ x.ar < 0 := by omega
  have hb : ¬ 6 < x.ar := by omega
  have hfr : findR L x.name = -1 := findR_none (by rw [hf]; rfl)
  go_enter Try.func23, Try.ntmps23
  go_wp2_with (first | (go_at_call 34; refine (rIsName_any _ _ hs).mono ?_; rintro e w' ⟨rfl, rfl⟩))
  go_quiet ((go_at_call 35; exact Calls.quiet_of_same (rfind_any (h2 _).row hlen x.name)))
  have hrc := h2 nq
  have hbx : ((w.alloc (boxOf x)).drewN nq).heap[w.heap.size]? = some (boxOf x) := heap_alloc_new w _
  have hkp : Kept (fun _ => False) w ((w.alloc (boxOf x)).drewN nq) := Kept.drewN (Kept.alloc (Kept.refl _ w) _) nq
  obtain ⟨wc, hwc⟩ : ∃ wc, (w.alloc (boxOf x)).drewN nq = wc := ⟨_, rfl⟩
  rw [hwc] at hrc hbx hkp ⊢
  clear hwc c0
  have d0 := hrc.c0
  go_upto_region 10 with fail
  go_cut [] (fun w' => RMoved w rb (.slice ao L.length cap) (L ++ [x]) w')
  case first =>
    obtain ⟨i0, hi0, hz0, hz1, hz2⟩ := info_parts info_Symbol
    have hn1 : L.length + 1 ≤ maxLen := by unfold maxLen; omega
    have hn2 : (L.length + 1) * 32 ≤ 140737488355328 := by omega
    have g0 := hrc.f0
    have x0 : wc.cell? ⟨w.heap.size, 0, none⟩ = some (.string x.name) := cellAt hbx 0
    have x1 : wc.cell? ⟨w.heap.size, 1, none⟩ = some (.int .i64 x.ar) := cellAt hbx 1
    have x2 : wc.cell? ⟨w.heap.size, 2, none⟩ = some (.bool x.df) := cellAt hbx 2
    have d0' : (wc.alloc (boxOf x)).cell? ⟨rb, 0, none⟩ = some (.slice ao L.length cap) := cellAt ((heap_alloc_old wc _ (lt_of_at hrc.blk)).trans hrc.blk) 0
    go_region_law ((refine step_append_lies _ (by rfl) _ _ _ (by rfl) 0 48 i0 _ 3 32 Try.underlying23 hi0 hz0 hz1 hz2 rfl (by omega) (.slice ao L.length cap) L.length (symCells L) (by rfl) ((hrc.row.alloc _).drew) ⟨wc.heap.size, 0, none⟩ 1 1 [.string x.name, .int .i64 x.ar, .bool x.df] (by rfl) (by rfl) (World.news_of_block (cs := #[.string x.name, .int .i64 x.ar, .bool x.df]) (t := 48) (fr := (0, 0)) (heap_alloc_new wc _)) (by simp [Value.oneCell']) (by omega) hn1 hn2 (by omega) (wc.heap.size + 1) (by simp) ?_; intro gg cap w1 hown1 hgrow hat hlt; have hb1 := blk_grown hgrow hrc.blk hrc.apart; have k0 := cellAt hb1 0; have k1 := frozenAt hb1 0; simp only [List.getElem?_toArray, List.getElem?_cons_zero] at k0))
    all_goals
      go_wp2
      go_meet
      case rel => exact radd_end h hrc hkp hown1 hgrow hat
  case rest =>
    obtain ⟨rv', hr', hk', hf'⟩ := hcut
    obtain ⟨ao', cap', rfl⟩ := row_shape hr'.row
    have r0 := hr'.c0
    simp only [List.length_append, List.length_cons, List.length_nil] at r0
    go_wp2
    go_ret2
    exact ⟨by simp, _, hr', hk', hf'⟩
theorem radd_any {w : World} {rb : Nat} {L : List Sym} {rv : Value} (h : RefAt w rb L rv) (hlen : L.length ≤ 64) (x : Sym) (hs : x.name.size ≤ maxLen) :
    Calls Try.prog 23 #[.pointer (some ⟨rb, 0, none⟩), symV x] w fun e w' => e = .returned (.tuple #[.int .i64 (addN L x), .int .i64 (addErr L x)]) ∧ RMoved w rb rv (addL L x) w' := by
  by_cases hz : addErr L x = 0
  · rw [addN, addL, if_pos hz, if_pos hz, hz]; exact radd_ok h x hs hz
  · rw [addN, addL, if_neg hz, if_neg hz]
    refine (radd_no h hlen x hs hz).mono ?_
    rintro e w' ⟨rfl, hk⟩
    exact ⟨rfl, rv, h.kept hk (fun _ _ f => f), hk.mono (fun _ _ f => f.elim), fun k hk => .inl hk⟩
end Go.Proofs.Ythhcnllabhfejaa
