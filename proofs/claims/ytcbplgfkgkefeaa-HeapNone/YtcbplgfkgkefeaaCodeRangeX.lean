/- A range over a function that hands out memory which it makes, where a round may return. -/
import Derived.Test.YtcbplgfkgkefeaaCodeRange
namespace Go.Proofs.Ytcbplgfkgkefeaa
set_option linter.unusedVariables false
open Go.RowKit
section
variable {F : Fence} {n : Nat} {P : Program}
/-- What an iterator does that hands out N values, the k-th as Lk says, and ends at once where it is told to. -/
def HandsX (F : Fence) (n : Nat) (P : Program) (gf : Nat) (lb : Array Value) (B N : Nat) (Lk : Nat → Array Value → World → Prop) (w : World) : Prop :=
  ∀ (l : Nat) (J : Nat → World → Prop) (Z : World → Prop) (W : World), Same0 w W → (∀ k X Y, J k X → Same0 X Y → J k Y) → (∀ X Y, Z X → Same0 X Y → Z Y) →
    (∀ k vs X, k < N → J k X → Lk k vs X → YieldAt F (n - 1) P l vs X fun e Y => (e = .returned (.bool true) ∧ J (k + 1) Y ∧ Below B X Y) ∨ (e = .returned (.bool false) ∧ Z Y)) → J 0 W →
    CallsIn F n P gf (#[.func (.yield l) #[] #[]] ++ lb) W fun e Y => (∃ v, e = .returned v) ∧ (J N Y ∨ Z Y)
/-- The range, where a round may return. -/
theorem wp_handsX {g : Operand} {ps : Array Tmp} {assign body : Code} {Q : Exit → Act → World → Prop} {a : Act} {w : World}
    (hro : F.round = none) (h1 : 1 ≤ n) {gf : Nat} {lb : Array Value} (hg : a.eval g = .func (.func gf) #[] lb) (hFg : F.fn gf) (eg : ∀ args w, (callFunc gf args).run P w = .ok (.enter gf args) w)
    {N : Nat} {Lk : Nat → Array Value → World → Prop} {B : Nat} (hB : B ≤ w.heap.size) (hh : HandsX F (n - 1) P gf lb B N Lk w) (hsz : ∀ k vs W, Lk k vs W → vs.size = ps.size)
    (J : Nat → World → Prop) (hJ : ∀ k X Y, J k X → Same0 X Y → J k Y) (hJp : ∀ k X l o o', J k X → X.heap[l]? = some o → o.isCells = false → w.heap.size ≤ l → J k (X.putObj l o')) (h0 : J 0 w) (Z : World → Prop) (hZ : ∀ X Y, Z X → Same0 X Y → Z Y) (hZp : ∀ X l o o', Z X → X.heap[l]? = some o → o.isCells = false → w.heap.size ≤ l → Z (X.putObj l o'))
    (hround : ∀ (l k : Nat) (vs : Array Value) (W : World), k < N → w.heap.size ≤ l → l < W.heap.size → J k W → Lk k vs W →
      assign.wpIn (F.inRound l) (n - 1 - 1) P (Exit.then (fun a' Wa => Rnd w.heap.size B W Wa ∧ ∀ o o', Wa.heap[l]? = some o → o.isCells = false → o'.isCells = false →
        body.wpIn (F.inRound l) (n - 1 - 1) P (fun e _ Y => (e = .normal ∧ Rnd w.heap.size B (Wa.putObj l o') Y ∧ J (k + 1) Y) ∨ (e = .ret ∧ KeepsFrom w.heap.size (Wa.putObj l o') Y ∧ Z Y)) a' (Wa.putObj l o')) (fun _ _ _ => False))
        { tmps := (ps.zip vs).foldl (fun t (p, v) => t.setIfInBounds p v) a.tmps, defers := [] } W)
    (hdone : ∀ (D : Nat) (W : World), w.heap.size ≤ D → J N W → W.heap[D]? = some (.deferred (some [])) → Q .normal { a with defers := { target := .collected D, args := #[] } :: a.defers } W)
    (hstop : ∀ (D : Nat) (W : World), w.heap.size ≤ D → Z W → W.heap[D]? = some (.deferred (some [])) → Code.wpIn F n P .ret Q { a with defers := { target := .collected D, args := #[] } :: a.defers } W) :
    (Code.rangeFunc g ps assign body).wpIn F n P Q a w := by
  refine wpIn_rangeFunc fun fn hfn => ?_
  rw [hro]
  have hen := run_enterLoop_outer (P := P) (w := w) fn a.tmps ps assign body
  obtain ⟨st, hst⟩ : ∃ st : LoopState → Option Code → Loop, st = fun s p => { state := s, pending := p, fn := fn, tmps := a.tmps, params := ps, assign := assign, body := body, defers := w.heap.size } := ⟨_, rfl⟩
  obtain ⟨W1, hW1⟩ : ∃ W1, W1 = (w.alloc (.deferred (some []))).alloc (.loop (st .ready none)) := ⟨_, rfl⟩
  have hs1 : Same0 w W1 := by rw [hW1]; exact ((Kept.refl _ w).alloc _).alloc _
  have hd1 : W1.heap[w.heap.size]? = some (.deferred (some [])) := by
    rw [hW1]; exact (Below.heap_alloc _ _ _ (by simp)).trans (World.alloc_heap_new w _)
  have hl1 : W1.heap[w.heap.size + 1]? = some (.loop (st .ready none)) := by
    have := World.alloc_heap_new (w.alloc (.deferred (some []))) (.loop (st .ready none))
    rw [hW1]; simpa using this
  refine ⟨w.heap.size + 1, [{ target := .collected w.heap.size, args := #[] }], W1, { target := .fn (.func gf) lb, args := #[.func (.yield (w.heap.size + 1)) #[] #[]] }, W1, gf, #[.func (.yield (w.heap.size + 1)) #[] #[]] ++ lb, W1, ?_, ?_, ?_, ?_, fun _ => h1, ?_⟩
  · rw [hen, hW1, hst]
  · simp only [resolve, hg]; simp [go_sem]
  · intro f' hf'; simp [Target.leads] at hf'; subst hf'; exact hFg
  · simp [invoke, go_sem, eg]
  · have hcall := hh (w.heap.size + 1) (fun k X => J k X ∧ X.heap[w.heap.size + 1]? = some (.loop (st .ready none)) ∧ X.heap[w.heap.size]? = some (.deferred (some []))) (fun X => Z X ∧ X.heap[w.heap.size + 1]? = some (.loop (st .done (some .ret))) ∧ X.heap[w.heap.size]? = some (.deferred (some []))) W1 hs1
      (fun k X Y h hk => ⟨hJ k X Y h.1 hk, hk.at0 h.2.1, hk.at0 h.2.2⟩) (fun X Y h hk => ⟨hZ X Y h.1 hk, hk.at0 h.2.1, hk.at0 h.2.2⟩) ?_ ⟨hJ 0 _ _ h0 hs1, hl1, hd1⟩
    · refine hcall.mono ?_
      rintro e Y ⟨⟨v, rfl⟩, ⟨hj, hl, hd⟩ | ⟨hz, hl, hd⟩⟩
      rotate_left
      · have hend := run_endLoop (P := P) hl (by rw [hst]; simp)
        rw [hst] at hend
        exact ⟨some .ret, _, hend, hstop w.heap.size _ (Nat.le_refl _) (hZp _ _ _ _ hz hl rfl (by omega)) ((World.putObj_heap_other (by omega)).trans hd)⟩
      have hend := run_endLoop (P := P) hl (by rw [hst]; simp)
      rw [hst] at hend
      exact ⟨none, _, hend, hdone w.heap.size _ (Nat.le_refl _) (hJp _ _ _ _ _ hj hl rfl (by omega)) ((World.putObj_heap_other (by omega)).trans hd)⟩
    · rintro k vs X hk ⟨hj, hl, hd⟩ hlk
      have hy := run_yield (P := P) (args := vs) hl (by rw [hst]; exact hsz k vs X hlk)
      rw [hst] at hy
      have hlX : w.heap.size + 1 < X.heap.size := (Array.getElem?_eq_some_iff.1 hl).1
      refine ⟨fn, _, assign, body, hy, roundIn_of_wpIn hfn (wpIn_mono (hround (w.heap.size + 1) k vs X hk (by omega) hlX hj hlk) ?_)⟩
      rintro e a' Wa hp
      cases e with
      | normal =>
        obtain ⟨hr, hb⟩ := hp
        have hla := hr.recs.same _ _ (by omega) hl rfl
        have hda := hr.recs.same _ _ (Nat.le_refl _) hd rfl
        have hlt : w.heap.size + 1 < Wa.heap.size := (Array.getElem?_eq_some_iff.1 hla).1
        refine ⟨_, run_beginRound hla (by rw [hst]), wpIn_mono (hb _ (.loop { st .ready none with state := .busy }) hla rfl rfl) ?_⟩
        rintro e2 a2 Y (⟨rfl, hr2, hj2⟩ | ⟨rfl, hr2, hz2⟩)
        rotate_left
        · have hl2 := hr2.same _ _ (by omega) (World.putObj_heap_same (o := .loop { st .ready none with state := .busy }) hlt) rfl
          have hd2 := hr2.same _ _ (Nat.le_refl _) ((World.putObj_heap_other (o := .loop { st .ready none with state := .busy }) (by omega)).trans hda) rfl
          have hend := run_endRound (P := P) (some .ret) hl2
          rw [hst] at hend
          refine ⟨_, _, hend, .inr ⟨rfl, hZp _ _ _ _ hz2 hl2 rfl (by omega), ?_, (World.putObj_heap_other (by omega)).trans hd2⟩⟩
          rw [hst]; exact World.putObj_heap_same (Array.getElem?_eq_some_iff.1 hl2).1
        have hl2 := hr2.recs.same _ _ (by omega) (World.putObj_heap_same (o := .loop { st .ready none with state := .busy }) hlt) rfl
        have hd2 := hr2.recs.same _ _ (Nat.le_refl _) ((World.putObj_heap_other (o := .loop { st .ready none with state := .busy }) (by omega)).trans hda) rfl
        have hend := run_endRound (P := P) none hl2
        rw [hst] at hend
        refine ⟨_, _, hend, .inl ⟨rfl, ⟨hJp _ _ _ _ _ hj2 hl2 rfl (by omega), ?_, (World.putObj_heap_other (by omega)).trans hd2⟩, ?_⟩⟩
        · rw [hst]; exact World.putObj_heap_same (Array.getElem?_eq_some_iff.1 hl2).1
        · exact (hr.below.trans (below_put hla (by omega))).trans (hr2.below.trans (below_put hl2 (by omega)))
      | _ => exact hp.elim
end
end Go.Proofs.Ytcbplgfkgkefeaa
