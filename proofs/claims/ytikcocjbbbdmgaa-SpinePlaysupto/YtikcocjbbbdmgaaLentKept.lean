/- The walks of the statements' helpers of layer 2: lent, kept, apart, places. -/
import Derived.Test.YtikcocjbbbdmgaaRefTerm
import Derived.Laws.AppendOwnNone
namespace Go.Proofs.Ytikcocjbbbdmgaa
set_option linter.unusedVariables false
open Go.RowKit
attribute [local go_sem ↓] Go.wp_at_zero Go.wp_at_succ
theorem row_prefix {base g : Nat} {w : World} {xs ys : List Int} {m c : Nat} (h : Row base w (.slice (some ⟨g, 0, none⟩) m c) (xs ++ ys)) : IntsAt w (some ⟨g, 0, none⟩) xs := by
  obtain ⟨ao, cap, hv, hi, _, _⟩ := h.ints
  cases hv
  rcases hi with e | ⟨b, off, e, hlt, hc⟩
  · exact .inl (by simp at e; exact e.1)
  · cases e
    refine .inr ⟨_, _, rfl, hlt, fun i hi => ?_⟩
    have := hc i (by simp; omega)
    rwa [List.getElem_append_left hi] at this
/-- A row that is written over: nothing but its block has turned. -/
def Over (base g n : Nat) (w wr : World) : Prop := (∃ ys, wr.ownsRow base 3 1 (.slice (some ⟨g, 0, none⟩) n n) n ys) ∧ Kept (fun k => k = g) w wr
theorem Over.store {base g n : Nat} {w wr : World} (h : Over base g n w wr) (k : Nat) (u : Value) : Over base g n w (wr.setCell ⟨g, k, none⟩ u) := by
  obtain ⟨⟨ys, h1⟩, h2⟩ := h
  exact ⟨⟨_, (h1.stored k u).1⟩, h2.setCell (p := ⟨g, k, none⟩) (fun _ => rfl) u⟩
theorem Same0.after {w w5 w6 : World} {S : Nat → Prop} (h : Same0 w w5) (k : Kept S w5 w6) (hs : ∀ i, i < w.heap.size → ¬ S i) : Same0 w w6 :=
  Kept.trans h k (fun i hi e => (hs i hi e).elim)
def OverA (base : Nat) (v : Value) (B : Nat → Prop) (n : Nat) (w wr : World) : Prop := ∃ zs : List Int, zs.length = n ∧ Row base wr v zs ∧ (∀ k, v.ownBlock = some k → B k) ∧ Kept B w wr
theorem OverA.at {base : Nat} {ao : Option Addr} {cap n : Nat} {B : Nat → Prop} {w wr : World} (h : OverA base (.slice ao n cap) B n w wr) {k : Nat} (hk : k < n) : ∃ g, ao = some ⟨g, 0, none⟩ ∧ ∃ old, wr.cell? ⟨g, k, none⟩ = some old ∧ wr.frozen? ⟨g, k, none⟩ = false := by
  obtain ⟨zs, rfl, h1, _, _⟩ := h
  obtain ⟨g, cap', hv, _, _⟩ := h1.form (by omega)
  cases hv
  exact ⟨g, rfl, row_put h1 hk⟩
theorem OverA.store {base g : Nat} {cap n : Nat} {B : Nat → Prop} {w wr : World} (h : OverA base (.slice (some ⟨g, 0, none⟩) n cap) B n w wr) (k : Nat) (x : Int) : OverA base (.slice (some ⟨g, 0, none⟩) n cap) B n w (wr.setCell ⟨g, k, none⟩ (.int .i64 x)) := by
  obtain ⟨zs, rfl, h1, hB, h2⟩ := h
  refine ⟨zs.set k x, by simp, ?_, hB, h2.setCell (p := ⟨g, k, none⟩) (fun _ => hB g rfl) _⟩
  have := (h1.stored k (.int .i64 x)).1
  unfold Row
  rw [List.length_set]
  have e : iv (zs.set k x) = (iv zs).set k (.int .i64 x) := by simp [iv, List.map_set]
  rw [e]; exact this
end Go.Proofs.Ytikcocjbbbdmgaa
