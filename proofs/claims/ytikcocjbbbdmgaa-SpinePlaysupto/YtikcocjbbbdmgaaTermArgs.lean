/- The walks of End and Args of package term. -/
import Derived.Test.YtikcocjbbbdmgaaTermEnd
import Derived.OwnWalk
namespace Go.Proofs.Ytikcocjbbbdmgaa
set_option maxRecDepth 100000
open Go.RowKit
attribute [local go_sem ↓] Go.wp_at_zero Go.wp_at_succ
/-- The values of numbers. -/
def iv (xs : List Int) : List Value := xs.map (Value.int .i64)
theorem iv_length (xs : List Int) : (iv xs).length = xs.length := by simp [iv]
theorem iv_append (xs ys : List Int) : iv (xs ++ ys) = iv xs ++ iv ys := by simp [iv]
theorem iv_get {xs : List Int} {i : Nat} (h : i < xs.length) : (iv xs)[i]? = some (.int .i64 xs[i]) := by simp [iv, h]
theorem info_intT : (Try.prog.info? 3).map (fun i => (i.zero, i.size, i.bytes)) = some (some (.int .i64 0), 1, 8) := by kernel_rfl
/-- A row of numbers of the call's own. -/
abbrev Row (base : Nat) (w : World) (v : Value) (xs : List Int) : Prop := w.ownsRow base 3 1 v xs.length (iv xs)
def endA (L : List Sym) (t : List Int) (a : Int) : Int := if placeE L t a = 0 then (endN L t a.toNat : Int) else 0
def ofN (l : List Nat) : List Int := l.map (fun (x : Nat) => (x : Int))
def argsA (L : List Sym) (t : List Int) (a : Int) : List Int := if placeE L t a = 0 then ofN (argsN L t a.toNat) else []
theorem place_zero {L : List Sym} {t : List Int} {a : Int} (h : placeE L t a = 0) : ∃ p : Nat, a = (p : Int) ∧ p < t.length ∧ checkE L t = 0 ∧ t.length ≤ 2000 ∧ IsT L t := by
  unfold placeE at h
  by_cases hz : checkE L t = 0
  · simp only [hz, ne_eq, not_true, if_false] at h
    have : ¬ (a < 0 ∨ (t.length : Int) ≤ a) := by intro hh; simp [hh] at h
    obtain ⟨h1, _, h2⟩ := checkE_zero.1 hz
    exact ⟨a.toNat, by omega, by omega, hz, h1, h2⟩
  · simp [hz] at h
theorem endI_of {L : List Sym} {t : List Int} (h : IsT L t) {p : Nat} (hp : p < t.length) : endI L t p = (endN L t p : Int) := by
  rw [endI, endO_some h hp]
theorem take_set {α : Type} {l : List α} {k : Nat} (h : k < l.length) (u : α) : (l.set k u).take (k + 1) = l.take k ++ [u] := by
  rw [List.take_add_one, List.take_set_of_le (Nat.le_refl _)]
  simp [h]
theorem Same0.grown {w w1 w2 : World} (h : Same0 w w1) (hg : w1.grownBy w2 none) : Same0 w w2 := Kept.grown h hg (fun _ e _ => by cases e)
theorem Same0.own {w w1 : World} (h : Same0 w w1) {g o : Nat} (hg : w.heap.size ≤ g) (u : Value) : Same0 w (w1.setCell ⟨g, o, none⟩ u) := h.setCell (p := ⟨g, o, none⟩) (fun hlt => by simp at hlt; omega) u
theorem row_put {w : World} {base g cap n : Nat} {e : TypeId} {ys : List Value} (h : w.ownsRow base e 1 (.slice (some ⟨g, 0, none⟩) n cap) n ys) {k : Nat} (hk : k < n) : ∃ old, w.cell? ⟨g, k, none⟩ = some old ∧ w.frozen? ⟨g, k, none⟩ = false := by
  have hl : k < ys.length := by have := h.1; omega
  exact ⟨ys[k], (h.cellAt k (by omega)).trans (List.getElem?_eq_getElem hl), h.frozenAt k⟩
/-- At the head of a round of Args: k places are laid. -/
def Laid (base g A k : Nat) (xs : List Int) (w wr : World) : Prop := ∃ ys : List Value, wr.ownsRow base 3 1 (.slice (some ⟨g, 0, none⟩) A A) A ys ∧ ys.take k = iv xs ∧ Same0 w wr
theorem Laid.next {base g A k : Nat} {xs : List Int} {w wr : World} (h : Laid base g A k xs w wr) (hk : k < A) (hg : w.heap.size ≤ g) (x : Int) : Laid base g A (k + 1) (xs ++ [x]) w (wr.setCell ⟨g, k, none⟩ (.int .i64 x)) := by
  obtain ⟨ys, h1, h2, h3⟩ := h
  have hl : ys.length = A := by have := h1.1; omega
  refine ⟨ys.set k (.int .i64 x), (h1.stored k _).1, ?_, h3.own hg _⟩
  rw [take_set (by omega), h2, iv_append]; rfl
theorem Laid.same {base g A k : Nat} {xs : List Int} {w wr w1 : World} (h : Laid base g A k xs w wr) (hk : Same0 wr w1) : Laid base g A k xs w w1 := by
  obtain ⟨ys, h1, h2, h3⟩ := h
  exact ⟨ys, hk.row h1 (fun _ _ f => f), h2, h3.trans' hk⟩
theorem Laid.row {base g A : Nat} {xs : List Int} {w wr : World} (h : Laid base g A A xs w wr) : Row base wr (.slice (some ⟨g, 0, none⟩) A A) xs ∧ xs.length = A := by
  obtain ⟨ys, h1, h2, _⟩ := h
  have hl : ys.length = A := by have := h1.1; omega
  rw [List.take_of_length_le (by omega)] at h2
  subst h2
  have : xs.length = A := by rw [← hl, iv_length]
  unfold Row
  rw [this]
  exact ⟨h1, rfl⟩
end Go.Proofs.Ytikcocjbbbdmgaa
