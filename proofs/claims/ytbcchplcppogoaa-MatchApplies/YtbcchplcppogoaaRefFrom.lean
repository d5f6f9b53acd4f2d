/- The walk of the document's From. -/
import Derived.Test.YtbcchplcppogoaaLentKept
namespace Go.Proofs.Ytbcchplcppogoaa
set_option linter.unusedVariables false
open Go.RowKit
attribute [local go_sem ↓] Go.wp_at_zero Go.wp_at_succ
def leadR (L : List Sym) (t path : List Int) : Int := match leads L t 0 path with | some q => (q : Int) | none => -1
theorem Row.get {base : Nat} {w : World} {v : Value} {xs : List Int} (h : Row base w v xs) {i : Nat} (hi : i < xs.length) : ∃ g cap, v = .slice (some ⟨g, 0, none⟩) xs.length cap ∧ g < w.heap.size ∧ w.cell? ⟨g, i, none⟩ = some (.int .i64 xs[i]) := by
  obtain ⟨g, cap, hv, _, hlt⟩ := h.form (by omega)
  subst hv
  exact ⟨g, cap, rfl, hlt, (h.cellAt i (by omega)).trans (iv_get hi)⟩
end Go.Proofs.Ytbcchplcppogoaa
