/- The walks of Variables: the document's and the program's. -/
import Derived.Test.YtbcchplcppogoabPlainsPlain
import Derived.Test.YtbcchplcppogoabRefTerm
namespace Go.Proofs.Ytbcchplcppogoab
set_option linter.unusedVariables false
open Go.RowKit
attribute [local go_sem ↓] Go.wp_at_zero Go.wp_at_succ
def inB (l : List Int) (n : Int) : Bool := decide (n ∈ l)
theorem vstep_yes {o : List Int} {x : Int} (h1 : isV x = true) (h2 : inB o (-x) = false) : vstep o x = o ++ [-x] := by
  rw [vstep, if_pos ⟨h1, by simpa [inB] using h2⟩]
theorem vstep_in {o : List Int} {x : Int} (h2 : inB o (-x) = true) : vstep o x = o := by
  rw [vstep, if_neg (by simp [inB] at h2; simp [h2])]
theorem vstep_no {o : List Int} {x : Int} (h1 : isV x = false) : vstep o x = o := by
  rw [vstep, if_neg (by simp [h1])]
end Go.Proofs.Ytbcchplcppogoab
