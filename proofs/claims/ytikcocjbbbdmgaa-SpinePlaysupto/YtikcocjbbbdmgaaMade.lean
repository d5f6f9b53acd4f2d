/- The walks of Same (two lists of numbers) and Made (a signature of some symbols, the program's and the document's). -/
import Derived.Test.YtikcocjbbbdmgaaTermPlace
import Derived.Test.YtikcocjbbbdmgaaRefAdd
namespace Go.Proofs.Ytikcocjbbbdmgaa
set_option maxRecDepth 100000
set_option linter.unusedVariables false
open Go.RowKit
attribute [local go_sem ↓] Go.wp_at_zero Go.wp_at_succ
def sameB (xs ys : List Int) : Bool := decide (xs = ys)
theorem same_len {xs ys : List Int} (h : xs.length ≠ ys.length) : sameB xs ys = false := by
  simp [sameB]; intro e; exact h (by rw [e])
theorem take_eq_succ {xs ys : List Int} {k : Nat} (h : xs.take k = ys.take k) (hx : k < xs.length) (hy : k < ys.length) (he : xs[k] = ys[k]) : xs.take (k + 1) = ys.take (k + 1) := by
  rw [List.take_add_one, List.take_add_one, h, List.getElem?_eq_getElem hx, List.getElem?_eq_getElem hy, he]
theorem addL_ars {L : List Sym} (h : Ars L) (x : Sym) : Ars (addL L x) := by
  unfold addL
  split
  · rename_i hz
    intro y hy
    rcases List.mem_append.1 hy with hy | hy
    · exact h y hy
    · simp at hy; subst hy; exact add_ar hz
  · exact h
def madeL (xs : List Sym) : List Sym := xs.foldl addL []
theorem madeL_snoc {xs : List Sym} {k : Nat} (h : k < xs.length) : madeL (xs.take (k + 1)) = addL (madeL (xs.take k)) xs[k] := by
  rw [List.take_add_one, List.getElem?_eq_getElem h]
  unfold madeL
  rw [List.foldl_append]
  rfl
theorem from_below {w w' : World} (h : Kept (From w.heap.size) w w') : Same0 w w' := ⟨h.os, h.tape, h.output, h.size, fun k hk _ => h.block k hk (fun e => by omega)⟩
end Go.Proofs.Ytikcocjbbbdmgaa
