/- Small laws that all stages' texts take: what was returned, texts that part, a world in which nothing old has turned; no program in sight. -/
import Derived.Test.YtikcocjbbbdmgaaBase
import Derived.Below
import Derived.WalkKit
import Derived.WideShapes
namespace Go.Proofs.Ytikcocjbbbdmgaa
open Go.RowKit
theorem ret_bool {a b : Bool} (h : a = b) : Ending.returned (.bool a) = .returned (.bool b) := by rw [h]
theorem ret_int {k : IntKind} {a b : Int} (h : a = b) : Ending.returned (.int k a) = .returned (.int k b) := by rw [h]
theorem str_ne {a b : ByteArray} (h : ¬ a = b) : (a.toList == b.toList) = false  := by
  rw [beq_eq_false_iff_ne]
  intro e
  rw [ByteArray.toList_eq, ByteArray.toList_eq] at e
  exact h (Go.WideShapes.bytes_inj e)
/-- Nothing that was there has turned. -/
abbrev Same0 : World → World → Prop := Kept (fun _ => False)
theorem Same0.trans' {a b c : World} (h : Same0 a b) (k : Same0 b c) : Same0 a c := Kept.trans h k (fun _ _ f => f)
theorem Same0.of_below {w w' : World} (h : Below w.heap.size w w') : Same0 w w' := ⟨h.os, h.tape, h.output, h.size, fun k hk _ => h.block k hk⟩
theorem Same0.below {w w' : World} (h : Same0 w w') : Below w.heap.size w w' := Kept.below h (Nat.le_refl _) (fun _ _ f => f)
theorem Same0.at0 {w w' : World} (h : Same0 w w') {b : Nat} {o : Obj} (hb : w.heap[b]? = some o) : w'.heap[b]? = some o := Kept.at h hb (fun f => f)
end Go.Proofs.Ytikcocjbbbdmgaa
