/- Proved here: the closed facts of RewriteNone' row. -/
import Derived.Test.YtmjgnfkbnofjoaaGreatDoorRows
import Derived.WalkKit
import Derived.ProofKit
import Derived.OpenShut
import Derived.ShutString
import Derived.ChangeOld
import Derived.Below
import Derived.SizedLaws
import Derived.SevenTiedAt
namespace Go.Proofs.YtmjgnfkbnofjoaaGreatDoor.rewriteNone
open Go.ChangeShapes Go.WideShapes Go.ChangeAt Go.RowKit
open Go.ChangeMaps (open_string shut_string)
set_option linter.unusedVariables false
set_option maxHeartbeats 8000000 in
theorem facts : joinedFacts Tryz.prog 6 Tryz.f6 Rows.rewriteNoneSpec Rows.rewriteNoneRow = true := by
  unfold joinedFacts
  simp only [Bool.and_eq_true]
  repeat' (refine And.intro ?_ ?_)
  all_goals (as_aux_lemma => kernel_rfl)
end Go.Proofs.YtmjgnfkbnofjoaaGreatDoor.rewriteNone
