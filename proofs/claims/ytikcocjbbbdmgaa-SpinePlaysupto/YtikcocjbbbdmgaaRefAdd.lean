/- The walk of the document's Add where it takes the symbol; of its Of; of sameInts and pick. -/
import Derived.Test.YtikcocjbbbdmgaaRef
namespace Go.Proofs.Ytikcocjbbbdmgaa
set_option maxRecDepth 100000
open Go.RowKit
attribute [local go_sem ↓] Go.wp_at_zero Go.wp_at_succ
end Go.Proofs.Ytikcocjbbbdmgaa
