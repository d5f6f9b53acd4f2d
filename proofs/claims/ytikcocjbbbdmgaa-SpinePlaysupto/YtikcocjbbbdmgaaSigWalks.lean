/- The walks of package sig: what New, has, Len, Find, refusal and At do to a signature. -/
import Derived.Test.YtikcocjbbbdmgaaSigPlain
import Derived.Test.YtikcocjbbbdmgaaNames
import Derived.WalkLawsBesides
namespace Go.Proofs.Ytikcocjbbbdmgaa
set_option maxRecDepth 100000
open Go.RowKit
end Go.Proofs.Ytikcocjbbbdmgaa
