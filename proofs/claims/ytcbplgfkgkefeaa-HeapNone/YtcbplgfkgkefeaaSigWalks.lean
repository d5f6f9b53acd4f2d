/- The walks of package sig: what New, has, Len, Find, refusal and At do to a signature. -/
import Derived.Test.YtcbplgfkgkefeaaSigPlain
import Derived.Test.YtcbplgfkgkefeaaNames
import Derived.WalkLawsBesides
namespace Go.Proofs.Ytcbplgfkgkefeaa
set_option maxRecDepth 100000
open Go.RowKit
end Go.Proofs.Ytcbplgfkgkefeaa
