/- The walk of At: the symbol of a number. -/
import Derived.Test.YtikcocjbbbdmgaaAwake
namespace Go.Proofs.Ytikcocjbbbdmgaa
set_option maxRecDepth 100000
open Go.RowKit
abbrev noSym : Sym := ⟨⟨#[]⟩, 0, false⟩
end Go.Proofs.Ytikcocjbbbdmgaa
