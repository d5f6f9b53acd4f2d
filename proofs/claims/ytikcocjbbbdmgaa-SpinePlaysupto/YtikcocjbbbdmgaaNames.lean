/- The walks of the functions that tell names and variables. -/
import Derived.Test.YtikcocjbbbdmgaaNamesPlain
import Derived.Test.YtikcocjbbbdmgaaCommon
import Derived.Test.YtikcocjbbbdmgaaProg
import Derived.WalkKit
import Derived.WalkSpells
import Derived.WalkLawsBesides
namespace Go.Proofs.Ytikcocjbbbdmgaa
set_option maxRecDepth 100000
open Go.RowKit
def fitB (s : ByteArray) : Bool := decide (1 ≤ s.size) && decide (s.size ≤ 12)
theorem name_of_loop {s : ByteArray} (h1 : 1 ≤ s.size) (h2 : s.size ≤ 12) (h0 : nmAt 0 (s[0].toNat : Int) = true) (h : ∀ j (hj : j < s.size), 1 ≤ j → nmAt j (s[j].toNat : Int) = true) : NameP s :=
  ⟨h1, h2, fun i hi => by by_cases e : i = 0; · subst e; exact h0
                          · exact h i hi (by omega)⟩
theorem var_of_loop {s : ByteArray} (h1 : 1 ≤ s.size) (h2 : s.size ≤ 12) (h0 : vrAt 0 (s[0].toNat : Int) = true) (h : ∀ j (hj : j < s.size), 1 ≤ j → vrAt j (s[j].toNat : Int) = true) : VarP s :=
  ⟨h1, h2, fun i hi => by by_cases e : i = 0; · subst e; exact h0
                          · exact h i hi (by omega)⟩
end Go.Proofs.Ytikcocjbbbdmgaa
