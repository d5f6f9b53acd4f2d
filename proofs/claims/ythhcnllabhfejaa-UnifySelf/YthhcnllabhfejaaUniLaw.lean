/- What the walks of layer 6's statements share: the argument's cells. -/
import Derived.Test.YthhcnllabhfejaaOpenCase6
import Derived.Test.YthhcnllabhfejaaUniAwake
import Derived.Test.YthhcnllabhfejaaRefTerm
namespace Go.Proofs.Ythhcnllabhfejaa
set_option linter.unusedVariables false
open Go.RowKit
theorem case6_cells {w w' : World} {cb : Nat} {c0 c1 c2 c3 : Value} (h : w.heap[cb]? = some (.cells #[c0, c1, c2, c3] 27 (0, 0))) (hk : Same0 w w') : w'.cell? ⟨cb, 0, none⟩ = some c0 ∧ w'.cell? ⟨cb, 1, none⟩ = some c1 ∧ w'.cell? ⟨cb, 2, none⟩ = some c2 ∧ w'.cell? ⟨cb, 3, none⟩ = some c3 := by
  have := hk.at0 h
  exact ⟨cellAt this 0, cellAt this 1, cellAt this 2, cellAt this 3⟩
theorem umaxLen {n : Nat} (h : n * 8 ≤ 140737488351232) : n ≤ maxLen := by unfold maxLen; omega
end Go.Proofs.Ythhcnllabhfejaa
