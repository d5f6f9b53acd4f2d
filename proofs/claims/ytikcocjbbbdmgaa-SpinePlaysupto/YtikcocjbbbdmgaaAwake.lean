/- The walk of the statements' head: calls whose answers the document fixes. -/
import Derived.Test.YtikcocjbbbdmgaaSigAdd
namespace Go.Proofs.Ytikcocjbbbdmgaa
set_option maxRecDepth 100000
open Go.RowKit
abbrev From (n k : Nat) : Prop := n ≤ k
theorem Kept.from {n : Nat} {w0 w w' : World} (h : Kept (From n) w0 w) (h' : Kept (From n) w w') : Kept (From n) w0 w' := h.trans h' (fun _ _ e => e)
abbrev aS : Sym := ⟨⟨#[115]⟩, 1, false⟩
abbrev aAdd : Sym := ⟨⟨#[97, 100, 100]⟩, 2, true⟩
abbrev aS0 : Sym := ⟨⟨#[115]⟩, 0, false⟩
theorem nm_s : nameB ⟨#[115]⟩ = true := by decide +kernel
theorem nm_add : nameB ⟨#[97, 100, 100]⟩ = true := by decide +kernel
theorem err1 : addErr [] aS = 0 := by simp [addErr, nm_s, findI]
theorem err2 : addErr [aS] aAdd = 0 := by simp [addErr, nm_add, findI]
theorem err3 : addErr [aS, aAdd] aS0 = 12 := by simp [addErr, nm_s, findI]
theorem fnd : findI [aS, aAdd] ⟨#[97, 100, 100]⟩ = some 1 := by simp [findI]
end Go.Proofs.Ytikcocjbbbdmgaa
