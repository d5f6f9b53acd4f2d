/-
  No cell of these rows narrows 'for every input' (looked for: loops, veiled, ifaces, maps, wideKeys, modest, calm, conditions, laid).
  DERIVED. THE GIVEN ROWS OF THIS SEAT. 3 by the template 'for every input the law returns true; each argument reads behind the call as it read before'; 0 by the template 'total and deterministic' (their statements: YtgoifkbdiicmkabTotals.lean).
  GIVEN WITH THE SEED: the statements are not yours to turn. If you find one false, say at which input.
  Laid BY PROGRAM, IN A SANDBOX (cutbox-rows.mjs): the forced cells as the released guide's own fill.sh prints them over the translation 0f9be03a9b340709… (all of the seat's roots in one cut). By AI agents, Wed Nov 11 2026. No macro, syntax, notation, axiom, sorry.
-/
import Derived.Test.YtgoifkbdiicmkabChecked
import GoSem.Claim
import GoSem.ClaimJoined
import GoSem.ClaimMapViews
import Derived.JoinedTies
import Derived.KernelRfl
namespace Go.Proofs.Ytgoifkbdiicmkab
/- THE CELL 'sum', in the pinned program and in every row, IS THE sha256 OF THE DUMP (.gsa) THAT YtgoifkbdiicmkabProg.lean LOADS. Nothing in Lean hashes anything: it is a label: what it is worth is what the hold of that sum in a sandbox is worth. -/
noncomputable def Try.pinned : Pinned := { name := "ytgoifkbdiicmkab", sum := "0f9be03a9b34070933b8ae494c0918a45308683586c7db0a8150f6341ab19990", checked := Try.checked }
namespace Rows
def none {H : Type} : Left H := { results := [], args := [] }

/-- 'ropewalklaw02.TermBack': WHATEVER THE INPUT: true; the input reads as it did. -/
def termBackSpec : ChangeSpec := { name := "termBack", fn := fun _ => fun
  | [d] => { results := [.lit (.bool true)], args := [d] }
  | _ => none }
def termBackRow : OpenClaim := { program := "ytgoifkbdiicmkab", sum := "0f9be03a9b34070933b8ae494c0918a45308683586c7db0a8150f6341ab19990", func := "ropewalk/ropewalklaw02.TermBack", spec := "termBack", apart := false }
def TermBackSaid : Prop := termBackRow.holds Try.pinned (OpenSpec.ofChange termBackSpec)

/-- ITS FALSE NEIGHBOUR: 'it returns false'. Refute it at one input. -/
def termBackWrong : ChangeSpec := { name := "termBack", fn := fun _ => fun
  | [d] => { results := [.lit (.bool false)], args := [d] }
  | _ => none }
def TermBackWrongFalsely : Prop := termBackRow.holds Try.pinned (OpenSpec.ofChange termBackWrong)

/-- 'ropewalklaw02.TermTiles': WHATEVER THE INPUT: true; the input reads as it did. -/
def termTilesSpec : ChangeSpec := { name := "termTiles", fn := fun _ => fun
  | [d] => { results := [.lit (.bool true)], args := [d] }
  | _ => none }
def termTilesRow : OpenClaim := { program := "ytgoifkbdiicmkab", sum := "0f9be03a9b34070933b8ae494c0918a45308683586c7db0a8150f6341ab19990", func := "ropewalk/ropewalklaw02.TermTiles", spec := "termTiles", apart := false }
def TermTilesSaid : Prop := termTilesRow.holds Try.pinned (OpenSpec.ofChange termTilesSpec)

/-- ITS FALSE NEIGHBOUR: 'it returns false'. Refute it at one input. -/
def termTilesWrong : ChangeSpec := { name := "termTiles", fn := fun _ => fun
  | [d] => { results := [.lit (.bool false)], args := [d] }
  | _ => none }
def TermTilesWrongFalsely : Prop := termTilesRow.holds Try.pinned (OpenSpec.ofChange termTilesWrong)

/-- 'ropewalklaw02.TermNil': WHATEVER THE INPUT: true; the input reads as it did. -/
def termNilSpec : ChangeSpec := { name := "termNil", fn := fun _ => fun
  | [d1, d2] => { results := [.lit (.bool true)], args := [d1, d2] }
  | _ => none }
def termNilRow : OpenClaim := { program := "ytgoifkbdiicmkab", sum := "0f9be03a9b34070933b8ae494c0918a45308683586c7db0a8150f6341ab19990", func := "ropewalk/ropewalklaw02.TermNil", spec := "termNil", apart := false }
def TermNilSaid : Prop := termNilRow.holds Try.pinned (OpenSpec.ofChange termNilSpec)

/-- ITS FALSE NEIGHBOUR: 'it returns false'. Refute it at one input. -/
def termNilWrong : ChangeSpec := { name := "termNil", fn := fun _ => fun
  | [d1, d2] => { results := [.lit (.bool false)], args := [d1, d2] }
  | _ => none }
def TermNilWrongFalsely : Prop := termNilRow.holds Try.pinned (OpenSpec.ofChange termNilWrong)

/- THE SECOND FORM. 'bulk': how many values and letters a reading holds, each counted each time it is reached (what is shared counts as often as it is met; a slice's spare places count too). A statement '..UptoSaid' is the law's where the arguments, and the package variables that the reading takes, are together of bulk at most 1048576: NARROWER than '..Said'. Prove '..Said' where nothing that the law and all that it calls make is longer than what came in: it says more and counts as full. Else prove '..UptoSaid'. A law counts once. -/
mutual
def uptoBulk {H : Type} : DataW H → Nat
  | .lit (.string bytes) => bytes.length + 1
  | .lit _ => 1
  | .nil => 1
  | .ptr d => uptoBulk d + 1
  | .slice elems spare => uptoBulkAll elems + uptoBulkAll spare + 1
  | .agg parts => uptoBulkAll parts + 1
  | .iface _ d => uptoBulk d + 1
  | .map entries => uptoBulkEntries entries + 1
  | .held _ => 1
def uptoBulkAll {H : Type} : List (DataW H) → Nat
  | [] => 0
  | d :: r => uptoBulk d + uptoBulkAll r
def uptoBulkEntries {H : Type} : List (Lit × DataW H) → Nat
  | [] => 0
  | x :: r => uptoBulkEntry x + uptoBulkEntries r
def uptoBulkEntry {H : Type} : Lit × DataW H → Nat
  | (.string bytes, d) => bytes.length + uptoBulk d + 1
  | (_, d) => uptoBulk d + 1
 end
def uptoSmall : (H : Type) → List (DataW H) → Bool := fun _ ds => decide (uptoBulkAll ds ≤ 1048576)
def OpenSpec.upto (s : _root_.Go.ChangeSpec) : _root_.Go.OpenSpec := { _root_.Go.OpenSpec.ofChange s with cond := some uptoSmall }

/-- 'ropewalklaw02.TermBack', WHERE WHAT IT READS IS OF BULK AT MOST 1048576: true; the input reads as it did. -/
def termBackUptoRow : OpenClaim := { program := "ytgoifkbdiicmkab", sum := "0f9be03a9b34070933b8ae494c0918a45308683586c7db0a8150f6341ab19990", func := "ropewalk/ropewalklaw02.TermBack", spec := "termBack", apart := false, narrowed := true }
def TermBackUptoSaid : Prop := termBackUptoRow.holds Try.pinned (OpenSpec.upto termBackSpec)

/-- 'ropewalklaw02.TermTiles', WHERE WHAT IT READS IS OF BULK AT MOST 1048576: true; the input reads as it did. -/
def termTilesUptoRow : OpenClaim := { program := "ytgoifkbdiicmkab", sum := "0f9be03a9b34070933b8ae494c0918a45308683586c7db0a8150f6341ab19990", func := "ropewalk/ropewalklaw02.TermTiles", spec := "termTiles", apart := false, narrowed := true }
def TermTilesUptoSaid : Prop := termTilesUptoRow.holds Try.pinned (OpenSpec.upto termTilesSpec)

/-- 'ropewalklaw02.TermNil', WHERE WHAT IT READS IS OF BULK AT MOST 1048576: true; the input reads as it did. -/
def termNilUptoRow : OpenClaim := { program := "ytgoifkbdiicmkab", sum := "0f9be03a9b34070933b8ae494c0918a45308683586c7db0a8150f6341ab19990", func := "ropewalk/ropewalklaw02.TermNil", spec := "termNil", apart := false, narrowed := true }
def TermNilUptoSaid : Prop := termNilUptoRow.holds Try.pinned (OpenSpec.upto termNilSpec)

end Rows
end Go.Proofs.Ytgoifkbdiicmkab
