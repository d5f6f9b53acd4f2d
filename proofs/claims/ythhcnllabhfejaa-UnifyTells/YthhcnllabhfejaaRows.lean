/-
  No cell of these rows narrows 'for every input' (looked for: loops, veiled, ifaces, maps, wideKeys, modest, calm, conditions, laid).
  DERIVED. THE GIVEN ROWS OF THIS SEAT. 6 by the template 'for every input the law returns true; each argument reads behind the call as it read before'; 0 by the template 'total and deterministic' (their statements: YthhcnllabhfejaaTotals.lean).
  GIVEN WITH THE SEED: the statements are not yours to turn. If you find one false, say at which input.
  Laid BY PROGRAM, IN A SANDBOX (cutbox-rows.mjs): the forced cells as the released guide's own fill.sh prints them over the translation 85bb32ab639375ab… (all of the seat's roots in one cut). By AI agents, Wed Nov 11 2026. No macro, syntax, notation, axiom, sorry.
-/
import Derived.Test.YthhcnllabhfejaaChecked
import GoSem.Claim
import GoSem.ClaimJoined
import GoSem.ClaimMapViews
import Derived.JoinedTies
import Derived.KernelRfl
namespace Go.Proofs.Ythhcnllabhfejaa
/- THE CELL 'sum', in the pinned program and in every row, IS THE sha256 OF THE DUMP (.gsa) THAT YthhcnllabhfejaaProg.lean LOADS. Nothing in Lean hashes anything: it is a label: what it is worth is what the hold of that sum in a sandbox is worth. -/
noncomputable def Try.pinned : Pinned := { name := "ythhcnllabhfejaa", sum := "85bb32ab639375ab5ae099de286cd4b68a9aa88b100acebcb2c5ef0b8f30ca9b", checked := Try.checked }
namespace Rows
def none {H : Type} : Left H := { results := [], args := [] }

/-- 'ropewalklaw06.UnifyNames': WHATEVER THE INPUT: true; the input reads as it did. -/
def unifyNamesSpec : ChangeSpec := { name := "unifyNames", fn := fun _ => fun
  | [] => { results := [.lit (.bool true)], args := [] }
  | _ => none }
def unifyNamesRow : OpenClaim := { program := "ythhcnllabhfejaa", sum := "85bb32ab639375ab5ae099de286cd4b68a9aa88b100acebcb2c5ef0b8f30ca9b", func := "ropewalk/ropewalklaw06.UnifyNames", spec := "unifyNames", recurses := true, apart := false }
def UnifyNamesSaid : Prop := unifyNamesRow.holds Try.pinned (OpenSpec.ofChange unifyNamesSpec)

/-- ITS FALSE NEIGHBOUR: 'it returns false'. Refute it at one input. -/
def unifyNamesWrong : ChangeSpec := { name := "unifyNames", fn := fun _ => fun
  | [] => { results := [.lit (.bool false)], args := [] }
  | _ => none }
def UnifyNamesWrongFalsely : Prop := unifyNamesRow.holds Try.pinned (OpenSpec.ofChange unifyNamesWrong)

/-- 'ropewalklaw06.UnifyTells': WHATEVER THE INPUT: true; the input reads as it did. -/
def unifyTellsSpec : ChangeSpec := { name := "unifyTells", fn := fun _ => fun
  | [d] => { results := [.lit (.bool true)], args := [d] }
  | _ => none }
def unifyTellsRow : OpenClaim := { program := "ythhcnllabhfejaa", sum := "85bb32ab639375ab5ae099de286cd4b68a9aa88b100acebcb2c5ef0b8f30ca9b", func := "ropewalk/ropewalklaw06.UnifyTells", spec := "unifyTells", recurses := true, apart := false }
def UnifyTellsSaid : Prop := unifyTellsRow.holds Try.pinned (OpenSpec.ofChange unifyTellsSpec)

/-- ITS FALSE NEIGHBOUR: 'it returns false'. Refute it at one input. -/
def unifyTellsWrong : ChangeSpec := { name := "unifyTells", fn := fun _ => fun
  | [d] => { results := [.lit (.bool false)], args := [d] }
  | _ => none }
def UnifyTellsWrongFalsely : Prop := unifyTellsRow.holds Try.pinned (OpenSpec.ofChange unifyTellsWrong)

/-- 'ropewalklaw06.UnifyOverlaps': WHATEVER THE INPUT: true; the input reads as it did. -/
def unifyOverlapsSpec : ChangeSpec := { name := "unifyOverlaps", fn := fun _ => fun
  | [d] => { results := [.lit (.bool true)], args := [d] }
  | _ => none }
def unifyOverlapsRow : OpenClaim := { program := "ythhcnllabhfejaa", sum := "85bb32ab639375ab5ae099de286cd4b68a9aa88b100acebcb2c5ef0b8f30ca9b", func := "ropewalk/ropewalklaw06.UnifyOverlaps", spec := "unifyOverlaps", recurses := true, apart := false }
def UnifyOverlapsSaid : Prop := unifyOverlapsRow.holds Try.pinned (OpenSpec.ofChange unifyOverlapsSpec)

/-- ITS FALSE NEIGHBOUR: 'it returns false'. Refute it at one input. -/
def unifyOverlapsWrong : ChangeSpec := { name := "unifyOverlaps", fn := fun _ => fun
  | [d] => { results := [.lit (.bool false)], args := [d] }
  | _ => none }
def UnifyOverlapsWrongFalsely : Prop := unifyOverlapsRow.holds Try.pinned (OpenSpec.ofChange unifyOverlapsWrong)

/-- 'ropewalklaw06.UnifyInstance': WHATEVER THE INPUT: true; the input reads as it did. -/
def unifyInstanceSpec : ChangeSpec := { name := "unifyInstance", fn := fun _ => fun
  | [d] => { results := [.lit (.bool true)], args := [d] }
  | _ => none }
def unifyInstanceRow : OpenClaim := { program := "ythhcnllabhfejaa", sum := "85bb32ab639375ab5ae099de286cd4b68a9aa88b100acebcb2c5ef0b8f30ca9b", func := "ropewalk/ropewalklaw06.UnifyInstance", spec := "unifyInstance", recurses := true, apart := false }
def UnifyInstanceSaid : Prop := unifyInstanceRow.holds Try.pinned (OpenSpec.ofChange unifyInstanceSpec)

/-- ITS FALSE NEIGHBOUR: 'it returns false'. Refute it at one input. -/
def unifyInstanceWrong : ChangeSpec := { name := "unifyInstance", fn := fun _ => fun
  | [d] => { results := [.lit (.bool false)], args := [d] }
  | _ => none }
def UnifyInstanceWrongFalsely : Prop := unifyInstanceRow.holds Try.pinned (OpenSpec.ofChange unifyInstanceWrong)

/-- 'ropewalklaw06.UnifyMost': WHATEVER THE INPUT: true; the input reads as it did. -/
def unifyMostSpec : ChangeSpec := { name := "unifyMost", fn := fun _ => fun
  | [d] => { results := [.lit (.bool true)], args := [d] }
  | _ => none }
def unifyMostRow : OpenClaim := { program := "ythhcnllabhfejaa", sum := "85bb32ab639375ab5ae099de286cd4b68a9aa88b100acebcb2c5ef0b8f30ca9b", func := "ropewalk/ropewalklaw06.UnifyMost", spec := "unifyMost", recurses := true, apart := false }
def UnifyMostSaid : Prop := unifyMostRow.holds Try.pinned (OpenSpec.ofChange unifyMostSpec)

/-- ITS FALSE NEIGHBOUR: 'it returns false'. Refute it at one input. -/
def unifyMostWrong : ChangeSpec := { name := "unifyMost", fn := fun _ => fun
  | [d] => { results := [.lit (.bool false)], args := [d] }
  | _ => none }
def UnifyMostWrongFalsely : Prop := unifyMostRow.holds Try.pinned (OpenSpec.ofChange unifyMostWrong)

/-- 'ropewalklaw06.UnifySelf': WHATEVER THE INPUT: true; the input reads as it did. -/
def unifySelfSpec : ChangeSpec := { name := "unifySelf", fn := fun _ => fun
  | [d] => { results := [.lit (.bool true)], args := [d] }
  | _ => none }
def unifySelfRow : OpenClaim := { program := "ythhcnllabhfejaa", sum := "85bb32ab639375ab5ae099de286cd4b68a9aa88b100acebcb2c5ef0b8f30ca9b", func := "ropewalk/ropewalklaw06.UnifySelf", spec := "unifySelf", recurses := true, apart := false }
def UnifySelfSaid : Prop := unifySelfRow.holds Try.pinned (OpenSpec.ofChange unifySelfSpec)

/-- ITS FALSE NEIGHBOUR: 'it returns false'. Refute it at one input. -/
def unifySelfWrong : ChangeSpec := { name := "unifySelf", fn := fun _ => fun
  | [d] => { results := [.lit (.bool false)], args := [d] }
  | _ => none }
def UnifySelfWrongFalsely : Prop := unifySelfRow.holds Try.pinned (OpenSpec.ofChange unifySelfWrong)

/- THE SECOND FORM. 'bulk': how many values and letters a reading holds, each counted each time it is reached (what is shared counts as often as it is met; a slice's spare places count too). A statement '..UptoSaid' is the law's where the arguments, and the package variables that the reading takes, are together of bulk at most 1048576: NARROWER than '..Said'. Prove '..Said' where nothing that the law and all that it calls make is longer than what came in: it says more and counts as full. Else prove '..UptoSaid'. A law counts once. -/
mutual
def uptoBulk {H : Type} : DataW H → Nat
  | .lit (.string bytes) => bytes.length + 1
  | .lit _ => 1
  | .nil => 1
  | .ptr d => uptoBulk d + 1
  | .slice elems spare => uptoBulkAll elems + uptoBulkAll spare + 1
  | .agg parts => uptoBulkAll parts + 1
  | .iface _ d => uptoBulk d + 1
  | .map entries => uptoBulkEntries entries + 1
  | .held _ => 1
def uptoBulkAll {H : Type} : List (DataW H) → Nat
  | [] => 0
  | d :: r => uptoBulk d + uptoBulkAll r
def uptoBulkEntries {H : Type} : List (Lit × DataW H) → Nat
  | [] => 0
  | x :: r => uptoBulkEntry x + uptoBulkEntries r
def uptoBulkEntry {H : Type} : Lit × DataW H → Nat
  | (.string bytes, d) => bytes.length + uptoBulk d + 1
  | (_, d) => uptoBulk d + 1
 end
def uptoSmall : (H : Type) → List (DataW H) → Bool := fun _ ds => decide (uptoBulkAll ds ≤ 1048576)
def OpenSpec.upto (s : _root_.Go.ChangeSpec) : _root_.Go.OpenSpec := { _root_.Go.OpenSpec.ofChange s with cond := some uptoSmall }

/-- 'ropewalklaw06.UnifyNames', WHERE WHAT IT READS IS OF BULK AT MOST 1048576: true; the input reads as it did. -/
def unifyNamesUptoRow : OpenClaim := { program := "ythhcnllabhfejaa", sum := "85bb32ab639375ab5ae099de286cd4b68a9aa88b100acebcb2c5ef0b8f30ca9b", func := "ropewalk/ropewalklaw06.UnifyNames", spec := "unifyNames", recurses := true, apart := false, narrowed := true }
def UnifyNamesUptoSaid : Prop := unifyNamesUptoRow.holds Try.pinned (OpenSpec.upto unifyNamesSpec)

/-- 'ropewalklaw06.UnifyTells', WHERE WHAT IT READS IS OF BULK AT MOST 1048576: true; the input reads as it did. -/
def unifyTellsUptoRow : OpenClaim := { program := "ythhcnllabhfejaa", sum := "85bb32ab639375ab5ae099de286cd4b68a9aa88b100acebcb2c5ef0b8f30ca9b", func := "ropewalk/ropewalklaw06.UnifyTells", spec := "unifyTells", recurses := true, apart := false, narrowed := true }
def UnifyTellsUptoSaid : Prop := unifyTellsUptoRow.holds Try.pinned (OpenSpec.upto unifyTellsSpec)

/-- 'ropewalklaw06.UnifyOverlaps', WHERE WHAT IT READS IS OF BULK AT MOST 1048576: true; the input reads as it did. -/
def unifyOverlapsUptoRow : OpenClaim := { program := "ythhcnllabhfejaa", sum := "85bb32ab639375ab5ae099de286cd4b68a9aa88b100acebcb2c5ef0b8f30ca9b", func := "ropewalk/ropewalklaw06.UnifyOverlaps", spec := "unifyOverlaps", recurses := true, apart := false, narrowed := true }
def UnifyOverlapsUptoSaid : Prop := unifyOverlapsUptoRow.holds Try.pinned (OpenSpec.upto unifyOverlapsSpec)

/-- 'ropewalklaw06.UnifyInstance', WHERE WHAT IT READS IS OF BULK AT MOST 1048576: true; the input reads as it did. -/
def unifyInstanceUptoRow : OpenClaim := { program := "ythhcnllabhfejaa", sum := "85bb32ab639375ab5ae099de286cd4b68a9aa88b100acebcb2c5ef0b8f30ca9b", func := "ropewalk/ropewalklaw06.UnifyInstance", spec := "unifyInstance", recurses := true, apart := false, narrowed := true }
def UnifyInstanceUptoSaid : Prop := unifyInstanceUptoRow.holds Try.pinned (OpenSpec.upto unifyInstanceSpec)

/-- 'ropewalklaw06.UnifyMost', WHERE WHAT IT READS IS OF BULK AT MOST 1048576: true; the input reads as it did. -/
def unifyMostUptoRow : OpenClaim := { program := "ythhcnllabhfejaa", sum := "85bb32ab639375ab5ae099de286cd4b68a9aa88b100acebcb2c5ef0b8f30ca9b", func := "ropewalk/ropewalklaw06.UnifyMost", spec := "unifyMost", recurses := true, apart := false, narrowed := true }
def UnifyMostUptoSaid : Prop := unifyMostUptoRow.holds Try.pinned (OpenSpec.upto unifyMostSpec)

/-- 'ropewalklaw06.UnifySelf', WHERE WHAT IT READS IS OF BULK AT MOST 1048576: true; the input reads as it did. -/
def unifySelfUptoRow : OpenClaim := { program := "ythhcnllabhfejaa", sum := "85bb32ab639375ab5ae099de286cd4b68a9aa88b100acebcb2c5ef0b8f30ca9b", func := "ropewalk/ropewalklaw06.UnifySelf", spec := "unifySelf", recurses := true, apart := false, narrowed := true }
def UnifySelfUptoSaid : Prop := unifySelfUptoRow.holds Try.pinned (OpenSpec.upto unifySelfSpec)

end Rows
end Go.Proofs.Ythhcnllabhfejaa
