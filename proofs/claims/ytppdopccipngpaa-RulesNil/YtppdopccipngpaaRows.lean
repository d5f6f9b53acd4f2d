/-
  No cell of these rows narrows 'for every input' (looked for: loops, veiled, ifaces, maps, wideKeys, modest, calm, conditions, laid).
  DERIVED. THE GIVEN ROWS OF THIS SEAT. 4 by the template 'for every input the law returns true; each argument reads behind the call as it read before'; 0 by the template 'total and deterministic' (their statements: YtppdopccipngpaaTotals.lean).
  GIVEN WITH THE SEED: the statements are not yours to turn. If you find one false, say at which input.
  Laid BY PROGRAM, IN A SANDBOX (cutbox-rows.mjs): the forced cells as the released guide's own fill.sh prints them over the translation e4fffcfad0db937f… (all of the seat's roots in one cut). By AI agents, Wed Nov 11 2026. No macro, syntax, notation, axiom, sorry.
-/
import Derived.Test.YtppdopccipngpaaChecked
import GoSem.Claim
import GoSem.ClaimJoined
import GoSem.ClaimMapViews
import Derived.JoinedTies
import Derived.KernelRfl
namespace Go.Proofs.Ytppdopccipngpaa
/- THE CELL 'sum', in the pinned program and in every row, IS THE sha256 OF THE DUMP (.gsa) THAT YtppdopccipngpaaProg.lean LOADS. Nothing in Lean hashes anything: it is a label: what it is worth is what the hold of that sum in a sandbox is worth. -/
noncomputable def Try.pinned : Pinned := { name := "ytppdopccipngpaa", sum := "e4fffcfad0db937fd89d2f2c9eeec906cce66bcec0239ac7600e23263f6716d5", checked := Try.checked }
namespace Rows
def none {H : Type} : Left H := { results := [], args := [] }

/-- 'ropewalklaw07.RulesNames': WHATEVER THE INPUT: true; the input reads as it did. -/
def rulesNamesSpec : ChangeSpec := { name := "rulesNames", fn := fun _ => fun
  | [] => { results := [.lit (.bool true)], args := [] }
  | _ => none }
def rulesNamesRow : OpenClaim := { program := "ytppdopccipngpaa", sum := "e4fffcfad0db937fd89d2f2c9eeec906cce66bcec0239ac7600e23263f6716d5", func := "ropewalk/ropewalklaw07.RulesNames", spec := "rulesNames", inPlace := ["internal/reflectlite.TypeOf"], unfollowed := true, recurses := true, apart := false }
def RulesNamesSaid : Prop := rulesNamesRow.holds Try.pinned (OpenSpec.ofChange rulesNamesSpec)

/-- ITS FALSE NEIGHBOUR: 'it returns false'. Refute it at one input. -/
def rulesNamesWrong : ChangeSpec := { name := "rulesNames", fn := fun _ => fun
  | [] => { results := [.lit (.bool false)], args := [] }
  | _ => none }
def RulesNamesWrongFalsely : Prop := rulesNamesRow.holds Try.pinned (OpenSpec.ofChange rulesNamesWrong)

/-- 'ropewalklaw07.RulesHold': WHATEVER THE INPUT: true; the input reads as it did. -/
def rulesHoldSpec : ChangeSpec := { name := "rulesHold", fn := fun _ => fun
  | [d1, d2, d3] => { results := [.lit (.bool true)], args := [d1, d2, d3] }
  | _ => none }
def rulesHoldRow : OpenClaim := { program := "ytppdopccipngpaa", sum := "e4fffcfad0db937fd89d2f2c9eeec906cce66bcec0239ac7600e23263f6716d5", func := "ropewalk/ropewalklaw07.RulesHold", spec := "rulesHold", inPlace := ["internal/reflectlite.TypeOf"], unfollowed := true, recurses := true, apart := false }
def RulesHoldSaid : Prop := rulesHoldRow.holds Try.pinned (OpenSpec.ofChange rulesHoldSpec)

/-- ITS FALSE NEIGHBOUR: 'it returns false'. Refute it at one input. -/
def rulesHoldWrong : ChangeSpec := { name := "rulesHold", fn := fun _ => fun
  | [d1, d2, d3] => { results := [.lit (.bool false)], args := [d1, d2, d3] }
  | _ => none }
def RulesHoldWrongFalsely : Prop := rulesHoldRow.holds Try.pinned (OpenSpec.ofChange rulesHoldWrong)

/-- 'ropewalklaw07.RulesOne': WHATEVER THE INPUT: true; the input reads as it did. -/
def rulesOneSpec : ChangeSpec := { name := "rulesOne", fn := fun _ => fun
  | [d1, d2] => { results := [.lit (.bool true)], args := [d1, d2] }
  | _ => none }
def rulesOneRow : OpenClaim := { program := "ytppdopccipngpaa", sum := "e4fffcfad0db937fd89d2f2c9eeec906cce66bcec0239ac7600e23263f6716d5", func := "ropewalk/ropewalklaw07.RulesOne", spec := "rulesOne", inPlace := ["internal/reflectlite.TypeOf"], unfollowed := true, recurses := true, apart := false }
def RulesOneSaid : Prop := rulesOneRow.holds Try.pinned (OpenSpec.ofChange rulesOneSpec)

/-- ITS FALSE NEIGHBOUR: 'it returns false'. Refute it at one input. -/
def rulesOneWrong : ChangeSpec := { name := "rulesOne", fn := fun _ => fun
  | [d1, d2] => { results := [.lit (.bool false)], args := [d1, d2] }
  | _ => none }
def RulesOneWrongFalsely : Prop := rulesOneRow.holds Try.pinned (OpenSpec.ofChange rulesOneWrong)

/-- 'ropewalklaw07.RulesNil': WHATEVER THE INPUT: true; the input reads as it did. -/
def rulesNilSpec : ChangeSpec := { name := "rulesNil", fn := fun _ => fun
  | [d1, d2] => { results := [.lit (.bool true)], args := [d1, d2] }
  | _ => none }
def rulesNilRow : OpenClaim := { program := "ytppdopccipngpaa", sum := "e4fffcfad0db937fd89d2f2c9eeec906cce66bcec0239ac7600e23263f6716d5", func := "ropewalk/ropewalklaw07.RulesNil", spec := "rulesNil", inPlace := ["internal/reflectlite.TypeOf", "maps.clone"], unfollowed := true, recurses := true, apart := false }
def RulesNilSaid : Prop := rulesNilRow.holds Try.pinned (OpenSpec.ofChange rulesNilSpec)

/-- ITS FALSE NEIGHBOUR: 'it returns false'. Refute it at one input. -/
def rulesNilWrong : ChangeSpec := { name := "rulesNil", fn := fun _ => fun
  | [d1, d2] => { results := [.lit (.bool false)], args := [d1, d2] }
  | _ => none }
def RulesNilWrongFalsely : Prop := rulesNilRow.holds Try.pinned (OpenSpec.ofChange rulesNilWrong)

/- THE SECOND FORM. 'bulk': how many values and letters a reading holds, each counted each time it is reached (what is shared counts as often as it is met; a slice's spare places count too). A statement '..UptoSaid' is the law's where the arguments, and the package variables that the reading takes, are together of bulk at most 1048576: NARROWER than '..Said'. Prove '..Said' where nothing that the law and all that it calls make is longer than what came in: it says more and counts as full. Else prove '..UptoSaid'. A law counts once. -/
mutual
def uptoBulk {H : Type} : DataW H → Nat
  | .lit (.string bytes) => bytes.length + 1
  | .lit _ => 1
  | .nil => 1
  | .ptr d => uptoBulk d + 1
  | .slice elems spare => uptoBulkAll elems + uptoBulkAll spare + 1
  | .agg parts => uptoBulkAll parts + 1
  | .iface _ d => uptoBulk d + 1
  | .map entries => uptoBulkEntries entries + 1
  | .held _ => 1
def uptoBulkAll {H : Type} : List (DataW H) → Nat
  | [] => 0
  | d :: r => uptoBulk d + uptoBulkAll r
def uptoBulkEntries {H : Type} : List (Lit × DataW H) → Nat
  | [] => 0
  | x :: r => uptoBulkEntry x + uptoBulkEntries r
def uptoBulkEntry {H : Type} : Lit × DataW H → Nat
  | (.string bytes, d) => bytes.length + uptoBulk d + 1
  | (_, d) => uptoBulk d + 1
 end
def uptoSmall : (H : Type) → List (DataW H) → Bool := fun _ ds => decide (uptoBulkAll ds ≤ 1048576)
def OpenSpec.upto (s : _root_.Go.ChangeSpec) : _root_.Go.OpenSpec := { _root_.Go.OpenSpec.ofChange s with cond := some uptoSmall }

/-- 'ropewalklaw07.RulesNames', WHERE WHAT IT READS IS OF BULK AT MOST 1048576: true; the input reads as it did. -/
def rulesNamesUptoRow : OpenClaim := { program := "ytppdopccipngpaa", sum := "e4fffcfad0db937fd89d2f2c9eeec906cce66bcec0239ac7600e23263f6716d5", func := "ropewalk/ropewalklaw07.RulesNames", spec := "rulesNames", inPlace := ["internal/reflectlite.TypeOf"], unfollowed := true, recurses := true, apart := false, narrowed := true }
def RulesNamesUptoSaid : Prop := rulesNamesUptoRow.holds Try.pinned (OpenSpec.upto rulesNamesSpec)

/-- 'ropewalklaw07.RulesHold', WHERE WHAT IT READS IS OF BULK AT MOST 1048576: true; the input reads as it did. -/
def rulesHoldUptoRow : OpenClaim := { program := "ytppdopccipngpaa", sum := "e4fffcfad0db937fd89d2f2c9eeec906cce66bcec0239ac7600e23263f6716d5", func := "ropewalk/ropewalklaw07.RulesHold", spec := "rulesHold", inPlace := ["internal/reflectlite.TypeOf"], unfollowed := true, recurses := true, apart := false, narrowed := true }
def RulesHoldUptoSaid : Prop := rulesHoldUptoRow.holds Try.pinned (OpenSpec.upto rulesHoldSpec)

/-- 'ropewalklaw07.RulesOne', WHERE WHAT IT READS IS OF BULK AT MOST 1048576: true; the input reads as it did. -/
def rulesOneUptoRow : OpenClaim := { program := "ytppdopccipngpaa", sum := "e4fffcfad0db937fd89d2f2c9eeec906cce66bcec0239ac7600e23263f6716d5", func := "ropewalk/ropewalklaw07.RulesOne", spec := "rulesOne", inPlace := ["internal/reflectlite.TypeOf"], unfollowed := true, recurses := true, apart := false, narrowed := true }
def RulesOneUptoSaid : Prop := rulesOneUptoRow.holds Try.pinned (OpenSpec.upto rulesOneSpec)

/-- 'ropewalklaw07.RulesNil', WHERE WHAT IT READS IS OF BULK AT MOST 1048576: true; the input reads as it did. -/
def rulesNilUptoRow : OpenClaim := { program := "ytppdopccipngpaa", sum := "e4fffcfad0db937fd89d2f2c9eeec906cce66bcec0239ac7600e23263f6716d5", func := "ropewalk/ropewalklaw07.RulesNil", spec := "rulesNil", inPlace := ["internal/reflectlite.TypeOf", "maps.clone"], unfollowed := true, recurses := true, apart := false, narrowed := true }
def RulesNilUptoSaid : Prop := rulesNilUptoRow.holds Try.pinned (OpenSpec.upto rulesNilSpec)

end Rows
end Go.Proofs.Ytppdopccipngpaa
