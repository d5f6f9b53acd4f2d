/-
  No cell of these rows narrows 'for every input' (looked for: loops, veiled, ifaces, maps, wideKeys, modest, calm, conditions, laid).
  DERIVED. THE GIVEN ROWS OF THIS SEAT. 2 by the template 'for every input the law returns true; each argument reads behind the call as it read before'; 0 by the template 'total and deterministic' (their statements: YtppdopccipngpaaGreatTotals.lean).
  GIVEN WITH THE SEED: the statements are not yours to turn. If you find one false, say at which input.
  Laid BY PROGRAM, IN A SANDBOX (cutbox-rows.mjs): the forced cells as the released guide's own fill.sh prints them over the translation 76f4206374219ec5… (all of the seat's roots in one cut). By AI agents, Wed Nov 11 2026. No macro, syntax, notation, axiom, sorry.
-/
import Derived.Test.YtppdopccipngpaaGreatChecked
import GoSem.Claim
import GoSem.ClaimJoined
import GoSem.ClaimMapViews
import Derived.JoinedTies
import Derived.KernelRfl
namespace Go.Proofs.YtppdopccipngpaaGreat
/- THE CELL 'sum', in the pinned program and in every row, IS THE sha256 OF THE DUMP (.gsa) THAT YtppdopccipngpaaGreatProg.lean LOADS. Nothing in Lean hashes anything: it is a label: what it is worth is what the hold of that sum in a sandbox is worth. -/
noncomputable def Tryz.pinned : Pinned := { name := "ytppdopccipngpaagreat", sum := "76f4206374219ec530e8eaa3aa8969f91f0ef34ab35e52607823f098b354c99e", checked := Tryz.checked }
namespace Rows
def none {H : Type} : Left H := { results := [], args := [] }

/-- 'ropewalklaw07.RulesPlays': WHATEVER THE INPUT: true; the input reads as it did. -/
def rulesPlaysSpec : ChangeSpec := { name := "rulesPlays", fn := fun _ => fun
  | [d1, d2] => { results := [.lit (.bool true)], args := [d1, d2] }
  | _ => none }
def rulesPlaysRow : OpenClaim := { program := "ytppdopccipngpaagreat", sum := "76f4206374219ec530e8eaa3aa8969f91f0ef34ab35e52607823f098b354c99e", func := "ropewalk/ropewalklaw07.RulesPlays", spec := "rulesPlays", inPlace := ["internal/reflectlite.TypeOf", "maps.clone"], unfollowed := true, recurses := true, apart := false }
def RulesPlaysSaid : Prop := rulesPlaysRow.holds Tryz.pinned (OpenSpec.ofChange rulesPlaysSpec)

/-- ITS FALSE NEIGHBOUR: 'it returns false'. Refute it at one input. -/
def rulesPlaysWrong : ChangeSpec := { name := "rulesPlays", fn := fun _ => fun
  | [d1, d2] => { results := [.lit (.bool false)], args := [d1, d2] }
  | _ => none }
def RulesPlaysWrongFalsely : Prop := rulesPlaysRow.holds Tryz.pinned (OpenSpec.ofChange rulesPlaysWrong)

/-- 'ropewalklaw07.RulesWraps': WHATEVER THE INPUT: true; the input reads as it did. -/
def rulesWrapsSpec : ChangeSpec := { name := "rulesWraps", fn := fun _ => fun
  | [d1, d2] => { results := [.lit (.bool true)], args := [d1, d2] }
  | _ => none }
def rulesWrapsRow : OpenClaim := { program := "ytppdopccipngpaagreat", sum := "76f4206374219ec530e8eaa3aa8969f91f0ef34ab35e52607823f098b354c99e", func := "ropewalk/ropewalklaw07.RulesWraps", spec := "rulesWraps", inPlace := ["internal/reflectlite.TypeOf"], unfollowed := true, recurses := true, apart := false }
def RulesWrapsSaid : Prop := rulesWrapsRow.holds Tryz.pinned (OpenSpec.ofChange rulesWrapsSpec)

/-- ITS FALSE NEIGHBOUR: 'it returns false'. Refute it at one input. -/
def rulesWrapsWrong : ChangeSpec := { name := "rulesWraps", fn := fun _ => fun
  | [d1, d2] => { results := [.lit (.bool false)], args := [d1, d2] }
  | _ => none }
def RulesWrapsWrongFalsely : Prop := rulesWrapsRow.holds Tryz.pinned (OpenSpec.ofChange rulesWrapsWrong)

/- THE SECOND FORM. 'bulk': how many values and letters a reading holds, each counted each time it is reached (what is shared counts as often as it is met; a slice's spare places count too). A statement '..UptoSaid' is the law's where the arguments, and the package variables that the reading takes, are together of bulk at most 1048576: NARROWER than '..Said'. Prove '..Said' where nothing that the law and all that it calls make is longer than what came in: it says more and counts as full. Else prove '..UptoSaid'. A law counts once. -/
mutual
def uptoBulk {H : Type} : DataW H → Nat
  | .lit (.string bytes) => bytes.length + 1
  | .lit _ => 1
  | .nil => 1
  | .ptr d => uptoBulk d + 1
  | .slice elems spare => uptoBulkAll elems + uptoBulkAll spare + 1
  | .agg parts => uptoBulkAll parts + 1
  | .iface _ d => uptoBulk d + 1
  | .map entries => uptoBulkEntries entries + 1
  | .held _ => 1
def uptoBulkAll {H : Type} : List (DataW H) → Nat
  | [] => 0
  | d :: r => uptoBulk d + uptoBulkAll r
def uptoBulkEntries {H : Type} : List (Lit × DataW H) → Nat
  | [] => 0
  | x :: r => uptoBulkEntry x + uptoBulkEntries r
def uptoBulkEntry {H : Type} : Lit × DataW H → Nat
  | (.string bytes, d) => bytes.length + uptoBulk d + 1
  | (_, d) => uptoBulk d + 1
 end
def uptoSmall : (H : Type) → List (DataW H) → Bool := fun _ ds => decide (uptoBulkAll ds ≤ 1048576)
def OpenSpec.upto (s : _root_.Go.ChangeSpec) : _root_.Go.OpenSpec := { _root_.Go.OpenSpec.ofChange s with cond := some uptoSmall }

/-- 'ropewalklaw07.RulesPlays', WHERE WHAT IT READS IS OF BULK AT MOST 1048576: true; the input reads as it did. -/
def rulesPlaysUptoRow : OpenClaim := { program := "ytppdopccipngpaagreat", sum := "76f4206374219ec530e8eaa3aa8969f91f0ef34ab35e52607823f098b354c99e", func := "ropewalk/ropewalklaw07.RulesPlays", spec := "rulesPlays", inPlace := ["internal/reflectlite.TypeOf", "maps.clone"], unfollowed := true, recurses := true, apart := false, narrowed := true }
def RulesPlaysUptoSaid : Prop := rulesPlaysUptoRow.holds Tryz.pinned (OpenSpec.upto rulesPlaysSpec)

/-- 'ropewalklaw07.RulesWraps', WHERE WHAT IT READS IS OF BULK AT MOST 1048576: true; the input reads as it did. -/
def rulesWrapsUptoRow : OpenClaim := { program := "ytppdopccipngpaagreat", sum := "76f4206374219ec530e8eaa3aa8969f91f0ef34ab35e52607823f098b354c99e", func := "ropewalk/ropewalklaw07.RulesWraps", spec := "rulesWraps", inPlace := ["internal/reflectlite.TypeOf"], unfollowed := true, recurses := true, apart := false, narrowed := true }
def RulesWrapsUptoSaid : Prop := rulesWrapsUptoRow.holds Tryz.pinned (OpenSpec.upto rulesWrapsSpec)

end Rows
end Go.Proofs.YtppdopccipngpaaGreat
