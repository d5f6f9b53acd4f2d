/-
  NARROWER THAN 'FOR EVERY INPUT', by the rows' own cells (each row's printed sentence says how): CodeFlats: loops.
  DERIVED. THE GIVEN ROWS OF THIS SEAT. 7 by the template 'for every input the law returns true; each argument reads behind the call as it read before'; 0 by the template 'total and deterministic' (their statements: YtdhiiicppcgkbaaGreatTotals.lean).
  GIVEN WITH THE SEED: the statements are not yours to turn. If you find one false, say at which input.
  Laid BY PROGRAM, IN A SANDBOX (cutbox-rows.mjs): the forced cells as the released guide's own fill.sh prints them over the translation 7b71e7a3336ffcb4… (all of the seat's roots in one cut). By AI agents, Wed Nov 11 2026. No macro, syntax, notation, axiom, sorry.
-/
import Derived.Test.YtdhiiicppcgkbaaGreatChecked
import GoSem.Claim
import GoSem.ClaimJoined
import GoSem.ClaimMapViews
import Derived.JoinedTies
import Derived.KernelRfl
namespace Go.Proofs.YtdhiiicppcgkbaaGreat
/- THE CELL 'sum', in the pinned program and in every row, IS THE sha256 OF THE DUMP (.gsa) THAT YtdhiiicppcgkbaaGreatProg.lean LOADS. Nothing in Lean hashes anything: it is a label: what it is worth is what the hold of that sum in a sandbox is worth. -/
noncomputable def Tryz.pinned : Pinned := { name := "ytdhiiicppcgkbaagreat", sum := "7b71e7a3336ffcb4dff61687980d9559c7f64d46057592f2af0947b325cfedcd", checked := Tryz.checked }
namespace Rows
def none {H : Type} : Left H := { results := [], args := [] }

/-- 'ropewalklaw09.CodeFlats': WHATEVER THE INPUT: true; the input reads as it did. -/
def codeFlatsSpec : ChangeSpec := { name := "codeFlats", fn := fun _ => fun
  | [d] => { results := [.lit (.bool true)], args := [d] }
  | _ => none }
def codeFlatsRow : OpenClaim := { program := "ytdhiiicppcgkbaagreat", sum := "7b71e7a3336ffcb4dff61687980d9559c7f64d46057592f2af0947b325cfedcd", func := "ropewalk/ropewalklaw09.CodeFlats", spec := "codeFlats", inPlace := ["internal/reflectlite.TypeOf", "maps.clone"], unfollowed := true, recurses := true, loops := true, apart := false }
def CodeFlatsSaid : Prop := codeFlatsRow.holds Tryz.pinned (OpenSpec.ofChange codeFlatsSpec)

/-- ITS FALSE NEIGHBOUR: 'it returns false'. Refute it at one input. -/
def codeFlatsWrong : ChangeSpec := { name := "codeFlats", fn := fun _ => fun
  | [d] => { results := [.lit (.bool false)], args := [d] }
  | _ => none }
def CodeFlatsWrongFalsely : Prop := codeFlatsRow.holds Tryz.pinned (OpenSpec.ofChange codeFlatsWrong)

/-- 'ropewalklaw09.CodeCompiles': WHATEVER THE INPUT: true; the input reads as it did. -/
def codeCompilesSpec : ChangeSpec := { name := "codeCompiles", fn := fun _ => fun
  | [d1, d2, d3] => { results := [.lit (.bool true)], args := [d1, d2, d3] }
  | _ => none }
def codeCompilesRow : OpenClaim := { program := "ytdhiiicppcgkbaagreat", sum := "7b71e7a3336ffcb4dff61687980d9559c7f64d46057592f2af0947b325cfedcd", func := "ropewalk/ropewalklaw09.CodeCompiles", spec := "codeCompiles", inPlace := ["internal/reflectlite.TypeOf", "maps.clone"], unfollowed := true, recurses := true, apart := false }
def CodeCompilesSaid : Prop := codeCompilesRow.holds Tryz.pinned (OpenSpec.ofChange codeCompilesSpec)

/-- ITS FALSE NEIGHBOUR: 'it returns false'. Refute it at one input. -/
def codeCompilesWrong : ChangeSpec := { name := "codeCompiles", fn := fun _ => fun
  | [d1, d2, d3] => { results := [.lit (.bool false)], args := [d1, d2, d3] }
  | _ => none }
def CodeCompilesWrongFalsely : Prop := codeCompilesRow.holds Tryz.pinned (OpenSpec.ofChange codeCompilesWrong)

/-- 'ropewalklaw09.CodeRuns': WHATEVER THE INPUT: true; the input reads as it did. -/
def codeRunsSpec : ChangeSpec := { name := "codeRuns", fn := fun _ => fun
  | [d] => { results := [.lit (.bool true)], args := [d] }
  | _ => none }
def codeRunsRow : OpenClaim := { program := "ytdhiiicppcgkbaagreat", sum := "7b71e7a3336ffcb4dff61687980d9559c7f64d46057592f2af0947b325cfedcd", func := "ropewalk/ropewalklaw09.CodeRuns", spec := "codeRuns", inPlace := ["internal/reflectlite.TypeOf", "maps.clone"], unfollowed := true, recurses := true, apart := false }
def CodeRunsSaid : Prop := codeRunsRow.holds Tryz.pinned (OpenSpec.ofChange codeRunsSpec)

/-- ITS FALSE NEIGHBOUR: 'it returns false'. Refute it at one input. -/
def codeRunsWrong : ChangeSpec := { name := "codeRuns", fn := fun _ => fun
  | [d] => { results := [.lit (.bool false)], args := [d] }
  | _ => none }
def CodeRunsWrongFalsely : Prop := codeRunsRow.holds Tryz.pinned (OpenSpec.ofChange codeRunsWrong)

/-- 'ropewalklaw09.CodeViews': WHATEVER THE INPUT: true; the input reads as it did. -/
def codeViewsSpec : ChangeSpec := { name := "codeViews", fn := fun _ => fun
  | [d1, d2, d3] => { results := [.lit (.bool true)], args := [d1, d2, d3] }
  | _ => none }
def codeViewsRow : OpenClaim := { program := "ytdhiiicppcgkbaagreat", sum := "7b71e7a3336ffcb4dff61687980d9559c7f64d46057592f2af0947b325cfedcd", func := "ropewalk/ropewalklaw09.CodeViews", spec := "codeViews", inPlace := ["internal/reflectlite.TypeOf", "maps.clone"], unfollowed := true, recurses := true, apart := false }
def CodeViewsSaid : Prop := codeViewsRow.holds Tryz.pinned (OpenSpec.ofChange codeViewsSpec)

/-- ITS FALSE NEIGHBOUR: 'it returns false'. Refute it at one input. -/
def codeViewsWrong : ChangeSpec := { name := "codeViews", fn := fun _ => fun
  | [d1, d2, d3] => { results := [.lit (.bool false)], args := [d1, d2, d3] }
  | _ => none }
def CodeViewsWrongFalsely : Prop := codeViewsRow.holds Tryz.pinned (OpenSpec.ofChange codeViewsWrong)

/-- 'ropewalklaw09.CodeWalks': WHATEVER THE INPUT: true; the input reads as it did. -/
def codeWalksSpec : ChangeSpec := { name := "codeWalks", fn := fun _ => fun
  | [d1, d2, d3] => { results := [.lit (.bool true)], args := [d1, d2, d3] }
  | _ => none }
def codeWalksRow : OpenClaim := { program := "ytdhiiicppcgkbaagreat", sum := "7b71e7a3336ffcb4dff61687980d9559c7f64d46057592f2af0947b325cfedcd", func := "ropewalk/ropewalklaw09.CodeWalks", spec := "codeWalks", inPlace := ["internal/reflectlite.TypeOf", "maps.clone"], unfollowed := true, recurses := true, apart := false }
def CodeWalksSaid : Prop := codeWalksRow.holds Tryz.pinned (OpenSpec.ofChange codeWalksSpec)

/-- ITS FALSE NEIGHBOUR: 'it returns false'. Refute it at one input. -/
def codeWalksWrong : ChangeSpec := { name := "codeWalks", fn := fun _ => fun
  | [d1, d2, d3] => { results := [.lit (.bool false)], args := [d1, d2, d3] }
  | _ => none }
def CodeWalksWrongFalsely : Prop := codeWalksRow.holds Tryz.pinned (OpenSpec.ofChange codeWalksWrong)

/-- 'ropewalklaw09.CodeRights': WHATEVER THE INPUT: true; the input reads as it did. -/
def codeRightsSpec : ChangeSpec := { name := "codeRights", fn := fun _ => fun
  | [d1, d2, d3] => { results := [.lit (.bool true)], args := [d1, d2, d3] }
  | _ => none }
def codeRightsRow : OpenClaim := { program := "ytdhiiicppcgkbaagreat", sum := "7b71e7a3336ffcb4dff61687980d9559c7f64d46057592f2af0947b325cfedcd", func := "ropewalk/ropewalklaw09.CodeRights", spec := "codeRights", inPlace := ["internal/reflectlite.TypeOf", "maps.clone"], unfollowed := true, recurses := true, apart := false }
def CodeRightsSaid : Prop := codeRightsRow.holds Tryz.pinned (OpenSpec.ofChange codeRightsSpec)

/-- ITS FALSE NEIGHBOUR: 'it returns false'. Refute it at one input. -/
def codeRightsWrong : ChangeSpec := { name := "codeRights", fn := fun _ => fun
  | [d1, d2, d3] => { results := [.lit (.bool false)], args := [d1, d2, d3] }
  | _ => none }
def CodeRightsWrongFalsely : Prop := codeRightsRow.holds Tryz.pinned (OpenSpec.ofChange codeRightsWrong)

/-- 'ropewalklaw09.CodeNil': WHATEVER THE INPUT: true; the input reads as it did. -/
def codeNilSpec : ChangeSpec := { name := "codeNil", fn := fun _ => fun
  | [d1, d2, d3] => { results := [.lit (.bool true)], args := [d1, d2, d3] }
  | _ => none }
def codeNilRow : OpenClaim := { program := "ytdhiiicppcgkbaagreat", sum := "7b71e7a3336ffcb4dff61687980d9559c7f64d46057592f2af0947b325cfedcd", func := "ropewalk/ropewalklaw09.CodeNil", spec := "codeNil", inPlace := ["internal/reflectlite.TypeOf", "maps.clone"], unfollowed := true, recurses := true, apart := false }
def CodeNilSaid : Prop := codeNilRow.holds Tryz.pinned (OpenSpec.ofChange codeNilSpec)

/-- ITS FALSE NEIGHBOUR: 'it returns false'. Refute it at one input. -/
def codeNilWrong : ChangeSpec := { name := "codeNil", fn := fun _ => fun
  | [d1, d2, d3] => { results := [.lit (.bool false)], args := [d1, d2, d3] }
  | _ => none }
def CodeNilWrongFalsely : Prop := codeNilRow.holds Tryz.pinned (OpenSpec.ofChange codeNilWrong)

/- THE SECOND FORM. 'bulk': how many values and letters a reading holds, each counted each time it is reached (what is shared counts as often as it is met; a slice's spare places count too). A statement '..UptoSaid' is the law's where the arguments, and the package variables that the reading takes, are together of bulk at most 1048576: NARROWER than '..Said'. Prove '..Said' where nothing that the law and all that it calls make is longer than what came in: it says more and counts as full. Else prove '..UptoSaid'. A law counts once. -/
mutual
def uptoBulk {H : Type} : DataW H → Nat
  | .lit (.string bytes) => bytes.length + 1
  | .lit _ => 1
  | .nil => 1
  | .ptr d => uptoBulk d + 1
  | .slice elems spare => uptoBulkAll elems + uptoBulkAll spare + 1
  | .agg parts => uptoBulkAll parts + 1
  | .iface _ d => uptoBulk d + 1
  | .map entries => uptoBulkEntries entries + 1
  | .held _ => 1
def uptoBulkAll {H : Type} : List (DataW H) → Nat
  | [] => 0
  | d :: r => uptoBulk d + uptoBulkAll r
def uptoBulkEntries {H : Type} : List (Lit × DataW H) → Nat
  | [] => 0
  | x :: r => uptoBulkEntry x + uptoBulkEntries r
def uptoBulkEntry {H : Type} : Lit × DataW H → Nat
  | (.string bytes, d) => bytes.length + uptoBulk d + 1
  | (_, d) => uptoBulk d + 1
 end
def uptoSmall : (H : Type) → List (DataW H) → Bool := fun _ ds => decide (uptoBulkAll ds ≤ 1048576)
def OpenSpec.upto (s : _root_.Go.ChangeSpec) : _root_.Go.OpenSpec := { _root_.Go.OpenSpec.ofChange s with cond := some uptoSmall }

/-- 'ropewalklaw09.CodeFlats', WHERE WHAT IT READS IS OF BULK AT MOST 1048576: true; the input reads as it did. -/
def codeFlatsUptoRow : OpenClaim := { program := "ytdhiiicppcgkbaagreat", sum := "7b71e7a3336ffcb4dff61687980d9559c7f64d46057592f2af0947b325cfedcd", func := "ropewalk/ropewalklaw09.CodeFlats", spec := "codeFlats", inPlace := ["internal/reflectlite.TypeOf", "maps.clone"], unfollowed := true, recurses := true, loops := true, apart := false, narrowed := true }
def CodeFlatsUptoSaid : Prop := codeFlatsUptoRow.holds Tryz.pinned (OpenSpec.upto codeFlatsSpec)

/-- 'ropewalklaw09.CodeCompiles', WHERE WHAT IT READS IS OF BULK AT MOST 1048576: true; the input reads as it did. -/
def codeCompilesUptoRow : OpenClaim := { program := "ytdhiiicppcgkbaagreat", sum := "7b71e7a3336ffcb4dff61687980d9559c7f64d46057592f2af0947b325cfedcd", func := "ropewalk/ropewalklaw09.CodeCompiles", spec := "codeCompiles", inPlace := ["internal/reflectlite.TypeOf", "maps.clone"], unfollowed := true, recurses := true, apart := false, narrowed := true }
def CodeCompilesUptoSaid : Prop := codeCompilesUptoRow.holds Tryz.pinned (OpenSpec.upto codeCompilesSpec)

/-- 'ropewalklaw09.CodeRuns', WHERE WHAT IT READS IS OF BULK AT MOST 1048576: true; the input reads as it did. -/
def codeRunsUptoRow : OpenClaim := { program := "ytdhiiicppcgkbaagreat", sum := "7b71e7a3336ffcb4dff61687980d9559c7f64d46057592f2af0947b325cfedcd", func := "ropewalk/ropewalklaw09.CodeRuns", spec := "codeRuns", inPlace := ["internal/reflectlite.TypeOf", "maps.clone"], unfollowed := true, recurses := true, apart := false, narrowed := true }
def CodeRunsUptoSaid : Prop := codeRunsUptoRow.holds Tryz.pinned (OpenSpec.upto codeRunsSpec)

/-- 'ropewalklaw09.CodeViews', WHERE WHAT IT READS IS OF BULK AT MOST 1048576: true; the input reads as it did. -/
def codeViewsUptoRow : OpenClaim := { program := "ytdhiiicppcgkbaagreat", sum := "7b71e7a3336ffcb4dff61687980d9559c7f64d46057592f2af0947b325cfedcd", func := "ropewalk/ropewalklaw09.CodeViews", spec := "codeViews", inPlace := ["internal/reflectlite.TypeOf", "maps.clone"], unfollowed := true, recurses := true, apart := false, narrowed := true }
def CodeViewsUptoSaid : Prop := codeViewsUptoRow.holds Tryz.pinned (OpenSpec.upto codeViewsSpec)

/-- 'ropewalklaw09.CodeWalks', WHERE WHAT IT READS IS OF BULK AT MOST 1048576: true; the input reads as it did. -/
def codeWalksUptoRow : OpenClaim := { program := "ytdhiiicppcgkbaagreat", sum := "7b71e7a3336ffcb4dff61687980d9559c7f64d46057592f2af0947b325cfedcd", func := "ropewalk/ropewalklaw09.CodeWalks", spec := "codeWalks", inPlace := ["internal/reflectlite.TypeOf", "maps.clone"], unfollowed := true, recurses := true, apart := false, narrowed := true }
def CodeWalksUptoSaid : Prop := codeWalksUptoRow.holds Tryz.pinned (OpenSpec.upto codeWalksSpec)

/-- 'ropewalklaw09.CodeRights', WHERE WHAT IT READS IS OF BULK AT MOST 1048576: true; the input reads as it did. -/
def codeRightsUptoRow : OpenClaim := { program := "ytdhiiicppcgkbaagreat", sum := "7b71e7a3336ffcb4dff61687980d9559c7f64d46057592f2af0947b325cfedcd", func := "ropewalk/ropewalklaw09.CodeRights", spec := "codeRights", inPlace := ["internal/reflectlite.TypeOf", "maps.clone"], unfollowed := true, recurses := true, apart := false, narrowed := true }
def CodeRightsUptoSaid : Prop := codeRightsUptoRow.holds Tryz.pinned (OpenSpec.upto codeRightsSpec)

/-- 'ropewalklaw09.CodeNil', WHERE WHAT IT READS IS OF BULK AT MOST 1048576: true; the input reads as it did. -/
def codeNilUptoRow : OpenClaim := { program := "ytdhiiicppcgkbaagreat", sum := "7b71e7a3336ffcb4dff61687980d9559c7f64d46057592f2af0947b325cfedcd", func := "ropewalk/ropewalklaw09.CodeNil", spec := "codeNil", inPlace := ["internal/reflectlite.TypeOf", "maps.clone"], unfollowed := true, recurses := true, apart := false, narrowed := true }
def CodeNilUptoSaid : Prop := codeNilUptoRow.holds Tryz.pinned (OpenSpec.upto codeNilSpec)

end Rows
end Go.Proofs.YtdhiiicppcgkbaaGreat
