/-
  No cell of these rows narrows 'for every input' (looked for: loops, veiled, ifaces, maps, wideKeys, modest, calm, conditions, laid).
  DERIVED. THE GIVEN ROWS OF THIS SEAT. 6 by the template 'for every input the law returns true; each argument reads behind the call as it read before'; 0 by the template 'total and deterministic' (their statements: YtgoifkbdiicmkaaTotals.lean).
  GIVEN WITH THE SEED: the statements are not yours to turn. If you find one false, say at which input.
  Laid BY PROGRAM, IN A SANDBOX (cutbox-rows.mjs): the forced cells as the released guide's own fill.sh prints them over the translation 72012059d2b75ed7… (all of the seat's roots in one cut). By AI agents, Wed Nov 11 2026. No macro, syntax, notation, axiom, sorry.
-/
import Derived.Test.YtgoifkbdiicmkaaChecked
import GoSem.Claim
import GoSem.ClaimJoined
import GoSem.ClaimMapViews
import Derived.JoinedTies
import Derived.KernelRfl
namespace Go.Proofs.Ytgoifkbdiicmkaa
/- THE CELL 'sum', in the pinned program and in every row, IS THE sha256 OF THE DUMP (.gsa) THAT YtgoifkbdiicmkaaProg.lean LOADS. Nothing in Lean hashes anything: it is a label: what it is worth is what the hold of that sum in a sandbox is worth. -/
noncomputable def Try.pinned : Pinned := { name := "ytgoifkbdiicmkaa", sum := "72012059d2b75ed7bc82332ff6fb8736dcaf9a9527d3f696d88cd5b86b4309f3", checked := Try.checked }
namespace Rows
def none {H : Type} : Left H := { results := [], args := [] }

/-- 'ropewalklaw02.TermNames': WHATEVER THE INPUT: true; the input reads as it did. -/
def termNamesSpec : ChangeSpec := { name := "termNames", fn := fun _ => fun
  | [] => { results := [.lit (.bool true)], args := [] }
  | _ => none }
def termNamesRow : OpenClaim := { program := "ytgoifkbdiicmkaa", sum := "72012059d2b75ed7bc82332ff6fb8736dcaf9a9527d3f696d88cd5b86b4309f3", func := "ropewalk/ropewalklaw02.TermNames", spec := "termNames", apart := false }
def TermNamesSaid : Prop := termNamesRow.holds Try.pinned (OpenSpec.ofChange termNamesSpec)

/-- ITS FALSE NEIGHBOUR: 'it returns false'. Refute it at one input. -/
def termNamesWrong : ChangeSpec := { name := "termNames", fn := fun _ => fun
  | [] => { results := [.lit (.bool false)], args := [] }
  | _ => none }
def TermNamesWrongFalsely : Prop := termNamesRow.holds Try.pinned (OpenSpec.ofChange termNamesWrong)

/-- 'ropewalklaw02.TermChecks': WHATEVER THE INPUT: true; the input reads as it did. -/
def termChecksSpec : ChangeSpec := { name := "termChecks", fn := fun _ => fun
  | [d] => { results := [.lit (.bool true)], args := [d] }
  | _ => none }
def termChecksRow : OpenClaim := { program := "ytgoifkbdiicmkaa", sum := "72012059d2b75ed7bc82332ff6fb8736dcaf9a9527d3f696d88cd5b86b4309f3", func := "ropewalk/ropewalklaw02.TermChecks", spec := "termChecks", apart := false }
def TermChecksSaid : Prop := termChecksRow.holds Try.pinned (OpenSpec.ofChange termChecksSpec)

/-- ITS FALSE NEIGHBOUR: 'it returns false'. Refute it at one input. -/
def termChecksWrong : ChangeSpec := { name := "termChecks", fn := fun _ => fun
  | [d] => { results := [.lit (.bool false)], args := [d] }
  | _ => none }
def TermChecksWrongFalsely : Prop := termChecksRow.holds Try.pinned (OpenSpec.ofChange termChecksWrong)

/-- 'ropewalklaw02.TermCuts': WHATEVER THE INPUT: true; the input reads as it did. -/
def termCutsSpec : ChangeSpec := { name := "termCuts", fn := fun _ => fun
  | [d] => { results := [.lit (.bool true)], args := [d] }
  | _ => none }
def termCutsRow : OpenClaim := { program := "ytgoifkbdiicmkaa", sum := "72012059d2b75ed7bc82332ff6fb8736dcaf9a9527d3f696d88cd5b86b4309f3", func := "ropewalk/ropewalklaw02.TermCuts", spec := "termCuts", apart := false }
def TermCutsSaid : Prop := termCutsRow.holds Try.pinned (OpenSpec.ofChange termCutsSpec)

/-- ITS FALSE NEIGHBOUR: 'it returns false'. Refute it at one input. -/
def termCutsWrong : ChangeSpec := { name := "termCuts", fn := fun _ => fun
  | [d] => { results := [.lit (.bool false)], args := [d] }
  | _ => none }
def TermCutsWrongFalsely : Prop := termCutsRow.holds Try.pinned (OpenSpec.ofChange termCutsWrong)

/-- 'ropewalklaw02.TermPuts': WHATEVER THE INPUT: true; the input reads as it did. -/
def termPutsSpec : ChangeSpec := { name := "termPuts", fn := fun _ => fun
  | [d] => { results := [.lit (.bool true)], args := [d] }
  | _ => none }
def termPutsRow : OpenClaim := { program := "ytgoifkbdiicmkaa", sum := "72012059d2b75ed7bc82332ff6fb8736dcaf9a9527d3f696d88cd5b86b4309f3", func := "ropewalk/ropewalklaw02.TermPuts", spec := "termPuts", apart := false }
def TermPutsSaid : Prop := termPutsRow.holds Try.pinned (OpenSpec.ofChange termPutsSpec)

/-- ITS FALSE NEIGHBOUR: 'it returns false'. Refute it at one input. -/
def termPutsWrong : ChangeSpec := { name := "termPuts", fn := fun _ => fun
  | [d] => { results := [.lit (.bool false)], args := [d] }
  | _ => none }
def TermPutsWrongFalsely : Prop := termPutsRow.holds Try.pinned (OpenSpec.ofChange termPutsWrong)

/-- 'ropewalklaw02.TermLeads': WHATEVER THE INPUT: true; the input reads as it did. -/
def termLeadsSpec : ChangeSpec := { name := "termLeads", fn := fun _ => fun
  | [d] => { results := [.lit (.bool true)], args := [d] }
  | _ => none }
def termLeadsRow : OpenClaim := { program := "ytgoifkbdiicmkaa", sum := "72012059d2b75ed7bc82332ff6fb8736dcaf9a9527d3f696d88cd5b86b4309f3", func := "ropewalk/ropewalklaw02.TermLeads", spec := "termLeads", apart := false }
def TermLeadsSaid : Prop := termLeadsRow.holds Try.pinned (OpenSpec.ofChange termLeadsSpec)

/-- ITS FALSE NEIGHBOUR: 'it returns false'. Refute it at one input. -/
def termLeadsWrong : ChangeSpec := { name := "termLeads", fn := fun _ => fun
  | [d] => { results := [.lit (.bool false)], args := [d] }
  | _ => none }
def TermLeadsWrongFalsely : Prop := termLeadsRow.holds Try.pinned (OpenSpec.ofChange termLeadsWrong)

/-- 'ropewalklaw02.TermPlains': WHATEVER THE INPUT: true; the input reads as it did. -/
def termPlainsSpec : ChangeSpec := { name := "termPlains", fn := fun _ => fun
  | [d] => { results := [.lit (.bool true)], args := [d] }
  | _ => none }
def termPlainsRow : OpenClaim := { program := "ytgoifkbdiicmkaa", sum := "72012059d2b75ed7bc82332ff6fb8736dcaf9a9527d3f696d88cd5b86b4309f3", func := "ropewalk/ropewalklaw02.TermPlains", spec := "termPlains", apart := false }
def TermPlainsSaid : Prop := termPlainsRow.holds Try.pinned (OpenSpec.ofChange termPlainsSpec)

/-- ITS FALSE NEIGHBOUR: 'it returns false'. Refute it at one input. -/
def termPlainsWrong : ChangeSpec := { name := "termPlains", fn := fun _ => fun
  | [d] => { results := [.lit (.bool false)], args := [d] }
  | _ => none }
def TermPlainsWrongFalsely : Prop := termPlainsRow.holds Try.pinned (OpenSpec.ofChange termPlainsWrong)

/- THE SECOND FORM. 'bulk': how many values and letters a reading holds, each counted each time it is reached (what is shared counts as often as it is met; a slice's spare places count too). A statement '..UptoSaid' is the law's where the arguments, and the package variables that the reading takes, are together of bulk at most 1048576: NARROWER than '..Said'. Prove '..Said' where nothing that the law and all that it calls make is longer than what came in: it says more and counts as full. Else prove '..UptoSaid'. A law counts once. -/
mutual
def uptoBulk {H : Type} : DataW H → Nat
  | .lit (.string bytes) => bytes.length + 1
  | .lit _ => 1
  | .nil => 1
  | .ptr d => uptoBulk d + 1
  | .slice elems spare => uptoBulkAll elems + uptoBulkAll spare + 1
  | .agg parts => uptoBulkAll parts + 1
  | .iface _ d => uptoBulk d + 1
  | .map entries => uptoBulkEntries entries + 1
  | .held _ => 1
def uptoBulkAll {H : Type} : List (DataW H) → Nat
  | [] => 0
  | d :: r => uptoBulk d + uptoBulkAll r
def uptoBulkEntries {H : Type} : List (Lit × DataW H) → Nat
  | [] => 0
  | x :: r => uptoBulkEntry x + uptoBulkEntries r
def uptoBulkEntry {H : Type} : Lit × DataW H → Nat
  | (.string bytes, d) => bytes.length + uptoBulk d + 1
  | (_, d) => uptoBulk d + 1
 end
def uptoSmall : (H : Type) → List (DataW H) → Bool := fun _ ds => decide (uptoBulkAll ds ≤ 1048576)
def OpenSpec.upto (s : _root_.Go.ChangeSpec) : _root_.Go.OpenSpec := { _root_.Go.OpenSpec.ofChange s with cond := some uptoSmall }

/-- 'ropewalklaw02.TermNames', WHERE WHAT IT READS IS OF BULK AT MOST 1048576: true; the input reads as it did. -/
def termNamesUptoRow : OpenClaim := { program := "ytgoifkbdiicmkaa", sum := "72012059d2b75ed7bc82332ff6fb8736dcaf9a9527d3f696d88cd5b86b4309f3", func := "ropewalk/ropewalklaw02.TermNames", spec := "termNames", apart := false, narrowed := true }
def TermNamesUptoSaid : Prop := termNamesUptoRow.holds Try.pinned (OpenSpec.upto termNamesSpec)

/-- 'ropewalklaw02.TermChecks', WHERE WHAT IT READS IS OF BULK AT MOST 1048576: true; the input reads as it did. -/
def termChecksUptoRow : OpenClaim := { program := "ytgoifkbdiicmkaa", sum := "72012059d2b75ed7bc82332ff6fb8736dcaf9a9527d3f696d88cd5b86b4309f3", func := "ropewalk/ropewalklaw02.TermChecks", spec := "termChecks", apart := false, narrowed := true }
def TermChecksUptoSaid : Prop := termChecksUptoRow.holds Try.pinned (OpenSpec.upto termChecksSpec)

/-- 'ropewalklaw02.TermCuts', WHERE WHAT IT READS IS OF BULK AT MOST 1048576: true; the input reads as it did. -/
def termCutsUptoRow : OpenClaim := { program := "ytgoifkbdiicmkaa", sum := "72012059d2b75ed7bc82332ff6fb8736dcaf9a9527d3f696d88cd5b86b4309f3", func := "ropewalk/ropewalklaw02.TermCuts", spec := "termCuts", apart := false, narrowed := true }
def TermCutsUptoSaid : Prop := termCutsUptoRow.holds Try.pinned (OpenSpec.upto termCutsSpec)

/-- 'ropewalklaw02.TermPuts', WHERE WHAT IT READS IS OF BULK AT MOST 1048576: true; the input reads as it did. -/
def termPutsUptoRow : OpenClaim := { program := "ytgoifkbdiicmkaa", sum := "72012059d2b75ed7bc82332ff6fb8736dcaf9a9527d3f696d88cd5b86b4309f3", func := "ropewalk/ropewalklaw02.TermPuts", spec := "termPuts", apart := false, narrowed := true }
def TermPutsUptoSaid : Prop := termPutsUptoRow.holds Try.pinned (OpenSpec.upto termPutsSpec)

/-- 'ropewalklaw02.TermLeads', WHERE WHAT IT READS IS OF BULK AT MOST 1048576: true; the input reads as it did. -/
def termLeadsUptoRow : OpenClaim := { program := "ytgoifkbdiicmkaa", sum := "72012059d2b75ed7bc82332ff6fb8736dcaf9a9527d3f696d88cd5b86b4309f3", func := "ropewalk/ropewalklaw02.TermLeads", spec := "termLeads", apart := false, narrowed := true }
def TermLeadsUptoSaid : Prop := termLeadsUptoRow.holds Try.pinned (OpenSpec.upto termLeadsSpec)

/-- 'ropewalklaw02.TermPlains', WHERE WHAT IT READS IS OF BULK AT MOST 1048576: true; the input reads as it did. -/
def termPlainsUptoRow : OpenClaim := { program := "ytgoifkbdiicmkaa", sum := "72012059d2b75ed7bc82332ff6fb8736dcaf9a9527d3f696d88cd5b86b4309f3", func := "ropewalk/ropewalklaw02.TermPlains", spec := "termPlains", apart := false, narrowed := true }
def TermPlainsUptoSaid : Prop := termPlainsUptoRow.holds Try.pinned (OpenSpec.upto termPlainsSpec)

end Rows
end Go.Proofs.Ytgoifkbdiicmkaa
