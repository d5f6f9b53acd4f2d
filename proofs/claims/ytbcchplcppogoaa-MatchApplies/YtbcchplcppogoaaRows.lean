/-
  No cell of these rows narrows 'for every input' (looked for: loops, veiled, ifaces, maps, wideKeys, modest, calm, conditions, laid).
  DERIVED. THE GIVEN ROWS OF THIS SEAT. 6 by the template 'for every input the law returns true; each argument reads behind the call as it read before'; 0 by the template 'total and deterministic' (their statements: YtbcchplcppogoaaTotals.lean).
  GIVEN WITH THE SEED: the statements are not yours to turn. If you find one false, say at which input.
  Laid BY PROGRAM, IN A SANDBOX (cutbox-rows.mjs): the forced cells as the released guide's own fill.sh prints them over the translation 36b6215772872cf5… (all of the seat's roots in one cut). By AI agents, Wed Nov 11 2026. No macro, syntax, notation, axiom, sorry.
-/
import Derived.Test.YtbcchplcppogoaaChecked
import GoSem.Claim
import GoSem.ClaimJoined
import GoSem.ClaimMapViews
import Derived.JoinedTies
import Derived.KernelRfl
namespace Go.Proofs.Ytbcchplcppogoaa
/- THE CELL 'sum', in the pinned program and in every row, IS THE sha256 OF THE DUMP (.gsa) THAT YtbcchplcppogoaaProg.lean LOADS. Nothing in Lean hashes anything: it is a label: what it is worth is what the hold of that sum in a sandbox is worth. -/
noncomputable def Try.pinned : Pinned := { name := "ytbcchplcppogoaa", sum := "36b6215772872cf548c74b1c239880de07fa8ec8397369a69eac36b24f8f2b41", checked := Try.checked }
namespace Rows
def none {H : Type} : Left H := { results := [], args := [] }

/-- 'ropewalklaw05.MatchNames': WHATEVER THE INPUT: true; the input reads as it did. -/
def matchNamesSpec : ChangeSpec := { name := "matchNames", fn := fun _ => fun
  | [] => { results := [.lit (.bool true)], args := [] }
  | _ => none }
def matchNamesRow : OpenClaim := { program := "ytbcchplcppogoaa", sum := "36b6215772872cf548c74b1c239880de07fa8ec8397369a69eac36b24f8f2b41", func := "ropewalk/ropewalklaw05.MatchNames", spec := "matchNames", unfollowed := true, recurses := true, apart := false }
def MatchNamesSaid : Prop := matchNamesRow.holds Try.pinned (OpenSpec.ofChange matchNamesSpec)

/-- ITS FALSE NEIGHBOUR: 'it returns false'. Refute it at one input. -/
def matchNamesWrong : ChangeSpec := { name := "matchNames", fn := fun _ => fun
  | [] => { results := [.lit (.bool false)], args := [] }
  | _ => none }
def MatchNamesWrongFalsely : Prop := matchNamesRow.holds Try.pinned (OpenSpec.ofChange matchNamesWrong)

/-- 'ropewalklaw05.MatchFits': WHATEVER THE INPUT: true; the input reads as it did. -/
def matchFitsSpec : ChangeSpec := { name := "matchFits", fn := fun _ => fun
  | [d] => { results := [.lit (.bool true)], args := [d] }
  | _ => none }
def matchFitsRow : OpenClaim := { program := "ytbcchplcppogoaa", sum := "36b6215772872cf548c74b1c239880de07fa8ec8397369a69eac36b24f8f2b41", func := "ropewalk/ropewalklaw05.MatchFits", spec := "matchFits", unfollowed := true, recurses := true, apart := false }
def MatchFitsSaid : Prop := matchFitsRow.holds Try.pinned (OpenSpec.ofChange matchFitsSpec)

/-- ITS FALSE NEIGHBOUR: 'it returns false'. Refute it at one input. -/
def matchFitsWrong : ChangeSpec := { name := "matchFits", fn := fun _ => fun
  | [d] => { results := [.lit (.bool false)], args := [d] }
  | _ => none }
def MatchFitsWrongFalsely : Prop := matchFitsRow.holds Try.pinned (OpenSpec.ofChange matchFitsWrong)

/-- 'ropewalklaw05.MatchApplies': WHATEVER THE INPUT: true; the input reads as it did. -/
def matchAppliesSpec : ChangeSpec := { name := "matchApplies", fn := fun _ => fun
  | [d] => { results := [.lit (.bool true)], args := [d] }
  | _ => none }
def matchAppliesRow : OpenClaim := { program := "ytbcchplcppogoaa", sum := "36b6215772872cf548c74b1c239880de07fa8ec8397369a69eac36b24f8f2b41", func := "ropewalk/ropewalklaw05.MatchApplies", spec := "matchApplies", unfollowed := true, recurses := true, apart := false }
def MatchAppliesSaid : Prop := matchAppliesRow.holds Try.pinned (OpenSpec.ofChange matchAppliesSpec)

/-- ITS FALSE NEIGHBOUR: 'it returns false'. Refute it at one input. -/
def matchAppliesWrong : ChangeSpec := { name := "matchApplies", fn := fun _ => fun
  | [d] => { results := [.lit (.bool false)], args := [d] }
  | _ => none }
def MatchAppliesWrongFalsely : Prop := matchAppliesRow.holds Try.pinned (OpenSpec.ofChange matchAppliesWrong)

/-- 'ropewalklaw05.MatchAlike': WHATEVER THE INPUT: true; the input reads as it did. -/
def matchAlikeSpec : ChangeSpec := { name := "matchAlike", fn := fun _ => fun
  | [d] => { results := [.lit (.bool true)], args := [d] }
  | _ => none }
def matchAlikeRow : OpenClaim := { program := "ytbcchplcppogoaa", sum := "36b6215772872cf548c74b1c239880de07fa8ec8397369a69eac36b24f8f2b41", func := "ropewalk/ropewalklaw05.MatchAlike", spec := "matchAlike", unfollowed := true, recurses := true, apart := false }
def MatchAlikeSaid : Prop := matchAlikeRow.holds Try.pinned (OpenSpec.ofChange matchAlikeSpec)

/-- ITS FALSE NEIGHBOUR: 'it returns false'. Refute it at one input. -/
def matchAlikeWrong : ChangeSpec := { name := "matchAlike", fn := fun _ => fun
  | [d] => { results := [.lit (.bool false)], args := [d] }
  | _ => none }
def MatchAlikeWrongFalsely : Prop := matchAlikeRow.holds Try.pinned (OpenSpec.ofChange matchAlikeWrong)

/-- 'ropewalklaw05.MatchBack': WHATEVER THE INPUT: true; the input reads as it did. -/
def matchBackSpec : ChangeSpec := { name := "matchBack", fn := fun _ => fun
  | [d] => { results := [.lit (.bool true)], args := [d] }
  | _ => none }
def matchBackRow : OpenClaim := { program := "ytbcchplcppogoaa", sum := "36b6215772872cf548c74b1c239880de07fa8ec8397369a69eac36b24f8f2b41", func := "ropewalk/ropewalklaw05.MatchBack", spec := "matchBack", unfollowed := true, recurses := true, apart := false }
def MatchBackSaid : Prop := matchBackRow.holds Try.pinned (OpenSpec.ofChange matchBackSpec)

/-- ITS FALSE NEIGHBOUR: 'it returns false'. Refute it at one input. -/
def matchBackWrong : ChangeSpec := { name := "matchBack", fn := fun _ => fun
  | [d] => { results := [.lit (.bool false)], args := [d] }
  | _ => none }
def MatchBackWrongFalsely : Prop := matchBackRow.holds Try.pinned (OpenSpec.ofChange matchBackWrong)

/-- 'ropewalklaw05.MatchInstance': WHATEVER THE INPUT: true; the input reads as it did. -/
def matchInstanceSpec : ChangeSpec := { name := "matchInstance", fn := fun _ => fun
  | [d] => { results := [.lit (.bool true)], args := [d] }
  | _ => none }
def matchInstanceRow : OpenClaim := { program := "ytbcchplcppogoaa", sum := "36b6215772872cf548c74b1c239880de07fa8ec8397369a69eac36b24f8f2b41", func := "ropewalk/ropewalklaw05.MatchInstance", spec := "matchInstance", unfollowed := true, recurses := true, apart := false }
def MatchInstanceSaid : Prop := matchInstanceRow.holds Try.pinned (OpenSpec.ofChange matchInstanceSpec)

/-- ITS FALSE NEIGHBOUR: 'it returns false'. Refute it at one input. -/
def matchInstanceWrong : ChangeSpec := { name := "matchInstance", fn := fun _ => fun
  | [d] => { results := [.lit (.bool false)], args := [d] }
  | _ => none }
def MatchInstanceWrongFalsely : Prop := matchInstanceRow.holds Try.pinned (OpenSpec.ofChange matchInstanceWrong)

/- THE SECOND FORM. 'bulk': how many values and letters a reading holds, each counted each time it is reached (what is shared counts as often as it is met; a slice's spare places count too). A statement '..UptoSaid' is the law's where the arguments, and the package variables that the reading takes, are together of bulk at most 1048576: NARROWER than '..Said'. Prove '..Said' where nothing that the law and all that it calls make is longer than what came in: it says more and counts as full. Else prove '..UptoSaid'. A law counts once. -/
mutual
def uptoBulk {H : Type} : DataW H → Nat
  | .lit (.string bytes) => bytes.length + 1
  | .lit _ => 1
  | .nil => 1
  | .ptr d => uptoBulk d + 1
  | .slice elems spare => uptoBulkAll elems + uptoBulkAll spare + 1
  | .agg parts => uptoBulkAll parts + 1
  | .iface _ d => uptoBulk d + 1
  | .map entries => uptoBulkEntries entries + 1
  | .held _ => 1
def uptoBulkAll {H : Type} : List (DataW H) → Nat
  | [] => 0
  | d :: r => uptoBulk d + uptoBulkAll r
def uptoBulkEntries {H : Type} : List (Lit × DataW H) → Nat
  | [] => 0
  | x :: r => uptoBulkEntry x + uptoBulkEntries r
def uptoBulkEntry {H : Type} : Lit × DataW H → Nat
  | (.string bytes, d) => bytes.length + uptoBulk d + 1
  | (_, d) => uptoBulk d + 1
 end
def uptoSmall : (H : Type) → List (DataW H) → Bool := fun _ ds => decide (uptoBulkAll ds ≤ 1048576)
def OpenSpec.upto (s : _root_.Go.ChangeSpec) : _root_.Go.OpenSpec := { _root_.Go.OpenSpec.ofChange s with cond := some uptoSmall }

/-- 'ropewalklaw05.MatchNames', WHERE WHAT IT READS IS OF BULK AT MOST 1048576: true; the input reads as it did. -/
def matchNamesUptoRow : OpenClaim := { program := "ytbcchplcppogoaa", sum := "36b6215772872cf548c74b1c239880de07fa8ec8397369a69eac36b24f8f2b41", func := "ropewalk/ropewalklaw05.MatchNames", spec := "matchNames", unfollowed := true, recurses := true, apart := false, narrowed := true }
def MatchNamesUptoSaid : Prop := matchNamesUptoRow.holds Try.pinned (OpenSpec.upto matchNamesSpec)

/-- 'ropewalklaw05.MatchFits', WHERE WHAT IT READS IS OF BULK AT MOST 1048576: true; the input reads as it did. -/
def matchFitsUptoRow : OpenClaim := { program := "ytbcchplcppogoaa", sum := "36b6215772872cf548c74b1c239880de07fa8ec8397369a69eac36b24f8f2b41", func := "ropewalk/ropewalklaw05.MatchFits", spec := "matchFits", unfollowed := true, recurses := true, apart := false, narrowed := true }
def MatchFitsUptoSaid : Prop := matchFitsUptoRow.holds Try.pinned (OpenSpec.upto matchFitsSpec)

/-- 'ropewalklaw05.MatchApplies', WHERE WHAT IT READS IS OF BULK AT MOST 1048576: true; the input reads as it did. -/
def matchAppliesUptoRow : OpenClaim := { program := "ytbcchplcppogoaa", sum := "36b6215772872cf548c74b1c239880de07fa8ec8397369a69eac36b24f8f2b41", func := "ropewalk/ropewalklaw05.MatchApplies", spec := "matchApplies", unfollowed := true, recurses := true, apart := false, narrowed := true }
def MatchAppliesUptoSaid : Prop := matchAppliesUptoRow.holds Try.pinned (OpenSpec.upto matchAppliesSpec)

/-- 'ropewalklaw05.MatchAlike', WHERE WHAT IT READS IS OF BULK AT MOST 1048576: true; the input reads as it did. -/
def matchAlikeUptoRow : OpenClaim := { program := "ytbcchplcppogoaa", sum := "36b6215772872cf548c74b1c239880de07fa8ec8397369a69eac36b24f8f2b41", func := "ropewalk/ropewalklaw05.MatchAlike", spec := "matchAlike", unfollowed := true, recurses := true, apart := false, narrowed := true }
def MatchAlikeUptoSaid : Prop := matchAlikeUptoRow.holds Try.pinned (OpenSpec.upto matchAlikeSpec)

/-- 'ropewalklaw05.MatchBack', WHERE WHAT IT READS IS OF BULK AT MOST 1048576: true; the input reads as it did. -/
def matchBackUptoRow : OpenClaim := { program := "ytbcchplcppogoaa", sum := "36b6215772872cf548c74b1c239880de07fa8ec8397369a69eac36b24f8f2b41", func := "ropewalk/ropewalklaw05.MatchBack", spec := "matchBack", unfollowed := true, recurses := true, apart := false, narrowed := true }
def MatchBackUptoSaid : Prop := matchBackUptoRow.holds Try.pinned (OpenSpec.upto matchBackSpec)

/-- 'ropewalklaw05.MatchInstance', WHERE WHAT IT READS IS OF BULK AT MOST 1048576: true; the input reads as it did. -/
def matchInstanceUptoRow : OpenClaim := { program := "ytbcchplcppogoaa", sum := "36b6215772872cf548c74b1c239880de07fa8ec8397369a69eac36b24f8f2b41", func := "ropewalk/ropewalklaw05.MatchInstance", spec := "matchInstance", unfollowed := true, recurses := true, apart := false, narrowed := true }
def MatchInstanceUptoSaid : Prop := matchInstanceUptoRow.holds Try.pinned (OpenSpec.upto matchInstanceSpec)

end Rows
end Go.Proofs.Ytbcchplcppogoaa
