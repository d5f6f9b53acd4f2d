/-
  NARROWER THAN 'FOR EVERY INPUT', by the rows' own cells (each row's printed sentence says how): SystemNames: laid · SystemPlays: laid · SystemSound: laid · SystemWraps: laid · SystemNil: laid · ResidualSteps: laid · ResidualTogether: laid · ResidualThrough: laid · ResidualApart: laid · ResidualSame: laid · ResidualMoves: laid · ResidualOnce: laid · ResidualCuts: laid · ResidualNone: laid.
  DERIVED. THE GIVEN ROWS OF THIS SEAT. 14 by the template 'for every input the law returns true; each argument reads behind the call as it read before'; 0 by the template 'total and deterministic' (their statements: YtflcpepjmonlpaaGreatDoorTotals.lean).
  GIVEN WITH THE SEED: the statements are not yours to turn. If you find one false, say at which input.
  Laid BY PROGRAM, IN A SANDBOX (cutbox-rows.mjs): the forced cells as the released guide's own fill.sh prints them over the translation a7e51b916e3e39b8… (all of the seat's roots in one cut). By AI agents, Wed Nov 11 2026. No macro, syntax, notation, axiom, sorry.
-/
import Derived.Test.YtflcpepjmonlpaaGreatDoorChecked
import GoSem.Claim
import GoSem.ClaimJoined
import GoSem.ClaimMapViews
import Derived.JoinedTies
import Derived.KernelRfl
namespace Go.Proofs.YtflcpepjmonlpaaGreatDoor
/- THE CELL 'sum', in the pinned program and in every row, IS THE sha256 OF THE DUMP (.gsa) THAT YtflcpepjmonlpaaGreatDoorProg.lean LOADS. Nothing in Lean hashes anything: it is a label: what it is worth is what the hold of that sum in a sandbox is worth. -/
noncomputable def Tryz.pinned : Pinned := { name := "ytflcpepjmonlpaagreatdoor", sum := "a7e51b916e3e39b89374196d6783cbe80310dbbd26919a0eefe9072a90c67bf0", checked := Tryz.checked }
namespace Rows
def none {H : Type} : Left H := { results := [], args := [] }

/- WHAT THE LISTED PACKAGE-LEVEL VARIABLES READ AS WHEN THE CALL BEGINS. Each datum BY PROGRAM (the guide's laid-datum.mjs) off the statement by which the dump's own 'gosem.cut.vars' lays the variable. In a bare row this is a premise. The card (YtflcpepjmonlpaaGreatDoorCards.lean) ties it to the program's text. -/
def laid_errors_errorType {H : Type} : DataW H := .iface "internal/reflectlite.rtype" (.agg [.ptr (.lit (.string [101, 114, 114, 111, 114]))])

/-- 'ropewalklaw10.SystemNames': WHATEVER THE INPUT: true; the input reads as it did. -/
def systemNamesSpec : ChangeSpec := { name := "systemNames", fn := fun _ => fun
  | [] => { results := [.lit (.bool true)], args := [] }
  | _ => none }
def systemNamesRow : OpenClaim := { program := "ytflcpepjmonlpaagreatdoor", sum := "a7e51b916e3e39b89374196d6783cbe80310dbbd26919a0eefe9072a90c67bf0", func := "ropewalk/ropewalklaw10.SystemNames", spec := "systemNames", inPlace := ["maps.clone", "internal/reflectlite.TypeOf", "internal/reflectlite.ValueOf", "(internal/reflectlite.Value).Type", "(internal/reflectlite.Value).IsNil", "(internal/reflectlite.Value).Elem", "(internal/reflectlite.Value).Set"], unfollowed := true, recurses := true, named := ["errors.errorType"], apart := false, laid := [("errors.errorType", laid_errors_errorType)] }
def SystemNamesSaid : Prop := systemNamesRow.holds Tryz.pinned (OpenSpec.ofChange systemNamesSpec)

/-- ITS FALSE NEIGHBOUR: 'it returns false'. Refute it at one input. -/
def systemNamesWrong : ChangeSpec := { name := "systemNames", fn := fun _ => fun
  | [] => { results := [.lit (.bool false)], args := [] }
  | _ => none }
def SystemNamesWrongFalsely : Prop := systemNamesRow.holds Tryz.pinned (OpenSpec.ofChange systemNamesWrong)

/-- 'ropewalklaw10.SystemPlays': WHATEVER THE INPUT: true; the input reads as it did. -/
def systemPlaysSpec : ChangeSpec := { name := "systemPlays", fn := fun _ => fun
  | [d] => { results := [.lit (.bool true)], args := [d] }
  | _ => none }
def systemPlaysRow : OpenClaim := { program := "ytflcpepjmonlpaagreatdoor", sum := "a7e51b916e3e39b89374196d6783cbe80310dbbd26919a0eefe9072a90c67bf0", func := "ropewalk/ropewalklaw10.SystemPlays", spec := "systemPlays", inPlace := ["maps.clone", "internal/reflectlite.TypeOf", "internal/reflectlite.ValueOf", "(internal/reflectlite.Value).Type", "(internal/reflectlite.Value).IsNil", "(internal/reflectlite.Value).Elem", "(internal/reflectlite.Value).Set"], unfollowed := true, recurses := true, named := ["errors.errorType"], apart := false, laid := [("errors.errorType", laid_errors_errorType)] }
def SystemPlaysSaid : Prop := systemPlaysRow.holds Tryz.pinned (OpenSpec.ofChange systemPlaysSpec)

/-- ITS FALSE NEIGHBOUR: 'it returns false'. Refute it at one input. -/
def systemPlaysWrong : ChangeSpec := { name := "systemPlays", fn := fun _ => fun
  | [d] => { results := [.lit (.bool false)], args := [d] }
  | _ => none }
def SystemPlaysWrongFalsely : Prop := systemPlaysRow.holds Tryz.pinned (OpenSpec.ofChange systemPlaysWrong)

/-- 'ropewalklaw10.SystemSound': WHATEVER THE INPUT: true; the input reads as it did. -/
def systemSoundSpec : ChangeSpec := { name := "systemSound", fn := fun _ => fun
  | [d] => { results := [.lit (.bool true)], args := [d] }
  | _ => none }
def systemSoundRow : OpenClaim := { program := "ytflcpepjmonlpaagreatdoor", sum := "a7e51b916e3e39b89374196d6783cbe80310dbbd26919a0eefe9072a90c67bf0", func := "ropewalk/ropewalklaw10.SystemSound", spec := "systemSound", inPlace := ["maps.clone", "internal/reflectlite.TypeOf", "internal/reflectlite.ValueOf", "(internal/reflectlite.Value).Type", "(internal/reflectlite.Value).IsNil", "(internal/reflectlite.Value).Elem", "(internal/reflectlite.Value).Set"], unfollowed := true, recurses := true, named := ["errors.errorType"], apart := false, laid := [("errors.errorType", laid_errors_errorType)] }
def SystemSoundSaid : Prop := systemSoundRow.holds Tryz.pinned (OpenSpec.ofChange systemSoundSpec)

/-- ITS FALSE NEIGHBOUR: 'it returns false'. Refute it at one input. -/
def systemSoundWrong : ChangeSpec := { name := "systemSound", fn := fun _ => fun
  | [d] => { results := [.lit (.bool false)], args := [d] }
  | _ => none }
def SystemSoundWrongFalsely : Prop := systemSoundRow.holds Tryz.pinned (OpenSpec.ofChange systemSoundWrong)

/-- 'ropewalklaw10.SystemWraps': WHATEVER THE INPUT: true; the input reads as it did. -/
def systemWrapsSpec : ChangeSpec := { name := "systemWraps", fn := fun _ => fun
  | [d1, d2, d3] => { results := [.lit (.bool true)], args := [d1, d2, d3] }
  | _ => none }
def systemWrapsRow : OpenClaim := { program := "ytflcpepjmonlpaagreatdoor", sum := "a7e51b916e3e39b89374196d6783cbe80310dbbd26919a0eefe9072a90c67bf0", func := "ropewalk/ropewalklaw10.SystemWraps", spec := "systemWraps", inPlace := ["maps.clone", "internal/reflectlite.TypeOf", "internal/reflectlite.ValueOf", "(internal/reflectlite.Value).Type", "(internal/reflectlite.Value).IsNil", "(internal/reflectlite.Value).Elem", "(internal/reflectlite.Value).Set"], unfollowed := true, recurses := true, named := ["errors.errorType"], apart := false, laid := [("errors.errorType", laid_errors_errorType)] }
def SystemWrapsSaid : Prop := systemWrapsRow.holds Tryz.pinned (OpenSpec.ofChange systemWrapsSpec)

/-- ITS FALSE NEIGHBOUR: 'it returns false'. Refute it at one input. -/
def systemWrapsWrong : ChangeSpec := { name := "systemWraps", fn := fun _ => fun
  | [d1, d2, d3] => { results := [.lit (.bool false)], args := [d1, d2, d3] }
  | _ => none }
def SystemWrapsWrongFalsely : Prop := systemWrapsRow.holds Tryz.pinned (OpenSpec.ofChange systemWrapsWrong)

/-- 'ropewalklaw10.SystemNil': WHATEVER THE INPUT: true; the input reads as it did. -/
def systemNilSpec : ChangeSpec := { name := "systemNil", fn := fun _ => fun
  | [d1, d2, d3] => { results := [.lit (.bool true)], args := [d1, d2, d3] }
  | _ => none }
def systemNilRow : OpenClaim := { program := "ytflcpepjmonlpaagreatdoor", sum := "a7e51b916e3e39b89374196d6783cbe80310dbbd26919a0eefe9072a90c67bf0", func := "ropewalk/ropewalklaw10.SystemNil", spec := "systemNil", inPlace := ["maps.clone", "internal/reflectlite.TypeOf", "internal/reflectlite.ValueOf", "(internal/reflectlite.Value).Type", "(internal/reflectlite.Value).IsNil", "(internal/reflectlite.Value).Elem", "(internal/reflectlite.Value).Set"], unfollowed := true, recurses := true, named := ["errors.errorType"], apart := false, laid := [("errors.errorType", laid_errors_errorType)] }
def SystemNilSaid : Prop := systemNilRow.holds Tryz.pinned (OpenSpec.ofChange systemNilSpec)

/-- ITS FALSE NEIGHBOUR: 'it returns false'. Refute it at one input. -/
def systemNilWrong : ChangeSpec := { name := "systemNil", fn := fun _ => fun
  | [d1, d2, d3] => { results := [.lit (.bool false)], args := [d1, d2, d3] }
  | _ => none }
def SystemNilWrongFalsely : Prop := systemNilRow.holds Tryz.pinned (OpenSpec.ofChange systemNilWrong)

/-- 'ropewalklaw19.ResidualSteps': WHATEVER THE INPUT: true; the input reads as it did. -/
def residualStepsSpec : ChangeSpec := { name := "residualSteps", fn := fun _ => fun
  | [d1, d2, d3, d4, d5] => { results := [.lit (.bool true)], args := [d1, d2, d3, d4, d5] }
  | _ => none }
def residualStepsRow : OpenClaim := { program := "ytflcpepjmonlpaagreatdoor", sum := "a7e51b916e3e39b89374196d6783cbe80310dbbd26919a0eefe9072a90c67bf0", func := "ropewalk/ropewalklaw19.ResidualSteps", spec := "residualSteps", inPlace := ["maps.clone", "internal/reflectlite.TypeOf", "internal/reflectlite.ValueOf", "(internal/reflectlite.Value).Type", "(internal/reflectlite.Value).IsNil", "(internal/reflectlite.Value).Elem", "(internal/reflectlite.Value).Set"], unfollowed := true, recurses := true, named := ["errors.errorType"], apart := false, laid := [("errors.errorType", laid_errors_errorType)] }
def ResidualStepsSaid : Prop := residualStepsRow.holds Tryz.pinned (OpenSpec.ofChange residualStepsSpec)

/-- ITS FALSE NEIGHBOUR: 'it returns false'. Refute it at one input. -/
def residualStepsWrong : ChangeSpec := { name := "residualSteps", fn := fun _ => fun
  | [d1, d2, d3, d4, d5] => { results := [.lit (.bool false)], args := [d1, d2, d3, d4, d5] }
  | _ => none }
def ResidualStepsWrongFalsely : Prop := residualStepsRow.holds Tryz.pinned (OpenSpec.ofChange residualStepsWrong)

/-- 'ropewalklaw19.ResidualTogether': WHATEVER THE INPUT: true; the input reads as it did. -/
def residualTogetherSpec : ChangeSpec := { name := "residualTogether", fn := fun _ => fun
  | [d1, d2, d3, d4] => { results := [.lit (.bool true)], args := [d1, d2, d3, d4] }
  | _ => none }
def residualTogetherRow : OpenClaim := { program := "ytflcpepjmonlpaagreatdoor", sum := "a7e51b916e3e39b89374196d6783cbe80310dbbd26919a0eefe9072a90c67bf0", func := "ropewalk/ropewalklaw19.ResidualTogether", spec := "residualTogether", inPlace := ["maps.clone", "internal/reflectlite.TypeOf", "internal/reflectlite.ValueOf", "(internal/reflectlite.Value).Type", "(internal/reflectlite.Value).IsNil", "(internal/reflectlite.Value).Elem", "(internal/reflectlite.Value).Set"], unfollowed := true, recurses := true, named := ["errors.errorType"], apart := false, laid := [("errors.errorType", laid_errors_errorType)] }
def ResidualTogetherSaid : Prop := residualTogetherRow.holds Tryz.pinned (OpenSpec.ofChange residualTogetherSpec)

/-- ITS FALSE NEIGHBOUR: 'it returns false'. Refute it at one input. -/
def residualTogetherWrong : ChangeSpec := { name := "residualTogether", fn := fun _ => fun
  | [d1, d2, d3, d4] => { results := [.lit (.bool false)], args := [d1, d2, d3, d4] }
  | _ => none }
def ResidualTogetherWrongFalsely : Prop := residualTogetherRow.holds Tryz.pinned (OpenSpec.ofChange residualTogetherWrong)

/-- 'ropewalklaw19.ResidualThrough': WHATEVER THE INPUT: true; the input reads as it did. -/
def residualThroughSpec : ChangeSpec := { name := "residualThrough", fn := fun _ => fun
  | [d1, d2, d3, d4, d5] => { results := [.lit (.bool true)], args := [d1, d2, d3, d4, d5] }
  | _ => none }
def residualThroughRow : OpenClaim := { program := "ytflcpepjmonlpaagreatdoor", sum := "a7e51b916e3e39b89374196d6783cbe80310dbbd26919a0eefe9072a90c67bf0", func := "ropewalk/ropewalklaw19.ResidualThrough", spec := "residualThrough", inPlace := ["maps.clone", "internal/reflectlite.TypeOf", "internal/reflectlite.ValueOf", "(internal/reflectlite.Value).Type", "(internal/reflectlite.Value).IsNil", "(internal/reflectlite.Value).Elem", "(internal/reflectlite.Value).Set"], unfollowed := true, recurses := true, named := ["errors.errorType"], apart := false, laid := [("errors.errorType", laid_errors_errorType)] }
def ResidualThroughSaid : Prop := residualThroughRow.holds Tryz.pinned (OpenSpec.ofChange residualThroughSpec)

/-- ITS FALSE NEIGHBOUR: 'it returns false'. Refute it at one input. -/
def residualThroughWrong : ChangeSpec := { name := "residualThrough", fn := fun _ => fun
  | [d1, d2, d3, d4, d5] => { results := [.lit (.bool false)], args := [d1, d2, d3, d4, d5] }
  | _ => none }
def ResidualThroughWrongFalsely : Prop := residualThroughRow.holds Tryz.pinned (OpenSpec.ofChange residualThroughWrong)

/-- 'ropewalklaw19.ResidualApart': WHATEVER THE INPUT: true; the input reads as it did. -/
def residualApartSpec : ChangeSpec := { name := "residualApart", fn := fun _ => fun
  | [d1, d2, d3, d4] => { results := [.lit (.bool true)], args := [d1, d2, d3, d4] }
  | _ => none }
def residualApartRow : OpenClaim := { program := "ytflcpepjmonlpaagreatdoor", sum := "a7e51b916e3e39b89374196d6783cbe80310dbbd26919a0eefe9072a90c67bf0", func := "ropewalk/ropewalklaw19.ResidualApart", spec := "residualApart", inPlace := ["maps.clone", "internal/reflectlite.TypeOf", "internal/reflectlite.ValueOf", "(internal/reflectlite.Value).Type", "(internal/reflectlite.Value).IsNil", "(internal/reflectlite.Value).Elem", "(internal/reflectlite.Value).Set"], unfollowed := true, recurses := true, named := ["errors.errorType"], apart := false, laid := [("errors.errorType", laid_errors_errorType)] }
def ResidualApartSaid : Prop := residualApartRow.holds Tryz.pinned (OpenSpec.ofChange residualApartSpec)

/-- ITS FALSE NEIGHBOUR: 'it returns false'. Refute it at one input. -/
def residualApartWrong : ChangeSpec := { name := "residualApart", fn := fun _ => fun
  | [d1, d2, d3, d4] => { results := [.lit (.bool false)], args := [d1, d2, d3, d4] }
  | _ => none }
def ResidualApartWrongFalsely : Prop := residualApartRow.holds Tryz.pinned (OpenSpec.ofChange residualApartWrong)

/-- 'ropewalklaw19.ResidualSame': WHATEVER THE INPUT: true; the input reads as it did. -/
def residualSameSpec : ChangeSpec := { name := "residualSame", fn := fun _ => fun
  | [d1, d2, d3, d4, d5] => { results := [.lit (.bool true)], args := [d1, d2, d3, d4, d5] }
  | _ => none }
def residualSameRow : OpenClaim := { program := "ytflcpepjmonlpaagreatdoor", sum := "a7e51b916e3e39b89374196d6783cbe80310dbbd26919a0eefe9072a90c67bf0", func := "ropewalk/ropewalklaw19.ResidualSame", spec := "residualSame", inPlace := ["maps.clone", "internal/reflectlite.TypeOf", "internal/reflectlite.ValueOf", "(internal/reflectlite.Value).Type", "(internal/reflectlite.Value).IsNil", "(internal/reflectlite.Value).Elem", "(internal/reflectlite.Value).Set"], unfollowed := true, recurses := true, named := ["errors.errorType"], apart := false, laid := [("errors.errorType", laid_errors_errorType)] }
def ResidualSameSaid : Prop := residualSameRow.holds Tryz.pinned (OpenSpec.ofChange residualSameSpec)

/-- ITS FALSE NEIGHBOUR: 'it returns false'. Refute it at one input. -/
def residualSameWrong : ChangeSpec := { name := "residualSame", fn := fun _ => fun
  | [d1, d2, d3, d4, d5] => { results := [.lit (.bool false)], args := [d1, d2, d3, d4, d5] }
  | _ => none }
def ResidualSameWrongFalsely : Prop := residualSameRow.holds Tryz.pinned (OpenSpec.ofChange residualSameWrong)

/-- 'ropewalklaw19.ResidualMoves': WHATEVER THE INPUT: true; the input reads as it did. -/
def residualMovesSpec : ChangeSpec := { name := "residualMoves", fn := fun _ => fun
  | [d1, d2, d3, d4, d5] => { results := [.lit (.bool true)], args := [d1, d2, d3, d4, d5] }
  | _ => none }
def residualMovesRow : OpenClaim := { program := "ytflcpepjmonlpaagreatdoor", sum := "a7e51b916e3e39b89374196d6783cbe80310dbbd26919a0eefe9072a90c67bf0", func := "ropewalk/ropewalklaw19.ResidualMoves", spec := "residualMoves", inPlace := ["maps.clone", "internal/reflectlite.TypeOf", "internal/reflectlite.ValueOf", "(internal/reflectlite.Value).Type", "(internal/reflectlite.Value).IsNil", "(internal/reflectlite.Value).Elem", "(internal/reflectlite.Value).Set"], unfollowed := true, recurses := true, named := ["errors.errorType"], apart := false, laid := [("errors.errorType", laid_errors_errorType)] }
def ResidualMovesSaid : Prop := residualMovesRow.holds Tryz.pinned (OpenSpec.ofChange residualMovesSpec)

/-- ITS FALSE NEIGHBOUR: 'it returns false'. Refute it at one input. -/
def residualMovesWrong : ChangeSpec := { name := "residualMoves", fn := fun _ => fun
  | [d1, d2, d3, d4, d5] => { results := [.lit (.bool false)], args := [d1, d2, d3, d4, d5] }
  | _ => none }
def ResidualMovesWrongFalsely : Prop := residualMovesRow.holds Tryz.pinned (OpenSpec.ofChange residualMovesWrong)

/-- 'ropewalklaw19.ResidualOnce': WHATEVER THE INPUT: true; the input reads as it did. -/
def residualOnceSpec : ChangeSpec := { name := "residualOnce", fn := fun _ => fun
  | [d1, d2, d3, d4] => { results := [.lit (.bool true)], args := [d1, d2, d3, d4] }
  | _ => none }
def residualOnceRow : OpenClaim := { program := "ytflcpepjmonlpaagreatdoor", sum := "a7e51b916e3e39b89374196d6783cbe80310dbbd26919a0eefe9072a90c67bf0", func := "ropewalk/ropewalklaw19.ResidualOnce", spec := "residualOnce", inPlace := ["maps.clone", "internal/reflectlite.TypeOf", "internal/reflectlite.ValueOf", "(internal/reflectlite.Value).Type", "(internal/reflectlite.Value).IsNil", "(internal/reflectlite.Value).Elem", "(internal/reflectlite.Value).Set"], unfollowed := true, recurses := true, named := ["errors.errorType"], apart := false, laid := [("errors.errorType", laid_errors_errorType)] }
def ResidualOnceSaid : Prop := residualOnceRow.holds Tryz.pinned (OpenSpec.ofChange residualOnceSpec)

/-- ITS FALSE NEIGHBOUR: 'it returns false'. Refute it at one input. -/
def residualOnceWrong : ChangeSpec := { name := "residualOnce", fn := fun _ => fun
  | [d1, d2, d3, d4] => { results := [.lit (.bool false)], args := [d1, d2, d3, d4] }
  | _ => none }
def ResidualOnceWrongFalsely : Prop := residualOnceRow.holds Tryz.pinned (OpenSpec.ofChange residualOnceWrong)

/-- 'ropewalklaw19.ResidualCuts': WHATEVER THE INPUT: true; the input reads as it did. -/
def residualCutsSpec : ChangeSpec := { name := "residualCuts", fn := fun _ => fun
  | [d1, d2, d3, d4, d5, d6] => { results := [.lit (.bool true)], args := [d1, d2, d3, d4, d5, d6] }
  | _ => none }
def residualCutsRow : OpenClaim := { program := "ytflcpepjmonlpaagreatdoor", sum := "a7e51b916e3e39b89374196d6783cbe80310dbbd26919a0eefe9072a90c67bf0", func := "ropewalk/ropewalklaw19.ResidualCuts", spec := "residualCuts", inPlace := ["maps.clone", "internal/reflectlite.TypeOf", "internal/reflectlite.ValueOf", "(internal/reflectlite.Value).Type", "(internal/reflectlite.Value).IsNil", "(internal/reflectlite.Value).Elem", "(internal/reflectlite.Value).Set"], unfollowed := true, recurses := true, named := ["errors.errorType"], apart := false, laid := [("errors.errorType", laid_errors_errorType)] }
def ResidualCutsSaid : Prop := residualCutsRow.holds Tryz.pinned (OpenSpec.ofChange residualCutsSpec)

/-- ITS FALSE NEIGHBOUR: 'it returns false'. Refute it at one input. -/
def residualCutsWrong : ChangeSpec := { name := "residualCuts", fn := fun _ => fun
  | [d1, d2, d3, d4, d5, d6] => { results := [.lit (.bool false)], args := [d1, d2, d3, d4, d5, d6] }
  | _ => none }
def ResidualCutsWrongFalsely : Prop := residualCutsRow.holds Tryz.pinned (OpenSpec.ofChange residualCutsWrong)

/-- 'ropewalklaw19.ResidualNone': WHATEVER THE INPUT: true; the input reads as it did. -/
def residualNoneSpec : ChangeSpec := { name := "residualNone", fn := fun _ => fun
  | [] => { results := [.lit (.bool true)], args := [] }
  | _ => none }
def residualNoneRow : OpenClaim := { program := "ytflcpepjmonlpaagreatdoor", sum := "a7e51b916e3e39b89374196d6783cbe80310dbbd26919a0eefe9072a90c67bf0", func := "ropewalk/ropewalklaw19.ResidualNone", spec := "residualNone", inPlace := ["maps.clone", "internal/reflectlite.TypeOf", "internal/reflectlite.ValueOf", "(internal/reflectlite.Value).Type", "(internal/reflectlite.Value).IsNil", "(internal/reflectlite.Value).Elem", "(internal/reflectlite.Value).Set"], unfollowed := true, recurses := true, named := ["errors.errorType"], apart := false, laid := [("errors.errorType", laid_errors_errorType)] }
def ResidualNoneSaid : Prop := residualNoneRow.holds Tryz.pinned (OpenSpec.ofChange residualNoneSpec)

/-- ITS FALSE NEIGHBOUR: 'it returns false'. Refute it at one input. -/
def residualNoneWrong : ChangeSpec := { name := "residualNone", fn := fun _ => fun
  | [] => { results := [.lit (.bool false)], args := [] }
  | _ => none }
def ResidualNoneWrongFalsely : Prop := residualNoneRow.holds Tryz.pinned (OpenSpec.ofChange residualNoneWrong)

/- THE SECOND FORM. 'bulk': how many values and letters a reading holds, each counted each time it is reached (what is shared counts as often as it is met; a slice's spare places count too). A statement '..UptoSaid' is the law's where the arguments, and the package variables that the reading takes, are together of bulk at most 1048576: NARROWER than '..Said'. Prove '..Said' where nothing that the law and all that it calls make is longer than what came in: it says more and counts as full. Else prove '..UptoSaid'. A law counts once. -/
mutual
def uptoBulk {H : Type} : DataW H → Nat
  | .lit (.string bytes) => bytes.length + 1
  | .lit _ => 1
  | .nil => 1
  | .ptr d => uptoBulk d + 1
  | .slice elems spare => uptoBulkAll elems + uptoBulkAll spare + 1
  | .agg parts => uptoBulkAll parts + 1
  | .iface _ d => uptoBulk d + 1
  | .map entries => uptoBulkEntries entries + 1
  | .held _ => 1
def uptoBulkAll {H : Type} : List (DataW H) → Nat
  | [] => 0
  | d :: r => uptoBulk d + uptoBulkAll r
def uptoBulkEntries {H : Type} : List (Lit × DataW H) → Nat
  | [] => 0
  | x :: r => uptoBulkEntry x + uptoBulkEntries r
def uptoBulkEntry {H : Type} : Lit × DataW H → Nat
  | (.string bytes, d) => bytes.length + uptoBulk d + 1
  | (_, d) => uptoBulk d + 1
 end
def uptoSmall : (H : Type) → List (DataW H) → Bool := fun _ ds => decide (uptoBulkAll ds ≤ 1048576)
def OpenSpec.upto (s : _root_.Go.ChangeSpec) : _root_.Go.OpenSpec := { _root_.Go.OpenSpec.ofChange s with cond := some uptoSmall }

/-- 'ropewalklaw10.SystemNames', WHERE WHAT IT READS IS OF BULK AT MOST 1048576: true; the input reads as it did. -/
def systemNamesUptoRow : OpenClaim := { program := "ytflcpepjmonlpaagreatdoor", sum := "a7e51b916e3e39b89374196d6783cbe80310dbbd26919a0eefe9072a90c67bf0", func := "ropewalk/ropewalklaw10.SystemNames", spec := "systemNames", inPlace := ["maps.clone", "internal/reflectlite.TypeOf", "internal/reflectlite.ValueOf", "(internal/reflectlite.Value).Type", "(internal/reflectlite.Value).IsNil", "(internal/reflectlite.Value).Elem", "(internal/reflectlite.Value).Set"], unfollowed := true, recurses := true, named := ["errors.errorType"], apart := false, laid := [("errors.errorType", laid_errors_errorType)], narrowed := true }
def SystemNamesUptoSaid : Prop := systemNamesUptoRow.holds Tryz.pinned (OpenSpec.upto systemNamesSpec)

/-- 'ropewalklaw10.SystemPlays', WHERE WHAT IT READS IS OF BULK AT MOST 1048576: true; the input reads as it did. -/
def systemPlaysUptoRow : OpenClaim := { program := "ytflcpepjmonlpaagreatdoor", sum := "a7e51b916e3e39b89374196d6783cbe80310dbbd26919a0eefe9072a90c67bf0", func := "ropewalk/ropewalklaw10.SystemPlays", spec := "systemPlays", inPlace := ["maps.clone", "internal/reflectlite.TypeOf", "internal/reflectlite.ValueOf", "(internal/reflectlite.Value).Type", "(internal/reflectlite.Value).IsNil", "(internal/reflectlite.Value).Elem", "(internal/reflectlite.Value).Set"], unfollowed := true, recurses := true, named := ["errors.errorType"], apart := false, laid := [("errors.errorType", laid_errors_errorType)], narrowed := true }
def SystemPlaysUptoSaid : Prop := systemPlaysUptoRow.holds Tryz.pinned (OpenSpec.upto systemPlaysSpec)

/-- 'ropewalklaw10.SystemSound', WHERE WHAT IT READS IS OF BULK AT MOST 1048576: true; the input reads as it did. -/
def systemSoundUptoRow : OpenClaim := { program := "ytflcpepjmonlpaagreatdoor", sum := "a7e51b916e3e39b89374196d6783cbe80310dbbd26919a0eefe9072a90c67bf0", func := "ropewalk/ropewalklaw10.SystemSound", spec := "systemSound", inPlace := ["maps.clone", "internal/reflectlite.TypeOf", "internal/reflectlite.ValueOf", "(internal/reflectlite.Value).Type", "(internal/reflectlite.Value).IsNil", "(internal/reflectlite.Value).Elem", "(internal/reflectlite.Value).Set"], unfollowed := true, recurses := true, named := ["errors.errorType"], apart := false, laid := [("errors.errorType", laid_errors_errorType)], narrowed := true }
def SystemSoundUptoSaid : Prop := systemSoundUptoRow.holds Tryz.pinned (OpenSpec.upto systemSoundSpec)

/-- 'ropewalklaw10.SystemWraps', WHERE WHAT IT READS IS OF BULK AT MOST 1048576: true; the input reads as it did. -/
def systemWrapsUptoRow : OpenClaim := { program := "ytflcpepjmonlpaagreatdoor", sum := "a7e51b916e3e39b89374196d6783cbe80310dbbd26919a0eefe9072a90c67bf0", func := "ropewalk/ropewalklaw10.SystemWraps", spec := "systemWraps", inPlace := ["maps.clone", "internal/reflectlite.TypeOf", "internal/reflectlite.ValueOf", "(internal/reflectlite.Value).Type", "(internal/reflectlite.Value).IsNil", "(internal/reflectlite.Value).Elem", "(internal/reflectlite.Value).Set"], unfollowed := true, recurses := true, named := ["errors.errorType"], apart := false, laid := [("errors.errorType", laid_errors_errorType)], narrowed := true }
def SystemWrapsUptoSaid : Prop := systemWrapsUptoRow.holds Tryz.pinned (OpenSpec.upto systemWrapsSpec)

/-- 'ropewalklaw10.SystemNil', WHERE WHAT IT READS IS OF BULK AT MOST 1048576: true; the input reads as it did. -/
def systemNilUptoRow : OpenClaim := { program := "ytflcpepjmonlpaagreatdoor", sum := "a7e51b916e3e39b89374196d6783cbe80310dbbd26919a0eefe9072a90c67bf0", func := "ropewalk/ropewalklaw10.SystemNil", spec := "systemNil", inPlace := ["maps.clone", "internal/reflectlite.TypeOf", "internal/reflectlite.ValueOf", "(internal/reflectlite.Value).Type", "(internal/reflectlite.Value).IsNil", "(internal/reflectlite.Value).Elem", "(internal/reflectlite.Value).Set"], unfollowed := true, recurses := true, named := ["errors.errorType"], apart := false, laid := [("errors.errorType", laid_errors_errorType)], narrowed := true }
def SystemNilUptoSaid : Prop := systemNilUptoRow.holds Tryz.pinned (OpenSpec.upto systemNilSpec)

/-- 'ropewalklaw19.ResidualSteps', WHERE WHAT IT READS IS OF BULK AT MOST 1048576: true; the input reads as it did. -/
def residualStepsUptoRow : OpenClaim := { program := "ytflcpepjmonlpaagreatdoor", sum := "a7e51b916e3e39b89374196d6783cbe80310dbbd26919a0eefe9072a90c67bf0", func := "ropewalk/ropewalklaw19.ResidualSteps", spec := "residualSteps", inPlace := ["maps.clone", "internal/reflectlite.TypeOf", "internal/reflectlite.ValueOf", "(internal/reflectlite.Value).Type", "(internal/reflectlite.Value).IsNil", "(internal/reflectlite.Value).Elem", "(internal/reflectlite.Value).Set"], unfollowed := true, recurses := true, named := ["errors.errorType"], apart := false, laid := [("errors.errorType", laid_errors_errorType)], narrowed := true }
def ResidualStepsUptoSaid : Prop := residualStepsUptoRow.holds Tryz.pinned (OpenSpec.upto residualStepsSpec)

/-- 'ropewalklaw19.ResidualTogether', WHERE WHAT IT READS IS OF BULK AT MOST 1048576: true; the input reads as it did. -/
def residualTogetherUptoRow : OpenClaim := { program := "ytflcpepjmonlpaagreatdoor", sum := "a7e51b916e3e39b89374196d6783cbe80310dbbd26919a0eefe9072a90c67bf0", func := "ropewalk/ropewalklaw19.ResidualTogether", spec := "residualTogether", inPlace := ["maps.clone", "internal/reflectlite.TypeOf", "internal/reflectlite.ValueOf", "(internal/reflectlite.Value).Type", "(internal/reflectlite.Value).IsNil", "(internal/reflectlite.Value).Elem", "(internal/reflectlite.Value).Set"], unfollowed := true, recurses := true, named := ["errors.errorType"], apart := false, laid := [("errors.errorType", laid_errors_errorType)], narrowed := true }
def ResidualTogetherUptoSaid : Prop := residualTogetherUptoRow.holds Tryz.pinned (OpenSpec.upto residualTogetherSpec)

/-- 'ropewalklaw19.ResidualThrough', WHERE WHAT IT READS IS OF BULK AT MOST 1048576: true; the input reads as it did. -/
def residualThroughUptoRow : OpenClaim := { program := "ytflcpepjmonlpaagreatdoor", sum := "a7e51b916e3e39b89374196d6783cbe80310dbbd26919a0eefe9072a90c67bf0", func := "ropewalk/ropewalklaw19.ResidualThrough", spec := "residualThrough", inPlace := ["maps.clone", "internal/reflectlite.TypeOf", "internal/reflectlite.ValueOf", "(internal/reflectlite.Value).Type", "(internal/reflectlite.Value).IsNil", "(internal/reflectlite.Value).Elem", "(internal/reflectlite.Value).Set"], unfollowed := true, recurses := true, named := ["errors.errorType"], apart := false, laid := [("errors.errorType", laid_errors_errorType)], narrowed := true }
def ResidualThroughUptoSaid : Prop := residualThroughUptoRow.holds Tryz.pinned (OpenSpec.upto residualThroughSpec)

/-- 'ropewalklaw19.ResidualApart', WHERE WHAT IT READS IS OF BULK AT MOST 1048576: true; the input reads as it did. -/
def residualApartUptoRow : OpenClaim := { program := "ytflcpepjmonlpaagreatdoor", sum := "a7e51b916e3e39b89374196d6783cbe80310dbbd26919a0eefe9072a90c67bf0", func := "ropewalk/ropewalklaw19.ResidualApart", spec := "residualApart", inPlace := ["maps.clone", "internal/reflectlite.TypeOf", "internal/reflectlite.ValueOf", "(internal/reflectlite.Value).Type", "(internal/reflectlite.Value).IsNil", "(internal/reflectlite.Value).Elem", "(internal/reflectlite.Value).Set"], unfollowed := true, recurses := true, named := ["errors.errorType"], apart := false, laid := [("errors.errorType", laid_errors_errorType)], narrowed := true }
def ResidualApartUptoSaid : Prop := residualApartUptoRow.holds Tryz.pinned (OpenSpec.upto residualApartSpec)

/-- 'ropewalklaw19.ResidualSame', WHERE WHAT IT READS IS OF BULK AT MOST 1048576: true; the input reads as it did. -/
def residualSameUptoRow : OpenClaim := { program := "ytflcpepjmonlpaagreatdoor", sum := "a7e51b916e3e39b89374196d6783cbe80310dbbd26919a0eefe9072a90c67bf0", func := "ropewalk/ropewalklaw19.ResidualSame", spec := "residualSame", inPlace := ["maps.clone", "internal/reflectlite.TypeOf", "internal/reflectlite.ValueOf", "(internal/reflectlite.Value).Type", "(internal/reflectlite.Value).IsNil", "(internal/reflectlite.Value).Elem", "(internal/reflectlite.Value).Set"], unfollowed := true, recurses := true, named := ["errors.errorType"], apart := false, laid := [("errors.errorType", laid_errors_errorType)], narrowed := true }
def ResidualSameUptoSaid : Prop := residualSameUptoRow.holds Tryz.pinned (OpenSpec.upto residualSameSpec)

/-- 'ropewalklaw19.ResidualMoves', WHERE WHAT IT READS IS OF BULK AT MOST 1048576: true; the input reads as it did. -/
def residualMovesUptoRow : OpenClaim := { program := "ytflcpepjmonlpaagreatdoor", sum := "a7e51b916e3e39b89374196d6783cbe80310dbbd26919a0eefe9072a90c67bf0", func := "ropewalk/ropewalklaw19.ResidualMoves", spec := "residualMoves", inPlace := ["maps.clone", "internal/reflectlite.TypeOf", "internal/reflectlite.ValueOf", "(internal/reflectlite.Value).Type", "(internal/reflectlite.Value).IsNil", "(internal/reflectlite.Value).Elem", "(internal/reflectlite.Value).Set"], unfollowed := true, recurses := true, named := ["errors.errorType"], apart := false, laid := [("errors.errorType", laid_errors_errorType)], narrowed := true }
def ResidualMovesUptoSaid : Prop := residualMovesUptoRow.holds Tryz.pinned (OpenSpec.upto residualMovesSpec)

/-- 'ropewalklaw19.ResidualOnce', WHERE WHAT IT READS IS OF BULK AT MOST 1048576: true; the input reads as it did. -/
def residualOnceUptoRow : OpenClaim := { program := "ytflcpepjmonlpaagreatdoor", sum := "a7e51b916e3e39b89374196d6783cbe80310dbbd26919a0eefe9072a90c67bf0", func := "ropewalk/ropewalklaw19.ResidualOnce", spec := "residualOnce", inPlace := ["maps.clone", "internal/reflectlite.TypeOf", "internal/reflectlite.ValueOf", "(internal/reflectlite.Value).Type", "(internal/reflectlite.Value).IsNil", "(internal/reflectlite.Value).Elem", "(internal/reflectlite.Value).Set"], unfollowed := true, recurses := true, named := ["errors.errorType"], apart := false, laid := [("errors.errorType", laid_errors_errorType)], narrowed := true }
def ResidualOnceUptoSaid : Prop := residualOnceUptoRow.holds Tryz.pinned (OpenSpec.upto residualOnceSpec)

/-- 'ropewalklaw19.ResidualCuts', WHERE WHAT IT READS IS OF BULK AT MOST 1048576: true; the input reads as it did. -/
def residualCutsUptoRow : OpenClaim := { program := "ytflcpepjmonlpaagreatdoor", sum := "a7e51b916e3e39b89374196d6783cbe80310dbbd26919a0eefe9072a90c67bf0", func := "ropewalk/ropewalklaw19.ResidualCuts", spec := "residualCuts", inPlace := ["maps.clone", "internal/reflectlite.TypeOf", "internal/reflectlite.ValueOf", "(internal/reflectlite.Value).Type", "(internal/reflectlite.Value).IsNil", "(internal/reflectlite.Value).Elem", "(internal/reflectlite.Value).Set"], unfollowed := true, recurses := true, named := ["errors.errorType"], apart := false, laid := [("errors.errorType", laid_errors_errorType)], narrowed := true }
def ResidualCutsUptoSaid : Prop := residualCutsUptoRow.holds Tryz.pinned (OpenSpec.upto residualCutsSpec)

/-- 'ropewalklaw19.ResidualNone', WHERE WHAT IT READS IS OF BULK AT MOST 1048576: true; the input reads as it did. -/
def residualNoneUptoRow : OpenClaim := { program := "ytflcpepjmonlpaagreatdoor", sum := "a7e51b916e3e39b89374196d6783cbe80310dbbd26919a0eefe9072a90c67bf0", func := "ropewalk/ropewalklaw19.ResidualNone", spec := "residualNone", inPlace := ["maps.clone", "internal/reflectlite.TypeOf", "internal/reflectlite.ValueOf", "(internal/reflectlite.Value).Type", "(internal/reflectlite.Value).IsNil", "(internal/reflectlite.Value).Elem", "(internal/reflectlite.Value).Set"], unfollowed := true, recurses := true, named := ["errors.errorType"], apart := false, laid := [("errors.errorType", laid_errors_errorType)], narrowed := true }
def ResidualNoneUptoSaid : Prop := residualNoneUptoRow.holds Tryz.pinned (OpenSpec.upto residualNoneSpec)

end Rows
end Go.Proofs.YtflcpepjmonlpaaGreatDoor
