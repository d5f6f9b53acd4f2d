/-
  DERIVED. GIVEN WITH THE SEED: THE CARDS: each row of YtflcpepjmonlpaaGreatDoorRows.lean that lists a variable, with what it lists TIED to the program's text (the seventh form; the later family's looks); each row that meets fmt, with fmt's text TOLD by the authors' own Lean function (tested against real Go, not proved from fmt's source: count such statements apart). THE CARD IS WHAT COUNTS. Prove the row's statement (the work); the ties are given (YtflcpepjmonlpaaGreatDoorTie.lean); close each card by the builder's one call (the guide's Derived/Test/ToyasCard.lean, 'card_holds'). Laid BY PROGRAM, IN A SANDBOX (cutbox-door.mjs). By AI agents, Wed Nov 11 2026. No macro, syntax, notation, axiom, sorry.
-/
import Derived.Test.YtflcpepjmonlpaaGreatDoorRows
import GoSem.ClaimSeven
namespace Go.Proofs.YtflcpepjmonlpaaGreatDoor
namespace Rows

/-- THE TIED CARD OF 'ropewalklaw10.SystemNames'. -/
def systemNamesCard : Claim7 := { stood := { row := systemNamesRow, standIns := [], harness := (true, "728bf61f0d3f4428385296304b5c2b83efa84819ceaa58bb1107c52e55409fd0"), looks := true }, kinds := [], alts := [], laidByText := true, laidKinds := [.handle], laidTests := true, laidLooks := .later }
def SystemNamesCardSaid : Prop := Claim7.holds Tryz.pinned (.plain (OpenSpec.ofChange systemNamesSpec)) systemNamesCard

/-- THE TIED CARD OF 'ropewalklaw10.SystemPlays'. -/
def systemPlaysCard : Claim7 := { stood := { row := systemPlaysRow, standIns := [], harness := (true, "728bf61f0d3f4428385296304b5c2b83efa84819ceaa58bb1107c52e55409fd0"), looks := true }, kinds := [], alts := [], laidByText := true, laidKinds := [.handle], laidTests := true, laidLooks := .later }
def SystemPlaysCardSaid : Prop := Claim7.holds Tryz.pinned (.plain (OpenSpec.ofChange systemPlaysSpec)) systemPlaysCard

/-- THE TIED CARD OF 'ropewalklaw10.SystemSound'. -/
def systemSoundCard : Claim7 := { stood := { row := systemSoundRow, standIns := [], harness := (true, "728bf61f0d3f4428385296304b5c2b83efa84819ceaa58bb1107c52e55409fd0"), looks := true }, kinds := [], alts := [], laidByText := true, laidKinds := [.handle], laidTests := true, laidLooks := .later }
def SystemSoundCardSaid : Prop := Claim7.holds Tryz.pinned (.plain (OpenSpec.ofChange systemSoundSpec)) systemSoundCard

/-- THE TIED CARD OF 'ropewalklaw10.SystemWraps'. -/
def systemWrapsCard : Claim7 := { stood := { row := systemWrapsRow, standIns := [], harness := (true, "728bf61f0d3f4428385296304b5c2b83efa84819ceaa58bb1107c52e55409fd0"), looks := true }, kinds := [], alts := [], laidByText := true, laidKinds := [.handle], laidTests := true, laidLooks := .later }
def SystemWrapsCardSaid : Prop := Claim7.holds Tryz.pinned (.plain (OpenSpec.ofChange systemWrapsSpec)) systemWrapsCard

/-- THE TIED CARD OF 'ropewalklaw10.SystemNil'. -/
def systemNilCard : Claim7 := { stood := { row := systemNilRow, standIns := [], harness := (true, "728bf61f0d3f4428385296304b5c2b83efa84819ceaa58bb1107c52e55409fd0"), looks := true }, kinds := [], alts := [], laidByText := true, laidKinds := [.handle], laidTests := true, laidLooks := .later }
def SystemNilCardSaid : Prop := Claim7.holds Tryz.pinned (.plain (OpenSpec.ofChange systemNilSpec)) systemNilCard

/-- THE TIED CARD OF 'ropewalklaw19.ResidualSteps'. -/
def residualStepsCard : Claim7 := { stood := { row := residualStepsRow, standIns := [], harness := (true, "728bf61f0d3f4428385296304b5c2b83efa84819ceaa58bb1107c52e55409fd0"), looks := true }, kinds := [], alts := [], laidByText := true, laidKinds := [.handle], laidTests := true, laidLooks := .later }
def ResidualStepsCardSaid : Prop := Claim7.holds Tryz.pinned (.plain (OpenSpec.ofChange residualStepsSpec)) residualStepsCard

/-- THE TIED CARD OF 'ropewalklaw19.ResidualTogether'. -/
def residualTogetherCard : Claim7 := { stood := { row := residualTogetherRow, standIns := [], harness := (true, "728bf61f0d3f4428385296304b5c2b83efa84819ceaa58bb1107c52e55409fd0"), looks := true }, kinds := [], alts := [], laidByText := true, laidKinds := [.handle], laidTests := true, laidLooks := .later }
def ResidualTogetherCardSaid : Prop := Claim7.holds Tryz.pinned (.plain (OpenSpec.ofChange residualTogetherSpec)) residualTogetherCard

/-- THE TIED CARD OF 'ropewalklaw19.ResidualThrough'. -/
def residualThroughCard : Claim7 := { stood := { row := residualThroughRow, standIns := [], harness := (true, "728bf61f0d3f4428385296304b5c2b83efa84819ceaa58bb1107c52e55409fd0"), looks := true }, kinds := [], alts := [], laidByText := true, laidKinds := [.handle], laidTests := true, laidLooks := .later }
def ResidualThroughCardSaid : Prop := Claim7.holds Tryz.pinned (.plain (OpenSpec.ofChange residualThroughSpec)) residualThroughCard

/-- THE TIED CARD OF 'ropewalklaw19.ResidualApart'. -/
def residualApartCard : Claim7 := { stood := { row := residualApartRow, standIns := [], harness := (true, "728bf61f0d3f4428385296304b5c2b83efa84819ceaa58bb1107c52e55409fd0"), looks := true }, kinds := [], alts := [], laidByText := true, laidKinds := [.handle], laidTests := true, laidLooks := .later }
def ResidualApartCardSaid : Prop := Claim7.holds Tryz.pinned (.plain (OpenSpec.ofChange residualApartSpec)) residualApartCard

/-- THE TIED CARD OF 'ropewalklaw19.ResidualSame'. -/
def residualSameCard : Claim7 := { stood := { row := residualSameRow, standIns := [], harness := (true, "728bf61f0d3f4428385296304b5c2b83efa84819ceaa58bb1107c52e55409fd0"), looks := true }, kinds := [], alts := [], laidByText := true, laidKinds := [.handle], laidTests := true, laidLooks := .later }
def ResidualSameCardSaid : Prop := Claim7.holds Tryz.pinned (.plain (OpenSpec.ofChange residualSameSpec)) residualSameCard

/-- THE TIED CARD OF 'ropewalklaw19.ResidualMoves'. -/
def residualMovesCard : Claim7 := { stood := { row := residualMovesRow, standIns := [], harness := (true, "728bf61f0d3f4428385296304b5c2b83efa84819ceaa58bb1107c52e55409fd0"), looks := true }, kinds := [], alts := [], laidByText := true, laidKinds := [.handle], laidTests := true, laidLooks := .later }
def ResidualMovesCardSaid : Prop := Claim7.holds Tryz.pinned (.plain (OpenSpec.ofChange residualMovesSpec)) residualMovesCard

/-- THE TIED CARD OF 'ropewalklaw19.ResidualOnce'. -/
def residualOnceCard : Claim7 := { stood := { row := residualOnceRow, standIns := [], harness := (true, "728bf61f0d3f4428385296304b5c2b83efa84819ceaa58bb1107c52e55409fd0"), looks := true }, kinds := [], alts := [], laidByText := true, laidKinds := [.handle], laidTests := true, laidLooks := .later }
def ResidualOnceCardSaid : Prop := Claim7.holds Tryz.pinned (.plain (OpenSpec.ofChange residualOnceSpec)) residualOnceCard

/-- THE TIED CARD OF 'ropewalklaw19.ResidualCuts'. -/
def residualCutsCard : Claim7 := { stood := { row := residualCutsRow, standIns := [], harness := (true, "728bf61f0d3f4428385296304b5c2b83efa84819ceaa58bb1107c52e55409fd0"), looks := true }, kinds := [], alts := [], laidByText := true, laidKinds := [.handle], laidTests := true, laidLooks := .later }
def ResidualCutsCardSaid : Prop := Claim7.holds Tryz.pinned (.plain (OpenSpec.ofChange residualCutsSpec)) residualCutsCard

/-- THE TIED CARD OF 'ropewalklaw19.ResidualNone'. -/
def residualNoneCard : Claim7 := { stood := { row := residualNoneRow, standIns := [], harness := (true, "728bf61f0d3f4428385296304b5c2b83efa84819ceaa58bb1107c52e55409fd0"), looks := true }, kinds := [], alts := [], laidByText := true, laidKinds := [.handle], laidTests := true, laidLooks := .later }
def ResidualNoneCardSaid : Prop := Claim7.holds Tryz.pinned (.plain (OpenSpec.ofChange residualNoneSpec)) residualNoneCard

/-- THE SECOND FORM's CARD OF 'ropewalklaw10.SystemNames'. -/
def systemNamesUptoCard : Claim7 := { stood := { row := systemNamesUptoRow, standIns := [], harness := (true, "728bf61f0d3f4428385296304b5c2b83efa84819ceaa58bb1107c52e55409fd0"), looks := true }, kinds := [], alts := [], laidByText := true, laidKinds := [.handle], laidTests := true, laidLooks := .later }
def SystemNamesUptoCardSaid : Prop := Claim7.holds Tryz.pinned (.plain (OpenSpec.upto systemNamesSpec)) systemNamesUptoCard

/-- THE SECOND FORM's CARD OF 'ropewalklaw10.SystemPlays'. -/
def systemPlaysUptoCard : Claim7 := { stood := { row := systemPlaysUptoRow, standIns := [], harness := (true, "728bf61f0d3f4428385296304b5c2b83efa84819ceaa58bb1107c52e55409fd0"), looks := true }, kinds := [], alts := [], laidByText := true, laidKinds := [.handle], laidTests := true, laidLooks := .later }
def SystemPlaysUptoCardSaid : Prop := Claim7.holds Tryz.pinned (.plain (OpenSpec.upto systemPlaysSpec)) systemPlaysUptoCard

/-- THE SECOND FORM's CARD OF 'ropewalklaw10.SystemSound'. -/
def systemSoundUptoCard : Claim7 := { stood := { row := systemSoundUptoRow, standIns := [], harness := (true, "728bf61f0d3f4428385296304b5c2b83efa84819ceaa58bb1107c52e55409fd0"), looks := true }, kinds := [], alts := [], laidByText := true, laidKinds := [.handle], laidTests := true, laidLooks := .later }
def SystemSoundUptoCardSaid : Prop := Claim7.holds Tryz.pinned (.plain (OpenSpec.upto systemSoundSpec)) systemSoundUptoCard

/-- THE SECOND FORM's CARD OF 'ropewalklaw10.SystemWraps'. -/
def systemWrapsUptoCard : Claim7 := { stood := { row := systemWrapsUptoRow, standIns := [], harness := (true, "728bf61f0d3f4428385296304b5c2b83efa84819ceaa58bb1107c52e55409fd0"), looks := true }, kinds := [], alts := [], laidByText := true, laidKinds := [.handle], laidTests := true, laidLooks := .later }
def SystemWrapsUptoCardSaid : Prop := Claim7.holds Tryz.pinned (.plain (OpenSpec.upto systemWrapsSpec)) systemWrapsUptoCard

/-- THE SECOND FORM's CARD OF 'ropewalklaw10.SystemNil'. -/
def systemNilUptoCard : Claim7 := { stood := { row := systemNilUptoRow, standIns := [], harness := (true, "728bf61f0d3f4428385296304b5c2b83efa84819ceaa58bb1107c52e55409fd0"), looks := true }, kinds := [], alts := [], laidByText := true, laidKinds := [.handle], laidTests := true, laidLooks := .later }
def SystemNilUptoCardSaid : Prop := Claim7.holds Tryz.pinned (.plain (OpenSpec.upto systemNilSpec)) systemNilUptoCard

/-- THE SECOND FORM's CARD OF 'ropewalklaw19.ResidualSteps'. -/
def residualStepsUptoCard : Claim7 := { stood := { row := residualStepsUptoRow, standIns := [], harness := (true, "728bf61f0d3f4428385296304b5c2b83efa84819ceaa58bb1107c52e55409fd0"), looks := true }, kinds := [], alts := [], laidByText := true, laidKinds := [.handle], laidTests := true, laidLooks := .later }
def ResidualStepsUptoCardSaid : Prop := Claim7.holds Tryz.pinned (.plain (OpenSpec.upto residualStepsSpec)) residualStepsUptoCard

/-- THE SECOND FORM's CARD OF 'ropewalklaw19.ResidualTogether'. -/
def residualTogetherUptoCard : Claim7 := { stood := { row := residualTogetherUptoRow, standIns := [], harness := (true, "728bf61f0d3f4428385296304b5c2b83efa84819ceaa58bb1107c52e55409fd0"), looks := true }, kinds := [], alts := [], laidByText := true, laidKinds := [.handle], laidTests := true, laidLooks := .later }
def ResidualTogetherUptoCardSaid : Prop := Claim7.holds Tryz.pinned (.plain (OpenSpec.upto residualTogetherSpec)) residualTogetherUptoCard

/-- THE SECOND FORM's CARD OF 'ropewalklaw19.ResidualThrough'. -/
def residualThroughUptoCard : Claim7 := { stood := { row := residualThroughUptoRow, standIns := [], harness := (true, "728bf61f0d3f4428385296304b5c2b83efa84819ceaa58bb1107c52e55409fd0"), looks := true }, kinds := [], alts := [], laidByText := true, laidKinds := [.handle], laidTests := true, laidLooks := .later }
def ResidualThroughUptoCardSaid : Prop := Claim7.holds Tryz.pinned (.plain (OpenSpec.upto residualThroughSpec)) residualThroughUptoCard

/-- THE SECOND FORM's CARD OF 'ropewalklaw19.ResidualApart'. -/
def residualApartUptoCard : Claim7 := { stood := { row := residualApartUptoRow, standIns := [], harness := (true, "728bf61f0d3f4428385296304b5c2b83efa84819ceaa58bb1107c52e55409fd0"), looks := true }, kinds := [], alts := [], laidByText := true, laidKinds := [.handle], laidTests := true, laidLooks := .later }
def ResidualApartUptoCardSaid : Prop := Claim7.holds Tryz.pinned (.plain (OpenSpec.upto residualApartSpec)) residualApartUptoCard

/-- THE SECOND FORM's CARD OF 'ropewalklaw19.ResidualSame'. -/
def residualSameUptoCard : Claim7 := { stood := { row := residualSameUptoRow, standIns := [], harness := (true, "728bf61f0d3f4428385296304b5c2b83efa84819ceaa58bb1107c52e55409fd0"), looks := true }, kinds := [], alts := [], laidByText := true, laidKinds := [.handle], laidTests := true, laidLooks := .later }
def ResidualSameUptoCardSaid : Prop := Claim7.holds Tryz.pinned (.plain (OpenSpec.upto residualSameSpec)) residualSameUptoCard

/-- THE SECOND FORM's CARD OF 'ropewalklaw19.ResidualMoves'. -/
def residualMovesUptoCard : Claim7 := { stood := { row := residualMovesUptoRow, standIns := [], harness := (true, "728bf61f0d3f4428385296304b5c2b83efa84819ceaa58bb1107c52e55409fd0"), looks := true }, kinds := [], alts := [], laidByText := true, laidKinds := [.handle], laidTests := true, laidLooks := .later }
def ResidualMovesUptoCardSaid : Prop := Claim7.holds Tryz.pinned (.plain (OpenSpec.upto residualMovesSpec)) residualMovesUptoCard

/-- THE SECOND FORM's CARD OF 'ropewalklaw19.ResidualOnce'. -/
def residualOnceUptoCard : Claim7 := { stood := { row := residualOnceUptoRow, standIns := [], harness := (true, "728bf61f0d3f4428385296304b5c2b83efa84819ceaa58bb1107c52e55409fd0"), looks := true }, kinds := [], alts := [], laidByText := true, laidKinds := [.handle], laidTests := true, laidLooks := .later }
def ResidualOnceUptoCardSaid : Prop := Claim7.holds Tryz.pinned (.plain (OpenSpec.upto residualOnceSpec)) residualOnceUptoCard

/-- THE SECOND FORM's CARD OF 'ropewalklaw19.ResidualCuts'. -/
def residualCutsUptoCard : Claim7 := { stood := { row := residualCutsUptoRow, standIns := [], harness := (true, "728bf61f0d3f4428385296304b5c2b83efa84819ceaa58bb1107c52e55409fd0"), looks := true }, kinds := [], alts := [], laidByText := true, laidKinds := [.handle], laidTests := true, laidLooks := .later }
def ResidualCutsUptoCardSaid : Prop := Claim7.holds Tryz.pinned (.plain (OpenSpec.upto residualCutsSpec)) residualCutsUptoCard

/-- THE SECOND FORM's CARD OF 'ropewalklaw19.ResidualNone'. -/
def residualNoneUptoCard : Claim7 := { stood := { row := residualNoneUptoRow, standIns := [], harness := (true, "728bf61f0d3f4428385296304b5c2b83efa84819ceaa58bb1107c52e55409fd0"), looks := true }, kinds := [], alts := [], laidByText := true, laidKinds := [.handle], laidTests := true, laidLooks := .later }
def ResidualNoneUptoCardSaid : Prop := Claim7.holds Tryz.pinned (.plain (OpenSpec.upto residualNoneSpec)) residualNoneUptoCard
end Rows
end Go.Proofs.YtflcpepjmonlpaaGreatDoor
