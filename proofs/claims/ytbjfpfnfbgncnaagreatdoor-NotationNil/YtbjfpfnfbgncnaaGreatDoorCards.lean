/-
  DERIVED. GIVEN WITH THE SEED: THE CARDS: each row of YtbjfpfnfbgncnaaGreatDoorRows.lean that lists a variable, with what it lists TIED to the program's text (the seventh form; the later family's looks); each row that meets fmt, with fmt's text TOLD by the authors' own Lean function (tested against real Go, not proved from fmt's source: count such statements apart). THE CARD IS WHAT COUNTS. Prove the row's statement (the work); the ties are given (YtbjfpfnfbgncnaaGreatDoorTie.lean); close each card by the builder's one call (the guide's Derived/Test/ToyasCard.lean, 'card_holds'). Laid BY PROGRAM, IN A SANDBOX (cutbox-door.mjs). By AI agents, Wed Nov 11 2026. No macro, syntax, notation, axiom, sorry.
-/
import Derived.Test.YtbjfpfnfbgncnaaGreatDoorRows
import GoSem.ClaimSeven
namespace Go.Proofs.YtbjfpfnfbgncnaaGreatDoor
namespace Rows

/-- THE TIED CARD OF 'ropewalklaw04.NotationNames'. -/
def notationNamesCard : Claim7 := { stood := { row := notationNamesRow, standIns := [], harness := (true, "b3baded9328a066778e935fded9569f8077129f3a9843ab798e5522e209a6083"), looks := true }, kinds := [], alts := [], laidByText := true, laidKinds := [.data, .data, .data, .handle, .sentinel, .sentinel], laidTests := true, laidLooks := .later }
def NotationNamesCardSaid : Prop := Claim7.holds Tryz.pinned (.plain (OpenSpec.ofChange notationNamesSpec)) notationNamesCard

/-- THE TIED CARD OF 'ropewalklaw04.NotationNil'. -/
def notationNilCard : Claim7 := { stood := { row := notationNilRow, standIns := [], harness := (true, "b3baded9328a066778e935fded9569f8077129f3a9843ab798e5522e209a6083"), looks := true }, kinds := [], alts := [], laidByText := true, laidKinds := [.data, .data, .data, .handle, .sentinel, .sentinel], laidTests := true, laidLooks := .later }
def NotationNilCardSaid : Prop := Claim7.holds Tryz.pinned (.plain (OpenSpec.ofChange notationNilSpec)) notationNilCard

/-- THE SECOND FORM's CARD OF 'ropewalklaw04.NotationNames'. -/
def notationNamesUptoCard : Claim7 := { stood := { row := notationNamesUptoRow, standIns := [], harness := (true, "b3baded9328a066778e935fded9569f8077129f3a9843ab798e5522e209a6083"), looks := true }, kinds := [], alts := [], laidByText := true, laidKinds := [.data, .data, .data, .handle, .sentinel, .sentinel], laidTests := true, laidLooks := .later }
def NotationNamesUptoCardSaid : Prop := Claim7.holds Tryz.pinned (.plain (OpenSpec.upto notationNamesSpec)) notationNamesUptoCard

/-- THE SECOND FORM's CARD OF 'ropewalklaw04.NotationNil'. -/
def notationNilUptoCard : Claim7 := { stood := { row := notationNilUptoRow, standIns := [], harness := (true, "b3baded9328a066778e935fded9569f8077129f3a9843ab798e5522e209a6083"), looks := true }, kinds := [], alts := [], laidByText := true, laidKinds := [.data, .data, .data, .handle, .sentinel, .sentinel], laidTests := true, laidLooks := .later }
def NotationNilUptoCardSaid : Prop := Claim7.holds Tryz.pinned (.plain (OpenSpec.upto notationNilSpec)) notationNilUptoCard
end Rows
end Go.Proofs.YtbjfpfnfbgncnaaGreatDoor
