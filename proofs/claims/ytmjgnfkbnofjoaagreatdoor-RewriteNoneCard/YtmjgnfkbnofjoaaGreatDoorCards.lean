/-
  DERIVED. GIVEN WITH THE SEED: THE CARDS: each row of YtmjgnfkbnofjoaaGreatDoorRows.lean that lists a variable, with what it lists TIED to the program's text (the seventh form; the later family's looks); each row that meets fmt, with fmt's text TOLD by the authors' own Lean function (tested against real Go, not proved from fmt's source: count such statements apart). THE CARD IS WHAT COUNTS. Prove the row's statement (the work); the ties are given (YtmjgnfkbnofjoaaGreatDoorTie.lean); close each card by the builder's one call (the guide's Derived/Test/ToyasCard.lean, 'card_holds'). Laid BY PROGRAM, IN A SANDBOX (cutbox-door.mjs). By AI agents, Wed Nov 11 2026. No macro, syntax, notation, axiom, sorry.
-/
import Derived.Test.YtmjgnfkbnofjoaaGreatDoorRows
import GoSem.ClaimSeven
namespace Go.Proofs.YtmjgnfkbnofjoaaGreatDoor
namespace Rows

/-- THE TIED CARD OF 'ropewalklaw10.SystemPlays'. -/
def systemPlaysCard : Claim7 := { stood := { row := systemPlaysRow, standIns := [], harness := (true, "8c9a0194de6bfb953d859ea1ef5e2cae68f8e074f2279c11b9ecc5677b6b4d49"), looks := true }, kinds := [], alts := [], laidByText := true, laidKinds := [.handle], laidTests := true, laidLooks := .later }
def SystemPlaysCardSaid : Prop := Claim7.holds Tryz.pinned (.plain (OpenSpec.ofChange systemPlaysSpec)) systemPlaysCard

/-- THE TIED CARD OF 'ropewalklaw10.SystemSound'. -/
def systemSoundCard : Claim7 := { stood := { row := systemSoundRow, standIns := [], harness := (true, "8c9a0194de6bfb953d859ea1ef5e2cae68f8e074f2279c11b9ecc5677b6b4d49"), looks := true }, kinds := [], alts := [], laidByText := true, laidKinds := [.handle], laidTests := true, laidLooks := .later }
def SystemSoundCardSaid : Prop := Claim7.holds Tryz.pinned (.plain (OpenSpec.ofChange systemSoundSpec)) systemSoundCard

/-- THE TIED CARD OF 'ropewalklaw10.SystemWraps'. -/
def systemWrapsCard : Claim7 := { stood := { row := systemWrapsRow, standIns := [], harness := (true, "8c9a0194de6bfb953d859ea1ef5e2cae68f8e074f2279c11b9ecc5677b6b4d49"), looks := true }, kinds := [], alts := [], laidByText := true, laidKinds := [.handle], laidTests := true, laidLooks := .later }
def SystemWrapsCardSaid : Prop := Claim7.holds Tryz.pinned (.plain (OpenSpec.ofChange systemWrapsSpec)) systemWrapsCard

/-- THE TIED CARD OF 'ropewalklaw18.RewriteNone'. -/
def rewriteNoneCard : Claim7 := { stood := { row := rewriteNoneRow, standIns := [], harness := (true, "8c9a0194de6bfb953d859ea1ef5e2cae68f8e074f2279c11b9ecc5677b6b4d49"), looks := true }, kinds := [], alts := [], laidByText := true, laidKinds := [.handle], laidTests := true, laidLooks := .later }
def RewriteNoneCardSaid : Prop := Claim7.holds Tryz.pinned (.plain (OpenSpec.ofChange rewriteNoneSpec)) rewriteNoneCard

/-- THE SECOND FORM's CARD OF 'ropewalklaw10.SystemPlays'. -/
def systemPlaysUptoCard : Claim7 := { stood := { row := systemPlaysUptoRow, standIns := [], harness := (true, "8c9a0194de6bfb953d859ea1ef5e2cae68f8e074f2279c11b9ecc5677b6b4d49"), looks := true }, kinds := [], alts := [], laidByText := true, laidKinds := [.handle], laidTests := true, laidLooks := .later }
def SystemPlaysUptoCardSaid : Prop := Claim7.holds Tryz.pinned (.plain (OpenSpec.upto systemPlaysSpec)) systemPlaysUptoCard

/-- THE SECOND FORM's CARD OF 'ropewalklaw10.SystemSound'. -/
def systemSoundUptoCard : Claim7 := { stood := { row := systemSoundUptoRow, standIns := [], harness := (true, "8c9a0194de6bfb953d859ea1ef5e2cae68f8e074f2279c11b9ecc5677b6b4d49"), looks := true }, kinds := [], alts := [], laidByText := true, laidKinds := [.handle], laidTests := true, laidLooks := .later }
def SystemSoundUptoCardSaid : Prop := Claim7.holds Tryz.pinned (.plain (OpenSpec.upto systemSoundSpec)) systemSoundUptoCard

/-- THE SECOND FORM's CARD OF 'ropewalklaw10.SystemWraps'. -/
def systemWrapsUptoCard : Claim7 := { stood := { row := systemWrapsUptoRow, standIns := [], harness := (true, "8c9a0194de6bfb953d859ea1ef5e2cae68f8e074f2279c11b9ecc5677b6b4d49"), looks := true }, kinds := [], alts := [], laidByText := true, laidKinds := [.handle], laidTests := true, laidLooks := .later }
def SystemWrapsUptoCardSaid : Prop := Claim7.holds Tryz.pinned (.plain (OpenSpec.upto systemWrapsSpec)) systemWrapsUptoCard

/-- THE SECOND FORM's CARD OF 'ropewalklaw18.RewriteNone'. -/
def rewriteNoneUptoCard : Claim7 := { stood := { row := rewriteNoneUptoRow, standIns := [], harness := (true, "8c9a0194de6bfb953d859ea1ef5e2cae68f8e074f2279c11b9ecc5677b6b4d49"), looks := true }, kinds := [], alts := [], laidByText := true, laidKinds := [.handle], laidTests := true, laidLooks := .later }
def RewriteNoneUptoCardSaid : Prop := Claim7.holds Tryz.pinned (.plain (OpenSpec.upto rewriteNoneSpec)) rewriteNoneUptoCard
end Rows
end Go.Proofs.YtmjgnfkbnofjoaaGreatDoor
