/-
  DERIVED. GIVEN WITH THE SEED: THE CARDS: each row of YtncghnaalalcaaaGreatDoorRows.lean that lists a variable, with what it lists TIED to the program's text (the seventh form; the later family's looks); each row that meets fmt, with fmt's text TOLD by the authors' own Lean function (tested against real Go, not proved from fmt's source: count such statements apart). THE CARD IS WHAT COUNTS. Prove the row's statement (the work); the ties are given (YtncghnaalalcaaaGreatDoorTie.lean); close each card by the builder's one call (the guide's Derived/Test/ToyasCard.lean, 'card_holds'). Laid BY PROGRAM, IN A SANDBOX (cutbox-door.mjs). By AI agents, Wed Nov 11 2026. No macro, syntax, notation, axiom, sorry.
-/
import Derived.Test.YtncghnaalalcaaaGreatDoorRows
import GoSem.ClaimSeven
namespace Go.Proofs.YtncghnaalalcaaaGreatDoor
namespace Rows

/-- THE TIED CARD OF 'tallylaw.Parses'. -/
def parsesCard : Claim7 := { stood := { row := parsesRow, standIns := [], harness := (true, "c162915a936d96afa527fd1fca770b8f3710e31ef6a9afded0ad2bdbd10a6690"), looks := false }, kinds := [], alts := [], laidByText := true, laidKinds := [.data, .data, .data, .data, .pinned], laidTests := true, laidLooks := .later }
def ParsesCardSaid : Prop := Claim7.holds Tryz.pinned (.plain (OpenSpec.ofChange parsesSpec)) parsesCard

/-- THE TIED CARD OF 'tallylaw.Disks'. -/
def disksCard : Claim7 := { stood := { row := disksRow, standIns := [], harness := (true, "c162915a936d96afa527fd1fca770b8f3710e31ef6a9afded0ad2bdbd10a6690"), looks := false }, kinds := [], alts := [], laidByText := true, laidKinds := [.data, .data, .data, .data, .pinned], laidTests := true, laidLooks := .later }
def DisksCardSaid : Prop := Claim7.holds Tryz.pinned (.plain (OpenSpec.ofChange disksSpec)) disksCard

/-- THE SECOND FORM's CARD OF 'tallylaw.Parses'. -/
def parsesUptoCard : Claim7 := { stood := { row := parsesUptoRow, standIns := [], harness := (true, "c162915a936d96afa527fd1fca770b8f3710e31ef6a9afded0ad2bdbd10a6690"), looks := false }, kinds := [], alts := [], laidByText := true, laidKinds := [.data, .data, .data, .data, .pinned], laidTests := true, laidLooks := .later }
def ParsesUptoCardSaid : Prop := Claim7.holds Tryz.pinned (.plain (OpenSpec.upto parsesSpec)) parsesUptoCard

/-- THE SECOND FORM's CARD OF 'tallylaw.Disks'. -/
def disksUptoCard : Claim7 := { stood := { row := disksUptoRow, standIns := [], harness := (true, "c162915a936d96afa527fd1fca770b8f3710e31ef6a9afded0ad2bdbd10a6690"), looks := false }, kinds := [], alts := [], laidByText := true, laidKinds := [.data, .data, .data, .data, .pinned], laidTests := true, laidLooks := .later }
def DisksUptoCardSaid : Prop := Claim7.holds Tryz.pinned (.plain (OpenSpec.upto disksSpec)) disksUptoCard
end Rows
end Go.Proofs.YtncghnaalalcaaaGreatDoor
