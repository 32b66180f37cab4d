/-
  DERIVED. GIVEN WITH THE SEED: THE CARDS: each row of YtmkidefdegaamaaGreatDoorRows.lean that lists a variable, with what it lists TIED to the program's text (the seventh form; the later family's looks); each row that meets fmt, with fmt's text TOLD by the authors' own Lean function (tested against real Go, not proved from fmt's source: count such statements apart). THE CARD IS WHAT COUNTS. Prove the row's statement (the work); the ties are given (YtmkidefdegaamaaGreatDoorTie.lean); close each card by the builder's one call (the guide's Derived/Test/ToyasCard.lean, 'card_holds'). Laid BY PROGRAM, IN A SANDBOX (cutbox-door.mjs). By AI agents, Wed Nov 11 2026. No macro, syntax, notation, axiom, sorry.
-/
import Derived.Test.YtmkidefdegaamaaGreatDoorRows
import GoSem.ClaimSeven
namespace Go.Proofs.YtmkidefdegaamaaGreatDoor
namespace Rows

/-- THE TIED CARD OF 'tallykeep.Synced'. -/
def syncedCard : Claim7 := { stood := { row := syncedRow, standIns := [], harness := (true, "cdd2435376e4eaa0104c5015fefd929c33563a4f4fcc1cc124374ea32b18ae5b"), looks := true }, kinds := [], alts := [], laidByText := true, laidKinds := [.data, .data, .data, .data, .sentinel, .sentinel, .pinned], laidTests := true, laidLooks := .later }
def SyncedCardSaid : Prop := Claim7.holds Tryz.pinned (.plain (OpenSpec.ofChange syncedSpec)) syncedCard

/-- THE TIED CARD OF 'tallykeep.Sent'. -/
def sentCard : Claim7 := { stood := { row := sentRow, standIns := [], harness := (true, "cdd2435376e4eaa0104c5015fefd929c33563a4f4fcc1cc124374ea32b18ae5b"), looks := true }, kinds := [], alts := [], laidByText := true, laidKinds := [.data, .data, .data, .data, .sentinel, .sentinel, .pinned], laidTests := true, laidLooks := .later }
def SentCardSaid : Prop := Claim7.holds Tryz.pinned (.plain (OpenSpec.ofChange sentSpec)) sentCard

/-- THE SECOND FORM's CARD OF 'tallykeep.Synced'. -/
def syncedUptoCard : Claim7 := { stood := { row := syncedUptoRow, standIns := [], harness := (true, "cdd2435376e4eaa0104c5015fefd929c33563a4f4fcc1cc124374ea32b18ae5b"), looks := true }, kinds := [], alts := [], laidByText := true, laidKinds := [.data, .data, .data, .data, .sentinel, .sentinel, .pinned], laidTests := true, laidLooks := .later }
def SyncedUptoCardSaid : Prop := Claim7.holds Tryz.pinned (.plain (OpenSpec.upto syncedSpec)) syncedUptoCard

/-- THE SECOND FORM's CARD OF 'tallykeep.Sent'. -/
def sentUptoCard : Claim7 := { stood := { row := sentUptoRow, standIns := [], harness := (true, "cdd2435376e4eaa0104c5015fefd929c33563a4f4fcc1cc124374ea32b18ae5b"), looks := true }, kinds := [], alts := [], laidByText := true, laidKinds := [.data, .data, .data, .data, .sentinel, .sentinel, .pinned], laidTests := true, laidLooks := .later }
def SentUptoCardSaid : Prop := Claim7.holds Tryz.pinned (.plain (OpenSpec.upto sentSpec)) sentUptoCard
end Rows
end Go.Proofs.YtmkidefdegaamaaGreatDoor
