/- Proved: P7 to P10, the law Synced: at every configuration, two rows of datagrams and number of torn bytes it returns true, and all that is handed in reads afterwards as it did: what was synced is there when the power is back, of the datagrams behind that a beginning, and the window's text is that of these, also when the power fails once more. Its condition: what is handed in is of bulk at most 1048576 (values and letters). The card: the tables of the row's list are tied to the program's text by the given tie. -/
import Derived.Test.YtmkidefdegaamaaGreatDoorYr
import Derived.Test.YtmkidefdegaamaaGreatDoorYg
import Derived.SevenTiedAt
namespace Go.Proofs.YtmkidefdegaamaaGreatDoor.Ye
open Go.ChangeShapes Go.WideShapes Go.ChangeAt Go.RowKit Go.Joins Rowkit
theorem k1 : Rows.syncedUptoRow.wfByText (Rows.OpenSpec.upto Rows.syncedSpec) = true := by kernel_rfl
theorem k2 : Tryz.pinned.checked.prog.mainIs = some (Rows.syncedUptoCard.stood.harness.1, Rows.syncedUptoCard.stood.harness.2.toList) := by kernel_rfl
theorem synced_card : Rows.SyncedUptoCardSaid :=
  Claim7.holds_tied_plain_at .later [] _ _ _ _ said (fun _ h => by cases h) k1 (fun _ h => by cases h) syncedUpto_row_tie rfl ⟨rfl, rfl⟩ k2 rfl plain c3
end Go.Proofs.YtmkidefdegaamaaGreatDoor.Ye
namespace Go.Proofs.YtmkidefdegaamaaGreatDoor
/-- P7 to P10: the law Synced, as the card says it. -/
theorem synced_holds : Rows.SyncedUptoCardSaid := Ye.synced_card
end Go.Proofs.YtmkidefdegaamaaGreatDoor
