/- Proved: P8 to P12, the law Sent: at every configuration, row of datagrams and row of numbers that say where the power fails it returns true, and all that is handed in reads afterwards as it did: each window comes to the sink once, with its text, whatever fails between. It has no condition but the form's own bound on each text and row. The card: the tables of the row's list are tied to the program's text by the given tie. -/
import Derived.Test.YtmkidefdegaamaaGreatDoorZr
import Derived.Test.YtmkidefdegaamaaGreatDoorZg
import Derived.SevenTiedAt
namespace Go.Proofs.YtmkidefdegaamaaGreatDoor.Ze
open Go.ChangeShapes Go.WideShapes Go.ChangeAt Go.RowKit Go.Joins Rowkit
theorem k1 : Rows.sentRow.wfByText (OpenSpec.ofChange Rows.sentSpec) = true := by kernel_rfl
theorem k2 : Tryz.pinned.checked.prog.mainIs = some (Rows.sentCard.stood.harness.1, Rows.sentCard.stood.harness.2.toList) := by kernel_rfl
theorem sent_card : Rows.SentCardSaid :=
  Claim7.holds_tied_plain_at .later [] _ _ _ _ said (fun _ h => by cases h) k1 (fun _ h => by cases h) sent_row_tie rfl ⟨rfl, rfl⟩ k2 rfl plain c3
end Go.Proofs.YtmkidefdegaamaaGreatDoor.Ze
namespace Go.Proofs.YtmkidefdegaamaaGreatDoor
/-- P8 to P12: the law Sent, as the card says it. -/
theorem sent_holds : Rows.SentCardSaid := Ze.sent_card
end Go.Proofs.YtmkidefdegaamaaGreatDoor
