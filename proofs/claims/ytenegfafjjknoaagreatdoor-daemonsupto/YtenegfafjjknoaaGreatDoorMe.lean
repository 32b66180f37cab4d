/- Proved: P6 to P8, P11, the law Daemons: whatever is done to two daemons, each with its configuration and its disk, in turn, on disks that do not fail, it returns true, and all that is handed in reads afterwards as it did: every answer is the document's. Its condition: what is handed in is of bulk at most 1048576 (values and letters). The card: the tables of the row's list are tied to the program's text by the given tie. -/
import Derived.Test.YtenegfafjjknoaaGreatDoorMd
import Derived.Test.YtenegfafjjknoaaGreatDoorMf
namespace Go.Proofs.YtenegfafjjknoaaGreatDoor.Md
open Go.ChangeShapes Go.WideShapes Go.ChangeAt Go.RowKit Go.Joins Rowkit Lw
theorem c1:Rows.daemonsUptoRow.wfByText (Rows.OpenSpec.upto Rows.daemonsSpec)=true:=by kernel_rfl
theorem c2:Tryz.pinned.checked.prog.mainIs=some (Rows.daemonsUptoCard.stood.harness.1,Rows.daemonsUptoCard.stood.harness.2.toList):=by kernel_rfl
theorem daemons_card:Rows.DaemonsUptoCardSaid:=
 Claim7.holds_tied_plain_at .later [] _ _ _ _ said (fun _ h=>by cases h) c1 (fun _ h=>by cases h) daemonsUpto_row_tie rfl ⟨rfl,rfl⟩ c2 rfl plain c3
end Go.Proofs.YtenegfafjjknoaaGreatDoor.Md
namespace Go.Proofs.YtenegfafjjknoaaGreatDoor
theorem daemons_holds:Rows.DaemonsUptoCardSaid:=Md.daemons_card
end Go.Proofs.YtenegfafjjknoaaGreatDoor
