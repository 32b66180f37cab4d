/- The law Synced: by whom its functions go. -/
import Derived.Test.YtmkidefdegaamaaGreatDoorChecked
import Derived.Test.YtmkidefdegaamaaGreatDoorCards
import Derived.KernelRfl
namespace Go.Proofs.YtmkidefdegaamaaGreatDoor.Ye
theorem c3 : false = Rows.syncedUptoRow.goesBy Tryz.pinned.checked.prog := by kernel_rfl
end Go.Proofs.YtmkidefdegaamaaGreatDoor.Ye
