/- The law Sent: by whom its functions go. -/
import Derived.Test.YtmkidefdegaamaaGreatDoorChecked
import Derived.Test.YtmkidefdegaamaaGreatDoorCards
import Derived.KernelRfl
namespace Go.Proofs.YtmkidefdegaamaaGreatDoor.Ze
theorem c3 : false = Rows.sentRow.goesBy Tryz.pinned.checked.prog := by kernel_rfl
end Go.Proofs.YtmkidefdegaamaaGreatDoor.Ze
