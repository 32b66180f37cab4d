/- The law Daemons: by whom its functions go. -/
import Derived.Test.YtenegfafjjknoaaGreatDoorChecked
import Derived.Test.YtenegfafjjknoaaGreatDoorCards
import Derived.KernelRfl
namespace Go.Proofs.YtenegfafjjknoaaGreatDoor.Md
theorem c3:false=Rows.daemonsUptoRow.goesBy Tryz.pinned.checked.prog:=by kernel_rfl
end Go.Proofs.YtenegfafjjknoaaGreatDoor.Md
