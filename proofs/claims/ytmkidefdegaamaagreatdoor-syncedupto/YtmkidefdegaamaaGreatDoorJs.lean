/- The journal forgets a window. -/
import Derived.Test.YtmkidefdegaamaaGreatDoorJoy
import Derived.WalkKit
import Derived.OwnWalkIn
import Derived.LoopIn
import Derived.Shelf.Abstract
import Derived.Shelf.RegionOpen
import Derived.Maps.OwnIn
namespace Go.Proofs.YtmkidefdegaamaaGreatDoor.Jr
open Go.RowKit Go.Maps Mem Foot Bytes Im Wm Hi Plainw Cq Dm Dh
attribute [local go_sem] Oper.semAt_some
end Go.Proofs.YtmkidefdegaamaaGreatDoor.Jr
