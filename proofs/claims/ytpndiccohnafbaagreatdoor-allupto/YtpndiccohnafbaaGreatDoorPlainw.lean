/- The walks of the plain form's writing. -/
import Derived.Test.YtpndiccohnafbaaGreatDoorTagwy
import Derived.Lib.SmallJoins
namespace Go.Proofs.YtpndiccohnafbaaGreatDoor.Plainw
open Go.RowKit Bytes Nums Numw Mem Tags Tagw Opts Plain Readw
def gp (w : World) : Prop := Lib.TabIs Tryz.prog w "internal/strconv.uint64pow10" .u64 Lib.pow10Tab
theorem EV : ∃ g, Tryz.prog.globalNamed "internal/strconv.uint64pow10" = some g := Option.isSome_iff_exists.1 (by kernel_rfl)
theorem gp.below {w a:World}(h:gp w)(b:Below w.heap.size w a):gp a:=by
 obtain⟨g,c⟩:=EV;exact Joins.tab_stays c h b (Nat.le_refl _)
theorem zv (w:World)(k:Nat)(b:Array Obj):Below w.heap.size w (Sort.grow (w.drewN k) b):=
 ⟨rfl,rfl,rfl,by simp,λi a=>Sort.heap_grow_old _ _ (by simpa using a)⟩
end Go.Proofs.YtpndiccohnafbaaGreatDoor.Plainw
