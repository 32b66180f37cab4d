/- The walks of the plain form's writing. -/
import Derived.Test.YtmkidefdegaamaaGreatDoorTagwy
import Derived.Lib.SmallJoins
namespace Go.Proofs.YtmkidefdegaamaaGreatDoor.Plainw
open Go.RowKit Bytes Nums Numw Mem Tags Tagw Opts Plain Readw
/-- The library's table of powers lies where its text lays it. -/
def Tab (w : World) : Prop := Lib.TabIs Tryz.prog w "internal/strconv.uint64pow10" .u64 Lib.pow10Tab
theorem tab_named : ∃ g, Tryz.prog.globalNamed "internal/strconv.uint64pow10" = some g := Option.isSome_iff_exists.1 (by kernel_rfl)
theorem Tab.below {w w' : World} (h : Tab w) (hb : Below w.heap.size w w') : Tab w' := by
  obtain ⟨g, hg⟩ := tab_named
  exact Joins.tab_stays hg h hb (Nat.le_refl _)
theorem below_grow (w : World) (k : Nat) (os : Array Obj) : Below w.heap.size w (Sort.grow (w.drewN k) os) :=
  ⟨rfl, rfl, rfl, by simp, fun i hi => Sort.heap_grow_old _ _ (by simpa using hi)⟩
end Go.Proofs.YtmkidefdegaamaaGreatDoor.Plainw
