/- The closed facts of the row, one by one. -/
import Derived.Test.YtmkidefdegaamaaGreatDoorRows
import Derived.Test.YtmkidefdegaamaaGreatDoorChecked
import Derived.JoinedOf
import Derived.KernelRfl
namespace Go.Proofs.YtmkidefdegaamaaGreatDoor.Fctz
theorem and_ {a b : Bool} (ha : a = true) (hb : b = true) : (a && b) = true := by rw [ha, hb]; rfl
set_option maxRecDepth 100000 in
set_option maxHeartbeats 100000000 in
theorem facts : joinedFacts Tryz.prog 4 Tryz.f4 (OpenSpec.ofChange Rows.sentSpec).bare Rows.sentRow = true := by
  unfold joinedFacts
  repeat (with_reducible refine and_ ?_ ?_)
  all_goals (as_aux_lemma => kernel_rfl)
end Go.Proofs.YtmkidefdegaamaaGreatDoor.Fctz
