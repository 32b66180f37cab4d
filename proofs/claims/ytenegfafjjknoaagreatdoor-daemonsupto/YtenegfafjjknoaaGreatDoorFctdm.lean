/- The closed facts of the row, one by one. -/
import Derived.Test.YtenegfafjjknoaaGreatDoorRows
import Derived.Test.YtenegfafjjknoaaGreatDoorChecked
import Derived.JoinedOf
import Derived.KernelRfl
set_option maxHeartbeats 100000000
namespace Go.Proofs.YtenegfafjjknoaaGreatDoor.Fctdm
theorem and_ {a b:Bool}(ha:a=true)(hb:b=true):(a&&b)=true:=by rw[ha,hb];rfl
set_option maxRecDepth 100000 in
theorem facts:joinedFacts Tryz.prog 10 Tryz.f10 (Rows.OpenSpec.upto Rows.daemonsSpec).bare Rows.daemonsUptoRow=true:=by
 unfold joinedFacts;repeat (with_reducible refine and_ ?_ ?_)
 all_goals (as_aux_lemma=>kernel_rfl)
end Go.Proofs.YtenegfafjjknoaaGreatDoor.Fctdm
