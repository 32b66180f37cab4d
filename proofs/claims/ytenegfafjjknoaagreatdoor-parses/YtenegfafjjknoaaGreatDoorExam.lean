/- The document's example. -/
import Derived.Test.YtenegfafjjknoaaGreatDoorParsew
import Derived.Test.YtenegfafjjknoaaGreatDoorSame4
namespace Go.Proofs.YtenegfafjjknoaaGreatDoor.Exam
open Go.RowKit Bytes Nums Numw Mem Tags Tagw Opts Plain Readw Plainw Plainv Plainp Bounds Parsew Same

theorem lit_bytes (z : ByteArray) (h : B z = (parsed [97, 46, 98, 58, 48, 49, 50, 46, 53, 48, 124, 99, 124, 64, 48, 46, 49, 48, 124, 35, 122, 44, 98, 44, 122]).1) : z = ⟨#[97, 46, 98, 58, 49, 50, 46, 53, 124, 99, 124, 64, 48, 46, 49, 124, 35, 98, 44, 122]⟩ := by
  rw [lit_said] at h
  exact B_inj h

theorem example_ (w : World) (ht : Tab w) : Calls Tryz.prog 12 #[] w fun e w' => e = .returned (.bool true) ∧ Below w.heap.size w w' := by
  have HT := hide ht
  clear ht
  go_enter Tryz.func12, Tryz.ntmps12
  go_wp2_with fail
  refine (parse _ (by decide) _ HT.out).mono ?_
  rintro e w1 ⟨⟨z, rfl, hz⟩, hb⟩
  obtain rfl := lit_bytes z hz
  rw [show (parsed (B ⟨#[97, 46, 98, 58, 48, 49, 50, 46, 53, 48, 124, 99, 124, 64, 48, 46, 49, 48, 124, 35, 122, 44, 98, 44, 122]⟩)).2 = 0 from by show (parsed [97, 46, 98, 58, 48, 49, 50, 46, 53, 48, 124, 99, 124, 64, 48, 46, 49, 48, 124, 35, 122, 44, 98, 44, 122]).2 = 0; rw [lit_said]]
  clear hz
  have HB := hide hb
  clear hb
  go_wp2_with fail
  all_goals go_ret
  exact ⟨rfl, HB.out⟩

end Go.Proofs.YtenegfafjjknoaaGreatDoor.Exam
