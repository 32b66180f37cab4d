/- The document's example, reckoned. The document's example. -/
import Derived.Test.YtenegfafjjknoaaGreatDoorParsew
namespace Go.Proofs.YtenegfafjjknoaaGreatDoor.Exlit
open Parsew Opts Tags Spl

theorem sort3 : ([[122], [98], [122]] : List (List UInt8)).mergeSort (fun x y => decide (x ≤ y)) = [[98], [122], [122]] := by
  refine List.Perm.eq_of_pairwise (le := fun x y => x ≤ y) (fun a b _ _ h1 h2 => List.le_antisymm h1 h2) ?_ (by decide) ((List.mergeSort_perm _ _).trans (by decide))
  have := List.pairwise_mergeSort (le := fun x y : List UInt8 => decide (x ≤ y)) (fun a b c h1 h2 => by simp only [decide_eq_true_eq] at *; exact List.le_trans h1 h2) (fun a b => by simp only [Bool.or_eq_true, decide_eq_true_eq]; exact List.le_total a b) [[122], [98], [122]]
  exact this.imp fun h => by simpa using h

theorem tags3 : tagsOf [35, 122, 44, 98, 44, 122] = some [[98], [122]] := by
  rw [tagsOf_good (by decide) (by decide) (by decide)]
  rw [show spl 4 (([35, 122, 44, 98, 44, 122] : List UInt8).drop 1) = [[122], [98], [122]] from by decide, sort3]
  decide

theorem rd_lit : rd [97, 46, 98, 58, 48, 49, 50, 46, 53, 48, 124, 99, 124, 64, 48, 46, 49, 48, 124, 35, 122, 44, 98, 44, 122] = some ⟨[97, 46, 98], [99], false, 12500, [], 100, [[98], [122]]⟩ := by
  have e : rd [97, 46, 98, 58, 48, 49, 50, 46, 53, 48, 124, 99, 124, 64, 48, 46, 49, 48, 124, 35, 122, 44, 98, 44, 122] = ((tagsOf [35, 122, 44, 98, 44, 122]).map fun t => ((100 : Int), t)).map fun o => (⟨[97, 46, 98], [99], false, 12500, [], o.1, o.2⟩ : Smp) := by kernel_rfl
  rw [e, tags3]
  rfl

theorem lit_said : parsed [97, 46, 98, 58, 48, 49, 50, 46, 53, 48, 124, 99, 124, 64, 48, 46, 49, 48, 124, 35, 122, 44, 98, 44, 122] = ([97, 46, 98, 58, 49, 50, 46, 53, 124, 99, 124, 64, 48, 46, 49, 124, 35, 98, 44, 122], 0) := by
  rw [parsed_some rd_lit]
  decide +kernel

end Go.Proofs.YtenegfafjjknoaaGreatDoor.Exlit

namespace Go.Proofs.YtenegfafjjknoaaGreatDoor.Examd
open Go.RowKit Bytes Nums Numw Mem Tags Tagw Opts Plain Readw Plainw Plainv Plainp Bounds Parsew Exlit

theorem lit_bytes (z : ByteArray) (h : B z = (parsed [97, 46, 98, 58, 48, 49, 50, 46, 53, 48, 124, 99, 124, 64, 48, 46, 49, 48, 124, 35, 122, 44, 98, 44, 122]).1) : z = ⟨#[97, 46, 98, 58, 49, 50, 46, 53, 124, 99, 124, 64, 48, 46, 49, 124, 35, 98, 44, 122]⟩ := by
  rw [lit_said] at h
  exact B_inj h

theorem example_ (w : World) (ht : Tab w) : Calls Tryz.prog 12 #[] w fun e w' => e = .returned (.bool true) ∧ Below w.heap.size w w' := by
  have HT := hide ht
  clear ht
  go_enter Tryz.func12, Tryz.ntmps12
  go_wp2_with fail
  refine (parse _ (by decide) _ HT.out).mono ?_
  rintro e w1 ⟨⟨z, rfl, hz⟩, hb⟩
  obtain rfl := lit_bytes z hz
  rw [show (parsed (B ⟨#[97, 46, 98, 58, 48, 49, 50, 46, 53, 48, 124, 99, 124, 64, 48, 46, 49, 48, 124, 35, 122, 44, 98, 44, 122]⟩)).2 = 0 from by show (parsed [97, 46, 98, 58, 48, 49, 50, 46, 53, 48, 124, 99, 124, 64, 48, 46, 49, 48, 124, 35, 122, 44, 98, 44, 122]).2 = 0; rw [lit_said]]
  clear hz
  have HB := hide hb
  clear hb
  go_wp2_with fail
  all_goals go_ret
  exact ⟨rfl, HB.out⟩

end Go.Proofs.YtenegfafjjknoaaGreatDoor.Examd
