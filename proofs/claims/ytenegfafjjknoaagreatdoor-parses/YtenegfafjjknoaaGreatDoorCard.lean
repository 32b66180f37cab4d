/- Proved: P4, the law Parses: at every text and every six numbers it returns true, and both read afterwards as they did: Parse answers as the document says, and Check too. The card: the tables of the row's list are tied to the program's text by the given tie. -/
import Derived.Test.YtenegfafjjknoaaGreatDoorParp
import Derived.Test.YtenegfafjjknoaaGreatDoorWit
import Derived.Test.YtenegfafjjknoaaGreatDoorRefpa
import Derived.Test.YtenegfafjjknoaaGreatDoorFcts
namespace Go.Proofs.YtenegfafjjknoaaGreatDoor.Card
open Go.ChangeShapes Go.WideShapes Go.ChangeAt Go.RowKit Rowkit Wit

theorem href (s : ByteArray) (hs : s.size ≤ 140737488355328) : Lawp.Ref s := fun w => Refpa.refParse s hs w

set_option maxRecDepth 100000 in
theorem lifted (os : Os) (started : os.Started) (H : Type) (enc : TypeId × Value → H) (F : Stop.Interp) :
    ReturnsInHanded {} Tryz.checked os 3 .any ((OpenSpec.ofChange Rows.parsesSpec).preRow enc Tryz.prog Tryz.f3 Rows.parsesRow.domain false Rows.parsesRow.laid) (((OpenSpec.ofChange Rows.parsesSpec).at F).post enc Tryz.prog Tryz.f3 false true false false) := by
  obtain ⟨places, hx⟩ := reads os enc
  refine returnsInHanded_of_row (C := Tryz.checked) (s := OpenSpec.ofChange Rows.parsesSpec) own started (by kernel_rfl) Tryz.func3
    (witness_row_at (enc := enc) (C := Tryz.checked) false (World.laidAll Tryz.prog os Rows.parsesRow.laid) args0 (World.laidAll_os _ _ _) (vars_ok os) (rest_ok os) (input_ok os)
      (OpenSpec.preRow_of_cond 8 hx (by kernel_rfl) (fun k hk => by cases hk) (by kernel_rfl) (laid_met os))) ?_
  intro W base args ds gs before hval hW _ _ hsz hL _ _
  exact Parp.contract href H enc W base args ds gs before hval hW hsz (tab_of (a := ("math/bits.deBruijn32tab", Rows.laid_math_bits_deBruijn32tab)) (b := ("math/bits.deBruijn64tab", Rows.laid_math_bits_deBruijn64tab)) hL)

theorem said : Rows.ParsesSaid :=
  OpenClaim.holds_of_cond 3 Tryz.f3 rfl rfl rfl rfl rfl rfl rfl ⟨rfl, rfl, rfl, rfl, rfl⟩ rfl rfl rfl rfl rfl (by kernel_rfl) Tryz.func3 Fcts.parses
    (of_decide_eq_true (by kernel_rfl)) (by unfold Func.isWrapper; first | (rw [if_pos (by decide +kernel)]; kernel_rfl) | (rw [if_neg (by decide +kernel)]; exact ⟨rfl, rfl⟩))
    (fun os started H enc _ F => by rw [OpenClaim.pre_eq_preRow]; exact lifted os started H enc F)

theorem plain (f : FuncId) (fn : Func) (hf : Tryz.pinned.checked.prog.funcNamed "tally/tallylaw.Parses" = some f) (hfn : Tryz.pinned.checked.prog.funcs[f]? = some fn) :
    true = Tryz.pinned.checked.prog.looks [] ∧ ∀ (j : Nat) t, fn.params[j]? = some t → Tryz.pinned.checked.prog.wantsStandIn t = false := by
  obtain rfl : f = 3 := Option.some.inj ((show Tryz.prog.funcNamed "tally/tallylaw.Parses" = some 3 by kernel_rfl).symm.trans hf) |>.symm
  obtain rfl : fn = Tryz.f3 := (Option.some.inj (Tryz.func3.symm.trans hfn)).symm
  refine ⟨by kernel_rfl, fun j t ht => ?_⟩
  rw [Tryz.params3] at ht
  have ht' : t = 9 ∨ t = 23 := by simpa using Array.mem_of_getElem? ht
  rcases ht' with rfl | rfl
  · exact (show Tryz.prog.wantsStandIn 9 = false by kernel_rfl)
  · exact (show Tryz.prog.wantsStandIn 23 = false by kernel_rfl)

/-- P4: Parses, the card. -/
theorem parses_card : Rows.ParsesCardSaid :=
  Claim7.holds_tied_plain_at .later [] _ _ _ _ said (fun _ h => by cases h) (by kernel_rfl) (fun _ h => by cases h) parses_row_tie rfl ⟨rfl, rfl⟩ (by kernel_rfl) rfl plain (by kernel_rfl)

end Go.Proofs.YtenegfafjjknoaaGreatDoor.Card

namespace Go.Proofs.YtenegfafjjknoaaGreatDoor

/-- P4: the law Parses, as the card says it. -/
theorem parses_holds : Rows.ParsesCardSaid := Card.parses_card

end Go.Proofs.YtenegfafjjknoaaGreatDoor
