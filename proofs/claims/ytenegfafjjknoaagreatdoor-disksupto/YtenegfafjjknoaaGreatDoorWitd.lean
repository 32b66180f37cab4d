/- The witness of the row Disks: a world that holds the listed tables. -/
import Derived.Test.YtenegfafjjknoaaGreatDoorRowkit
namespace Go.Proofs.YtenegfafjjknoaaGreatDoor.Witd
open Go.ChangeShapes Go.WideShapes Go.ChangeAt Go.RowKit Rowkit
set_option maxRecDepth 100000

abbrev args0 : Array Value := #[.slice none 0 0]

theorem fits (os : Os) : (World.holding Tryz.prog os ⟨#[], #[], []⟩).layFits Tryz.prog Rows.disksUptoRow.laid [] = true := by kernel_rfl
theorem ifaces (os : Os) : (World.holding Tryz.prog os ⟨#[], #[], []⟩).layIfaces Tryz.prog Rows.disksUptoRow.laid (World.laidAll Tryz.prog os Rows.disksUptoRow.laid) = true := by kernel_rfl

theorem laid_met (os : Os) : laidMet Tryz.prog Rows.disksUptoRow.laid ((World.laidAll Tryz.prog os Rows.disksUptoRow.laid).forCall (fun _ _ => 0) ⟨#[], args0, []⟩).memory :=
  laidMet_laidAll args0 (fits os) (ifaces os)

theorem reads (os : Os) {H : Type} (enc : TypeId × Value → H) : ∃ places, DataW.whole enc Tryz.prog ((World.laidAll Tryz.prog os Rows.disksUptoRow.laid).forCall (fun _ _ => 0) ⟨#[], args0, []⟩).memory Tryz.f9.params.toList Rows.disksSpec.vars false args0.toList 8 = some ([.nil], [], places) :=
  ⟨[], by kernel_rfl⟩

theorem vars_ok (os : Os) : ((World.laidAll Tryz.prog os Rows.disksUptoRow.laid).forCall (fun _ _ => 0) ⟨#[], args0, []⟩).variablesB Tryz.prog = true := by kernel_rfl

theorem rest_ok (os : Os) : (((World.laidAll Tryz.prog os Rows.disksUptoRow.laid).forCall (fun _ _ => 0) ⟨#[], args0, []⟩).heap.toList.drop Tryz.prog.globals.size).take ((begin Tryz.prog (fun _ _ => 0) default).world.heap.size - Tryz.prog.globals.size) =
      (begin Tryz.prog (fun _ _ => 0) default).world.heap.toList.drop Tryz.prog.globals.size := by kernel_rfl

theorem input_ok (os : Os) : Input.okWideB Tryz.prog ((World.laidAll Tryz.prog os Rows.disksUptoRow.laid).forCall (fun _ _ => 0) ⟨#[], args0, []⟩) 9 ⟨#[], args0, []⟩ = true := by kernel_rfl

end Go.Proofs.YtenegfafjjknoaaGreatDoor.Witd
