/- The contracts of slices.Sorted over maps.Keys at this program's maps: laid by the guide's own tool, in plain words. -/
import Derived.Shelf.SlIter.Nil
import Derived.Shelf.SlIterI.Nil
import Derived.Shelf.SortM.Plain
import Derived.Shelf.SortM.SortNone
import Derived.Test.YtmkidefdegaamaaGreatDoorProg
import Derived.Test.YtmkidefdegaamaaGreatDoorWmy
import Derived.Shelf.Abstract
import Derived.OwnWalkIn
import Derived.TacticsInMore
import Derived.Maps.OwnIn
import Derived.Lib.SlKeysI
namespace Go.Proofs
open Go.Shelf
def Tryz.keysS_ren : Go.Shelf.Ren := ⟨fun | 7 => 107 | 10 => 149 | n => n, fun | 23 => 156 | 26 => 9 | 3 => 117 | 28 => 199 | 0 => 0 | 27 => 198 | 33 => 223 | 4 => 4 | n => n, fun | n => n⟩
theorem Tryz.keysS : Go.Proofs.SlLaysZ.n7 Tryz.prog Tryz.keysS_ren := {
  mixed := by kernel_rfl
  f7 := ⟨Tryz.f107.name, by decide, Tryz.func107.trans (congrArg some (by kernel_rfl))⟩
  f10 := ⟨Tryz.f149.name, by decide, Tryz.func149.trans (congrArg some (by kernel_rfl))⟩
  t0 := Tryz.underlying0
  a0 := Tryz.isAgg0
  z0 := Tryz.sizeOf0
  v0 := Tryz.zeroValue0
  t4 := Tryz.underlying4
  a4 := Tryz.isAgg4
  z4 := Tryz.sizeOf4
  v4 := Tryz.zeroValue4
  t23 := Tryz.underlying156
  a23 := Tryz.isAgg156
  z23 := Tryz.sizeOf156
  v23 := Tryz.zeroValue156
  t26 := Tryz.underlying9
  a26 := Tryz.isAgg9
  z26 := Tryz.sizeOf9
  v26 := Tryz.zeroValue9
  t27 := Tryz.underlying198
  a27 := Tryz.isAgg198
  z27 := Tryz.sizeOf198
  v27 := Tryz.zeroValue198
  t28 := Tryz.underlying199
  a28 := Tryz.isAgg199
  z28 := Tryz.sizeOf199
  v28 := Tryz.zeroValue199
  t33 := Tryz.underlying223
  a33 := Tryz.isAgg223
  z33 := Tryz.sizeOf223
  v33 := Tryz.zeroValue223 }
def Tryz.sortedS_ren : Go.Shelf.Ren := ⟨fun | 6 => 106 | 8 => 147 | 9 => 148 | 11 => 190 | 13 => 93 | 12 => 191 | 23 => 134 | 24 => 135 | 14 => 222 | 15 => 223 | 16 => 224 | 17 => 225 | 18 => 226 | 19 => 227 | 20 => 228 | 21 => 229 | 22 => 230 | 25 => 244 | 26 => 171 | 27 => 172 | 28 => 245 | 29 => 246 | 30 => 247 | 31 => 256 | n => n, fun | 26 => 9 | 28 => 199 | 24 => 24 | 0 => 0 | 3 => 3 | 37 => 183 | 48 => 237 | 50 => 239 | 4 => 4 | 40 => 231 | 39 => 230 | 45 => 191 | 5 => 5 | 9 => 9 | 51 => 272 | 55 => 276 | 57 => 296 | 58 => 294 | 33 => 223 | n => n, fun | n => n⟩
theorem Tryz.sortedS : Go.Proofs.SlLaysZ.n6 Tryz.prog Tryz.sortedS_ren := {
  mixed := by kernel_rfl
  f6 := ⟨Tryz.f106.name, by decide, Tryz.func106.trans (congrArg some (by kernel_rfl))⟩
  f8 := ⟨Tryz.f147.name, by decide, Tryz.func147.trans (congrArg some (by kernel_rfl))⟩
  f11 := ⟨Tryz.f190.name, by decide, Tryz.func190.trans (congrArg some (by kernel_rfl))⟩
  t0 := Tryz.underlying0
  a0 := Tryz.isAgg0
  z0 := Tryz.sizeOf0
  v0 := Tryz.zeroValue0
  t24 := Tryz.underlying24
  a24 := Tryz.isAgg24
  z24 := Tryz.sizeOf24
  v24 := Tryz.zeroValue24
  t26 := Tryz.underlying9
  a26 := Tryz.isAgg9
  z26 := Tryz.sizeOf9
  v26 := Tryz.zeroValue9
  t28 := Tryz.underlying199
  a28 := Tryz.isAgg199
  z28 := Tryz.sizeOf199
  v28 := Tryz.zeroValue199
  i26 := by kernel_rfl }
def Tryz.sortS_ren : Go.Shelf.Ren := ⟨fun | 6 => 148 | 8 => 93 | 9 => 191 | 19 => 134 | 20 => 135 | 21 => 222 | 22 => 223 | 23 => 224 | 24 => 225 | 25 => 226 | 26 => 227 | 27 => 228 | 28 => 229 | 29 => 230 | 36 => 244 | 31 => 171 | 32 => 172 | 37 => 245 | 38 => 246 | 39 => 247 | 41 => 256 | n => n, fun | 27 => 24 | 29 => 9 | 3 => 3 | 32 => 183 | 26 => 24 | 0 => 0 | 44 => 237 | 46 => 239 | 4 => 4 | 36 => 231 | 35 => 230 | 41 => 191 | 5 => 5 | 9 => 9 | 53 => 272 | 57 => 276 | 63 => 296 | 64 => 294 | n => n, fun | n => n⟩
theorem Tryz.sortS : Go.Proofs.SlLaysM.n6 Tryz.prog Tryz.sortS_ren := {
  mixed := by kernel_rfl
  f6 := ⟨Tryz.f148.name, by decide, Tryz.func148.trans (congrArg some (by kernel_rfl))⟩
  f8 := Tryz.func93.trans (congrArg some (by kernel_rfl))
  f9 := ⟨Tryz.f191.name, by decide, Tryz.func191.trans (congrArg some (by kernel_rfl))⟩
  f19 := Tryz.func134.trans (congrArg some (by kernel_rfl))
  f20 := Tryz.func135.trans (congrArg some (by kernel_rfl))
  f21 := ⟨Tryz.f222.name, by decide, Tryz.func222.trans (congrArg some (by kernel_rfl))⟩
  f22 := ⟨Tryz.f223.name, by decide, Tryz.func223.trans (congrArg some (by kernel_rfl))⟩
  f23 := ⟨Tryz.f224.name, by decide, Tryz.func224.trans (congrArg some (by kernel_rfl))⟩
  f24 := ⟨Tryz.f225.name, by decide, Tryz.func225.trans (congrArg some (by kernel_rfl))⟩
  f25 := ⟨Tryz.f226.name, by decide, Tryz.func226.trans (congrArg some (by kernel_rfl))⟩
  f26 := ⟨Tryz.f227.name, by decide, Tryz.func227.trans (congrArg some (by kernel_rfl))⟩
  f27 := ⟨Tryz.f228.name, by decide, Tryz.func228.trans (congrArg some (by kernel_rfl))⟩
  f28 := ⟨Tryz.f229.name, by decide, Tryz.func229.trans (congrArg some (by kernel_rfl))⟩
  f29 := ⟨Tryz.f230.name, by decide, Tryz.func230.trans (congrArg some (by kernel_rfl))⟩
  f31 := Tryz.func171.trans (congrArg some (by kernel_rfl))
  f32 := Tryz.func172.trans (congrArg some (by kernel_rfl))
  f36 := ⟨Tryz.f244.name, by decide, Tryz.func244.trans (congrArg some (by kernel_rfl))⟩
  f37 := ⟨Tryz.f245.name, by decide, Tryz.func245.trans (congrArg some (by kernel_rfl))⟩
  f38 := ⟨Tryz.f246.name, by decide, Tryz.func246.trans (congrArg some (by kernel_rfl))⟩
  f39 := ⟨Tryz.f247.name, by decide, Tryz.func247.trans (congrArg some (by kernel_rfl))⟩
  f41 := ⟨Tryz.f256.name, by decide, Tryz.func256.trans (congrArg some (by kernel_rfl))⟩
  t0 := Tryz.underlying0
  a0 := Tryz.isAgg0
  z0 := Tryz.sizeOf0
  v0 := Tryz.zeroValue0
  t3 := Tryz.underlying3
  a3 := Tryz.isAgg3
  z3 := Tryz.sizeOf3
  v3 := Tryz.zeroValue3
  t4 := Tryz.underlying4
  a4 := Tryz.isAgg4
  z4 := Tryz.sizeOf4
  v4 := Tryz.zeroValue4
  t5 := Tryz.underlying5
  a5 := Tryz.isAgg5
  z5 := Tryz.sizeOf5
  v5 := Tryz.zeroValue5
  t9 := Tryz.underlying9
  a9 := Tryz.isAgg9
  z9 := Tryz.sizeOf9
  v9 := Tryz.zeroValue9
  t26 := Tryz.underlying24
  a26 := Tryz.isAgg24
  z26 := Tryz.sizeOf24
  v26 := Tryz.zeroValue24
  t27 := Tryz.underlying24
  a27 := Tryz.isAgg24
  z27 := Tryz.sizeOf24
  v27 := Tryz.zeroValue24
  t29 := Tryz.underlying9
  a29 := Tryz.isAgg9
  z29 := Tryz.sizeOf9
  v29 := Tryz.zeroValue9
  t32 := Tryz.underlying183
  a32 := Tryz.isAgg183
  z32 := Tryz.sizeOf183
  v32 := Tryz.zeroValue183
  t35 := Tryz.underlying230
  a35 := Tryz.isAgg230
  z35 := Tryz.sizeOf230
  v35 := Tryz.zeroValue230
  t36 := Tryz.underlying231
  a36 := Tryz.isAgg231
  z36 := Tryz.sizeOf231
  v36 := Tryz.zeroValue231
  t41 := Tryz.underlying191
  a41 := Tryz.isAgg191
  z41 := Tryz.sizeOf191
  v41 := Tryz.zeroValue191
  t44 := Tryz.underlying237
  a44 := Tryz.isAgg237
  z44 := Tryz.sizeOf237
  v44 := Tryz.zeroValue237
  t46 := Tryz.underlying239
  a46 := Tryz.isAgg239
  z46 := Tryz.sizeOf239
  v46 := Tryz.zeroValue239
  t53 := Tryz.underlying272
  a53 := Tryz.isAgg272
  z53 := Tryz.sizeOf272
  v53 := Tryz.zeroValue272
  t57 := Tryz.underlying276
  a57 := Tryz.isAgg276
  z57 := Tryz.sizeOf276
  v57 := Tryz.zeroValue276
  t63 := Tryz.underlying296
  a63 := Tryz.isAgg296
  z63 := Tryz.sizeOf296
  v63 := Tryz.zeroValue296
  t64 := Tryz.underlying294
  a64 := Tryz.isAgg294
  z64 := Tryz.sizeOf294
  v64 := Tryz.zeroValue294 }
def Tryz.keysI_ren : Go.Shelf.Ren := ⟨fun | 7 => 233 | 10 => 251 | n => n, fun | 23 => 250 | 26 => 3 | 3 => 290 | 28 => 313 | 0 => 0 | 27 => 312 | 33 => 242 | 4 => 4 | n => n, fun | n => n⟩
theorem Tryz.keysI : Go.Proofs.SlLaysZI.n7 Tryz.prog Tryz.keysI_ren := {
  mixed := by kernel_rfl
  f7 := ⟨Tryz.f233.name, by decide, Tryz.func233.trans (congrArg some (by kernel_rfl))⟩
  f10 := ⟨Tryz.f251.name, by decide, Tryz.func251.trans (congrArg some (by kernel_rfl))⟩
  t0 := Tryz.underlying0
  a0 := Tryz.isAgg0
  z0 := Tryz.sizeOf0
  v0 := Tryz.zeroValue0
  t4 := Tryz.underlying4
  a4 := Tryz.isAgg4
  z4 := Tryz.sizeOf4
  v4 := Tryz.zeroValue4
  t23 := Tryz.underlying250
  a23 := Tryz.isAgg250
  z23 := Tryz.sizeOf250
  v23 := Tryz.zeroValue250
  t26 := Tryz.underlying3
  a26 := Tryz.isAgg3
  z26 := Tryz.sizeOf3
  v26 := Tryz.zeroValue3
  t27 := Tryz.underlying312
  a27 := Tryz.isAgg312
  z27 := Tryz.sizeOf312
  v27 := Tryz.zeroValue312
  t28 := Tryz.underlying313
  a28 := Tryz.isAgg313
  z28 := Tryz.sizeOf313
  v28 := Tryz.zeroValue313
  t33 := Tryz.underlying242
  a33 := Tryz.isAgg242
  z33 := Tryz.sizeOf242
  v33 := Tryz.zeroValue242 }
def Tryz.sortedI_ren : Go.Shelf.Ren := ⟨fun | 6 => 232 | 8 => 249 | 9 => 250 | 11 => 257 | 13 => 93 | 12 => 258 | 23 => 134 | 24 => 135 | 14 => 261 | 15 => 262 | 16 => 263 | 17 => 264 | 18 => 265 | 19 => 266 | 20 => 141 | 21 => 267 | 22 => 268 | 25 => 269 | 26 => 171 | 27 => 172 | 28 => 270 | 29 => 271 | 30 => 138 | 31 => 272 | n => n, fun | 26 => 3 | 28 => 313 | 24 => 46 | 0 => 0 | 3 => 3 | 37 => 183 | 48 => 237 | 50 => 239 | 4 => 4 | 40 => 231 | 39 => 230 | 45 => 191 | 5 => 5 | 9 => 9 | 51 => 272 | 55 => 276 | 57 => 296 | 58 => 294 | 33 => 242 | n => n, fun | n => n⟩
theorem Tryz.sortedI : Go.Proofs.SlLaysZI.n6 Tryz.prog Tryz.sortedI_ren := {
  mixed := by kernel_rfl
  f6 := ⟨Tryz.f232.name, by decide, Tryz.func232.trans (congrArg some (by kernel_rfl))⟩
  f8 := ⟨Tryz.f249.name, by decide, Tryz.func249.trans (congrArg some (by kernel_rfl))⟩
  f11 := ⟨Tryz.f257.name, by decide, Tryz.func257.trans (congrArg some (by kernel_rfl))⟩
  t0 := Tryz.underlying0
  a0 := Tryz.isAgg0
  z0 := Tryz.sizeOf0
  v0 := Tryz.zeroValue0
  t24 := Tryz.underlying46
  a24 := Tryz.isAgg46
  z24 := Tryz.sizeOf46
  v24 := Tryz.zeroValue46
  t26 := Tryz.underlying3
  a26 := Tryz.isAgg3
  z26 := Tryz.sizeOf3
  v26 := Tryz.zeroValue3
  t28 := Tryz.underlying313
  a28 := Tryz.isAgg313
  z28 := Tryz.sizeOf313
  v28 := Tryz.zeroValue313
  i26 := by kernel_rfl }
def Tryz.sortI_ren : Go.Shelf.Ren := ⟨fun | 5 => 250 | 8 => 93 | 7 => 258 | 19 => 134 | 20 => 135 | 10 => 261 | 11 => 262 | 12 => 263 | 13 => 264 | 14 => 265 | 15 => 266 | 16 => 141 | 17 => 267 | 18 => 268 | 30 => 269 | 31 => 171 | 32 => 172 | 33 => 270 | 34 => 271 | 35 => 138 | 40 => 272 | n => n, fun | 23 => 46 | 25 => 3 | 3 => 3 | 32 => 183 | 22 => 46 | 0 => 0 | 44 => 237 | 46 => 239 | 4 => 4 | 36 => 231 | 35 => 230 | 41 => 191 | 5 => 5 | 9 => 9 | 53 => 272 | 57 => 276 | 63 => 296 | 64 => 294 | n => n, fun | n => n⟩
theorem Tryz.sortI : Go.Proofs.SlLaysM.n5 Tryz.prog Tryz.sortI_ren := {
  mixed := by kernel_rfl
  f5 := ⟨Tryz.f250.name, by decide, Tryz.func250.trans (congrArg some (by kernel_rfl))⟩
  f7 := ⟨Tryz.f258.name, by decide, Tryz.func258.trans (congrArg some (by kernel_rfl))⟩
  f8 := Tryz.func93.trans (congrArg some (by kernel_rfl))
  f10 := ⟨Tryz.f261.name, by decide, Tryz.func261.trans (congrArg some (by kernel_rfl))⟩
  f11 := ⟨Tryz.f262.name, by decide, Tryz.func262.trans (congrArg some (by kernel_rfl))⟩
  f12 := ⟨Tryz.f263.name, by decide, Tryz.func263.trans (congrArg some (by kernel_rfl))⟩
  f13 := ⟨Tryz.f264.name, by decide, Tryz.func264.trans (congrArg some (by kernel_rfl))⟩
  f14 := ⟨Tryz.f265.name, by decide, Tryz.func265.trans (congrArg some (by kernel_rfl))⟩
  f15 := ⟨Tryz.f266.name, by decide, Tryz.func266.trans (congrArg some (by kernel_rfl))⟩
  f16 := ⟨Tryz.f141.name, by decide, Tryz.func141.trans (congrArg some (by kernel_rfl))⟩
  f17 := ⟨Tryz.f267.name, by decide, Tryz.func267.trans (congrArg some (by kernel_rfl))⟩
  f18 := ⟨Tryz.f268.name, by decide, Tryz.func268.trans (congrArg some (by kernel_rfl))⟩
  f19 := Tryz.func134.trans (congrArg some (by kernel_rfl))
  f20 := Tryz.func135.trans (congrArg some (by kernel_rfl))
  f30 := ⟨Tryz.f269.name, by decide, Tryz.func269.trans (congrArg some (by kernel_rfl))⟩
  f31 := Tryz.func171.trans (congrArg some (by kernel_rfl))
  f32 := Tryz.func172.trans (congrArg some (by kernel_rfl))
  f33 := ⟨Tryz.f270.name, by decide, Tryz.func270.trans (congrArg some (by kernel_rfl))⟩
  f34 := ⟨Tryz.f271.name, by decide, Tryz.func271.trans (congrArg some (by kernel_rfl))⟩
  f35 := ⟨Tryz.f138.name, by decide, Tryz.func138.trans (congrArg some (by kernel_rfl))⟩
  f40 := ⟨Tryz.f272.name, by decide, Tryz.func272.trans (congrArg some (by kernel_rfl))⟩
  t0 := Tryz.underlying0
  a0 := Tryz.isAgg0
  z0 := Tryz.sizeOf0
  v0 := Tryz.zeroValue0
  t3 := Tryz.underlying3
  a3 := Tryz.isAgg3
  z3 := Tryz.sizeOf3
  v3 := Tryz.zeroValue3
  t4 := Tryz.underlying4
  a4 := Tryz.isAgg4
  z4 := Tryz.sizeOf4
  v4 := Tryz.zeroValue4
  t5 := Tryz.underlying5
  a5 := Tryz.isAgg5
  z5 := Tryz.sizeOf5
  v5 := Tryz.zeroValue5
  t9 := Tryz.underlying9
  a9 := Tryz.isAgg9
  z9 := Tryz.sizeOf9
  v9 := Tryz.zeroValue9
  t22 := Tryz.underlying46
  a22 := Tryz.isAgg46
  z22 := Tryz.sizeOf46
  v22 := Tryz.zeroValue46
  t23 := Tryz.underlying46
  a23 := Tryz.isAgg46
  z23 := Tryz.sizeOf46
  v23 := Tryz.zeroValue46
  t25 := Tryz.underlying3
  a25 := Tryz.isAgg3
  z25 := Tryz.sizeOf3
  v25 := Tryz.zeroValue3
  t32 := Tryz.underlying183
  a32 := Tryz.isAgg183
  z32 := Tryz.sizeOf183
  v32 := Tryz.zeroValue183
  t35 := Tryz.underlying230
  a35 := Tryz.isAgg230
  z35 := Tryz.sizeOf230
  v35 := Tryz.zeroValue230
  t36 := Tryz.underlying231
  a36 := Tryz.isAgg231
  z36 := Tryz.sizeOf231
  v36 := Tryz.zeroValue231
  t41 := Tryz.underlying191
  a41 := Tryz.isAgg191
  z41 := Tryz.sizeOf191
  v41 := Tryz.zeroValue191
  t44 := Tryz.underlying237
  a44 := Tryz.isAgg237
  z44 := Tryz.sizeOf237
  v44 := Tryz.zeroValue237
  t46 := Tryz.underlying239
  a46 := Tryz.isAgg239
  z46 := Tryz.sizeOf239
  v46 := Tryz.zeroValue239
  t53 := Tryz.underlying272
  a53 := Tryz.isAgg272
  z53 := Tryz.sizeOf272
  v53 := Tryz.zeroValue272
  t57 := Tryz.underlying276
  a57 := Tryz.isAgg276
  z57 := Tryz.sizeOf276
  v57 := Tryz.zeroValue276
  t63 := Tryz.underlying296
  a63 := Tryz.isAgg296
  z63 := Tryz.sizeOf296
  v63 := Tryz.zeroValue296
  t64 := Tryz.underlying294
  a64 := Tryz.isAgg294
  z64 := Tryz.sizeOf294
  v64 := Tryz.zeroValue294 }
end Go.Proofs
namespace Go.Proofs.YtmkidefdegaamaaGreatDoor.Hk
open Go.RowKit Go.Maps Mem Foot Im Wm Go.Sort Go.Shelf
theorem sortsI (m : Nat) : AnyZI.SortsIn Tryz.prog Tryz.sortedI_ren Fence.wide m :=
  ⟨fun blk off cap ss W hH hblk hsz => callsIn_wide.2 (AnyM.slices_Sort_int Tryz.sortI blk off cap ss W hH hblk hsz),
   fun p cap W => callsIn_wide.2 (AnyM.slices_Sort_int_none Tryz.sortI p cap W)⟩
theorem keys_cells (l : List (Int × Cel)) : intKeys (mp iLit cv l) = l.map (·.1) := by
  unfold mp
  simp [intKeys, iLit, Go.intOf, Function.comp_def]
theorem sorted_keys {l : List (Int × Cel)} (h : Up iLt l) {ss : List Int} (hp : ss.Perm (l.map (·.1))) : ss.mergeSort (fun x y => decide (x ≤ y)) = l.map (·.1) := by
  refine List.Perm.eq_of_pairwise (le := fun a b : Int => a ≤ b) (fun a b _ _ h1 h2 => by omega) ?_ ?_ ((List.mergeSort_perm _ _).trans hp)
  · have := List.pairwise_mergeSort (le := fun x y : Int => decide (x ≤ y)) (fun a b c h1 h2 => by simp at *; omega) (fun a b => by simp; omega) ss
    exact this.imp fun {a b} h => by simpa using h
  · rw [List.pairwise_map]
    exact h.imp fun {a b} h => by simp [iLt] at h; omega
set_option maxHeartbeats 1000000 in
theorem rising (S b mx : Nat) (l : List (Int × Cel)) (f : Bool) (w : World) (h : SkAt w S b mx l f) (hup : Up iLt l) (hl : l.length ≤ 1000) :
    Calls Tryz.prog 193 #[.pointer (some ⟨S, 0, none⟩)] w fun e w' => ∃ v : Value, e = .returned v ∧ w'.ownsRow w.heap.size 3 1 v l.length (l.map fun c => .int .i64 c.1) ∧ Below w.heap.size w w' := by
  refine (callsIn_wide (n := 6)).1 ?_
  have hown : w.ownsMap Tryz.prog 3 (exE okC) b l.length (mp iLit cv l) := h.map
  have hbl := hown.lt
  have hmax : Maps.size (mp iLit cv l) ≤ maxLen := by rw [mp_size]; unfold maxLen; omega
  have hbytes : Maps.size (mp iLit cv l) * 8 ≤ 140737488355328 := by rw [mp_size]; omega
  have c1 := h.head.cell 1 _ rfl
  have hseq : SeqGives Fence.wide 2 Tryz.prog 251 #[.pointer (some ⟨w.heap.size, 0, none⟩)] encZ (fun ss => ss.Perm (intKeys (mp iLit cv l))) (Maps.size (mp iLit cv l)) (w.alloc (.cells #[.map (some b)] 250)) :=
    AnyZI.keys_gives (ρ := Tryz.keysI_ren) { Tryz.keysI with } Fence.wide _ trivial rfl (by omega) w.heap.size b l.length (mp iLit cv l) _ (by simp) (by simp) (by
      obtain ⟨es, clock, hb, Ft, hs, hD⟩ := hown
      exact ⟨es, clock, (Below.heap_alloc _ _ b hbl).trans hb, Ft, hs, hD⟩)
  have cK : ∀ mb W, CallsIn Fence.wide 5 Tryz.prog 233 #[.map mb] W fun e w' => e = .returned (.func (.func 251) #[] #[.pointer (some ⟨W.heap.size, 0, none⟩)]) ∧ w' = W.alloc (.cells #[.map mb] 250) := fun mb W => AnyZI.keys_in Tryz.keysI Fence.wide 5 trivial rfl mb W
  have cS := AnyZI.sorted_in Tryz.sortedI Fence.wide 5 trivial trivial trivial trivial rfl (by omega) (sortsI _) (enters_of Tryz.func250 (by kernel_rfl) rfl) 251 #[.pointer (some ⟨w.heap.size, 0, none⟩)] trivial (enters_of Tryz.func251 (by kernel_rfl) rfl) _ _ hmax hbytes _ hseq
  change CallsIn _ _ Tryz.prog 232 _ _ _ at cS
  have hfK : Fence.wide.fn 233 := trivial
  have hfS : Fence.wide.fn 232 := trivial
  have HUP := hide hup
  clear hup h
  refine callsIn_of_wp Tryz.func193 rfl trivial ?_ rfl
  simp only [Tryz.ntmps193, List.size_toArray, List.length_cons, List.length_nil, Nat.reduceAdd, Nat.reduceSub, Array.replicate_succ, Array.replicate_zero, List.push_toArray, List.append_toArray, List.nil_append, List.cons_append]
  gi_wp2_with (first
    | (gi_at_call 233; refine (cK _ _).mono ?_; rintro e w' ⟨rfl, rfl⟩)
    | (gi_at_call 232; refine cS.mono ?_; rintro e w' ⟨v, ss, rfl, hS, hrow, hnil, hb⟩))
  go_ret
  rw [keys_cells] at hS
  rw [sorted_keys HUP.out hS, hS.length_eq] at hrow
  simp only [List.length_map, List.map_map] at hrow
  exact ⟨v, rfl, ownsRow_base_a hrow (by simp), ((Below.refl _ w).alloc (Nat.le_refl _) _).trans (hb.mono (by simp))⟩
end Go.Proofs.YtmkidefdegaamaaGreatDoor.Hk
namespace Go.Proofs.YtmkidefdegaamaaGreatDoor.Hk
open Go.RowKit Go.Maps Mem Foot Im Wm
theorem SkAt.keep {w w' : World} {S b mx : Nat} {l : List (Int × Cel)} {f : Bool} (h : SkAt w S b mx l f) (hb : Below w.heap.size w w') : SkAt w' S b mx l f :=
  h.off (F := []) (Off.of_below hb) (by simp) (by simp)
theorem SkAt.ne {w : World} {S b mx : Nat} {l : List (Int × Cel)} {f : Bool} (h : SkAt w S b mx l f) : S ≠ b := map_sits h.map h.head
theorem row_cell {w : World} {base n i : Nat} {v u : Value} {e : TypeId} {xs : List Value} (h : w.ownsRow base e 1 v n xs) (hi : xs[i]? = some u) : ∃ g cap, v = .slice (some ⟨g, 0, none⟩) n cap ∧ n ≤ cap ∧ base ≤ g ∧ g < w.heap.size ∧ w.cell? ⟨g, i, none⟩ = some u := by
  rcases h.2 with ⟨_, h0⟩ | ⟨g, cap, cur, rfl, hb, hg, hn, _, _, ht⟩
  · have h3 := h.1
    rw [h0] at h3
    have := (List.getElem?_eq_some_iff.1 hi).1
    omega
  · have hs : Sits w g e cur := hg
    refine ⟨g, cap, rfl, hn, hb, hs.lt, ?_⟩
    rw [← ht, List.getElem?_take] at hi
    split at hi
    · exact hs.cell i u (by simpa using hi)
    · cases hi
/-- The numbers are in bounds. -/
structure CFit (l : List (Int × Cel)) : Prop where
  up : Up iLt l
  len : l.length ≤ 1000
  cel : ∀ c ∈ l, 0 ≤ c.1 ∧ c.1 ≤ 1000000000 ∧ 0 ≤ c.2.stands ∧ c.2.stands ≤ 2000000000 ∧ 0 ≤ c.2.weight
  tot : tot l ≤ 1152921504606846976
theorem tot_nonneg {l : List (Int × Cel)} (h : ∀ c ∈ l, 0 ≤ c.2.weight) : 0 ≤ tot l := by
  have := wgt_le (k := 0) h
  omega
theorem key_wf {x : Int} (h0 : 0 ≤ x) (h1 : x ≤ 1000000000) : (Lit.int .i64 x).wf = true := by
  have h2 : IntKind.i64.min = -9223372036854775808 := by decide
  have h3 : IntKind.i64.max = 9223372036854775807 := by decide
  simp only [Lit.wf, h2, h3, Bool.and_eq_true, decide_eq_true_eq]
  omega
theorem field0 (a b : Int) (w : World) : (Instr.field 290 (.agg #[.int .i64 a, .int .i64 b]) 0).run Tryz.prog w = .ok (.int .i64 a) w := by kernel_rfl
theorem field1 (a b : Int) (w : World) : (Instr.field 290 (.agg #[.int .i64 a, .int .i64 b]) 1).run Tryz.prog w = .ok (.int .i64 b) w := by kernel_rfl
set_option maxRecDepth 10000 in
set_option maxHeartbeats 4000000 in
theorem foldW (S b mx : Nat) (x y : Int × Cel) (r : List (Int × Cel)) (f : Bool) (w : World) (h : SkAt w S b mx (x :: y :: r) f) (hf : CFit (x :: y :: r)) :
    Calls Tryz.prog 210 #[.pointer (some ⟨S, 0, none⟩)] w fun e w' => e = .returned (.tuple #[]) ∧ Off [S, b] w w' ∧ SkAt w' S b mx (fold (x :: y :: r)) true := by
  obtain ⟨x1, x2, x3, x4, x5⟩ := hf.cel x (List.mem_cons_self ..)
  obtain ⟨y1, y2, y3, y4, y5⟩ := hf.cel y (List.mem_cons_of_mem _ (List.mem_cons_self ..))
  have hkx := Maps.keyOf_int_mk (P := Tryz.prog) (k := 3) Tryz.underlying3 (key_wf x1 x2)
  have hky := Maps.keyOf_int_mk (P := Tryz.prog) (k := 3) Tryz.underlying3 (key_wf y1 y2)
  have hxy : x.1 < y.1 := by
    have := (List.pairwise_cons.1 hf.up).1 y (List.mem_cons_self ..)
    simpa [iLt] using this
  have ht : x.2.weight + (y.2.weight + tot r) ≤ 1152921504606846976 := hf.tot
  have h0 := tot_nonneg (l := r) fun c hc => (hf.cel c (List.mem_cons_of_mem _ (List.mem_cons_of_mem _ hc))).2.2.2.2
  have hsum : y.2.weight + x.2.weight ≤ 1152921504606846976 := by omega
  have ex : Im.elemOf cv zC x.1 (x :: y :: r) = .agg #[.int .i64 x.2.stands, .int .i64 x.2.weight] := by
    unfold Im.elemOf
    rw [getE_cons_eq rfl]
    rfl
  have ey : Im.elemOf cv zC y.1 (x :: y :: r) = .agg #[.int .i64 y.2.stands, .int .i64 y.2.weight] := by
    unfold Im.elemOf
    rw [getE_cons_ne (by omega), getE_cons_eq rfl]
    rfl
  have hris := rising S b mx _ f w h hf.up hf.len
  have HF := hide hf
  have HS := hide h
  clear ht h0 hf h
  go_enter Tryz.func210, Tryz.ntmps210
  go_wp2_with fail
  refine hris.mono ?_
  clear hris
  rintro e w1 ⟨v, rfl, hrow, hb1⟩
  obtain ⟨g, cap, rfl, hcap, hbg, hgl, g0⟩ := row_cell (i := 0) hrow rfl
  have g1 : w1.cell? ⟨g, 1, none⟩ = some (.int .i64 y.1) := by
    obtain ⟨g', cap', e1, _, _, _, h2⟩ := row_cell (i := 1) hrow rfl
    injection e1 with e1 _ _
    injection e1 with e1
    injection e1 with e1
    subst e1
    exact h2
  have HB1 := hide hb1
  have HS1 := hide (HS.out.keep hb1)
  have hn2 : ((x :: y :: r).length : Int) = (r.length : Int) + 2 := by simp; omega
  have hlen2 : 2 ≤ (x :: y :: r).length := by simp
  clear hrow hb1 hbg hgl
  generalize (x :: y :: r).length = nl at *
  have hcap2 : 2 ≤ cap := by omega
  go_wp2_with fail
  go_quiet (fail)
  have HS2 := hide (show SkAt (w1.drewN nq) S b mx (x :: y :: r) f from HS1.out.keep (below_drewN' (Below.refl _ _)))
  have HB2 := hide (show Below w.heap.size w (w1.drewN nq) from below_drewN' HB1.out)
  clear g0 g1 HS1 HB1
  generalize w1.drewN nq = w2 at *
  have c1 := HS2.out.head.cell 1 _ rfl
  have lx := look_run HS2.out.map (int_keyed Tryz.underlying3) Tryz.underlying250 zeroC rfl iLit_same hkx w2.drew rfl
  have ly := look_run HS2.out.map (int_keyed Tryz.underlying3) Tryz.underlying250 zeroC rfl iLit_same hky w2.drew rfl
  rw [ex] at lx
  rw [ey] at ly
  obtain ⟨w4, hu, ho4, hg4⟩ := upd_run (lt := iLt) (show Cells w2.drew b (x :: y :: r) from HS2.out.map) (int_keyed Tryz.underlying3) Tryz.underlying250 iLit_same iLit_before (by have := HF.out.len; unfold maxLen; omega) hky ⟨y.2.stands, y.2.weight + x.2.weight⟩ rfl
  simp only [cv] at hu
  have HU := hide ho4
  have HG := hide (show w2.grownBy w4 (some b) from ⟨hg4.os, hg4.tape, hg4.output, hg4.size, hg4.block⟩)
  clear ho4 hg4 ex ey
  have f0 := field0
  have f1 := field1
  go_wp2_with fail
  go_region
  all_goals
    have HH4 := hide (Foot.Sits.off HS2.out.head (grown_off' (F := [b]) HG.out (by simp)) (by simpa using HS2.out.ne))
    clear c1 lx ly hu
    have c1 := HH4.out.cell 1 _ rfl
    obtain ⟨w5, hd, ho5, hg5⟩ := del_run HU.out (int_keyed Tryz.underlying3) Tryz.underlying250 iLit_same hkx 0
    have HD := hide ho5
    have HG5 := hide hg5
    clear ho5 hg5
    have HH5 := hide (Foot.Sits.off HH4.out (grown_off' (F := [b]) HG5.out (by simp)) (by simpa using HS2.out.ne))
    have c2 := HH5.out.cell 2 _ rfl
    have z2 := HH5.out.frozen 2
    go_wp2_with fail
    go_end0
    have o1 : Off [S, b] w w5 := ((Off.of_below HB2.out).trans (grown_off' HG.out (by simp))).trans (grown_off' HG5.out (by simp))
    have hn : b ≠ S := fun e => HS2.out.ne e.symm
    refine ⟨rfl, o1.set (by simp) _ _, HH5.out.set 2 _, ?_⟩
    have h5 := HD.out
    rw [fold_is HF.out.up] at h5
    exact Owns.at h5 (Below.heap_setCell _ _ _ _ hn)
end Go.Proofs.YtmkidefdegaamaaGreatDoor.Hk
namespace Go.Proofs.YtmkidefdegaamaaGreatDoor.Hk
open Go.RowKit Go.Maps Mem Foot Im Wm
theorem elem_wgt (n : Int) (l : List (Int × Cel)) : ∃ st, Im.elemOf cv zC n l = .agg #[.int .i64 st, .int .i64 (wgt n l)] := by
  unfold Im.elemOf wgt
  cases getE n l with
  | none => exact ⟨0, rfl⟩
  | some c => exact ⟨c.stands, rfl⟩
theorem CFit.lay {l : List (Int × Cel)} (h : CFit l) {v wt : Int} (h0 : 0 ≤ v) (h1 : v ≤ 999999999) (h2 : 0 ≤ wt) (ht : Wm.tot l + wt ≤ 1152921504606846976) (hl : l.length < 1000) : CFit (lay v wt l) := by
  have hw := wgt_le (k := (bk v).1) (fun c hc => (h.cel c hc).2.2.2.2)
  obtain ⟨b1, b2, b3, b4⟩ := bk_fit h0 h1
  refine ⟨up_lay h.up, ?_, fun c hc => ?_, by rw [tot_lay h.up]; exact ht⟩
  · have := (put_length_le (lt := iLt) (k := (bk v).1) (b' := ⟨(bk v).2, wgt (bk v).1 l + wt⟩) (Up.nodup iLt_irr h.up)).2
    show (put _ _ _ _).length ≤ _
    omega
  · rcases mem_put hc with rfl | ⟨hc, _⟩
    · exact ⟨b1, b2, b3, b4, by show 0 ≤ wgt _ _ + wt; omega⟩
    · exact h.cel c hc
/-- The buckets behind a weight more. -/
noncomputable def sadd (mx : Nat) (v wt : Int) (l : List (Int × Cel)) : List (Int × Cel) := if mx < (lay v wt l).length then Wm.fold (lay v wt l) else lay v wt l
set_option maxRecDepth 10000 in
set_option maxHeartbeats 4000000 in
theorem addW (S b mx : Nat) (l : List (Int × Cel)) (f : Bool) (v wt : Int) (w : World) (h : SkAt w S b mx l f) (hf : CFit l) (h0 : 0 ≤ v) (h1 : v ≤ 999999999) (h2 : 0 ≤ wt) (h3 : wt ≤ 1000) (ht : Wm.tot l + wt ≤ 1152921504606846976) (hm : 2 ≤ mx) (hm' : mx ≤ 64) (hl : l.length ≤ mx) :
    Calls Tryz.prog 169 #[.pointer (some ⟨S, 0, none⟩), .int .i64 v, .int .i64 wt] w fun e w' => e = .returned (.tuple #[]) ∧ Off [S, b] w w' ∧ SkAt w' S b mx (sadd mx v wt l) (f || decide (mx < (lay v wt l).length)) := by
  have HF := hide (CFit.lay hf h0 h1 h2 ht (by omega))
  have hwg := wgt_le (k := (bk v).1) (fun c hc => (hf.cel c hc).2.2.2.2)
  have hbf := bk_fit h0 h1
  have HS := hide h
  have HL := hide hl
  clear hl hf h
  go_enter Tryz.func169, Tryz.ntmps169
  go_wp2_with fail
  refine (Bkw.skBucket v _).mono ?_
  rintro e w' ⟨⟨n, s, rfl, hb⟩, rfl⟩
  have hbk := bk_of hb
  rw [hbk] at hwg hbf
  simp only at hwg hbf
  obtain ⟨n0, n1, s0, s1⟩ := hbf
  obtain ⟨w0, w1⟩ := hwg
  have hkey := Maps.keyOf_int_mk (P := Tryz.prog) (k := 3) Tryz.underlying3 (key_wf n0 n1)
  obtain ⟨st, hst⟩ := elem_wgt n l
  have c1 := HS.out.head.cell 1 _ rfl
  have lx := look_run HS.out.map (int_keyed Tryz.underlying3) Tryz.underlying250 zeroC rfl iLit_same hkey w.drew rfl
  rw [hst] at lx
  obtain ⟨w4, hu, ho4, hg4⟩ := upd_run (lt := iLt) (show Cells w.drew b l from HS.out.map) (int_keyed Tryz.underlying3) Tryz.underlying250 iLit_same iLit_before (by have := HL.out; unfold maxLen; omega) hkey ⟨s, wgt n l + wt⟩ rfl
  have e1 : put iLt n ⟨s, wgt n l + wt⟩ l = lay v wt l := by
    unfold lay
    rw [hbk]
  rw [e1] at ho4
  simp only [cv] at hu
  have HU := hide (show Cells w4 b (lay v wt l) from ho4)
  have HG := hide (show w.grownBy w4 (some b) from ⟨hg4.os, hg4.tape, hg4.output, hg4.size, hg4.block⟩)
  have f1 := field1
  have hsum : wgt n l + wt ≤ 1152921504606846976 := by omega
  generalize wgt n l = wg at *
  clear ho4 hg4 e1 hbk hb hst w1 ht
  go_wp2_with fail
  go_region
  all_goals
    clear c1 lx hu f1
    have HO := hide (grown_off' (F := [S, b]) HG.out (by simp))
    have HS4 := hide (show SkAt w4 S b mx (lay v wt l) f from ⟨Foot.Sits.off HS.out.head (grown_off' (F := [b]) HG.out (by simp)) (by simpa using HS.out.ne), HU.out⟩)
    have c0 := HS4.out.head.cell 0 _ rfl
    have c1 := HS4.out.head.cell 1 _ rfl
    have hlen := fun ty => len_run HS4.out.map Tryz.underlying250 ty w4.drew rfl
    have HS5 := hide (show SkAt w4.drew S b mx (lay v wt l) f from HS4.out.keep (below_drewN' (n := 1) (Below.refl _ _)))
    by_cases hgt : mx < (lay v wt l).length
    · have hz : (mx : Int) < ((lay v wt l).length : Int) := by omega
      have HE := hide (show sadd mx v wt l = Wm.fold (lay v wt l) ∧ (f || decide (mx < (lay v wt l).length)) = true from ⟨by rw [sadd, if_pos hgt], by simp [hgt]⟩)
      obtain ⟨x, y, r, hxy⟩ : ∃ x y r, lay v wt l = x :: y :: r := by
        match hlay : lay v wt l with
        | [] => rw [hlay] at hgt; simp at hgt
        | [a] => rw [hlay] at hgt; simp at hgt; omega
        | a :: c :: r => exact ⟨a, c, r, rfl⟩
      have hfo := foldW S b mx x y r f w4.drew (by rw [← hxy]; exact HS5.out) (by rw [← hxy]; exact HF.out)
      rw [← hxy] at hfo
      have HXY := hide hxy
      clear hxy hgt
      generalize (lay v wt l).length = nl at hlen hz
      go_wp2_with fail
      go_region
      all_goals
        go_wp2_with fail
        refine hfo.mono ?_
        clear hfo
        rintro e w6 ⟨rfl, ho, hs⟩
        have HO6 := hide ho
        have HS6 := hide hs
        clear ho hs
        go_wp2_with fail
        go_end0
        refine ⟨rfl, (HO.out.drewN 1).trans HO6.out, ?_⟩
        rw [HE.out.1, HE.out.2]
        exact HS6.out
    · have hz : ((lay v wt l).length : Int) ≤ (mx : Int) := by omega
      have HE := hide (show sadd mx v wt l = lay v wt l ∧ (f || decide (mx < (lay v wt l).length)) = f from ⟨by rw [sadd, if_neg hgt], by simp [hgt]⟩)
      clear hgt
      generalize (lay v wt l).length = nl at hlen hz
      go_wp2_with fail
      go_region
      all_goals
        go_wp2_with fail
        go_end0
        refine ⟨rfl, HO.out.drewN 1, ?_⟩
        rw [HE.out.1, HE.out.2]
        exact HS5.out
end Go.Proofs.YtmkidefdegaamaaGreatDoor.Hk
namespace Go.Proofs.YtmkidefdegaamaaGreatDoor.Hk
open Go.RowKit Go.Maps Mem Foot Im Wm
theorem tot_append (a b : List (Int × Cel)) : Wm.tot (a ++ b) = Wm.tot a + Wm.tot b := by
  induction a with
  | nil => simp [Wm.tot]
  | cons x r ih =>
    rw [List.cons_append, Wm.tot, Wm.tot, ih]
    omega
theorem tot_take {l : List (Int × Cel)} (h : ∀ c ∈ l, 0 ≤ c.2.weight) (i : Nat) : 0 ≤ Wm.tot (l.take i) ∧ Wm.tot (l.take i) ≤ Wm.tot l := by
  have e := tot_append (l.take i) (l.drop i)
  rw [List.take_append_drop] at e
  have h1 := tot_nonneg (l := l.take i) fun c hc => h c (List.mem_of_mem_take hc)
  have h2 := tot_nonneg (l := l.drop i) fun c hc => h c (List.mem_of_mem_drop hc)
  omega
theorem upto_step {k : Int} {l : List (Int × Cel)} {i : Nat} {c : Int × Cel} (hc : l[i]? = some c) (s : Int) : upto k s (l.drop i) = if k < s + c.2.weight then c.2.stands else upto k (s + c.2.weight) (l.drop (i + 1)) := by
  have e : l.drop i = c :: l.drop (i + 1) := by
    obtain ⟨h1, h2⟩ := List.getElem?_eq_some_iff.1 hc
    rw [List.drop_eq_getElem_cons h1, h2]
  rw [e, upto]
theorem getE_at {l : List (Int × Cel)} (hu : Up iLt l) {i : Nat} {c : Int × Cel} (hc : l[i]? = some c) : getE c.1 l = some c.2 := by
  have hm := List.mem_of_getElem? hc
  clear hc
  have hn := Up.nodup iLt_irr hu
  clear hu
  induction l with
  | nil => cases hm
  | cons x r ih =>
    rw [List.map_cons, List.nodup_cons] at hn
    rcases List.mem_cons.1 hm with rfl | hm
    · exact getE_cons_eq rfl
    · rw [getE_cons_ne fun e => hn.1 (List.mem_map.2 ⟨c, hm, e.symm⟩), ih hm hn.2]
set_option maxRecDepth 10000 in
set_option maxHeartbeats 4000000 in
theorem atW (S b mx : Nat) (l : List (Int × Cel)) (f : Bool) (k : Int) (w : World) (h : SkAt w S b mx l f) (hf : CFit l) :
    Calls Tryz.prog 151 #[.pointer (some ⟨S, 0, none⟩), .int .i64 k] w fun e w' => e = .returned (.int .i64 (upto k 0 l)) ∧ Below w.heap.size w w' := by
  have hris := rising S b mx _ f w h hf.up hf.len
  have HF := hide hf
  have HS := hide h
  clear hf h
  go_enter Tryz.func151, Tryz.ntmps151
  go_wp2_with fail
  refine hris.mono ?_
  clear hris
  rintro e w1 ⟨v, rfl, hrow, hb1⟩
  have HR := hide hrow
  have HB := hide hb1
  have HS1 := hide (HS.out.keep hb1)
  have hlen : l.length ≤ 1000 := HF.out.len
  obtain ⟨ao, cv', hv⟩ := Own.shape hrow
  subst hv
  have c1 := HS1.out.head.cell 1 _ rfl
  clear hrow hb1
  go_wp2_with fail
  go_loop [5, 11] (fun s i => ∃ j : Nat, i = .int .i64 (j : Int) ∧ j ≤ l.length ∧ s = .int .i64 (Wm.tot (l.take j)) ∧ Hid (upto k 0 l = upto k (Wm.tot (l.take j)) (l.drop j))) (fun _ i => l.length - (intOf i).toNat)
  case atStart => exact ⟨0, rfl, by omega, rfl, rfl⟩
  case round =>
    obtain ⟨j, rfl, hj, rfl, HU⟩ := hrel
    obtain ⟨t0, t1⟩ := tot_take (l := l) (fun c hc => (HF.out.cel c hc).2.2.2.2) j
    have t2 := HF.out.tot
    by_cases hjl : j < l.length
    · have hjz : (j : Int) < (l.length : Int) := by omega
      obtain ⟨c, hc⟩ : ∃ c, l[j]? = some c := ⟨_, List.getElem?_eq_getElem hjl⟩
      obtain ⟨k1, k2, k3, k4, k5⟩ := HF.out.cel c (List.mem_of_getElem? hc)
      obtain ⟨g, cap, hg, hcap, _, _, gc⟩ := row_cell (i := j) (u := .int .i64 c.1) HR.out (by rw [List.getElem?_map, hc]; rfl)
      injection hg with hg1 hg2 hg3
      subst hg1
      subst hg3
      have hkey := Maps.keyOf_int_mk (P := Tryz.prog) (k := 3) Tryz.underlying3 (key_wf k1 k2)
      have ec : Im.elemOf cv zC c.1 l = .agg #[.int .i64 c.2.stands, .int .i64 c.2.weight] := by
        unfold Im.elemOf
        rw [getE_at HF.out.up hc]
        rfl
      have lx := look_run HS1.out.map (int_keyed Tryz.underlying3) Tryz.underlying250 zeroC rfl iLit_same hkey w1 rfl
      rw [ec] at lx
      have f0 := field0
      have f1 := field1
      have hstep := HU.out.trans (upto_step hc _)
      have htk : Wm.tot (l.take (j + 1)) = Wm.tot (l.take j) + c.2.weight := by
        rw [List.take_add_one, hc, tot_append]
        simp [Wm.tot]
      have hle : Wm.tot (l.take j) + c.2.weight ≤ 1152921504606846976 := by
        have := (tot_take (l := l) (fun c hc => (HF.out.cel c hc).2.2.2.2) (j + 1)).2
        omega
      have HST := hide hstep
      have HTK := hide htk
      clear hstep htk ec hc hg2
      generalize Wm.tot (l.take j) = tj at *
      by_cases hgt : k < tj + c.2.weight
      · go_wp2_with fail
        go_ret
        refine ⟨?_, HB.out⟩
        rw [HST.out, if_pos hgt]
        rfl
      · have hgt' : tj + c.2.weight ≤ k := by omega
        go_wp2_with fail
        go_round
        case rel =>
          refine ⟨j + 1, by go_num, by omega, ?_, ?_⟩
          · rw [HTK.out]
          · rw [HST.out, if_neg hgt, HTK.out]
            exact rfl
        case measure => simp only [intOf]; omega
    · have hjz : ¬ (j : Int) < (l.length : Int) := by omega
      have hj2 : j = l.length := by omega
      have HE := hide (show upto k 0 l = 0 by rw [HU.out, hj2, List.drop_length]; rfl)
      clear hj2
      go_wp2_with fail
      go_ret
      exact ⟨by rw [HE.out]; rfl, HB.out⟩
end Go.Proofs.YtmkidefdegaamaaGreatDoor.Hk
namespace Go.Proofs.YtmkidefdegaamaaGreatDoor.Hk
open Go.RowKit Go.Maps Mem Foot Im Wm
/-- A timer. -/
structure TiAt (w : World) (T S b : Nat) (mx : Nat) (t : Tim) : Prop where
  head : Sits w T 206 #[.int .i64 t.count, .int .i64 t.sum, .int .i64 t.least, .int .i64 t.greatest, .pointer (some ⟨S, 0, none⟩)]
  sk : SkAt w S b mx t.cells t.folded
theorem sits_ne {w : World} {k k' : Nat} {t t' : TypeId} {cs cs' : Array Value} (h : Sits w k t cs) (h' : Sits w k' t' cs') (ht : t ≠ t') : k ≠ k' := by
  intro e
  subst e
  unfold Sits at h h'
  rw [h] at h'
  injection h' with h'
  injection h' with _ h2
  exact ht h2
theorem TiAt.off {F : List Nat} {w w' : World} {T S b mx : Nat} {t : Tim} (h : TiAt w T S b mx t) (ho : Off F w w') (hT : T ∉ F) (hS : S ∉ F) (hb : b ∉ F) : TiAt w' T S b mx t :=
  ⟨Foot.Sits.off h.head ho hT, h.sk.off ho hS hb⟩
theorem TiAt.keep {w w' : World} {T S b mx : Nat} {t : Tim} (h : TiAt w T S b mx t) (hb : Below w.heap.size w w') : TiAt w' T S b mx t :=
  h.off (F := []) (Off.of_below hb) (by simp) (by simp) (by simp)
theorem tiNew (mx : Nat) (w : World) : Calls Tryz.prog 168 #[.int .i64 mx] w fun e w' => ∃ T, e = .returned (.pointer (some ⟨T, 0, none⟩)) ∧ w.heap.size ≤ T ∧ TiAt w' T (w.heap.size + 1) w.heap.size mx ⟨0, 0, 0, 0, [], false⟩ ∧ Below w.heap.size w w' := by
  go_enter Tryz.func168, Tryz.ntmps168
  go_wp2_with fail
  refine (skNew mx w).mono ?_
  rintro e w1 ⟨rfl, hs, hb⟩
  have HS := hide hs
  have HB := hide hb
  clear hs hb
  go_wp2_with fail
  go_ret
  have hb2 : Below w1.heap.size w1 (w1.alloc (.cells #[.int .i64 0, .int .i64 0, .int .i64 0, .int .i64 0, .pointer (some ⟨w.heap.size + 1, 0, none⟩)] 206)) := below_new _
  exact ⟨_, rfl, HB.out.size, ⟨Sits.new _ _ _, HS.out.keep hb2⟩, HB.out.trans (hb2.mono HB.out.size)⟩
theorem cells5 {w : World} {b : Nat} {t : TypeId} {v0 v1 v2 v3 v4 : Value} (h : Sits w b t #[v0, v1, v2, v3, v4]) :
    w.cell? ⟨b, 0, none⟩ = some v0 ∧ w.cell? ⟨b, 1, none⟩ = some v1 ∧ w.cell? ⟨b, 2, none⟩ = some v2 ∧ w.cell? ⟨b, 3, none⟩ = some v3 ∧ w.cell? ⟨b, 4, none⟩ = some v4 ∧ w.frozen? ⟨b, 0, none⟩ = false ∧ w.frozen? ⟨b, 1, none⟩ = false ∧ w.frozen? ⟨b, 2, none⟩ = false ∧ w.frozen? ⟨b, 3, none⟩ = false :=
  ⟨h.cell 0 _ rfl, h.cell 1 _ rfl, h.cell 2 _ rfl, h.cell 3 _ rfl, h.cell 4 _ rfl, h.frozen 0, h.frozen 1, h.frozen 2, h.frozen 3⟩
theorem CFit.of {L : Lim} {n : Nat} {t : Tim} (h : TFit L n t) (hn : n ≤ 1000000000000000) (hL : L.buckets ≤ 64) : CFit t.cells :=
  ⟨h.up, by have := h.len; omega, h.cel, by have := h.tot; omega⟩
theorem off_set {F : List Nat} {w : World} {T j : Nat} {v : Value} (h : T ∈ F) : Off F w (w.setCell ⟨T, j, none⟩ v) := (Off.refl F w).set h j v
theorem ti_done {w W w' : World} {T S b mx : Nat} {t : Tim} {v wt : Int} {a0 a1 a2 a3 : Int} (hN : T ≠ S ∧ T ≠ b) (hW : Off [T] w W) (hH : Sits W T 206 #[.int .i64 a0, .int .i64 a1, .int .i64 a2, .int .i64 a3, .pointer (some ⟨S, 0, none⟩)])
    (e0 : a0 = (tadd mx t v wt).count) (e1 : a1 = (tadd mx t v wt).sum) (e2 : a2 = (tadd mx t v wt).least) (e3 : a3 = (tadd mx t v wt).greatest) (ho : Off [S, b] W w') (hs : SkAt w' S b mx (sadd mx v wt t.cells) (t.folded || decide (mx < (lay v wt t.cells).length))) :
    Off [T, S, b] w w' ∧ TiAt w' T S b mx (tadd mx t v wt) := by
  refine ⟨(hW.mono fun k _ hk => by simp at hk ⊢; exact Or.inl hk).trans (ho.mono fun k _ hk => by simp at hk ⊢; exact Or.inr hk), ?_, hs⟩
  rw [← e0, ← e1, ← e2, ← e3]
  exact Foot.Sits.off hH ho (by simp; exact hN)
set_option maxRecDepth 10000 in
set_option maxHeartbeats 4000000 in
theorem tiAdd (T S b : Nat) (L : Lim) (n : Nat) (t : Tim) (v wt : Int) (w : World) (h : TiAt w T S b L.buckets t) (hf : TFit L n t) (hn : n ≤ 1000000000000000) (hL : 2 ≤ L.buckets) (hL' : L.buckets ≤ 64) (h0 : 0 ≤ v) (h1 : v ≤ 999999999) (h2 : 1 ≤ wt) (h3 : wt ≤ 1000) :
    Calls Tryz.prog 124 #[.pointer (some ⟨T, 0, none⟩), .int .i64 v, .int .i64 wt] w fun e w' => e = .returned (.tuple #[]) ∧ Off [T, S, b] w w' ∧ TiAt w' T S b L.buckets (tadd L.buckets t v wt) := by
  have q1 := hf.count
  have q2 := hf.sum
  have hp0 : 0 ≤ v * wt := Int.mul_nonneg h0 (by omega)
  have hp1 : v * wt ≤ 999999999000 := by
    have := Int.mul_le_mul h1 h3 (by omega) (by omega : (0 : Int) ≤ 999999999)
    omega
  have hs1 : t.sum + v * wt ≤ 2000000000000000 := by
    have : t.sum ≤ 1000000000000000 := q2.2
    omega
  have hs0 : 0 ≤ t.sum + v * wt := by omega
  have hc1 : t.count + wt ≤ 2000000000000000 := by
    have : t.count ≤ 1000000000000000 := q1.2
    omega
  have hc0 : 0 ≤ t.count + wt := by omega
  have hsk := fun W (hW : SkAt W S b L.buckets t.cells t.folded) => addW S b L.buckets t.cells t.folded v wt W hW (CFit.of hf hn hL') h0 h1 (by omega) h3 (by have := hf.tot; omega) hL hL' hf.len
  obtain ⟨c0, c1, c2, c3, c4, f0, f1, f2, f3⟩ := cells5 h.head
  have HT := hide h
  have HF := hide hf
  have nTS : T ≠ S := sits_ne h.head h.sk.head (by decide)
  have nTb : T ≠ b := map_sits h.sk.map h.head
  have HN := hide (And.intro nTS nTb)
  have hbd := bounded
  clear h hf nTS nTb
  by_cases hz : t.count = 0
  · go_enter Tryz.func124, Tryz.ntmps124
    go_wp2_with (go_at_call 125; refine (hbd _ _).mono ?_; rintro e w' ⟨rfl, rfl⟩)
    refine (hsk _ (HT.out.sk.off (F := [T]) ((((((off_set (by simp)).set (by simp) _ _).set (by simp) _ _).set (by simp) _ _).set (by simp) _ _).set (by simp) _ _) (by simpa using fun e => HN.out.1 e.symm) (by simpa using fun e => HN.out.2 e.symm))).mono ?_
    clear hsk
    rintro e w2 ⟨rfl, ho, hs⟩
    have HD := hide (ti_done (t := t) (v := v) (wt := wt) HN.out ((((((off_set (by simp)).set (by simp) _ _).set (by simp) _ _).set (by simp) _ _).set (by simp) _ _).set (by simp) _ _) ((((((HT.out.head.set 2 _).set 3 _).set 0 _).set 1 _).set 2 _).set 3 _) (by simp [tadd, hz]) (by simp [tadd]) (by simp [tadd, hz]) (by simp [tadd, hz]) ho hs)
    clear ho hs
    go_wp2_with fail
    go_end0
    exact ⟨rfl, HD.out⟩
  · have HZ := hide hz
    go_enter Tryz.func124, Tryz.ntmps124
    go_wp2_with (go_at_call 125; refine (hbd _ _).mono ?_; rintro e w' ⟨rfl, rfl⟩)
    all_goals
      refine (hsk _ (HT.out.sk.off (F := [T]) ((((off_set (by simp)).set (by simp) _ _).set (by simp) _ _).set (by simp) _ _) (by simpa using fun e => HN.out.1 e.symm) (by simpa using fun e => HN.out.2 e.symm))).mono ?_
      clear hsk
      rintro e w2 ⟨rfl, ho, hs⟩
      have HD := hide (ti_done (t := t) (v := v) (wt := wt) HN.out ((((off_set (by simp)).set (by simp) _ _).set (by simp) _ _).set (by simp) _ _) ((((HT.out.head.set 0 _).set 1 _).set 2 _).set 3 _) (by simp [tadd]) (by simp [tadd]) (by simp [tadd, HZ.out] <;> omega) (by simp [tadd, HZ.out] <;> omega) ho hs)
      clear ho hs
      go_wp2_with fail
      go_end0
      exact ⟨rfl, HD.out⟩
end Go.Proofs.YtmkidefdegaamaaGreatDoor.Hk
namespace Go.Proofs.YtmkidefdegaamaaGreatDoor.Cq
open Go.RowKit
variable {P : Program} {ops : Array Oper} {md : Region.Mode} {C : World → Prop} {Q : Exit → Act → World → Prop}
/-- Any order; behind each of the first m operations the world is in C. -/
def wpAnyC (P : Program) (md : Region.Mode) (ops : Array Oper) (C : World → Prop) (m : Nat) (Q : Exit → Act → World → Prop) : Nat → Array Bool → Act → World → Prop
  | 0, listed, a, w => Region.ready md ops listed = [] ∧ Q .normal a w
  | n + 1, listed, a, w => (Region.ready md ops listed = [] → Q .normal a w) ∧ ∀ i ∈ Region.ready md ops listed, wpOp P ops Q i (fun a' w' => (i < m → C w') ∧ wpAnyC P md ops C m Q n (listed.setIfInBounds i true) a' w') a w
theorem wpAny_of_C {m : Nat} : ∀ (n : Nat) (listed : Array Bool) (a : Act) (w : World), wpAnyC P md ops C m Q n listed a w → wpAny P md ops Q n listed a w
  | 0, _, _, _, h => h
  | n + 1, _, _, _, h => ⟨h.1, fun i hi => wpOp_mono (fun a' w' hk => wpAny_of_C n _ a' w' hk.2) (h.2 i hi)⟩
def YieldsC (P : Program) (ops : Array Oper) (C : World → Prop) (o : Oper) (v : Value) (a : Act) : Prop :=
  (Region.wanted o (yielded ops a.tmps) = true ∧ ∀ w, C w → (execOp a.eval o).run P w = .ok (.value v) w) ∨ (Region.wanted o (yielded ops a.tmps) = false ∧ v = undef)
theorem YieldsC.op {i : Nat} {o : Oper} {v : Value} {a : Act} (hi : ops[i]? = some o) (hy : YieldsC P ops C o v a) {K : Act → World → Prop} {w : World} (hw : C w) (h : K (a.put o.dst v) w) : wpOp P ops Q i K a w := by
  unfold Go.wpOp
  simp only [hi]
  rcases hy with ⟨h1, h2⟩ | ⟨h1, rfl⟩
  · simp only [h1, if_true, Oper.wp, h2 w hw, Oper.upon]
    exact .inl h
  · simp only [h1, Bool.false_eq_true, if_false]
    exact h
/-- An operation behind one that is taken ahead. -/
theorem op_behind {j : Nat} {oi oj : Oper} {v : Value} (hj : ops[j]? = some oj) (hap : oi.apart ops oj = true) (hsi : ∀ cs b, oi.op ≠ .select cs b) (hsj : ∀ cs b, oj.op ≠ .select cs b)
    (hQ : ∀ c a w, Q (.panic c) (a.put oi.dst v) w → Q (.panic c) a w) {K : Act → World → Prop} {a : Act} {w : World} (hy : YieldsC P ops C oi v a) (h : wpOp P ops Q j K (a.put oi.dst v) w) :
    wpOp P ops Q j (fun a' w' => YieldsC P ops C oi v a' ∧ K (a'.put oi.dst v) w') a w := by
  obtain ⟨r1, r2, r3⟩ := Oper.apart_spec hap
  have yk : ∀ (b : Act), YieldsC P ops C oi v b → ∀ u, YieldsC P ops C oi v (b.put oj.dst u) := fun b hb u => by
    unfold YieldsC at *
    rw [execOp_put oi hsi b oj.dst u r3, wanted_put oi b oj.dst u r3]
    exact hb
  have yd : ∀ d, YieldsC P ops C oi v { a with defers := d :: a.defers } := fun d => hy
  unfold wpOp at *
  simp only [hj] at *
  rw [wanted_put oj a oi.dst v r1] at h
  by_cases hw : Region.wanted oj (yielded ops a.tmps) = true
  · rw [if_pos hw] at h ⊢
    rcases h with h | ⟨g1, g2⟩
    · refine .inl ?_
      unfold Oper.wp at *
      rw [execOp_put oj hsj a oi.dst v r1] at h
      cases hr : (execOp a.eval oj).run P w with
      | ok nx w' =>
        rw [hr] at h
        cases nx with
        | value u =>
          simp only [Oper.upon] at h ⊢
          exact ⟨yk a hy u, by rw [← Act.put_comm a v u r2]; exact h⟩
        | skip =>
          simp only [Oper.upon] at h ⊢
          exact ⟨yk a hy _, by rw [← Act.put_comm a v undef r2]; exact h⟩
        | defer d =>
          simp only [Oper.upon] at h ⊢
          refine ⟨yk _ (yd d) _, ?_⟩
          rw [← Act.put_comm _ v undef r2, ← Act.put_defers]
          exact h
        | enter f args =>
          simp only [Oper.upon] at h ⊢
          refine Calls.mono h fun e w'' he => ?_
          cases e with
          | returned u => exact ⟨yk a hy u, by rw [← Act.put_comm a v u r2]; exact he⟩
          | panicked c => exact hQ _ _ _ he
          | outgrown => exact he
        | row r args =>
          simp only [Oper.upon] at h ⊢
          exact Rows.mono h fun u w'' he => ⟨yk a hy u, by rw [← Act.put_comm a v u r2]; exact he⟩
        | _ => simp only [Oper.upon] at h ⊢
      | halt x w' =>
        rw [hr] at h
        cases x with
        | panic u => simp only [Oper.upon] at h ⊢; exact hQ _ _ _ h
        | _ => simp only [Oper.upon] at h ⊢
    · exact .inr ⟨by unfold Oper.asks at *; rw [execOp_put oj hsj a oi.dst v r1] at g1; exact g1, g2⟩
  · rw [if_neg hw] at h ⊢
    exact ⟨yk a hy _, by rw [← Act.put_comm a v undef r2]; exact h⟩
theorem first_C {m i : Nat} {oi : Oper} {v : Value} (hm : i < m) (hT : tailB md ops m = true) (hi : ops[i]? = some oi) (hsel : ∀ (j : Nat) (o : Oper) cs b, ops[j]? = some o → o.op ≠ .select cs b) (hQ : ∀ c a w, Q (.panic c) (a.put oi.dst v) w → Q (.panic c) a w) :
    ∀ (fuel : Nat) (listed : Array Bool) (a : Act) (w : World), C w → DC md ops listed → (∀ j oj, ops[j]? = some oj → j ≠ i → listed.getD j true = false → (∀ e ∈ oj.after, Region.binds md e = true → e.on ≠ i) → oi.apart ops oj = true) →
      i ∈ Region.ready md ops listed → YieldsC P ops C oi v a → wpAnyC P md ops C m Q fuel (listed.setIfInBounds i true) (a.put oi.dst v) w → wpAnyC P md ops C m Q (fuel + 1) listed a w := by
  intro fuel
  induction fuel with
  | zero =>
    intro listed a w hw _ _ hr hy H
    refine ⟨fun h => (by rw [h] at hr; cases hr), fun j hj => ?_⟩
    by_cases hji : j = i
    · subst hji
      exact hy.op hi hw ⟨fun _ => hw, H⟩
    · have h1 := ready_mono hj hji
      rw [H.1] at h1
      cases h1
  | succ fuel ih =>
    intro listed a w hw hd hfree hr hy H
    refine ⟨fun h => (by rw [h] at hr; cases hr), fun j hj => ?_⟩
    by_cases hji : j = i
    · subst hji
      exact hy.op hi hw ⟨fun _ => hw, H⟩
    · obtain ⟨hjun, oj, hoj, hall⟩ := mem_ready.1 hj
      have hjm : j < m := by
        rcases Nat.lt_or_ge j m with h | h
        · exact h
        · have h1 := getD_tf (tail_all hT hd hj h i hm)
          rw [(mem_ready.1 hr).1] at h1
          cases h1
      have hnot : ∀ e ∈ oj.after, Region.binds md e = true → e.on ≠ i := fun e he hb heq => by
        have h1 := getD_tf (hall e he hb)
        rw [heq, (mem_ready.1 hr).1] at h1
        cases h1
      refine wpOp_mono (fun a' w' h3 => ⟨h3.2.1, ih (listed.setIfInBounds j true) a' w' (h3.2.1 hjm) (hd.step hj) (fun k ok hk hki hun hno => hfree k ok hk hki ?_ hno) (ready_mono hr (Ne.symm hji)) h3.1 ?_⟩) (op_behind hoj (hfree j oj hoj hji hjun hnot) (fun cs b => hsel i oi cs b hi) (fun cs b => hsel j oj cs b hoj) hQ hy (H.2 j (ready_mono hj hji)))
      · by_cases hjk : j = k
        · subst hjk
          exact hjun
        · rw [getD_set_ne true hjk] at hun
          exact hun
      · rw [Array.setIfInBounds_comm _ _ hji]
        exact h3.2.2
/-- The same, with what has come up said beside it. -/
def wpAnyD (P : Program) (ops : Array Oper) (C : World → Prop) (m : Nat) (Q : Exit → Act → World → Prop) (n : Nat) (listed : Array Bool) (a : Act) (w : World) : Prop := DC .any ops listed → wpAnyC P .any ops C m Q n listed a w
theorem take_C {m i : Nat} {oi : Oper} {v : Value} {fuel : Nat} {listed : Array Bool} {a : Act} {w : World} (hi : ops[i]? = some oi) (hm : i < m) (hT : tailB .any ops m = true) (hs : Region.noSelect ops = true) (hf : Region.free .any ops listed i = true) (hr : (Region.ready .any ops listed).contains i = true)
    (hQ : ∀ c a w, Q (.panic c) (a.put oi.dst v) w → Q (.panic c) a w) (hy : YieldsC P ops C oi v a) (hw : C w) (h : wpAnyD P ops C m Q fuel (listed.setIfInBounds i true) (a.put oi.dst v) w) : wpAnyD P ops C m Q (fuel + 1) listed a w := fun hd =>
  first_C hm hT hi (Region.noSelect_spec hs) hQ fuel listed a w hw hd (Region.free_spec hi hf) (by simpa using hr) hy (h (hd.step (by simpa using hr)))
/-- One operation alone can come next. -/
theorem one_C {m j : Nat} {o : Oper} {fuel : Nat} {listed : Array Bool} {a : Act} {w : World} (hr : Region.ready .any ops listed = [j]) (ho : ops[j]? = some o)
    (h : ∀ K : Act → World → Prop, (∀ a' w', (j < m → C w') → wpAnyD P ops C m Q fuel (listed.setIfInBounds j true) a' w' → K a' w') → if Region.wanted o (yielded ops a.tmps) = true then o.wp P a w K Q else K (a.put o.dst undef) w) : wpAnyD P ops C m Q (fuel + 1) listed a w := by
  intro hd
  have hj : j ∈ Region.ready .any ops listed := by rw [hr]; exact List.mem_singleton.2 rfl
  refine ⟨fun h0 => (by rw [hr] at h0; cases h0), fun i hi => ?_⟩
  rw [hr, List.mem_singleton] at hi
  subst hi
  have h1 := h (fun a' w' => (i < m → C w') ∧ wpAnyC P .any ops C m Q fuel (listed.setIfInBounds i true) a' w') (fun a' w' h2 h3 => ⟨h2, h3 (hd.step hj)⟩)
  unfold wpOp
  simp only [ho]
  by_cases hw : Region.wanted o (yielded ops a.tmps) = true
  · rw [if_pos hw] at h1 ⊢
    exact .inl h1
  · rw [if_neg hw] at h1 ⊢
    exact h1
theorem done_C {m : Nat} {listed : Array Bool} {a : Act} {w : World} (hr : Region.ready .any ops listed = []) (h : Q .normal a w) : ∀ fuel, wpAnyD P ops C m Q fuel listed a w
  | 0 => fun _ => ⟨hr, h⟩
  | n + 1 => fun _ => ⟨fun _ => h, fun i hi => by rw [hr] at hi; cases hi⟩
theorem region_C {id : Nat} {Q : Exit → Act → World → Prop} {a : Act} {w : World} {l : List Oper} (C : World → Prop) (m : Nat) (hm : P.follows .mixedOrders = true) (hC : C w) (hd : ∀ w', C w' → C w'.drew) (h : ∀ w', C w' → w'.heap = w.heap → wpAnyD P l.toArray C m Q l.toArray.size (Array.replicate l.toArray.size false) a w') : (Code.region id l.toArray true).wp P Q a w := by
  refine wp_region_any hm ?_
  exact wpAny_of_C _ _ _ _ (h _ (hd _ hC) rfl ⟨by simp, fun j oj hoj hl => by
    have hj := (Array.getElem?_eq_some_iff.1 hoj).1
    simp [Array.getD] at hl
    simp at hj
    omega⟩)
theorem region_D {id : Nat} {Q : Exit → Act → World → Prop} {a : Act} {w : World} {l : List Oper} (C : World → Prop) (m : Nat) (hm : P.follows .mixedOrders = true) (h : wpAnyD P l.toArray C m Q l.toArray.size (Array.replicate l.toArray.size false) a w.drew) : (Code.region id l.toArray true).wp P Q a w := by
  refine wp_region_any hm ?_
  exact wpAny_of_C _ _ _ _ (h ⟨by simp, fun j oj hoj hl => by
    have hj := (Array.getElem?_eq_some_iff.1 hoj).1
    simp [Array.getD] at hl
    simp at hj
    omega⟩)
end Go.Proofs.YtmkidefdegaamaaGreatDoor.Cq
