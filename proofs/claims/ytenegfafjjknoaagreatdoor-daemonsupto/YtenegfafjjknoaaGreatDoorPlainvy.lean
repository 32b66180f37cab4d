/- The walk of a sample's plain form. -/
import Derived.Test.YtenegfafjjknoaaGreatDoorPlainw
import Derived.Shelf.Strings.Builder1
import Derived.Shelf.Strings.Builder2
import Derived.Shelf.Strings.OnBuilder
import Derived.Shelf.Strings.Trim
import Derived.Shelf.Small.Bits
import Derived.Shelf.Small.Strs
import Derived.Shelf.Small.Wraps
import Derived.Shelf.Strings.BuilderF
import Derived.Shelf.Strconv.Itoa0
import Derived.Shelf.Strconv.Itoa1
import Derived.Shelf.LaysM
import Derived.Shelf.Strconv.Itoa2
import Derived.Shelf.Strconv.Itoa3
import Derived.Shelf.Strings.Search1
import Derived.Shelf.Strings.Search2
import Derived.Shelf.Strings.Search3
import Derived.Shelf.Strings.Cut
import Derived.Shelf.Strings.Count
import Derived.Shelf.Sort.Plain
import Derived.Shelf.Strings.Prefix
import Derived.Shelf.Strings.Split
import Derived.Shelf.Strings.SplitShaped
import Derived.Shelf.Unicode.Decode
import Derived.Shelf.Strings.RuneCount
import Derived.Shelf.Strings.Explode
import Derived.Shelf.Bits.Mul64
import Derived.Shelf.Strings.Repeat
import Derived.Shelf.Slices.CompactS
import Derived.Shelf.Slices.Cells
import Derived.Shelf.Slices.In.SortNone
import Derived.Test.YtenegfafjjknoaaGreatDoorProg
namespace Go.Proofs.YtenegfafjjknoaaGreatDoor.Plainv
open Go.RowKit Bytes Nums Numw Mem Tags Tagw Opts Plain Readw Plainw
theorem joinTags (G cap:Nat)(ls:List (List UInt8))(w:World)(hG1:G<w.heap.size)(hG2:ls.length≤cap)(hG3:∀j x,ls[j]? = some x→w.cell? ⟨G,j,none⟩=some (.string ⟨x.toArray⟩))(hl:ls.length≤140737488355328)(hz:(Lib.join ls [44]).length≤140737488355328):
  Calls Tryz.prog 137 #[.slice (some ⟨G,0,none⟩) ls.length cap,.string ⟨#[44]⟩] w fun e w'=>(∃z,e=.returned (.string z)∧B z=Lib.join ls [44]∧z.size≤140737488355328)∧Below w.heap.size w w':=by
 have em:(ls.map fun x=>(⟨x.toArray⟩:ByteArray)).map (fun x=>x.data.toList)=ls:=by
  rw[List.map_map];exact List.map_id ls
 have hj:=Tryz.strings_Join G 0 cap (ls.map fun x=>⟨x.toArray⟩) ⟨#[44]⟩ w (fun j x hx=>by
   rw[List.getElem?_map,Option.map_eq_some_iff]at hx;obtain⟨y,hy,rfl⟩:=hx;rw[Nat.zero_add];exact hG3 j y hy) hG1 (by rw[List.length_map];exact hl) (by rw[List.length_map];exact hG2) (by rw[em];exact hz)
 rw[List.length_map,em]at hj;refine hj.mono fun e w' h=>?_
 obtain⟨he,hb⟩:=h;refine⟨⟨_,he,rfl,?_⟩,hb⟩;rw[size_B];exact hz
theorem plainTags (nb kb wb:ByteArray)(g:Bool)(v r:Int)(lo:Nat)(ls:List (List UInt8))(tv:Value)(w:World)(hst:Strs lo w tv ls)(hl:ls.length≤140737488355328)(hz:(Lib.join ls [44]).length≤140737488355328):
  Calls Tryz.prog 79 #[.agg #[.string nb,.string kb,.bool g,.int .i64 v,.string wb,.int .i64 r,tv]] w fun e w'=>(∃z,e=.returned (.string z)∧B z=pt ls∧z.size≤140737488355340)∧Below w.heap.size w w':=by
 rcases hst with ⟨rfl,rfl⟩|⟨G,cap,rfl,hG0,hG1,hG2,hG3⟩
 ·go_enter Tryz.func79,Tryz.ntmps79
  go_wp2_with fail
  go_ret
  exact⟨⟨_,rfl,rfl,by decide⟩,below_new _⟩
 ·by_cases hn:ls=[]
  ·subst hn;go_enter Tryz.func79,Tryz.ntmps79
   go_wp2_with fail
   go_ret
   exact⟨⟨_,rfl,rfl,by decide⟩,below_new _⟩
  ·have hn1:1≤ls.length:=by
    cases ls with
    | nil=>exact absurd rfl hn
    | cons x l=>simp
   have hj:=joinTags G cap ls (w.alloc (.cells #[.string nb,.string kb,.bool g,.int .i64 v,.string wb,.int .i64 r,.slice (some ⟨G,0,none⟩) ls.length cap] 80)) (by simp;omega) hG2 (fun j x hx=>by
     rw[(below_new _).cell (p:=⟨G,j,none⟩) hG1];exact hG3 j x hx) hl hz
   have HJ:=hide hj;clear hj;have hnz:((ls.length:Int)==0)=false:=by
    simp only[beq_eq_false_iff_ne];omega
   go_enter Tryz.func79,Tryz.ntmps79
   go_wp2_with (go_at_call 137;refine HJ.out.mono ?_;rintro e w1 ⟨⟨z,rfl,hz1,hz2⟩,hb1⟩)
   go_ret
   refine⟨⟨_,rfl,?_,?_⟩,(below_new _).trans (hb1.mono (by simp))⟩
   ·rw[pt,if_neg hn,←hz1];exact B_append _ _
   ·rw[size_B];refine Nat.le_trans (Nat.le_of_eq (congrArg List.length (B_append _ _))) ?_;rw[List.length_append,←size_B z];show 2+z.size≤_;omega
end Go.Proofs.YtenegfafjjknoaaGreatDoor.Plainv
namespace Go.Proofs
open Go.Shelf
def Tryz.lays138_ren:Go.Shelf.Ren:=⟨fun|138=>240|195=>292|218=>293|143=>241|219=>171|217=>227|225=>228|224=>229|267=>230|266=>274|314=>275|n=>n,fun|9=>9|3=>3|4=>4|5=>5|0=>0|46=>212|146=>349|51=>275|n=>n,fun|1=>0|n=>n⟩
theorem Tryz.lays138:Go.Proofs.Lays.n138 Tryz.prog Tryz.lays138_ren:={
 mixed:=by kernel_rfl
 f138:=Tryz.func240.trans (congrArg some (by kernel_rfl))
 f143:=Tryz.func241.trans (congrArg some (by kernel_rfl))
 f195:=Tryz.func292.trans (congrArg some (by kernel_rfl))
 f217:=Tryz.func227.trans (congrArg some (by kernel_rfl))
 f218:=Tryz.func293.trans (congrArg some (by kernel_rfl))
 f219:=Tryz.func171.trans (congrArg some (by kernel_rfl))
 f224:=Tryz.func229.trans (congrArg some (by kernel_rfl))
 f225:=Tryz.func228.trans (congrArg some (by kernel_rfl))
 f266:=Tryz.func274.trans (congrArg some (by kernel_rfl))
 f267:=Tryz.func230.trans (congrArg some (by kernel_rfl))
 f314:=Tryz.func275.trans (congrArg some (by kernel_rfl))
 t0:=Tryz.underlying0
 a0:=Tryz.isAgg0
 z0:=Tryz.sizeOf0
 v0:=Tryz.zeroValue0
 t3:=Tryz.underlying3
 a3:=Tryz.isAgg3
 z3:=Tryz.sizeOf3
 v3:=Tryz.zeroValue3
 t4:=Tryz.underlying4
 a4:=Tryz.isAgg4
 z4:=Tryz.sizeOf4
 v4:=Tryz.zeroValue4
 t5:=Tryz.underlying5
 a5:=Tryz.isAgg5
 z5:=Tryz.sizeOf5
 v5:=Tryz.zeroValue5
 t9:=Tryz.underlying9
 a9:=Tryz.isAgg9
 z9:=Tryz.sizeOf9
 v9:=Tryz.zeroValue9
 t46:=Tryz.underlying212
 a46:=Tryz.isAgg212
 z46:=Tryz.sizeOf212
 v46:=Tryz.zeroValue212
 t51:=Tryz.underlying275
 a51:=Tryz.isAgg275
 z51:=Tryz.sizeOf275
 v51:=Tryz.zeroValue275
 t146:=Tryz.underlying349
 a146:=Tryz.isAgg349
 z146:=Tryz.sizeOf349
 v146:=Tryz.zeroValue349
 g1:=by kernel_rfl}
open Go.RowKit Go.Lib in
theorem Tryz.strings_Count_one (s:ByteArray)(c:UInt8)(w:World):
  Calls Tryz.prog 240 #[.string s,.string ⟨#[c]⟩] w fun e w'=>e=.returned (.int .i64 (Lib.countByte s.data.toList c))∧w'=w:=Any.strings_Count_one Tryz.lays138 s c w
end Go.Proofs
