/- strings.Split at newlines: the library's text walked, at every length. A window takes a datagram. A new window; datagrams taken one behind the other. The keys of the shards, each shard's sorted; the least head. The least head, walked. The shards' keys in one rising order: the iterator. Windows: a timer in one has taken something; how long a series' text is. A range over the shards' rising order: the caller's law. A builder's string: which blocks are touched. A window's text. Configurations: the program's Check and the document's Good answer alike. Datagrams taken one behind the other: the window that Sum asks for its text. The program's Sum. A row of texts with spare room; the program's Sum at what is no configuration. -/
import Derived.Test.YtenegfafjjknoaaGreatDoorAgxx
import Derived.Lib.SplitLaws
import Derived.Deep.RegionWith
import Derived.Shelf.Abstract
import Derived.OwnWalkIn
import Derived.TacticsInMore
import Derived.Maps.OwnIn
import Derived.Sort.KeysCollected
import Derived.RangeFuncNested
import Derived.RangeFuncBound
import Derived.RangeFuncCalls
import Derived.RangeFuncLeaves
import Derived.Shelf.RegionOpen
import Derived.WalkKit
import Derived.LoopNIn
import Derived.LoopIn
import Derived.Laws.CopyOwn
set_option maxHeartbeats 100000000
open List renaming length_cons → uA, length_append → uC, mem_cons → uD, length_nil → uE, map_cons → uF, eq_nil_of_length_eq_zero → uG, length_filter_le → uH, cons_append → uI, length_map → uJ, mem_singleton → uK, getElem?_eq_getElem → uL, mem_cons_self → uM, getElem?_of_mem → uO, mem_cons_of_mem → uP, count_eq_zero → uR, pairwise_cons → uS, mem_map → uT
open Nat renaming le_refl → uB, le_trans → uN, le_of_lt → uQ
namespace Go.Proofs.YtenegfafjjknoaaGreatDoor.Spn
open Go.RowKit Bytes Go.Lib Split
set_option maxRecDepth 1000000 in
theorem genSplit10 (s:ByteArray)(N:Nat)(w:World)(hs:s.size≤140737488355328)(hN:N=Lib.countByte s.data.toList 10+1)(hNb:N≤1000000000000):
  Calls Tryz.prog 186 #[.string s,.string ⟨#[10]⟩,.int .i64 0,.int .i64 (-1)] w fun e w'=>
   e=.returned (.slice (some ⟨w.heap.size,0,none⟩) (Lib.splitB ⟨#[10]⟩ 0 (N - 1) s).length N)∧w'=w.alloc (.cells (Lib.cellsOf (Lib.splitB ⟨#[10]⟩ 0 (N - 1) s) N) 9):=by
 have hI:∀(x:ByteArray) (w:World),Calls Tryz.prog 241 #[.string x,.string ⟨#[10]⟩] w fun e w'=>e=.returned (.int .i64 (Lib.indexB x ⟨#[10]⟩))∧w'=w:=fun x w=>
  (Tryz.strings_Index_one x 10 w).mono fun e w' ⟨he,hw⟩=>⟨by rw[he,←Lib.index_one],hw⟩
 have hcz:Lib.countByte s.data.toList 10≤s.size:=by
  rw[size_B];exact List.count_le_length
 have hCt:=Tryz.strings_Count_one s 10 w;have eC:((Lib.countByte s.data.toList 10:Nat):Int)=(N:Int) - 1:=by omega
 rw[eC]at hCt;have HCt:=hide hCt;have eN':min (N:Int) ((s.size:Int)+1)=(N:Int):=by omega
 have hN1:(1:Int)≤(N:Int):=by omega
 have eN2:(N:Int) - 1+1=(N:Int):=by omega
 clear hN hCt eC;have hmk:=run_make_row' (P:=Tryz.prog) 36 9 (.string ByteArray.empty) 16 Tryz.underlying36 hi9 rfl .i64 .i64 N (by omega) (by omega);have HI:=hide hI;clear hI;go_enter Tryz.func186,Tryz.ntmps186
 go_wp2_with (go_at_call 240;refine HCt.out.mono ?_;rintro e w' ⟨rfl,hw⟩;rw[hw])
 clear hmk;go_loopg [0,10] (N - 1) (fun g s0 s10 wr=>∃(done:List ByteArray) (rest:ByteArray),s0=.string rest∧s10=.int .i64 done.length∧done.length≤N - 1∧g=N - 1 - done.length∧rest.size≤s.size∧
  wr=w.alloc (.cells (Lib.cellsOf done N) 9)∧done++Lib.splitB ⟨#[10]⟩ 0 (N - 1 - done.length) rest=Lib.splitB ⟨#[10]⟩ 0 (N - 1) s)
 case atStart=>exact⟨[],s,rfl,rfl,Nat.zero_le _,rfl,uB _,by rw[Lib.cellsOf_nil],rfl⟩
 case round=>
  obtain⟨done,rest,rfl,rfl,hd,rfl,hrs,rfl,hsp⟩:=hrel;have hnext:(Lib.cellsOf done N)[done.length]? = some (.string ByteArray.empty):=Lib.cellsOf_next (by omega);have HS:=hide hsp;clear hsp;have fin:Lib.splitB ⟨#[10]⟩ 0 (N - 1 - done.length) rest=[rest]→(Lib.splitB ⟨#[10]⟩ 0 (N - 1) s).length=done.length+1∧(Lib.cellsOf done N).setIfInBounds done.length (.string rest)=Lib.cellsOf (Lib.splitB ⟨#[10]⟩ 0 (N - 1) s) N:=fun h=>by
   have e:=HS.out;rw[h]at e;rw[←e];exact⟨by simp,Lib.cellsOf_set (by omega) rest⟩
  have FIN:=hide fin;clear fin;by_cases hlt:done.length<N - 1
  ·have hltz:((done.length:Nat):Int)<(N:Int) - 1:=by omega
   rcases Lib.indexB_cases rest ⟨#[10]⟩ with hix|⟨i,hix,hroom⟩
   ·have HX:=hide hix;clear hix;go_wp2_with (go_at_call 241;refine(HI.out rest _).mono ?_;rintro e w' ⟨rfl,hw⟩;rw[hw,HX.out])
    go_ret
    obtain⟨f1,f2⟩:=FIN.out (Lib.splitB_miss _ 0 _ rest HX.out);rw[f1,←f2];exact⟨by first|rfl|(congr 2<;>omega),rfl⟩
   ·have hroom1:i+1≤rest.size:=hroom;have HX:=hide hix;clear hix hroom;go_wp2_with (go_at_call 241;refine(HI.out rest _).mono ?_;rintro e w' ⟨rfl,hw⟩;rw[hw,HX.out])
    go_roundg (N - 1 - (done.length+1))
    case measure=>omega
    case rel=>
     refine⟨done++[rest.extract 0 i],rest.extract (i+1) rest.size,rfl,by simp,by simp;omega,by simp,by rw[ByteArray.size_extract];omega,by rw[←Lib.cellsOf_set (by omega)],?_⟩;rw[←HS.out,show N - 1 - done.length=(N - 1 - (done.length+1))+1 by omega,Lib.splitB_hit _ 0 _ rest i HX.out];simp
     rfl
  ·have hltz:¬(((done.length:Nat):Int)<(N:Int) - 1):=by omega
   go_wp2_with fail
   go_ret
   obtain⟨f1,f2⟩:=FIN.out (by rw[show N - 1 - done.length=0 by omega];rfl);rw[f1,←f2];exact⟨by first|rfl|(congr 2<;>omega),rfl⟩
open Wm in
theorem lines_miss {l:List UInt8}(h:has 10 l=false):lines l=[l]:=lines_one (by
 unfold has at h;simpa using h)
theorem fore_not (c:UInt8)(l:List UInt8):c∉fore c l:=by
 induction l with
 | nil=>simp[fore]
 | cons b r ih=>
  unfold fore at ih ⊢;by_cases h:b=c
  ·subst h;simp
  ·rw[List.takeWhile_cons_of_pos (by simpa using h)];simp only[uD,not_or];exact⟨fun e=>h e.symm,ih⟩
theorem cut_at {c:UInt8}{l:List UInt8}(h:has c l=true):l=fore c l++c ::aft c l:=by
 induction l with
 | nil=>simp[has]at h
 | cons b r ih=>
  by_cases hb:b=c
  ·subst hb;simp[fore,aft]
  ·have h2:has c r=true:=by
    unfold has at h ⊢;simp only[List.contains_cons,Bool.or_eq_true,beq_iff_eq]at h;exact h.resolve_left (fun e=>hb e.symm)
   have h3:=ih h2;have e1:fore c (b ::r)=b ::fore c r:=by
    unfold fore;rw[List.takeWhile_cons_of_pos (by simpa using hb)]
   have e2:aft c (b ::r)=aft c r:=by
    unfold aft;rw[List.dropWhile_cons_of_pos (by simpa using hb)]
   rw[e1,e2,uI,←h3]
theorem split_lines (k:Nat):∀s:ByteArray,Lib.countByte (B s) 10=k→(Lib.splitB ⟨#[10]⟩ 0 k s).map B=Wm.lines (B s):=by
 induction k with
 | zero=>
  intro s hc;have:has 10 (B s)=false:=by
   unfold has;simp only[Lib.countByte,uR]at hc;simpa using hc
  rw[lines_miss this];rfl
 | succ k ih=>
  intro s hc;have e:Lib.indexB s ⟨#[10]⟩=Lib.indexByte (B s) 10:=Lib.index_one _ _;rcases idx_cases (B s) 10 with ⟨h1,h2,_⟩|⟨o,h1,h0,h2,h3,h4⟩
  ·exfalso
   unfold has at h2;have:(10:UInt8)∉B s:=by simpa using h2
   rw[Lib.countByte,uR.2 this]at hc;omega
  ·have hj:=cut_at h2;have hcc:Lib.countByte (aft 10 (B s)) 10=k:=by
    have h5:(10:UInt8)∉fore 10 (B s):=fore_not 10 (B s);have h6:Lib.countByte (B s) 10=Lib.countByte (fore 10 (B s)++10 ::aft 10 (B s)) 10:=congrArg (fun l=>Lib.countByte l 10) hj;rw[hc]at h6;simp only[Lib.countByte,List.count_append,uR.2 h5,List.count_cons_self]at h6;simp only[Lib.countByte];omega
   have e2:B (s.extract (o+1) s.size)=aft 10 (B s):=by
    rw[B_extract,h4,List.take_of_length_le];rw[List.length_drop,size_B];exact uB _
   rw[Lib.splitB_hit _ _ _ _ o (by rw[e,h1]),uF];have ih2:=ih (s.extract (o+1) s.size) (by rw[e2];exact hcc);show B (s.extract 0 (o+0)) ::(Lib.splitB ⟨#[10]⟩ 0 k (s.extract (o+1) s.size)).map B=_;rw[ih2,e2,B_extract,List.drop_zero,Nat.add_zero,Nat.sub_zero,←h3];have:=Wm.lines_join (fore 10 (B s)) (aft 10 (B s));rw[←hj]at this;have h7:Wm.lines (fore 10 (B s))=[fore 10 (B s)]:=Wm.lines_one (fore_not 10 (B s));rw[this,h7];rfl
theorem split_size (k:Nat):∀(s:ByteArray) (x:ByteArray),x∈Lib.splitB ⟨#[10]⟩ 0 k s→x.size≤s.size:=by
 induction k with
 | zero=>
  intro s x hx;rw[Lib.splitB_zero,uK]at hx;rw[hx];exact uB _
 | succ k ih=>
  intro s x hx;have e:Lib.indexB s ⟨#[10]⟩=Lib.indexByte (B s) 10:=Lib.index_one _ _;rcases idx_cases (B s) 10 with ⟨h1,h2,_⟩|⟨o,h1,h0,h2,h3,h4⟩
  ·rw[Lib.splitB_miss _ _ _ _ (by rw[e,h1]),uK]at hx;rw[hx];exact uB _
  ·rw[Lib.splitB_hit _ _ _ _ o (by rw[e,h1])]at hx;rcases uD.1 hx with rfl|hx
   ·rw[ByteArray.size_extract];omega
   ·have:=ih _ x hx;rw[ByteArray.size_extract]at this;omega
theorem split10 (s:ByteArray)(hs:s.size≤140737488355328)(hc:Lib.countByte (B s) 10+1≤1000000000000)(w:World):
  Calls Tryz.prog 141 #[.string s,.string ⟨#[10]⟩] w fun e w'=>∃ps:List ByteArray,ps.map B=Wm.lines (B s)∧(∀x∈ps,x.size≤s.size)∧e=.returned (.slice (some ⟨w.heap.size,0,none⟩) ps.length (Lib.countByte (B s) 10+1))∧ps.length=Lib.countByte (B s) 10+1∧w'=w.alloc (.cells (Lib.cellsOf ps (Lib.countByte (B s) 10+1)) 9):=by
 have hc':=genSplit10 s (Lib.countByte (B s) 10+1) w hs rfl hc;have HC:=hide hc';clear hc';go_enter Tryz.func141,Tryz.ntmps141
 go_wp2_with (go_at_call 186;refine HC.out.mono ?_;rintro e w' ⟨rfl,hw⟩;rw[hw])
 go_ret
 refine⟨_,split_lines _ s rfl,fun x hx=>split_size _ _ _ hx,rfl,?_,rfl⟩;have h1:=congrArg List.length (split_lines _ s rfl);rw[uJ]at h1;have h2:(Wm.lines (B s)).length=Lib.countByte (B s) 10+1:=by
  generalize B s=l
  induction l with
  | nil=>rfl
  | cons c r ih=>
   rw[Wm.lines];by_cases hcc:c=10
   ·subst hcc;simp only[if_true,uA,ih,Lib.countByte,List.count_cons_self]
   ·rw[if_neg hcc];have h3:Lib.countByte (c ::r) 10=Lib.countByte r 10:=by simp[Lib.countByte,hcc]
    rw[h3];cases hr:Wm.lines r with
    | nil=>exact absurd hr (Wm.lines_ne r)
    | cons x y=>
     rw[hr]at ih;simpa using ih
 exact h1.trans h2
end Go.Proofs.YtenegfafjjknoaaGreatDoor.Spn
namespace Go.Proofs.YtenegfafjjknoaaGreatDoor.Wi
open Go.RowKit Go.Maps Mem Foot Im Wm Hk Hb Hi Hn Plainw Cq Hs Sh Readw
def Grew (w w':World)(p:WI)(L:Lim)(E:List Ent)(W:Win):Prop:=
 ∃rj' dr' E',WiAt w' p L rj' dr' E'∧winOf rj' dr' E'=W∧Off (wfoot p E) w w'∧∀x,x∈wfoot p E'→x∈wfoot p E∨w.heap.size≤x
theorem off_grow {F G:List Nat}{w w1 w2:World}(h:Off F w w1)(k:Off G w1 w2)(hG:∀x∈G,x∈F∨w.heap.size≤x):Off F w w2:=
 ⟨k.os.trans h.os,k.tape.trans h.tape,k.output.trans h.output,uN h.size k.size,fun i hi hF=>(k.block i (Nat.lt_of_lt_of_le hi h.size) (fun e=>by
  rcases hG i e with e|e
  ·exact hF e
  ·omega)).trans (h.block i hi hF)⟩
theorem Grew.refl {w:World}{p:WI}{L:Lim}{rj dr:Nat}{E:List Ent}(h:WiAt w p L rj dr E):Grew w w p L E (winOf rj dr E):=
 ⟨rj,dr,E,h,rfl,Off.refl _ _,fun _ hx=>Or.inl hx⟩
theorem Grew.ahead {w w1 w':World}{p:WI}{L:Lim}{E:List Ent}{W:Win}(hb:Below w.heap.size w w1)(h:Grew w1 w' p L E W):Grew w w' p L E W:=by
 obtain⟨rj',dr',E',h1,h2,h3,h4⟩:=h;refine⟨rj',dr',E',h1,h2,(Off.of_below hb).trans h3,fun x hx=>(h4 x hx).imp id fun h=>?_⟩;have:=hb.size;omega
theorem Grew.then {w w1 w2:World}{p:WI}{L:Lim}{E:List Ent}{W W':Win}(h:Grew w w1 p L E W)(k:∀rj dr E1,WiAt w1 p L rj dr E1→winOf rj dr E1=W→Grew w1 w2 p L E1 W'):Grew w w2 p L E W':=by
 obtain⟨rj',dr',E',h1,h2,h3,h4⟩:=h;obtain⟨rj2,dr2,E2,k1,k2,k3,k4⟩:=k rj' dr' E' h1 h2;refine⟨rj2,dr2,E2,k1,k2,off_grow h3 k3 h4,fun x hx=>?_⟩;rcases k4 x hx with h|h
 ·exact h4 x h
 ·have:=h3.size;exact Or.inr (by omega)
theorem fold_fit {L:Lim}(hL:2≤L.buckets):∀(ls:List Bs) (n:Nat) (W:Win),WFit L n W→WFit L (n+ls.length) (ls.foldl (wline L) W):=by
 intro ls
 induction ls with
 | nil=>intro n W h;exact h
 | cons l r ih=>
  intro n W h;have:=ih (n+1) _ (h.line hL l);rw[List.foldl_cons,uA];rw[show n+(r.length+1)=n+1+r.length by omega];exact this
theorem Grew.sits {w w1:World}{p:WI}{L:Lim}{E:List Ent}{W:Win}{G:Nat}{t:TypeId}{cs:Array Value}(h:Grew w w1 p L E W)(hs:Sits w G t cs)(hG:G∉wfoot p E):Sits w1 G t cs:=by
 obtain⟨_,_,_,_,_,h3,_⟩:=h;exact Foot.Sits.off hs h3 hG
set_option maxRecDepth 10000 in
theorem takeGram (p:WI)(L:Lim)(n rj dr:Nat)(E:List Ent)(s:ByteArray)(w:World)(h:WiAt w p L rj dr E)(hf:WFit L n (winOf rj dr E))(hL:LOk L)(hs:s.size≤140737488355328)(hn:n+(Lib.countByte (Bytes.B s) 10+1)≤1000000000000):
  Calls Tryz.prog 89 #[.pointer (some ⟨p.P,0,none⟩),.string s] w fun e w'=>e=.returned (.tuple #[])∧Grew w w' p L E (wgram L (winOf rj dr E) (Bytes.B s))∧WFit L (n+(Lib.countByte (Bytes.B s) 10+1)) (wgram L (winOf rj dr E) (Bytes.B s)):=by
 have hsp:=Spn.split10 s hs (by omega) w;have HW:=hide h;have HF:=hide hf;clear h hf;go_enter Tryz.func89,Tryz.ntmps89
 go_wp2_with fail
 refine hsp.mono ?_;clear hsp;rintro e w1 ⟨ps,hps,hsz,rfl,hlen,hw1⟩;have hG:=Sits.new w 9 (Lib.cellsOf ps (Lib.countByte (Bytes.B s) 10+1));have hB:=below_new (w:=w) (.cells (Lib.cellsOf ps (Lib.countByte (Bytes.B s) 10+1)) 9);rw[←hw1]at hG hB;have HLn:=hide (show (lines (Bytes.B s)).length=ps.length by rw[←hps];simp);rw[←hlen]at hG ⊢ hn;have HGn:=hide (show w.heap.size∉wfoot p E from fun hx=>by have:=HW.out.lt _ hx;omega);obtain⟨G,hGe⟩:∃G,w.heap.size=G:=⟨_,rfl⟩;rw[hGe]at HGn hG ⊢;have HB:=hide hB;have HG:=hide hG;have HPS:=hide hps;have HSZ:=hide hsz;have HW1:=hide (HW.out.keep hB);have HGE:=hide hGe;have HLE:=hide hlen;clear hps hsz hw1 hB hG hGe hlen;have HC:=hide (fun (j:Nat) (x:ByteArray) (hx:ps[j]? = some x)=>show (Lib.cellsOf ps ps.length)[j]? = some (Value.string x) from by
  rw[Lib.cellsOf_full];simp[hx])
 go_wp2_with fail
 go_loopw [9] (fun i wr=>∃k:Nat,i=.int .i64 (k:Int)∧k≤ps.length∧Hid (Grew w1 wr p L E (((lines (Bytes.B s)).take k).foldl (wline L) (winOf rj dr E)))) (fun i _=>ps.length - (intOf i).toNat)
 case atStart=>exact⟨0,rfl,by omega,Grew.refl HW1.out⟩
 case round=>
  obtain⟨k,rfl,hk,HI⟩:=hrel;by_cases hkl:k<ps.length
  ·have hkz:(k:Int)<(ps.length:Int):=by omega
   obtain⟨x,hx⟩:∃x,ps[k]? = some x:=⟨_,uL hkl⟩;have HGr:=hide (HI.out.sits HG.out HGn.out);have g0:=HGr.out.cell k _ (HC.out k x hx);have HX:=hide (show (lines (Bytes.B s))[k]? = some (Bytes.B x) by rw[←HPS.out,List.getElem?_map,hx];rfl);have HTK:=hide (show (lines (Bytes.B s)).take (k+1)=(lines (Bytes.B s)).take k++[Bytes.B x] by rw[List.take_add_one,HX.out];rfl);have hxs:x.size≤s.size:=HSZ.out x (List.mem_of_getElem? hx);clear hx;by_cases hxe:Bytes.B x=[]
   ·have hxe':x=⟨#[]⟩:=Bytes.B_inj hxe;subst hxe';have HN:=hide (show ((lines (Bytes.B s)).take (k+1)).foldl (wline L) (winOf rj dr E)=((lines (Bytes.B s)).take k).foldl (wline L) (winOf rj dr E) by
     rw[HTK.out,List.foldl_append];exact wline_nil L _)
    clear hxe;go_wp2_with fail
    go_roundw
    case rel=>
     refine⟨k+1,by go_num,by omega,?_⟩;rw[HN.out];exact HI
    case measure=>simp only[intOf];omega
   ·have hxz:(x.toList==[])=false:=Vals.ne_list hxe;have HXE:=hide hxe;clear hxe;obtain⟨rj',dr',E',k1,k2,k3,k4⟩:=HI.out;have hfk:=fold_fit hL.b0 ((lines (Bytes.B s)).take k) n _ HF.out;have hlk:((lines (Bytes.B s)).take k).length=k:=by
     rw[List.length_take,HLn.out];omega
    rw[hlk,←k2]at hfk;have htl:=takeLine p L (n+k) rj' dr' E' x wr k1 hfk (by omega) hL (by omega) HXE.out;have HK:=hide (And.intro k2 (And.intro k3 k4));clear hfk k1 k2 k3 k4 hlk;go_wp2_with fail
    refine htl.mono ?_;clear htl;rintro e w3 ⟨rfl,htk⟩;have HTo:=hide htk;clear htk g0;go_wp2_with fail
    go_roundw
    case rel=>
     refine⟨k+1,by go_num,by omega,?_⟩;obtain⟨k2,k3,k4⟩:=HK.out;obtain⟨rj2,dr2,E2,m1,m2,m3,m4⟩:=HTo.out;refine⟨rj2,dr2,E2,m1,?_,off_grow k3 m3 k4,fun y hy=>?_⟩
     ·rw[HTK.out,List.foldl_append,m2,k2];rfl
     ·rcases m4 y hy with h|h
      ·exact k4 y h
      ·have:=k3.size;exact Or.inr (by omega)
    case measure=>simp only[intOf];omega
  ·have hkz:¬(k:Int)<(ps.length:Int):=by omega
   have hk2:k=ps.length:=by omega
   subst hk2;have HE:=hide (show (lines (Bytes.B s)).take ps.length=lines (Bytes.B s) by rw[←HLn.out,List.take_length]);go_wp2_with fail
   go_end0
   have hg:=HI.out;rw[HE.out]at hg;have hff:=fold_fit hL.b0 (lines (Bytes.B s)) n _ HF.out;rw[HLn.out,HLE.out]at hff;exact⟨rfl,hg.ahead HB.out,hff⟩
end Go.Proofs.YtenegfafjjknoaaGreatDoor.Wi
namespace Go.Proofs.YtenegfafjjknoaaGreatDoor.Wi
open Go.RowKit Go.Maps Mem Foot Im Wm Hk Hb Hi Hn Plainw Cq Hs Sh Readw
def limOf (c:Fin 6→Int):Lim:=⟨(c 1).toNat,(c 2).toNat,(c 3).toNat⟩
structure COk (c:Fin 6→Int):Prop where
 w:1≤c 0∧c 0≤1000
 s:1≤c 1∧c 1≤32
 t:1≤c 2∧c 2≤16
 b:2≤c 3∧c 3≤64
 n:1≤c 4∧c 4≤16
 g:64≤c 5∧c 5≤4096
theorem COk.lim {c:Fin 6→Int}(h:COk c):LOk (limOf c):=by
 have h1:=h.s;have h2:=h.t;have h3:=h.b;exact⟨by simp only[limOf];omega,by simp only[limOf];omega,by simp only[limOf];omega,by simp only[limOf];omega⟩
theorem cells6 {w:World}{b:Nat}{t:TypeId}{v0 v1 v2 v3 v4 v5:Value}(h:Sits w b t #[v0,v1,v2,v3,v4,v5]):
  w.cell? ⟨b,0,none⟩=some v0∧w.cell? ⟨b,1,none⟩=some v1∧w.cell? ⟨b,2,none⟩=some v2∧w.cell? ⟨b,3,none⟩=some v3∧w.cell? ⟨b,4,none⟩=some v4∧w.cell? ⟨b,5,none⟩=some v5:=
 ⟨h.cell 0 _ rfl,h.cell 1 _ rfl,h.cell 2 _ rfl,h.cell 3 _ rfl,h.cell 4 _ rfl,h.cell 5 _ rfl⟩
theorem made_at {w w1:World}{M R:Nat}{bs:List Nat}{c:Fin 6→Int}(hc:COk c)(hb:Below w.heap.size w w1)(hs:ShAt w1 M R bs [])(hf:∀x∈shf M R bs,w.heap.size≤x)(hnd:(shf M R bs).Nodup):
  WiAt (w1.alloc (.cells #[.int .i64 (c 0),.int .i64 (c 1),.int .i64 (c 2),.int .i64 (c 3),.int .i64 (c 4),.int .i64 (c 5),.pointer (some ⟨M,0,none⟩),.int .i64 0,.int .i64 0] 137)) ⟨w1.heap.size,M,R,bs,c⟩ (limOf c) 0 0 []∧
  (∀x∈wfoot ⟨w1.heap.size,M,R,bs,c⟩ [],w.heap.size≤x)∧Below w.heap.size w (w1.alloc (.cells #[.int .i64 (c 0),.int .i64 (c 1),.int .i64 (c 2),.int .i64 (c 3),.int .i64 (c 4),.int .i64 (c 5),.pointer (some ⟨M,0,none⟩),.int .i64 0,.int .i64 0] 137)):=by
 have h1:=hc.s;have h2:=hc.t;have h3:=hc.b;have hz:=hb.size;refine⟨⟨Sits.new _ _ _,hs.keep (below_new _),by simp,?_,by simp only[limOf];omega,by simp only[limOf];omega,by simp only[limOf];omega⟩,fun x hx=>?_,hb.alloc hb.size _⟩
 ·simp only[wfoot,efoot,List.flatMap_nil,List.append_nil,List.nodup_cons];refine⟨fun hx=>?_,hnd⟩;have:=hs.lt _ hx;omega
 ·simp only[wfoot,efoot,List.flatMap_nil,List.append_nil,uD]at hx;rcases hx with rfl|hx
  ·exact hz
  ·exact hf x hx
theorem sh_nodup {w:World}{M R:Nat}{bs:List Nat}{ent:List (Bs×Nat)}(h:ShAt w M R bs ent):(shf M R bs).Nodup:=by
 simp only[shf,List.nodup_cons,uD,not_or];refine⟨⟨sits_ne h.head h.row (by decide),fun hm=>?_⟩,fun hm=>?_,h.nodup⟩
 ·obtain⟨i,hi⟩:=uO hm;exact map_sits (h.maps i M hi) h.head rfl
 ·obtain⟨i,hi⟩:=uO hm;exact map_sits (h.maps i R hi) h.row rfl
set_option maxRecDepth 10000 in
theorem newW (c:Fin 6→Int)(hc:COk c)(w:World):
  Calls Tryz.prog 88 #[cfg c] w fun e w'=>∃p:WI,e=.returned (.pointer (some ⟨p.P,0,none⟩))∧p.c=c∧WiAt w' p (limOf c) 0 0 []∧(∀x∈wfoot p [],w.heap.size≤x)∧Below w.heap.size w w':=by
 have hN:=Sits.new w 31 #[.int .i64 (c 0),.int .i64 (c 1),.int .i64 (c 2),.int .i64 (c 3),.int .i64 (c 4),.int .i64 (c 5)];have hB:=below_new (w:=w) (.cells #[.int .i64 (c 0),.int .i64 (c 1),.int .i64 (c 2),.int .i64 (c 3),.int .i64 (c 4),.int .i64 (c 5)] 31);have hn:=hc.n;obtain⟨n,hcn⟩:∃n:Nat,c 4=(n:Int):=⟨(c 4).toNat,by omega⟩;have HCN:=hide hcn;have hn1:1≤n:=by omega
 have hn2:n≤16:=by omega
 have HC:=hide hc;unfold cfg;go_enter Tryz.func88,Tryz.ntmps88
 clear hcn hn hc;go_wp2_with fail
 generalize w.alloc (.cells #[.int .i64 (c 0),.int .i64 (c 1),.int .i64 (c 2),.int .i64 (c 3),.int .i64 (c 4),.int .i64 (c 5)] 31)=w1 at *;obtain⟨B,hBe⟩:∃B,w.heap.size=B:=⟨_,rfl⟩;have HB:=hide hB;rw[hBe]at hN;rw[hBe];have HN:=hide hN;obtain⟨c0,c1,c2,c3,c4,c5⟩:=cells6 hN;have hnew:=Sh.new_ n hn1 hn2 w1.drew;rw[←HCN.out]at hnew;have HNE:=hide hnew;clear hB hN hBe hnew;go_region_with (go_at_call 140;refine HNE.out.mono ?_;rintro e w3 ⟨bs,rfl,hbl,hsh,hft,hb3⟩;have hN3:=HN.out.below (show Below w1.heap.size w1 w3 from((Below.refl w1.heap.size w1).drew).trans hb3) HN.out.lt;obtain⟨d0,d1,d2,d3,d4,d5⟩:=cells6 hN3)
 all_goals
  have HSH:=hide hsh;have HFT:=hide hft;have HB3:=hide hb3;clear hsh hft hb3;go_wp2_with fail
  go_ret
  have hb':Below w.heap.size w w3:=HB.out.trans ((show Below w1.heap.size w1 w3 from((Below.refl w1.heap.size w1).drew).trans HB3.out).mono HB.out.size);refine⟨⟨w3.heap.size,w1.heap.size+1,w1.heap.size,bs,c⟩,rfl,rfl,made_at HC.out hb' HSH.out (fun x hx=>?_) (sh_nodup HSH.out)⟩;have h1:=HFT.out x hx;have h2:=HB.out.size;have h3:w1.drew.heap.size=w1.heap.size:=rfl;omega
end Go.Proofs.YtenegfafjjknoaaGreatDoor.Wi
namespace Go.Proofs.YtenegfafjjknoaaGreatDoor.Kr
open Go.RowKit Go.Maps Mem Foot Im Wm Hk Hb Hi Hn Plainw Cq Hs Sh Readw Wi Go.Sort Go.Shelf
theorem sortsS (m:Nat):AnyZ.SortsIn Tryz.prog Tryz.sortedS_ren Fence.wide m:=
 ⟨fun blk off cap ss W hH hblk hsz=>callsIn_wide.2 (AnyM.slices_Sort_string Tryz.sortS blk off cap ss W hH hblk hsz),
  fun p cap W=>callsIn_wide.2 (AnyM.slices_Sort_string_none Tryz.sortS p cap W)⟩
theorem keys_words {α:Type}(f:α→Value)(l:List (Bs×α)):strKeys (mp sLit f l)=l.map (·.1):=by
 unfold mp;simp[strKeys,sLit,strOf,Function.comp_def]
theorem sorted_words {α:Type}{l:List (Bs×α)}(h:Up sLt l){ss:List Bs}(hp:ss.Perm (l.map (·.1))):ss.mergeSort (fun x y=>decide (x≤y))=l.map (·.1):=by
 refine List.Perm.eq_of_pairwise (le:=fun a b:Bs=>a≤b) (fun a b _ _ h1 h2=>List.le_antisymm h1 h2) ?_ ?_ ((List.mergeSort_perm _ _).trans hp)
 ·have:=List.pairwise_mergeSort (le:=fun x y:Bs=>decide (x≤y)) (fun a b c h1 h2=>by simp only[decide_eq_true_eq]at *;exact List.le_trans h1 h2) (fun a b=>by
   rcases List.le_total a b with h|h
   ·simp[h]
   ·simp[h]) ss
  exact this.imp fun {a b} h=>by simpa using h
 ·rw[List.pairwise_map];exact h.imp fun {a b} h=>by
   simp only[sLt,decide_eq_true_eq]at h;exact List.le_of_lt h
theorem keysC (mb:Option Nat)(W:World):Calls Tryz.prog 192 #[.map mb] W fun e w'=>e=.returned (.func (.func 255) #[] #[.pointer (some ⟨W.heap.size,0,none⟩)])∧w'=W.alloc (.cells #[.map mb] 198):=
 (callsIn_wide (n:=5)).1 (AnyZ.keys_in Tryz.keysS Fence.wide 5 trivial rfl mb W)
theorem sortedC (w:World)(b:Nat)(l:List (Bs×Nat))(h:Owns Tryz.prog 9 okP sLit pv w b l)(hup:Up sLt l)(hl:l.length≤1000):
  Calls Tryz.prog 191 #[.func (.func 255) #[] #[.pointer (some ⟨w.heap.size,0,none⟩)]] (w.alloc (.cells #[.map (some b)] 198)) fun e w'=>∃v:Value,e=.returned v∧w'.ownsRow w.heap.size 9 1 v l.length (l.map fun c=>.string ⟨c.1.toArray⟩)∧Below w.heap.size w w':=by
 have hown:w.ownsMap Tryz.prog 9 (exE okP) b l.length (mp sLit pv l):=h;have hbl:=hown.lt;have hmax:Maps.size (mp sLit pv l)≤maxLen:=by rw[mp_size];unfold maxLen;omega
 have hbytes:Maps.size (mp sLit pv l)*16≤140737488355328:=by rw[mp_size];omega
 have hseq:SeqGives Fence.wide 2 Tryz.prog 255 #[.pointer (some ⟨w.heap.size,0,none⟩)] encStr (fun ss=>ss.Perm (strKeys (mp sLit pv l))) (Maps.size (mp sLit pv l)) (w.alloc (.cells #[.map (some b)] 198)):=
  AnyZ.keys_gives (ρ:=Tryz.keysS_ren) {Tryz.keysS with} Fence.wide _ trivial rfl (by omega) w.heap.size b l.length (mp sLit pv l) _ (by simp) (by simp) (by
   obtain⟨es,clock,hb,Ft,hs,hD⟩:=hown;exact⟨es,clock,(Below.heap_alloc _ _ b hbl).trans hb,Ft,hs,hD⟩)
 have cS:=AnyZ.sorted_in Tryz.sortedS Fence.wide 5 trivial trivial trivial trivial rfl (by omega) (sortsS _) (enters_of Tryz.func179 (by kernel_rfl) rfl) 255 #[.pointer (some ⟨w.heap.size,0,none⟩)] trivial (enters_of Tryz.func255 (by kernel_rfl) rfl) _ _ hmax hbytes _ hseq
 change CallsIn _ _ Tryz.prog 191 _ _ _ at cS
 refine((callsIn_wide (n:=5)).1 cS).mono ?_;rintro e w' ⟨v,ss,rfl,hS,hrow,hnil,hb⟩;rw[keys_words]at hS;rw[sorted_words hup hS,hS.length_eq]at hrow;simp only[uJ,List.map_map]at hrow;exact⟨v,rfl,ownsRow_base_a hrow (by simp),((Below.refl _ w).alloc (uB _) _).trans (hb.mono (by simp))⟩
/-! ### Lists of keys -/
def Srow (w:World)(v:Value)(ks:List Bs):Prop:=
 ∃a cap,v=.slice a ks.length cap∧ks.length≤cap∧(ks≠[]→∃g off cs,a=some ⟨g,off,none⟩∧Sits w g 9 cs∧∀(j:Nat) x,ks[j]? = some x→cs[off+j]? = some (.string ⟨x.toArray⟩))
def Calm (o:Obj):Bool:=
 match o with
 | .cells _ t _=>t != 5&&t != 130
 | .map _ _=>true
 | _=>false
def Kp (W W':World):Prop:=W.heap.size≤W'.heap.size∧∀(k:Nat) (o:Obj),W.heap[k]? = some o→Calm o=true→W'.heap[k]? = some o
theorem Kp.trans {A B C:World}(h:Kp A B)(k:Kp B C):Kp A C:=⟨uN h.1 k.1,fun i o hi ho=>k.2 i o (h.2 i o hi ho) ho⟩
theorem Kp.of_below {A B:World}(h:Below A.heap.size A B):Kp A B:=⟨h.size,fun i _ hi _=>(h.block i (Array.getElem?_eq_some_iff.1 hi).1).trans hi⟩
theorem Kp.sits {A B:World}(h:Kp A B){b:Nat}{t:TypeId}{cs:Array Value}(hs:Sits A b t cs)(ht:(t != 5&&t != 130)=true):Sits B b t cs:=h.2 b _ hs ht
theorem Srow.kp {A B:World}{v:Value}{ks:List Bs}(h:Srow A v ks)(k:Kp A B):Srow B v ks:=by
 obtain⟨a,cap,e,hc,h⟩:=h;refine⟨a,cap,e,hc,fun hn=>?_⟩;obtain⟨g,off,cs,e1,e2,e3⟩:=h hn;exact⟨g,off,cs,e1,k.sits e2 (by decide),e3⟩
theorem Srow.set {w:World}{v u:Value}{ks:List Bs}{R i:Nat}{cs:Array Value}(h:Srow w v ks)(hR:Sits w R 36 cs):Srow (w.setCell ⟨R,i,none⟩ u) v ks:=by
 obtain⟨a,cap,e,hc,h⟩:=h;refine⟨a,cap,e,hc,fun hn=>?_⟩;obtain⟨g,off,cs,e1,e2,e3⟩:=h hn;have hne:g≠R:=sits_ne e2 hR (by decide);exact⟨g,off,cs,e1,(Below.heap_setCell _ _ _ _ hne).trans e2,e3⟩
theorem Srow.of_row {w:World}{base:Nat}{v:Value}{ks:List Bs}(h:w.ownsRow base 9 1 v ks.length (ks.map fun c=>.string ⟨c.toArray⟩)):Srow w v ks:=by
 rcases h.2 with ⟨e,h0⟩|⟨g,cap,cur,rfl,hb,hg,hn,_,_,ht⟩
 ·exact⟨none,0,by rw[e,h0],by omega,fun hn=>absurd (uG h0) hn⟩
 ·refine⟨_,cap,rfl,hn,fun _=>⟨g,0,cur,rfl,hg,fun j x hx=>?_⟩⟩;have h2:(ks.map fun c=>Value.string ⟨c.toArray⟩)[j]? = some (.string ⟨x.toArray⟩):=by simp[hx]
  rw[←ht,List.getElem?_take]at h2;split at h2
  ·simpa using h2
  ·cases h2
theorem Srow.tail {w:World}{a:Option Addr}{g off cap:Nat}{x:Bs}{ks:List Bs}(h:Srow w (.slice (some ⟨g,off,none⟩) (ks.length+1) cap) (x ::ks))(ha:ks≠[]→a=some ⟨g,off+1,none⟩):Srow w (.slice a ks.length (cap - 1)) ks:=by
 obtain⟨a',cap',e,hc,h⟩:=h;injection e with e1 e2 e3;subst e3;refine⟨a,cap - 1,rfl,by simp at hc;omega,fun hn=>?_⟩;obtain⟨g',off',cs,e4,e5,e6⟩:=h (by simp);rw[←e1]at e4;injection e4 with e4;injection e4 with e4 e7;subst e4;subst e7;refine⟨g,off+1,cs,ha hn,e5,fun j y hy=>?_⟩;have:=e6 (j+1) y (by simpa using hy);rwa [show off+1+j=off+(j+1) by omega]
def Rests (w:World)(R n:Nat)(r:List (Bs×Nat)):Prop:=
 ∃cs:Array Value,Sits w R 36 cs∧cs.size=n∧∀i,i<n→∃v,cs[i]? = some v∧Srow w v ((Sh.part n i r).map (·.1))
theorem Rests.kp {A B:World}{R n:Nat}{r:List (Bs×Nat)}(h:Rests A R n r)(k:Kp A B):Rests B R n r:=by
 obtain⟨cs,h1,h2,h3⟩:=h;exact⟨cs,k.sits h1 (by decide),h2,fun i hi=>by
  obtain⟨v,e1,e2⟩:=h3 i hi;exact⟨v,e1,e2.kp k⟩⟩
def leastOf (n:Nat):List (Bs×Nat)→Int
 | [] =>-1
 | x ::_=>idx n x.1
theorem part_cons (n i:Nat)(x:Bs×Nat)(r:List (Bs×Nat)):Sh.part n i (x ::r)=if idx n x.1=i then x ::Sh.part n i r else Sh.part n i r:=by
 unfold Sh.part;rw[List.filter_cons];simp
def Found (n:Nat)(r:List (Bs×Nat))(k:Nat)(at_:Int):Prop:=
 (at_ = -1∧∀i,i<k→Sh.part n i r=[])∨∃j:Nat,j<k∧at_=(j:Int)∧Sh.part n j r≠[]∧∀x t,r=x ::t→idx n x.1<k→j=idx n x.1
theorem Found.done {n:Nat}{r:List (Bs×Nat)}{a:Int}(h:Found n r n a)(hn:0<n):a=leastOf n r:=by
 cases r with
 | nil=>
  rcases h with ⟨h,_⟩|⟨j,_,_,h,_⟩
  ·exact h
  ·exact absurd rfl h
 | cons x t=>
  have hi:=idx_lt hn x.1;rcases h with ⟨_,h⟩|⟨j,_,e,_,h⟩
  ·have:=h _ hi;rw[part_cons,if_pos rfl]at this;cases this
  ·rw[e,h x t rfl hi];rfl
theorem Found.skip {n:Nat}{r:List (Bs×Nat)}{k:Nat}{a:Int}(h:Found n r k a)(hp:Sh.part n k r=[]):Found n r (k+1) a:=by
 rcases h with ⟨e,h⟩|⟨j,h1,h2,h3,h4⟩
 ·refine Or.inl ⟨e,fun i hi=>?_⟩;by_cases e:i=k
  ·rw[e];exact hp
  ·exact h i (by omega)
 ·refine Or.inr ⟨j,by omega,h2,h3,fun x t e hx=>?_⟩;by_cases e2:idx n x.1=k
  ·exfalso
   rw[e,←e2,part_cons,if_pos rfl]at hp;cases hp
  ·exact h4 x t e (by omega)
theorem Found.first {n:Nat}{r:List (Bs×Nat)}{k:Nat}(h:Found n r k (-1))(hp:Sh.part n k r≠[]):Found n r (k+1) (k:Int):=by
 rcases h with ⟨_,h⟩|⟨j,h1,h2,h3,h4⟩
 ·refine Or.inr ⟨k,by omega,rfl,hp,fun x t e hx=>?_⟩;by_cases e2:idx n x.1=k
  ·exact e2.symm
  ·have:=h _ (show idx n x.1<k by omega);rw[e,part_cons,if_pos rfl]at this;cases this
 ·omega
theorem part_head_le {n i:Nat}{x y:Bs×Nat}{t p:List (Bs×Nat)}(hu:Up sLt (x ::t))(h:Sh.part n i (x ::t)=y ::p):sLt y.1 x.1=false∧(idx n x.1≠i→sLt x.1 y.1=true)∧(idx n x.1=i→y=x):=by
 rw[part_cons]at h;by_cases e:idx n x.1=i
 ·rw[if_pos e]at h;injection h with h1 h2;subst h1;exact⟨sLt_irr _,fun h=>absurd e h,fun _=>rfl⟩
 ·rw[if_neg e]at h;have hy:y∈t:=by
   have:y∈Sh.part n i t:=by rw[h];exact uM ..
   exact(List.mem_filter.1 this).1
  have hlt:sLt x.1 y.1=true:=(uS.1 hu).1 y hy;refine⟨?_,fun _=>hlt,fun h=>absurd h e⟩;cases hc:sLt y.1 x.1 with
  | false=>rfl
  | true=>
   have:=sLt_trans _ _ _ hlt hc;rw[sLt_irr]at this;cases this
theorem Found.less {n:Nat}{r:List (Bs×Nat)}{k j:Nat}{y z:Bs×Nat}{p q:List (Bs×Nat)}(hu:Up sLt r)(h:Found n r k (j:Int))(hp:Sh.part n k r=y ::p)(hq:Sh.part n j r=z ::q)(hl:sLt y.1 z.1=true):Found n r (k+1) (k:Int):=by
 refine Or.inr ⟨k,by omega,rfl,by rw[hp];simp,fun x t e hx=>?_⟩;rcases h with ⟨h1,_⟩|⟨j',h1,h2,h3,h4⟩
 ·omega
 ·have hj:j'=j:=by omega
  subst hj;by_cases e2:idx n x.1=k
  ·exact e2.symm
  ·exfalso
   have h5:=h4 x t e (by omega);subst e;have h6:=(part_head_le hu hq).2.2 h5.symm;subst h6;have h7:=(part_head_le hu hp).1;rw[h7]at hl;cases hl
theorem Found.more {n:Nat}{r:List (Bs×Nat)}{k j:Nat}{y z:Bs×Nat}{p q:List (Bs×Nat)}(hu:Up sLt r)(h:Found n r k (j:Int))(hp:Sh.part n k r=y ::p)(hq:Sh.part n j r=z ::q)(hl:sLt y.1 z.1=false):Found n r (k+1) (j:Int):=by
 rcases h with ⟨h1,_⟩|⟨j',h1,h2,h3,h4⟩
 ·omega
 ·have hj:j'=j:=by omega
  subst hj;refine Or.inr ⟨j',by omega,rfl,h3,fun x t e hx=>?_⟩;by_cases e2:idx n x.1=k
  ·exfalso
   subst e;have h5:=(part_head_le hu hp).2.2 e2;subst h5;by_cases e3:idx n y.1=j'
   ·omega
   ·have:=(part_head_le hu hq).2.1 e3;rw[this]at hl;cases hl
  ·exact h4 x t e (by omega)
end Go.Proofs.YtenegfafjjknoaaGreatDoor.Kr
namespace Go.Proofs.YtenegfafjjknoaaGreatDoor.Kr
open Go.RowKit Go.Maps Mem Foot Im Wm Hk Hb Hi Hn Plainw Cq Hs Sh Readw Wi Go.Sort Go.Shelf
theorem Srow.head {w:World}{v:Value}{x:Bs}{ks:List Bs}(h:Srow w v (x ::ks)):∃g off cap,v=.slice (some ⟨g,off,none⟩) (ks.length+1) cap∧ks.length+1≤cap∧w.cell? ⟨g,off,none⟩=some (.string ⟨x.toArray⟩):=by
 obtain⟨a,cap,e,hc,h⟩:=h;obtain⟨g,off,cs,e4,e5,e6⟩:=h (by simp);subst e4;exact⟨g,off,cap,e,hc,e5.cell off _ (e6 0 x rfl)⟩
theorem Srow.nil_ {w:World}{v:Value}(h:Srow w v []):∃a cap,v=.slice a 0 cap:=by
 obtain⟨a,cap,e,_,_⟩:=h;exact⟨a,cap,e⟩
set_option maxRecDepth 10000 in
theorem leastHead (R n:Nat)(r:List (Bs×Nat))(w:World)(h:Rests w R n r)(hu:Up sLt r)(hn0:0<n)(hn:n≤16)(hr:r.length≤1000):
  Calls Tryz.prog 147 #[.slice (some ⟨R,0,none⟩) n n] w fun e w'=>e=.returned (.int .i64 (leastOf n r))∧Below w.heap.size w w':=by
 have HR:=hide h;have HU:=hide hu;clear h hu;go_enter Tryz.func147,Tryz.ntmps147
 go_wp2_with fail
 go_loopw [3,8] (fun a i wr=>∃(k:Nat) (at_:Int),a=.int .i64 at_∧i=.int .i64 (k:Int)∧k≤n∧Hid (Found n r k at_)∧Hid (Below w.heap.size w wr)) (fun _ i _=>n - (intOf i).toNat)
 case atStart=>exact⟨0,-1,rfl,rfl,by omega,Or.inl ⟨rfl,by omega⟩,Below.refl _ _⟩
 case round=>
  obtain⟨k,a,rfl,rfl,hk,HF,HB⟩:=hrel;by_cases hkn:k<n
  ·have hkz:(k:Int)<(n:Int):=by omega
   obtain⟨cs,h1,h2,h3⟩:=HR.out.kp (Kp.of_below HB.out);obtain⟨v,e1,e2⟩:=h3 k hkn;have ck:=h1.cell k _ e1;cases hp:Sh.part n k r with
   | nil=>
    rw[hp]at e2;obtain⟨a',cap,rfl⟩:=e2.nil_;have HP:=hide hp;have HS:=hide (And.intro h1 (And.intro h2 h3));clear hp e2 h1 h2 h3 e1;go_wp2_with fail
    go_quiet (fail)
    go_wp2_with fail
    exact⟨⟨k+1,a,rfl,by go_num,by omega,HF.out.skip HP.out,below_drewN' HB.out⟩,by simp only[intOf];omega⟩
   | cons y p=>
    rw[hp]at e2;simp only[uF]at e2;obtain⟨g,off,cap,rfl,hcap,cg⟩:=e2.head;have HP:=hide hp;rw[uJ]at ck hcap e2 e1;have hpl:p.length≤1000:=by
     have:(Sh.part n k r).length≤r.length:=uH _ _;rw[hp]at this;simp at this
     omega
    have hz1:(0:Int)<(p.length:Int)+1:=by omega
    have hz2:0<p.length+1:=by omega
    by_cases ha:a = -1
    ·subst ha;clear hp e2 h1 h2 h3 e1;go_wp2_with fail
     go_quiet (fail)
     go_wp2_with fail
     exact⟨⟨k+1,k,rfl,by go_num,by omega,HF.out.first (by rw[HP.out];simp),below_drewN' HB.out⟩,by simp only[intOf];omega⟩
    ·obtain⟨j,rfl,hjk,z,q,hq⟩:∃j:Nat,a=(j:Int)∧j<k∧∃z q,Sh.part n j r=z ::q:=by
      rcases HF.out with ⟨h,_⟩|⟨j,h1,h2,h3,_⟩
      ·exact absurd h ha
      ·obtain⟨z,q,hq⟩:=List.exists_cons_of_ne_nil h3;exact⟨j,h2,h1,z,q,hq⟩
     obtain⟨v',e1',e2'⟩:=h3 j (by omega);have cj:=h1.cell j _ e1';rw[hq]at e2';simp only[uF]at e2';obtain⟨g',off',cap',rfl,hcap',cg'⟩:=e2'.head;rw[uJ]at cj hcap' e2' e1';have HQ:=hide hq;have hjn:(j:Int)<(n:Int):=by omega
     have hj0:¬(j:Int)<0:=by omega
     have hql:q.length≤1000:=by
      have:(Sh.part n j r).length≤r.length:=uH _ _;rw[hq]at this;simp at this
      omega
     have hz3:0<q.length+1:=by omega
     have hz4:(0:Int)<(q.length:Int)+1:=by omega
     clear hp hq e2 e2' h1 h2 h3 e1 e1' ha;have HLS:=hide (bytesLess_eq y.1 z.1);go_wp2_with fail
     go_quiet (fail)
     all_goals go_wp2_with fail
     ·rename_i hc;have hl:sLt y.1 z.1=true:=by
       rw[sLt,←HLS.out];rcases hc with hc|hc
       ·omega
       ·exact hc
      exact⟨⟨k+1,k,rfl,by go_num,by omega,HF.out.less HU.out HP.out HQ.out hl,below_drewN' HB.out⟩,by simp only[intOf];omega⟩
     ·rename_i hc;have hl:sLt y.1 z.1=false:=by rw[sLt,←HLS.out];exact hc.2
      exact⟨⟨k+1,j,rfl,by go_num,by omega,HF.out.more HU.out HP.out HQ.out hl,below_drewN' HB.out⟩,by simp only[intOf];omega⟩
  ·have hkz:¬(k:Int)<(n:Int):=by omega
   have hk2:k=n:=by omega
   subst hk2;have HE:=hide (HF.out.done hn0);go_wp2_with fail
   go_ret
   rw[HE.out];exact⟨rfl,HB.out⟩
theorem infoKeys:(Tryz.prog.info? 36).map (fun i=>(i.zero,i.size,i.bytes))=some (some (.slice none 0 0),1,24):=by kernel_rfl
def Listing (w wr:World)(R n k:Nat)(ent:List (Bs×Nat)):Prop:=
 ∃cs:Array Value,Sits wr R 36 cs∧cs.size=n∧(∀i,i<k→∃v,cs[i]? = some v∧Srow wr v ((Sh.part n i ent).map (·.1)))∧Below w.heap.size w wr
set_option maxRecDepth 10000 in
theorem sortedKeys (M R:Nat)(bs:List Nat)(ent:List (Bs×Nat))(w:World)(h:ShAt w M R bs ent)(hu:Up sLt ent)(hl:ent.length≤1000):
  Calls Tryz.prog 146 #[.pointer (some ⟨M,0,none⟩)] w fun e w'=>e=.returned (.slice (some ⟨w.heap.size,0,none⟩) bs.length bs.length)∧Rests w' w.heap.size bs.length ent∧Below w.heap.size w w':=by
 have c0:=h.head.cell 0 _ rfl;have hm:=h.most;obtain⟨cs0,hcs0,hmk⟩:=made 195 36 _ 24 Tryz.underlying195 infoKeys bs.length (by omega) (by omega) w;have HL0:=hide (show Listing w (w.alloc (.cells cs0 36)) w.heap.size bs.length 0 ent from⟨cs0,Sits.new _ _ _,hcs0,by omega,below_new _⟩);have d0:=(h.head.alloc (.cells cs0 36)).cell 0 _ rfl;have HS:=hide h;have HU:=hide hu;clear h hu;go_enter Tryz.func146,Tryz.ntmps146
 go_wp2_with fail
 generalize w.alloc (.cells cs0 36)=w0 at *;clear hmk c0 d0;go_loopw [17] (fun i wr=>∃k:Nat,i=.int .i64 (k:Int)∧k≤bs.length∧Hid (Listing w wr w.heap.size bs.length k ent)) (fun i _=>bs.length - (intOf i).toNat)
 case atStart=>exact⟨0,rfl,by omega,HL0.out⟩
 case round=>
  obtain⟨k,rfl,hk,HI⟩:=hrel;by_cases hkn:k<bs.length
  ·have hkz:(k:Int)<(bs.length:Int):=by omega
   obtain⟨cs,hS,hsz,hbs,hB⟩:=HI.out;have HS1:=hide (HS.out.keep hB);obtain⟨b,hb⟩:∃b,bs[k]? = some b:=⟨_,uL hkn⟩;have ck:=HS1.out.cell hb;have HBB:=hide hb;have HS2:=hide hS;have HBS:=hide hbs;have HB:=hide hB;clear hb hS hbs hB;have HC:=hide (sortedC wr b _ (HS1.out.maps k b HBB.out) (HU.out.filter _) (uN (uH _ _) hl));go_wp2_with fail
   refine(keysC _ _).mono ?_;rintro e w3 ⟨rfl,rfl⟩;go_wp2_with fail
   refine HC.out.mono ?_;rintro e w3 ⟨v,rfl,hrow,hb3⟩;have HS3:=hide (HS2.out.below hb3 HS2.out.lt);have c3:=HS3.out.cell k (cs[k]'(by omega)) (by simp[hsz,hkn]);have f3:=HS3.out.frozen k;have HRW:=hide (Srow.of_row (ks:=(Sh.part bs.length k ent).map (·.1)) (by simpa[Function.comp_def] using hrow));obtain⟨a3,n3,cap3,rfl⟩:∃a3 n3 cap3,v=.slice a3 n3 cap3:=by
    obtain⟨a,cap,e,_⟩:=HRW.out;exact⟨_,_,_,e⟩
   have HB3:=hide hb3;clear hrow hb3 ck;go_wp2_with fail
   go_roundw
   case rel=>
    refine⟨k+1,by go_num,by omega,_,HS3.out.set k _,by simp[hsz],fun i hi=>?_,(HB.out.trans (HB3.out.mono HB.out.size)).setCell (p:=⟨w.heap.size,k,none⟩) (uB _) _⟩;by_cases e:i=k
    ·subst e;exact⟨_,by simp[hsz,hkn],HRW.out.set HS3.out⟩
    ·obtain⟨v,e1,e2⟩:=HBS.out i (by omega);refine⟨v,?_,(e2.kp (Kp.of_below HB3.out)).set HS3.out⟩;rw[Array.getElem?_setIfInBounds_ne (fun h=>e h.symm)];exact e1
   case measure=>simp only[intOf];omega
  ·have hkz:¬(k:Int)<(bs.length:Int):=by omega
   have hk2:k=bs.length:=by omega
   subst hk2;go_wp2_with fail
   go_ret
   obtain⟨cs,h1,h2,h3,h4⟩:=HI.out;exact⟨rfl,⟨cs,h1,h2,h3⟩,h4⟩
end Go.Proofs.YtenegfafjjknoaaGreatDoor.Kr
namespace Go.Proofs.YtenegfafjjknoaaGreatDoor.Kr
open Go.RowKit Go.Maps Mem Foot Im Wm Hk Hb Hi Hn Plainw Cq Hs Sh Readw Wi Go.Sort Go.Shelf
attribute [local go_sem] Oper.semAt_some
def slen:Value→Nat
 | .slice _ l _=>l
 | _=>0
def leftOver (w:World)(R:Nat):Nat:=
 match w.heap[R]? with
 | some (.cells cs _ _)=>(cs.toList.map slen).sum
 | _=>0
theorem leftOver_sits {w:World}{R:Nat}{t:TypeId}{cs:Array Value}(h:Sits w R t cs):leftOver w R=(cs.toList.map slen).sum:=by
 unfold leftOver;have h':w.heap[R]? = _:=h;rw[h']
theorem sum_set {l:List Value}{i:Nat}{v v':Value}(h:l[i]? = some v)(hv:slen v'+1=slen v):((l.set i v').map slen).sum+1=(l.map slen).sum:=by
 induction l generalizing i with
 | nil=>cases h
 | cons x r ih=>
  cases i with
  | zero=>
   simp only[List.getElem?_cons_zero,Option.some.injEq]at h;subst h;simp only[List.set_cons_zero,uF,List.sum_cons];omega
  | succ i=>
   simp only[List.getElem?_cons_succ]at h;have:=ih h;simp only[List.set_cons_succ,uF,List.sum_cons];omega
theorem part_tail {n i:Nat}{x:Bs×Nat}{r:List (Bs×Nat)}(h:idx n x.1=i):Sh.part n i (x ::r)=x ::Sh.part n i r:=by rw[part_cons,if_pos h]
theorem part_other {n i:Nat}{x:Bs×Nat}{r:List (Bs×Nat)}(h:idx n x.1≠i):Sh.part n i (x ::r)=Sh.part n i r:=by rw[part_cons,if_neg h]
theorem ShAt.kp {A B:World}{M R:Nat}{bs:List Nat}{ent:List (Bs×Nat)}(h:ShAt A M R bs ent)(k:Kp A B):ShAt B M R bs ent:=
 ⟨k.sits h.head (by decide),k.sits h.row (by decide),fun i b hb=>Owns.at (h.maps i b hb) (by
  obtain⟨es,clock,hb',_⟩:=h.maps i b hb;rw[hb',k.2 b _ hb' rfl]),h.nodup,h.pos,h.most⟩
theorem elem_at {x:Bs×Nat}{pre r:List (Bs×Nat)}(hu:Up sLt (pre++x ::r)):Im.elemOf pv (.pointer none) x.1 (pre++x ::r)=.pointer (some ⟨x.2,0,none⟩):=by
 unfold Im.elemOf;have:getE x.1 (pre++x ::r)=some x.2:=by
  induction pre with
  | nil=>exact getE_cons_eq rfl
  | cons y q ih=>
   have h2:=uS.1 hu;rw[uI,getE_cons_ne,ih h2.2];intro e;have:=h2.1 x (by simp);rw[e,sLt_irr]at this;cases this
 rw[this];rfl
theorem next_ {wr:World}{Rk n g off cap:Nat}{a:Option Addr}{x:Bs×Nat}{r:List (Bs×Nat)}{cs:Array Value}(h1:Sits wr Rk 36 cs)(h2:cs.size=n)(h3:∀i,i<n→∃v,cs[i]? = some v∧Srow wr v ((Sh.part n i (x ::r)).map (·.1)))(hi:idx n x.1<n)
  (e1:cs[idx n x.1]? = some (.slice (some ⟨g,off,none⟩) (((Sh.part n (idx n x.1) r).map (·.1)).length+1) cap)) (e2:Srow wr (.slice (some ⟨g,off,none⟩) (((Sh.part n (idx n x.1) r).map (·.1)).length+1) cap) (x.1 ::(Sh.part n (idx n x.1) r).map (·.1)))
  (ha:((Sh.part n (idx n x.1) r).map (·.1))≠[]→a=some ⟨g,off+1,none⟩):
  Rests (wr.setCell ⟨Rk,idx n x.1,none⟩ (.slice a ((Sh.part n (idx n x.1) r).map (·.1)).length (cap - 1))) Rk n r∧
  leftOver (wr.setCell ⟨Rk,idx n x.1,none⟩ (.slice a ((Sh.part n (idx n x.1) r).map (·.1)).length (cap - 1))) Rk+1=leftOver wr Rk:=by
 have hs:=h1.set (idx n x.1) (.slice a ((Sh.part n (idx n x.1) r).map (·.1)).length (cap - 1));refine⟨⟨_,hs,by simp[h2],fun j hj=>?_⟩,?_⟩
 ·by_cases e:idx n x.1=j
  ·subst e;exact⟨_,by simp[h2,hi],(e2.tail ha).set h1⟩
  ·obtain⟨v,k1,k2⟩:=h3 j hj;rw[part_other e]at k2;refine⟨v,?_,k2.set h1⟩;rw[Array.getElem?_setIfInBounds_ne e];exact k1
 ·rw[leftOver_sits hs,leftOver_sits h1,Array.toList_setIfInBounds];exact sum_set (v:=.slice (some ⟨g,off,none⟩) (((Sh.part n (idx n x.1) r).map (·.1)).length+1) cap) (by simpa using e1) rfl
theorem ShAt.setk {w:World}{M R Rk i:Nat}{bs:List Nat}{ent:List (Bs×Nat)}{cs:Array Value}(h:ShAt w M R bs ent)(hR:Sits w Rk 36 cs)(u:Value):ShAt (w.setCell ⟨Rk,i,none⟩ u) M R bs ent:=
 h.off (F:=[Rk]) ((Off.refl _ _).set (by simp) _ _) (fun y hy he=>by
  simp only[uK]at he;subst he;simp only[shf,uD]at hy;rcases hy with rfl|rfl|hy
  ·exact sits_ne h.head hR (by decide) rfl
  ·exact sits_ne h.row hR (by decide) rfl
  ·obtain⟨j,hj⟩:=uO hy;exact map_sits (h.maps j y hj) hR rfl)
theorem Sits.setk {w:World}{X t Rk i:Nat}{vs cs:Array Value}(h:Sits w X t vs)(hR:Sits w Rk 36 cs)(ht:t≠36)(u:Value):Sits (w.setCell ⟨Rk,i,none⟩ u) X t vs:=
 (Below.heap_setCell _ _ _ _ (sits_ne h hR ht)).trans h
theorem Kp.far {A B:World}(h:Kp A B){Rk i:Nat}{u:Value}(hR:A.heap.size≤Rk):Kp A (B.setCell ⟨Rk,i,none⟩ u):=
 ⟨by simpa using h.1,fun k o hk ho=>by
  have hlt:=(Array.getElem?_eq_some_iff.1 hk).1;exact(Below.heap_setCell B ⟨Rk,i,none⟩ u k (by simp;omega)).trans (h.2 k o hk ho)⟩
theorem leftOver_kp {A B:World}{R n:Nat}{r:List (Bs×Nat)}(h:Rests A R n r)(k:Kp A B):leftOver B R=leftOver A R:=by
 obtain⟨cs,h1,_⟩:=h;rw[leftOver_sits h1,leftOver_sits (k.sits h1 (by decide))]
structure Ready (W W3:World)(m l X M R n i:Nat)(x:Bs×Nat)(pre r:List (Bs×Nat))(Rk lo:Nat)(J:List (Bs×Nat)→World→Prop):Prop where
 x3:W3.cell? ⟨X,0,none⟩=some (.pointer (some ⟨M,0,none⟩))
 m3:W3.cell? ⟨M,0,none⟩=some (.slice (some ⟨R,0,none⟩) n n)
 l3:∃b,W3.cell? ⟨R,i,none⟩=some (.map (some b))∧∀W4:World,W4.heap[b]? = W3.heap[b]?→(Instr.lookup 198 (.map (some b)) (.string ⟨x.1.toArray⟩) false).run Tryz.prog W4=.ok (.pointer (some ⟨x.2,0,none⟩)) W4
 y3:YieldAt Fence.wide (m+4) Tryz.prog l #[.string ⟨x.1.toArray⟩,.pointer (some ⟨x.2,0,none⟩)] W3 fun e W'=>e=.returned (.bool true)∧J (pre++[x]) W'∧Kp W3 W'
 kp:Kp W W3
 rest:Rests W3 Rk n r
 left:leftOver W3 Rk+1=lo
set_option maxRecDepth 10000 in
theorem risingIt (m l X M R:Nat)(bs:List Nat)(ent:List (Bs×Nat))(J:List (Bs×Nat)→World→Prop)(W:World)
  (hX:Sits W X 135 #[.pointer (some ⟨M,0,none⟩)]) (h:ShAt W M R bs ent) (hu:Up sLt ent) (hl:ent.length≤1000) (hk:∀x∈ent,x.1.length≤1000)
  (hJ:∀s A B,J s A→Below A.heap.size A B→J s B)
  (hJR:∀s A Rk i u cs,J s A→W.heap.size≤Rk→Sits A Rk 36 cs→J s (A.setCell ⟨Rk,i,none⟩ u))
  (hY:∀pre x post W1,J pre W1→ent=pre++x ::post→YieldAt Fence.wide (m+4) Tryz.prog l #[.string ⟨x.1.toArray⟩,.pointer (some ⟨x.2,0,none⟩)] W1 fun e W'=>e=.returned (.bool true)∧J (pre++[x]) W'∧Kp W1 W')
  (h0:J [] W):
  CallsIn Fence.wide (m+5) Tryz.prog 145 #[.func (.yield l) #[] #[],.pointer (some ⟨X,0,none⟩)] W fun e W'=>(∃v,e=.returned v)∧J ent W':=by
 have hsk:=sortedKeys M R bs ent W h hu hl;have x0:W.cell? ⟨X,0,none⟩=some (.pointer (some ⟨M,0,none⟩)):=hX.cell 0 _ rfl;have hm:=h.most;have hp:=h.pos;have HX:=hide hX;have HS:=hide h;have HU:=hide hu;have HJ:=hide hJ;have HJR:=hide hJR;have HY:=hide hY;have H0:=hide h0;have HK:=hide hk;clear hX h hu hJ hJR hY h0 hk;refine callsIn_of_wp Tryz.func145 rfl trivial ?_ rfl;simp only[Tryz.ntmps145,List.size_toArray,uA,uE,Nat.reduceAdd,Nat.reduceSub,Array.replicate_succ,Array.replicate_zero,List.push_toArray,List.append_toArray,List.nil_append,uI];gi_wp2_with fail
 refine⟨trivial,(callsIn_wide.2 hsk).mono ?_⟩;clear hsk;rintro e W1 ⟨rfl,hr1,hb1⟩;have HLH:=hide (leastHead _ _ _ W1 hr1 HU.out hp hm hl);have HR1:=hide hr1;have HB1:=hide hb1;have HJ1:=hide (HJ.out _ _ _ H0.out hb1);clear hr1 hb1 x0;obtain⟨n,hn⟩:∃n,bs.length=n:=⟨_,rfl⟩;obtain⟨Rk,hRk⟩:∃Rk,W.heap.size=Rk:=⟨_,rfl⟩;rw[hn,hRk]at HLH HR1;rw[hn,hRk];rw[hn]at hp hm;have HN:=hide hn;have HRK:=hide hRk;obtain⟨a0,ha0⟩:∃a0,leastOf n ent=a0:=⟨_,rfl⟩;rw[ha0]at HLH;have HA0:=hide ha0;clear hn hRk ha0;gi_wp2_with fail
 refine⟨trivial,(callsIn_wide.2 HLH.out).mono ?_⟩;rintro e W2 ⟨rfl,hb2⟩;have HR2:=hide (HR1.out.kp (Kp.of_below hb2));have HJ2:=hide (HJ.out _ _ _ HJ1.out hb2);have HK2:=hide ((Kp.of_below HB1.out).trans (Kp.of_below hb2));clear hb2;gi_wp2_with fail
 gi_loopw [4] (fun a wr=>∃pre r,a=.int .i64 (leastOf n r)∧Hid (ent=pre++r)∧Hid (Rests wr Rk n r)∧Hid (J pre wr)∧Hid (Kp W wr)) (fun _ wr=>leftOver wr Rk)
 case atStart=>exact⟨[],ent,by rw[HA0.out],rfl,HR2.out,HJ2.out,HK2.out⟩
 case round=>
  obtain⟨pre,r,rfl,HE,HR,HJ3,HK3⟩:=hrel;cases r with
  | nil=>
   simp only[leastOf];have HE2:=hide (show ent=pre by rw[HE.out];simp);gi_wp2_with fail
   go_end0
   rw[HE2.out];exact⟨⟨_,rfl⟩,HJ3.out⟩
  | cons x r=>
   simp only[leastOf];have hi:=idx_lt hp x.1;obtain⟨cs,h1,h2,h3⟩:=HR.out;obtain⟨v,e1,e2⟩:=h3 _ hi;have HP:=hide (part_tail (n:=n) (x:=x) (r:=r) rfl);rw[HP.out]at e2;simp only[uF]at e2;obtain⟨g,off,cap,rfl,hcap,cg⟩:=e2.head;have ci:=h1.cell _ _ e1;have fi:=h1.frozen (idx n x.1);have hnl:((Sh.part n (idx n x.1) r).map (·.1)).length≤1000:=by
    rw[uJ];have a1:(Sh.part n (idx n x.1) r).length≤r.length:=uH _ _;have a2:r.length≤ent.length:=by
     rw[HE.out];simp
     omega
    omega
   have hrd:∀a,(((Sh.part n (idx n x.1) r).map (·.1))≠[]→a=some ⟨g,off+1,none⟩)→Ready W (wr.setCell ⟨Rk,idx n x.1,none⟩ (.slice a ((Sh.part n (idx n x.1) r).map (·.1)).length (cap - 1))) m l X M R n (idx n x.1) x pre r Rk (leftOver wr Rk) J:=by
    intro a ha;obtain⟨k1,k2⟩:=next_ h1 h2 h3 hi e1 e2 ha;have k3:=ShAt.setk (i:=idx n x.1) (ShAt.kp HS.out HK3.out) h1 (.slice a ((Sh.part n (idx n x.1) r).map (·.1)).length (cap - 1));have k4:=Sits.setk (i:=idx n x.1) (HK3.out.sits HX.out (by decide)) h1 (by decide) (.slice a ((Sh.part n (idx n x.1) r).map (·.1)).length (cap - 1));have k5:=HJR.out pre wr Rk (idx n x.1) (.slice a ((Sh.part n (idx n x.1) r).map (·.1)).length (cap - 1)) cs HJ3.out (by rw[HRK.out];exact uB _) h1;have k6:=HY.out pre x r _ k5 HE.out;obtain⟨b,hb⟩:∃b,bs[idx n x.1]? = some b:=⟨_,uL (by rw[HN.out];exact hi)⟩;have hkey:keyOf Tryz.prog 9 (.string ⟨x.1.toArray⟩)=some (sLit x.1):=Go.WideMaps.keyOf_string_mk (s:=⟨x.1.toArray⟩) Tryz.underlying9 (by
     have:=HK.out x (by rw[HE.out];simp);unfold maxLen;show x.1.toArray.size≤_;simp
     omega)
    have hlk:=look_run (k3.maps _ b hb) (string_keyed Tryz.underlying9) Tryz.underlying198 zeroP rfl sLit_same hkey;have he:Im.elemOf pv (.pointer none) x.1 (Sh.part bs.length (idx n x.1) ent)=.pointer (some ⟨x.2,0,none⟩):=by
     have e3:Im.elemOf pv (.pointer none) x.1 (Sh.part bs.length (idx n x.1) ent)=Im.elemOf pv (.pointer none) x.1 ent:=by
      unfold Im.elemOf;rw[HN.out,getE_part]
     rw[e3,HE.out];exact elem_at (by rw[←HE.out];exact HU.out)
    rw[he]at hlk;exact⟨k4.cell 0 _ rfl,by have:=k3.head.cell 0 _ rfl;rw[HN.out]at this;exact this,⟨b,k3.cell hb,hlk⟩,k6,Kp.far HK3.out (by rw[HRK.out];exact uB _),k1,k2⟩
   have hin:((idx n x.1:Nat):Int)<(n:Int):=by omega
   have hi0:¬((idx n x.1:Nat):Int)<0:=by omega
   have hkc:cap=1→((Sh.part n (idx n x.1) r).map (·.1))=[]:=fun h=>uG (by omega)
   have HKC:=hide hkc;have HRD:=hide hrd;clear e1 e2 h1 h2 h3 hrd hkc;generalize hks:(Sh.part n (idx n x.1) r).map (·.1)=ks at *;generalize hix:idx n x.1=i at *;clear hks hix;have HUR:=hide (show Up sLt r from(uS.1 (List.pairwise_append.1 (show Up sLt (pre++x ::r) by rw[←HE.out];exact HU.out)).2.1).2);have hrl:r.length≤1000:=by
    have a2:r.length≤ent.length:=by
     rw[HE.out];simp
     omega
    omega
   by_cases hc1:cap=1
   ·subst hc1;have hks0:=HKC.out rfl;subst hks0;obtain⟨x3,m3,⟨b,l3,lk⟩,y3,kW,HR3,hleft⟩:=HRD.out (some ⟨g,off,none⟩) (fun h=>absurd rfl h);simp only[Nat.sub_self,uE]at x3 m3 l3 lk y3 HR3 hleft kW;have hlk:=lk _ rfl;obtain⟨fn,tmps,assign,body,hy,hRd⟩:=y3;have HRD3:=hide hRd;have HR4:=hide HR3;have HLF:=hide hleft;have HKW:=hide kW;clear hRd HR3 hleft lk kW;gi_wp2_with fail
    refine HRD3.out.mono ?_;rintro e W5 ⟨rfl,hJ5,hk5⟩;have HR5:=hide (HR4.out.kp hk5);have HLF5:=hide (show leftOver W5 Rk+1=leftOver wr Rk by rw[leftOver_kp HR4.out hk5];exact HLF.out);have HKW5:=hide (HKW.out.trans hk5);have HJ5:=hide hJ5;have hlh:=leastHead _ _ _ W5 HR5.out HUR.out hp hm hrl;clear hJ5 hk5 x3 m3 l3 hy hlk ci fi cg;gi_wp2_with fail
    refine⟨trivial,(callsIn_wide.2 hlh).mono ?_⟩;clear hlh;rintro e W6 ⟨rfl,hb6⟩;have HR6:=hide (HR5.out.kp (Kp.of_below hb6));have HJ6:=hide (HJ.out _ _ _ HJ5.out hb6);have HK6:=hide (HKW5.out.trans (Kp.of_below hb6));have HL6:=hide (show leftOver W6 Rk+1=leftOver wr Rk by rw[leftOver_kp HR5.out (Kp.of_below hb6)];exact HLF5.out);obtain⟨a6,ha6⟩:∃a6,leastOf n r=a6:=⟨_,rfl⟩;rw[ha6];have HA6:=hide ha6;clear hb6 ha6;gi_wp2_with fail
    go_roundw
    case rel=>exact⟨pre++[x],r,congrArg (Value.int IntKind.i64) HA6.out.symm,by simp[HE.out,Hid],HR6.out,HJ6.out,HK6.out⟩
    case measure=>
     have:=HL6.out;omega
   ·obtain⟨x3,m3,⟨b,l3,lk⟩,y3,kW,HR3,hleft⟩:=HRD.out (some ⟨g,off+1,none⟩) (fun _=>rfl);have hlk:=lk _ rfl;obtain⟨fn,tmps,assign,body,hy,hRd⟩:=y3;have HRD3:=hide hRd;have HR4:=hide HR3;have HLF:=hide hleft;have HKW:=hide kW;clear hRd HR3 hleft lk kW;gi_wp2_with fail
    refine HRD3.out.mono ?_;rintro e W5 ⟨rfl,hJ5,hk5⟩;have HR5:=hide (HR4.out.kp hk5);have HLF5:=hide (show leftOver W5 Rk+1=leftOver wr Rk by rw[leftOver_kp HR4.out hk5];exact HLF.out);have HKW5:=hide (HKW.out.trans hk5);have HJ5:=hide hJ5;have hlh:=leastHead _ _ _ W5 HR5.out HUR.out hp hm hrl;clear hJ5 hk5 x3 m3 l3 hy hlk ci fi cg;gi_wp2_with fail
    refine⟨trivial,(callsIn_wide.2 hlh).mono ?_⟩;clear hlh;rintro e W6 ⟨rfl,hb6⟩;have HR6:=hide (HR5.out.kp (Kp.of_below hb6));have HJ6:=hide (HJ.out _ _ _ HJ5.out hb6);have HK6:=hide (HKW5.out.trans (Kp.of_below hb6));have HL6:=hide (show leftOver W6 Rk+1=leftOver wr Rk by rw[leftOver_kp HR5.out (Kp.of_below hb6)];exact HLF5.out);obtain⟨a6,ha6⟩:∃a6,leastOf n r=a6:=⟨_,rfl⟩;rw[ha6];have HA6:=hide ha6;clear hb6 ha6;gi_wp2_with fail
    go_roundw
    case rel=>exact⟨pre++[x],r,congrArg (Value.int IntKind.i64) HA6.out.symm,by simp[HE.out,Hid],HR6.out,HJ6.out,HK6.out⟩
    case measure=>
     have:=HL6.out;omega
end Go.Proofs.YtenegfafjjknoaaGreatDoor.Kr
namespace Go.Proofs.YtenegfafjjknoaaGreatDoor.Wm
open Im Opts
def Live (w:Win):Prop:=∀p∈w.ser,∀t,p.2=Ser.tim t→1≤t.count
theorem live_stake {L:Lim}{m:Smp}{s:Ser}(hr:1≤m.rate∧m.rate≤1000)(h:∀t,s=.tim t→0≤t.count):∀t,(stake L m s).1=.tim t→1≤t.count:=by
 intro t ht;cases s with
 | num n=>simp[stake]at ht
 | set ws=>
  simp only[stake]at ht;split at ht
  ·cases ht
  ·split at ht<;>cases ht
 | tim u=>
  simp only[stake]at ht;injection ht with ht;subst ht;have h1:=h u rfl;have h2:1≤1000 / m.rate:=by
   rw[Int.le_ediv_iff_mul_le (by omega)];omega
  simp only[tadd,bnd,top];omega
theorem live_take {L:Lim}{m:Smp}{w:Win}(hr:1≤m.rate∧m.rate≤1000)(h:Live w):Live (wtake L w m):=by
 intro p hp t ht;unfold wtake at hp;split at hp
 ·rename_i s hs;rcases mem_put hp with e|⟨e,_⟩
  ·subst e;refine live_stake hr (fun u hu=>?_) t ht;have:=h _ (getE_mem hs) u hu;omega
  ·exact h p e t ht
 ·split at hp
  ·exact h p hp t ht
  ·rcases mem_put hp with e|⟨e,_⟩
   ·subst e;refine live_stake hr (fun u hu=>?_) t ht;unfold ser0 at hu;split at hu
    ·cases hu
    ·split at hu
     ·injection hu with hu;subst hu;exact Int.le_refl _
     ·cases hu
   ·exact h p e t ht
theorem live_line {L:Lim}{w:Win}(l:Bs)(h:Live w):Live (wline L w l):=by
 unfold wline;split
 ·exact h
 ·split
  ·exact h
  ·rename_i m hm;exact live_take (Bounds.rd_short hm).2.2.2.2.1 h
theorem live_lines {L:Lim}(ls:List Bs){w:Win}(h:Live w):Live (ls.foldl (wline L) w):=by
 induction ls generalizing w with
 | nil=>exact h
 | cons l r ih=>exact ih (live_line l h)
theorem live_gram {L:Lim}{w:Win}(d:Bs)(h:Live w):Live (wgram L w d):=live_lines _ h
theorem live_grams {L:Lim}(ds:List Bs){w:Win}(h:Live w):Live (ds.foldl (wgram L) w):=by
 induction ds generalizing w with
 | nil=>exact h
 | cons l r ih=>exact ih (live_gram l h)
theorem live0:Live win0:=by
 intro p hp;simp[win0]at hp
theorem join_len32 (m:Nat)(ls:List Bs)(h:∀x∈ls,x.length≤m):(Lib.join ls [32]).length≤(m+1)*ls.length:=by
 induction ls with
 | nil=>simp[Lib.join]
 | cons x l ih=>
  have hx:=h x (uM ..);have hi:=ih fun y hy=>h y (uP _ hy)
  cases l with
  | nil=>
   simp[Lib.join]
   omega
  | cons y l=>
   have e:Lib.join (x ::y ::l) [32]=x++[32]++Lib.join (y ::l) [32]:=by
    simp[Lib.join,List.intercalate,List.intersperse]
   rw[e,uC,uC];simp only[uA,uE]at hi ⊢;rw[Nat.mul_add];omega
theorem stext_len {L:Lim}{n:Nat}{k:Bs}{s:Ser}(h:SFit L n k s)(hs:L.sets≤1000):(stext s).length≤200:=by
 cases s with
 | num x=>
  have h1:-top≤x∧x≤top:=h.ok;simp only[top]at h1;have:=Hi.itoa_len (n:=x) (by omega) (by omega);simp only[stext];omega
 | set ws=>
  have h1:ws.length≤L.sets:=h.ok.2;have:=Hi.itoa_len (n:=(ws.length:Int)) (by omega) (by omega);simp only[stext];omega
 | tim t=>
  have hf:TFit L n t:=h.ok;have hr:∀x∈tnums t,-9223372036854775808≤x∧x≤9223372036854775807:=by
   intro x hx;have q1:=hf.count;have q2:=hf.sum;have q3:=hf.least;have q4:=hf.greatest;have q5:=Hi.quant_range hf 50;have q6:=Hi.quant_range hf 90;have q7:=Hi.quant_range hf 99;simp only[top]at q1 q2;simp only[tnums,uD,List.not_mem_nil,or_false]at hx;rcases hx with rfl|rfl|rfl|rfl|rfl|rfl|rfl|rfl
   ·omega
   ·omega
   ·omega
   ·omega
   ·omega
   ·omega
   ·omega
   ·split<;>omega
  have:=join_len32 20 ((tnums t).map Lib.itoa) (fun x hx=>by
   obtain⟨y,hy,rfl⟩:=uT.1 hx;exact Hi.itoa_len (hr y hy).1 (hr y hy).2)
  simp only[stext];refine uN this ?_;simp[tnums]
end Go.Proofs.YtenegfafjjknoaaGreatDoor.Wm
namespace Go.Proofs.YtenegfafjjknoaaGreatDoor.Kr
open Go.RowKit Go.Maps Mem Foot Im Wm Hk Hb Hi Hn Plainw Cq Hs Sh Readw Wi Go.Sort Go.Shelf
def Quiet (o:Obj):Bool:=
 match o with
 | .cells _ t _=>t != 5&&t != 130
 | _=>true
def Keep (W W':World):Prop:=W.heap.size≤W'.heap.size∧∀(k:Nat) (o:Obj),W.heap[k]? = some o→Quiet o=true→W'.heap[k]? = some o
theorem quiet_of_calm {o:Obj}(h:Calm o=true):Quiet o=true:=by
 cases o<;>first|rfl|exact h
theorem Keep.kp {A B:World}(h:Keep A B):Kp A B:=⟨h.1,fun k o hk ho=>h.2 k o hk (quiet_of_calm ho)⟩
theorem Keep.of_below {A B:World}(h:Below A.heap.size A B):Keep A B:=⟨h.size,fun i _ hi _=>(h.block i (Array.getElem?_eq_some_iff.1 hi).1).trans hi⟩
theorem Keep.trans {A B C:World}(h:Keep A B)(k:Keep B C):Keep A C:=⟨uN h.1 k.1,fun i o hi ho=>k.2 i o (h.2 i o hi ho) ho⟩
theorem keep_of_off {B b:Nat}{v:Value}{bs:Bs}{A C:World}(hb:BuAt A B b v bs)(h:Off (bfoot b v) A C):Keep A C:=
 ⟨h.size,fun k o hk ho=>(h.block k (Array.getElem?_eq_some_iff.1 hk).1 (fun hm=>by
  rcases uD.1 hm with e|e
  ·subst e;rcases hb.head with h1|h1
   all_goals
    have h1':A.heap[k]? = _:=h1;rw[h1']at hk;cases hk
    cases ho
  ·obtain⟨cs',h1⟩:=sits_row hb.row e;have h1':A.heap[k]? = _:=h1;rw[h1']at hk;cases hk
   cases ho)).trans hk⟩
theorem kp_putObj {W:World}{l:Nat}{o o':Obj}(h:W.heap[l]? = some o)(ho:Calm o=false):Kp W (W.putObj l o'):=
 ⟨by simp[World.putObj],fun k o2 hk h2=>by
  by_cases e:k=l
  ·subst e;rw[h]at hk;cases hk
   rw[ho]at h2;cases h2
  ·exact(World.putObj_heap_other e).trans hk⟩
theorem range_ {g:Operand}{ps:Array Tmp}{assign body:Code}{Q:Exit→Act→World→Prop}{a:Act}{w:World}(m X M R:Nat)(bs:List Nat)(ent:List (Bs×Nat))
  (hg:a.eval g=.func (.func 145) #[] #[.pointer (some ⟨X,0,none⟩)]) (hps:ps.size=2)
  (hX:Sits w X 135 #[.pointer (some ⟨M,0,none⟩)]) (h:ShAt w M R bs ent) (hu:Up sLt ent) (hl:ent.length≤1000) (hk:∀x∈ent,x.1.length≤1000)
  (I:List (Bs×Nat)→World→Prop) (hI1:∀s A B,I s A→Below A.heap.size A B→I s B) (hI2:∀s A Rk i u cs,I s A→w.heap.size≤Rk→Sits A Rk 36 cs→I s (A.setCell ⟨Rk,i,none⟩ u))
  (hI3:∀s A l o o',I s A→w.heap.size≤l→A.heap[l]? = some o→o.isCells=false→I s (A.putObj l o')) (h0:I [] w) (a₁:Bs×Nat→Act)
  (hassign:∀(l:Nat) (x:Bs×Nat) (W:World) (K:Act→World→Prop),K (a₁ x) W→
   assign.wpIn (Fence.wide.inRound l) (m+4) Tryz.prog (Exit.then K (fun _ _ _=>False)) {tmps:=(ps.zip #[.string ⟨x.1.toArray⟩,.pointer (some ⟨x.2,0,none⟩)]).foldl (fun t (p,v)=>t.setIfInBounds p v) a.tmps,defers:=[]} W)
  (hbody:∀(l:Nat) (pre:List (Bs×Nat)) (x:Bs×Nat) (post:List (Bs×Nat)) (W:World),I pre W→ent=pre++x ::post→body.wpIn (Fence.wide.inRound l) (m+4) Tryz.prog (fun e _ W'=>e=.normal∧Keep W W'∧I (pre++[x]) W') (a₁ x) W)
  (hdone:∀(D:Nat) (W:World),w.heap.size≤D→I ent W→W.heap[D]? = some (.deferred (some []))→Q .normal {a with defers:={target:=.collected D,args:=#[]} ::a.defers} W):
  (Code.rangeFunc g ps assign body).wpIn Fence.wide (m+6) Tryz.prog Q a w:=by
 refine wpIn_rangeFunc ?_;intro fn hfn;obtain⟨rec,hrec⟩:∃rec:LoopState→Option Code→Loop,rec=fun st pe=>{state:=st,pending:=pe,fn,tmps:=a.tmps,params:=ps,assign,body,defers:=w.heap.size}:=⟨_,rfl⟩
 obtain⟨W1,hW1⟩:∃W1,(w.alloc (.deferred (some []))).alloc (.loop (rec .ready none))=W1:=⟨_,rfl⟩;have hL1:W1.heap[w.heap.size+1]? = some (.loop (rec .ready none)):=by
  rw[←hW1];have:=World.alloc_heap_new (w.alloc (.deferred (some []))) (.loop (rec .ready none));rwa [World.size_alloc]at this
 have hK1:W1.heap[w.heap.size]? = some (.deferred (some [])):=by
  rw[←hW1];exact(Below.heap_alloc _ _ _ (by simp)).trans (World.alloc_heap_new w _)
 have hb1:Below w.heap.size w W1:=by
  rw[←hW1];exact((Below.refl _ w).alloc (uB _) _).alloc (by simp) _
 have hI1':I [] W1:=hI1 _ _ _ h0 hb1;have hz1:W1.heap.size=w.heap.size+2:=by rw[←hW1];simp
 refine⟨w.heap.size+1,[{target:=.collected w.heap.size,args:=#[]}],W1,{target:=.fn (.func 145) #[.pointer (some ⟨X,0,none⟩)],args:=#[.func (.yield (w.heap.size+1)) #[] #[]]},W1,145,
  #[.func (.yield (w.heap.size+1)) #[] #[]]++#[.pointer (some ⟨X,0,none⟩)],W1,?_,?_,?_,?_,fun _=>by omega,?_⟩
 ·rw[←hW1,hrec];exact run_enterLoop_outer _ _ _ _ _
 ·simp only[resolve,hg];simp[go_sem]
 ·intro f' hf'
  trivial
 ·simp[invoke,go_sem]
 ·refine(risingIt m (w.heap.size+1) X M R bs ent
   (fun pre W=>I pre W∧W.heap[w.heap.size+1]? = some (.loop (rec .ready none))∧W.heap[w.heap.size]? = some (.deferred (some [])))
   W1 (hX.below hb1 hX.lt) (h.keep hb1) hu hl hk ?_ ?_ ?_ ⟨hI1',hL1,hK1⟩).mono ?_
  ·rintro s A B ⟨i1,i2,i3⟩ hb;exact⟨hI1 _ _ _ i1 hb,(hb.block _ (Array.getElem?_eq_some_iff.1 i2).1).trans i2,(hb.block _ (Array.getElem?_eq_some_iff.1 i3).1).trans i3⟩
  ·rintro s A Rk i u cs ⟨i1,i2,i3⟩ hR hs;refine⟨hI2 _ _ _ _ _ _ i1 (by omega) hs,?_,?_⟩
   ·exact(Below.heap_setCell A ⟨Rk,i,none⟩ u _ (by simp;omega)).trans i2
   ·exact(Below.heap_setCell A ⟨Rk,i,none⟩ u _ (by simp;omega)).trans i3
  ·rintro pre x post W ⟨hi,hl,hk⟩ he;have hlt:w.heap.size+1<W.heap.size:=(Array.getElem?_eq_some_iff.1 hl).1;have hy:=run_yield (P:=Tryz.prog) (args:=#[.string ⟨x.1.toArray⟩,.pointer (some ⟨x.2,0,none⟩)]) hl (by rw[hrec];simp[hps]);rw[hrec]at hy;refine⟨fn,_,assign,body,hy,roundIn_of_wpIn hfn (hassign _ x W _ ⟨_,run_beginRound hl (by rw[hrec]),?_⟩)⟩;have hl2:(W.putObj (w.heap.size+1) (.loop {rec .ready none with state:=.busy})).heap[w.heap.size+1]? = some (.loop {rec .ready none with state:=.busy}):=World.putObj_heap_same hlt;have hk2:(W.putObj (w.heap.size+1) (.loop {rec .ready none with state:=.busy})).heap[w.heap.size]? = some (.deferred (some [])):=(World.putObj_heap_other (by omega)).trans hk;have hp2:Kp W (W.putObj (w.heap.size+1) (.loop {rec .ready none with state:=.busy})):=kp_putObj hl rfl;refine wpIn_mono (hbody _ pre x post _ (hI3 _ _ _ _ _ hi (by omega) hl rfl) he) ?_;rintro e a3 W3 ⟨rfl,hk3,hi3⟩;have hl3:=hk3.2 _ _ hl2 rfl;have hr:=run_endRound (P:=Tryz.prog) none hl3;rw[hrec]at hr;refine⟨_,_,hr,rfl,⟨hI3 _ _ _ _ _ hi3 (by omega) hl3 rfl,?_,(World.putObj_heap_other (by omega)).trans (hk3.2 _ _ hk2 rfl)⟩,(hp2.trans hk3.kp).trans (kp_putObj hl3 rfl)⟩;rw[World.putObj_heap_same (Array.getElem?_eq_some_iff.1 hl3).1,hrec];rfl
  ·rintro e W2 ⟨⟨v,rfl⟩,hi,hl,hk⟩;exact⟨none,_,by have:=run_endLoop (P:=Tryz.prog) hl (by rw[hrec];simp);rw[hrec]at this;exact this,hdone _ _ (uB _) (hI3 _ _ _ _ _ hi (by omega) hl rfl) ((World.putObj_heap_other (by omega)).trans hk)⟩
end Go.Proofs.YtenegfafjjknoaaGreatDoor.Kr
namespace Go.Proofs.YtenegfafjjknoaaGreatDoor.Kr
open Go.RowKit Go.Maps Mem Foot Im Wm Hk Hb Hi Hn Plainw Cq Hs Sh Readw Wi Go.Sort Go.Shelf
theorem off_freeze {F:List Nat}{w w':World}(h:Off F w w'){p:Addr}(hp:p.block∈F)(n:Nat):Off F w (w'.freeze p n):=by
 have hs:(w'.freeze p n).heap.size=w'.heap.size:=by
  unfold World.freeze;split<;>simp
 refine⟨?_,?_,?_,by rw[hs];exact h.size,fun k hk hF=>?_⟩
 ·rw[←h.os];unfold World.freeze;split<;>rfl
 ·rw[←h.tape];unfold World.freeze;split<;>rfl
 ·rw[←h.output];unfold World.freeze;split<;>rfl
 ·rw[←h.block k hk hF];have hne:k≠p.block:=fun e=>hF (e▸hp)
  unfold World.freeze;split
  ·rfl
  ·simp only[Array.getElem?_modify];rw[if_neg (by omega)]
set_option maxRecDepth 100000 in
theorem stringOff (B b:Nat)(v:Value)(l:Bs)(w:World)(h:BuAt w B b v l)(h0:l≠[]):
  Calls Tryz.prog 94 #[.pointer (some ⟨b,0,none⟩)] w fun e w'=>e=.returned (.string ⟨l.toArray⟩)∧Off (bfoot b v) w w':=by
 have hl0:l.length≠0:=by simpa using h0
 obtain⟨g,cap,cur,rfl,hbg,hg,hnc,hcm,hcs,htake⟩:∃g cap cur,v=.slice (some ⟨g,0,none⟩) l.length cap∧B≤g∧w.heap[g]? = some (.cells cur 5 (0,0))∧l.length≤cap∧cap≤maxLen∧cur.size=cap*1∧cur.toList.take (l.length*1)=Lib.byteCells l:=by
  rcases h.row.2 with ⟨_,hz⟩|⟨g,cap,cur,hv,r⟩
  ·exact absurd hz hl0
  ·exact⟨g,cap,cur,hv,r⟩
 have c1:w.drew.cell? ⟨b,1,none⟩=some (.slice (some ⟨g,0,none⟩) l.length cap):=by
  rcases h.head with h1|h1<;>exact(show Sits w.drew b _ _ from h1).cell 1 _ rfl
 have hown:=h.row;have hSD:(Builtin.unsafeSliceData_ #[97] 206 #[.slice (some ⟨g,0,none⟩) l.length cap]).run Tryz.prog w.drew=.ok (.pointer (some ⟨g,0,none⟩)) w.drew:=
  Lib.run_unsafeSliceData_row _ _ _ _ _ _ (by omega)
 have hUS:(Builtin.unsafeString_ #[206,3] 9 #[.pointer (some ⟨g,0,none⟩),.int .i64 l.length]).run Tryz.prog w.drew=.ok (.string ⟨l.toArray⟩) (w.drew.freeze ⟨g,0,none⟩ l.length):=by
  refine Lib.run_unsafeString_row w.drew 206 3 9 5 Tryz.underlying206 Tryz.Builder_Extra_169.cellsByte g cur.size (by have hg':w.drew.heap[g]? = some (.cells cur 5 (0,0)):=hg;simp[World.shape?,hg']) l h0 (by omega) (by unfold maxLen at hcm;omega) ?_;intro j x hx;have:=hown.cells (g:=g) rfl j (.int .u8 x.toNat) (by simp[Lib.byteCells,hx]);exact this
 have HG:=hide (show g∈bfoot b (.slice (some ⟨g,0,none⟩) l.length cap) by simp[bfoot,Value.ownBlock]);clear htake hg hown h;go_enter Tryz.func94,Tryz.ntmps94
 go_wp2_with fail
 go_region
 all_goals
  go_wp2_with fail
  go_ret
  exact⟨rfl,off_freeze ((Off.refl _ _).drewN 1) HG.out _⟩
end Go.Proofs.YtenegfafjjknoaaGreatDoor.Kr
namespace Go.Proofs.YtenegfafjjknoaaGreatDoor.Kr
open Go.RowKit Go.Maps Mem Foot Im Wm Hk Hb Hi Hn Plainw Cq Hs Sh Readw Wi Go.Sort Go.Shelf
attribute [local go_sem] Oper.semAt_some
theorem risingF (M:Nat)(w:World):Calls Tryz.prog 92 #[.pointer (some ⟨M,0,none⟩)] w fun e w'=>e=.returned (.func (.func 145) #[] #[.pointer (some ⟨w.heap.size,0,none⟩)])∧w'=w.alloc (.cells #[.pointer (some ⟨M,0,none⟩)] 135):=by
 go_enter Tryz.func92,Tryz.ntmps92
 go_wp2_with fail
 go_ret
 exact⟨rfl,rfl⟩
theorem stexts_snoc (l:List (Bs×Ser))(p:Bs×Ser):stexts (l++[p])=stexts l++(p.1++[61]++stext p.2++[10]):=by
 induction l with
 | nil=>simp[stexts]
 | cons x r ih=>simp[stexts,ih]
theorem stexts_le {l:List (Bs×Ser)}(h:∀p∈l,p.1.length+(stext p.2).length≤300):(stexts l).length≤400*l.length:=by
 induction l with
 | nil=>simp[stexts]
 | cons x r ih=>
  have h1:=h x (uM ..);have h2:=ih fun p hp=>h p (uP _ hp)
  simp only[stexts,uC,uA,uE];omega
theorem buf_base {w:World}{B b:Nat}{v:Value}{bs:Bs}(h:BuAt w B b v bs):∀k∈bfoot b v,B≤k:=by
 intro k hk;rcases uD.1 hk with e|e
 ·subst e;exact h.base
 ·rcases h.row.2 with ⟨e1,_⟩|⟨g,cap,cur,rfl,hb,_⟩
  ·subst e1;simp[Value.ownBlock]at e
  ·simp[Value.ownBlock]at e
   subst e;exact hb
theorem below_off {B:Nat}{w A C:World}{F:List Nat}(h:Below B w A)(ho:Off F A C)(hF:∀k∈F,B≤k)(hB:B≤A.heap.size):Below B w C:=
 h.trans ⟨ho.os,ho.tape,ho.output,ho.size,fun k hk=>ho.block k (by omega) (fun hm=>by have:=hF k hm;omega)⟩
theorem off_putObj {W:World}{l:Nat}{o':Obj}:Off [l] W (W.putObj l o'):=
 ⟨rfl,rfl,rfl,by simp[World.putObj],fun k _ hk=>World.putObj_heap_other (by simpa using hk)⟩
theorem bu_noObj {w:World}{B b k:Nat}{v:Value}{bs:Bs}{o:Obj}(h:BuAt w B b v bs)(hk:w.heap[k]? = some o)(ho:o.isCells=false):k∉bfoot b v:=by
 intro hm;have:∀t cs,¬Sits w k t cs:=fun t cs hs=>by
  unfold Sits at hs;rw[hk]at hs;cases hs
  cases ho
 rcases uD.1 hm with e|e
 ·subst e;rcases h.head with h1|h1<;>exact this _ _ h1
 ·obtain⟨cs',h1⟩:=sits_row h.row e;exact this _ _ h1
theorem bu_off {w w':World}{B b:Nat}{v:Value}{bs:Bs}{F:List Nat}(h:BuAt w B b v bs)(ho:Off F w w')(hF:∀k∈bfoot b v,k∉F):BuAt w' B b v bs:=
 h.off ho (hF b (uM ..)) (fun k hk=>hF k (uP _ hk))
theorem bu_new (w:World):BuAt (w.alloc (.cells #[.pointer none,.slice none 0 0] 130)) w.heap.size w.heap.size (.slice none 0 0) []:=
 ⟨Or.inl (Sits.new _ _ _),World.ownsRow_nil _ _ _ _,uB _⟩
def Inv (w:World)(b:Nat)(hd:Bs)(E:List Ent)(pre:List (Bs×Nat))(W:World):Prop:=
 (∃v E1 E2,E=E1++E2∧pre=ptrOf E1∧BuAt W b b v (hd++stexts (serOf E1)))∧Below b w W
theorem Inv.keep {w A B:World}{b:Nat}{hd:Bs}{E:List Ent}{pre:List (Bs×Nat)}(h:Inv w b hd E pre A)(hb:Below A.heap.size A B)(hz:b≤A.heap.size):Inv w b hd E pre B:=by
 obtain⟨⟨v,E1,E2,e1,e2,h3⟩,h4⟩:=h;exact⟨⟨v,E1,E2,e1,e2,h3.keep hb⟩,h4.trans (hb.mono hz)⟩
theorem Inv.size {w A:World}{b:Nat}{hd:Bs}{E:List Ent}{pre:List (Bs×Nat)}(h:Inv w b hd E pre A):b<A.heap.size:=by
 obtain⟨⟨v,E1,E2,e1,e2,h3⟩,h4⟩:=h;rcases h3.head with h|h<;>exact h.lt
theorem Inv.off1 {w A B:World}{b k:Nat}{hd:Bs}{E:List Ent}{pre:List (Bs×Nat)}(h:Inv w b hd E pre A)(ho:Off [k] A B)(hk:b≤k)(hn:∀v bs,BuAt A b b v bs→k∉bfoot b v):Inv w b hd E pre B:=by
 have hz:=h.size;obtain⟨⟨v,E1,E2,e1,e2,h3⟩,h4⟩:=h;refine⟨⟨v,E1,E2,e1,e2,bu_off h3 ho (fun j hj he=>?_)⟩,below_off h4 ho (by simpa using hk) (by omega)⟩;simp only[uK]at he;subst he;exact hn v _ h3 hj
theorem ptr_append (a b:List Ent):ptrOf (a++b)=ptrOf a++ptrOf b:=by simp[ptrOf]
theorem ser_append (a b:List Ent):serOf (a++b)=serOf a++serOf b:=by simp[serOf]
theorem next_ent {E E1 E2:List Ent}{x:Bs×Nat}{pre post:List (Bs×Nat)}(h:E=E1++E2)(hp:pre=ptrOf E1)(he:ptrOf E=pre++x ::post):∃e E3,E2=e ::E3∧x=(e.1,e.2.1.X):=by
 subst h;subst hp;rw[ptr_append,List.append_cancel_left_eq]at he;cases E2 with
 | nil=>simp[ptrOf]at he
 | cons e E3=>
  simp only[ptrOf,uF,List.cons.injEq]at he;exact⟨e,E3,rfl,he.1.symm⟩
set_option maxRecDepth 10000 in
theorem textW (num:Int)(p:WI)(L:Lim)(n rj dr:Nat)(E:List Ent)(w:World)(h:WiAt w p L rj dr E)(hf:WFit L n (winOf rj dr E))(hL:LOk L)(hlv:Live (winOf rj dr E))(ht:Tab w)(hn:n≤1000000000000000)(hn0:-9223372036854775808≤num)(hn1:num≤9223372036854775807):
  Calls Tryz.prog 42 #[.pointer (some ⟨p.P,0,none⟩),.int .i64 num] w fun e w'=>(∃z,e=.returned (.string z)∧Bytes.B z=wtext num (winOf rj dr E))∧Below w.heap.size w w':=by
 refine(callsIn_wide (n:=12)).1 ?_;have HW:=hide h;have HF:=hide hf;have HLV:=hide hlv;have HT:=hide ht;have hrd:rj+dr≤n:=hf.cnt;have HB0:=hide (below_new (w:=w) (.cells #[.pointer none,.slice none 0 0] 130));have HBU:=hide (bu_new w);clear h hf hlv ht;refine callsIn_of_wp_marks Tryz.func42 rfl trivial ?_ rfl;simp only[Tryz.ntmps42,List.size_toArray,uA,uE,Nat.reduceAdd,Nat.reduceSub,Array.replicate_succ,Array.replicate_zero,List.push_toArray,List.append_toArray,List.nil_append,uI];gi_wp2_with fail
 obtain⟨b,hb⟩:∃b,w.heap.size=b:=⟨_,rfl⟩;have HBE:=hide hb;rw[hb]at HBU;rw[hb];clear hb;generalize w.alloc (.cells #[.pointer none,.slice none 0 0] 130)=w1 at *;have HW1:=hide (HW.out.keep HB0.out);have C7:∀s:Bw w1,s.val.cell? ⟨p.P,7,none⟩=some (.int .i64 (rj:Int)):=fun s=>(HW1.out.keep s.is).head.cell 7 _ rfl
 have C8:∀s:Bw w1,s.val.cell? ⟨p.P,8,none⟩=some (.int .i64 (dr:Int)):=fun s=>(HW1.out.keep s.is).head.cell 8 _ rfl
 have hit:∀(x:Int) (h0:-9223372036854775808≤x) (h1:x≤9223372036854775807),∃z:ByteArray,Bytes.B z=Lib.itoa x∧z.size≤20∧∀s:Bw w1,Calls Tryz.prog 91 #[.int .i64 x] s.val fun e w'=>e=.returned (.string z)∧Below s.val.heap.size s.val w':=fun x h0 h1=>⟨⟨(Lib.itoa x).toArray⟩,rfl,by rw[Bytes.size_B];exact itoa_len h0 h1,fun s=>(itoaG x h0 h1 s.val ((HT.out.below HB0.out).below s.is)).mono fun e w' ⟨⟨z,h1,h2,_⟩,h3⟩=>⟨by
  have:z=⟨(Lib.itoa x).toArray⟩:=Bytes.B_inj (by rw[h2];rfl);rw[h1,this],h3⟩⟩
 obtain⟨z0,hz0,L0,hA0⟩:=hit num hn0 hn1;obtain⟨z1,hz1,L1,hA1⟩:=hit (rj:Int) (by omega) (by omega);obtain⟨z2,hz2,L2,hA2⟩:=hit (dr:Int) (by omega) (by omega);have HA0:=hide fun s=>call_cls (hA0 s)
 have HA1:=hide fun s=>call_cls (hA1 s)
 have HA2:=hide fun s=>call_cls (hA2 s)
 have HZ:=hide (And.intro hz0 (And.intro hz1 hz2));clear hit hA0 hA1 hA2 hz0 hz1 hz2;gi_wp2_with fail
 rename_i hK;have HKK:=hide hK;clear hK;refine wpIn_wide.2 (region_pre 18 (by kernel_rfl) (by kernel_rfl) ?_);simp only[List.take_succ_cons,List.take_zero,List.drop_succ_cons,List.drop_zero];repeat (first
  | go_big_quiet_skip
  | (go_big_quiet_want;go_big_quiet_op;first|go_big_quiet_on|(apply Exists.intro;refine⟨fun _=>?_,?_⟩;(first|exact HA0.out _|exact HA1.out _|exact HA2.out _);go_big_quiet_on)))
 refine wpQuiet_nil ?_;intro s;generalize hhs:((((((⟨#[119,105,110,100,111,119,32]⟩:ByteArray)++z0)++⟨#[32,114,101,106,101,99,116,115,32]⟩)++z1)++⟨#[32,100,114,111,112,115,32]⟩)++z2)++⟨#[10]⟩=hs;have hB:Bytes.B hs=whead num rj dr:=by
  obtain⟨h1,h2,h3⟩:=HZ.out;rw[←hhs,str_add,str_add,str_add,str_add,str_add,str_add,h1,h2,h3];rfl
 have hsz:hs.size≤1000:=by
  obtain⟨h1,h2,h3⟩:=HZ.out;have e1:=Bytes.size_B z0;have e2:=Bytes.size_B z1;have e3:=Bytes.size_B z2;rw[h1]at e1;rw[h2]at e2;rw[h3]at e3;rw[Bytes.size_B,hB];simp only[whead,uC,uA,uE];omega
 have hwr:=writeString b b (.slice none 0 0) [] hs s.val (HBU.out.keep s.is) (by simp;omega);have HBs:=hide (show Below b w s.val by rw[←HBE.out];exact HB0.out.trans (s.is.mono HB0.out.size));have HBUs:=hide (HBU.out.keep s.is);have HHB:=hide hB;clear hhs hB C7 C8;go_wp2_with fail
 refine hwr.mono ?_;clear hwr;rintro e w2 ⟨rfl,ho,v',hbu⟩;rw[HHB.out,List.nil_append]at hbu;have HB2:=hide (show Below b w w2 from below_off HBs.out ho (buf_base HBUs.out) (by
  have:=HBUs.out.head;rcases this with h|h<;>exact uQ h.lt))
 have HBU2:=hide hbu;clear ho hbu;have HW2:=hide (HW.out.keep (by rw[HBE.out];exact HB2.out));have c6:w2.cell? ⟨p.P,6,none⟩=some (.pointer (some ⟨p.M,0,none⟩)):=HW2.out.head.cell 6 _ rfl;go_wp2_with fail
 refine HKK.out _ _ ?_;gi_wp2_with fail
 refine⟨trivial,(callsIn_wide.2 (risingF p.M w2)).mono ?_⟩;rintro e w3 ⟨rfl,rfl⟩;have HX:=hide (Sits.new w2 135 #[.pointer (some ⟨p.M,0,none⟩)]);have HB3:=hide (below_new (w:=w2) (.cells #[.pointer (some ⟨p.M,0,none⟩)] 135));have hbl:b<w2.heap.size:=by
  rcases HBU2.out.head with h|h<;>exact h.lt
 have HI3:=hide (show Inv w b (whead num rj dr) E [] (w2.alloc (.cells #[.pointer (some ⟨p.M,0,none⟩)] 135)) from
  Inv.keep ⟨⟨v',[],E,rfl,rfl,by simpa[serOf,stexts] using HBU2.out⟩,HB2.out⟩ HB3.out (uQ hbl))
 have HSH:=hide (HW2.out.sh.keep HB3.out);have hle:E.length≤32:=by
  have h1:=HF.out.len;have h2:=hL.s;have h3:=ser_length E;have h4:(winOf rj dr E).ser=serOf E:=rfl;rw[h4]at h1;omega
 obtain⟨X,hX⟩:∃X,w2.heap.size=X:=⟨_,rfl⟩;rw[hX]at HX hbl;rw[hX];have HXE:=hide hX;have hzz:(w2.alloc (.cells #[.pointer (some ⟨p.M,0,none⟩)] 135)).heap.size=X+1:=by simp[hX]
 clear hX c6;generalize w2.alloc (.cells #[.pointer (some ⟨p.M,0,none⟩)] 135)=w3 at *;gi_wp2_with fail
 have hent:(ptrOf E).length≤1000:=by rw[ptr_length];omega
 have HKL:=hide (show ∀x∈ptrOf E,x.1.length≤1000 from fun x hx=>by
  simp only[ptrOf,uT]at hx;obtain⟨y,hy,rfl⟩:=hx;have:=(HF.out.ser (y.1,y.2.2) (uT.2 ⟨y,hy,rfl⟩)).klen;simp only at this ⊢;omega)
 apply range_ 6 X p.M p.R p.bs (ptrOf E) rfl rfl HX.out HSH.out (up_ptr.2 (up_ser.1 HF.out.up)) hent HKL.out (Inv w b (whead num rj dr) E)
  (fun s A B hi hb=>Inv.keep hi hb (uQ hi.size))
  (fun s A Rk i u cs hi hR hs=>Inv.off1 hi ((Off.refl _ _).set (F:=[Rk]) (by simp) _ _) (by omega) (fun v bs hbu=>hbu.noT _ (by decide) (by decide) _ _ hs))
  (fun s A l o o' hi hl hlo ho=>Inv.off1 hi off_putObj (by omega) (fun v bs hbu=>bu_noObj hbu hlo ho)) HI3.out
 case hassign=>
  intro l x W K hK;gi_wp2_with fail
  exact hK
 case hbody=>
  intro l pre x post W hi he;obtain⟨⟨v,E1,E2,e1,e2,hbu⟩,hbl2⟩:=hi;obtain⟨en,E3,rfl,rfl⟩:=next_ent e1 e2 he;have HWn:=hide (HW.out.keep (by rw[HBE.out];exact hbl2));have hmem:en∈E:=by rw[e1];simp
  have hms:(en.1,en.2.2)∈(winOf rj dr E).ser:=uT.2 ⟨en,hmem,rfl⟩;have hfit:=HF.out.ser _ hms;have hsx:=seText L n en.1 en.2.1 en.2.2 W (HWn.out.ser en hmem) hfit (HT.out.below (by rw[HBE.out];exact hbl2)) hn hL.b1 (by have:=hL.t;omega) (fun t ht=>HLV.out _ hms t ht);have htl:=stext_len hfit (by have:=hL.t;omega);have hkl:=hfit.klen;have hz:(hs.size:Int)=hs.size:=rfl;have hlen:(whead num rj dr++stexts (serOf E1)).length≤1000+400*32:=by
   have h1:(stexts (serOf E1)).length≤400*(serOf E1).length:=stexts_le fun q hq=>by
    have hq':q∈(winOf rj dr E).ser:=by
     show q∈serOf E;rw[e1,ser_append];exact List.mem_append_left _ hq
    have hq1:=HF.out.ser _ hq';have hq2:=stext_len hq1 (by have:=hL.t;omega);have hq3:=hq1.klen;omega
   have h2:(serOf E1).length≤32:=by
    rw[ser_length];have:E1.length≤E.length:=by rw[e1];simp
    omega
   have h3:=Bytes.size_B hs;rw[HHB.out]at h3;rw[uC];omega
  have HE1:=hide e1;have HE2:=hide e2;have HBW:=hide hbu;have HBL:=hide hbl2;have kz:(⟨en.1.toArray⟩:ByteArray).size≤64:=by
   rw[Bytes.size_B];exact hkl
  have HKK2:=hide (show Bytes.B ⟨en.1.toArray⟩=en.1 from rfl);clear e1 e2 hbu hbl2 hms hfit hkl he hz;generalize hkb:(⟨en.1.toArray⟩:ByteArray)=kb at *;have HKB:=hide hkb;clear hkb;gi_wp2_with fail
  refine⟨trivial,(CallsIn.inRound l (callsIn_wide.2 hsx)).mono ?_⟩;clear hsx;rintro e W2 ⟨⟨z,rfl,hz⟩,hb2⟩;have hzl:z.size≤200:=by rw[Bytes.size_B,hz];exact htl
  have HZZ:=hide hz;have HBb:=hide hb2;have HBW2:=hide (HBW.out.keep hb2);clear hz hb2;gi_wp2_with fail
  generalize hss:((kb++⟨#[61]⟩)++z)++⟨#[10]⟩=ss;have hBs:Bytes.B ss=en.1++[61]++stext en.2.2++[10]:=by
   rw[←hss,str_add,str_add,str_add,HZZ.out,HKK2.out];rfl
  have hssz:ss.size≤1000:=by
   have h1:=Bytes.size_B z;have h2:=Bytes.size_B kb;rw[HZZ.out]at h1;rw[HKK2.out]at h2;rw[Bytes.size_B,hBs];simp only[uC,uA,uE];omega
  have hwr:=writeString b b v _ ss W2 HBW2.out (by omega);refine⟨trivial,(CallsIn.inRound l (callsIn_wide.2 hwr)).mono ?_⟩;clear hwr;rintro e W3 ⟨rfl,ho,v3,hbu3⟩;have HO:=hide ho;have HBU3:=hide hbu3;have HBS:=hide hBs;clear ho hbu3 hBs hss;gi_wp2_with fail
  refine⟨(Keep.of_below HBb.out).trans (keep_of_off HBW2.out HO.out),⟨⟨v3,E1++[en],E3,?_,?_,?_⟩,?_⟩⟩
  ·rw[HE1.out];simp
  ·rw[HE2.out,ptr_append];rfl
  ·have h5:=HBU3.out;rw[HBS.out]at h5;rw[ser_append];show BuAt W3 b b v3 (whead num rj dr++stexts (serOf E1++[(en.1,en.2.2)]));rw[stexts_snoc,←List.append_assoc];exact h5
  ·have hz2:b<W.heap.size:=by
    rcases HBW.out.head with h|h<;>exact h.lt
   have hz3:=HBb.out.size;exact below_off (HBL.out.trans (HBb.out.mono (uQ hz2))) HO.out (buf_base HBW2.out) (by omega)
 case hdone=>
  intro D W hD hi hK;obtain⟨⟨v,E1,E2,e1,e2,hbu⟩,hbl2⟩:=hi;have hE:E1=E:=by
   have h1:(ptrOf E).length=(ptrOf E1).length:=by rw[e2]
   rw[ptr_length,ptr_length,e1,uC]at h1;have:E2=[]:=uG (by omega);rw[e1,this,List.append_nil]
  subst hE;have hst:=stringOff b b v _ W hbu (by
   have h1:=whead_len num rj dr;intro h2;rw[List.append_eq_nil_iff]at h2;rw[h2.1]at h1;simp at h1)
  have HKD:=hide hK;have HBL:=hide hbl2;have HBU5:=hide hbu;have hz5:b<W.heap.size:=by
   rcases hbu.head with h|h<;>exact h.lt
  clear hK hbl2 hbu e1 e2;gi_wp2_with fail
  refine⟨trivial,(callsIn_wide.2 hst).mono ?_⟩;clear hst;rintro e W6 ⟨rfl,ho6⟩;have HK6:=hide (show W6.heap[D]? = some (.deferred (some [])) from(ho6.block D (Array.getElem?_eq_some_iff.1 HKD.out).1 (bu_noObj HBU5.out HKD.out rfl)).trans HKD.out);have HB6:=hide (below_off HBL.out ho6 (buf_base HBU5.out) (uQ hz5));clear ho6;generalize hrs:(⟨(whead num rj dr++stexts (serOf E1)).toArray⟩:ByteArray)=rs;have hBr:Bytes.B rs=wtext num (winOf rj dr E1):=by
   rw[←hrs];rfl
  have HBR:=hide hBr;clear hrs hBr;gi_wp2_with fail
  refine⟨by simp,.inl ⟨_,_,rfl,run_takeDeferred HK6.out,?_⟩⟩;refine⟨_,results_tmp rfl _ _ _,⟨rs,rfl,HBR.out⟩,?_⟩;rw[HBE.out];exact HB6.out.trans (belowK_b (w:=w) (by rw[HBE.out];exact uB _) W6 D _ _ (by rw[HBE.out];omega) HK6.out rfl rfl)
end Go.Proofs.YtenegfafjjknoaaGreatDoor.Kr
namespace Go.Proofs.YtenegfafjjknoaaGreatDoor.Check
open Go.RowKit Mem
def inb (lo hi n:Int):Bool:=decide (lo≤n)&&decide (n≤hi)
def good (a b c d e f:Int):Bool:=inb 1 1000 a&&(inb 1 32 b&&(inb 1 16 c&&(inb 2 64 d&&(inb 1 16 e&&inb 64 4096 f))))
theorem inb_iff {lo hi n:Int}:inb lo hi n=true↔lo≤n∧n≤hi:=by simp[inb]
theorem within (n lo hi:Int)(w:World):
  Calls Tryz.prog 40 #[.int .i64 n,.int .i64 lo,.int .i64 hi] w fun e w'=>e=.returned (.bool (inb lo hi n))∧w=w':=by
 by_cases h:lo≤n
 ·go_enter Tryz.func40,Tryz.ntmps40
  go_wp2_with fail
  go_ret
  exact⟨by simp[inb,h],rfl⟩
 ·go_enter Tryz.func40,Tryz.ntmps40
  go_wp2_with fail
  go_ret
  refine⟨congrArg (fun z=>Ending.returned (.bool z)) ?_,rfl⟩;have h2:decide (lo≤n)=false:=decide_eq_false (by omega);show false=inb lo hi n;rw[inb,h2];rfl
theorem num (n:Int)(w:World):Calls Tryz.prog 18 #[.int .i64 n] w fun e w'=>e=.returned (.int .i64 n)∧w=w':=by
 go_enter Tryz.func18,Tryz.ntmps18
 go_wp2_with fail
 go_ret
 exact⟨rfl,rfl⟩
theorem conf (a b c d e f:Int)(w:World):
  Calls Tryz.prog 16 #[.agg #[.int .i64 a,.int .i64 b,.int .i64 c,.int .i64 d,.int .i64 e,.int .i64 f]] w fun r w'=>r=.returned (.agg #[.int .i64 a,.int .i64 b,.int .i64 c,.int .i64 d,.int .i64 e,.int .i64 f])∧Below w.heap.size w w':=by
 go_enter Tryz.func16,Tryz.ntmps16
 go_wp2_with fail
 go_returns
 exact⟨rfl,(below_new _).alloc (by simp) _⟩
theorem hide {p:Prop}(h:p):Hid p:=h
theorem check (a b c d e f:Int)(w:World):
  Calls Tryz.prog 15 #[.agg #[.int .i64 a,.int .i64 b,.int .i64 c,.int .i64 d,.int .i64 e,.int .i64 f]] w fun r w'=>r=.returned (.int .i64 (if good a b c d e f=true then 0 else 1))∧Below w.heap.size w w':=by
 generalize hgood:(if good a b c d e f=true then (0:Int) else 1)=R;have HR:=hide hgood;clear hgood;go_enter Tryz.func15,Tryz.ntmps15
 go_wp2_with (go_at_call 40;refine(within _ _ _ _).mono ?_;rintro e w' ⟨rfl,rfl⟩)
 all_goals go_ret
 all_goals refine⟨congrArg (fun z=>Ending.returned (.int .i64 z)) ?_,below_new _⟩
 all_goals rw[←HR.out]
 all_goals simp_all [good]
theorem refGood (a b c d e f:Int)(w:World):
  Calls Tryz.prog 17 #[.agg #[.int .i64 a,.int .i64 b,.int .i64 c,.int .i64 d,.int .i64 e,.int .i64 f]] w fun r w'=>r=.returned (.bool (good a b c d e f))∧Below w.heap.size w w':=by
 generalize hgood:good a b c d e f=R;have HR:=hide hgood;clear hgood;go_enter Tryz.func17,Tryz.ntmps17
 go_wp2_with fail
 all_goals go_ret
 all_goals refine⟨congrArg (fun z=>Ending.returned (.bool z)) ?_,below_new _⟩
 all_goals rw[←HR.out]
 all_goals first|(simp[good,inb];omega)|(rw[Bool.eq_iff_iff];simp[good,inb];omega)
end Go.Proofs.YtenegfafjjknoaaGreatDoor.Check
namespace Go.Proofs.YtenegfafjjknoaaGreatDoor.Kr
open Go.RowKit Go.Maps Mem Foot Im Wm Hk Hb Hi Hn Plainw Cq Hs Sh Readw Wi Go.Sort Go.Shelf
def nls:List Bs→Nat
 | []=>0
 | d ::r=>(Lib.countByte d 10+1)+nls r
theorem nls_append (a b:List Bs):nls (a++b)=nls a+nls b:=by
 induction a with
 | nil=>simp[nls]
 | cons d r ih=>simp only[uI,nls,ih];omega
theorem lines_count (d:Bs):(lines d).length=Lib.countByte d 10+1:=by
 induction d with
 | nil=>rfl
 | cons c r ih=>
  rw[lines];by_cases h:c=10
  ·rw[if_pos h,uA,ih];subst h;simp[Lib.countByte]
  ·rw[if_neg h];have e:Lib.countByte (c ::r) 10=Lib.countByte r 10:=by simp[Lib.countByte,h]
   rw[e,←ih];cases hl:lines r with
   | nil=>exact absurd hl (lines_ne r)
   | cons x y=>rfl
theorem wfit_grams {L:Lim}(hL:2≤L.buckets)(ds:List Bs):∀{n:Nat} {w:Win},WFit L n w→WFit L (n+nls ds) (ds.foldl (wgram L) w):=by
 induction ds with
 | nil=>intro n w h;exact h
 | cons d r ih=>
  intro n w h;have h1:=fold_fit hL (lines d) n w h;rw[lines_count]at h1;have h2:=ih h1;simp only[nls];rw[←Nat.add_assoc];exact h2
def Row (w:World)(v:Value)(ds:List Bs):Prop:=∃a cap,v=.slice a ds.length cap∧ds.length≤cap∧∀(j:Nat) x,ds[j]? = some x→∃g off,a=some ⟨g,off,none⟩∧g<w.heap.size∧w.cell? ⟨g,off+j,none⟩=some (.string ⟨x.toArray⟩)
theorem Row.below {w w':World}{v:Value}{ds:List Bs}(h:Row w v ds)(hb:Below w.heap.size w w'):Row w' v ds:=by
 obtain⟨a,cap,h1,h2,h3⟩:=h;refine⟨a,cap,h1,h2,fun j x hx=>?_⟩;obtain⟨g,off,e1,e2,e3⟩:=h3 j x hx;exact⟨g,off,e1,Nat.lt_of_lt_of_le e2 hb.size,by rw[hb.cell (p:=⟨g,off+j,none⟩) e2];exact e3⟩
end Go.Proofs.YtenegfafjjknoaaGreatDoor.Kr
namespace Go.Proofs.YtenegfafjjknoaaGreatDoor.Kr
open Go.RowKit Go.Maps Mem Foot Im Wm Hk Hb Hi Hn Plainw Cq Hs Sh Readw Wi Go.Sort Go.Shelf
theorem good_of {c:Fin 6→Int}(h:COk c):Check.good (c 0) (c 1) (c 2) (c 3) (c 4) (c 5)=true:=by
 have h0:=h.w;have h1:=h.s;have h2:=h.t;have h3:=h.b;have h4:=h.n;have h5:=h.g;simp[Check.good,Check.inb,h0,h1,h2,h3,h4,h5]
end Go.Proofs.YtenegfafjjknoaaGreatDoor.Kr
namespace Go.Proofs.YtenegfafjjknoaaGreatDoor.Rz
open Go.RowKit Mem Foot Im Wm Hi Plainw
end Go.Proofs.YtenegfafjjknoaaGreatDoor.Rz
