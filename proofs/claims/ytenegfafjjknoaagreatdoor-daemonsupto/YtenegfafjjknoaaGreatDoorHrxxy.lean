/- The numbers of a sketch's buckets, rising. A sketch: the lowest bucket moved up. A sketch: a weight more; a quantile. A sketch's quantiles. The program's timers in memory. strings.Builder: what a write leaves. The program's shards in memory: the hash of a key. Numbers written; a timer's text. -/
import Derived.Test.YtenegfafjjknoaaGreatDoorKeysl
import Derived.Shelf.Abstract
import Derived.OwnWalkIn
import Derived.TacticsInMore
import Derived.Maps.OwnIn
import Derived.Lib.SlKeysI
import Derived.Lib.AppendStr
import Derived.Lib.Builder
import Derived.Test.YtenegfafjjknoaaGreatDoorPlainw
import Derived.Laws.MakeOwn
import Derived.Test.YtenegfafjjknoaaGreatDoorCqy
import Derived.Deep.RegionWith
import Derived.Deep.QuietTactic
import Derived.BigQuiet
set_option maxHeartbeats 100000000
open List renaming mem_cons_self → uA, getElem?_eq_some_iff → uB, mem_cons_of_mem → uC, getElem?_map → uD, length_cons → uE, length_map → uF, mem_of_getElem? → uG, mem_singleton → uH
namespace Go.Proofs.YtenegfafjjknoaaGreatDoor.Hk
open Go.RowKit Go.Maps Mem Foot Im Wm Go.Sort Go.Shelf
theorem sortsI (m:Nat):AnyZI.SortsIn Tryz.prog Tryz.sortedI_ren Fence.wide m:=
 ⟨fun blk off cap ss W hH hblk hsz=>callsIn_wide.2 (AnyM.slices_Sort_int Tryz.sortI blk off cap ss W hH hblk hsz),
  fun p cap W=>callsIn_wide.2 (AnyM.slices_Sort_int_none Tryz.sortI p cap W)⟩
theorem keys_cells (l:List (Int×Cel)):intKeys (mp iLit cv l)=l.map (·.1):=by
 unfold mp;simp[intKeys,iLit,Go.intOf,Function.comp_def]
theorem sorted_keys {l:List (Int×Cel)}(h:Up iLt l){ss:List Int}(hp:ss.Perm (l.map (·.1))):ss.mergeSort (fun x y=>decide (x≤y))=l.map (·.1):=by
 refine List.Perm.eq_of_pairwise (le:=fun a b:Int=>a≤b) (fun a b _ _ h1 h2=>by omega) ?_ ?_ ((List.mergeSort_perm _ _).trans hp)
 ·have:=List.pairwise_mergeSort (le:=fun x y:Int=>decide (x≤y)) (fun a b c h1 h2=>by simp at *;omega) (fun a b=>by simp;omega) ss;exact this.imp fun {a b} h=>by simpa using h
 ·rw[List.pairwise_map];exact h.imp fun {a b} h=>by simp[iLt]at h;omega
theorem rising (S b mx:Nat)(l:List (Int×Cel))(f:Bool)(w:World)(h:SkAt w S b mx l f)(hup:Up iLt l)(hl:l.length≤1000):
  Calls Tryz.prog 303 #[.pointer (some ⟨S,0,none⟩)] w fun e w'=>∃v:Value,e=.returned v∧w'.ownsRow w.heap.size 3 1 v l.length (l.map fun c=>.int .i64 c.1)∧Below w.heap.size w w':=by
 refine(callsIn_wide (n:=6)).1 ?_;have hown:w.ownsMap Tryz.prog 3 (exE okC) b l.length (mp iLit cv l):=h.map;have hbl:=hown.lt;have hmax:Maps.size (mp iLit cv l)≤maxLen:=by rw[mp_size];unfold maxLen;omega
 have hbytes:Maps.size (mp iLit cv l)*8≤140737488355328:=by rw[mp_size];omega
 have c1:=h.head.cell 1 _ rfl;have hseq:SeqGives Fence.wide 2 Tryz.prog 344 #[.pointer (some ⟨w.heap.size,0,none⟩)] encZ (fun ss=>ss.Perm (intKeys (mp iLit cv l))) (Maps.size (mp iLit cv l)) (w.alloc (.cells #[.map (some b)] 316)):=
  AnyZI.keys_gives (ρ:=Tryz.keysI_ren) {Tryz.keysI with} Fence.wide _ trivial rfl (by omega) w.heap.size b l.length (mp iLit cv l) _ (by simp) (by simp) (by
   obtain⟨es,clock,hb,Ft,hs,hD⟩:=hown;exact⟨es,clock,(Below.heap_alloc _ _ b hbl).trans hb,Ft,hs,hD⟩)
 have cK:∀mb W,CallsIn Fence.wide 5 Tryz.prog 332 #[.map mb] W fun e w'=>e=.returned (.func (.func 344) #[] #[.pointer (some ⟨W.heap.size,0,none⟩)])∧w'=W.alloc (.cells #[.map mb] 316):=fun mb W=>AnyZI.keys_in Tryz.keysI Fence.wide 5 trivial rfl mb W
 have cS:=AnyZI.sorted_in Tryz.sortedI Fence.wide 5 trivial trivial trivial trivial rfl (by omega) (sortsI _) (enters_of Tryz.func343 (by kernel_rfl) rfl) 344 #[.pointer (some ⟨w.heap.size,0,none⟩)] trivial (enters_of Tryz.func344 (by kernel_rfl) rfl) _ _ hmax hbytes _ hseq
 change CallsIn _ _ Tryz.prog 331 _ _ _ at cS
 have hfK:Fence.wide.fn 332:=trivial;have hfS:Fence.wide.fn 331:=trivial;have HUP:=hide hup;clear hup h;refine callsIn_of_wp Tryz.func303 rfl trivial ?_ rfl;simp only[Tryz.ntmps303,List.size_toArray,uE,List.length_nil,Nat.reduceAdd,Nat.reduceSub,Array.replicate_succ,Array.replicate_zero,List.push_toArray,List.append_toArray,List.nil_append,List.cons_append];gi_wp2_with (first
  | (gi_at_call 332;refine(cK _ _).mono ?_;rintro e w' ⟨rfl,rfl⟩)
  | (gi_at_call 331;refine cS.mono ?_;rintro e w' ⟨v,ss,rfl,hS,hrow,hnil,hb⟩))
 go_ret
 rw[keys_cells]at hS;rw[sorted_keys HUP.out hS,hS.length_eq]at hrow;simp only[uF,List.map_map]at hrow;exact⟨v,rfl,ownsRow_base_a hrow (by simp),((Below.refl _ w).alloc (Nat.le_refl _) _).trans (hb.mono (by simp))⟩
end Go.Proofs.YtenegfafjjknoaaGreatDoor.Hk
namespace Go.Proofs.YtenegfafjjknoaaGreatDoor.Hk
open Go.RowKit Go.Maps Mem Foot Im Wm
theorem SkAt.keep {w w':World}{S b mx:Nat}{l:List (Int×Cel)}{f:Bool}(h:SkAt w S b mx l f)(hb:Below w.heap.size w w'):SkAt w' S b mx l f:=
 h.off (F:=[]) (Off.of_below hb) (by simp) (by simp)
theorem SkAt.ne {w:World}{S b mx:Nat}{l:List (Int×Cel)}{f:Bool}(h:SkAt w S b mx l f):S≠b:=map_sits h.map h.head
theorem row_cell {w:World}{base n i:Nat}{v u:Value}{e:TypeId}{xs:List Value}(h:w.ownsRow base e 1 v n xs)(hi:xs[i]? = some u):∃g cap,v=.slice (some ⟨g,0,none⟩) n cap∧n≤cap∧base≤g∧g<w.heap.size∧w.cell? ⟨g,i,none⟩=some u:=by
 rcases h.2 with ⟨_,h0⟩|⟨g,cap,cur,rfl,hb,hg,hn,_,_,ht⟩
 ·have h3:=h.1;rw[h0]at h3;have:=(uB.1 hi).1;omega
 ·have hs:Sits w g e cur:=hg;refine⟨g,cap,rfl,hn,hb,hs.lt,?_⟩;rw[←ht,List.getElem?_take]at hi;split at hi
  ·exact hs.cell i u (by simpa using hi)
  ·cases hi
structure CFit (l:List (Int×Cel)):Prop where
 up:Up iLt l
 len:l.length≤1000
 cel:∀c∈l,0≤c.1∧c.1≤1000000000∧0≤c.2.stands∧c.2.stands≤2000000000∧0≤c.2.weight
 tot:tot l≤1152921504606846976
theorem tot_nonneg {l:List (Int×Cel)}(h:∀c∈l,0≤c.2.weight):0≤tot l:=by
 have:=wgt_le (k:=0) h;omega
theorem key_wf {x:Int}(h0:0≤x)(h1:x≤1000000000):(Lit.int .i64 x).wf=true:=by
 have h2:IntKind.i64.min = -9223372036854775808:=by decide
 have h3:IntKind.i64.max=9223372036854775807:=by decide
 simp only[Lit.wf,h2,h3,Bool.and_eq_true,decide_eq_true_eq];omega
theorem field0 (a b:Int)(w:World):(Instr.field 370 (.agg #[.int .i64 a,.int .i64 b]) 0).run Tryz.prog w=.ok (.int .i64 a) w:=by kernel_rfl
theorem field1 (a b:Int)(w:World):(Instr.field 370 (.agg #[.int .i64 a,.int .i64 b]) 1).run Tryz.prog w=.ok (.int .i64 b) w:=by kernel_rfl
set_option maxRecDepth 10000 in
theorem foldW (S b mx:Nat)(x y:Int×Cel)(r:List (Int×Cel))(f:Bool)(w:World)(h:SkAt w S b mx (x ::y ::r) f)(hf:CFit (x ::y ::r)):
  Calls Tryz.prog 328 #[.pointer (some ⟨S,0,none⟩)] w fun e w'=>e=.returned (.tuple #[])∧Off [S,b] w w'∧SkAt w' S b mx (fold (x ::y ::r)) true:=by
 obtain⟨x1,x2,x3,x4,x5⟩:=hf.cel x (uA ..);obtain⟨y1,y2,y3,y4,y5⟩:=hf.cel y (uC _ (uA ..));have hkx:=Maps.keyOf_int_mk (P:=Tryz.prog) (k:=3) Tryz.underlying3 (key_wf x1 x2);have hky:=Maps.keyOf_int_mk (P:=Tryz.prog) (k:=3) Tryz.underlying3 (key_wf y1 y2);have hxy:x.1<y.1:=by
  have:=(List.pairwise_cons.1 hf.up).1 y (uA ..);simpa[iLt] using this
 have ht:x.2.weight+(y.2.weight+tot r)≤1152921504606846976:=hf.tot;have h0:=tot_nonneg (l:=r) fun c hc=>(hf.cel c (uC _ (uC _ hc))).2.2.2.2
 have hsum:y.2.weight+x.2.weight≤1152921504606846976:=by omega
 have ex:Im.elemOf cv zC x.1 (x ::y ::r)=.agg #[.int .i64 x.2.stands,.int .i64 x.2.weight]:=by
  unfold Im.elemOf;rw[getE_cons_eq rfl];rfl
 have ey:Im.elemOf cv zC y.1 (x ::y ::r)=.agg #[.int .i64 y.2.stands,.int .i64 y.2.weight]:=by
  unfold Im.elemOf;rw[getE_cons_ne (by omega),getE_cons_eq rfl];rfl
 have hris:=rising S b mx _ f w h hf.up hf.len;have HF:=hide hf;have HS:=hide h;clear ht h0 hf h;go_enter Tryz.func328,Tryz.ntmps328
 go_wp2_with fail
 refine hris.mono ?_;clear hris;rintro e w1 ⟨v,rfl,hrow,hb1⟩;obtain⟨g,cap,rfl,hcap,hbg,hgl,g0⟩:=row_cell (i:=0) hrow rfl;have g1:w1.cell? ⟨g,1,none⟩=some (.int .i64 y.1):=by
  obtain⟨g',cap',e1,_,_,_,h2⟩:=row_cell (i:=1) hrow rfl;injection e1 with e1 _ _;injection e1 with e1;injection e1 with e1;subst e1;exact h2
 have HB1:=hide hb1;have HS1:=hide (HS.out.keep hb1);have hn2:((x ::y ::r).length:Int)=(r.length:Int)+2:=by simp;omega
 have hlen2:2≤(x ::y ::r).length:=by simp
 clear hrow hb1 hbg hgl;generalize (x ::y ::r).length=nl at *;have hcap2:2≤cap:=by omega
 go_wp2_with fail
 go_quiet (fail)
 have HS2:=hide (show SkAt (w1.drewN nq) S b mx (x ::y ::r) f from HS1.out.keep (below_drewN' (Below.refl _ _)));have HB2:=hide (show Below w.heap.size w (w1.drewN nq) from below_drewN' HB1.out);clear g0 g1 HS1 HB1;generalize w1.drewN nq=w2 at *;have c1:=HS2.out.head.cell 1 _ rfl;have lx:=look_run HS2.out.map (int_keyed Tryz.underlying3) Tryz.underlying316 zeroC rfl iLit_same hkx w2.drew rfl;have ly:=look_run HS2.out.map (int_keyed Tryz.underlying3) Tryz.underlying316 zeroC rfl iLit_same hky w2.drew rfl;rw[ex]at lx;rw[ey]at ly;obtain⟨w4,hu,ho4,hg4⟩:=upd_run (lt:=iLt) (show Cells w2.drew b (x ::y ::r) from HS2.out.map) (int_keyed Tryz.underlying3) Tryz.underlying316 iLit_same iLit_before (by have:=HF.out.len;unfold maxLen;omega) hky ⟨y.2.stands,y.2.weight+x.2.weight⟩ rfl;simp only[cv]at hu;have HU:=hide ho4;have HG:=hide (show w2.grownBy w4 (some b) from⟨hg4.os,hg4.tape,hg4.output,hg4.size,hg4.block⟩);clear ho4 hg4 ex ey;have f0:=field0;have f1:=field1;go_wp2_with fail
 go_region
 all_goals
  have HH4:=hide (Foot.Sits.off HS2.out.head (grown_off' (F:=[b]) HG.out (by simp)) (by simpa using HS2.out.ne));clear c1 lx ly hu;have c1:=HH4.out.cell 1 _ rfl;obtain⟨w5,hd,ho5,hg5⟩:=del_run HU.out (int_keyed Tryz.underlying3) Tryz.underlying316 iLit_same hkx 0;have HD:=hide ho5;have HG5:=hide hg5;clear ho5 hg5;have HH5:=hide (Foot.Sits.off HH4.out (grown_off' (F:=[b]) HG5.out (by simp)) (by simpa using HS2.out.ne));have c2:=HH5.out.cell 2 _ rfl;have z2:=HH5.out.frozen 2;go_wp2_with fail
  go_end0
  have o1:Off [S,b] w w5:=((Off.of_below HB2.out).trans (grown_off' HG.out (by simp))).trans (grown_off' HG5.out (by simp));have hn:b≠S:=fun e=>HS2.out.ne e.symm
  refine⟨rfl,o1.set (by simp) _ _,HH5.out.set 2 _,?_⟩;have h5:=HD.out;rw[fold_is HF.out.up]at h5;exact Owns.at h5 (Below.heap_setCell _ _ _ _ hn)
end Go.Proofs.YtenegfafjjknoaaGreatDoor.Hk
namespace Go.Proofs.YtenegfafjjknoaaGreatDoor.Hk
open Go.RowKit Go.Maps Mem Foot Im Wm
theorem elem_wgt (n:Int)(l:List (Int×Cel)):∃st,Im.elemOf cv zC n l=.agg #[.int .i64 st,.int .i64 (wgt n l)]:=by
 unfold Im.elemOf wgt;cases getE n l with
 | none=>exact⟨0,rfl⟩
 | some c=>exact⟨c.stands,rfl⟩
theorem CFit.lay {l:List (Int×Cel)}(h:CFit l){v wt:Int}(h0:0≤v)(h1:v≤999999999)(h2:0≤wt)(ht:Wm.tot l+wt≤1152921504606846976)(hl:l.length<1000):CFit (lay v wt l):=by
 have hw:=wgt_le (k:=(bk v).1) (fun c hc=>(h.cel c hc).2.2.2.2);obtain⟨b1,b2,b3,b4⟩:=bk_fit h0 h1;refine⟨up_lay h.up,?_,fun c hc=>?_,by rw[tot_lay h.up];exact ht⟩
 ·have:=(put_length_le (lt:=iLt) (k:=(bk v).1) (b':=⟨(bk v).2,wgt (bk v).1 l+wt⟩) (Up.nodup iLt_irr h.up)).2;show (put _ _ _ _).length≤_;omega
 ·rcases mem_put hc with rfl|⟨hc,_⟩
  ·exact⟨b1,b2,b3,b4,by show 0≤wgt _ _+wt;omega⟩
  ·exact h.cel c hc
noncomputable def sadd (mx:Nat)(v wt:Int)(l:List (Int×Cel)):List (Int×Cel):=if mx<(lay v wt l).length then Wm.fold (lay v wt l) else lay v wt l
set_option maxRecDepth 10000 in
theorem addW (S b mx:Nat)(l:List (Int×Cel))(f:Bool)(v wt:Int)(w:World)(h:SkAt w S b mx l f)(hf:CFit l)(h0:0≤v)(h1:v≤999999999)(h2:0≤wt)(h3:wt≤1000)(ht:Wm.tot l+wt≤1152921504606846976)(hm:2≤mx)(hm':mx≤64)(hl:l.length≤mx):
  Calls Tryz.prog 297 #[.pointer (some ⟨S,0,none⟩),.int .i64 v,.int .i64 wt] w fun e w'=>e=.returned (.tuple #[])∧Off [S,b] w w'∧SkAt w' S b mx (sadd mx v wt l) (f||decide (mx<(lay v wt l).length)):=by
 have HF:=hide (CFit.lay hf h0 h1 h2 ht (by omega));have hwg:=wgt_le (k:=(bk v).1) (fun c hc=>(hf.cel c hc).2.2.2.2);have hbf:=bk_fit h0 h1;have HS:=hide h;have HL:=hide hl;clear hl hf h;go_enter Tryz.func297,Tryz.ntmps297
 go_wp2_with fail
 refine(Bkw.skBucket v _).mono ?_;rintro e w' ⟨⟨n,s,rfl,hb⟩,rfl⟩;have hbk:=bk_of hb;rw[hbk]at hwg hbf;simp only at hwg hbf;obtain⟨n0,n1,s0,s1⟩:=hbf;obtain⟨w0,w1⟩:=hwg;have hkey:=Maps.keyOf_int_mk (P:=Tryz.prog) (k:=3) Tryz.underlying3 (key_wf n0 n1);obtain⟨st,hst⟩:=elem_wgt n l;have c1:=HS.out.head.cell 1 _ rfl;have lx:=look_run HS.out.map (int_keyed Tryz.underlying3) Tryz.underlying316 zeroC rfl iLit_same hkey w.drew rfl;rw[hst]at lx;obtain⟨w4,hu,ho4,hg4⟩:=upd_run (lt:=iLt) (show Cells w.drew b l from HS.out.map) (int_keyed Tryz.underlying3) Tryz.underlying316 iLit_same iLit_before (by have:=HL.out;unfold maxLen;omega) hkey ⟨s,wgt n l+wt⟩ rfl;have e1:put iLt n ⟨s,wgt n l+wt⟩ l=lay v wt l:=by
  unfold lay;rw[hbk]
 rw[e1]at ho4;simp only[cv]at hu;have HU:=hide (show Cells w4 b (lay v wt l) from ho4);have HG:=hide (show w.grownBy w4 (some b) from⟨hg4.os,hg4.tape,hg4.output,hg4.size,hg4.block⟩);have f1:=field1;have hsum:wgt n l+wt≤1152921504606846976:=by omega
 generalize wgt n l=wg at *;clear ho4 hg4 e1 hbk hb hst w1 ht;go_wp2_with fail
 go_region
 all_goals
  clear c1 lx hu f1;have HO:=hide (grown_off' (F:=[S,b]) HG.out (by simp));have HS4:=hide (show SkAt w4 S b mx (lay v wt l) f from⟨Foot.Sits.off HS.out.head (grown_off' (F:=[b]) HG.out (by simp)) (by simpa using HS.out.ne),HU.out⟩);have c0:=HS4.out.head.cell 0 _ rfl;have c1:=HS4.out.head.cell 1 _ rfl;have hlen:=fun ty=>len_run HS4.out.map Tryz.underlying316 ty w4.drew rfl
  have HS5:=hide (show SkAt w4.drew S b mx (lay v wt l) f from HS4.out.keep (below_drewN' (n:=1) (Below.refl _ _)));by_cases hgt:mx<(lay v wt l).length
  ·have hz:(mx:Int)<((lay v wt l).length:Int):=by omega
   have HE:=hide (show sadd mx v wt l=Wm.fold (lay v wt l)∧(f||decide (mx<(lay v wt l).length))=true from⟨by rw[sadd,if_pos hgt],by simp[hgt]⟩);obtain⟨x,y,r,hxy⟩:∃x y r,lay v wt l=x ::y ::r:=by
    match hlay:lay v wt l with
    | []=>rw[hlay]at hgt;simp at hgt
    | [a]=>rw[hlay]at hgt;simp at hgt;omega
    | a ::c ::r=>exact⟨a,c,r,rfl⟩
   have hfo:=foldW S b mx x y r f w4.drew (by rw[←hxy];exact HS5.out) (by rw[←hxy];exact HF.out);rw[←hxy]at hfo;have HXY:=hide hxy;clear hxy hgt;generalize (lay v wt l).length=nl at hlen hz;go_wp2_with fail
   go_region
   all_goals
    go_wp2_with fail
    refine hfo.mono ?_;clear hfo;rintro e w6 ⟨rfl,ho,hs⟩;have HO6:=hide ho;have HS6:=hide hs;clear ho hs;go_wp2_with fail
    go_end0
    refine⟨rfl,(HO.out.drewN 1).trans HO6.out,?_⟩;rw[HE.out.1,HE.out.2];exact HS6.out
  ·have hz:((lay v wt l).length:Int)≤(mx:Int):=by omega
   have HE:=hide (show sadd mx v wt l=lay v wt l∧(f||decide (mx<(lay v wt l).length))=f from⟨by rw[sadd,if_neg hgt],by simp[hgt]⟩);clear hgt;generalize (lay v wt l).length=nl at hlen hz;go_wp2_with fail
   go_region
   all_goals
    go_wp2_with fail
    go_end0
    refine⟨rfl,HO.out.drewN 1,?_⟩;rw[HE.out.1,HE.out.2];exact HS5.out
end Go.Proofs.YtenegfafjjknoaaGreatDoor.Hk
namespace Go.Proofs.YtenegfafjjknoaaGreatDoor.Hk
open Go.RowKit Go.Maps Mem Foot Im Wm
theorem tot_append (a b:List (Int×Cel)):Wm.tot (a++b)=Wm.tot a+Wm.tot b:=by
 induction a with
 | nil=>simp[Wm.tot]
 | cons x r ih=>
  rw[List.cons_append,Wm.tot,Wm.tot,ih];omega
theorem tot_take {l:List (Int×Cel)}(h:∀c∈l,0≤c.2.weight)(i:Nat):0≤Wm.tot (l.take i)∧Wm.tot (l.take i)≤Wm.tot l:=by
 have e:=tot_append (l.take i) (l.drop i);rw[List.take_append_drop]at e;have h1:=tot_nonneg (l:=l.take i) fun c hc=>h c (List.mem_of_mem_take hc)
 have h2:=tot_nonneg (l:=l.drop i) fun c hc=>h c (List.mem_of_mem_drop hc)
 omega
theorem upto_step {k:Int}{l:List (Int×Cel)}{i:Nat}{c:Int×Cel}(hc:l[i]? = some c)(s:Int):upto k s (l.drop i)=if k<s+c.2.weight then c.2.stands else upto k (s+c.2.weight) (l.drop (i+1)):=by
 have e:l.drop i=c ::l.drop (i+1):=by
  obtain⟨h1,h2⟩:=uB.1 hc;rw[List.drop_eq_getElem_cons h1,h2]
 rw[e,upto]
theorem getE_at {l:List (Int×Cel)}(hu:Up iLt l){i:Nat}{c:Int×Cel}(hc:l[i]? = some c):getE c.1 l=some c.2:=by
 have hm:=uG hc;clear hc;have hn:=Up.nodup iLt_irr hu;clear hu
 induction l with
 | nil=>cases hm
 | cons x r ih=>
  rw[List.map_cons,List.nodup_cons]at hn;rcases List.mem_cons.1 hm with rfl|hm
  ·exact getE_cons_eq rfl
  ·rw[getE_cons_ne fun e=>hn.1 (List.mem_map.2 ⟨c,hm,e.symm⟩),ih hm hn.2]
set_option maxRecDepth 10000 in
theorem atW (S b mx:Nat)(l:List (Int×Cel))(f:Bool)(k:Int)(w:World)(h:SkAt w S b mx l f)(hf:CFit l):
  Calls Tryz.prog 256 #[.pointer (some ⟨S,0,none⟩),.int .i64 k] w fun e w'=>e=.returned (.int .i64 (upto k 0 l))∧Below w.heap.size w w':=by
 have hris:=rising S b mx _ f w h hf.up hf.len;have HF:=hide hf;have HS:=hide h;clear hf h;go_enter Tryz.func256,Tryz.ntmps256
 go_wp2_with fail
 refine hris.mono ?_;clear hris;rintro e w1 ⟨v,rfl,hrow,hb1⟩;have HR:=hide hrow;have HB:=hide hb1;have HS1:=hide (HS.out.keep hb1);have hlen:l.length≤1000:=HF.out.len;obtain⟨ao,cv',hv⟩:=Own.shape hrow;subst hv;have c1:=HS1.out.head.cell 1 _ rfl;clear hrow hb1;go_wp2_with fail
 go_loop [5,11] (fun s i=>∃j:Nat,i=.int .i64 (j:Int)∧j≤l.length∧s=.int .i64 (Wm.tot (l.take j))∧Hid (upto k 0 l=upto k (Wm.tot (l.take j)) (l.drop j))) (fun _ i=>l.length - (intOf i).toNat)
 case atStart=>exact⟨0,rfl,by omega,rfl,rfl⟩
 case round=>
  obtain⟨j,rfl,hj,rfl,HU⟩:=hrel;obtain⟨t0,t1⟩:=tot_take (l:=l) (fun c hc=>(HF.out.cel c hc).2.2.2.2) j;have t2:=HF.out.tot;by_cases hjl:j<l.length
  ·have hjz:(j:Int)<(l.length:Int):=by omega
   obtain⟨c,hc⟩:∃c,l[j]? = some c:=⟨_,List.getElem?_eq_getElem hjl⟩;obtain⟨k1,k2,k3,k4,k5⟩:=HF.out.cel c (uG hc);obtain⟨g,cap,hg,hcap,_,_,gc⟩:=row_cell (i:=j) (u:=.int .i64 c.1) HR.out (by rw[uD,hc];rfl);injection hg with hg1 hg2 hg3;subst hg1;subst hg3;have hkey:=Maps.keyOf_int_mk (P:=Tryz.prog) (k:=3) Tryz.underlying3 (key_wf k1 k2);have ec:Im.elemOf cv zC c.1 l=.agg #[.int .i64 c.2.stands,.int .i64 c.2.weight]:=by
    unfold Im.elemOf;rw[getE_at HF.out.up hc];rfl
   have lx:=look_run HS1.out.map (int_keyed Tryz.underlying3) Tryz.underlying316 zeroC rfl iLit_same hkey w1 rfl;rw[ec]at lx;have f0:=field0;have f1:=field1;have hstep:=HU.out.trans (upto_step hc _);have htk:Wm.tot (l.take (j+1))=Wm.tot (l.take j)+c.2.weight:=by
    rw[List.take_add_one,hc,tot_append];simp[Wm.tot]
   have hle:Wm.tot (l.take j)+c.2.weight≤1152921504606846976:=by
    have:=(tot_take (l:=l) (fun c hc=>(HF.out.cel c hc).2.2.2.2) (j+1)).2;omega
   have HST:=hide hstep;have HTK:=hide htk;clear hstep htk ec hc hg2;generalize Wm.tot (l.take j)=tj at *;by_cases hgt:k<tj+c.2.weight
   ·go_wp2_with fail
    go_ret
    refine⟨?_,HB.out⟩;rw[HST.out,if_pos hgt];rfl
   ·have hgt':tj+c.2.weight≤k:=by omega
    go_wp2_with fail
    go_round
    case rel=>
     refine⟨j+1,by go_num,by omega,?_,?_⟩
     ·rw[HTK.out]
     ·rw[HST.out,if_neg hgt,HTK.out];exact rfl
    case measure=>simp only[intOf];omega
  ·have hjz:¬(j:Int)<(l.length:Int):=by omega
   have hj2:j=l.length:=by omega
   have HE:=hide (show upto k 0 l=0 by rw[HU.out,hj2,List.drop_length];rfl);clear hj2;go_wp2_with fail
   go_ret
   exact⟨by rw[HE.out];rfl,HB.out⟩
end Go.Proofs.YtenegfafjjknoaaGreatDoor.Hk
namespace Go.Proofs.YtenegfafjjknoaaGreatDoor.Hk
open Go.RowKit Go.Maps Mem Foot Im Wm
structure TiAt (w:World)(T S b:Nat)(mx:Nat)(t:Tim):Prop where
 head:Sits w T 261 #[.int .i64 t.count,.int .i64 t.sum,.int .i64 t.least,.int .i64 t.greatest,.pointer (some ⟨S,0,none⟩)]
 sk:SkAt w S b mx t.cells t.folded
theorem sits_ne {w:World}{k k':Nat}{t t':TypeId}{cs cs':Array Value}(h:Sits w k t cs)(h':Sits w k' t' cs')(ht:t≠t'):k≠k':=by
 intro e;subst e;unfold Sits at h h';rw[h]at h';injection h' with h';injection h' with _ h2;exact ht h2
theorem TiAt.off {F:List Nat}{w w':World}{T S b mx:Nat}{t:Tim}(h:TiAt w T S b mx t)(ho:Off F w w')(hT:T∉F)(hS:S∉F)(hb:b∉F):TiAt w' T S b mx t:=
 ⟨Foot.Sits.off h.head ho hT,h.sk.off ho hS hb⟩
theorem TiAt.keep {w w':World}{T S b mx:Nat}{t:Tim}(h:TiAt w T S b mx t)(hb:Below w.heap.size w w'):TiAt w' T S b mx t:=
 h.off (F:=[]) (Off.of_below hb) (by simp) (by simp) (by simp)
theorem tiNew (mx:Nat)(w:World):Calls Tryz.prog 296 #[.int .i64 mx] w fun e w'=>∃T,e=.returned (.pointer (some ⟨T,0,none⟩))∧w.heap.size≤T∧TiAt w' T (w.heap.size+1) w.heap.size mx ⟨0,0,0,0,[],false⟩∧Below w.heap.size w w':=by
 go_enter Tryz.func296,Tryz.ntmps296
 go_wp2_with fail
 refine(skNew mx w).mono ?_;rintro e w1 ⟨rfl,hs,hb⟩;have HS:=hide hs;have HB:=hide hb;clear hs hb;go_wp2_with fail
 go_ret
 have hb2:Below w1.heap.size w1 (w1.alloc (.cells #[.int .i64 0,.int .i64 0,.int .i64 0,.int .i64 0,.pointer (some ⟨w.heap.size+1,0,none⟩)] 261)):=below_new _;exact⟨_,rfl,HB.out.size,⟨Sits.new _ _ _,HS.out.keep hb2⟩,HB.out.trans (hb2.mono HB.out.size)⟩
theorem cells5 {w:World}{b:Nat}{t:TypeId}{v0 v1 v2 v3 v4:Value}(h:Sits w b t #[v0,v1,v2,v3,v4]):
  w.cell? ⟨b,0,none⟩=some v0∧w.cell? ⟨b,1,none⟩=some v1∧w.cell? ⟨b,2,none⟩=some v2∧w.cell? ⟨b,3,none⟩=some v3∧w.cell? ⟨b,4,none⟩=some v4∧w.frozen? ⟨b,0,none⟩=false∧w.frozen? ⟨b,1,none⟩=false∧w.frozen? ⟨b,2,none⟩=false∧w.frozen? ⟨b,3,none⟩=false:=
 ⟨h.cell 0 _ rfl,h.cell 1 _ rfl,h.cell 2 _ rfl,h.cell 3 _ rfl,h.cell 4 _ rfl,h.frozen 0,h.frozen 1,h.frozen 2,h.frozen 3⟩
theorem CFit.of {L:Lim}{n:Nat}{t:Tim}(h:TFit L n t)(hn:n≤1000000000000000)(hL:L.buckets≤64):CFit t.cells:=
 ⟨h.up,by have:=h.len;omega,h.cel,by have:=h.tot;omega⟩
theorem off_set {F:List Nat}{w:World}{T j:Nat}{v:Value}(h:T∈F):Off F w (w.setCell ⟨T,j,none⟩ v):=(Off.refl F w).set h j v
theorem ti_done {w W w':World}{T S b mx:Nat}{t:Tim}{v wt:Int}{a0 a1 a2 a3:Int}(hN:T≠S∧T≠b)(hW:Off [T] w W)(hH:Sits W T 261 #[.int .i64 a0,.int .i64 a1,.int .i64 a2,.int .i64 a3,.pointer (some ⟨S,0,none⟩)])
  (e0:a0=(tadd mx t v wt).count) (e1:a1=(tadd mx t v wt).sum) (e2:a2=(tadd mx t v wt).least) (e3:a3=(tadd mx t v wt).greatest) (ho:Off [S,b] W w') (hs:SkAt w' S b mx (sadd mx v wt t.cells) (t.folded||decide (mx<(lay v wt t.cells).length))):
  Off [T,S,b] w w'∧TiAt w' T S b mx (tadd mx t v wt):=by
 refine⟨(hW.mono fun k _ hk=>by simp at hk ⊢;exact Or.inl hk).trans (ho.mono fun k _ hk=>by simp at hk ⊢;exact Or.inr hk),?_,hs⟩;rw[←e0,←e1,←e2,←e3];exact Foot.Sits.off hH ho (by simp;exact hN)
set_option maxRecDepth 10000 in
theorem tiAdd (T S b:Nat)(L:Lim)(n:Nat)(t:Tim)(v wt:Int)(w:World)(h:TiAt w T S b L.buckets t)(hf:TFit L n t)(hn:n≤1000000000000000)(hL:2≤L.buckets)(hL':L.buckets≤64)(h0:0≤v)(h1:v≤999999999)(h2:1≤wt)(h3:wt≤1000):
  Calls Tryz.prog 248 #[.pointer (some ⟨T,0,none⟩),.int .i64 v,.int .i64 wt] w fun e w'=>e=.returned (.tuple #[])∧Off [T,S,b] w w'∧TiAt w' T S b L.buckets (tadd L.buckets t v wt):=by
 have q1:=hf.count;have q2:=hf.sum;have hp0:0≤v*wt:=Int.mul_nonneg h0 (by omega);have hp1:v*wt≤999999999000:=by
  have:=Int.mul_le_mul h1 h3 (by omega) (by omega:(0:Int)≤999999999);omega
 have hs1:t.sum+v*wt≤2000000000000000:=by
  have:t.sum≤1000000000000000:=q2.2;omega
 have hs0:0≤t.sum+v*wt:=by omega
 have hc1:t.count+wt≤2000000000000000:=by
  have:t.count≤1000000000000000:=q1.2;omega
 have hc0:0≤t.count+wt:=by omega
 have hsk:=fun W (hW:SkAt W S b L.buckets t.cells t.folded)=>addW S b L.buckets t.cells t.folded v wt W hW (CFit.of hf hn hL') h0 h1 (by omega) h3 (by have:=hf.tot;omega) hL hL' hf.len
 obtain⟨c0,c1,c2,c3,c4,f0,f1,f2,f3⟩:=cells5 h.head;have HT:=hide h;have HF:=hide hf;have nTS:T≠S:=sits_ne h.head h.sk.head (by decide);have nTb:T≠b:=map_sits h.sk.map h.head;have HN:=hide (And.intro nTS nTb);have hbd:=bounded;clear h hf nTS nTb;by_cases hz:t.count=0
 ·go_enter Tryz.func248,Tryz.ntmps248
  go_wp2_with (go_at_call 249;refine(hbd _ _).mono ?_;rintro e w' ⟨rfl,rfl⟩)
  refine(hsk _ (HT.out.sk.off (F:=[T]) ((((((off_set (by simp)).set (by simp) _ _).set (by simp) _ _).set (by simp) _ _).set (by simp) _ _).set (by simp) _ _) (by simpa using fun e=>HN.out.1 e.symm) (by simpa using fun e=>HN.out.2 e.symm))).mono ?_;clear hsk;rintro e w2 ⟨rfl,ho,hs⟩;have HD:=hide (ti_done (t:=t) (v:=v) (wt:=wt) HN.out ((((((off_set (by simp)).set (by simp) _ _).set (by simp) _ _).set (by simp) _ _).set (by simp) _ _).set (by simp) _ _) ((((((HT.out.head.set 2 _).set 3 _).set 0 _).set 1 _).set 2 _).set 3 _) (by simp[tadd,hz]) (by simp[tadd]) (by simp[tadd,hz]) (by simp[tadd,hz]) ho hs);clear ho hs;go_wp2_with fail
  go_end0
  exact⟨rfl,HD.out⟩
 ·have HZ:=hide hz;go_enter Tryz.func248,Tryz.ntmps248
  go_wp2_with (go_at_call 249;refine(hbd _ _).mono ?_;rintro e w' ⟨rfl,rfl⟩)
  all_goals
   refine(hsk _ (HT.out.sk.off (F:=[T]) ((((off_set (by simp)).set (by simp) _ _).set (by simp) _ _).set (by simp) _ _) (by simpa using fun e=>HN.out.1 e.symm) (by simpa using fun e=>HN.out.2 e.symm))).mono ?_;clear hsk;rintro e w2 ⟨rfl,ho,hs⟩;have HD:=hide (ti_done (t:=t) (v:=v) (wt:=wt) HN.out ((((off_set (by simp)).set (by simp) _ _).set (by simp) _ _).set (by simp) _ _) ((((HT.out.head.set 0 _).set 1 _).set 2 _).set 3 _) (by simp[tadd]) (by simp[tadd]) (by simp[tadd,HZ.out]<;>omega) (by simp[tadd,HZ.out]<;>omega) ho hs);clear ho hs;go_wp2_with fail
   go_end0
   exact⟨rfl,HD.out⟩
end Go.Proofs.YtenegfafjjknoaaGreatDoor.Hk
namespace Go.Proofs.YtenegfafjjknoaaGreatDoor.Hb
open Go.RowKit Mem Foot Hk
theorem infoByte:(Tryz.prog.info? 5).map (fun i=>(i.zero,i.size,i.bytes))=some (some (.int .u8 0),1,1):=by kernel_rfl
theorem infoB:∃j,Tryz.prog.info? 130=some j∧j.size=2:=by
 have h:(Tryz.prog.info? 130).map (·.size)=some 2:=by kernel_rfl
 obtain⟨j,h1,h2⟩:=Option.map_eq_some_iff.1 h;exact⟨j,h1,h2⟩
structure BuAt (w:World)(B b:Nat)(v:Value)(bs:List UInt8):Prop where
 head:Sits w b 130 #[.pointer none,v]∨Sits w b 130 #[.pointer (some ⟨b,0,none⟩),v]
 row:w.ownsRow B 5 1 v bs.length (Lib.byteCells bs)
 base:B≤b
theorem copyCheck_used (b:Nat)(w:World)(h0:w.cell? ⟨b,0,none⟩=some (.pointer (some ⟨b,0,none⟩))):
  Calls Tryz.prog 143 #[.pointer (some ⟨b,0,none⟩)] w fun e w'=>e=.returned (.tuple #[])∧w'=w:=by
 obtain⟨j,hj,_⟩:=infoB;have hne:=Lib.run_neq_ptr_same (P:=Tryz.prog) w ⟨b,0,none⟩ Tryz.underlying128 hj;go_enter Tryz.func143,Tryz.ntmps143
 go_wp2
 go_end0
 exact⟨rfl,rfl⟩
theorem lies:liesAt Tryz.prog Tryz.prog.depth 130 (2 / Tryz.prog.cellsOf 130) 0 130 1=true:=by kernel_rfl
set_option maxRecDepth 100000 in
theorem copyCheck_fresh (b:Nat)(w:World)(h0:w.cell? ⟨b,0,none⟩=some (.pointer none))(hsh:w.shape? b=some (130,2))(hfz:w.frozen? ⟨b,0,none⟩=false):
  Calls Tryz.prog 143 #[.pointer (some ⟨b,0,none⟩)] w fun e w'=>e=.returned (.tuple #[])∧w'=w.setCell ⟨b,0,none⟩ (.pointer (some ⟨b,0,none⟩)):=by
 obtain⟨j,hj,hjs⟩:=infoB;have hne:=fun w=>Lib.run_neq_ptr_same (P:=Tryz.prog) w ⟨b,0,none⟩ Tryz.underlying128 hj
 go_enter Tryz.func143,Tryz.ntmps143
 go_wp2
 rw[Lib.run_to_unsafe w ⟨b,0,none⟩ Tryz.underlying128 Tryz.underlying249 hj (by rw[hjs];decide) hsh (Nat.zero_lt_succ 1)];simp only[Result.andThen];rw[Oper.upon_value];go_wp2
 rw[run_callFunc_extern Tryz.func189 (by kernel_rfl) (by kernel_rfl) (by kernel_rfl) (e:=Extern.AbiNoEscape.same) (by kernel_rfl)];rw[Lib.run_noEscape];simp only[Result.andThen];rw[Oper.upon_value];go_wp2
 rw[Lib.run_from_unsafe w ⟨b,0,none⟩ Tryz.underlying249 Tryz.underlying128 hj hsh lies];simp only[Result.andThen];rw[Oper.upon_value];go_wp2
 go_end0
 exact⟨rfl,rfl⟩
theorem copyCheck (B b:Nat)(v:Value)(bs:List UInt8)(w:World)(h:BuAt w B b v bs):
  Calls Tryz.prog 143 #[.pointer (some ⟨b,0,none⟩)] w fun e w'=>e=.returned (.tuple #[])∧Off [b] w w'∧Sits w' b 130 #[.pointer (some ⟨b,0,none⟩),v]:=by
 rcases h.head with h1|h1
 ·refine(copyCheck_fresh b w (h1.cell 0 _ rfl) ?_ (h1.frozen 0)).mono ?_
  ·unfold Sits at h1;simp[World.shape?,h1]
  ·rintro e w' ⟨rfl,rfl⟩;exact⟨rfl,(Off.refl _ w).set (by simp) _ _,h1.set 0 _⟩
 ·refine(copyCheck_used b w (h1.cell 0 _ rfl)).mono ?_;rintro e w' ⟨rfl,rfl⟩;exact⟨rfl,Off.refl _ _,h1⟩
theorem own_off2 {F:List Nat}{w w':World}{e:TypeId}{v:Value}{n base:Nat}{xs:List Value}{size:Nat}(h:w.ownsRow base e size v n xs)(ho:Off F w w')(hF:∀k∈v.ownBlock.toList,k∉F):w'.ownsRow base e size v n xs:=by
 refine⟨h.1,?_⟩;rcases h.2 with h0|⟨g,cap,cur,rfl,h1,hg,h2⟩
 ·exact Or.inl h0
 ·refine Or.inr ⟨g,cap,cur,rfl,h1,?_,h2⟩;rw[ho.block g (Array.getElem?_eq_some_iff.1 hg).1 (hF g (by simp[Value.ownBlock]))];exact hg
theorem sits_row {w:World}{base size n:Nat}{e:TypeId}{v:Value}{xs:List Value}(h:w.ownsRow base e size v n xs){k:Nat}(hk:k∈v.ownBlock.toList):∃cs,Sits w k e cs:=by
 have hk':v.ownBlock=some k:=by simpa using hk
 rcases h.2 with ⟨rfl,_⟩|⟨g,cap,cur,rfl,_,hg,_⟩
 ·simp[Value.ownBlock]at hk'
 ·simp[Value.ownBlock]at hk'
  subst hk';exact⟨cur,hg⟩
theorem grown_off {w w':World}{o:Option Nat}(h:w.grownBy w' o):Off o.toList w w':=
 ⟨h.os,h.tape,h.output,h.size,fun k hk hF=>h.block k hk (fun e=>hF (by simp[←e]))⟩
theorem BuAt.off {F:List Nat}{w w':World}{B b:Nat}{v:Value}{bs:List UInt8}(h:BuAt w B b v bs)(ho:Off F w w')(hb:b∉F)(hF:∀k∈v.ownBlock.toList,k∉F):BuAt w' B b v bs:=
 ⟨h.head.imp (fun h=>Foot.Sits.off h ho hb) (fun h=>Foot.Sits.off h ho hb),own_off2 h.row ho hF,h.base⟩
theorem BuAt.keep {w w':World}{B b:Nat}{v:Value}{bs:List UInt8}(h:BuAt w B b v bs)(hb:Below w.heap.size w w'):BuAt w' B b v bs:=
 h.off (F:=[]) (Off.of_below hb) (by simp) (by simp)
def bfoot (b:Nat)(v:Value):List Nat:=b ::v.ownBlock.toList
theorem BuAt.noT {w:World}{B b:Nat}{v:Value}{bs:List UInt8}(h:BuAt w B b v bs)(t:TypeId)(n1:t≠130)(n2:t≠5):∀k cs,Sits w k t cs→k∉bfoot b v:=by
 intro k cs hk hm;rcases List.mem_cons.1 hm with e|e
 ·rcases h.head with h1|h1<;>exact sits_ne hk h1 n1 e
 ·obtain⟨cs',h1⟩:=sits_row h.row e;exact sits_ne hk h1 n2 rfl
set_option maxRecDepth 10000 in
theorem writeString (B b:Nat)(v:Value)(bs:List UInt8)(s:ByteArray)(w:World)(h:BuAt w B b v bs)(hlen:bs.length+s.size≤140737488355328):
  Calls Tryz.prog 90 #[.pointer (some ⟨b,0,none⟩),.string s] w fun e w'=>e=.returned (.tuple #[.int .i64 s.size,.nilIface])∧Off (bfoot b v) w w'∧∃v',BuAt w' B b v' (bs++Bytes.B s):=by
 obtain⟨i0,hi,hz0,hz1,hz2⟩:=info_parts infoByte;have hcc:=copyCheck B b v bs w h;have HB:=hide h;clear h;go_enter Tryz.func90,Tryz.ntmps90
 go_wp2_with fail
 refine hcc.mono ?_;clear hcc;rintro e w1 ⟨rfl,ho1,hs1⟩;have hne:∀k∈v.ownBlock.toList,k∉[b]:=fun k hk hm=>by
  rw[uH]at hm;obtain⟨cs',h1⟩:=sits_row HB.out.row hk;rcases HB.out.head with h2|h2<;>exact sits_ne h1 h2 (by decide) hm
 have hown:w1.ownsRow B 5 1 v bs.length (Lib.byteCells bs):=own_off2 HB.out.row ho1 hne;have c1:=hs1.cell 1 _ rfl;have hBw:B≤w1.heap.size:=by
  have h1:=HB.out.base;have h2:=hs1.lt;omega
 have HO:=hide ho1;have HS:=hide hs1;have HN:=hide hne;clear ho1 hs1 hne;obtain⟨ao,cp,rfl⟩:=Own.shape hown;go_wp2_with (at_builtin;refine Lib.wpList_append_own_string _ rfl _ _ 97 9 rfl B 5 i0 Tryz.underlying97 Tryz.underlying9 hi hz0 hz1 hz2 _ _ _ rfl hown s rfl (by unfold maxLen;omega) (by omega) hBw ?_;intro v' w2 hown' hgrow _;obtain⟨ao',cp',rfl⟩:=Own.shape hown';have HG:=hide (show w1.grownBy w2 (Value.slice ao bs.length cp).ownBlock from hgrow);have HS2:=hide (Foot.Sits.off HS.out (grown_off HG.out) (fun hm=>HN.out b hm (by simp)));have d1:=HS2.out.cell 1 _ rfl;have z1:=HS2.out.frozen 1)
 go_ret2
 have HO2:Off (bfoot b (Value.slice ao bs.length cp)) w (w2.setCell ⟨b,1,none⟩ (.slice ao' (bs.length+s.size) cp')):=
  (((HO.out.mono fun k _ hk=>by rw[uH]at hk;rw[hk];exact uA ..).trans ((grown_off HG.out).mono fun k _ hk=>uC _ hk)).set (uA ..) _ _)
 refine⟨rfl,HO2,_,Or.inr (HS2.out.set 1 _),?_,HB.out.base⟩;have e1:Lib.byteCells (bs++Bytes.B s)=Lib.byteCells bs++Lib.strCells s:=by simp[Lib.byteCells,Lib.strCells,Bytes.B]
 rw[e1,List.length_append,←Bytes.size_B];refine own_off2 hown' ((Off.refl [b] w2).set (by simp) _ _) fun k hk hm=>?_
 rw[uH]at hm;obtain⟨cs',h1⟩:=sits_row hown' hk;exact sits_ne h1 HS2.out (by decide) hm
end Go.Proofs.YtenegfafjjknoaaGreatDoor.Hb
namespace Go.Proofs.YtenegfafjjknoaaGreatDoor.Hs
open Go.RowKit Go.Maps Mem Foot Im Wm Hk Hb
def hst (x:Int)(c:UInt8):Int:=bits .xor .u32 x ((c.toNat:Int) % 4294967296)*16777619 % 4294967296
def hsh (l:Bs):Int:=l.foldl hst 2166136261
theorem hsh_range (l:Bs):0≤hsh l∧hsh l≤4294967295:=by
 unfold hsh;rcases List.eq_nil_or_concat l with rfl|⟨r,c,rfl⟩
 ·decide
 ·rw[List.concat_eq_append,List.foldl_append];simp only[List.foldl_cons,List.foldl_nil,hst];omega
theorem hashW (s:ByteArray)(hs:s.size≤1000)(w:World):Calls Tryz.prog 325 #[.string s] w fun e w'=>e=.returned (.int .u32 (hsh (Bytes.B s)))∧w'=w:=by
 go_enter Tryz.func325,Tryz.ntmps325
 go_wp2
 go_loop [3,7] (fun h i=>∃(x:Int) (k:Nat),h=.int .u32 x∧i=.int .i64 k∧k≤s.size∧0≤x∧x≤4294967295∧Hid (x=hsh ((Bytes.B s).take k))) (fun _ i=>s.size - (intOf i).toNat)
 case atStart=>exact⟨2166136261,0,rfl,rfl,by omega,by omega,by omega,rfl⟩
 case round=>
  obtain⟨x,k,rfl,rfl,hk,h0,h1,HX⟩:=hrel;by_cases hkl:k<s.size
  ·have hkz:(k:Int)<(s.size:Int):=by omega
   have e:hsh ((Bytes.B s).take (k+1))=hst x s[k]:=by
    rw[HX.out,List.take_add_one,Bytes.B_get hkl];unfold hsh;rw[Option.toList_some,List.foldl_append];rfl
   have HE:=hide e;have hr:=hsh_range ((Bytes.B s).take (k+1));rw[e]at hr;have HR:=hide hr;clear e hr;go_wp2
   refine⟨⟨hst x s[k],k+1,rfl,by go_num,by omega,HR.out.1,HR.out.2,HE.out.symm⟩,?_⟩;simp only[intOf];omega
  ·have hkz:¬(k:Int)<(s.size:Int):=by omega
   have hk2:k=s.size:=by omega
   have HE:=hide (show x=hsh (Bytes.B s) by rw[HX.out,hk2,Bytes.size_B,List.take_length]);clear hk2;go_wp2
   go_ret
   exact⟨by rw[←HE.out];rfl,rfl⟩
end Go.Proofs.YtenegfafjjknoaaGreatDoor.Hs
namespace Go.Proofs.YtenegfafjjknoaaGreatDoor.Hi
open Go.RowKit Go.Maps Mem Foot Im Wm Hk Hb Plainw
theorem dd_len20 {u:Nat}(h:u<10 ^ 19):(Lib.decDigits u).length≤19:=by
 rw[Lib.decDigits_length];exact Plain.nd_le 18 _ h
theorem itoa_len {n:Int}(h0:-9223372036854775808≤n)(h1:n≤9223372036854775807):(Lib.itoa n).length≤20:=by
 unfold Lib.itoa;split
 ·have:=dd_len20 (u:=n.natAbs) (by omega);simp only[uE];omega
 ·have:=dd_len20 (u:=n.toNat) (by omega);omega
theorem itoaG (n:Int)(h0:-9223372036854775808≤n)(h1:n≤9223372036854775807)(w:World)(ht:Tab w):
  Calls Tryz.prog 91 #[.int .i64 n] w fun e w'=>(∃z,e=.returned (.string z)∧Bytes.B z=Lib.itoa n∧z.size≤20)∧Below w.heap.size w w':=by
 refine(Tryz.strconv_Itoa n h0 h1 w ht).mono fun e w' h=>?_
 obtain⟨he,k,os,hw⟩:=h;subst hw;refine⟨⟨_,he,rfl,?_⟩,below_grow _ _ _⟩;rw[Bytes.size_B];exact itoa_len h0 h1
theorem joinBlanks (G cap:Nat)(ls:List (List UInt8))(w:World)(hG1:G<w.heap.size)(hG2:ls.length≤cap)(hG3:∀j x,ls[j]? = some x→w.cell? ⟨G,j,none⟩=some (.string ⟨x.toArray⟩))(hl:ls.length≤140737488355328)(hz:(Lib.join ls [32]).length≤140737488355328):
  Calls Tryz.prog 137 #[.slice (some ⟨G,0,none⟩) ls.length cap,.string ⟨#[32]⟩] w fun e w'=>(∃z,e=.returned (.string z)∧Bytes.B z=Lib.join ls [32])∧Below w.heap.size w w':=by
 have em:(ls.map fun x=>(⟨x.toArray⟩:ByteArray)).map (fun x=>x.data.toList)=ls:=by
  rw[List.map_map];exact List.map_id ls
 have hj:=Tryz.strings_Join G 0 cap (ls.map fun x=>⟨x.toArray⟩) ⟨#[32]⟩ w (fun j x hx=>by
   rw[uD,Option.map_eq_some_iff]at hx;obtain⟨y,hy,rfl⟩:=hx;rw[Nat.zero_add];exact hG3 j y hy) hG1 (by rw[uF];exact hl) (by rw[uF];exact hG2) (by rw[em];exact hz)
 rw[uF,em]at hj;refine hj.mono fun e w' h=>?_
 obtain⟨he,hb⟩:=h;exact⟨⟨_,he,rfl⟩,hb⟩
theorem made (t e:TypeId)(z:Value)(by_:Nat)(ht:Tryz.prog.underlying t=some (.slice e))(hi:(Tryz.prog.info? e).map (fun i=>(i.zero,i.size,i.bytes))=some (some z,1,by_))(n:Nat)(hb:by_*n≤281474976710656)(hn:n≤281474976710656)(w:World):
  ∃cs:Array Value,cs.size=n∧(Instr.makeSlice t (.int .i64 (n:Int)) (.int .i64 (n:Int))).run Tryz.prog w=.ok (.slice (some ⟨w.heap.size,0,none⟩) n n) (w.alloc (.cells cs e)):=by
 obtain⟨i,hi,hz0,hz1,hz2⟩:=info_parts hi;have h:=run_make (P:=Tryz.prog) w t e i z ht hi hz0 .i64 .i64 (n:Int) (n:Int) (by omega) (Int.le_refl _) (by
  rw[hz2];have h1:((by_*n:Nat):Int)≤281474976710656:=by omega
  rwa [Int.natCast_mul]at h1) (by omega)
 rw[hz1,Nat.mul_one,Int.toNat_natCast]at h;exact⟨_,size_madeCells _ _,h⟩
theorem infoS:(Tryz.prog.info? 9).map (fun i=>(i.zero,i.size,i.bytes))=some (some (.string ⟨#[]⟩),1,16):=by kernel_rfl
set_option maxRecDepth 10000 in
theorem joined (g cap:Nat)(xs:List Int)(w:World)(ht:Tab w)(hg:g<w.heap.size)(hcap:xs.length≤cap)(hx:∀(j:Nat) x,xs[j]? = some x→w.cell? ⟨g,j,none⟩=some (.int .i64 x))(hr:∀x∈xs,-9223372036854775808≤x∧x≤9223372036854775807)(hn:xs.length=8):
  Calls Tryz.prog 194 #[.slice (some ⟨g,0,none⟩) 8 cap] w fun e w'=>(∃z,e=.returned (.string z)∧Bytes.B z=Lib.join (xs.map Lib.itoa) [32])∧Below w.heap.size w w':=by
 have HT:=hide ht;have HX:=hide hx;have HR:=hide hr;clear ht hx hr;obtain⟨cs0,hcs0,hmk⟩:=made 36 9 _ 16 Tryz.underlying36 infoS 8 (by omega) (by omega) w;obtain⟨G,hG⟩:∃G,w.heap.size=G:=⟨_,rfl⟩;have HS0:=hide (Sits.new w 9 cs0);have HB0:=hide (below_new (w:=w) (.cells cs0 9));have HGE:=hide hG;rw[hG]at hmk HS0;have hmk':(Instr.makeSlice 36 (.int .i64 8) (.int .i64 8)).run Tryz.prog w=.ok (.slice (some ⟨G,0,none⟩) 8 8) (w.alloc (.cells cs0 9)):=hmk;clear hmk hG;generalize w.alloc (.cells cs0 9)=w0 at *;go_enter Tryz.func194,Tryz.ntmps194
 go_wp2_with fail
 go_loopw [11] (fun i wr=>∃k:Nat,i=.int .i64 (k:Int)∧k≤8∧Hid (∃cs:Array Value,Sits wr G 9 cs∧cs.size=8∧(∀(j:Nat) x,j<k→xs[j]? = some x→cs[j]? = some (.string ⟨(Lib.itoa x).toArray⟩))∧Below w.heap.size w wr)) (fun i _=>8 - (intOf i).toNat)
 case atStart=>exact⟨0,rfl,by omega,cs0,HS0.out,hcs0,fun j x h=>by omega,HB0.out⟩
 case round=>
  obtain⟨k,rfl,hk,HI⟩:=hrel;by_cases hk8:k<8
  ·have hkz:(k:Int)<8:=by omega
   obtain⟨cs,hS,hsz,hdone,hB⟩:=HI.out;obtain⟨x,hxk⟩:∃x,xs[k]? = some x:=⟨_,List.getElem?_eq_getElem (by omega)⟩;have gc:wr.cell? ⟨g,k,none⟩=some (.int .i64 x):=(hB.cell (p:=⟨g,k,none⟩) hg).trans (HX.out k x hxk);obtain⟨r0,r1⟩:=HR.out x (uG hxk);have htab:Tab wr:=HT.out.below hB;have hit:=itoaG x r0 r1 wr htab;have HS:=hide hS;have HDn:=hide hdone;have HB:=hide hB;have HXK:=hide hxk;have hcapk:k<cap:=by omega
   clear hS hdone hB hxk htab r0 r1;go_wp2_with fail
   refine hit.mono ?_;clear hit;rintro e w2 ⟨⟨z,rfl,hz,hzs⟩,hb2⟩;have HZ:=hide hz;have HS2:=hide (HS.out.below hb2 HS.out.lt);have HB2:=hide (HB.out.trans (hb2.mono HB.out.size));have c0:=HS2.out.cell k (cs[k]'(by omega)) (by simp[hsz,hk8]);have f0:=HS2.out.frozen k;clear hz hb2 gc;go_wp2_with fail
   go_roundw
   case rel=>
    refine⟨k+1,by go_num,by omega,_,HS2.out.set k _,by simp[hsz],fun j y hj hy=>?_,?_⟩
    ·by_cases e:j=k
     ·subst e;rw[HXK.out]at hy;cases hy
      have:z=⟨(Lib.itoa x).toArray⟩:=Bytes.B_inj (by rw[HZ.out];rfl);rw[this];simp[hsz,hk8]
     ·rw[Array.getElem?_setIfInBounds_ne (fun h=>e h.symm)];exact HDn.out j y (by omega) hy
    ·exact HB2.out.setCell (p:=⟨G,k,none⟩) (by have:=HGE.out;simp;omega) _
   case measure=>simp only[intOf];omega
  ·have hkz:¬(k:Int)<8:=by omega
   have hk2:k=8:=by omega
   subst hk2;obtain⟨cs,hS,hsz,hdone,hB⟩:=HI.out;have hlen:(xs.map Lib.itoa).length=8:=by simpa using hn
   have hjn:=joinBlanks G 8 (xs.map Lib.itoa) wr hS.lt (by omega) (fun j x hx=>by
    rw[uD,Option.map_eq_some_iff]at hx;obtain⟨y,hy,rfl⟩:=hx;have hj:j<xs.length:=(uB.1 hy).1;exact hS.cell j _ (hdone j y (by omega) hy)) (by omega) (by
    have:∀ls:List (List UInt8),(∀x∈ls,x.length≤20)→(Lib.join ls [32]).length≤21*ls.length:=by
     intro ls
     induction ls with
     | nil=>intro _;simp[Lib.join_nil]
     | cons x r ih=>
      intro hx;have h1:=hx x (uA ..);have h2:=ih fun y hy=>hx y (uC _ hy)
      cases r with
      | nil=>
       rw[Lib.join_one];simp
       omega
      | cons y r=>
       have e:Lib.join (x ::y ::r) [32]=x++32 ::Lib.join (y ::r) [32]:=by simp[Lib.join]
       rw[e];simp only[List.length_append,uE]at h2 ⊢;omega
    have:=this (xs.map Lib.itoa) fun y hy=>by
     obtain⟨x,hx,rfl⟩:=List.mem_map.1 hy;obtain⟨r0,r1⟩:=HR.out x hx;exact itoa_len r0 r1
    omega)
   rw[hlen]at hjn;have HB:=hide hB;clear hS hdone hB hlen;go_wp2_with fail
   refine hjn.mono ?_;clear hjn;rintro e w2 ⟨⟨z,rfl,hz⟩,hb2⟩;have HZ:=hide hz;have HB2:=hide (HB.out.trans (hb2.mono HB.out.size));clear hz hb2;go_wp2_with fail
   go_ret
   exact⟨⟨z,rfl,HZ.out⟩,HB2.out⟩
end Go.Proofs.YtenegfafjjknoaaGreatDoor.Hi
namespace Go.Proofs.YtenegfafjjknoaaGreatDoor.Jr
open Go.RowKit Mem Foot Bytes Im Wm Hi Plainw Cq
def wrec (k:List UInt8)(n:Int)(t:List UInt8):List UInt8:=k++Lib.itoa n++[58]++Lib.itoa t.length++[58]++t++[10]
theorem itoa_len {v:Int}(h0:-9223372036854775808≤v)(h1:v≤9223372036854775807):(Lib.itoa v).length≤20:=by
 unfold Lib.itoa;split
 ·have:=Plain.nd_le 18 v.natAbs (by omega);rw[uE,Lib.decDigits_length];omega
 ·have:=Plain.nd_le 18 v.toNat (by omega);rw[Lib.decDigits_length];omega
set_option maxRecDepth 10000 in
theorem written (kb:ByteArray)(n:Int)(tb:ByteArray)(w:World)(hT:Tab w)(hk:kb.size≤1000)(hn0:-9223372036854775808≤n)(hn1:n≤9223372036854775807)(ht:tb.size≤140737488355328):
  Calls Tryz.prog 217 #[.agg #[.string kb,.int .i64 n,.string tb]] w fun e w'=>(∃z,e=.returned (.string z)∧B z=wrec (B kb) n (B tb))∧Below w.heap.size w w':=by
 have HT:=hide hT;have HS1:=hide (Sits.new w 297 #[.string kb,.int .i64 n,.string tb]);have HB1:=hide (below_new (w:=w) (.cells #[.string kb,.int .i64 n,.string tb] 297));clear hT;go_enter Tryz.func217,Tryz.ntmps217
 go_upto_region 1 with fail
 obtain⟨X,hX⟩:∃X,w.heap.size=X:=⟨_,rfl⟩;rw[hX]at HS1 ⊢;clear hX;generalize w.alloc (.cells #[.string kb,.int .i64 n,.string tb] 297)=w1 at *;obtain⟨d1,hd1⟩:∃d1:ByteArray,B d1=Lib.itoa n:=⟨⟨(Lib.itoa n).toArray⟩,rfl⟩;obtain⟨d2,hd2⟩:∃d2:ByteArray,B d2=Lib.itoa (tb.size:Int):=⟨⟨(Lib.itoa (tb.size:Int)).toArray⟩,rfl⟩;have it:∀(v:Int) (d:ByteArray),B d=Lib.itoa v→-9223372036854775808≤v→v≤9223372036854775807→∀W:World,Tab W→Calls Tryz.prog 91 #[.int .i64 v] W fun e w'=>e=.returned (.string d)∧Below W.heap.size W w':=fun v d hd h0 h1 W hW=>
  (itoaG v h0 h1 W hW).mono fun e w' ⟨⟨z,e1,e2,_⟩,e3⟩=>⟨by
   have e4:z=d:=Bytes.B_inj (by rw[e2,hd]);rw[e1,e4],e3⟩
 have s1:d1.size≤20:=by
  rw[Bytes.size_B,hd1];exact itoa_len hn0 hn1
 have s2:d2.size≤20:=by
  rw[Bytes.size_B,hd2];exact itoa_len (by omega) (by omega)
 have HA1:=hide (fun q:Bw w1=>call_cls (it n d1 hd1 hn0 hn1 q.val ((HT.out.below HB1.out).below q.is)));have HA2:=hide (fun q:Bw w1=>call_cls (it (tb.size:Int) d2 hd2 (by omega) (by omega) q.val ((HT.out.below HB1.out).below q.is)));have D:∀q:Bw w1,Sits q.val X 297 _:=fun q=>Mem.Sits.below HS1.out q.is HS1.out.lt
 have C0:∀q:Bw w1,q.val.cell? ⟨X,0,none⟩=some (.string kb):=fun q=>(D q).cell 0 _ rfl
 have C1:∀q:Bw w1,q.val.cell? ⟨X,1,none⟩=some (.int .i64 n):=fun q=>(D q).cell 1 _ rfl
 have C2:∀q:Bw w1,q.val.cell? ⟨X,2,none⟩=some (.string tb):=fun q=>(D q).cell 2 _ rfl
 have HD1:=hide hd1;have HD2:=hide hd2;clear D it hd1 hd2;refine region_cls (by kernel_rfl) (by kernel_rfl) ?_;repeat (first
  | go_big_quiet_skip
  | (go_big_quiet_want;go_big_quiet_op;first|go_big_quiet_on|(apply Exists.intro;refine⟨fun _=>?_,?_⟩;(go_at_call 91;first|exact HA1.out _|exact HA2.out _);go_big_quiet_on)))
 refine wpQuiet_nil ?_;rintro _ ⟨q,rfl⟩;have HBn:=hide (HB1.out.trans (q.is.mono HB1.out.size));clear C0 C1 C2;go_wp2_with fail
 go_ret
 refine⟨⟨_,rfl,?_⟩,HBn.out⟩;unfold wrec;rw[←Bytes.size_B tb];simp only[Bytes.B_append,HD1.out,HD2.out,List.append_assoc];rfl
def ErrV (w:World)(v:Value)(n:Int):Prop:=(n=0∧v=.nilIface)∨(n≠0∧∃b z,v=.iface 345 (.pointer (some ⟨b,0,none⟩))∧Sits w b 347 #[.string z,.iface 25 (.int .i64 n)])
theorem during (z:ByteArray)(n:Int)(w:World):Calls Tryz.prog 223 #[.string z,.int .i64 n] w fun e w'=>(∃v,e=.returned v∧ErrV w' v n)∧Below w.heap.size w w':=by
 by_cases hn:n=0
 ·subst hn;go_enter Tryz.func223,Tryz.ntmps223
  go_wp2_with fail
  go_ret
  exact⟨⟨_,rfl,Or.inl ⟨rfl,rfl⟩⟩,Below.refl _ _⟩
 ·have HN:=hide hn;go_enter Tryz.func223,Tryz.ntmps223
  go_wp2_with fail
  go_ret
  exact⟨⟨_,rfl,Or.inr ⟨HN.out,_,z,rfl,Sits.new w _ _⟩⟩,below_new _⟩
structure Jn where
 most:Int
 sealed:List (Int×List Int)
 opn:List Int
 synced:Nat
 uns:ByteArray
 next:Int
 greatest:Int
structure JA (w:World)(jb bx:Nat)(J:Jn)(mv ov:Value):Prop where
 head:Sits w jb 293 #[.pointer (some ⟨bx,0,none⟩),.int .i64 J.most,mv,ov,.int .i64 (J.synced:Int),.string J.uns,.int .i64 J.next,.int .i64 J.greatest]
 opn:w.ownsRow 0 3 1 ov J.opn.length (J.opn.map (Value.int .i64))
theorem cells8 {w:World}{b:Nat}{t:TypeId}{v0 v1 v2 v3 v4 v5 v6 v7:Value}(h:Sits w b t #[v0,v1,v2,v3,v4,v5,v6,v7]):
  w.cell? ⟨b,0,none⟩=some v0∧w.cell? ⟨b,1,none⟩=some v1∧w.cell? ⟨b,2,none⟩=some v2∧w.cell? ⟨b,3,none⟩=some v3∧w.cell? ⟨b,4,none⟩=some v4∧w.cell? ⟨b,5,none⟩=some v5∧w.cell? ⟨b,6,none⟩=some v6∧w.cell? ⟨b,7,none⟩=some v7:=
 ⟨h.cell 0 _ rfl,h.cell 1 _ rfl,h.cell 2 _ rfl,h.cell 3 _ rfl,h.cell 4 _ rfl,h.cell 5 _ rfl,h.cell 6 _ rfl,h.cell 7 _ rfl⟩
theorem row_ints {w:World}{base:Nat}{v:Value}{l:List Int}(h:w.ownsRow base 3 1 v l.length (l.map (Value.int .i64))){i:Nat}{x:Int}(hi:l[i]? = some x):∃g cap,v=.slice (some ⟨g,0,none⟩) l.length cap∧l.length≤cap∧g<w.heap.size∧w.cell? ⟨g,i,none⟩=some (.int .i64 x):=by
 have hl:=(uB.1 hi).1;rcases h.2 with ⟨_,h0⟩|⟨g,cap,cur,rfl,hb,hg,hn,_,_,ht⟩
 ·omega
 ·have hs:Sits w g 3 cur:=hg;have hu:(l.map (Value.int .i64))[i]? = some (.int .i64 x):=by rw[uD,hi];rfl
  rw[←ht,List.getElem?_take]at hu;split at hu
  ·exact⟨g,cap,rfl,hn,hs.lt,hs.cell i _ (by simpa using hu)⟩
  ·cases hu
theorem last (w:World)(jb bx:Nat)(J:Jn)(mv ov:Value)(h:JA w jb bx J mv ov)(l:List Int)(x:Int)(hl:J.opn=l++[x])(hb:J.opn.length≤1000000000):
  Calls Tryz.prog 222 #[.pointer (some ⟨jb,0,none⟩)] w fun e w'=>e=.returned (.int .i64 x)∧∃n,w'=w.drewN n:=by
 have hlen:J.opn.length=l.length+1:=by rw[hl];simp
 have hi:J.opn[l.length]? = some x:=by rw[hl];exact List.getElem?_concat_length
 obtain⟨g,cap,rfl,hcap,hg,hcell⟩:=row_ints h.opn hi;obtain⟨c0,c1,c2,c3,c4,c5,c6,c7⟩:=cells8 h.head;rw[hlen]at c3 hcap;have hlb:l.length≤1000000000:=by omega
 have hwr:IntKind.i64.wrap (l.length:Int)=(l.length:Int):=IntWalk.i64_in _ (by omega);clear hl hi h hlen;go_enter Tryz.func222,Tryz.ntmps222
 go_wp2_with fail
 go_quiet (fail)
 go_wp2_with fail
 go_ret
 exact⟨rfl,_,rfl⟩
def jhead (J:Jn):List UInt8:=if J.greatest = -1 then [] else wrec [98] J.greatest []
theorem head (w:World)(jb bx:Nat)(J:Jn)(mv ov:Value)(h:JA w jb bx J mv ov)(hT:Tab w)(h0:-9223372036854775808≤J.greatest)(h1:J.greatest≤9223372036854775807):
  Calls Tryz.prog 219 #[.pointer (some ⟨jb,0,none⟩)] w fun e w'=>(∃z,e=.returned (.string z)∧B z=jhead J)∧Below w.heap.size w w':=by
 obtain⟨c0,c1,c2,c3,c4,c5,c6,c7⟩:=cells8 h.head;have hw:=written ⟨#[98]⟩ J.greatest ⟨#[]⟩ w hT (by decide) h0 h1 (by decide);by_cases hg:J.greatest = -1
 ·have HJ:=hide (show jhead J=[] by unfold jhead;rw[if_pos hg]);rw[hg]at c7;clear hw hg h;go_enter Tryz.func219,Tryz.ntmps219
  go_wp2_with fail
  go_ret
  exact⟨⟨_,rfl,by rw[HJ.out];rfl⟩,Below.refl _ _⟩
 ·have HJ:=hide (show jhead J=wrec [98] J.greatest [] by unfold jhead;rw[if_neg hg]);clear h;go_enter Tryz.func219,Tryz.ntmps219
  go_wp2_with fail
  refine hw.mono ?_;clear hw;rintro e w1 ⟨⟨z,rfl,hz⟩,hb⟩;have HZ:=hide hz;have HB:=hide hb;clear hz hb c0 c1 c2 c3 c4 c5 c6 c7;go_wp2_with fail
  go_ret
  exact⟨⟨_,rfl,by rw[HJ.out,HZ.out];rfl⟩,HB.out⟩
def aboutB (z:ByteArray)(n:Int):ByteArray:=z++⟨#[32,115,101,103,109,101,110,116,32]⟩++⟨(Lib.itoa n).toArray⟩
theorem about (z:ByteArray)(hz:z.size≤1000)(n:Int)(hn0:-9223372036854775808≤n)(hn1:n≤9223372036854775807)(w:World)(hT:Tab w):
  Calls Tryz.prog 224 #[.string z,.int .i64 n] w fun e w'=>e=.returned (.string (aboutB z n))∧Below w.heap.size w w':=by
 have hit:=itoaG n hn0 hn1 w hT;go_enter Tryz.func224,Tryz.ntmps224
 go_wp2_with fail
 refine hit.mono ?_;clear hit;rintro e w1 ⟨⟨y,rfl,hy2,hy⟩,hb⟩;have HB:=hide hb;have HY:=hide (show y=⟨(Lib.itoa n).toArray⟩ from Bytes.B_inj (by rw[hy2];rfl));clear hb hy2;go_wp2_with fail
 go_ret
 refine⟨?_,HB.out⟩;unfold aboutB;rw[←HY.out];rfl
end Go.Proofs.YtenegfafjjknoaaGreatDoor.Jr
