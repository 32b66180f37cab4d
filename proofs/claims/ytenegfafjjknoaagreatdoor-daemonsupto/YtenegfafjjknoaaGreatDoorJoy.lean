/- Going backward through a row of numbers; segments deleted one by one. -/
import Derived.Test.YtenegfafjjknoaaGreatDoorJgy
import Derived.RangeFuncBound
import Derived.RangeFuncCalls
import Derived.RangeFuncLeaves
import Derived.RangeFuncNested
import Derived.RangeFuncFrom
import Derived.LoopNIn
import Derived.TacticsInMore
set_option maxHeartbeats 100000000
open List renaming mem_cons_self → uA, mem_cons_of_mem → uB, mem_append_right → uC, mem_cons → uD, Perm → uE, mem_flatMap → uF, mem_map → uG, getElem?_of_mem → uH, mem_singleton → uJ, length_append → uK, flatMap_cons → uL
open Nat renaming le_refl → uI
namespace Go.Proofs.YtenegfafjjknoaaGreatDoor.Jr
open Go.RowKit Go.Maps Mem Foot Bytes Im Wm Hi Plainw Cq Dm Dh
def jdels (S:Dk):List Int→Dk×Int
 | []=>(S,0)
 | n ::l=>if (doDelete S n).2≠0 then doDelete S n else jdels (doDelete S n).1 l
theorem jdels_append (S:Dk)(a b:List Int):jdels S (a++b)=if (jdels S a).2≠0 then jdels S a else jdels (jdels S a).1 b:=by
 induction a generalizing S with
 | nil=>simp[jdels]
 | cons n a ih=>
  have e:∀l,jdels S (n ::l)=if (doDelete S n).2≠0 then doDelete S n else jdels (doDelete S n).1 l:=fun _=>rfl
  rw[List.cons_append,e,e];by_cases h:(doDelete S n).2=0
  ·simp only[h,ne_eq,not_true_eq_false,if_false];exact ih _
  ·simp[h]
theorem jdels_one (S:Dk)(n:Int):jdels S [n]=doDelete S n:=by
 rw[jdels];by_cases h:(doDelete S n).2=0
 ·rw[if_neg (by simpa using h),jdels];exact Prod.ext rfl h.symm
 ·rw[if_pos h]
theorem jdels_fit {S:Dk}{k u:Nat}(h:Fit S k u)(l:List Int):Fit (jdels S l).1 k u:=by
 induction l generalizing S with
 | nil=>exact h
 | cons n l ih=>
  rw[jdels];split
  ·exact fit_delete h n
  ·exact ih (fit_delete h n)
def jfin (J:Jn)(S:Dk)(win:Int):Jn×Dk×Int:=
 if (jdels S ((getE win J.sealed).getD []).reverse).2≠0 then (J,(jdels S ((getE win J.sealed).getD []).reverse).1,(jdels S ((getE win J.sealed).getD []).reverse).2)
 else ({J with sealed:=del win J.sealed},(jdels S ((getE win J.sealed).getD []).reverse).1,0)
def jforget (J:Jn)(S:Dk)(win:Int):Jn×Dk×Int:=
 if win=J.greatest then (if (jkeep J S).2.2≠0 then jkeep J S else jfin (jkeep J S).1 (jkeep J S).2.1 win) else jfin J S win
abbrev Yd:={x:Int×Int // -9223372036854775808≤x.2∧x.2≤9223372036854775807}
def nums (l:List Yd):List Int:=l.map fun x=>x.1.2
theorem nums_append (a b:List Yd):nums (a++b)=nums a++nums b:=by simp[nums]
def KB (bl:List Nat)(W W':World):Prop:=∀k∈bl,W'.heap[k]? = W.heap[k]?
theorem KB.trans {bl:List Nat}{A B C:World}(h:KB bl A B)(k:KB bl B C):KB bl A C:=fun i hi=>(k i hi).trans (h i hi)
theorem sits_kb {bl:List Nat}{W W':World}{b:Nat}{t:TypeId}{cs:Array Value}(h:Sits W b t cs)(hk:KB bl W W')(hb:b∈bl):Sits W' b t cs:=(hk b hb).trans h
theorem row_kb {bl:List Nat}{W W':World}{base size n:Nat}{e:TypeId}{v:Value}{xs:List Value}(h:W.ownsRow base e size v n xs)(hk:KB bl W W')(hb:∀k∈v.ownBlock.toList,k∈bl):W'.ownsRow base e size v n xs:=by
 refine⟨h.1,?_⟩;rcases h.2 with h0|⟨g,cap,cur,rfl,h1,hg,h2⟩
 ·exact Or.inl h0
 ·exact Or.inr ⟨g,cap,cur,rfl,h1,(hk g (hb g (by simp[Value.ownBlock]))).trans hg,h2⟩
theorem backF (a:Option Addr)(n c:Nat)(w:World):Calls Tryz.prog 226 #[.slice a n c] w fun e w'=>e=.returned (.func (.func 273) #[] #[.pointer (some ⟨w.heap.size,0,none⟩)])∧w'=w.alloc (.cells #[.slice a n c] 48):=by
 go_enter Tryz.func226,Tryz.ntmps226
 go_wp2_with fail
 go_ret
 exact⟨rfl,rfl⟩
set_option maxRecDepth 10000 in
theorem backSeq (m:Nat)(hm:1≤m)(Bx:Nat)(sv:Value)(l:List Int)(w:World)(hbox:Sits w Bx 48 #[sv])(hrow:w.ownsRow 0 3 1 sv l.length (l.map (Value.int .i64)))(hr:∀x∈l,-9223372036854775808≤x∧x≤9223372036854775807)(hl:l.length≤1000000000):
  SeqStopsK Fence.wide m Tryz.prog 273 #[.pointer (some ⟨Bx,0,none⟩)] (fun x:Yd=>#[.int .i64 x.1.1,.int .i64 x.1.2]) (KB (Bx ::sv.ownBlock.toList)) (fun xs=>nums xs=l.reverse) (fun pre=>∃post,nums pre++post=l.reverse) l.length w:=by
 intro lp J Jx W hb hJ hJx hY h0;have HBX:=hide (Mem.Sits.below hbox hb hbox.lt);have HRW:=hide (own_keep hrow hb);have HY:=hide hY;have H0:=hide h0;have HR:=hide hr;clear hbox hrow hY h0 hr hb hJ hJx;obtain⟨oa,oc,hov⟩:=own_shapeJ HRW.out;have c0:=HBX.out.cell 0 _ rfl;rw[hov]at c0;have HOV:=hide hov;have hwr:IntKind.i64.wrap ((l.length:Int) - 1)=(l.length:Int) - 1:=IntWalk.i64_in _ (by omega);clear hov;refine callsIn_of_wp Tryz.func273 rfl trivial ?_ rfl;simp only[Tryz.ntmps273,List.size_toArray,List.length_cons,List.length_nil,Nat.reduceAdd,Nat.reduceSub,Array.replicate_succ,Array.replicate_zero,List.push_toArray,List.append_toArray,List.nil_append,List.cons_append];gi_wp2_with fail
 clear hwr c0;gi_loopw [3] (fun a wr=>∃(pre:List Yd) (k:Nat),a=.int .i64 ((k:Int) - 1)∧Hid (nums pre=(l.drop k).reverse)∧k+pre.length=l.length∧Hid (J pre wr)∧Hid (KB (Bx ::sv.ownBlock.toList) W wr)) (fun a _=>(intOf a+1).toNat)
 case atStart=>exact⟨[],l.length,rfl,by simp[nums,Hid],by simp,H0.out,fun _ _=>rfl⟩
 case round=>
  obtain⟨pre,k,rfl,HN,hkl,HJ,HK⟩:=hrel;cases k with
  | zero=>
   gi_wp2_with fail
   go_end0
   exact⟨⟨_,rfl⟩,.inl ⟨pre,by rw[HN.out];simp,HJ.out⟩⟩
  | succ k=>
   have hki:((k+1:Nat):Int) - 1=(k:Int):=by omega
   rw[hki];have hx:l[k]? = some (l[k]'(by omega)):=List.getElem?_eq_getElem _;generalize hxe:l[k]'(by omega)=x at hx;have hxr:=HR.out x (List.mem_of_getElem? hx);obtain⟨g,cap,hv,hcap,hg,hcell⟩:=row_ints (row_kb HRW.out HK.out (fun k hk=>uB _ hk)) hx;have c0:=(sits_kb HBX.out HK.out (uA ..)).cell 0 _ rfl;rw[hv]at c0;have hlt:(k:Int)<(l.length:Int):=by omega
   have hge:¬(k:Int)<0:=by omega
   obtain⟨fn,tmps,assign,body,hy,hR⟩:=HY.out pre ⟨((k:Int),x),hxr⟩ wr HJ.out (by omega);have HRR:=hide hR;have HN2:=hide (show nums (pre++[(⟨((k:Int),x),hxr⟩:Yd)])=(l.drop k).reverse by
    rw[nums_append,HN.out,List.drop_eq_getElem_cons (by omega:k<l.length),List.reverse_cons,hxe];rfl)
   simp only at hy;have HKL:=hide hkl;have HPO:=hide (show ∃post,nums (pre++[(⟨((k:Int),x),hxr⟩:Yd)])++post=l.reverse from⟨(l.take k).reverse,by
    rw[HN2.out,←List.reverse_append,List.take_append_drop]⟩)
   clear hR hki hxe hv hx hkl;gi_wp2_with fail
   refine HRR.out.mono ?_;rintro e W4 (⟨rfl,hJ4,hk4⟩|⟨rfl,hJx4⟩)
   ·have HJ4:=hide hJ4;have HK4:=hide (HK.out.trans hk4);clear hJ4 hk4;gi_wp2_with fail
    go_roundw
    case rel=>exact⟨pre++[⟨((k:Int),x),hxr⟩],k,rfl,HN2,by have:=HKL.out;simp;omega,HJ4,HK4⟩
    case measure=>simp only[intOf];omega
   ·have HJ4:=hide hJx4;clear hJx4;gi_wp2_with fail
    refine bodyPost_ret (results_none rfl _ _ _) rfl ?_;exact⟨⟨_,rfl⟩,.inr ⟨_,HPO.out,HJ4.out⟩⟩
theorem results_cell1 {P:Program}{fn:Func}{p:Tmp}{ty:TypeId}(h:fn.results=#[.cell p ty])(tmps:Array Value)(w:World)(a:Addr)(v:Value)(hp:tmps.getD p undef=.pointer (some a))(hl:(loadVar ty a).run P w=.ok v w):(results fn tmps).run P w=.ok v w:=by
 have hp':tmps[p]?.getD undef=.pointer (some a):=by simpa using hp
 simp[results,h,hp',asAddr,hl]
theorem load_err {w:World}{b:Nat}{v:Value}(h:w.cell? ⟨b,0,none⟩=some v):(loadVar 132 ⟨b,0,none⟩).run Tryz.prog w=.ok v w:=by
 simp[loadVar,h]
theorem JW.offp {w w':World}{jb bx mb:Nat}{J:Jn}{sv:Srs}{ov:Value}{S:Dk}{ba cap:Nat}{bs:List Nat}(h:JW w jb bx mb J sv ov)(hP:PD w bx S ba cap bs)(ho:Off (pf bx ba bs) w w'):JW w' jb bx mb J sv ov:=
 ⟨h.ja.off hP ho,h.sm.off ho (fun e=>by
  obtain⟨t,cs,hs⟩:=pd_cells hP e;exact map_ne h.sm.own hs rfl) (fun k hk=>by
  obtain⟨cs,hs⟩:=h.sm.sits hk;exact PD.not hP hs (by decide) (by decide) (by decide)),h.eq,h.apart⟩
theorem JW.offr {w w':World}{jb bx mb r:Nat}{J:Jn}{sv:Srs}{ov:Value}{S:Dk}{ba cap:Nat}{bs:List Nat}{cs:Array Value}(h:JW w jb bx mb J sv ov)(hP:PD w bx S ba cap bs)(hr:Sits w r 132 cs)(ho:Off (r ::pf bx ba bs) w w'):JW w' jb bx mb J sv ov:=by
 have no:∀{k:Nat} {t:TypeId} {cs':Array Value},Sits w k t cs'→t≠132→t≠101→t≠146→t≠149→k∉r ::pf bx ba bs:=fun {k t cs'} hs h0 h1 h2 h3 hm=>by
  rcases uD.1 hm with e|e
  ·exact sits_neJ hs hr h0 e
  ·exact PD.not hP hs h1 h2 h3 e
 refine⟨h.ja.off2 ho (no h.ja.head (by decide) (by decide) (by decide) (by decide)) fun k hk=>?_,h.sm.off ho (fun hm=>?_) fun k hk=>?_,h.eq,h.apart⟩
 ·obtain⟨cs',hs⟩:=sits_row h.ja.opn hk;exact no hs (by decide) (by decide) (by decide) (by decide)
 ·rcases uD.1 hm with e|e
  ·exact map_ne h.sm.own hr e
  ·obtain⟨t,cs',hs⟩:=pd_cells hP e;exact map_ne h.sm.own hs rfl
 ·obtain⟨cs',hs⟩:=h.sm.sits hk;exact no hs (by decide) (by decide) (by decide) (by decide)
theorem del_sub {k:Int}{sv:Srs}{b:Nat}(h:b∈sblocks (del k sv)):b∈sblocks sv:=by
 obtain⟨p,hp,hb⟩:=uF.1 h;exact uF.2 ⟨p,(List.mem_filter.1 hp).1,hb⟩
theorem JW.less {w w':World}{jb bx mb:Nat}{J:Jn}{sv:Srs}{ov:Value}(h:JW w jb bx mb J sv ov)(ho:Off [mb] w w'){win:Int}{n:Nat}(hm:w'.ownsMap Tryz.prog 3 (exE okS) mb n (sD (del win sv))):JW w' jb bx mb {J with sealed:=del win J.sealed} (del win sv) ov:=by
 have no:∀{k:Nat} {t:TypeId} {cs:Array Value},Sits w k t cs→k∉[mb]:=fun hs e=>map_ne h.sm.own hs (uJ.1 e).symm
 refine⟨⟨Foot.Sits.off h.ja.head ho (no h.ja.head),own_off h.ja.opn ho fun k hk=>?_⟩,⟨?_,h.sm.up.del _,fun p hp=>own_off (h.sm.rows p (List.mem_filter.1 hp).1) ho fun k hk=>?_⟩,?_,fun k hk=>h.apart k (del_sub hk)⟩
 ·obtain⟨cs,hs⟩:=sits_row h.ja.opn hk;exact no hs
 ·have:=own_tight hm;rw[show Maps.size (sD (del win sv))=(del win sv).length from mp_size _]at this;exact this
 ·obtain⟨cs,hs⟩:=sits_row (h.sm.rows p (List.mem_filter.1 hp).1) hk;exact no hs
 ·show del win J.sealed=(del win sv).map sl;rw[sl_del,h.eq];rfl
theorem pf_del {bx ba ba' n:Nat}{bs bs':List Nat}(h1:∀b∈bs',b∈bs)(h2:ba'=ba∨n≤ba'):∀b∈pf bx ba' bs',b∈pf bx ba bs∨n≤b:=by
 intro b hb;cases bs' with
 | nil=>exact Or.inl (pf_sub (uJ.1 hb▸uA ..))
 | cons x r=>
  cases bs with
  | nil=>exact absurd (h1 x (uA ..)) (by simp)
  | cons y r2=>
   rcases uD.1 hb with e|e
   ·exact Or.inl (e▸uA ..)
   ·rcases uD.1 e with e|e
    ·rcases h2 with h2|h2
     ·exact Or.inl (by rw[e,h2];exact uB _ (uA ..))
     ·exact Or.inr (by omega)
    ·exact Or.inl (uB _ (uB _ (h1 b e)))
def rowOf (win:Int)(sv:Srs):Value:=Im.elemOf (fun p:Value×List Int=>p.1) (.slice none 0 0) win sv
theorem SM.row {w:World}{mb:Nat}{sv:Srs}(h:SM w mb sv){J:Jn}(he:J.sealed=sv.map fun p=>(p.1,p.2.2))(win:Int):
  w.ownsRow 0 3 1 (rowOf win sv) ((getE win J.sealed).getD []).length (((getE win J.sealed).getD []).map (Value.int .i64))∧(∀k∈(rowOf win sv).ownBlock.toList,k∈sblocks sv)∧((getE win J.sealed).getD []=[]∨∃p∈J.sealed,p.2=(getE win J.sealed).getD []):=by
 have hg:getE win J.sealed=(getE win sv).map (·.2):=by
  rw[he];unfold getE;rw[List.find?_map,Option.map_map,Option.map_map];rfl
 unfold rowOf Im.elemOf;cases hq:getE win sv with
 | none=>
  rw[hg,hq];exact⟨⟨rfl,Or.inl ⟨rfl,rfl⟩⟩,by simp[Value.ownBlock],Or.inl rfl⟩
 | some b=>
  rw[hg,hq];have hm:(win,b)∈sv:=by
   unfold getE at hq;rw[Option.map_eq_some_iff]at hq;obtain⟨p,h1,h2⟩:=hq;have h3:=List.mem_of_find?_eq_some h1;have h4:=List.find?_some h1;simp at h4
   have h5:p=(win,b):=Prod.ext h4 h2;exact h5▸h3
  refine⟨h.rows _ hm,fun k hk=>uF.2 ⟨_,hm,hk⟩,Or.inr ⟨(win,b.2),?_,rfl⟩⟩;rw[he];exact uG.2 ⟨_,hm,rfl⟩
theorem KeepsOthers.of_off {W W':World}(h:Below W.heap.size W W'):KeepsOthers W W':=
 ⟨h.size,fun k _ hk _=>(h.block k (Array.getElem?_eq_some_iff.1 hk).1).trans hk⟩
def Inv (S:Dk)(bx ba:Nat)(bs:List Nat)(w3:World)(pre:List Yd)(W:World):Prop:=
 (jdels S (nums pre)).2=0∧Off (pf bx ba bs) w3 W∧∃ba' cap' bs',PD W bx (jdels S (nums pre)).1 ba' cap' bs'∧∀b∈pf bx ba' bs',b∈pf bx ba bs∨w3.heap.size≤b
def Out (S:Dk)(bx ba:Nat)(bs:List Nat)(w3:World)(rb:Nat)(c:Code)(pre:List Yd)(W:World):Prop:=
 c=.ret∧(∃v,W.cell? ⟨rb,0,none⟩=some v∧ErrV W v (jdels S (nums pre)).2∧(jdels S (nums pre)).2≠0)∧Off (rb ::pf bx ba bs) w3 W∧∃ba' cap' bs',PD W bx (jdels S (nums pre)).1 ba' cap' bs'∧∀b∈pf bx ba' bs',b∈pf bx ba bs∨w3.heap.size≤b
theorem row_off {W W':World}{row:Option Nat}(h:W.grownBy W' row):Off row.toList W W':=
 ⟨h.os,h.tape,h.output,h.size,fun k hk hF=>h.block k hk (fun e=>hF (by simp[←e]))⟩
theorem row_not {W:World}{row:Option Nat}{B:Nat}(hr:∀r,row=some r→B≤r∧∃o:Obj,W.heap[r]? = some o∧o.isCells=false){k:Nat}{t:TypeId}{cs:Array Value}(hs:Sits W k t cs):k∉row.toList:=by
 intro e;obtain⟨_,o,h1,h2⟩:=hr k (by simpa using e);unfold Sits at hs;rw[hs]at h1;cases h1
 cases h2
theorem inv_own (S:Dk)(bx ba:Nat)(bs:List Nat)(w3:World):OwnFrom w3.heap.size (Inv S bx ba bs w3):=by
 intro pre W W' row ⟨h1,h2,ba',cap',bs',h3,h4⟩ hg hr;have ho:=row_off hg;refine⟨h1,off_trans h2 (fun b hb=>Or.inr (hr b (by simpa using hb)).1) ho,ba',cap',bs',pd_off h3 ho fun k hk=>?_,h4⟩;obtain⟨t,cs,hs⟩:=pd_cells h3 hk;exact row_not hr hs
theorem out_own (S:Dk)(bx ba:Nat)(bs:List Nat)(w3:World)(rb:Nat)(hrb:rb<w3.heap.size)(c:Code):OwnFrom w3.heap.size (Out S bx ba bs w3 rb c):=by
 intro pre W W' row ⟨h0,⟨v,e1,e2,e3⟩,h2,ba',cap',bs',h3,h4⟩ hg hr;have ho:=row_off hg;refine⟨h0,⟨v,?_,?_,e3⟩,off_trans h2 (fun b hb=>Or.inr (hr b (by simpa using hb)).1) ho,ba',cap',bs',pd_off h3 ho fun k hk=>?_,h4⟩
 ·have hne:rb∉row.toList:=fun e=>by
   have:=(hr rb (by simpa using e)).1;omega
  have hb:=ho.block rb (Nat.lt_of_lt_of_le hrb h2.size) hne;unfold World.cell? at e1 ⊢;simp only at e1 ⊢;rw[hb];exact e1
 ·rcases e2 with h|⟨n1,b,z,n2,n3⟩
  ·exact Or.inl h
  ·exact Or.inr ⟨n1,b,z,n2,Foot.Sits.off n3 ho (row_not hr n3)⟩
 ·obtain⟨t,cs,hs⟩:=pd_cells h3 hk;exact row_not hr hs
end Go.Proofs.YtenegfafjjknoaaGreatDoor.Jr
namespace Go.Proofs.YtenegfafjjknoaaGreatDoor.Jr
open Bytes Im Dm
structure Jcalm (J:Jn)(S:Dk):Prop where
 left:S.left = -1
 room:S.room = -1
 good:Dm.Good S
 perm:(S.segs.map (·.num)).Perm (J.sealed.flatMap (·.2)++J.opn)
 below:∀n∈S.segs.map (·.num),n<J.next
 next0:0≤J.next
 last:J.opn≠[]→∃s∈S.segs,s.num=jlast J∧s.text.size=J.synced+J.uns.size
theorem op_calm {S:Dk}(h:S.left = -1):Dm.op S=S:=by
 cases S
 simp only at h;subst h;rfl
theorem place_mem {l:List Seg}(hr:l.Pairwise fun a b=>a.num<b.num){s:Seg}(hs:s∈l):∃i,place s.num l=some i∧l[i]? = some s:=by
 obtain⟨i,hi⟩:=uH hs;refine⟨i,place_at (fun j t hj ht e=>?_) hi rfl,hi⟩;have:=rise_once hr ht hi e;omega
theorem read_calm {S:Dk}(hl:S.left = -1)(hg:Dm.Good S){s:Seg}(hs:s∈S.segs):doRead S s.num=(s.text,0):=by
 obtain⟨i,h1,h2⟩:=place_mem hg.rise hs;unfold doRead;rw[if_neg (by rw[hl];decide),h1];simp[h2]
theorem append_calm {S:Dk}(hl:S.left = -1)(hr:S.room = -1){n:Int}(hn:0≤n)(t:ByteArray):doAppend S n t=({S with segs:=turn n (fun s=>{s with text:=s.text++t}) (ensure n S.segs)},0):=by
 unfold doAppend;rw[if_neg (by rw[hl];decide),if_neg (by omega),if_neg (by rw[hr];simp),op_calm hl]
theorem dsync_calm {S:Dk}(hl:S.left = -1)(hg:Dm.Good S){s:Seg}(hs:s∈S.segs):doSync S s.num=({S with segs:=turn s.num (fun s=>{s with syn:=s.text.size}) S.segs},0):=by
 obtain⟨i,h1,h2⟩:=place_mem hg.rise hs;unfold doSync;rw[if_neg (by rw[hl];decide),h1,op_calm hl]
theorem ddel_calm {S:Dk}(hl:S.left = -1)(hg:Dm.Good S){s:Seg}(hs:s∈S.segs):∃i,S.segs[i]? = some s∧doDelete S s.num=({S with segs:=S.segs.eraseIdx i},0):=by
 obtain⟨i,h1,h2⟩:=place_mem hg.rise hs;refine⟨i,h2,?_⟩;unfold doDelete;rw[if_neg (by rw[hl];decide),h1,op_calm hl]
theorem turn_nums (n:Int){f:Seg→Seg}(hf:∀s,(f s).num=s.num)(l:List Seg):(turn n f l).map (·.num)=l.map (·.num):=by
 unfold turn;rw[List.map_map];apply List.map_congr_left
 intro s _;show (if s.num=n then f s else s).num=s.num;split
 ·exact hf s
 ·rfl
theorem turn_numsT (n:Int)(t:ByteArray)(l:List Seg):(turn n (fun s=>{s with text:=s.text++t}) l).map (·.num)=l.map (·.num):=turn_nums n (f:=fun s=>{s with text:=s.text++t}) (fun _=>rfl) l
theorem turn_numsS (n:Int)(l:List Seg):(turn n (fun s=>{s with syn:=s.text.size}) l).map (·.num)=l.map (·.num):=turn_nums n (f:=fun s=>{s with syn:=s.text.size}) (fun _=>rfl) l
theorem used_set:∀{l:List Seg} {i:Nat} {s:Seg} (s':Seg),l[i]? = some s→used (l.set i s')+s.text.size=used l+s'.text.size:=by
 intro l
 induction l with
 | nil=>intro i s s' h;simp at h
 | cons x l ih=>
  intro i s s' h;cases i with
  | zero=>
   simp at h
   subst h;rw[List.set_cons_zero,used_cons,used_cons];omega
  | succ i=>
   rw[List.getElem?_cons_succ]at h;have:=ih s' h;rw[List.set_cons_succ,used_cons,used_cons];omega
theorem used_more {l:List Seg}(hr:l.Pairwise fun a b=>a.num<b.num){s:Seg}(hs:s∈l)(t:ByteArray):used (turn s.num (fun s=>{s with text:=s.text++t}) l)=used l+t.size:=by
 obtain⟨i,hi⟩:=uH hs;rw[turn_set hr hi rfl];have:=used_set (l:=l) {s with text:=s.text++t} hi;have h2:(s.text++t).size=s.text.size+t.size:=ByteArray.size_append;simp only[h2]at this;omega
theorem used_same (n:Int){f:Seg→Seg}(hf:∀s,(f s).text=s.text)(l:List Seg):used (turn n f l)=used l:=by
 unfold used turn;rw[List.map_map]
 congr 1
 apply List.map_congr_left
 intro s _;show (if s.num=n then f s else s).text.size=s.text.size;split
 ·rw[hf s]
 ·rfl
theorem turn_in {n:Int}{f:Seg→Seg}{l:List Seg}{s:Seg}(hs:s∈l)(hn:s.num=n):f s∈turn n f l:=
 uG.2 ⟨s,hs,by rw[if_pos hn]⟩
theorem ensure_perm {n:Int}:∀{l:List Seg},(∀s∈l,s.num≠n)→(ensure n l).Perm (⟨n,⟨#[]⟩,0⟩ ::l):=by
 intro l
 induction l with
 | nil=>intro _;exact uE.refl _
 | cons s l ih=>
  intro h;rw[ensure,if_neg (h s (uA ..))];split
  ·exact uE.refl _
  ·exact((ih fun x hx=>h x (uB _ hx)).cons s).trans (uE.swap ..)
theorem ensure_calm {l:List Seg}(hr:l.Pairwise fun a b=>a.num<b.num){s:Seg}(hs:s∈l):ensure s.num l=l:=by
 obtain⟨i,hi⟩:=uH hs;exact ensure_there hr hi rfl
theorem fit_of {S:Dk}(h:Dm.Good S):Fit S S.segs.length (used S.segs):=⟨h,uI _,uI _⟩
theorem jlast_mem {J:Jn}(h:J.opn≠[]):jlast J∈J.opn:=by
 unfold jlast;rw[List.getLast?_eq_some_getLast h];exact List.getLast_mem h
theorem jlast_snoc {J:Jn}{l:List Int}{x:Int}(h:J.opn=l++[x]):jlast J=x:=by
 unfold jlast;rw[h];simp
theorem Jcalm.sum_le {J:Jn}{S:Dk}(h:Jcalm J S)(hne:J.opn≠[]):J.synced+J.uns.size≤used S.segs:=by
 obtain⟨s,hs,_,h2⟩:=h.last hne;rw[←h2];exact used_mem hs
theorem Jcalm.num {J:Jn}{S:Dk}(h:Jcalm J S){x:Int}(hx:x∈J.sealed.flatMap (·.2)++J.opn):0≤x∧x≤9223372036854775807:=by
 obtain⟨s,hs,e⟩:=uG.1 (h.perm.mem_iff.2 hx);rw[←e];exact h.good.num s hs
theorem Jcalm.lasts {J:Jn}{S:Dk}(h:Jcalm J S):0≤jlast J∧jlast J≤9223372036854775807:=by
 by_cases hne:J.opn=[]
 ·unfold jlast;rw[hne];simp
 ·exact h.num (uC _ (jlast_mem hne))
theorem Jcalm.len {J:Jn}{S:Dk}(h:Jcalm J S):J.opn.length≤S.segs.length:=by
 have:=h.perm.length_eq;rw[List.length_map,uK]at this;omega
theorem Jcalm.rows {J:Jn}{S:Dk}(h:Jcalm J S):∀p∈J.sealed,p.2.length≤S.segs.length∧∀x∈p.2,0≤x∧x≤9223372036854775807:=by
 intro p hp;refine⟨?_,fun x hx=>h.num (List.mem_append_left _ (uF.2 ⟨p,hp,hx⟩))⟩;have h1:=h.perm.length_eq;rw[List.length_map,uK]at h1;have h2:p.2.length≤(J.sealed.flatMap (·.2)).length:=by
  obtain⟨a,b,e⟩:=List.append_of_mem hp;rw[e,List.flatMap_append,uL];simp only[uK];omega
 omega
theorem Jcalm.mend {J:Jn}{S:Dk}(h:Jcalm J S)(hne:J.opn≠[]):jmend J S=(S,0):=by
 obtain⟨s,hs,h1,h2⟩:=h.last hne;have hr:=read_calm h.left h.good hs;rw[h1]at hr;unfold jmend;rw[hr,if_neg (by simp),if_pos];unfold jleft;rw[hr];show min (s.text.size - J.synced) J.uns.size=J.uns.size;omega
theorem Jcalm.add {J:Jn}{S:Dk}(h:Jcalm J S)(hne:J.opn≠[])(t:ByteArray):
  ∃S',jadd J S t=({J with uns:=J.uns++t},S',0)∧Jcalm {J with uns:=J.uns++t} S'∧used S'.segs=used S.segs+t.size∧S'.segs.length=S.segs.length:=by
 obtain⟨s,hs,h1,h2⟩:=h.last hne;have hn0:0≤jlast J:=by rw[←h1];exact(h.good.num s hs).1
 have hn1:jlast J≤9223372036854775807:=by rw[←h1];exact(h.good.num s hs).2
 have ha:=append_calm h.left h.room hn0 t;have hgd:=(fit_append (fit_of h.good) (jlast J) t hn1).good;rw[ha]at hgd;rw[←h1,ensure_calm h.good.rise hs,h1]at ha hgd;refine⟨{S with segs:=turn (jlast J) (fun s=>{s with text:=s.text++t}) S.segs},?_,⟨h.left,h.room,hgd,?_,?_,h.next0,fun _=>?_⟩,?_,turn_length ..⟩
 ·unfold jadd;rw[h.mend hne,if_neg (by simp),ha,if_neg (by simp)]
 ·show ((turn (jlast J) _ S.segs).map (·.num)).Perm _;rw[turn_numsT];exact h.perm
 ·show ∀n∈(turn (jlast J) _ S.segs).map (·.num),n<J.next;rw[turn_numsT];exact h.below
 ·refine⟨_,turn_in hs h1,h1,?_⟩;show (s.text++t).size=J.synced+(J.uns++t).size;rw[ByteArray.size_append,ByteArray.size_append,h2];omega
 ·show used (turn (jlast J) _ S.segs)=_;rw[←h1];exact used_more h.good.rise hs t
theorem Jcalm.sync {J:Jn}{S:Dk}(h:Jcalm J S):
  ∃J' S',jsync J S=(J',S',0)∧Jcalm J' S'∧used S'.segs=used S.segs∧J'.opn=J.opn∧J'.sealed=J.sealed∧J'.next=J.next∧J'.greatest=J.greatest∧J'.most=J.most∧J'.synced+J'.uns.size=J.synced+J.uns.size∧J'.uns.size≤J.uns.size∧S'.segs.length=S.segs.length:=by
 by_cases hne:J.opn=[]
 ·refine⟨J,S,?_,h,rfl,rfl,rfl,rfl,rfl,rfl,rfl,uI _,rfl⟩;unfold jsync;rw[if_pos hne]
 ·obtain⟨s,hs,h1,h2⟩:=h.last hne;have ha:=dsync_calm h.left h.good hs;have hgd:=(fit_sync (fit_of h.good) s.num).good;rw[ha]at hgd;rw[h1]at ha hgd;refine⟨{J with synced:=J.synced+J.uns.size,uns:=⟨#[]⟩},{S with segs:=turn (jlast J) (fun s=>{s with syn:=s.text.size}) S.segs},?_,⟨h.left,h.room,hgd,?_,?_,h.next0,fun _=>?_⟩,?_,rfl,rfl,rfl,rfl,rfl,?_,Nat.zero_le _,?_⟩
  ·unfold jsync;rw[if_neg hne,h.mend hne,if_neg (by simp),ha,if_neg (by simp)]
  ·show ((turn (jlast J) _ S.segs).map (·.num)).Perm _;rw[turn_numsS];exact h.perm
  ·show ∀n∈(turn (jlast J) _ S.segs).map (·.num),n<J.next;rw[turn_numsS];exact h.below
  ·exact⟨_,turn_in hs h1,h1,h2⟩
  ·exact used_same _ (f:=fun s=>{s with syn:=s.text.size}) (fun _=>rfl) _
  ·rfl
  ·exact turn_length ..
theorem Jcalm.begin {J:Jn}{S:Dk}(h:Jcalm J S)(hx:J.next≤9223372036854775807)(t:ByteArray):
  ∃S',jbegin J S t=({J with opn:=J.opn++[J.next],next:=J.next+1,synced:=0,uns:=t},S',0)∧Jcalm {J with opn:=J.opn++[J.next],next:=J.next+1,synced:=0,uns:=t} S'∧used S'.segs=used S.segs+t.size∧S'.segs.length=S.segs.length+1:=by
 have ha:=append_calm h.left h.room h.next0 t;have hgd:=(fit_append (fit_of h.good) J.next t hx).good;rw[ha]at hgd;have hno:∀s∈S.segs,s.num≠J.next:=fun s hs e=>by
  have:=h.below s.num (uG.2 ⟨s,hs,rfl⟩);omega
 have hp:=ensure_perm hno;have hin:(⟨J.next,⟨#[]⟩,0⟩:Seg)∈ensure J.next S.segs:=hp.mem_iff.2 (uA ..);have hnm:(turn J.next (fun s=>{s with text:=s.text++t}) (ensure J.next S.segs)).map (·.num)=(ensure J.next S.segs).map (·.num):=turn_numsT ..;have hp2:((ensure J.next S.segs).map (·.num)).Perm (J.next ::S.segs.map (·.num)):=hp.map _;refine⟨{S with segs:=turn J.next (fun s=>{s with text:=s.text++t}) (ensure J.next S.segs)},?_,⟨h.left,h.room,hgd,?_,?_,?_,fun _=>?_⟩,?_,?_⟩
 ·unfold jbegin;rw[ha,if_neg (by simp)]
 ·show ((turn J.next _ (ensure J.next S.segs)).map (·.num)).Perm (J.sealed.flatMap (·.2)++(J.opn++[J.next]));rw[hnm];refine hp2.trans ((h.perm.cons _).trans ?_);rw[←List.append_assoc];exact(List.perm_append_singleton _ _).symm
 ·show ∀n∈(turn J.next _ (ensure J.next S.segs)).map (·.num),n<J.next+1;rw[hnm];intro n hn;rcases uD.1 (hp2.mem_iff.1 hn) with e|e
  ·omega
  ·have:=h.below n e;omega
 ·have:=h.next0;show 0≤J.next+1;omega
 ·refine⟨_,turn_in hin rfl,(jlast_snoc rfl).symm,?_⟩;show ((⟨#[]⟩:ByteArray)++t).size=0+t.size;rw[ByteArray.size_append];rfl
 ·show used (turn J.next _ (ensure J.next S.segs))=_;have:=used_more (ensure_rise h.good.rise) hin t;rw[used_ensure]at this;exact this
 ·show (turn J.next _ (ensure J.next S.segs)).length=_;rw[turn_length,hp.length_eq];rfl
theorem jdels_calm:∀{l:List Int} {S:Dk} {rest:List Int},S.left = -1→Dm.Good S→(S.segs.map (·.num)).Perm (l++rest)→
  (jdels S l).2=0∧(jdels S l).1.left = -1∧(jdels S l).1.room=S.room∧Dm.Good (jdels S l).1∧((jdels S l).1.segs.map (·.num)).Perm rest∧used (jdels S l).1.segs≤used S.segs∧(∀s∈S.segs,s.num∈rest→s∈(jdels S l).1.segs)∧(jdels S l).1.segs.length≤S.segs.length:=by
 intro l
 induction l with
 | nil=>intro S rest hl hg hp;exact⟨rfl,hl,rfl,hg,hp,uI _,fun s hs _=>hs,uI _⟩
 | cons n l ih=>
  intro S rest hl hg hp;have hnd:(S.segs.map (·.num)).Nodup:=by
   rw[List.nodup_iff_pairwise_ne,List.pairwise_map];exact hg.rise.imp fun {a b} hab e=>by omega
  have hnd2:=hp.nodup_iff.1 hnd;obtain⟨s,hs,hsn⟩:=uG.1 (hp.mem_iff.2 (List.mem_append_left _ (uA (a:=n) (l:=l))));obtain⟨i,hi,hd⟩:=ddel_calm hl hg hs;have hgd:=(fit_delete (fit_of hg) s.num).good;rw[hd]at hgd;simp only[hsn]at hd hgd;have hil:=(List.getElem?_eq_some_iff.1 hi).1;have hpe:S.segs.Perm (s ::S.segs.eraseIdx i):=by
   have e:=(List.getElem?_eq_some_iff.1 hi).2;have e0:S.segs=S.segs.take i++s ::S.segs.drop (i+1):=by rw[←e,←List.drop_eq_getElem_cons hil,List.take_append_drop]
   rw[erase_at];exact(uE.of_eq e0).trans List.perm_middle
  have hpn:((S.segs.eraseIdx i).map (·.num)).Perm (l++rest):=by
   have h1:(S.segs.map (·.num)).Perm (n ::(S.segs.eraseIdx i).map (·.num)):=by
    have:=hpe.map (·.num);rw[List.map_cons,hsn]at this;exact this
   exact uE.cons_inv (h1.symm.trans hp)
  have e:jdels S (n ::l)=jdels {S with segs:=S.segs.eraseIdx i} l:=by
   show (if (doDelete S n).2≠0 then doDelete S n else jdels (doDelete S n).1 l)=_;rw[hd,if_neg (by simp)]
  obtain⟨h1,h2,h3,h4,h5,h6,h7,h8⟩:=ih (S:={S with segs:=S.segs.eraseIdx i}) hl hgd hpn;rw[e];refine⟨h1,h2,h3,h4,h5,Nat.le_trans h6 (used_erase ..),fun x hx hxr=>h7 x ?_ hxr,Nat.le_trans h8 (by rw[List.length_eraseIdx];split<;>omega)⟩;rcases uD.1 (hpe.mem_iff.1 hx) with e2|e2
  ·subst e2;have h9:=(List.nodup_cons.1 hnd2).1;rw[hsn]at hxr;exact absurd (uC _ hxr) h9
  ·exact e2
theorem perm_get {k:Int}{b:List Int}:∀{l:List (Int×List Int)},(l.map (·.1)).Nodup→getE k l=some b→l.Perm ((k,b) ::del k l):=by
 intro l
 induction l with
 | nil=>intro _ h;simp[getE]at h
 | cons p l ih=>
  intro hn h;rw[List.map_cons,List.nodup_cons]at hn;by_cases hk:p.1=k
  ·have h1:p.2=b:=by simpa[getE,hk] using h
   have h2:has k l=false:=(has_false k l).2 (hk▸hn.1);have h3:del k (p ::l)=l:=by
    have:=del_of_not k l h2;unfold del at this ⊢;rw[List.filter_cons_of_neg (by simp[hk])];exact this
   rw[h3,←h1,←hk]
  ·have h1:getE k l=some b:=by simpa[getE,hk] using h
   have h3:del k (p ::l)=p ::del k l:=by
    unfold del;rw[List.filter_cons_of_pos (by simp[hk])]
   rw[h3];exact((ih hn.2 h1).cons p).trans (uE.swap ..)
theorem Jcalm.fin {J:Jn}{S:Dk}(h:Jcalm J S)(hn:(J.sealed.map (·.1)).Nodup){win:Int}{r:List Int}(hw:getE win J.sealed=some r):
  ∃S',jfin J S win=({J with sealed:=del win J.sealed},S',0)∧Jcalm {J with sealed:=del win J.sealed} S'∧used S'.segs≤used S.segs∧S'.segs.length≤S.segs.length:=by
 have hp:=perm_get hn hw;have hp2:(S.segs.map (·.num)).Perm (r.reverse++((del win J.sealed).flatMap (·.2)++J.opn)):=by
  refine h.perm.trans ?_;rw[←List.append_assoc];refine uE.append_right _ ((hp.flatMap_right _).trans ?_);rw[uL];exact uE.append_right _ (List.reverse_perm _).symm
 obtain⟨h1,h2,h3,h4,h5,h6,h7,h8⟩:=jdels_calm h.left h.good hp2;refine⟨(jdels S r.reverse).1,?_,⟨h2,h3.trans h.room,h4,h5,fun n hm=>h.below n (hp2.mem_iff.2 (uC _ (h5.mem_iff.1 hm))),h.next0,fun hne=>?_⟩,h6,h8⟩
 ·unfold jfin;rw[hw];show (if (jdels S r.reverse).2≠0 then _ else _)=_;rw[if_neg (by simpa using h1)];rfl
 ·obtain⟨s,hs,e1,e2⟩:=h.last hne;exact⟨s,h7 s hs (uC _ (e1▸jlast_mem hne)),e1,e2⟩
theorem bytes_size (l:List UInt8):(bytesOf l).size=l.length:=by
 show l.toArray.size=_;rw[List.size_toArray]
theorem Jcalm.write {J:Jn}{S:Dk}(h:Jcalm J S)(hx:J.next≤9223372036854775807)(win:Int)(t:ByteArray):
  ∃J' S',jwrite J S win t=(J',S',0)∧Jcalm J' S'∧used S'.segs≤used S.segs+(jhead J).length+(wrec [100] win (B t)).length∧J'.sealed=J.sealed∧J'.opn≠[]∧J'.greatest=J.greatest∧J'.most=J.most∧J'.next≤J.next+1∧J.next≤J'.next∧S'.segs.length≤S.segs.length+1:=by
 unfold jwrite;by_cases hne:J.opn=[]
 ·obtain⟨S',h1,h2,h3,h4⟩:=h.begin hx (bytesOf (jhead J)++bytesOf (wrec [100] win (B t)));rw[if_pos hne,h1];rw[ByteArray.size_append,bytes_size,bytes_size]at h3;exact⟨_,_,rfl,h2,by omega,rfl,by simp,rfl,rfl,Int.le_refl _,by show J.next≤J.next+1;omega,by omega⟩
 ·rw[if_neg hne];split
  ·obtain⟨S',h1,h2,h3,h4⟩:=h.add hne (bytesOf (wrec [100] win (B t)));rw[h1];rw[bytes_size]at h3;exact⟨_,_,rfl,h2,by omega,rfl,hne,rfl,rfl,by show J.next≤J.next+1;omega,Int.le_refl _,by omega⟩
  ·obtain⟨J1,S1,h1,h2,h3,h4,h5,h6,h7,h8,h9,h10,h11⟩:=h.sync;obtain⟨S',k1,k2,k3,k4⟩:=h2.begin (by rw[h6];exact hx) (bytesOf (wrec [100] win (B t)));rw[h1,if_neg (by simp),k1];rw[bytes_size]at k3;exact⟨_,_,rfl,k2,by omega,h5,by simp,h7,h8,by show J1.next+1≤_;omega,by show _≤J1.next+1;omega,by omega⟩
theorem Jcalm.seal {J:Jn}{S:Dk}(h:Jcalm J S)(hne:J.opn≠[]){win:Int}(hw:win∉J.sealed.map (·.1)):
  ∃J' S',jseal J S win=(J',S',0)∧Jcalm J' S'∧used S'.segs=used S.segs+(wrec [115] win []).length∧J'.sealed=put iLt win J.opn J.sealed∧J'.opn=[]∧J'.greatest=win∧J'.most=J.most∧J'.next=J.next∧S'.segs.length=S.segs.length∧J'.synced+J'.uns.size≤used S'.segs:=by
 obtain⟨S1,h1,h2,h3,h4⟩:=h.add hne (bytesOf (wrec [115] win []));obtain⟨J2,S2,k1,k2,k3,k4,k5,k6,k7,k8,k9,k10,k11⟩:=h2.sync;rw[bytes_size]at h3;unfold jseal;rw[h1,if_neg (by simp),k1,if_neg (by simp)];refine⟨_,_,rfl,⟨k2.left,k2.room,k2.good,?_,k2.below,k2.next0,fun he=>absurd rfl he⟩,by show used S2.segs=_;omega,rfl,rfl,rfl,k8,k6,by show S2.segs.length=_;omega,k2.sum_le (by rw[k4];exact hne)⟩;show (S2.segs.map (·.num)).Perm ((put iLt win J.opn J.sealed).flatMap (·.2)++[]);rw[List.append_nil];refine k2.perm.trans ?_;rw[k4,k5];show (J.sealed.flatMap (·.2)++J.opn).Perm _;unfold put;rw[del_of_not _ _ ((has_false win J.sealed).2 hw)];refine List.perm_append_comm.trans ?_;have:=((ins_perm (lt:=iLt) (win,J.opn) J.sealed).flatMap_right (·.2)).symm;rw[uL]at this;exact this
theorem Jcalm.keep {J:Jn}{S:Dk}(h:Jcalm J S)(hx:J.next≤9223372036854775807):
  ∃J' S',jkeep J S=(J',S',0)∧Jcalm J' S'∧used S'.segs≤used S.segs+(jhead J).length∧J'.sealed=J.sealed∧J'.greatest=J.greatest∧J'.most=J.most∧J'.next≤J.next+1∧J.next≤J'.next∧S'.segs.length≤S.segs.length+1∧
   ((J'.opn=J.opn∧J'.synced+J'.uns.size=J.synced+J.uns.size)∨(J.opn=[]∧J'.opn=[J.next]∧J'.synced+J'.uns.size=(jhead J).length)):=by
 unfold jkeep;by_cases hne:J.opn=[]
 ·obtain⟨S1,h1,h2,h3,h4⟩:=h.begin hx (bytesOf (jhead J));obtain⟨J2,S2,k1,k2,k3,k4,k5,k6,k7,k8,k9,k10,k11⟩:=h2.sync;rw[bytes_size]at h3;rw[if_pos hne,h1,if_neg (by simp),k1];refine⟨_,_,rfl,k2,by omega,k5,k7,k8,by rw[k6];exact Int.le_refl _,by rw[k6];show J.next≤J.next+1;omega,by omega,Or.inr ⟨hne,by rw[k4,hne];rfl,?_⟩⟩;rw[k9];show 0+(bytesOf (jhead J)).size=_;rw[bytes_size];omega
 ·obtain⟨J2,S2,k1,k2,k3,k4,k5,k6,k7,k8,k9,k10,k11⟩:=h.sync;rw[if_neg hne,k1];exact⟨_,_,rfl,k2,by omega,k5,k7,k8,by omega,by omega,by omega,Or.inl ⟨k4,k9⟩⟩
theorem Jcalm.forget {J:Jn}{S:Dk}(h:Jcalm J S)(hx:J.next≤9223372036854775807)(hn:(J.sealed.map (·.1)).Nodup){win:Int}{r:List Int}(hw:getE win J.sealed=some r):
  ∃J' S',jforget J S win=(J',S',0)∧Jcalm J' S'∧used S'.segs≤used S.segs+(jhead J).length∧J'.sealed=del win J.sealed∧J'.greatest=J.greatest∧J'.most=J.most∧J'.next≤J.next+1∧J.next≤J'.next∧S'.segs.length≤S.segs.length+1∧
   ((J'.opn=J.opn∧J'.synced+J'.uns.size=J.synced+J.uns.size)∨(J.opn=[]∧J'.opn=[J.next]∧J'.synced+J'.uns.size=(jhead J).length)):=by
 unfold jforget;split
 ·obtain⟨J1,S1,k1,k2,k3,k4,k5,k6,k7,k8,k9,k10⟩:=h.keep hx;obtain⟨S2,f1,f2,f3,f4⟩:=k2.fin (by rw[k4];exact hn) (by rw[k4];exact hw);rw[k1,if_neg (by simp),f1];exact⟨_,_,rfl,f2,by omega,by rw[k4],k5,k6,k7,k8,by omega,k10⟩
 ·obtain⟨S2,f1,f2,f3,f4⟩:=h.fin hn hw;rw[f1];exact⟨_,_,rfl,f2,by omega,rfl,rfl,rfl,by show J.next≤J.next+1;omega,Int.le_refl _,by omega,Or.inl ⟨rfl,rfl⟩⟩
theorem Jcalm.small {J:Jn}{S:Dk}(h:Jcalm J S)(hs:J.sealed=[]){n:Nat}(ho:J.opn=[]∨∃x,J.opn=[x]∧J.synced+J.uns.size≤n):used S.segs≤n:=by
 have hp:=h.perm;rw[hs]at hp;rcases ho with e|⟨x,e,hn⟩
 ·rw[e]at hp;have:S.segs=[]:=List.map_eq_nil_iff.1 (List.perm_nil.1 hp);rw[this];exact Nat.zero_le _
 ·rw[e]at hp;have h1:S.segs.map (·.num)=[x]:=List.perm_singleton.1 hp;obtain⟨s,hs1,_,hs3⟩:=h.last (by rw[e];simp);have hl:S.segs.length=1:=by
   have:=congrArg List.length h1;simpa using this
  obtain⟨y,hy⟩:=List.length_eq_one_iff.1 hl;rw[hy]at hs1 ⊢;rw[uJ]at hs1;subst hs1;rw[used_cons,used_nil];omega
end Go.Proofs.YtenegfafjjknoaaGreatDoor.Jr
