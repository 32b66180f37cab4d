/- The law Daemons: its argument opened, its contract as the row asks it, its witness. -/
import Derived.Test.YtenegfafjjknoaaGreatDoorRowkit
import Derived.Test.YtenegfafjjknoaaGreatDoorMay
import Derived.Test.YtenegfafjjknoaaGreatDoorFctdm
import Derived.ChangeMaps5
import Derived.Carry
import Derived.Deep.Slices
namespace Go.Proofs.YtenegfafjjknoaaGreatDoor.Md
open Go.ChangeShapes Go.WideShapes Go.ChangeAt Go.RowKit Go.Joins Rowkit Lw
theorem cells23:Tryz.prog.cellsOf 23=6:=by kernel_rfl
theorem wf_range {a:Int}(h:(Lit.int .i64 a).wf=true):-9223372036854775808≤a∧a≤9223372036854775807:=by
 have h2:IntKind.i64.min = -9223372036854775808:=by decide
 have h3:IntKind.i64.max=9223372036854775807:=by decide
 simpa only[Lit.wf,h2,h3,Bool.and_eq_true,decide_eq_true_eq] using h
def six (a0 a1 a2 a3 a4 a5:Int):Fin 6→Int
 | 0=>a0
 | 1=>a1
 | 2=>a2
 | 3=>a3
 | 4=>a4
 | 5=>a5
section
variable {H : Type} {enc : TypeId × Value → H} {P : Program}
theorem post_below {f:Func}{s:ChangeSpec}{apart fresh handsOn again:Bool}{W W':World}{args:Array Value}{v:Value}{ds gs:List (DataW H)}{before pa pv:List MemPlace}
  (hW:DataW.Whole enc P f.params.toList s.vars apart W args.toList ds gs before)
  (hres:∀(b:Nat) (sp:Nat→Bool) (hd:Bool),DataW.TrodAll enc P W' b sp hd f.resultTypes.toList (v.resultList f.resultTypes.size) (s.fn H (ds++gs)).results [])
  (hargs:∀sp:Nat→Bool,(∀p∈before,sp p.block=true)→DataW.TrodAll enc P W' 0 sp true f.params.toList args.toList (s.fn H (ds++gs)).args pa)
  (hvars:∀sp:Nat→Bool,(∀p∈before,sp p.block=true)→DataW.TrodVars enc P W' sp s.vars (s.fn H (ds++gs)).vars pv)
  (hps:before=pa++pv) (hb:Below W.heap.size W W')
  (hok:∀(j:Nat) (t:TypeId) (r:Value),f.resultTypes[j]? = some t→(v.resultList f.resultTypes.size)[j]? = some r→Value.okWide P W' .any 0 t r):
  s.post enc P f apart fresh handsOn again W args v W':=by
 have hold:∀p∈before,(fun b=>decide (b<W.heap.size)) p.block=true:=fun p hp=>by simpa using hW.lt p hp
 have hlt:=hW.lt;refine⟨ds,gs,before,[],pa,pv,hW,hres _ _ _,hargs _ hold,hvars _ hold,World.keptBut_mono (fun p hp=>⟨hp,?_⟩) (hb.frame (·∈before)),fun _=>?_⟩
 ·rw[hps,List.mem_append]at hp;exact Or.inr hp
 ·obtain⟨_,_,_,_,_,hz,hn⟩:=hW;refine⟨hok,_,_,([]++pa)++pv,⟨[]++pa,pv,trodAll_append (hargs _ (fun _ _=>rfl)) (hres _ _ _),hvars _ (fun _ _=>rfl),rfl,?_,?_⟩,?_⟩
  ·intro b off hp;have hm:MemPlace.cell b off∈before:=by rw[hps];simpa using hp
   rw[World.frozen?_of_block (w:=W) (hb.block b (hlt _ hm))];exact hz b off hm
  ·intro ha;have:=hn ha;rw[hps]at this;simpa using this
  ·intro p hp _;rw[hps];simpa using hp
end
theorem laidOut:laidOutB Tryz.prog=true:=by kernel_rfl
theorem cellsA:Tryz.prog.cellsOf 72=5:=by kernel_rfl
def acells (d:Ax):List Value:=[.int .i64 d.c,.int .i64 d.k,.int .i64 d.a,.int .i64 d.b,.string d.t]
def dd {H:Type}(d:Ax):DataW H:=.agg [.lit (.int .i64 d.c),.lit (.int .i64 d.k),.lit (.int .i64 d.a),.lit (.int .i64 d.b),.lit (.string d.t.data.toList)]
theorem list5 {α:Type}{l:List α}(h:l.length=5):∃c0 c1 c2 c3 c4,l=[c0,c1,c2,c3,c4]:=by
 match l,h with
 | [c0,c1,c2,c3,c4],_=>exact⟨c0,c1,c2,c3,c4,rfl⟩
theorem open_deed {H:Type}{enc:TypeId×Value→H}{P:Program}{w:World}{base:Nat}{spare:Nat→Bool}{held:Bool}{t eI eS:TypeId}{f0 f1 f2 f3 f4:Field}{n:Nat}{cs:List Value}{x:DataW H×List MemPlace}(hs:P.underlying t=some (.struct #[f0,f1,f2,f3,f4]))(hone:Deep.oneCellFields P #[f0,f1,f2,f3,f4]=true)(hC:P.cellsOf t=5)
  (hI:P.underlying eI=some (.int .i64)) (hS:P.underlying eS=some .string) (e0:f0.type=eI) (e1:f1.type=eI) (e2:f2.type=eI) (e3:f3.type=eI) (e4:f4.type=eS)
  (h:DataW.trod enc P w base spare held n t cs=some x):∃d:Ax,cs=acells d∧x=(dd d,[])∧d.ok:=by
 obtain⟨xs,m,_,hx,hlen,hxl,hfi⟩:=DataW.trod_struct hs h;obtain⟨c0,c1,c2,c3,c4,rfl⟩:=list5 (hlen.trans hC);obtain⟨y0,y1,y2,y3,y4,rfl⟩:=list5 hxl;have t0:=hfi 0 f0 rfl;obtain⟨o0,k0⟩:=Deep.hone_of hone 0 f0 rfl;rw[e0]at t0 k0;obtain⟨a0,q0,rfl,w0⟩:=DataW.trod_int hI (show DataW.trod enc P w base spare held m eI [c0]=some y0 by simpa[o0,k0] using t0);simp only[List.cons.injEq,and_true]at q0;subst q0;have t1:=hfi 1 f1 rfl;obtain⟨o1,k1⟩:=Deep.hone_of hone 1 f1 rfl;rw[e1]at t1 k1;obtain⟨a1,q1,rfl,w1⟩:=DataW.trod_int hI (show DataW.trod enc P w base spare held m eI [c1]=some y1 by simpa[o1,k1] using t1);simp only[List.cons.injEq,and_true]at q1;subst q1;have t2:=hfi 2 f2 rfl;obtain⟨o2,k2⟩:=Deep.hone_of hone 2 f2 rfl;rw[e2]at t2 k2;obtain⟨a2,q2,rfl,w2⟩:=DataW.trod_int hI (show DataW.trod enc P w base spare held m eI [c2]=some y2 by simpa[o2,k2] using t2);simp only[List.cons.injEq,and_true]at q2;subst q2;have t3:=hfi 3 f3 rfl;obtain⟨o3,k3⟩:=Deep.hone_of hone 3 f3 rfl;rw[e3]at t3 k3;obtain⟨a3,q3,rfl,w3⟩:=DataW.trod_int hI (show DataW.trod enc P w base spare held m eI [c3]=some y3 by simpa[o3,k3] using t3);simp only[List.cons.injEq,and_true]at q3;subst q3;have t4:=hfi 4 f4 rfl;obtain⟨o4,k4⟩:=Deep.hone_of hone 4 f4 rfl;rw[e4]at t4 k4;obtain⟨a4,q4,rfl,w4⟩:=DataW.trod_string hS (show DataW.trod enc P w base spare held m eS [c4]=some y4 by simpa[o4,k4] using t4);simp only[List.cons.injEq,and_true]at q4;subst q4;exact⟨⟨a0,a1,a2,a3,a4⟩,rfl,by simpa[dd] using hx,wf_range w0,wf_range w2⟩
theorem open_script {H:Type}{enc:TypeId×Value→H}{P:Program}{w:World}{t e eI eS:TypeId}{f0 f1 f2 f3 f4:Field}{fuel:Nat}{cs:List Value}{x:DataW H×List MemPlace}(ht:P.underlying t=some (.slice e))(hs:P.underlying e=some (.struct #[f0,f1,f2,f3,f4]))(hone:Deep.oneCellFields P #[f0,f1,f2,f3,f4]=true)(hC:P.cellsOf e=5)
  (hI:P.underlying eI=some (.int .i64)) (hS:P.underlying eS=some .string) (e0:f0.type=eI) (e1:f1.type=eI) (e2:f2.type=eI) (e3:f3.type=eI) (e4:f4.type=eS)
  (h:DataW.trod enc P w 0 (fun _=>true) true fuel t cs=some x):
  ∃(ao:Option Addr) (cap:Nat) (l:List Ax) (rest:List (DataW H)),cs=[.slice ao l.length cap]∧Scr w ao l∧(∀d∈l,d.ok)∧(x.1=.nil∧l=[]∨x.1=.slice (l.map dd) rest):=by
 rcases Deep.open_slice ht h with ⟨rfl,rfl⟩|⟨a,len,cap,m,n,D,Pl,rfl,hb,hl,hm,hmm,rfl,hx⟩
 ·exact⟨none,0,[],[],rfl,fun i d hd=>(by simp at hd),fun d hd=>(by cases hd),Or.inl ⟨rfl,rfl⟩⟩
 ·have hlm:len≤m:=by rw[hmm];simpa using hl
  haveI:Inhabited Ax:=⟨⟨0,0,0,0,⟨#[]⟩⟩⟩
  obtain⟨f,hf⟩:=Deep.choose_lt (α:=Ax) (n:=len) (p:=fun i d=>(∀j:Nat,j<5→w.cell? (a.add (i*5+j))=(acells d)[j]?)∧D i=dd d∧d.ok) (fun i hi=>by
   obtain⟨cs',h1,h2⟩:=hx i (by omega);obtain⟨d,rfl,hd,hok⟩:=open_deed hs hone hC hI hS e0 e1 e2 e3 e4 h2;obtain⟨_,_,hc⟩:=World.cells?_some h1;rw[hC]at hc;refine⟨d,fun j hj=>?_,(Prod.mk.inj hd).1,hok⟩;rw[←hc j hj,Addr.add_add])
  have hll:((List.range len).map f).length=len:=by simp
  have hget:∀(i:Nat) d,((List.range len).map f)[i]? = some d→i<len∧f i=d:=fun i d hd=>by
   have hi:i<len:=by rw[←hll];exact(List.getElem?_eq_some_iff.1 hd).1
   rw[List.getElem?_map,List.getElem?_range hi]at hd;exact⟨hi,by simpa using hd⟩
  refine⟨some a,cap,(List.range len).map f,_,by rw[hll],fun i d hd=>?_,fun d hd=>?_,Or.inr (congrArg (fun z=>DataW.slice z _) ?_)⟩
  ·obtain⟨hi,rfl⟩:=hget i d hd;have hc:=(hf i hi).1;have c0:=hc 0 (by omega);have c1:=hc 1 (by omega);have c2:=hc 2 (by omega);have c3:=hc 3 (by omega);have c4:=hc 4 (by omega);have hsp:a.spot=none:=no_spot (show w.cell? a=some (.int .i64 (f 0).c) from(hf 0 (by omega)).1 0 (by omega));obtain⟨g,off,q⟩:=a;have hq:q=none:=hsp;subst hq;simp only[add_none,←Nat.add_assoc,Nat.add_zero]at c0 c1 c2 c3 c4;exact⟨g,off,rfl,World.block_lt_of_cell? w _ c0,c0,c1,c2,c3,c4⟩
  ·obtain⟨i,hi⟩:=List.getElem?_of_mem hd;obtain⟨hi2,rfl⟩:=hget i d hi;exact(hf i hi2).2.2
  ·rw[List.map_map];refine List.map_congr_left fun i hi=>?_
   exact(hf i (List.mem_range.1 hi)).2.1
theorem bulk_deeds {H:Type}(l:List Ax):Rows.uptoBulkAll (l.map (dd (H:=H)))=lets l l.length+l.length*6:=by
 rw[lets,List.take_length]
 induction l with
 | nil=>rfl
 | cons d l ih=>
  rw[List.map_cons,Rows.uptoBulkAll,ih,List.map_cons,List.sum_cons];have:Rows.uptoBulk (dd (H:=H) d)=d.t.size+6:=by
   show Rows.uptoBulkAll _+1=_;simp only[Rows.uptoBulkAll,Rows.uptoBulk];have:d.t.data.toList.length=d.t.size:=Array.length_toList;omega
  rw[this,List.length_cons];omega
set_option maxRecDepth 100000 in
theorem contract (H:Type)(enc:TypeId×Value→H)(W:World)(base:Nat)(args:Array Value)(ds gs:List (DataW H))(before:List MemPlace)
  (hval:∀(j:Nat) t v,Tryz.f10.params[j]? = some t→args[j]? = some v→Value.okWide Tryz.prog W .any base t v)
  (hW:DataW.Whole enc Tryz.prog Tryz.f10.params.toList Rows.daemonsSpec.vars false W args.toList ds gs before)
  (hbulk:Rows.uptoBulkAll (ds++gs)≤1048576)
  (hT:Plainw.Tab W):
  Calls Tryz.prog 10 args W fun e W'=>∃v,e=.returned v∧Rows.daemonsSpec.post enc Tryz.prog Tryz.f10 false true false false W args v W':=by
 have hW':=hW;obtain⟨p,q,hA0,hV,rfl,hfz,hnd⟩:=hW;have hA:DataW.TrodAll enc Tryz.prog W 0 (fun _=>true) true Tryz.f10.params.toList args.toList ds p:=hA0;rw[Tryz.params10]at hA hval;obtain⟨v0,vs0,d0,ds0,p0,q0,hargs,rfl,rfl,h0,r0⟩:=trodAll_cons hA;obtain⟨v1,vs1,d1,ds1,p1,q1,rfl,rfl,rfl,h1,r1⟩:=trodAll_cons r0;obtain⟨v2,vs2,d2,ds2,p2,q2,rfl,rfl,rfl,h2,r2⟩:=trodAll_cons r1;obtain⟨rfl,rfl,rfl⟩:=trodAll_nil r2;obtain rfl:args=#[v0,v1,v2]:=by cases args;simp_all
 obtain⟨rfl,rfl⟩:=trodVars_none hV;obtain⟨a0,a1,a2,a3,a4,a5,rfl,rfl,rfl,w0,w1,w2,w3,w4,w5⟩:=open_six Tryz.underlying23 (by kernel_rfl) cells23 Tryz.underlying3 rfl rfl rfl rfl rfl rfl (hval 0 23 v0 rfl rfl) h0;obtain⟨b0,b1,b2,b3,b4,b5,rfl,rfl,rfl,u0,u1,u2,u3,u4,u5⟩:=open_six Tryz.underlying23 (by kernel_rfl) cells23 Tryz.underlying3 rfl rfl rfl rfl rfl rfl (hval 1 23 v1 rfl rfl) h1;have h1k:=h2;obtain⟨va,vl,vc,rfl⟩:=okWide_slice Tryz.underlying64 (hval 2 64 v2 rfl rfl);obtain⟨fuel,hf⟩:=h2;obtain⟨ao,cap,l,rest,hcs,hsrc,hok,hd⟩:=open_script Tryz.underlying64 Tryz.underlying72 (by kernel_rfl) cellsA Tryz.underlying3 Tryz.underlying9 rfl rfl rfl rfl rfl hf;have hv:Value.slice va vl vc=.slice ao l.length cap:=by simpa[Value.cells] using hcs
 rw[hv]at hW' h1k hval ⊢;clear hA0;simp only[List.append_nil,List.nil_append]at hW' hbulk;have hb:lets l l.length+l.length*6≤1048576:=by
  simp only[Rows.uptoBulkAll]at hbulk;rcases hd with ⟨_,rfl⟩|hd
  ·show 0+0*6≤_;omega
  ·have hd':d2=.slice (l.map dd) rest:=hd;rw[hd',Rows.uptoBulk,bulk_deeds]at hbulk;omega
 refine(show Calls _ _ _ _ _ from daemonsL W hT (six a0 a1 a2 a3 a4 a5) (six b0 b1 b2 b3 b4 b5) ao cap l hsrc (by omega) (by omega) hok).mono fun e W' ⟨he,hb⟩=>?_
 subst he;have hlt:∀x∈p2,x.block<W.heap.size:=fun x hx=>by simpa using hW'.lt x (by simpa using hx)
 refine⟨_,rfl,post_below (pa:=p2) (pv:=[]) hW' (fun _ _ _=>trodAll_cons_mk (shut_bool Tryz.underlying4 _) trodAll_mk0) (fun sp hsp=>?_) (fun _ _=>rfl) (by simp) hb (ok_one (by kernel_rfl) rfl (okWide_bool_mk Tryz.underlying4 _))⟩;have:=trodAll_cons_mk (shut_six (enc:=enc) (P:=Tryz.prog) (w:=W') (base:=0) (spare:=sp) (held:=true) Tryz.underlying23 (by kernel_rfl) cells23 Tryz.underlying3 rfl rfl rfl rfl rfl rfl w0 w1 w2 w3 w4 w5) (trodAll_cons_mk (shut_six (enc:=enc) (P:=Tryz.prog) (w:=W') (base:=0) (spare:=sp) (held:=true) Tryz.underlying23 (by kernel_rfl) cells23 Tryz.underlying3 rfl rfl rfl rfl rfl rfl u0 u1 u2 u3 u4 u5) (trodAll_cons_mk (WideElems.Trod_stays laidOut (by kernel_rfl) (of_decide_eq_true (by kernel_rfl)) h1k (fun x hx=>hb.same (hlt x hx)) (fun x hx=>hsp x (by simpa using hx))) (trodAll_mk0 (enc:=enc) (P:=Tryz.prog) (w:=W') (base:=0) (spare:=sp) (held:=true))));simp only[List.append_nil,List.nil_append]at this;exact this
section
set_option maxRecDepth 100000
abbrev args0:Array Value:=#[.agg #[.int .i64 0,.int .i64 0,.int .i64 0,.int .i64 0,.int .i64 0,.int .i64 0],.agg #[.int .i64 0,.int .i64 0,.int .i64 0,.int .i64 0,.int .i64 0,.int .i64 0],.slice none 0 0]
theorem fits (os:Os):(World.holding Tryz.prog os ⟨#[],#[],[]⟩).layFits Tryz.prog Rows.daemonsUptoRow.laid []=true:=by kernel_rfl
theorem ifaces (os:Os):(World.holding Tryz.prog os ⟨#[],#[],[]⟩).layIfaces Tryz.prog Rows.daemonsUptoRow.laid (World.laidAll Tryz.prog os Rows.daemonsUptoRow.laid)=true:=by kernel_rfl
theorem laid_met (os:Os):laidMet Tryz.prog Rows.daemonsUptoRow.laid ((World.laidAll Tryz.prog os Rows.daemonsUptoRow.laid).forCall (fun _ _=>0) ⟨#[],args0,[]⟩).memory:=
 laidMet_laidAll args0 (fits os) (ifaces os)
theorem reads (os:Os){H:Type}(enc:TypeId×Value→H):∃places,DataW.whole enc Tryz.prog ((World.laidAll Tryz.prog os Rows.daemonsUptoRow.laid).forCall (fun _ _=>0) ⟨#[],args0,[]⟩).memory Tryz.f10.params.toList Rows.daemonsSpec.vars false args0.toList 8=some ([.agg [.lit (.int .i64 0),.lit (.int .i64 0),.lit (.int .i64 0),.lit (.int .i64 0),.lit (.int .i64 0),.lit (.int .i64 0)],.agg [.lit (.int .i64 0),.lit (.int .i64 0),.lit (.int .i64 0),.lit (.int .i64 0),.lit (.int .i64 0),.lit (.int .i64 0)],.nil],[],places):=
 ⟨[],by kernel_rfl⟩
theorem vars_ok (os:Os):((World.laidAll Tryz.prog os Rows.daemonsUptoRow.laid).forCall (fun _ _=>0) ⟨#[],args0,[]⟩).variablesB Tryz.prog=true:=by kernel_rfl
theorem rest_ok (os:Os):(((World.laidAll Tryz.prog os Rows.daemonsUptoRow.laid).forCall (fun _ _=>0) ⟨#[],args0,[]⟩).heap.toList.drop Tryz.prog.globals.size).take ((begin Tryz.prog (fun _ _=>0) default).world.heap.size - Tryz.prog.globals.size)=
   (begin Tryz.prog (fun _ _=>0) default).world.heap.toList.drop Tryz.prog.globals.size:=by kernel_rfl
theorem input_ok (os:Os):Input.okWideB Tryz.prog ((World.laidAll Tryz.prog os Rows.daemonsUptoRow.laid).forCall (fun _ _=>0) ⟨#[],args0,[]⟩) 10 ⟨#[],args0,[]⟩=true:=by kernel_rfl
end
set_option maxRecDepth 100000 in
theorem lifted (os:Os)(started:os.Started)(H:Type)(enc:TypeId×Value→H)(F:Stop.Interp):
  ReturnsInHanded {} Tryz.checked os 10 .any ((Rows.OpenSpec.upto Rows.daemonsSpec).preRow enc Tryz.prog Tryz.f10 Rows.daemonsUptoRow.domain false Rows.daemonsUptoRow.laid) (((Rows.OpenSpec.upto Rows.daemonsSpec).at F).post enc Tryz.prog Tryz.f10 false true false false):=by
 obtain⟨places,hx⟩:=reads os enc;refine returnsInHanded_of_row (C:=Tryz.checked) (s:=Rows.OpenSpec.upto Rows.daemonsSpec) own started (by kernel_rfl) Tryz.func10
  (witness_row_at (enc:=enc) (C:=Tryz.checked) false (World.laidAll Tryz.prog os Rows.daemonsUptoRow.laid) args0 (World.laidAll_os _ _ _) (vars_ok os) (rest_ok os) (input_ok os)
   (OpenSpec.preRow_of_cond 8 hx (by kernel_rfl) (fun k hk=>by cases hk;kernel_rfl) (by kernel_rfl) (laid_met os))) ?_
 intro W base args ds gs before hval hW _ hcond _ hL _ _
 exact contract H enc W base args ds gs before hval hW (of_decide_eq_true (hcond _ rfl)) (tab_of (a := ("math/bits.deBruijn32tab", Rows.laid_math_bits_deBruijn32tab)) (b := ("math/bits.deBruijn64tab", Rows.laid_math_bits_deBruijn64tab)) hL)
theorem said:Rows.DaemonsUptoSaid:=
 OpenClaim.holds_of_cond 10 Tryz.f10 rfl rfl rfl rfl rfl rfl rfl ⟨rfl,rfl,rfl,rfl,rfl⟩ rfl rfl rfl rfl rfl (by kernel_rfl) Tryz.func10 Fctdm.facts
  (of_decide_eq_true (by kernel_rfl)) (by unfold Func.isWrapper;first|(rw[if_pos (by decide +kernel)];kernel_rfl)|(rw[if_neg (by decide +kernel)];exact⟨rfl,rfl⟩))
  (fun os started H enc _ F=>by rw[OpenClaim.pre_eq_preRow];exact lifted os started H enc F)
theorem plain (f : FuncId) (fn : Func) (hf : Tryz.pinned.checked.prog.funcNamed "tally/tallylaw.Daemons" = some f) (hfn : Tryz.pinned.checked.prog.funcs[f]? = some fn) :
  true=Tryz.pinned.checked.prog.looks []∧∀(j:Nat) t,fn.params[j]? = some t→Tryz.pinned.checked.prog.wantsStandIn t=false:=by
 obtain rfl : f = 10 := Option.some.inj ((show Tryz.prog.funcNamed "tally/tallylaw.Daemons" = some 10 by kernel_rfl).symm.trans hf) |>.symm
 obtain rfl:fn=Tryz.f10:=(Option.some.inj (Tryz.func10.symm.trans hfn)).symm;refine⟨by kernel_rfl,fun j t ht=>?_⟩;rw[Tryz.params10]at ht;have ht':t=23∨t=64:=by simpa using Array.mem_of_getElem? ht
 rcases ht' with rfl|rfl
 ·exact(show Tryz.prog.wantsStandIn 23=false by kernel_rfl)
 ·exact(show Tryz.prog.wantsStandIn 64=false by kernel_rfl)
end Go.Proofs.YtenegfafjjknoaaGreatDoor.Md
