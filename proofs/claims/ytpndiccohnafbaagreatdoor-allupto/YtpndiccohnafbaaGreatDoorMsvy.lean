/- Messages: how they lie in a map; maps.Values over such a map, for every loop body. -/
import Derived.RangeFuncBox
import Derived.RangeFuncNested
import Derived.RangeFuncBound
import Derived.RangeFuncCalls
import Derived.RangeFuncLeaves
import Derived.Shelf.Abstract
import Derived.WalkKit
import Derived.OwnWalkIn
import Derived.TacticsInMore
import Derived.LoopNIn
import Derived.LoopIn
import Derived.Maps.AppendAt
import Derived.Maps.OwnIn
import Derived.Sort.MapsRangeIn
import Derived.Lib.SlKeysI
import Derived.Test.YtpndiccohnafbaaGreatDoorWmy
import Derived.WalkSmall
set_option maxHeartbeats 9000000
open Go.Value renaming string->L,slice->Q
open Option renaming some->Z,none->Y
open Go.Proofs.Tryz renaming prog->ca,underlying3->Ua
open Array renaming replicate_succ->Va,replicate_zero->Wa
open List renaming append_toArray->Xa,size_toArray->Ya,push_toArray->Za,length_cons->eb,cons_append->qb,length_nil->Ub,nil_append->Vb,nodup_iff_pairwise_ne->Xb
open Nat renaming le_refl->Wb,reduceAdd->Yb,reduceSub->Zb
open Go renaming Value->C,World->N,KeepsWalks->Uc
open Go.KeepsWalks renaming alloc->Vc
namespace Go.Proofs.YtpndiccohnafbaaGreatDoor.Sk
open Go.RowKit Go.Maps Go.Shelf Mem Foot Im
attribute [local go_sem] Oper.semAt_some
structure Ms where
 k:Int
 t:ByteArray
def mv (m:Ms):Value:=.agg #[.int .i64 m.k,L m.t]
def wa:C->Bool
 | .agg a=>match a.toList with
  | [.int .i64 _,L _]=>true
  | _=>false
 | _=>false
theorem Ia (m:Ms):wa (mv m)=true:=rfl
variable {a:List Ms}{b c:Ms}
theorem Cm {v:C}(h:wa v=true):∃m,v=mv m:=by
 unfold wa at h;split at h
 .rename_i a;split at h
  .rename_i k t e;refine⟨⟨k,t⟩,?_⟩;have:a=#[.int .i64 k,L t]:=by grind
   rw[this];rfl
  cases h
 cases h
theorem OA (h:mv b=mv c):b=c:=by
 cases b;cases c;simp[mv]at h;simp[h]
def aG (l:List Ms):List (Int×Ms):=l.map λm=>(m.k,m)
def D (l:List Ms):DataW Value:=mp jk mv (aG l)
theorem GD {k:Int}   (h:aS k (aG a)=Z b):b∈a/\b.k=k:=by grind [aS,aG,Option.map_eq_some_iff]
theorem RT {k:Int}  {v:C}(h:∀c,(D a).atKey (.int .i64 k) c=.held v):∃m∈a,m.k=k/\v=mv m:=by
 have b:=h (.agg []);rw[D,show Lit.int .i64 k=jk k from rfl,Hg cB]at b;grind [GD]
theorem Fz (l:List Ms):Maps.size (D l)=l.length:=by
 rw[D,gK];simp[aG]
theorem NJ (l:List Ms):intKeys (D l)=l.map (·.k):=by
 unfold D mp aG;simp[intKeys,jk,intOf,Function.comp_def]
theorem uniq (g:(a.map (·.k)).Nodup)  (d:b∈a)(f:c∈a)(e:b.k=c.k):b=c:=by
 induction a with
 | nil=>cases d
 | cons x r h=>grind
theorem vw {c:List Ms}(d:(c.map (·.k)).Nodup)(g:(a.map (·.k)).Perm (c.map (·.k)))(j:∀x∈a,x∈c):a.Perm c:=by
 have f:(a.map (·.k)).Nodup:=g.nodup_iff.2 d;have m:a.Nodup:=by
  rw[Xb]at f ⊢;rw[List.pairwise_map]at f;exact f.imp λ{i b} h e=>h (by rw[e])
 have n:c.Nodup:=by
  rw[Xb]at d ⊢;rw[List.pairwise_map]at d;exact d.imp λ{i b} h e=>h (by rw[e])
 refine(List.perm_ext_iff_of_nodup m n).2 λx=>⟨j x,λl=>?_⟩
 have:x.k∈a.map (·.k):=g.mem_iff.2 (List.mem_map.2 ⟨x,l,rfl⟩);grind [uniq]
set_option maxRecDepth 100000 in
theorem MQ (F:Fence)(n:Nat)(hf:F.fn 72)(a4:F.round=Y)(hn:1<=n)(l Bm b M:Nat)(g:List Ms)(b2:(g.map (·.k)).Nodup)(J Jx:List Ms->N->Prop)
  (hY:∀f x W,J f W->f.length<g.length->YieldAt F (n - 1) ca l #[mv x] W λe j=>
   (e=.returned (.bool true)/\J (f++[x]) j/\Uc W j)\/(e=.returned (.bool false)/\Jx (f++[x]) j))
  (W:N) (S:AbidesFrom W.heap.size J) (hm:W.cell? ⟨Bm,0,Y⟩=Z (.map (Z b))) (h:W.ownsMap ca 3 (kg wa) b M (D g)) (h0:J [] W):
  CallsIn F n ca 72 #[.func (.yield l) #[] #[],.pointer (Z ⟨Bm,0,Y⟩)] W λe j=>(∃v,e=.returned v)/\
   ((∃a,a.Perm g/\J a j)\/(∃f,True/\Jx f j)):=by
 refine callsIn_of_wp Tryz.func72 rfl hf ?_ a4;simp only[Tryz.ntmps72,Ya,eb,Ub,Yb,Zb,Va,Wa,Za,Xa,Vb,qb];gi_wp2_with (first
  | (gi_at_range;refine wpListIn_range_own _ rfl _ 57 rfl 3 47 (int_keyed Ua) Tryz.underlying57 _ b M _ rfl h ?_;intro w0 G X hs0)
  | gi_in)
 go_frame
 gi_loopw [4] (λ_ wr=>∃(d:Lit->Bool) (i:Nat) (a:List Ms),wr.ranges ca 3 (kg wa) b W.heap.size M (D g) d i/\a.length+i<=g.length/\CollectedI (D g) d (a.map (·.k))/\(∀x∈a,x∈g)/\J a wr)
  (λ_ wr=>wr.rangeLeft b W.heap.size)
 case atStart=>
  exact⟨_,_,[],G,by simp[Fz],CollectedI.start _,by simp,S [] W w0 Y h0 X (λr e=>by cases e)⟩
 case round=>
  obtain⟨d,i,a,E,b0,hC,hV,s⟩:=hrel;gi_wp2_with (first
   | (gi_at_next;refine wpListIn_next_ranges _ rfl _ rfl 3 (int_keyed Ua) (kg wa) encZ mv (λkey kl hk=>by grind [keyOf_i64,Ua]) (λv y hv=>Cm (mc hv).1) b W.heap.size M _ _ _ rfl E ?_ ?_)
   | gi_in)
  .intro a8 a2;gi_wp2
   go_end0;refine⟨⟨_,rfl⟩,.inl ⟨a,?_,s⟩⟩;have:=hC.perm h (int_keyed Ua) Ua a2;grind [NJ,vw]
  intro x c kl yd yp P m B a3 hv u H b1 a0 a5 V;obtain⟨x',ex,rfl,_⟩:=Maps.keyOf_i64 Ua B;obtain rfl:x=x':=encZ_inj ex;obtain rfl:yd=.held (mv c):=(Prod.mk.inj (mc hv).2).1;obtain⟨c',a9,w,A⟩:=RT u;obtain rfl:c=c':=OA A;have o:J a P:=S a wr P (Z W.heap.size) s a0 (λr e=>by cases e;exact⟨Wb _,E.iter_walk⟩);have R:CollectedI (D g) (λz=>d z&&!z.sameKey (.int .i64 x)) ((a++[c]).map (·.k)):=by
   rw[List.map_append,List.map_singleton,w];exact hC.step a3 u
  have U:∀p∈a++[c],p∈g:=λp hp=>(List.mem_append.1 hp).elim (hV p) (λe=>by grind)
  clear a5;have q:J a (P.alloc (.cells #[.int .i64 c.k,L c.t] 47)):=S a P _ Y o (World.grownBy_alloc _ _ _) (λr e=>by cases e);obtain⟨fn,a7,assign,body,hy,hR⟩:=hY a c _ q (by omega);simp only[mv]at V hy ⊢;clear w A ex o q;gi_wp2
  refine hR.mono ?_;rintro e W4 (⟨rfl,T,a1⟩|⟨rfl,a6⟩)
  .gi_wp2
   have K:=(H.of_walks (Vc _ _)).of_walks a1;go_roundw
   case rel=>exact⟨_,m,a++[c],K,by simp;omega,R,U,T⟩
   grind [World.ranges.left_eq]
  gi_wp2
  refine bodyPost_ret (results_none rfl _ _ _) rfl ?_;grind
attribute [local go_sem] Oper.semAt_some
def aH:List Ms->List C
 | []=>[]
 | m ::l=>.int .i64 m.k ::L m.t ::aH l
theorem fu (l r:List Ms):aH (l++r)=aH l++aH r:=by
 induction l with
 | nil=>rfl
 | cons m l a=>simp[aH,a]
theorem cP (l:List Ms):(aH l).length=l.length*2:=by
 induction l with
 | nil=>rfl
 | cons m l a=>
  simp[aH,a];omega
def ic (w:N)(c:Option Nat)(a:List Ms):Prop:=
 match c with
 | none=>a=[]
 | some b=>∃d,w.ownsMap ca 3 (kg wa) b d (D a)
set_option maxRecDepth 100000 in
theorem ze (F:Fence)(n:Nat)(g:F.fn 72)(a:F.round=Y)(l b:Nat)(J:List Ms->N->Prop)
  (W:N) (f:AbidesFrom W.heap.size J) (j:W.cell? ⟨b,0,Y⟩=Z (.map Y)) (d:J [] W):
  CallsIn F n ca 72 #[.func (.yield l) #[] #[],.pointer (Z ⟨b,0,Y⟩)] W λe c=>(∃v,e=.returned v)/\J [] c:=by
 refine callsIn_of_wp Tryz.func72 rfl g ?_ a;simp only[Tryz.ntmps72,Ya,eb,Ub,Yb,Zb,Va,Wa,Za,Xa,Vb,qb];have i:=run_range_nilMap (P:=ca) W 57 3 47 Tryz.underlying57;have h:∀ty,(Instr.next (.pointer (Z ⟨W.heap.size,0,Y⟩)) false ty).run ca (W.alloc (.mapIter Y 0 #[] 0))=_:=λty=>run_next_nilMap _ ty 0 0 #[]
 gi_wp2
 refine wpIn_loop_rounds 1 ?_;rw[roundsIn_succ];gi_wp2
 go_end0;exact⟨⟨_,rfl⟩,f [] W _ Y d (World.grownBy_alloc W _ Y) (λr e=>by cases e)⟩
theorem vU (F:Fence)(n:Nat)(v:F.fn 72)(i:F.round=Y)(K:1<=n)(g:Nat)(r:Option Nat)(f:List Ms)(q:(f.map (·.k)).Nodup)(w:N)(j:g<w.heap.size)
  (H:w.cell? ⟨g,0,Y⟩=Z (.map r)) (a:ic w r f):
  SeqStopsK F n ca 72 #[.pointer (Z ⟨g,0,Y⟩)] (λm=>#[mv m]) Uc (λP=>P.Perm f) (λ_=>True) f.length w:=λl J z W u t _ E s=>by
 have h:=(u.cell (p:=⟨g,0,Y⟩) j).trans H;cases r with
 | none=>
  have e:f=[]:=a;subst e;refine(ze F n v i l g J W t h s).mono ?_;simp_all
 | some b=>
  obtain⟨x,a⟩:=a;have d:W.ownsMap ca 3 (kg wa) b x (D f):=by
   have o:=a.lt;obtain⟨A,c,G,y,M,B⟩:=a;exact⟨A,c,(u.block b o).trans G,y,M,B⟩
  exact MQ F n v i K l g b x f q J z E W t h d s
theorem Qh:(ca.info? 47).map (λi=>(i.zero,i.size,i.bytes))=Z (Z (.agg #[.int .i64 0,L ⟨#[]⟩]),2,24):=by kernel_rfl
theorem Jf {β:Type}(b:Nat)(t:TypeId)(h:Array C):Own (λ(_:β) W=>af W b t h):=λs X l f d k a=>by
 have c:Z b≠f:=λi=>by
  obtain⟨o,g,j⟩:=a b i.symm;have e:X.heap[b]? = _:=d;rw[e]at g;cases g;cases j
 exact(k.block b d.lt c).trans d
set_option maxRecDepth 100000 in
theorem appendSeq (F:Fence)(n:Nat)(hf:F.fn 106)(E:F.round=Y)(hn:2<=n)(g:Nat)(lb:Array C)(P:F.fn g)(eg:∀i w,(callFunc g i).run ca w=.ok (.enter g i) w)
  (J:List Ms) (hN:J.length<=maxLen) (a4:J.length*24<=140737488355328) (w:N) (G:SeqStopsK F (n - 1) ca g lb (λm=>#[mv m]) Uc (λz=>z.Perm J) (λ_=>True) J.length w):
  CallsIn F n ca 106 #[Q Y 0 0,.func (.func g) #[] lb] w λe w'=>∃(v:C) (z:List Ms),e=.returned v/\z.Perm J/\
   w'.ownsRow w.heap.size 47 2 v z.length (aH z)/\(v=Q Y 0 0↔z=[])/\Below w.heap.size w w':=by
 have h1:1<=n:=by omega
 obtain⟨i0,hi,V,X,a0⟩:=info_parts Qh;refine callsIn_of_wp_marks Tryz.func106 rfl hf ?_ E;simp only[Tryz.ntmps106,Ya,eb,Ub,Yb,Zb,Va,Wa,Za,Xa,Vb,qb];gi_wp2
 have bO:=Boxed.new w 31 (Q Y 0 0);have A:Below w.heap.size w (w.alloc (.cells #[Q Y 0 0] 31)):=(Below.refl _ w).alloc (Wb _) _;refine wpIn_rangeFunc_ownH E h1 (gf:=g) (lb:=lb) rfl P eg G walksK_t walksK_b A (λ_=>rfl)
  (λa W=>(∃v,Boxed W w.heap.size 31 v/\W.ownsRow w.heap.size 47 2 v a.length (aH a)/\(v=Q Y 0 0↔a=[]))/\Below w.heap.size w W)
  (λ_ _ _=>False)
  (OwnFrom.and (Own.from (holdsRow_own w.heap.size w.heap.size 31 47 2 (λa:List Ms=>a.length) aH (λa v=>v=Q Y 0 0↔a=[])) _) (ownFrom_below (Wb _) (by simp)))
  (λ_ _ _ _ _ T _ _=>T)
  ⟨⟨_,bO,World.ownsRow_nil _ _ _ _,by simp⟩,A⟩
  (λx M W=>∃o,w.heap.size<o/\af W o 47 #[.int .i64 x.k,L x.t]/\M={tmps:=#[Q Y 0 0,.func (.func g) #[] lb,.pointer (Z ⟨w.heap.size,0,Y⟩),undef,Q Y 0 0,.pointer (Z ⟨o,0,Y⟩),.func (.func g) #[] lb,mv x,undef,undef,undef,undef,undef],defers:=[]})
  (λx M=>λs W W' a1 T hg hr=>by
   obtain⟨o,h2,h3,h4⟩:=T;exact⟨o,h2,(Jf (β:=Unit) o _ _) s W W' a1 h3 hg (λr e=>(hr r e).2),h4⟩)
  ?assign ?body ?done ?stop
 case assign=>
  rintro l a x W K ⟨⟨v,q,b,d⟩,j⟩ y;simp only[mv]at y ⊢;gi_wp2
  refine y _ _ ((KeepsOthers.alloc _ _).from _) (Vc _ _) ⟨⟨v,q.alloc _,b.alloc _,d⟩,j.alloc j.size _⟩ ⟨W.heap.size,q.lt,af.new W _ _,rfl⟩
 case body=>
  rintro l a x M W hl hr ⟨⟨v,q,b,d⟩,j⟩ ⟨o,a3,bX,rfl⟩ a7;have hc:=q.cell;have a8:=bX.Ri 0;have a9:=bX.Ri 1;gi_wp2_with (gi_at_builtin;refine wpListIn_append_own _ rfl _ _ 31 rfl w.heap.size 47 i0 (.agg #[.int .i64 0,L ⟨#[]⟩]) 2 24 Tryz.underlying31 hi V X a0 rfl (by decide) _ _ _ rfl (b.alloc _) ⟨W.heap.size,0,Y⟩ 1 1 [.int .i64 x.k,L x.t] rfl rfl (cell_two_new _ _ _ _) (by intro u hu;simp at hu;rcases hu with rfl|rfl<;>rfl) (by omega) (by omega) (by have:=j.size;simp;omega) ?_;intro v' w1 f p _;obtain⟨g',a2,rfl⟩:=ownsRow_succ f;obtain⟨H,U,S,B,R⟩:=q.appended (by decide) b j.size (Wb _) f p;have a5:=H.cell;have a6:=H.frozen)
  refine⟨B.from _,B.walks,⟨_,U,?_,by simp⟩,j.trans R⟩;rw[fu];simpa[aH] using S
 case done=>
  rintro D ys W hD hS ⟨⟨v,q,b,d⟩,j⟩ y;have hc:=q.cell;gi_wp2
  refine⟨by simp,.inl ⟨_,_,rfl,run_takeDeferred y,?_⟩⟩;exact⟨_,results_tmp rfl _ _ _,v,ys,rfl,hS,ownsRow_putObj b _ y rfl,d,j.trans (belowK_b (w:=w) (Wb _) W D _ _ (by simp at hD;omega) y rfl rfl)⟩
 case stop=>
  rintro D c a W _ _ h _;exact h.elim
theorem collect (F:Fence)(n:Nat)(t:F.fn 70)(l:F.fn 106)(f:F.round=Y)(y:3<=n)(g:Nat)(lb:Array C)(j:F.fn g)(p:∀a w,(callFunc g a).run ca w=.ok (.enter g a) w)
  (b:List Ms) (q:b.length<=maxLen) (k:b.length*24<=140737488355328) (w:N) (i:SeqStopsK F (n - 1 - 1) ca g lb (λm=>#[mv m]) Uc (λc=>c.Perm b) (λ_=>True) b.length w):
  CallsIn F n ca 70 #[.func (.func g) #[] lb] w λe o=>∃(v:C) (c:List Ms),e=.returned v/\c.Perm b/\
   o.ownsRow w.heap.size 47 2 v c.length (aH c)/\(v=Q Y 0 0↔c=[])/\Below w.heap.size w o:=by
 have x:1<=n:=by omega
 refine callsIn_of_wp Tryz.func70 rfl t ?_ f;simp only[Tryz.ntmps70,Ya,eb,Ub,Yb,Zb,Va,Wa,Za,Xa,Vb,qb];gi_wp2_with (gi_at_call 106;refine(appendSeq F (n - 1) l f (by omega) g lb j p b q k _ i).mono ?_;rintro e o ⟨v,u,rfl,r,h,d,s⟩)
 go_ret;exact⟨v,u,rfl,r,h,d,s⟩
end Go.Proofs.YtpndiccohnafbaaGreatDoor.Sk
