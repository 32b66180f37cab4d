/- A timer's quantiles. -/
import Derived.Test.YtpndiccohnafbaaGreatDoorHiy
import Derived.Test.YtpndiccohnafbaaGreatDoorPlainvy
import Derived.Test.YtpndiccohnafbaaGreatDoorShelgy
import Derived.Lib.SplitLaws
import Derived.Deep.RegionWith
import Derived.Shelf.Abstract
import Derived.OwnWalkIn
import Derived.TacticsInMore
import Derived.Maps.OwnIn
import Derived.Sort.KeysCollected
set_option maxHeartbeats 9000000
open Go.Value renaming pointer->ca,int->I,slice->Q,string->Va,bool->bO,string->Ug
open Option renaming some->Z,none->Y
open Go.IntKind renaming i64->O
open Go.Ending renaming returned->Ua
open Go.Proofs.Tryz renaming prog->Wa,underlying189->Zc,underlying9->zd
open Go renaming World->Xa,Calls->Za,wpQuiet_nil->Xb,Value->C,callsIn_wide->ef
open Go.Lib renaming countByte->Ya,splitB->Wb,cellsOf->Yb,splitB_hit->Yf,index_one->Zf
open List renaming mem_cons_self->eb,filter_cons_of_pos->qb,nodup_append->Ub,getElem?_of_mem->Vb,getElem?_eq_getElem->Zb,take_succ_cons->Uc,drop_succ_cons->Vc,length_filter_le->Xc,pairwise_cons->Yc,take_zero->ad,drop_zero->ed,mem_cons->vd,mem_flatMap->Ud,length_map->Zd,map_cons->Ve,takeWhile_cons_of_pos->Xe,filter_cons_of_neg->Uf,nodup_cons->Vf,mem_map->og
open Go.RowKit.Below renaming heap_setCell->Wc,refl->Vd
open Or renaming inr->Xd,inl->Ue
open Go.WideMaps renaming keyOf_string_mk->te
open Go.Fence renaming wide->Ye
open Nat renaming le_trans->Ze,le_refl->Wf
open ByteArray renaming size_extract->Xf
open And renaming intro->Vg
open List.Pairwise renaming nil->Wg
open Function renaming comp_def->Xg
namespace Go.Proofs.YtpndiccohnafbaaGreatDoor
namespace Hi
open Go.RowKit Go.Maps Mem Foot Im Wm Hk Hb Plainw Cq
set_option maxRecDepth 10000 in
theorem rZ (T S b:Nat)(a:cZ)(n:Nat)(t:pZ)(q:Int)(f:0<=q)(g:q<=100)(w:Xa)(h:oD w T S b a.buckets t)(d:iu a n t)(m:n<=1000000000000000)(c:a.buckets<=64)(u:1<=t.count):
  Za Wa 159 #[ca (Z ⟨T,0,Y⟩),I O q] w λe o=>e=Ua (I O (dz t q))/\Below w.heap.size w o:=by
 have j:t.count<=1000000000000000:=d.count.2;have k:0<=q*(t.count - 1):=Int.mul_nonneg f (by omega);have l:q*(t.count - 1)<=100000000000000000:=by
  have:=Int.mul_le_mul g (show t.count - 1<=1000000000000000 by omega) (by omega) (by omega:(0:Int)<=100);omega
 have p:∀s:Bw w,s.val.cell? ⟨T,0,Y⟩=Z (I O t.count):=λs=>(h.keep s.is).head.Ri 0
 have r:∀s:Bw w,s.val.cell? ⟨T,4,Y⟩=Z (ca (Z ⟨S,0,Y⟩)):=λs=>(h.keep s.is).head.Ri 4
 have HA:=aa (λs:Bw w=>aT (Tf S b a.buckets t.cells t.folded (q*(t.count - 1) / 100) s.val (h.keep s.is).sk (qK.of d m c)));have i:Hid (dz t q=upto (q*(t.count - 1) / 100) 0 t.cells):=rfl;clear h d;go_in;go_wp2_with fail;refine aU ?_;repeat go_big_quiet_step (exact HA.out _)
 refine Xb ?_;rintro _ ⟨s,rfl⟩;go_wp2_with fail;go_ret;exact⟨by rw[i.out];rfl,s.is⟩
theorem Bp {k:Int}{l:List (Int×cL)}(h:∀c∈l,0<=c.2.aL/\c.2.aL<=2000000000):∀s,0<=upto k s l/\upto k s l<=2000000000:=by
 induction l with
 | nil=>intro s;simp[upto]
 | cons c r a=>
  intro s;rw[upto];split
  .exact h c (eb ..)
  simp_all
theorem fS {b:cZ}{n:Nat}{t:pZ}(h:iu b n t)(q:Int):0<=dz t q/\dz t q<=2000000000:=
 Bp (λc a=>⟨(h.tJ c a).2.2.1,(h.tJ c a).2.2.2.1⟩) 0
theorem iK (w:Xa)(x:Fin 8->Int)(t:TypeId):∀(j:Nat) y,[x 0,x 1,x 2,x 3,x 4,x 5,x 6,x 7][j]? = Z y->(w.alloc (.cells #[I O (x 0),I O (x 1),I O (x 2),I O (x 3),I O (x 4),I O (x 5),I O (x 6),I O (x 7)] t)).cell? ⟨w.heap.size,j,Y⟩=Z (I O y):=by
 intro j y a;refine(af.new w t _).cell j _ ?_
 match j,a with
 | 0,a=>grind
 | 1,a=>grind
 | 2,a=>grind
 | 3,a=>grind
 | 4,a=>grind
 | 5,a=>simp at a;subst a;rfl
 | 6,a=>simp at a;subst a;rfl
 | 7,a=>simp at a;subst a;rfl
 | j+8,a=>simp at a
theorem Nh (l w:Xa)(a b c d f g h j:Int)(k:Below l.heap.size l w)(q:gp w)(p:∀x∈[a,b,c,d,f,g,h,j],-9223372036854775808<=x/\x<=9223372036854775807):
  Za Wa 158 #[Q (Z ⟨w.heap.size,0,Y⟩) 8 8] (w.alloc (.cells #[I O a,I O b,I O c,I O d,I O f,I O g,I O h,I O j] 3)) λe m=>(∃z,e=Ua (Va z)/\Bytes.B z=Lib.join ([a,b,c,d,f,g,h,j].map Lib.itoa) [32])/\Below l.heap.size l m:=by
 refine(Om w.heap.size 8 [a,b,c,d,f,g,h,j] _ (q.below (ai _)) (by simp) (by simp) (iK w (λi=>[a,b,c,d,f,g,h,j][i]) 3) p rfl).mono ?_;rintro e m ⟨n,o⟩;exact⟨n,(k.alloc k.size _).trans (o.mono (k.alloc k.size _).size)⟩
set_option maxRecDepth 10000 in
theorem Pn (T S b:Nat)(k:cZ)(n:Nat)(t:pZ)(w:Xa)(h:oD w T S b k.buckets t)(d:iu k n t)(R:gp w)(P:n<=1000000000000000)(m:k.buckets<=64)(M:1<=t.count):
  Za Wa 122 #[ca (Z ⟨T,0,Y⟩)] w λe l=>(∃z,e=Ua (Va z)/\Bytes.B z=gV (.tim t))/\Below w.heap.size w l:=by
 obtain⟨D,c1,c2,c3,X,E,F,G,H⟩:=FT h.head;have o:∀s:Bw w,s.val.cell? ⟨T,0,Y⟩=Z (I O t.count):=λs=>(h.keep s.is).head.Ri 0
 have p:∀s:Bw w,s.val.cell? ⟨T,1,Y⟩=Z (I O t.sum):=λs=>(h.keep s.is).head.Ri 1
 have r:∀s:Bw w,s.val.cell? ⟨T,2,Y⟩=Z (I O t.least):=λs=>(h.keep s.is).head.Ri 2
 have u:∀s:Bw w,s.val.cell? ⟨T,3,Y⟩=Z (I O t.al):=λs=>(h.keep s.is).head.Ri 3
 have HA:=aa (λ(q:Int) (J:0<=q) (K:q<=100) (s:Bw w)=>aT (rZ T S b k n t q J K s.val (h.keep s.is) d P m M));have a:=folded S b k.buckets t.cells t.folded w h.sk;have A:=aa (λs:Bw w=>R.below s.is);have y:=aa (show ∀x∈jV t,-9223372036854775808<=x/\x<=9223372036854775807 by
  intro x U;have q1:=d.count;have V:=d.sum;have q3:=d.least;have q4:=d.al;have q5:=fS d 50;have q6:=fS d 90;have q7:=fS d 99;simp only[top]at q1 V;simp only[jV,vd,List.not_mem_nil,or_false]at U;omega)
 have v:Hid (gV (.tim t)=Lib.join ((jV t).map Lib.itoa) [32]):=rfl;clear D c1 c2 c3 E F G H h d;cases c:t.folded with
 | true=>
  rw[c]at a;have i:=aa (show jV t=[t.count,t.sum,t.least,t.al,dz t 50,dz t 90,dz t 99,1] by simp[jV,c]);clear c;go_in;go_wp2_with fail;refine a.mono ?_;clear a;rintro e l ⟨rfl,rfl⟩;go_wp2_with fail;refine bg 23 ?_;simp only[Uc,ad,Vc,ed];repeat go_big_quiet_step (exact HA.out _ (by decide) (by decide) _)
  refine Xb ?_;intro s;have f:=Nh l s.val t.count t.sum t.least t.al (dz t 50) (dz t 90) (dz t 99) 1 s.is (A.out s) (by rw[<-i.out];exact y);rw[<-i.out,<-v.out]at f;clear o p r u;go_wp2_with fail;refine f.mono ?_;clear f;rintro e W ⟨⟨z,rfl,j⟩,g⟩;change Hid _ at j g;go_wp2_with fail;go_ret;exact⟨⟨z,rfl,j⟩,g⟩
 | false=>
  rw[c]at a;have i:=aa (show jV t=[t.count,t.sum,t.least,t.al,dz t 50,dz t 90,dz t 99,0] by simp[jV,c]);clear c;go_in;go_wp2_with fail;refine a.mono ?_;clear a;rintro e l ⟨rfl,rfl⟩;go_wp2_with fail;refine bg 23 ?_;simp only[Uc,ad,Vc,ed];repeat go_big_quiet_step (exact HA.out _ (by decide) (by decide) _)
  refine Xb ?_;intro s;have f:=Nh l s.val t.count t.sum t.least t.al (dz t 50) (dz t 90) (dz t 99) 0 s.is (A.out s) (by rw[<-i.out];exact y);rw[<-i.out,<-v.out]at f;clear o p r u;go_wp2_with fail;refine f.mono ?_;clear f;rintro e W ⟨⟨z,rfl,j⟩,g⟩;change Hid _ at j g;go_wp2_with fail;go_ret;exact⟨⟨z,rfl,j⟩,g⟩
end Hi
namespace Hn
open Go.RowKit Go.Maps Mem Foot Im Wm Hk Hb Hi Plainw Cq
structure Gh where
 X:Nat
 A:Nat
 S:Nat
 b:Nat
def fm (w:Xa)(a:cZ)(k:Bs)(g:Gh):Ser->Prop
 | .num n=>∃kb,Bytes.B kb=kindOf k/\af w g.X 197 #[Va kb,I O n,ca Y,ca Y]
 | .set c=>af w g.X 197 #[Va ⟨#[115]⟩,I O 0,ca (Z ⟨g.A,0,Y⟩),ca Y]/\qa w g.A g.b a.sets c
 | .tim t=>af w g.X 197 #[Va ⟨#[109,115]⟩,I O 0,ca Y,ca (Z ⟨g.A,0,Y⟩)]/\oD w g.A g.S g.b a.buckets t
def gf (g:Gh):Ser->List Nat
 | .num _=>[g.X]
 | .set _=>[g.X,g.A,g.b]
 | .tim _=>[g.X,g.A,g.S,g.b]
variable {a:Xa}{c:Bs}{d:Gh}{e:Ser}{f:cZ}
theorem fm.off {F:List Nat}{w g:Xa}     (h:fm w f c d e)(b:an F w g)(a:∀x∈gf d e,x∉F):fm g f c d e:=by
 cases e with
 | num n=>
  obtain⟨kb,i,j⟩:=h;exact⟨kb,i,Foot.af.off j b (a _ (by simp[gf]))⟩
 | set k=>exact⟨Foot.af.off h.1 b (a _ (by simp[gf])),h.2.off b (a _ (by simp[gf])) (a _ (by simp[gf]))⟩
 | tim t=>exact⟨Foot.af.off h.1 b (a _ (by simp[gf])),h.2.off b (a _ (by simp[gf])) (a _ (by simp[gf])) (a _ (by simp[gf]))⟩
theorem fm.keep {b:Xa}     (h:fm a f c d e)(g:Below a.heap.size a b):fm b f c d e:=
 h.off (F:=[]) (an.ag g) (by simp)
theorem fm.lt (h:fm a f c d e):∀x∈gf d e,x<a.heap.size:=by
 intro x b;cases e with
 | num n=>
  obtain⟨kb,i,g⟩:=h;simp[gf]at b;rw[b];exact g.lt
 | set j=>
  simp[gf]at b;rcases b with rfl|rfl|rfl
  .exact h.1.lt
  .exact h.2.head.lt
  exact h.2.map.below
 | tim t=>
  simp[gf]at b;rcases b with rfl|rfl|rfl|rfl
  .exact h.1.lt
  .exact h.2.head.lt
  .exact h.2.sk.head.lt
  exact h.2.sk.map.below
def cfg (c:Fin 6->Int):Value:=.agg #[I O (c 0),I O (c 1),I O (c 2),I O (c 3),I O (c 4),I O (c 5)]
theorem pK {b:Nat}{t:TypeId}{c d e f:C}(h:af a b t #[c,d,e,f]):
  a.cell? ⟨b,0,Y⟩=Z c/\a.cell? ⟨b,1,Y⟩=Z d/\a.cell? ⟨b,2,Y⟩=Z e/\a.cell? ⟨b,3,Y⟩=Z f/\a.frozen? ⟨b,0,Y⟩=false/\a.frozen? ⟨b,1,Y⟩=false/\a.frozen? ⟨b,2,Y⟩=false/\a.frozen? ⟨b,3,Y⟩=false:=
 ⟨h.Ri 0,h.Ri 1,h.Ri 2,h.Ri 3,h.frozen 0,h.frozen 1,h.frozen 2,h.frozen 3⟩
theorem Cj (kb:ByteArray)(c:Fin 6->Int)(b:cZ)(k:Bs)(d:Bytes.B kb=kindOf k)(f:(kb.toList==[115])=false)(h:(kb.toList==[109,115])=false)(w:Xa):
  Za Wa 178 #[Va kb,cfg c] w λe a=>∃g:Gh,e=Ua (ca (Z ⟨g.X,0,Y⟩))/\fm a b k g (.num 0)/\(∀x∈gf g (.num 0),w.heap.size<=x)/\Below w.heap.size w a:=by
 unfold cfg;go_in;go_wp2_with fail;go_ret;refine⟨⟨w.heap.size+1,0,0,0⟩,by simp,⟨kb,d,?_⟩,by simp[gf],(ai _).alloc (by simp) _⟩;have:=af.new (w.alloc (.cells #[I O (c 0),I O (c 1),I O (c 2),I O (c 3),I O (c 4),I O (c 5)] 52)) 197 #[Va kb,I O 0,ca Y,ca Y];simpa using this
theorem Lz (c:Fin 6->Int)(l:cZ)(k:Bs)(m:c 2=l.sets)(w:Xa):
  Za Wa 178 #[Va ⟨#[115]⟩,cfg c] w λe n=>∃g:Gh,e=Ua (ca (Z ⟨g.X,0,Y⟩))/\fm n l k g (.set [])/\(∀x∈gf g (.set []),w.heap.size<=x)/\Below w.heap.size w n:=by
 change Hid _ at m;unfold cfg;go_in;go_wp2_with fail;have f:=af.new (w.alloc (.cells #[I O (c 0),I O (c 1),I O (c 2),I O (c 3),I O (c 4),I O (c 5)] 52)) 197 #[Va ⟨#[115]⟩,I O 0,ca Y,ca Y];have i:Below w.heap.size w ((w.alloc (.cells #[I O (c 0),I O (c 1),I O (c 2),I O (c 3),I O (c 4),I O (c 5)] 52)).alloc (.cells #[Va ⟨#[115]⟩,I O 0,ca Y,ca Y] 197)):=(ai _).alloc (by simp) _;rw[World.size_alloc]at f;generalize (w.alloc (.cells #[I O (c 0),I O (c 1),I O (c 2),I O (c 3),I O (c 4),I O (c 5)] 52)).alloc (.cells #[Va ⟨#[115]⟩,I O 0,ca Y,ca Y] 197)=b at *;rw[m.out];refine(Rx l.sets b).mono ?_;rintro e o ⟨rfl,h,a⟩;have d:=aa (f.below a f.lt);have j:=aa (i.trans (a.mono i.size));have r:=aa h;have q:=aa (show w.heap.size<=b.heap.size/\w.heap.size+1<b.heap.size from⟨i.size,f.lt⟩);obtain⟨t,c1,c2,c3,u,v,y,z⟩:=pK d;clear f i h a;go_wp2_with fail;go_ret;obtain⟨A,B⟩:=q.out;have s:an [w.heap.size+1] o (o.setCell ⟨w.heap.size+1,2,Y⟩ (ca (Z ⟨b.heap.size+1,0,Y⟩))):=(an.refl _ _).set (by simp) _ _;refine⟨⟨w.heap.size+1,b.heap.size+1,0,b.heap.size⟩,rfl,⟨d.set 2 _,r.off s ?_ ?_⟩,?_,j.setCell (p:=⟨w.heap.size+1,2,Y⟩) (by simp) _⟩
 .simp;omega
 .simp;omega
 grind [gf]
theorem LA (c:Fin 6->Int)(l:cZ)(k:Bs)(m:c 3=l.buckets)(w:Xa):
  Za Wa 178 #[Va ⟨#[109,115]⟩,cfg c] w λe o=>∃g:Gh,e=Ua (ca (Z ⟨g.X,0,Y⟩))/\fm o l k g (.tim ⟨0,0,0,0,[],false⟩)/\(∀x∈gf g (.tim ⟨0,0,0,0,[],false⟩),w.heap.size<=x)/\Below w.heap.size w o:=by
 change Hid _ at m;unfold cfg;go_in;go_wp2_with fail;have f:=af.new (w.alloc (.cells #[I O (c 0),I O (c 1),I O (c 2),I O (c 3),I O (c 4),I O (c 5)] 52)) 197 #[Va ⟨#[109,115]⟩,I O 0,ca Y,ca Y];have i:Below w.heap.size w ((w.alloc (.cells #[I O (c 0),I O (c 1),I O (c 2),I O (c 3),I O (c 4),I O (c 5)] 52)).alloc (.cells #[Va ⟨#[109,115]⟩,I O 0,ca Y,ca Y] 197)):=(ai _).alloc (by simp) _;rw[World.size_alloc]at f;generalize (w.alloc (.cells #[I O (c 0),I O (c 1),I O (c 2),I O (c 3),I O (c 4),I O (c 5)] 52)).alloc (.cells #[Va ⟨#[109,115]⟩,I O 0,ca Y,ca Y] 197)=b at *;rw[m.out];refine(Rf l.buckets b).mono ?_;rintro e q ⟨T,rfl,n,h,a⟩;have d:=aa (f.below a f.lt);have j:=aa (i.trans (a.mono i.size));have s:=aa h;have r:=aa (show w.heap.size<=b.heap.size/\w.heap.size+1<b.heap.size/\b.heap.size<=T from⟨i.size,f.lt,n⟩);obtain⟨u,c1,c2,c3,v,y,z,A⟩:=pK d;clear f i h a n;go_wp2_with fail;go_ret;obtain⟨B,D,E⟩:=r.out;have t:an [w.heap.size+1] q (q.setCell ⟨w.heap.size+1,3,Y⟩ (ca (Z ⟨T,0,Y⟩))):=(an.refl _ _).set (by simp) _ _;refine⟨⟨w.heap.size+1,T,b.heap.size+1,b.heap.size⟩,rfl,⟨d.set 3 _,s.off t ?_ ?_ ?_⟩,?_,j.setCell (p:=⟨w.heap.size+1,3,Y⟩) (by simp) _⟩
 .simp;omega
 .simp;omega
 .simp;omega
 grind [gf]
theorem Ed (kb:ByteArray)(c:Fin 6->Int)(b:cZ)(l:Bs)(m:Opts.jv)(h:Opts.rd l=Z m)(a:Bytes.B kb=m.kind)(j:c 2=b.sets)(k:c 3=b.buckets)(w:Xa):
  Za Wa 178 #[Va kb,cfg c] w λe i=>∃g:Gh,e=Ua (ca (Z ⟨g.X,0,Y⟩))/\fm i b (key m) g (ik m.kind)/\(∀x∈gf g (ik m.kind),w.heap.size<=x)/\Below w.heap.size w i:=by
 obtain⟨_,f⟩:=mq h;rcases f with e|e|e|⟨e,_⟩
 .rw[e]at a ⊢;obtain rfl:kb=⟨#[115]⟩:=Bytes.bo a;exact Lz c b (key m) j w
 .have d:ik m.kind=.num 0:=by rw[e];rfl
  rw[d];exact Cj kb c b (key m) (by rw[a,eo h]) (Vals.bH (by rw[a,e];decide)) (Vals.bH (by rw[a,e];decide)) w
 .have d:ik m.kind=.num 0:=by rw[e];rfl
  rw[d];exact Cj kb c b (key m) (by rw[a,eo h]) (Vals.bH (by rw[a,e];decide)) (Vals.bH (by rw[a,e];decide)) w
 rw[e]at a ⊢;obtain rfl:kb=⟨#[109,115]⟩:=Bytes.bo a;exact LA c b (key m) k w
theorem OU (f:cZ)(n:Nat)(k:Bs)(g:Gh)(s:Ser)(w:Xa)(h:fm w f k g s)(i:kT f n k s)(m:gp w)(J:n<=1000000000000000)(F:f.buckets<=64)(T:f.sets<=1000)(G:∀t,s=.tim t->1<=t.count):
  Za Wa 82 #[ca (Z ⟨g.X,0,Y⟩)] w λe D=>(∃z,e=Ua (Va z)/\Bytes.B z=gV s)/\Below w.heap.size w D:=by
 cases s with
 | num x=>
  obtain⟨kb,H,y⟩:=h;obtain⟨p,c1,c2,c3,q,r,u,v⟩:=pK y;have K:-top<=x/\x<=top:=i.ok;have l:kindOf k=[99]\/kindOf k=[103]:=i.kind;simp only[top]at K;have P:(kb.toList==[115])=false:=Vals.bH (by grind);have R:(kb.toList==[109,115])=false:=Vals.bH (by grind);have a:=tR x (by omega) (by omega) w m;clear i y l H;go_in;go_wp2_with fail;refine a.mono ?_;clear a;rintro e E ⟨⟨z,rfl,d,_⟩,c⟩;change Hid _ at d c;go_wp2_with fail;go_ret;exact⟨⟨z,rfl,d⟩,c⟩
 | set o=>
  obtain⟨p,c1,c2,c3,q,r,u,v⟩:=pK h.1;have hlen:=Rv g.A g.b f.sets o w h.2;have M:o.length<=f.sets:=i.ok.2;have a:=tR (o.length:Int) (by omega) (by omega) w m;clear i h;go_in;go_wp2_with fail;refine hlen.mono ?_;clear hlen;rintro e D ⟨rfl,rfl⟩;go_wp2_with fail;refine a.mono ?_;clear a;rintro e E ⟨⟨z,rfl,d,_⟩,c⟩;change Hid _ at d c;go_wp2_with fail;go_ret;exact⟨⟨z,rfl,d⟩,c⟩
 | tim t=>
  obtain⟨p,c1,c2,c3,q,r,u,v⟩:=pK h.1;have j:=Pn g.A g.S g.b f n t w h.2 i.ok m J F (G t rfl);clear i h;go_in;go_wp2_with fail;refine j.mono ?_;clear j;rintro e E ⟨⟨z,rfl,d⟩,c⟩;change Hid _ at d c;go_wp2_with fail;go_ret;exact⟨⟨z,rfl,d⟩,c⟩
end Hn
namespace Hn
open Go.RowKit Go.Maps Mem Foot Im Wm Hk Hb Hi Plainw Cq Readw
theorem take_set (m:cZ)(k:Bs)(g:Gh)(i:List (Bs×Unit))(o c:ByteArray)(sg:Bool)(v r:Int)(p:Option Addr)(sl q:Nat)(w:Xa)(h:fm w m k g (.set i))(R:i.length<1000)(z:c.size<=1000):
  Za Wa 129 #[ca (Z ⟨g.X,0,Y⟩),sE o ⟨#[115]⟩ sg v c r (Q p sl q)] w λe H=>
   e=Ua (bO (px m.sets (Bytes.B c) i).2)/\an (gf g (.set i)) w H/\fm H m k g (.set (px m.sets (Bytes.B c) i).1):=by
 unfold sE;have P:=aa h;clear h;go_in;go_wp2_with fail;have n:=af.new w 206 #[Va o,Va ⟨#[115]⟩,bO sg,I O v,Va c,I O r,Q p sl q];have u:=ai (w:=w) (.cells #[Va o,Va ⟨#[115]⟩,bO sg,I O v,Va c,I O r,Q p sl q] 206);generalize w.alloc (.cells #[Va o,Va ⟨#[115]⟩,bO sg,I O v,Va c,I O r,Q p sl q] 206)=J at *;obtain⟨B,f⟩:∃B,w.heap.size=B:=⟨_,rfl⟩;have j:=aa u;rw[f]at n;rw[f];have l:=aa (P.keep u);have K:∀s:Bw J,s.val.cell? ⟨g.X,2,Y⟩=Z (ca (Z ⟨g.A,0,Y⟩)):=λs=>(l.keep s.is).1.Ri 2
 have M:∀s:Bw J,s.val.cell? ⟨B,4,Y⟩=Z (Va c):=λs=>(n.below s.is n.lt).Ri 4
 clear u n f;refine bg 6 ?_;simp only[Uc,ad,Vc,ed];repeat go_big_quiet_step (fail)
 refine Xb ?_;intro s;have a:=aa (l.keep s.is);have t:=aa (j.trans (s.is.mono j.size));have d:=Ru g.A g.b m.sets i c s.val a.2 R z;clear K M;go_wp2_with fail;refine d.mono ?_;clear d;rintro e S ⟨rfl,F,E⟩;have D:=aa F;change Hid _ at E;clear F;go_wp2_with fail;go_ret;have y:g.X≠g.b:=dp a.2.map a.1;refine⟨rfl,(an.ag t).trans (D.mono λx _ G=>?_),Foot.af.off a.1 D (by simpa using y),E⟩;simp at G;simp[gf,G]
theorem Jy (d:cZ)(n:Nat)(k:Bs)(g:Gh)(t:pZ)(p y:ByteArray)(sg:Bool)(v r:Int)(q:Option Addr)(sl u:Nat)(w:Xa)(h:fm w d k g (.tim t))(M:iu d n t)(hn:n<=1000000000000000)(hL:2<=d.buckets)(E:d.buckets<=64)(h0:0<=v)(h1:v<=999999999)(h2:1<=r)(h3:r<=1000):
  Za Wa 129 #[ca (Z ⟨g.X,0,Y⟩),sE p ⟨#[109,115]⟩ sg v y r (Q q sl u)] w λe R=>
   e=Ua (bO true)/\an (gf g (.tim t)) w R/\fm R d k g (.tim (dq d.buckets t v (1000 / r))):=by
 unfold sE;have HS:=aa h;have W:=aa M;have G:1<=1000 / r:=Int.le_ediv_of_mul_le (by omega) (by omega);have H:1000 / r<=1000:=Int.ediv_le_self _ (by omega);clear h M;go_in;go_wp2_with fail;have o:=af.new w 206 #[Va p,Va ⟨#[109,115]⟩,bO sg,I O v,Va y,I O r,Q q sl u];have D:=ai (w:=w) (.cells #[Va p,Va ⟨#[109,115]⟩,bO sg,I O v,Va y,I O r,Q q sl u] 206);generalize w.alloc (.cells #[Va p,Va ⟨#[109,115]⟩,bO sg,I O v,Va y,I O r,Q q sl u] 206)=T at *;obtain⟨B,f⟩:∃B,w.heap.size=B:=⟨_,rfl⟩;have i:=aa D;rw[f]at o;rw[f];have j:=aa (HS.keep D);have U:∀s:Bw T,s.val.cell? ⟨g.X,3,Y⟩=Z (ca (Z ⟨g.A,0,Y⟩)):=λs=>(j.keep s.is).1.Ri 3
 have V:∀s:Bw T,s.val.cell? ⟨B,5,Y⟩=Z (I O r):=λs=>(o.below s.is o.lt).Ri 5
 clear D o f;refine bg 8 ?_;simp only[Uc,ad,Vc,ed];repeat go_big_quiet_step (fail)
 refine Xb ?_;intro s;have a:=aa (j.keep s.is);have z:=aa (i.trans (s.is.mono i.size));have c:=Re g.A g.S g.b d n t v (1000 / r) s.val a.2 W hn hL E h0 h1 G H;clear U V;go_wp2_with fail;refine c.mono ?_;clear c;rintro e w2 ⟨rfl,P,K⟩;have J:=aa P;change Hid _ at K;clear P;go_wp2_with fail;go_ret;have F:g.X≠g.b:=dp a.2.sk.map a.1;have l:g.X≠g.A:=cH a.1 a.2.head (by decide);have m:g.X≠g.S:=cH a.1 a.2.sk.head (by decide);refine⟨rfl,(an.ag z).trans (J.mono λx _ hx=>?_),Foot.af.off a.1 J (by simp[F,l,m]),K⟩;simp at hx;simp[gf];omega
theorem Jw (d:cZ)(k:Bs)(g:Gh)(n:Int)(j o:ByteArray)(sg:Bool)(v r:Int)(l:Option Addr)(sl m:Nat)(w:Xa)(h:fm w d k g (.num n))(B:-1000000000000000<=n)(D:n<=1000000000000000)(F:-999999999<=v)(G:v<=999999999)(H:1<=r)(J:r<=1000):
  Za Wa 129 #[ca (Z ⟨g.X,0,Y⟩),sE j ⟨#[99]⟩ sg v o r (Q l sl m)] w λe b=>
   e=Ua (bO true)/\an (gf g (.num n)) w b/\fm b d k g (.num (dW ((v*1000).tdiv r+n))):=by
 unfold sE;obtain⟨kb,f,i⟩:=h;have p:=aa f;have z:-999999999000<=(v*1000).tdiv r:=by
  have x:(v*1000).natAbs / r.natAbs<=(v*1000).natAbs:=Nat.div_le_self _ _;have y:((v*1000).tdiv r).natAbs=(v*1000).natAbs / r.natAbs:=Int.natAbs_tdiv _ _;omega
 have A:(v*1000).tdiv r<=999999999000:=by
  have x:(v*1000).natAbs / r.natAbs<=(v*1000).natAbs:=Nat.div_le_self _ _;have y:((v*1000).tdiv r).natAbs=(v*1000).natAbs / r.natAbs:=Int.natAbs_tdiv _ _;omega
 have a:=bounded;have c:=aa (i.alloc (.cells #[Va j,Va ⟨#[99]⟩,bO sg,I O v,Va o,I O r,Q l sl m] 206));obtain⟨q,c1,c2,c3,s,E,t,u⟩:=pK c;clear f i q c2 c3 s t u;go_in;go_wp2_with (go_at_call 182;refine(a _ _).mono ?_;rintro e b ⟨rfl,rfl⟩)
 go_ret;refine⟨rfl,(an.ag (ai _)).set (by simp[gf]) _ _,kb,p,?_⟩;exact c.set 1 _
theorem Pk (f:cZ)(k:Bs)(g:Gh)(n:Int)(j o:ByteArray)(v r:Int)(l:Option Addr)(sl m:Nat)(w:Xa)(h:fm w f k g (.num n))(u:-1000000000000000<=n)(x:n<=1000000000000000)(z:-999999999<=v)(A:v<=999999999):
  Za Wa 129 #[ca (Z ⟨g.X,0,Y⟩),sE j ⟨#[103]⟩ true v o r (Q l sl m)] w λe b=>
   e=Ua (bO true)/\an (gf g (.num n)) w b/\fm b f k g (.num (dW (v+n))):=by
 unfold sE;obtain⟨kb,c,i⟩:=h;change Hid _ at c;have a:=bounded;have d:=aa (i.alloc (.cells #[Va j,Va ⟨#[103]⟩,bO true,I O v,Va o,I O r,Q l sl m] 206));obtain⟨p,c1,c2,c3,q,y,s,t⟩:=pK d;clear i p c2 c3 q s t;go_in;go_wp2_with (go_at_call 182;refine(a _ _).mono ?_;rintro e b ⟨rfl,rfl⟩)
 go_ret;refine⟨rfl,(an.ag (ai _)).set (by simp[gf]) _ _,kb,c,?_⟩;exact d.set 1 _
theorem Pm (f:cZ)(k:Bs)(g:Gh)(n:Int)(j o:ByteArray)(v r:Int)(l:Option Addr)(sl m:Nat)(w:Xa)(h:fm w f k g (.num n)):
  Za Wa 129 #[ca (Z ⟨g.X,0,Y⟩),sE j ⟨#[103]⟩ false v o r (Q l sl m)] w λe b=>
   e=Ua (bO true)/\an (gf g (.num n)) w b/\fm b f k g (.num (dW (v))):=by
 unfold sE;obtain⟨kb,c,i⟩:=h;change Hid _ at c;have a:=bounded;have d:=aa (i.alloc (.cells #[Va j,Va ⟨#[103]⟩,bO false,I O v,Va o,I O r,Q l sl m] 206));obtain⟨p,c1,c2,c3,q,u,s,t⟩:=pK d;clear i p c2 c3 q s t;go_in;go_wp2_with (go_at_call 182;refine(a _ _).mono ?_;rintro e b ⟨rfl,rfl⟩)
 go_ret;refine⟨rfl,(an.ag (ai _)).set (by simp[gf]) _ _,kb,c,?_⟩;exact d.set 1 _
theorem IW (a:cZ)(n:Nat)(k l:Bs)(g:Gh)(s:Ser)(m:Opts.jv)(j kb d:ByteArray)(o:Option Addr)(sl p:Nat)(w:Xa)(h:fm w a k g s)(y:kT a n k s)(E:Opts.rd l=Z m)(K:kindOf k=m.kind)(b:Bytes.B kb=m.kind)(D:Bytes.B d=m.word)
  (P:n<=1000000000000000) (J:2<=a.buckets) (A:a.buckets<=64) (T:a.sets<1000):
  Za Wa 129 #[ca (Z ⟨g.X,0,Y⟩),sE j kb m.signed m.value d m.cw (Q o sl p)] w λe G=>
   e=Ua (bO (ch a m s).2)/\an (gf g s) w G/\fm G a k g (ch a m s).1:=by
 obtain⟨_,_,R,⟨u,i⟩,⟨q,r⟩,_⟩:=Bounds.jS E;obtain⟨_,M⟩:=mq E;have c:=y.kind;rw[K]at c;cases s with
 | num x=>
  have z:-1000000000000000<=x/\x<=1000000000000000:=y.ok;have c:m.kind=[99]\/m.kind=[103]:=c;rcases c with e|e
  .rw[e]at b;obtain rfl:kb=⟨#[99]⟩:=Bytes.bo b;have f:ch a m (.num x)=(.num (dW ((m.value*1000).tdiv m.cw+x)),true):=by simp[ch,e]
   rw[f];exact Jw a k g x j d m.signed m.value m.cw o sl p w h z.1 z.2 u i q r
  rw[e]at b;obtain rfl:kb=⟨#[103]⟩:=Bytes.bo b;cases F:m.signed with
  | true=>
   have f:ch a m (.num x)=(.num (dW (m.value+x)),true):=by simp[ch,e,F]
   rw[f];exact Pk a k g x j d m.value m.cw o sl p w h z.1 z.2 u i
  | false=>
   have f:ch a m (.num x)=(.num (dW m.value),true):=by simp[ch,e,F]
   rw[f];exact Pm a k g x j d m.value m.cw o sl p w h
 | set v=>
  have e:m.kind=[115]:=c;rw[e]at b;obtain rfl:kb=⟨#[115]⟩:=Bytes.bo b;have S:v.length<=a.sets:=y.ok.2;have f:ch a m (.set v)=(.set (px a.sets (Bytes.B d) v).1,(px a.sets (Bytes.B d) v).2):=by grind [ch,px]
  rw[f];exact take_set a k g v j d m.signed m.value m.cw o sl p w h (by omega) (by rw[Bytes.aj,D];omega)
 | tim t=>
  have e:m.kind=[109,115]:=c;have H:0<=m.value:=by grind
  rw[e]at b;obtain rfl:kb=⟨#[109,115]⟩:=Bytes.bo b;exact Jy a n k g t j d m.signed m.value m.cw o sl p w h y.ok P J A H i q r
end Hn
namespace Sh
open Go.RowKit Go.Maps Mem Foot Im Wm Hk Hb Hi Plainw Cq Hs
def pv (x:Nat):Value:=ca (Z ⟨x,0,Y⟩)
def RG:C->Bool
 | .pointer _=>true
 | _=>false
theorem NI (w:Xa):(zeroValue 151).run Wa w=.ok (ca Y) w:=Tryz.zeroValue151 w
def idx (n:Nat)(k:Bs):Nat:=(hsh k % (n:Int)).toNat
def part (n i:Nat)(a:List (Bs×Nat)):List (Bs×Nat):=a.filter λp=>idx n p.1==i
variable {a b c:Nat}{d:List (Bs × Nat)}{e:List Nat}{f:Xa}
theorem rA (h:0<a)(k:Bs):idx a k<a:=by
 unfold idx;have b:=Int.emod_nonneg (hsh k) (show (a:Int)≠0 by omega);have c:=Int.emod_lt_of_pos (hsh k) (show (0:Int)<a by omega);omega
structure fo (w:Xa)(M R:Nat)(bs:List Nat)(ent:List (Bs×Nat)):Prop where
 head:af w M 192 #[Q (Z ⟨R,0,Y⟩) bs.length bs.length,I O (ent.length:Int)]
 row:af w R 189 (bs.map λb=>Value.map (Z b)).toArray
 maps:∀i b,bs[i]? = Z b->fL Wa 9 RG jl pv w b (part bs.length i ent)
 nodup:bs.Nodup
 pos:0<bs.length
 most:bs.length<=16
def qD (M R:Nat)(a:List Nat):List Nat:=M ::R ::a
theorem fo.off {F:List Nat}{w j:Xa}  {bs:List Nat}  (h:fo w a b bs d)(f:an F w j)(e:∀x∈qD a b bs,x∉F):fo j a b bs d:=
 ⟨Foot.af.off h.head f (e a (by simp[qD])),Foot.af.off h.row f (e b (by simp[qD])),λi c g=>fL.at (h.maps i c g) (f.block c (h.maps i c g).below (e c (by grind [qD]))),h.nodup,h.pos,h.most⟩
theorem fo.keep {c:Xa}    (h:fo f a b e d)(g:Below f.heap.size f c):fo c a b e d:=
 h.off (F:=[]) (an.ag g) (by simp)
theorem fo.lt (h:fo f a b e d):∀x∈qD a b e,x<f.heap.size:=by
 intro x c;simp only[qD,vd]at c;rcases c with rfl|rfl|c
 .exact h.head.lt
 .exact h.row.lt
 obtain⟨i,g⟩:=Vb c;exact(h.maps i x g).below
theorem fo.cell (h:fo f a b e d){g:Nat}(i:e[c]? = Z g):f.cell? ⟨b,c,Y⟩=Z (.map (Z g)):=
 h.row.cell c _ (by simp[i])
theorem len (M R:Nat)(b:List Nat)(a:List (Bs×Nat))(w:Xa)(h:fo w M R b a):Za Wa 177 #[ca (Z ⟨M,0,Y⟩)] w λe c=>e=Ua (I O (a.length:Int))/\c=w:=by
 have c1:=h.head.Ri 1;go_in;go_wp2_with fail;go_ret;exact⟨rfl,rfl⟩
theorem CH (M R:Nat)(a:List Nat)(g:List (Bs×Nat))(s:ByteArray)(y:s.size<=1000)(w:Xa)(h:fo w M R a g)(b:Nat)(i:a[idx a.length (Bytes.B s)]? = Z b):
  Za Wa 226 #[ca (Z ⟨M,0,Y⟩),Va s] w λe k=>e=Ua (.map (Z b))/\Below w.heap.size w k:=by
 have z:∀s:Bw w,s.val.cell? ⟨M,0,Y⟩=Z (Q (Z ⟨R,0,Y⟩) a.length a.length):=λs=>(h.keep s.is).head.Ri 0
 have u:=h.pos;have D:=h.most;have q:=rA u (Bytes.B s);obtain⟨E,F⟩:=tP (Bytes.B s);have l:∀c:Bw w,c.val.cell? ⟨R,idx a.length (Bytes.B s),Y⟩=Z (.map (Z b)):=λc=>(h.keep c.is).cell i
 have m:=aa (λc:Bw w=>aT (v:=I .u32 (hsh (Bytes.B s))) ((Qe s y c.val).mono λe k ⟨o,p⟩=>⟨o,by rw[p];exact Vd _ _⟩));have d:idx a.length (Bytes.B s)=(hsh (Bytes.B s) % (a.length:Int)).toNat:=rfl;clear h i;generalize hsh (Bytes.B s)=x at *;generalize a.length=n at *;obtain⟨j,r⟩:∃j:Nat,x % (n:Int)=(j:Int):=⟨(x % (n:Int)).toNat,by
  have:=Int.emod_nonneg x (show (n:Int)≠0 by omega);omega⟩
 have f:idx n (Bytes.B s)=j:=by rw[d,r];rfl
 rw[f]at q l;have t:(j:Int)<(n:Int):=by omega
 clear d f;have A:(n:Int) % 4294967296=n:=by omega
 have hz:¬(n:Int)=0:=by omega
 go_in;go_wp2_with fail;refine aU ?_;repeat go_big_quiet_step (exact m.out _)
 refine Xb ?_;rintro _ ⟨c,rfl⟩;go_wp2_with fail;go_ret;exact⟨rfl,c.is⟩
theorem wX {κ β:Type}[DecidableEq κ]{p:κ×β->Bool}{k:κ}(a:∀x:κ×β,x.1=k->p x=true)(l:List (κ×β)):aS k (l.filter p)=aS k l:=by
 induction l with
 | nil=>rfl
 | cons x r b=>
  by_cases h:x.1=k
  .rw[qb (a x h),bc h,bc h]
  grind [aV]
theorem me (n:Nat)(k:Bs)(a:List (Bs×Nat)):aS k (part n (idx n k) a)=aS k a:=
 wX (λx b=>by simp[b]) a
theorem zS {κ β:Type}{lt:κ->κ->Bool}(j:∀a b c,lt a b=true->lt b c=true->lt a c=true){p:κ×β->Bool}{x:κ×β}{l:List (κ×β)}(h:Up lt l):(ins lt x l).filter p=if p x then ins lt x (l.filter p) else l.filter p:=by
 induction l with
 | nil=>grind [ins]
 | cons y r i=>
  obtain⟨k,e⟩:=Yc.1 h;rw[ins];by_cases f:lt x.1 y.1=true
  .rw[if_pos f];by_cases g:p x=true
   .rw[qb g,if_pos g];cases m:(y ::r).filter p with
    | nil=>rfl
    | cons z q=>grind [ins,eb]
   grind
  rw[if_neg f];by_cases d:p y=true
  .rw[qb d,i e,qb d];grind [ins]
  rw[Uf d,i e,Uf d]
theorem Il {k:Bs}   (e:Up cA d)(c:aS k d=Y)(i:Nat):part a i (put cA k b d)=if idx a k=i then put cA k b (part a i d) else part a i d:=by grind [gR,dZ,zS,Im.has,put,cA,part]
theorem Ef (h:e.Nodup)  (d:e[a]? = Z c)(f:e[b]? = Z c):a=b:=by grind [List.pairwise_iff_getElem]
theorem get (M R:Nat)(d:List Nat)(a:List (Bs×Nat))(s:ByteArray)(o:s.size<=1000)(w:Xa)(h:fo w M R d a):
  Za Wa 176 #[ca (Z ⟨M,0,Y⟩),Va s] w λe p=>e=Ua (.tuple #[Im.elemOf pv (ca Y) (Bytes.B s) a,bO (has (Bytes.B s) a)])/\Below w.heap.size w p:=by
 obtain⟨b,i⟩:∃b,d[idx d.length (Bytes.B s)]? = Z b:=⟨_,Zb (rA h.pos _)⟩;have hsh:=CH M R d a s o w h b i;have f:keyOf Wa 9 (Va s)=Z (jl (Bytes.B s)):=te zd (by unfold maxLen;omega);have c:=pO (h.maps _ b i) (string_keyed zd) Zc NI rfl jT f;have k:Im.elemOf pv (ca Y) (Bytes.B s) (part d.length (idx d.length (Bytes.B s)) a)=Im.elemOf pv (ca Y) (Bytes.B s) a:=by
  unfold Im.elemOf;rw[me]
 have l:has (Bytes.B s) (part d.length (idx d.length (Bytes.B s)) a)=has (Bytes.B s) a:=by rw[gR,gR,me]
 rw[k,l]at c;have j:=(h.maps _ b i).below;obtain⟨q,m⟩:∃q,Im.elemOf pv (ca Y) (Bytes.B s) a=ca q:=by
  unfold Im.elemOf;split
  .exact⟨_,rfl⟩
  exact⟨_,rfl⟩
 rw[m]at c ⊢;generalize has (Bytes.B s) a=t at *;clear h m k l;go_in;go_wp2_with fail;refine hsh.mono ?_;clear hsh;rintro e r ⟨rfl,g⟩;have n:=c r (g.block b j);change Hid _ at g;clear c;go_wp2_with fail;go_ret2;exact⟨rfl,g⟩
theorem Sv (M R:Nat)(d:List Nat)(c:List (Bs×Nat))(s:ByteArray)(x:Nat)(hs:s.size<=1000)(w:Xa)(h:fo w M R d c)(V:Up cA c)(z:aS (Bytes.B s) c=Y)(hl:c.length<1000):
  Za Wa 179 #[ca (Z ⟨M,0,Y⟩),Va s,ca (Z ⟨x,0,Y⟩)] w λe w'=>e=Ua (.tuple #[])/\an (qD M R d) w w'/\fo w' M R d (put cA (Bytes.B s) x c):=by
 obtain⟨b,f⟩:∃b,d[idx d.length (Bytes.B s)]? = Z b:=⟨_,Zb (rA h.pos _)⟩;have hsh:=CH M R d c s hs w h b f;have u:keyOf Wa 9 (Va s)=Z (jl (Bytes.B s)):=te zd (by unfold maxLen;omega);have a0:(part d.length (idx d.length (Bytes.B s)) c).length<=c.length:=Xc _ _;have v:aS (Bytes.B s) (part d.length (idx d.length (Bytes.B s)) c)=Y:=by rw[me,z]
 have y:=fI (lt:=cA) (b':=x) v;have HS:=aa h;change Hid _ at f V z;clear h;go_in;go_wp2_with fail;refine hsh.mono ?_;clear hsh;rintro e U ⟨rfl,n⟩;have a:=aa (HS.keep n);have D:=aa n;have j:=a.maps _ b f;have hlen:=λty=>nQ j Zc ty U rfl
 obtain⟨w4,T,q,o⟩:=qG (lt:=cA) j (string_keyed zd) Zc jT pR (by unfold maxLen;omega) u x rfl;simp only[pv]at T;have E:=aa q;have r:=aa o;have p:=λty=>nQ q Zc ty w4.drew rfl
 rw[y]at p;have t:M≠b:=dp j a.head;have l:=aa (Foot.af.off a.head (de (F:=[b]) o (by simp)) (by simpa using t));have c1:=l.Ri 1;have f1:=l.frozen 1;generalize (part d.length (idx d.length (Bytes.B s)) c).length=X at *;clear n j q o v y;go_wp2_with fail;go_region
 all_goals
  go_wp2_with fail;go_end0;have H:R≠M:=cH a.row a.head (by decide);have J:R≠b:=dp (a.maps _ b f) a.row;have e0:(c.length:Int)+((X:Int)+1 - X)=((put cA (Bytes.B s) x c).length:Int):=by
   rw[fI z];omega
  rw[e0];have P:b∈qD M R d:=by grind [Hid,qD]
  refine⟨rfl,(((an.ag D).trans (de r P)).set (by simp[qD]) _ _).drewN 1,?_⟩;have W:∀k,k≠b->k≠M->k<U.heap.size->(w4.setCell ⟨M,1,Y⟩ (I O ((put cA (Bytes.B s) x c).length:Int))).drew.heap[k]? = U.heap[k]? :=λk h1 h2 h3=>
   (Wc _ _ _ _ h2).trans (r.block k h3 (by simpa using h1))
  refine⟨l.set 1 _,(W R J H a.row.lt).trans a.row,λi m g=>?_,a.nodup,a.pos,a.most⟩;rw[Il V z];by_cases A:idx d.length (Bytes.B s)=i
  .rw[if_pos A];have K:m=b:=by grind [Hid]
   subst K;subst A;exact fL.at E.out (Wc _ _ _ _ (λe=>t e.symm))
  rw[if_neg A];have S:m≠b:=λe=>A (by
   subst e;exact Ef a.nodup f g)
  have G:M≠m:=dp (a.maps i m g) a.head;exact fL.at (a.maps i m g) (W m S (λe=>G e.symm) (a.maps i m g).below)
theorem KX:(Wa.info? 189).map (λi=>(i.zero,i.size,i.bytes))=Z (Z (.map Y),1,8):=by kernel_rfl
def FA (w wr:Xa)(R n k:Nat):Prop:=∃(c:Array C) (a:List Nat),af wr R 189 c/\c.size=n/\a.length=k/\(∀(i b:Nat),a[i]? = Z b->c[i]? = Z (Value.map (Z b))/\w.heap.size+2<=b/\fL Wa 9 RG jl pv wr b ([]:List (Bs×Nat)))/\a.Nodup/\
 af wr (w.heap.size+1) 192 #[Q (Z ⟨R,0,Y⟩) n n,I O 0]/\Below w.heap.size w wr/\w.heap.size+2<=wr.heap.size
set_option maxRecDepth 10000 in
theorem Ss (n:Nat)(h1:1<=n)(h2:n<=16)(w:Xa):
  Za Wa 115 #[I O (n:Int)] w λe S=>∃c:List Nat,e=Ua (ca (Z ⟨w.heap.size+1,0,Y⟩))/\c.length=n/\fo S (w.heap.size+1) w.heap.size c []/\(∀x∈qD (w.heap.size+1) w.heap.size c,w.heap.size<=x)/\Below w.heap.size w S:=by
 obtain⟨g,u,H⟩:=made 190 189 _ 8 Tryz.underlying190 KX n (by omega) (by omega) w;have X:=@run_makeMap Wa;have J:max (n:Int) 1=n:=by omega
 have r:=aa (show FA w ((w.alloc (.cells g 189)).alloc (.cells #[Q (Z ⟨w.heap.size,0,Y⟩) n n,I O 0] 192)) w.heap.size n 0 from
  ⟨g,[],(af.new w _ _).alloc _,u,rfl,by simp,List.nodup_nil,by
   have:=af.new (w.alloc (.cells g 189)) 192 #[Q (Z ⟨w.heap.size,0,Y⟩) n n,I O 0];simpa using this,(ai _).alloc (by simp) _,by simp⟩)
 go_in;go_wp2_with fail;generalize (w.alloc (.cells g 189)).alloc (.cells #[Q (Z ⟨w.heap.size,0,Y⟩) n n,I O 0] 192)=w0 at *;have P:w0.cell? ⟨w.heap.size+1,0,Y⟩=Z (Q (Z ⟨w.heap.size,0,Y⟩) n n):=by
  obtain⟨_,_,_,_,_,_,_,h,_⟩:=r.out;exact h.Ri 0
 clear H J;go_wp2_with fail;go_loopw [15] (λi wr=>∃k:Nat,i=I O (k:Int)/\k<=n/\Hid (FA w wr w.heap.size n k)) (λi _=>n - (intOf i).toNat)
 case atStart=>exact⟨0,rfl,by omega,r⟩
 case round=>
  obtain⟨k,rfl,hk,M⟩:=hrel;by_cases F:k<n
  .have G:(k:Int)<(n:Int):=by omega
   obtain⟨A,c,t,l,q,d,f,m,s,R⟩:=M.out;have V:=m.Ri 0;have o:=t.alloc (.map #[] 0);have ck:=o.cell k (A[k]'(by omega)) (by simp[l,F]);have fk:=o.frozen k;have d1:=(m.alloc (.map #[] 0)).Ri 0;have U:=aa t;change Hid _ at d f;have T:=aa m;have z:=aa s;clear t m s o P;go_wp2_with fail;go_roundw
   case rel=>
    refine⟨k+1,by go_num,by omega,_,c++[wr.heap.size],(U.alloc _).set k _,by simp[l],by simp[q],λi b j=>?_,?_,by have ho:an [w.heap.size] (wr.alloc (.map #[] 0)) ((wr.alloc (.map #[] 0)).setCell ⟨w.heap.size,k,Y⟩ (.map (Z wr.heap.size))):=(an.refl _ _).set (by simp) _ _;exact Foot.af.off (T.alloc _) ho (by simp),(z.alloc (by omega) _).setCell (p:=⟨w.heap.size,k,Y⟩) (by simp) _,by simp;omega⟩
    .have B:wr.heap.size≠w.heap.size:=by omega
     by_cases v:i<c.length
     .rw[List.getElem?_append_left v]at j;obtain⟨e1,e2,e3⟩:=d.out i b j;grind [fL.at,Wc,Below.heap_alloc,fL.below]
     have D:i=c.length:=by grind
     subst D;rw[List.getElem?_append_right (Wf _),Nat.sub_self]at j;cases j;refine⟨by grind,R,?_⟩;exact fL.at (oU wr) (Wc _ _ _ _ B)
    rw[Ub];refine⟨f,by simp,λa W b j=>?_⟩;simp at j;subst j;obtain⟨i,v⟩:=Vb W;have:=(d.out i a v).2.2.below;omega
   case measure=>simp only[intOf];omega
  have G:¬(k:Int)<(n:Int):=by omega
  have E:k=n:=by omega
  subst E;obtain⟨A,c,t,l,q,d,f,m,s,R⟩:=M.out;have V:=m.Ri 0;have K:=aa (show fo wr (w.heap.size+1) w.heap.size c []/\(∀x∈qD (w.heap.size+1) w.heap.size c,w.heap.size<=x) by
   refine⟨⟨by rw[q];exact m,?_,λi b j=>(d i b j).2.2,f,by omega,by omega⟩,λx y=>?_⟩
   .have e:A=(c.map λb=>Value.map (Z b)).toArray:=by
     apply Array.ext_getElem?;intro i;grind
    grind
   simp only[qD,vd]at y;rcases y with rfl|rfl|y
   .omega
   .omega
   obtain⟨i,v⟩:=Vb y;grind)
  have z:=aa s;change Hid _ at q;clear t m s P l;go_wp2_with fail;go_ret;exact⟨rfl,c,q,K.1,K.2,z⟩
end Sh
namespace Wm
open Im Opts
theorem rL (l:Bs):lines l≠[]:=by
 cases l with
 | nil=>simp[lines]
 | cons c r=>grind [lines]
theorem Ap (a b:Bs):lines (a++10 ::b)=lines a++lines b:=by
 induction a with
 | nil=>simp[lines]
 | cons c r d=>grind [rL,lines]
theorem Fs (a:cZ)(w:jh):fX a w []=w:=by rw[fX,if_pos rfl]
theorem ub {l:Bs}(h:(10:UInt8)∉l):lines l=[l]:=by
 induction l with
 | nil=>rfl
 | cons c r a=>grind [lines]
theorem rE (n:Int):1<=(Lib.itoa n).length:=by grind [Lib.itoa,Lib.decDigits]
theorem Fp (n:Int)(r d:Nat):27<=(jY n r d).length:=by grind [rE,jY,List.length_cons]
section
variable {κ β : Type} [DecidableEq κ] {lt : κ -> κ -> Bool}
theorem wZ {x:κ×β}{k:κ}(h:x.1≠k)(l:List (κ×β)):aS k (ins lt x l)=aS k l:=by
 induction l with
 | nil=>rw[ins,aV h]
 | cons y r a=>
  rw[ins];split
  .rw[aV h]
  by_cases e:y.1=k
  .rw[bc e,bc e]
  grind [aV]
theorem wY {x:κ×β}{l:List (κ×β)}(h:x.1∉l.map (·.1)):aS x.1 (ins lt x l)=Z x.2:=by
 induction l with
 | nil=>rw[ins,bc rfl]
 | cons y r a=>grind [bc,aV,ins]
theorem GB {k a:κ}(l:List (κ×β)):aS a (del k l)=if a=k then Y else aS a l:=by
 induction l with
 | nil=>simp[del,aS]
 | cons y r c=>
  by_cases e:y.1=k
  .grind [aV,del]
  have:del k (y ::r)=y ::del k r:=qb (by simp[e]);rw[this];by_cases b:y.1=a
  .rw[bc b,bc b,if_neg (by grind)]
  grind [aV]
theorem lC {k a:κ}{b:β}(l:List (κ×β)):aS a (put lt k b l)=if a=k then Z b else aS a l:=by
 by_cases e:a=k
 .subst e;rw[if_pos rfl,put];refine wY (x:=(a,b)) ?_;intro c;obtain⟨p,d,e⟩:=og.1 c;have:=(List.mem_filter.1 d).2;grind
 grind [wZ,GB,put]
theorem jo {l:List (κ×β)}(a:(l.map (·.1)).Nodup){p:κ×β}(h:p∈l):aS p.1 l=Z p.2:=by
 induction l with
 | nil=>cases h
 | cons y r b=>grind [bc,aV]
theorem JG (n:∀a b c,lt a b=true->lt b c=true->lt a c=true)(i:∀a,lt a a=false){l r:List (κ×β)}(j:Up lt l)(m:Up lt r)(h:∀k,aS k l=aS k r):l=r:=by
 have e:∀p,p∈l↔p∈r:=λp=>by grind [jo,Up.nodup,dj]
 clear h
 induction l generalizing r with
 | nil=>
  cases r with
  | nil=>rfl
  | cons y r=>exact absurd ((e y).2 (eb ..)) (by simp)
 | cons x l o=>
  cases r with
  | nil=>exact absurd ((e x).1 (eb ..)) (by simp)
  | cons y r=>
   obtain⟨q,f⟩:=Yc.1 j;obtain⟨s,g⟩:=Yc.1 m;have d:x=y:=by grind
   subst d;rw[o f g];intro p;grind
end
noncomputable def JD:List Int:=(List.range 30).map λx:Nat=>(bk (1000*(x:Int))).1
structure RJ (t:pZ):Prop where
 count:0<=t.count
 sum:0<=t.sum
 up:Up dJ t.cells
 sub:∀c∈t.cells,c.1∈JD
def Tv (v:Int):Prop:=∃x:Nat,x<30/\v=1000*(x:Int)
variable {d:jh}
theorem Tv.bk {v:Int}(h:Tv v):(bk v).1∈JD:=by
 obtain⟨x,a,rfl⟩:=h;exact og.2 ⟨x,List.mem_range.2 a,rfl⟩
theorem RJ.zero:RJ ⟨0,0,0,0,[],false⟩:=⟨by simp,by simp,Wg,by simp⟩
def zD (v:Int):jv:=⟨[99],[99],false,v,[],1000,[]⟩
def SE (v:Int):jv:=⟨[116],[109,115],false,v,[],1000,[]⟩
def U (m:jv):Prop:=(∃v:Int,0<=v/\m=zD v)\/(∃v:Int,Tv v/\m=SE v)
def kc:Bs:=[99,124,99]
def kt:Bs:=[116,124,109,115]
theorem Qo (v:Int):key (zD v)=kc:=rfl
structure Pz (w:jh):Prop where
 up:Up cA w.fO
 keys:∀p∈w.fO,p.1=kc\/p.1=kt
 c:∀s,aS kc w.fO=Z s->∃n,0<=n/\s=.num n
 t:∀s,aS kt w.fO=Z s->∃t,RJ t/\s=.tim t
theorem Pz.len (h:Pz d):d.fO.length<=2:=by
 have e:=Up.nodup dO h.up;have key:∀l:List (Bs×Ser),(l.map (·.1)).Nodup->(∀p∈l,p.1=kc\/p.1=kt)->l.length<=2:=by
  intro l e f
  match l with
  | []=>simp
  | [a]=>simp
  | [a,b]=>simp
  | a ::b ::c ::r=>grind
 exact key _ e h.keys
def Rq (w:jh)(m:jv):Ser:=(aS (key m) w.fO).getD (ik m.kind)
theorem Kg {a:cZ}(b:3<=a.series)  (h:Pz d){m:jv}(c:(ch a m (Rq d m)).2=true):gu a d m=⟨d.dN,d.iL,put cA (key m) (ch a m (Rq d m)).1 d.fO⟩:=by grind [Pz.len,gu,Rq]
def RB (a:Nat):cZ:=⟨32,a,64⟩
theorem Mn (s:Nat)(v n:Int):ch (RB s) (zD v) (.num n)=(.num (dW (v+n)),true):=by
 have e:(v*1000).tdiv 1000=v:=Int.mul_tdiv_cancel _ (by decide);show (Ser.num (dW (if ([99]:Bs)=[99] then (v*1000).tdiv 1000+n else _)),true)=_;grind
theorem Jw {s:Nat}  (h:Pz d){v n:Int}(a:Rq d (zD v)=.num n):gu (RB s) d (zD v)=⟨d.dN,d.iL,put cA kc (.num (dW (v+n))) d.fO⟩:=by grind [Mn,Kg,Qo,RB]
theorem Pz.zero:Pz gC:=⟨Wg,by simp[gC],by simp[gC,aS],by simp[gC,aS]⟩
end Wm
namespace Wi
open Go.RowKit Go.Maps Mem Foot Im Wm Hk Hb Hi Hn Plainw Cq Hs Sh Readw
theorem fJ (a b:ByteArray):Bytes.B (a++b)=Bytes.B a++Bytes.B b:=Bytes.bp a b
set_option maxRecDepth 10000 in
theorem Se (c kb g:ByteArray)(sg:Bool)(v r:Int)(o:Nat)(a:List Bs)(d:Option Addr)(sl f:Nat)(w:Xa)(hst:Tagw.Strs o w (Q d sl f) a)(P:a.length<=4)(hz:(Lib.join a [44]).length<=1000)(m:c.size<=1000)(n:kb.size<=1000):
  Za Wa 175 #[sE c kb sg v g r (Q d sl f)] w λe p=>(∃z,e=Ua (Va z)/\Bytes.B z=Bytes.B c++[124]++Bytes.B kb++Plain.pt a)/\Below w.heap.size w p:=by
 unfold sE;have h:=af.new w 206 #[Va c,Va kb,bO sg,I O v,Va g,I O r,Q d sl f];have i:=ai (w:=w) (.cells #[Va c,Va kb,bO sg,I O v,Va g,I O r,Q d sl f] 206);have k:(Plain.pt a).length<=1002:=by grind [Plain.pt]
 go_in;go_wp2_with fail;generalize w.alloc (.cells #[Va c,Va kb,bO sg,I O v,Va g,I O r,Q d sl f] 206)=q at *;generalize y:w.heap.size=B at h ⊢;have b:∀(j:Nat) u,#[Ug c,Va kb,bO sg,I O v,Va g,I O r,Q d sl f][j]? = Z u->∀s:Bw q,s.val.cell? ⟨B,j,Y⟩=Z u:=λj u D s=>(h.below s.is h.lt).cell j _ D
 have E:=b 0 _ rfl;have F:=b 1 _ rfl;have G:=b 2 _ rfl;have H:=b 3 _ rfl;have J:=b 4 _ rfl;have K:=b 5 _ rfl;have M:=b 6 _ rfl;have t:=aa (λs:Bw q=>aT (v:=Va ⟨(Plain.pt a).toArray⟩) ((Plainv.Ev c kb g sg v r o a (Q d sl f) s.val ((hst.below i).below s.is) (by omega) (by omega)).mono λe p ⟨⟨z,m,n,_⟩,x⟩=>⟨by
  have:z=⟨(Plain.pt a).toArray⟩:=Bytes.bo (by rw[n];rfl);rw[m,this],x⟩))
 have l:=aa i;have A:(⟨(Plain.pt a).toArray⟩:ByteArray).size<=1002:=by rw[Bytes.aj];exact k
 clear b h i hst;refine aU ?_;repeat go_big_quiet_step (exact t.out _)
 refine Xb ?_;rintro _ ⟨s,rfl⟩;go_wp2_with fail;go_ret;refine⟨⟨_,rfl,?_⟩,l.trans (s.is.mono l.size)⟩;rw[fJ,fJ,fJ];rfl
variable {a d:Nat}{e h i:Xa}{j:cZ}{k:Bs}{l m:Ser}{n:Opts.jv}{o:Gh}
theorem fm.nodup (h:fm e j k o l):(gf o l).Nodup:=by
 cases l with
 | num n=>simp[gf]
 | set m=>
  have a:o.X≠o.A:=cH h.1 h.2.head (by decide);have c:o.X≠o.b:=dp h.2.map h.1;have d:o.A≠o.b:=dp h.2.map h.2.head;simp[gf,a,c,d]
 | tim t=>
  have a:o.X≠o.A:=cH h.1 h.2.head (by decide);have c:o.X≠o.S:=cH h.1 h.2.sk.head (by decide);have d:o.A≠o.S:=cH h.2.head h.2.sk.head (by decide);have f:o.X≠o.b:=dp h.2.sk.map h.1;have g:o.A≠o.b:=dp h.2.sk.map h.2.head;have i:o.S≠o.b:=dp h.2.sk.map h.2.sk.head;grind [gf]
structure WI where
 P:Nat
 M:Nat
 R:Nat
 bs:List Nat
 c:Fin 6->Int
abbrev fh:=Bs×(Gh×Ser)
def dK (E:List fh):List (Bs×Ser):=E.map λp=>(p.1,p.2.2)
def dw (E:List fh):List (Bs×Nat):=E.map λp=>(p.1,p.2.1.X)
def iq (E:List fh):List Nat:=E.flatMap λp=>gf p.2.1 p.2.2
def bj (p:WI)(E:List fh):List Nat:=(p.P ::qD p.M p.R p.bs)++iq E
structure dP (w:Xa)(p:WI)(L:cZ)(rj dr:Nat)(E:List fh):Prop where
 head:af w p.P 147 #[I O (p.c 0),I O (p.c 1),I O (p.c 2),I O (p.c 3),I O (p.c 4),I O (p.c 5),ca (Z ⟨p.M,0,Y⟩),I O (rj:Int),I O (dr:Int)]
 sh:fo w p.M p.R p.bs (dw E)
 fO:∀x∈E,fm w L x.1 x.2.1 x.2.2
 apart:(bj p E).Nodup
 c1:p.c 1=L.series
 c2:p.c 2=L.sets
 c3:p.c 3=L.buckets
theorem Ly {κ β γ:Type}{lt:κ->κ->Bool}(f:β->γ)(x:κ×β)(l:List (κ×β)):(ins lt x l).map (λp=>(p.1,f p.2))=ins lt (x.1,f x.2) (l.map λp=>(p.1,f p.2)):=by
 induction l with
 | nil=>rfl
 | cons y r a=>grind [ins]
theorem Lx {κ β γ:Type}[DecidableEq κ](f:β->γ)(k:κ)(l:List (κ×β)):(del k l).map (λp=>(p.1,f p.2))=del k (l.map λp=>(p.1,f p.2)):=by
 unfold del;rw[List.filter_map];rfl
theorem Ch {κ β γ:Type}[DecidableEq κ]{lt:κ->κ->Bool}(f:β->γ)(k:κ)(b:β)(l:List (κ×β)):(put lt k b l).map (λp=>(p.1,f p.2))=put lt k (f b) (l.map λp=>(p.1,f p.2)):=by
 rw[put,put,Ly,Lx]
theorem xe {κ β γ:Type}[DecidableEq κ](f:β->γ)(k:κ)(l:List (κ×β)):aS k (l.map λp=>(p.1,f p.2))=(aS k l).map f:=by
 induction l with
 | nil=>rfl
 | cons y r a=>
  rw[Ve];by_cases h:y.1=k
  .grind [bc]
  grind [aV]
theorem JJ {κ β γ:Type}{lt:κ->κ->Bool}(f:β->γ){l:List (κ×β)}:Up lt (l.map λp=>(p.1,f p.2))↔Up lt l:=by grind [Up]
theorem GF (a:cZ)(m:Opts.jv)(g:Gh)(s:Ser):gf g (ch a m s).1=gf g s:=by
 cases s with
 | num n=>rfl
 | tim t=>rfl
 | set b=>
  simp only[ch];split
  .rfl
  split<;>rfl
theorem dP.off {F:List Nat}{w f:Xa}{p:WI}   {E:List fh}(h:dP w p j a d E)(c:an F w f)(b:∀x∈bj p E,x∉F):dP f p j a d E:=
 ⟨Foot.af.off h.head c (b _ (by simp[bj])),h.sh.off c (λx e=>b x (by grind [bj])),
  λx e=>(h.fO x e).off c (λy g=>b y (by grind [bj,iq])),h.apart,h.c1,h.c2,h.c3⟩
theorem dP.keep {p:WI}   {E:List fh}(b:dP e p j a d E)(c:Below e.heap.size e h):dP h p j a d E:=
 b.off (F:=[]) (an.ag c) (by simp)
theorem dP.lt {p:WI}   {E:List fh}(h:dP e p j a d E):∀x∈bj p E,x<e.heap.size:=by
 intro x b;simp only[bj,List.mem_append,vd,iq,Ud]at b;rcases b with (rfl|b)|⟨y,c,b⟩
 .exact h.head.lt
 .exact h.sh.lt x b
 exact(h.fO y c).lt x b
theorem iN {E a:List fh}(h:E.Perm a):(iq E).Perm (iq a):=h.flatMap_right _
theorem iZ (E:List fh):(dw E).length=E.length:=by simp[dw]
theorem jd (E:List fh):(dK E).length=E.length:=by simp[dK]
theorem Bo {E:List fh}:Up cA (dK E)↔Up cA E:=JJ (f:=λq:Gh×Ser=>q.2)
theorem vQ {E:List fh}:Up cA (dw E)↔Up cA E:=JJ (f:=λq:Gh×Ser=>q.1.X)
theorem uZ (k:Bs)(E:List fh):aS k (dK E)=(aS k E).map (·.2):=xe (λq:Gh×Ser=>q.2) k E
theorem mf (k:Bs)(E:List fh):aS k (dw E)=(aS k E).map (·.1.X):=xe (λq:Gh×Ser=>q.1.X) k E
theorem Cw (k:Bs)(q:Gh×Ser)(E:List fh):dK (put cA k q E)=put cA k q.2 (dK E):=Ch (λq:Gh×Ser=>q.2) k q E
theorem Cv (k:Bs)(q:Gh×Ser)(E:List fh):dw (put cA k q E)=put cA k q.1.X (dw E):=Ch (λq:Gh×Ser=>q.1.X) k q E
theorem Iu {E:List fh}(a:Up cA E)(h:aS k E=Z (o,l)):dw (put cA k (o,m) E)=dw E:=by
 rw[Cv];refine JG dE dO ((vQ.2 a).put dE fU _ _) (vQ.2 a) λb=>?_
 grind [lC,mf]
theorem dP.fQ {p:WI}   {E:List fh}    (f:dP e p j a d E)(z:Up cA E)(w:aS k E=Z (o,l))(n:an (gf o l) e h)(G:fm h j k o m)(K:gf o m=gf o l):
  dP h p j a d (put cA k (o,m) E)/\an (bj p E) e h/\∀x,x∈bj p (put cA k (o,m) E)↔x∈bj p E:=by
 obtain⟨r,B,S⟩:=jC (lt:=cA) (b':=(o,m)) (Up.nodup dO z) w;have F:(iq (put cA k (o,m) E)).Perm (iq E):=by grind [iq]
 have i:(bj p (put cA k (o,m) E)).Perm (bj p E):=F.append_left _;have g:=f.apart;have b:(bj p ((k,(o,l)) ::r)).Nodup:=((iN B).append_left (p.P ::qD p.M p.R p.bs)).nodup_iff.1 g;rw[bj,Ub]at b;obtain⟨_,u,A⟩:=b;simp only[iq,List.flatMap_cons]at u A;rw[Ub]at u;obtain⟨_,_,J⟩:=u;have v:∀x,x∈p.P ::qD p.M p.R p.bs->x∉gf o l:=λx c q=>A x c x (List.mem_append_left _ q) rfl
 refine⟨⟨Foot.af.off f.head n (v _ (eb ..)),by rw[Iu z w];exact f.sh.off n λx c=>v x (List.mem_cons_of_mem _ c),λx c=>?_,i.nodup_iff.2 g,f.c1,f.c2,f.c3⟩,n.mono λx _ c=>by simp only[bj,List.mem_append];exact Xd ((iN B).mem_iff.2 (by grind [iq])),λx=>i.mem_iff⟩;rcases eT c with rfl|⟨c,D⟩
 .exact G
 have s:x∈r:=by grind
 refine(f.fO x c).off n λy H t=>J y t y (Ud.2 ⟨x,s,H⟩) rfl
theorem dP.more {p:WI}   {E:List fh}    (g:dP e p j a d E)(w:aS k E=Y)(u:Below e.heap.size e h)(A:fm h j k o l)(H:∀x∈gf o l,e.heap.size<=x)(v:(gf o l).Nodup)
  (r:an (qD p.M p.R p.bs) h i) (hsh:fo i p.M p.R p.bs (put cA k o.X (dw E))):
  dP i p j a d (put cA k (o,l) E)/\an (bj p E) e i/\∀x,x∈bj p (put cA k (o,l) E)->x∈bj p E\/e.heap.size<=x:=by
 have G:=jB (lt:=cA) (b':=(o,l)) w;have s:(bj p (put cA k (o,l) E)).Perm ((p.P ::qD p.M p.R p.bs)++(gf o l++iq E)):=by
  refine List.Perm.append_left _ ((iN G).trans ?_);grind [iq]
 have n:=g.apart;have z:=g.lt;have q:∀x∈gf o l,x∉bj p E:=λx b B=>by grind
 have m:=g.keep u;rw[bj,Ub]at n;obtain⟨D,J,F⟩:=n;have c:∀x,x∈qD p.M p.R p.bs->x∈bj p E:=λx b=>by grind [bj]
 refine⟨⟨Foot.af.off m.head r ?_,by rw[Cv];exact hsh,λx b=>?_,?_,g.c1,g.c2,g.c3⟩,(an.ag u).trans (r.mono λx _ b=>c x b),λx b=>?_⟩
 .exact(Vf.1 D).1
 .rcases eT b with rfl|⟨b,_⟩
  .exact A.off r λy t f=>q y t (c y f)
  exact(m.fO x b).off r λy t f=>F y (List.mem_cons_of_mem _ f) y (Ud.2 ⟨x,b,t⟩) rfl
 .rw[s.nodup_iff,Ub];grind [bj]
 grind [bj]
theorem oI {t:TypeId}{b c d f g i j k l:C}(h:af e a t #[b,c,d,f,g,i,j,k,l]):
  e.cell? ⟨a,0,Y⟩=Z b/\e.cell? ⟨a,1,Y⟩=Z c/\e.cell? ⟨a,2,Y⟩=Z d/\e.cell? ⟨a,3,Y⟩=Z f/\e.cell? ⟨a,4,Y⟩=Z g/\e.cell? ⟨a,5,Y⟩=Z i/\e.cell? ⟨a,6,Y⟩=Z j/\e.cell? ⟨a,7,Y⟩=Z k/\e.cell? ⟨a,8,Y⟩=Z l:=
 ⟨h.Ri 0,h.Ri 1,h.Ri 2,h.Ri 3,h.Ri 4,h.Ri 5,h.Ri 6,h.Ri 7,h.Ri 8⟩
structure Df (w:Xa)(l:Bs)(m:Opts.jv)(lo:Nat)(nb kb wb:ByteArray)(sa:Option Addr)(sl sc:Nat):Prop where
 rd:Opts.rd l=Z m
 name:Bytes.B nb=m.name
 kind:Bytes.B kb=m.kind
 word:Bytes.B wb=m.word
 tags:Tagw.Strs lo w (Q sa sl sc) m.tags
theorem Df.keep {c kb g:ByteArray}{d:Option Addr}{sl f:Nat}(b:Df e k n a c kb g d sl f)(i:Below e.heap.size e h):Df h k n a c kb g d sl f:=
 ⟨b.rd,b.name,b.kind,b.word,b.tags.below i⟩
theorem KV {b kb f:ByteArray}{c:Option Addr}{sl d:Nat}(h:Df e k n a b kb f c sl d):
  Za Wa 175 #[sE b kb n.signed n.value f n.cw (Q c sl d)] e λg j=>(∃z,g=Ua (Va z)/\Bytes.B z=key n/\z.size<=64)/\Below e.heap.size e j:=by
 obtain⟨q,r,_,_,_,l,m⟩:=Bounds.jS h.rd;have s:=Bounds.xn n.tags m;refine(Se b kb f n.signed n.value n.cw a n.tags c sl d e h.tags l (by omega) (by rw[Bytes.aj,h.name];omega) (by rw[Bytes.aj,h.kind];omega)).mono ?_;rintro g j ⟨⟨z,p,hz⟩,o⟩;have i:Bytes.B z=key n:=by rw[hz,h.name,h.kind];rfl
 exact⟨⟨z,p,i,by rw[Bytes.aj,i];exact Cc h.rd⟩,o⟩
def Found (w a:Xa)(e:Ending)(p:WI)(b:cZ)(d c:Nat)(E:List fh)(m:Opts.jv):Prop:=
 (∃g s,aS (key m) E=Z (g,s)/\e=Ua (.tuple #[ca (Z ⟨g.X,0,Y⟩),bO true])/\Below w.heap.size w a)\/
 (aS (key m) E=Y/\b.series<=E.length/\e=Ua (.tuple #[ca Y,bO false])/\Below w.heap.size w a)\/
 (aS (key m) E=Y/\E.length<b.series/\∃g:Gh,e=Ua (.tuple #[ca (Z ⟨g.X,0,Y⟩),bO true])/\dP a p b d c (put cA (key m) (g,ik m.kind) E)/\an (bj p E) w a/\∀x,x∈bj p (put cA (key m) (g,ik m.kind) E)->x∈bj p E\/w.heap.size<=x)
set_option maxRecDepth 10000 in
theorem IZ (p:WI)(T:cZ)(rj dr:Nat)(E:List fh)(l:Bs)(m:Opts.jv)(lo:Nat)(nb kb wb:ByteArray)(sa:Option Addr)(sl sc:Nat)(w:Xa)(h:dP w p T rj dr E)(b:Up cA E)(hE:E.length<=32)(hd:Df w l m lo nb kb wb sa sl sc):
  Za Wa 128 #[ca (Z ⟨p.P,0,Y⟩),sE nb kb m.signed m.value wb m.cw (Q sa sl sc)] w λe w'=>Found w w' e p T rj dr E m:=by
 have HW:=aa h;change Hid _ at b;have HD:=aa hd;clear h hd;have hN:=af.new w 206 #[Va nb,Va kb,bO m.signed,I O m.value,Va wb,I O m.cw,Q sa sl sc];have hB:=ai (w:=w) (.cells #[Va nb,Va kb,bO m.signed,I O m.value,Va wb,I O m.cw,Q sa sl sc] 206);have W:=KV (HD.keep hB);obtain⟨k0,k1,k2,k3,k4,k5,k6⟩:=gw hN;have F:=aa hB;have H:=aa hN;clear hB hN;unfold sE at W ⊢;go_in;go_wp2_with fail;refine W.mono ?_;clear W k0 k1 k2 k3 k4 k5 k6;rintro e w1 ⟨⟨z,rfl,HZ,b6⟩,U⟩;have i:=aa (F.trans (U.mono F.size));have J:=aa (H.below U H.lt);have a2:=aa (HW.keep i);clear F H U;obtain⟨c0,c1,c2,c3,c4,c5,c6,c7,c8⟩:=oI a2.head;have a:=Sh.get p.M p.R p.bs (dw E) z (by omega) w1 a2.sh;rw[HZ]at a;change Hid _ at HZ;clear c0 c1 c2 c3 c4 c5 c7 c8;obtain⟨B,A⟩:∃B,w.heap.size=B:=⟨_,rfl⟩;have b5:=aa A;rw[A]at J;rw[A];clear A;cases t:aS (key m) E with
 | some q=>
  obtain⟨g,s⟩:=q;have e1:Im.elemOf pv (ca Y) (key m) (dw E)=ca (Z ⟨g.X,0,Y⟩):=by
   unfold Im.elemOf;rw[mf,t];rfl
  have e2:Im.has (key m) (dw E)=true:=by rw[gR,mf,t];rfl
  rw[e1,e2]at a;change Hid _ at t;clear e1 e2;go_wp2_with fail;refine a.mono ?_;clear a;rintro e w2 ⟨rfl,f⟩;have d:=aa (i.trans (f.mono i.size));clear f;go_wp2_with fail;go_ret2;exact Ue ⟨g,s,t,rfl,d⟩
 | none=>
  have e1:Im.elemOf pv (ca Y) (key m) (dw E)=ca Y:=by grind [mf,Im.elemOf]
  have e2:Im.has (key m) (dw E)=false:=by rw[gR,mf,t];rfl
  rw[e1,e2]at a;change Hid _ at t;clear e1 e2;go_wp2_with fail;refine a.mono ?_;clear a;rintro e w2 ⟨rfl,f⟩;have d:=aa (i.trans (f.mono i.size));have K:=aa (J.below f J.lt);have n:=aa (HW.keep d);clear f c6;go_wp2_with fail;have C6:∀s:Bw w2,s.val.cell? ⟨p.P,6,Y⟩=Z (ca (Z ⟨p.M,0,Y⟩)):=λs=>(n.keep s.is).head.Ri 6
  have C1:∀s:Bw w2,s.val.cell? ⟨p.P,1,Y⟩=Z (I O (p.c 1)):=λs=>(n.keep s.is).head.Ri 1
  have a0:=aa (λs:Bw w2=>aT (v:=I O (E.length:Int)) ((Sh.len p.M p.R p.bs (dw E) s.val (n.keep s.is).sh).mono λe w' ⟨h1,h2⟩=>⟨by rw[h1,iZ],by rw[h2];exact Vd _ _⟩));have b1:=n.c1;refine aU ?_;repeat go_big_quiet_step (exact a0.out _)
  refine Xb ?_;rintro _ ⟨s,rfl⟩;have k:=aa (d.trans (s.is.mono d.size));have S:=aa (K.below s.is K.lt);have a3:=aa (HW.keep k);clear C6 C1 a0 d K n;generalize s.val=w3 at *;by_cases b2:T.series<=E.length
  .have b4:(T.series:Int)<=(E.length:Int):=by omega
   go_wp2_with fail;go_ret2;exact Xd (Ue ⟨t,b2,rfl,k⟩)
  have b4:¬(T.series:Int)<=(E.length:Int):=by omega
  have b3:E.length<T.series:=by omega
  go_wp2_with fail;have D:∀(j:Nat) u,#[Value.int O (p.c 0),I O (p.c 1),I O (p.c 2),I O (p.c 3),I O (p.c 4),I O (p.c 5)][j]? = Z u->∀s:Bw w3,s.val.cell? ⟨p.P,j,Y⟩=Z u:=λj u b s=>(a3.keep s.is).head.cell j _ (by
   match j,b with
   | 0,b=>exact b
   | 1,b=>exact b
   | 2,b=>exact b
   | 3,b=>exact b
   | 4,b=>exact b
   | 5,b=>exact b
   | j+6,b=>simp at b)
  have D0:=D 0 _ rfl;have D1:=D 1 _ rfl;have D2:=D 2 _ rfl;have D3:=D 3 _ rfl;have D4:=D 4 _ rfl;have D5:=D 5 _ rfl;have DB:∀s:Bw w3,s.val.cell? ⟨B,1,Y⟩=Z (Va kb):=λs=>(S.below s.is S.lt).Ri 1
  clear D b1;refine bg 6 ?_;simp only[Uc,ad,Vc,ed];repeat go_big_quiet_step (fail)
  refine Xb ?_;intro s4;have G:=aa (k.trans (s4.is.mono k.size));clear D0 D1 D2 D3 D4 D5 DB k S a3;generalize s4.val=w4 at *;have y:=aa (HW.keep G);have o:=Ed kb p.c T l m HD.rd HD.kind y.c2 y.c3 w4;unfold cfg at o;go_wp2_with fail;refine o.mono ?_;clear o;rintro e w5 ⟨g,rfl,a8,a5,V⟩;have a9:=aa V;have a1:=aa a8;have b0:=aa a5;have a4:=aa (y.keep V);obtain⟨c0,c1,c2,c3,c4,c5,c6,c7,c8⟩:=oI a4.head;have r:=Sh.Sv p.M p.R p.bs (dw E) z g.X (by omega) w5 a4.sh (vQ.2 b) (by rw[HZ.out,mf,t.out];rfl) (by rw[iZ];omega);rw[HZ.out]at r;clear a8 a5 V c0 c1 c2 c3 c4 c5 c7 c8;go_wp2_with fail;refine r.mono ?_;clear r;rintro e w6 ⟨rfl,a6,a7⟩;have HM:=dP.more (y.out) t a9 a1 b0 (Wi.fm.nodup a1) a6 a7;change Hid _ at HM;clear a6 a7 c6;go_wp2_with fail;go_ret2;obtain⟨m1,m2,m3⟩:=HM.out;refine Xd (Xd ⟨t,b3,g,rfl,m1,(an.ag G).trans m2,λx hx=>?_⟩);have:=G.size;grind
def cE (b a:Nat)(E:List fh):jh:=⟨b,a,dK E⟩
def zq (w e:Xa)(p:WI)(d:cZ)(g f:Nat)(E:List fh)(l:Bs):Prop:=
 ∃b a c,dP e p d b a c/\cE b a c=fX d (cE g f E) l/\an (bj p E) w e/\∀x,x∈bj p c->x∈bj p E\/w.heap.size<=x
theorem dP.set {p:WI}   {E:List fh}(h:dP e p j a d E)(g:Nat)(v:C){rj' dr':Nat}(l:(#[Value.int O (p.c 0),I O (p.c 1),I O (p.c 2),I O (p.c 3),I O (p.c 4),I O (p.c 5),ca (Z ⟨p.M,0,Y⟩),I O (a:Int),I O (d:Int)]:Array C).setIfInBounds g v=#[I O (p.c 0),I O (p.c 1),I O (p.c 2),I O (p.c 3),I O (p.c 4),I O (p.c 5),ca (Z ⟨p.M,0,Y⟩),I O (rj':Int),I O (dr':Int)]):
  dP (e.setCell ⟨p.P,g,Y⟩ v) p j rj' dr' E/\an (bj p E) e (e.setCell ⟨p.P,g,Y⟩ v):=by
 have k:an [p.P] e (e.setCell ⟨p.P,g,Y⟩ v):=(an.refl _ _).set (by simp) _ _;have b:=h.apart;rw[bj,Ub]at b;obtain⟨q,_,o⟩:=b;refine⟨⟨by rw[<-l];exact h.head.set g v,h.sh.off k λx i m=>?_,λx i=>(h.fO x i).off k λy n f=>?_,h.apart,h.c1,h.c2,h.c3⟩,k.mono λx _ i=>?_⟩
 .grind
 .rw[List.mem_singleton]at f;subst f;exact o p.P (eb ..) p.P (Ud.2 ⟨x,i,n⟩) rfl
 grind [bj]
theorem zq.ahead {p:WI}   {E:List fh}  (g:Below e.heap.size e h)(f:zq h i p j a d E k):zq e i p j a d E k:=by
 obtain⟨c,b,l,m,n,o,q⟩:=f;refine⟨c,b,l,m,n,(an.ag g).trans o,λx r=>(q x r).imp id λf=>?_⟩;have:=g.size;omega
theorem yS {p:WI}   {E:List fh}  (h:dP e p j a d E)(f:k≠[])(g:Opts.rd k=Y):zq e (e.setCell ⟨p.P,7,Y⟩ (I O ((a:Int)+1))) p j a d E k:=by
 obtain⟨b,c⟩:=h.set 7 (I O ((a:Int)+1)) (rj':=a+1) (dr':=d) rfl;refine⟨a+1,d,E,b,?_,c,λx i=>Ue i⟩;rw[fX,if_neg f,g];rfl
theorem By {L:cZ}{rj dr:Nat}{E:List fh}    (a:aS (key n) E=Z (o,l)):gu L (cE rj dr E) n=⟨rj,if (ch L n l).2 then dr else dr+1,put cA (key n) (ch L n l).1 (dK E)⟩:=by grind [uZ,gu,cE]
theorem Bv {rj dr:Nat}{E:List fh}  (a:aS (key n) E=Y)(b:j.series<=E.length):gu j (cE rj dr E) n=⟨rj,dr+1,dK E⟩:=by grind [uZ,jd,gu,cE]
theorem LN {κ β:Type}[DecidableEq κ]{lt:κ->κ->Bool}(d:∀a b c,lt a b=true->lt b c=true->lt a c=true)(e:∀a b,a≠b->lt a b=false->lt b a=true)(f:∀a,lt a a=false){l:List (κ×β)}(g:Up lt l)(k:κ)(a b:β):put lt k b (put lt k a l)=put lt k b l:=by
 refine JG d f ((g.put d e _ _).put d e _ _) (g.put d e _ _) λh=>?_
 grind [lC]
theorem Fw {L:cZ}{rj dr:Nat}{E:List fh}  {g:Gh}(c:Up cA E)(a:aS (key n) E=Y)(b:E.length<L.series):gu L (cE rj dr E) n=⟨rj,if (ch L n (ik n.kind)).2 then dr else dr+1,put cA (key n) (ch L n (ik n.kind)).1 (dK (put cA (key n) (g,ik n.kind) E))⟩:=by grind [Cw,LN,dE,fU,dO,Bo,uZ,jd,gu,cE]
structure PJ (L:cZ):Prop where
 s:L.series<=32
 t:L.sets<=16
 b0:2<=L.buckets
 b1:L.buckets<=64
theorem yT {p:WI}   {E b:List fh}   (g:k≠[])(l:Opts.rd k=Z n)(c:dP h p j a d b)(f:gu j (cE a d E) n=⟨a,d,dK b⟩)(i:an (bj p E) e h)(m:∀x,x∈bj p b->x∈bj p E\/e.heap.size<=x):zq e h p j a d E k:=by
 refine⟨a,d,b,c,?_,i,m⟩;rw[fX,if_neg g,l];exact f.symm
theorem vN {p:WI}   {E b:List fh}   (i:k≠[])(m:Opts.rd k=Z n)(c:dP h p j a d b)(g:gu j (cE a d E) n=⟨a,d+1,dK b⟩)(l:an (bj p E) e h)(o:∀x,x∈bj p b->x∈bj p E\/e.heap.size<=x):zq e (h.setCell ⟨p.P,8,Y⟩ (I O ((d:Int)+1))) p j a d E k:=by
 obtain⟨f,_⟩:=c.set 8 (I O ((d:Int)+1)) (rj':=a) (dr':=d+1) rfl;refine⟨a,d+1,b,f,?_,l.set (by simp[bj]) _ _,o⟩;rw[fX,if_neg i,m];exact g.symm
theorem CP {p:WI}   {E:List fh}    (b:dP e p j a d E)(i:Up cA E)(c:aS (key n) E=Z (o,l))(f:an (gf o l) e h)(g:fm h j (key n) o (ch j n l).1):
  dP h p j a d (put cA (key n) (o,(ch j n l).1) E)/\dK (put cA (key n) (o,(ch j n l).1) E)=put cA (key n) (ch j n l).1 (dK E)/\an (bj p E) e h/\∀x,x∈bj p (put cA (key n) (o,(ch j n l).1) E)↔x∈bj p E:=by
 obtain⟨k,m,q⟩:=b.fQ i c f g (GF j n o l);grind [Cw]
theorem Ma { b:Nat}{E:List fh}    (h:eX j a (cE d b E))(c:aS k E=Z (o,l)):kT j a k l:=
 h.fO (k,l) (og.2 ⟨(k,(o,l)),dj c,rfl⟩)
set_option maxRecDepth 10000 in
theorem Jv (p:WI)(o:cZ)(n J G:Nat)(E:List fh)(s:ByteArray)(w:Xa)(h:dP w p o J G E)(hf:eX o n (cE J G E))(hn:n<=1000000000000)(hL:PJ o)(hs:s.size<=140737488355328)(d:Bytes.B s≠[]):
  Za Wa 96 #[ca (Z ⟨p.P,0,Y⟩),Va s] w λe w'=>e=Ua (.tuple #[])/\zq w w' p o J G E (Bytes.B s):=by
 have HW:=aa h;have HF:=aa hf;change Hid _ at d;have b7:J+G<=n:=hf.cnt;clear h hf;go_in;go_wp2_with fail;refine(read s hs w).mono ?_;rintro e w1 ⟨f,⟨HR,rfl⟩|⟨m,K,kb,S,tv,HR,a8,i,hw,hst,rfl⟩⟩
 .change Hid _ at HR;have r:=aa (f.trans ((ai (w:=w1) (.cells zl 206)).mono f.size));have F:=aa (HW.keep r);unfold zl at r F;obtain⟨V,c1,c2,c3,W,X,c6,c7,c8⟩:=oI F.head;have f7:=F.head.frozen 7;clear f V c1 c2 c3 W X c6 c8;unfold nothing;go_wp2_with fail;refine bodyPost_ret (results_none rfl _ _ _) rfl ?_;exact⟨rfl,(yS F d HR).ahead r⟩
 obtain⟨M,sl,R,rfl⟩:=hst.shape;have a3:=aa (show Df w1 (Bytes.B s) m w.heap.size K kb S M sl R from⟨HR,a8,i,hw,hst⟩);have c:=aa (f.trans ((ai (w:=w1) (.cells #[Va K,Va kb,bO m.signed,I O m.value,Va S,I O m.cw,Q M sl R] 206)).mono f.size));have T:=aa (af.new w1 206 #[Va K,Va kb,bO m.signed,I O m.value,Va S,I O m.cw,Q M sl R]);have a:=aa (a3.keep (ai (.cells #[Va K,Va kb,bO m.signed,I O m.value,Va S,I O m.cw,Q M sl R] 206)));have b5:=aa (HW.keep c);have HU:=aa (Bo.1 HF.up);have hE:E.length<=32:=by
  have h1:=HF.len;have h2:(cE J G E).fO.length=E.length:=jd E;have h3:=hL.s;omega
 have r:=aa f;clear f a8 i hw hst a3;unfold sE;go_wp2_with fail;have a2:=IZ p o J G E (Bytes.B s) m w.heap.size K kb S M sl R _ b5 HU hE a;unfold sE at a2;generalize w1.alloc (.cells #[Va K,Va kb,bO m.signed,I O m.value,Va S,I O m.cw,Q M sl R] 206)=w2 at *;refine a2.mono ?_;clear a2;rintro e w3 (⟨g,sr,i,rfl,l⟩|⟨i,v,rfl,l⟩|⟨i,a7,g,rfl,a9,a1,a6⟩)
 .have HK:=aa i;have j:=aa (c.trans (l.mono c.size));have b:=aa (HW.keep j);have U:=aa (T.below l T.lt);have htk:=IW o n (key m) (Bytes.B s) g sr m K kb S M sl R w3 (b.fO _ (dj i)) (Ma HF i) a.rd (eo a.rd) a.kind a.word (by omega) hL.b0 hL.b1 (by have:=hL.t;omega);unfold sE at htk;obtain⟨k0,k1,k2,k3,k4,k5,k6⟩:=gw U;clear i l;go_wp2_with fail;refine htk.mono ?_;clear htk k0 k1 k2 k3 k4 k5 k6;rintro e w4 ⟨rfl,y,z⟩;have D:=aa (CP b HU HK y z);clear y z;obtain⟨V,c1,c2,c3,W,X,c6,c7,c8⟩:=oI D.1.head;have f8:=D.1.head.frozen 8;have u:=aa (By (L:=o) (rj:=J) (dr:=G) HK);clear V c1 c2 c3 W X c6 c7;cases H:(ch o m sr).2 with
  | true=>
   rw[H]at u;clear H;go_wp2_with fail;go_end0;obtain⟨t1,t2,A,t4⟩:=D.out;exact⟨rfl,yT d a.rd t1 (by rw[u.out,t2];rfl) ((an.ag j).trans A) λx q=>Ue ((t4 x).1 q)⟩
  | false=>
   rw[H]at u;clear H;go_wp2_with fail;go_end0;obtain⟨t1,t2,A,t4⟩:=D.out;exact⟨rfl,vN d a.rd t1 (by rw[u.out,t2];rfl) ((an.ag j).trans A) λx q=>Ue ((t4 x).1 q)⟩
 .have j:=aa (c.trans (l.mono c.size));have b:=aa (HW.keep j);have u:=aa (Bv (rj:=J) (dr:=G) i v);obtain⟨V,c1,c2,c3,W,X,c6,c7,c8⟩:=oI b.head;have f8:=b.head.frozen 8;clear i v l V c1 c2 c3 W X c6 c7;go_wp2_with fail;go_end0;exact⟨rfl,vN d a.rd b u (an.ag j) λx q=>Ue q⟩
 have HK:=aa i;have b:=aa a9;have k:=aa ((an.ag c).trans a1);have a4:=aa a6;have a5:w1.heap.size∉bj p E:=λq=>by
  have h1:=HW.lt _ q;have h2:=r.size;omega
 have U:=aa (Foot.af.off T a1 a5);have a0:aS (key m) (put cA (key m) (g,ik m.kind) E)=Z (g,ik m.kind):=by rw[lC,if_pos rfl]
 have b3:=aa a0;have b4:=aa (HU.put dE fU (key m) (g,ik m.kind));have htk:=IW o n (key m) (Bytes.B s) g (ik m.kind) m K kb S M sl R w3 (b.fO _ (dj a0)) (kT.zero a.rd) a.rd (eo a.rd) a.kind a.word (by omega) hL.b0 hL.b1 (by have:=hL.t;omega);unfold sE at htk;obtain⟨k0,k1,k2,k3,k4,k5,k6⟩:=gw U;have u:=aa (Fw (L:=o) (rj:=J) (dr:=G) (g:=g) HU i a7);clear i a9 a1 a6 a0 a7 a5;go_wp2_with fail;refine htk.mono ?_;clear htk k0 k1 k2 k3 k4 k5 k6;rintro e w4 ⟨rfl,y,z⟩;have D:=aa (CP b b4 b3 y z);clear y z;obtain⟨V,c1,c2,c3,W,X,c6,c7,c8⟩:=oI D.1.head;have f8:=D.1.head.frozen 8;have HX:=aa (show (an (bj p E) w w4)/\∀x,x∈bj p (put cA (key m) (g,(ch o m (ik m.kind)).1) (put cA (key m) (g,ik m.kind) E))->x∈bj p E\/w.heap.size<=x from by
  obtain⟨_,_,A,t4⟩:=D.out;have b8:=c.size;refine⟨⟨A.os.trans k.os,A.tape.trans k.tape,A.output.trans k.output,Ze k.size A.size,λx q b2=>?_⟩,λx q=>(a4.out x ((t4 x).1 q)).imp id λh=>by omega⟩;refine(A.block x (Nat.lt_of_lt_of_le q k.size) λb6=>?_).trans (k.block x q b2);rcases a4.out x b6 with h|h
  .exact b2 h
  omega)
 clear V c1 c2 c3 W X c6 c7;cases H:(ch o m (ik m.kind)).2 with
 | true=>
  rw[H]at u;clear H;go_wp2_with fail;go_end0;obtain⟨t1,t2,A,t4⟩:=D.out;exact⟨rfl,yT d a.rd t1 (by rw[u.out,t2];rfl) HX.1 HX.2⟩
 | false=>
  rw[H]at u;clear H;go_wp2_with fail;go_end0;obtain⟨t1,t2,A,t4⟩:=D.out;exact⟨rfl,vN d a.rd t1 (by rw[u.out,t2];rfl) HX.1 HX.2⟩
end Wi
namespace Spn
open Go.RowKit Bytes Go.Lib Split
set_option maxRecDepth 1000000 in
theorem zW (s:ByteArray)(N:Nat)(w:Xa)(J:s.size<=140737488355328)(z:N=Ya s.data.toList 10+1)(B:N<=1000000000000):
  Za Wa 126 #[Va s,Va ⟨#[10]⟩,I O 0,I O (-1)] w λe j=>
   e=Ua (Q (Z ⟨w.heap.size,0,Y⟩) (Wb ⟨#[10]⟩ 0 (N - 1) s).length N)/\j=w.alloc (.cells (Yb (Wb ⟨#[10]⟩ 0 (N - 1) s) N) 9):=by
 have n:∀(x:ByteArray) (w:Xa),Za Wa 170 #[Va x,Va ⟨#[10]⟩] w λe j=>e=Ua (I O (Lib.indexB x ⟨#[10]⟩))/\j=w:=λx w=>
  (Tryz.strings_Index_one x 10 w).mono λe j ⟨E,f⟩=>⟨by rw[E,<-Zf],f⟩
 have D:Ya s.data.toList 10<=s.size:=by
  rw[aj];exact List.count_le_length
 have d:=Tryz.strings_Count_one s 10 w;have u:((Ya s.data.toList 10:Nat):Int)=(N:Int) - 1:=by omega
 rw[u]at d;have m:=aa d;have v:min (N:Int) ((s.size:Int)+1)=(N:Int):=by omega
 have A:(1:Int)<=(N:Int):=by omega
 have y:(N:Int) - 1+1=(N:Int):=by omega
 clear z d u;have r:=run_make_row' (P:=Wa) 32 9 (Va ByteArray.empty) 16 Tryz.underlying32 RF rfl .i64 .i64 N (by omega) (by omega);change Hid _ at n;go_in;go_wp2_with (go_at_call 169;refine m.mono ?_;rintro e j ⟨rfl,f⟩;rw[f])
 clear r;go_loopg [0,10] (N - 1) (λg G t wr=>∃(done:List ByteArray) (rest:ByteArray),G=Va rest/\t=I O done.length/\done.length<=N - 1/\g=N - 1 - done.length/\rest.size<=s.size/\
  wr=w.alloc (.cells (Yb done N) 9)/\done++Wb ⟨#[10]⟩ 0 (N - 1 - done.length) rest=Wb ⟨#[10]⟩ 0 (N - 1) s)
 case atStart=>exact⟨[],s,rfl,rfl,Nat.zero_le _,rfl,Wf _,by rw[Lib.cellsOf_nil],rfl⟩
 case round=>
  obtain⟨done,rest,rfl,rfl,H,rfl,hrs,rfl,o⟩:=hrel;have hnext:(Yb done N)[done.length]? = Z (Va ByteArray.empty):=Lib.cellsOf_next (by omega);change Hid _ at o;have b:Wb ⟨#[10]⟩ 0 (N - 1 - done.length) rest=[rest]->(Wb ⟨#[10]⟩ 0 (N - 1) s).length=done.length+1/\(Yb done N).setIfInBounds done.length (Va rest)=Yb (Wb ⟨#[10]⟩ 0 (N - 1) s) N:=λh=>by
   have e:=o.out;rw[h]at e;rw[<-e];exact⟨by simp,Lib.cellsOf_set (by omega) rest⟩
  change Hid _ at b;by_cases F:done.length<N - 1
  .have k:((done.length:Nat):Int)<(N:Int) - 1:=by omega
   rcases Lib.indexB_cases rest ⟨#[10]⟩ with c|⟨i,c,a⟩
   .change Hid _ at c;go_wp2_with (go_at_call 170;refine(n.out rest _).mono ?_;rintro e j ⟨rfl,f⟩;rw[f,c.out])
    go_ret;obtain⟨p,q⟩:=b.out (Lib.splitB_miss _ 0 _ rest c);rw[p,<-q];exact⟨by first|rfl|(congr 2<;>omega),rfl⟩
   have l:i+1<=rest.size:=a;change Hid _ at c;clear a;go_wp2_with (go_at_call 170;refine(n.out rest _).mono ?_;rintro e j ⟨rfl,f⟩;rw[f,c.out])
   go_roundg (N - 1 - (done.length+1))
   case measure=>omega
   case rel=>
    refine⟨done++[rest.extract 0 i],rest.extract (i+1) rest.size,rfl,by simp,by simp;omega,by simp,by rw[Xf];omega,by rw[<-Lib.cellsOf_set (by omega)],?_⟩;rw[<-o.out,show N - 1 - done.length=(N - 1 - (done.length+1))+1 by omega,Yf _ 0 _ rest i c];simp;rfl
  have k:¬(((done.length:Nat):Int)<(N:Int) - 1):=by omega
  go_wp2_with fail;go_ret;obtain⟨p,q⟩:=b.out (by rw[show N - 1 - done.length=0 by omega];rfl);rw[p,<-q];exact⟨by first|rfl|(congr 2<;>omega),rfl⟩
open Wm in
theorem Aq {l:List UInt8}(h:has 10 l=false):lines l=[l]:=ub (by grind [has])
theorem wU (c:UInt8)(l:List UInt8):c∉aM c l:=by
 induction l with
 | nil=>simp[aM]
 | cons b r a=>
  unfold aM at a ⊢;by_cases h:b=c
  .subst h;simp
  grind [Xe]
theorem NX {c:UInt8}{l:List UInt8}(h:has c l=true):l=aM c l++c ::cO c l:=by
 induction l with
 | nil=>simp[has]at h
 | cons b r d=>
  by_cases a:b=c
  .subst a;simp[aM,cO]
  grind [has,aM,cO,Xe,List.dropWhile_cons_of_pos]
theorem pV (k:Nat):∀s:ByteArray,Ya (B s) 10=k->(Wb ⟨#[10]⟩ 0 k s).map B=Wm.lines (B s):=by
 induction k with
 | zero=>
  intro s f;have:has 10 (B s)=false:=by grind [has,countByte]
  rw[Aq this];rfl
 | succ k g=>
  intro s f;have e:Lib.indexB s ⟨#[10]⟩=Lib.indexByte (B s) 10:=Zf _ _;rcases eR (B s) 10 with ⟨b,c,_⟩|⟨o,b,i,c,j,l⟩
  .grind [has,countByte]
  have m:=NX c;have a:Ya (cO 10 (B s)) 10=k:=by grind [wU,countByte]
  have d:B (s.extract (o+1) s.size)=cO 10 (B s):=by grind [bu,aj]
  rw[Yf _ _ _ _ o (by rw[e,b]),Ve];have h:=g (s.extract (o+1) s.size) (by rw[d];exact a);show B (s.extract 0 (o+0)) ::(Wb ⟨#[10]⟩ 0 k (s.extract (o+1) s.size)).map B=_;grind [bu,Wm.Ap,Wm.ub,wU]
theorem Bb (k:Nat):∀(s:ByteArray) (x:ByteArray),x∈Wb ⟨#[10]⟩ 0 k s->x.size<=s.size:=by
 induction k with
 | zero=>grind [splitB_zero]
 | succ k h=>
  intro s x c;have e:Lib.indexB s ⟨#[10]⟩=Lib.indexByte (B s) 10:=Zf _ _;rcases eR (B s) 10 with ⟨a,b,_⟩|⟨o,a,d,b,f,g⟩
  .grind [splitB_miss]
  rw[Yf _ _ _ _ o (by rw[e,a])]at c;grind [Xf]
theorem Mi (s:ByteArray)(j:s.size<=140737488355328)(i:Ya (B s) 10+1<=1000000000000)(w:Xa):
  Za Wa 95 #[Va s,Va ⟨#[10]⟩] w λe f=>∃b:List ByteArray,b.map B=Wm.lines (B s)/\(∀x∈b,x.size<=s.size)/\e=Ua (Q (Z ⟨w.heap.size,0,Y⟩) b.length (Ya (B s) 10+1))/\b.length=Ya (B s) 10+1/\f=w.alloc (.cells (Yb b (Ya (B s) 10+1)) 9):=by
 have a:=zW s (Ya (B s) 10+1) w j rfl i;have g:=aa a;clear a;go_in;go_wp2_with (go_at_call 126;refine g.mono ?_;rintro e f ⟨rfl,k⟩;rw[k])
 go_ret;refine⟨_,pV _ s rfl,λx m=>Bb _ _ _ m,rfl,?_,rfl⟩;have d:=congrArg List.length (pV _ s rfl);rw[Zd]at d;have h:(Wm.lines (B s)).length=Ya (B s) 10+1:=by
  generalize B s=l
  induction l with
  | nil=>rfl
  | cons c r n=>grind [Wm.lines,countByte]
 exact d.trans h
end Spn
namespace Wi
open Go.RowKit Go.Maps Mem Foot Im Wm Hk Hb Hi Hn Plainw Cq Hs Sh Readw
def ji (w d:Xa)(p:WI)(e:cZ)(E:List fh)(W:jh):Prop:=
 ∃b a c,dP d p e b a c/\cE b a c=W/\an (bj p E) w d/\∀x,x∈bj p c->x∈bj p E\/w.heap.size<=x
variable {a c d:Xa}{e f:Nat}{g:cZ}{h:List Nat}{i:List fh}{j:WI}{k:jh}
theorem rU {G:List Nat}  (b:an h a c)(k:an G c d)(j:∀x∈G,x∈h\/a.heap.size<=x):an h a d:=
 ⟨k.os.trans b.os,k.tape.trans b.tape,k.output.trans b.output,Ze b.size k.size,λi f g=>(k.block i (Nat.lt_of_lt_of_le f b.size) (λe=>by grind)).trans (b.block i f g)⟩
theorem ji.refl (h:dP a j g e f i):ji a a j g i (cE e f i):=
 ⟨e,f,i,h,rfl,an.refl _ _,λ_ b=>Ue b⟩
theorem ji.ahead (f:Below a.heap.size a c)(h:ji c d j g i k):ji a d j g i k:=by
 obtain⟨e,b,l,m,n,o,p⟩:=h;refine⟨e,b,l,m,n,(an.ag f).trans o,λx q=>(p x q).imp id λh=>?_⟩;have:=f.size;omega
theorem ji.then {n:jh}(h:ji a c j g i k)(y:∀r o b,dP c j g r o b->cE r o b=k->ji c d j g b n):ji a d j g i n:=by
 obtain⟨l,e,s,u,v,p,q⟩:=h;obtain⟨m,f,t,z,A,B,D⟩:=y l e s u v;refine⟨m,f,t,z,A,rU p B q,λx w=>?_⟩;rcases D x w with h|h
 .exact q x h
 have:=p.size;exact Xd (by omega)
theorem rp (b:2<=g.buckets):∀(a:List Bs) (n:Nat) (W:jh),eX g n W->eX g (n+a.length) (a.foldl (fX g) W):=by
 intro a
 induction a with
 | nil=>intro n W h;exact h
 | cons l r c=>
  intro n W h;have:=c (n+1) _ (h.line b l);grind
theorem ji.il {t:TypeId}{b:Array C}(h:ji a c j g i k)(l:af a e t b)(f:e∉bj j i):af c e t b:=by
 obtain⟨_,_,_,_,_,d,_⟩:=h;exact Foot.af.off l d f
set_option maxRecDepth 10000 in
theorem yQ (p:WI)(b:cZ)(n m f:Nat)(E:List fh)(s:ByteArray)(w:Xa)(h:dP w p b m f E)(T:eX b n (cE m f E))(hL:PJ b)(hs:s.size<=140737488355328)(hn:n+(Ya (Bytes.B s) 10+1)<=1000000000000):
  Za Wa 61 #[ca (Z ⟨p.P,0,Y⟩),Va s] w λe w'=>e=Ua (.tuple #[])/\ji w w' p b E (ju b (cE m f E) (Bytes.B s))/\eX b (n+(Ya (Bytes.B s) 10+1)) (ju b (cE m f E) (Bytes.B s)):=by
 have D:=Spn.Mi s hs (by omega) w;have HW:=aa h;change Hid _ at T;clear h;go_in;go_wp2_with fail;refine D.mono ?_;clear D;rintro e w1 ⟨a,t,u,rfl,d,H⟩;have o:=af.new w 9 (Yb a (Ya (Bytes.B s) 10+1));have R:=ai (w:=w) (.cells (Yb a (Ya (Bytes.B s) 10+1)) 9);rw[<-H]at o R;have r:=aa (show (lines (Bytes.B s)).length=a.length by rw[<-t];simp);rw[<-d]at o ⊢ hn;have q:=aa (show w.heap.size∉bj p E from λl=>by have:=HW.lt _ l;omega);generalize U:w.heap.size=G at q o ⊢;have HB:=aa R;change Hid _ at o t u;have X:=aa (HW.keep R);change Hid _ at U d;clear H R;have HC:=aa (λ(j:Nat) (x:ByteArray) (l:a[j]? = Z x)=>show (Yb a a.length)[j]? = Z (Ug x) from by
  rw[Lib.cellsOf_full];simp[l])
 go_wp2_with fail;go_loopw [9] (λi wr=>∃k:Nat,i=I O (k:Int)/\k<=a.length/\Hid (ji w1 wr p b E (((lines (Bytes.B s)).take k).foldl (fX b) (cE m f E)))) (λi _=>a.length - (intOf i).toNat)
 case atStart=>exact⟨0,rfl,by omega,ji.refl X⟩
 case round=>
  obtain⟨k,rfl,hk,W⟩:=hrel;by_cases a3:k<a.length
  .have a4:(k:Int)<(a.length:Int):=by omega
   obtain⟨x,l⟩:∃x,a[k]? = Z x:=⟨_,Zb a3⟩;have V:=aa (W.il o q);have g0:=V.cell k _ (HC.out k x l);have HX:=aa (show (lines (Bytes.B s))[k]? = Z (Bytes.B x) by grind [Hid]);have a7:=aa (show (lines (Bytes.B s)).take (k+1)=(lines (Bytes.B s)).take k++[Bytes.B x] by rw[List.take_add_one,HX.out];rfl);have a8:x.size<=s.size:=u.out x (List.mem_of_getElem? l);clear l;by_cases c:Bytes.B x=[]
   .have J:x=⟨#[]⟩:=Bytes.bo c;subst J;have HN:=aa (show ((lines (Bytes.B s)).take (k+1)).foldl (fX b) (cE m f E)=((lines (Bytes.B s)).take k).foldl (fX b) (cE m f E) by grind [Hid,Fs]);go_wp2_with fail;go_roundw
    case rel=>grind [Hid]
    case measure=>simp only[intOf];omega
   have a9:(x.toList==[])=false:=Vals.bH c;change Hid _ at c;obtain⟨a5,a0,E',k1,S,K,M⟩:=W.out;have g:=rp hL.b0 ((lines (Bytes.B s)).take k) n _ T;have A:((lines (Bytes.B s)).take k).length=k:=by grind [Hid]
   rw[A,<-S]at g;have F:=Jv p b (n+k) a5 a0 E' x wr k1 g (by omega) hL (by omega) c;have HK:=aa (Vg S (Vg K M));clear g k1 S K M A;go_wp2_with fail;refine F.mono ?_;clear F;rintro e w3 ⟨rfl,v⟩;change Hid _ at v;clear g0;go_wp2_with fail;go_roundw
   case rel=>
    refine⟨k+1,by go_num,by omega,?_⟩;obtain⟨S,K,M⟩:=HK.out;obtain⟨a6,a1,E2,m1,m2,m3,m4⟩:=v.out;refine⟨a6,a1,E2,m1,by grind [Hid],rU K m3 M,λy hy=>?_⟩;rcases m4 y hy with h|h
    .exact M y h
    have:=K.size;exact Xd (by omega)
   case measure=>simp only[intOf];omega
  have a4:¬(k:Int)<(a.length:Int):=by omega
  have a2:k=a.length:=by omega
  subst a2;have HE:=aa (show (lines (Bytes.B s)).take a.length=lines (Bytes.B s) by rw[<-r.out,List.take_length]);go_wp2_with fail;go_end0;have hg:=W.out;rw[HE.out]at hg;have z:=rp hL.b0 (lines (Bytes.B s)) n _ T;rw[r.out,d.out]at z;exact⟨rfl,hg.ahead HB,z⟩
def bP (c:Fin 6->Int):cZ:=⟨(c 1).toNat,(c 2).toNat,(c 3).toNat⟩
structure oz (c:Fin 6->Int):Prop where
 w:1<=c 0/\c 0<=1000
 s:1<=c 1/\c 1<=32
 t:1<=c 2/\c 2<=16
 b:2<=c 3/\c 3<=64
 n:1<=c 4/\c 4<=16
 g:64<=c 5/\c 5<=4096
theorem oz.lim {c:Fin 6->Int}(h:oz c):PJ (bP c):=by
 have a:=h.s;have d:=h.t;have e:=h.b;exact⟨by simp only[bP];omega,by simp only[bP];omega,by simp only[bP];omega,by simp only[bP];omega⟩
theorem aR {t:TypeId}{b c d f g i:C}(h:af a e t #[b,c,d,f,g,i]):
  a.cell? ⟨e,0,Y⟩=Z b/\a.cell? ⟨e,1,Y⟩=Z c/\a.cell? ⟨e,2,Y⟩=Z d/\a.cell? ⟨e,3,Y⟩=Z f/\a.cell? ⟨e,4,Y⟩=Z g/\a.cell? ⟨e,5,Y⟩=Z i:=
 ⟨h.Ri 0,h.Ri 1,h.Ri 2,h.Ri 3,h.Ri 4,h.Ri 5⟩
theorem Lu {d:Fin 6->Int}(i:oz d)(g:Below a.heap.size a c)(k:fo c e f h [])(p:∀x∈qD e f h,a.heap.size<=x)(j:(qD e f h).Nodup):
  dP (c.alloc (.cells #[I O (d 0),I O (d 1),I O (d 2),I O (d 3),I O (d 4),I O (d 5),ca (Z ⟨e,0,Y⟩),I O 0,I O 0] 147)) ⟨c.heap.size,e,f,h,d⟩ (bP d) 0 0 []/\
  (∀x∈bj ⟨c.heap.size,e,f,h,d⟩ [],a.heap.size<=x)/\Below a.heap.size a (c.alloc (.cells #[I O (d 0),I O (d 1),I O (d 2),I O (d 3),I O (d 4),I O (d 5),ca (Z ⟨e,0,Y⟩),I O 0,I O 0] 147)):=by
 have m:=i.s;have n:=i.t;have o:=i.b;have hz:=g.size;refine⟨⟨af.new _ _ _,k.keep (ai _),by simp,?_,by simp only[bP];omega,by simp only[bP];omega,by simp only[bP];omega⟩,λx l=>?_,g.alloc g.size _⟩
 .simp only[bj,iq,List.flatMap_nil,List.append_nil,Vf];refine⟨λl=>?_,j⟩;have:=k.lt _ l;omega
 grind [bj,iq]
theorem Je {c:List (Bs×Nat)}(b:fo a e f h c):(qD e f h).Nodup:=by
 simp only[qD,Vf,vd,not_or];refine⟨⟨cH b.head b.row (by decide),λg=>?_⟩,λg=>?_,b.nodup⟩
 .obtain⟨i,d⟩:=Vb g;exact dp (b.maps i e d) b.head rfl
 obtain⟨i,d⟩:=Vb g;exact dp (b.maps i f d) b.row rfl
set_option maxRecDepth 10000 in
theorem Qw (c:Fin 6->Int)(u:oz c)(w:Xa):
  Za Wa 78 #[cfg c] w λe D=>∃p:WI,e=Ua (ca (Z ⟨p.P,0,Y⟩))/\p.c=c/\dP D p (bP c) 0 0 []/\(∀x∈bj p [],w.heap.size<=x)/\Below w.heap.size w D:=by
 have j:=af.new w 52 #[I O (c 0),I O (c 1),I O (c 2),I O (c 3),I O (c 4),I O (c 5)];have A:=ai (w:=w) (.cells #[I O (c 0),I O (c 1),I O (c 2),I O (c 3),I O (c 4),I O (c 5)] 52);have H:=u.n;obtain⟨n,h⟩:∃n:Nat,c 4=(n:Int):=⟨(c 4).toNat,by omega⟩;have o:=aa h;have v:1<=n:=by omega
 have y:n<=16:=by omega
 have E:=aa u;unfold cfg;go_in;clear h H u;go_wp2_with fail;generalize w.alloc (.cells #[I O (c 0),I O (c 1),I O (c 2),I O (c 3),I O (c 4),I O (c 5)] 52)=a at *;obtain⟨B,d⟩:∃B,w.heap.size=B:=⟨_,rfl⟩;have l:=aa A;rw[d]at j;rw[d];have z:=aa j;obtain⟨K,c1,c2,c3,M,R⟩:=aR j;have b:=Sh.Ss n v y a.drew;rw[<-o.out]at b;have r:=aa b;clear A j d b;go_region_with (go_at_call 115;refine r.mono ?_;rintro e k ⟨F,rfl,G,hsh,i,f⟩;have s:=z.below (show Below a.heap.size a k from((Vd a.heap.size a).drew).trans f) z.lt;obtain⟨S,T,U,V,W,X⟩:=aR s)
 all_goals
  have g:=aa hsh;have q:=aa i;have m:=aa f;clear hsh i f;go_wp2_with fail;go_ret;have t:Below w.heap.size w k:=l.trans ((show Below a.heap.size a k from((Vd a.heap.size a).drew).trans m).mono l.size);refine⟨⟨k.heap.size,a.heap.size+1,a.heap.size,F,c⟩,rfl,rfl,Lu E t g (λx J=>?_) (Je g)⟩;have h1:=q.out x J;have h2:=l.size;have h3:a.drew.heap.size=a.heap.size:=rfl;omega
end Wi
namespace Kr
open Go.RowKit Go.Maps Mem Foot Im Wm Hk Hb Hi Hn Plainw Cq Hs Sh Readw Wi Go.Sort Go.Shelf
theorem Pa (m:Nat):AnyZ.SortsIn Wa Tryz.pU Ye m:=
 ⟨λblk d a f W e b c=>ef.2 (AnyM.slices_Sort_string Tryz.Nx blk d a f W e b c),
  λp a W=>ef.2 (AnyM.slices_Sort_string_none Tryz.Nx p a W)⟩
variable {a b c:Nat}{d e f:List (Bs × Nat)}{g h:Bs × Nat}{i:C}{j:Xa}
theorem Aj {α:Type}(f:α->C)(l:List (Bs×α)):strKeys (mp jl f l)=l.map (·.1):=by
 unfold mp;simp[strKeys,jl,strOf,Xg]
theorem vH {α:Type}{l:List (Bs×α)}(h:Up cA l){c:List Bs}(f:c.Perm (l.map (·.1))):c.mergeSort (λx y=>decide (x<=y))=l.map (·.1):=by
 exact List.Perm.eq_of_pairwise (le:=λa b:Bs=>a<=b) (λa b _ _ d e=>List.le_antisymm d e) (by grind [List.pairwise_mergeSort]) (by rw[List.pairwise_map];exact h.imp λ{a b} h=>by grind [cA]) ((List.mergeSort_perm _ _).trans f)
theorem Qp (a:Option Nat)(W:Xa):Za Wa 156 #[.map a] W λe b=>e=Ua (.func (.func 206) #[] #[ca (Z ⟨W.heap.size,0,Y⟩)])/\b=W.alloc (.cells #[.map a] 189):=
 (ef (n:=5)).1 (AnyZ.keys_in Tryz.Nk Ye 5 trivial rfl a W)
theorem Me (w:Xa)(b:Nat)(l:List (Bs×Nat))(h:fL Wa 9 RG jl pv w b l)(p:Up cA l)(A:l.length<=1000):
  Za Wa 155 #[.func (.func 206) #[] #[ca (Z ⟨w.heap.size,0,Y⟩)]] (w.alloc (.cells #[.map (Z b)] 189)) λe q=>∃v:C,e=Ua v/\q.ownsRow w.heap.size 9 1 v l.length (l.map λc=>Va ⟨c.1.toArray⟩)/\Below w.heap.size w q:=by
 have f:w.ownsMap Wa 9 (kg RG) b l.length (mp jl pv l):=h;have o:=f.lt;have i:Maps.size (mp jl pv l)<=maxLen:=by rw[gK];unfold maxLen;omega
 have d:Maps.size (mp jl pv l)*16<=140737488355328:=by rw[gK];omega
 have j:SeqGives Ye 2 Wa 206 #[ca (Z ⟨w.heap.size,0,Y⟩)] encStr (λt=>t.Perm (strKeys (mp jl pv l))) (Maps.size (mp jl pv l)) (w.alloc (.cells #[.map (Z b)] 189)):=
  AnyZ.keys_gives (ρ:=Tryz.tX) {Tryz.Nk with} Ye _ trivial rfl (by omega) w.heap.size b l.length (mp jl pv l) _ (by simp) (by simp) (by
   obtain⟨x,g,m,u,z,y⟩:=f;exact⟨x,g,(Below.heap_alloc _ _ b o).trans m,u,z,y⟩)
 have r:=AnyZ.sorted_in Tryz.Mg Ye 5 trivial trivial trivial trivial rfl (by omega) (Pa _) (enters_of Tryz.func205 (by kernel_rfl) rfl) 206 #[ca (Z ⟨w.heap.size,0,Y⟩)] trivial (enters_of Tryz.func206 (by kernel_rfl) rfl) _ _ i d _ j;change CallsIn _ _ Wa 155 _ _ _ at r;refine((ef (n:=5)).1 r).mono ?_;rintro e q ⟨v,t,rfl,k,a,s,m⟩;rw[Aj]at k;rw[vH p k,k.length_eq]at a;simp only[Zd,List.map_map]at a;exact⟨v,rfl,ownsRow_base_a a (by simp),((Vd _ w).alloc (Wf _) _).trans (m.mono (by simp))⟩
def jG (w:Xa)(v:C)(ks:List Bs):Prop:=
 ∃a b,v=Q a ks.length b/\ks.length<=b/\(ks≠[]->∃g c d,a=Z ⟨g,c,Y⟩/\af w g 9 d/\∀(j:Nat) x,ks[j]? = Z x->d[c+j]? = Z (Va ⟨x.toArray⟩))
def Calm (o:Obj):Bool:=
 match o with
 | .cells _ t _=>t != 5&&t != 142
 | .map _ _=>true
 | _=>false
def Kp (W a:Xa):Prop:=W.heap.size<=a.heap.size/\∀(k:Nat) (o:Obj),W.heap[k]? = Z o->Calm o=true->a.heap[k]? = Z o
theorem Kp.trans {A B a:Xa}(h:Kp A B)(k:Kp B a):Kp A a:=⟨Ze h.1 k.1,λi o c b=>k.2 i o (h.2 i o c b) b⟩
theorem Kp.ag {A B:Xa}(h:Below A.heap.size A B):Kp A B:=⟨h.size,λi _ a _=>(h.block i (Array.getElem?_eq_some_iff.1 a).1).trans a⟩
theorem Kp.il {A B:Xa}(h:Kp A B)  {t:TypeId}{b:Array C}(c:af A a t b)(d:(t != 5&&t != 142)=true):af B a t b:=h.2 a _ c d
theorem jG.kp {A B:Xa}  {ks:List Bs}(h:jG A i ks)(k:Kp A B):jG B i ks:=by
 obtain⟨a,b,e,m,h⟩:=h;refine⟨a,b,e,m,λn=>?_⟩;obtain⟨g,c,d,f,j,l⟩:=h n;exact⟨g,c,d,f,k.il j (by decide),l⟩
theorem jG.set {u:C}{ks:List Bs}  {cs:Array C}(h:jG j i ks)(o:af j a 32 cs):jG (j.setCell ⟨a,b,Y⟩ u) i ks:=by
 obtain⟨l,c,e,p,h⟩:=h;refine⟨l,c,e,p,λq=>?_⟩;obtain⟨g,f,cs,m,k,n⟩:=h q;have d:g≠a:=cH k o (by decide);exact⟨g,f,cs,m,(Wc _ _ _ _ d).trans k,n⟩
theorem jG.OG {ks:List Bs}(h:j.ownsRow a 9 1 i ks.length (ks.map λc=>Va ⟨c.toArray⟩)):jG j i ks:=by
 rcases h.2 with ⟨e,k⟩|⟨g,b,d,rfl,p,l,f,_,_,q⟩
 .exact⟨Y,0,by rw[e,k],by omega,λf=>absurd (List.eq_nil_of_length_eq_zero k) f⟩
 refine⟨_,b,rfl,f,λ_=>⟨g,0,d,rfl,l,λn x m=>?_⟩⟩;have o:(ks.map λc=>Ug ⟨c.toArray⟩)[n]? = Z (Va ⟨x.toArray⟩):=by simp[m]
 grind
theorem jG.tail {f:Option Addr}  {x:Bs}{ks:List Bs}(h:jG j (Q (Z ⟨a,b,Y⟩) (ks.length+1) c) (x ::ks))(q:ks≠[]->f=Z ⟨a,b+1,Y⟩):jG j (Q f ks.length (c - 1)) ks:=by
 obtain⟨u,g,e,z,h⟩:=h;injection e with l v m;subst m;refine⟨f,c - 1,rfl,by omega,λr=>?_⟩;obtain⟨w,i,k,d,n,o⟩:=h (by simp);rw[<-l]at d;injection d with d;injection d with d p;subst d;subst p;refine⟨a,b+1,k,q r,n,λt y s=>?_⟩;have:=o (t+1) y (by simpa using s);grind
def nt (w:Xa)(R n:Nat)(r:List (Bs×Nat)):Prop:=
 ∃a:Array C,af w R 32 a/\a.size=n/\∀i,i<n->∃v,a[i]? = Z v/\jG w v ((Sh.part n i r).map (·.1))
theorem nt.kp {A B:Xa}   (h:nt A a b d)(k:Kp A B):nt B a b d:=by
 obtain⟨c,g,j,l⟩:=h;exact⟨c,k.il g (by decide),j,λi m=>by
  obtain⟨v,e,f⟩:=l i m;exact⟨v,e,f.kp k⟩⟩
def leastOf (n:Nat):List (Bs×Nat)->Int
 | [] =>-1
 | x ::_=>idx n x.1
theorem iF (n i:Nat)(x:Bs×Nat)(r:List (Bs×Nat)):Sh.part n i (x ::r)=if idx n x.1=i then x ::Sh.part n i r else Sh.part n i r:=by grind [Sh.part]
def Found (n:Nat)(r:List (Bs×Nat))(k:Nat)(at_:Int):Prop:=
 (at_ = -1/\∀i,i<k->Sh.part n i r=[])\/∃j:Nat,j<k/\at_=(j:Int)/\Sh.part n j r≠[]/\∀x t,r=x ::t->idx n x.1<k->j=idx n x.1
theorem Found.done {b:Int}(h:Found a d a b)(f:0<a):b=leastOf a d:=by
 cases d with
 | nil=>
  rcases h with ⟨h,_⟩|⟨j,_,_,h,_⟩
  .exact h
  exact absurd rfl h
 | cons x t=>
  have c:=rA f x.1;rcases h with ⟨_,h⟩|⟨j,_,e,_,h⟩
  .grind [iF]
  rw[e,h x t rfl c];rfl
theorem Found.skip {c:Int}(h:Found a d b c)(n:Sh.part a b d=[]):Found a d (b+1) c:=by
 rcases h with ⟨e,h⟩|⟨j,k,f,g,l⟩
 .refine Ue ⟨e,λi m=>?_⟩;grind
 refine Xd ⟨j,by omega,f,g,λx t e o=>?_⟩;grind [iF]
theorem Found.first (h:Found a d b (-1))(f:Sh.part a b d≠[]):Found a d (b+1) (b:Int):=by
 rcases h with ⟨_,h⟩|⟨j,g,i,k,l⟩
 .refine Xd ⟨b,by omega,rfl,f,λx t e m=>?_⟩;by_cases c:idx a x.1=b
  .exact c.symm
  have:=h _ (show idx a x.1<b by omega);grind [iF]
 omega
theorem iz (j:Up cA (g ::d))(c:Sh.part a b (g ::d)=h ::e):cA h.1 g.1=false/\(idx a g.1≠b->cA g.1 h.1=true)/\(idx a g.1=b->h=g):=by
 rw[iF]at c;by_cases f:idx a g.1=b
 .grind [dO]
 rw[if_neg f]at c;have k:h∈d:=by grind [Sh.part,eb]
 have i:cA g.1 h.1=true:=(Yc.1 j).1 h k;grind [dE,dO]
theorem Found.less (r:Up cA d)(k:Found a d b (c:Int))(p:Sh.part a b d=g ::e)(q:Sh.part a c d=h ::f)(y:cA g.1 h.1=true):Found a d (b+1) (b:Int):=by
 refine Xd ⟨b,by omega,rfl,by rw[p];simp,λx t i z=>?_⟩;rcases k with ⟨l,_⟩|⟨s,l,u,v,m⟩
 .omega
 have o:s=c:=by omega
 subst o;by_cases j:idx a x.1=b
 .exact j.symm
 exfalso;have n:=m x t i (by omega);subst i;have w:=(iz r q).2.2 n.symm;grind [iz]
theorem Found.more (j:Up cA d)(n:Found a d b (c:Int))(s:Sh.part a b d=g ::e)(u:Sh.part a c d=h ::f)(y:cA g.1 h.1=false):Found a d (b+1) (c:Int):=by
 rcases n with ⟨o,_⟩|⟨i,o,v,p,w⟩
 .omega
 have r:i=c:=by omega
 subst r;refine Xd ⟨i,by omega,rfl,p,λx t k z=>?_⟩;by_cases l:idx a x.1=b
 .exfalso;subst k;have q:=(iz j s).2.2 l;subst q;by_cases m:idx a g.1=i
  .omega
  have:=(iz j u).2.1 m;grind
 grind
theorem jG.head {x:Bs}{ks:List Bs}(h:jG j i (x ::ks)):∃g b c,i=Q (Z ⟨g,b,Y⟩) (ks.length+1) c/\ks.length+1<=c/\j.cell? ⟨g,b,Y⟩=Z (Va ⟨x.toArray⟩):=by
 obtain⟨a,c,e,k,h⟩:=h;obtain⟨g,b,l,rfl,d,f⟩:=h (by simp);exact⟨g,b,c,e,k,d.cell b _ (f 0 x rfl)⟩
theorem jG.Su (h:jG j i []):∃a b,i=Q a 0 b:=by
 obtain⟨a,b,e,_,_⟩:=h;exact⟨a,b,e⟩
set_option maxRecDepth 10000 in
theorem oS (R n:Nat)(r:List (Bs×Nat))(w:Xa)(h:nt w R n r)(F:Up cA r)(S:0<n)(hn:n<=16)(hr:r.length<=1000):
  Za Wa 120 #[Q (Z ⟨R,0,Y⟩) n n] w λe w'=>e=Ua (I O (leastOf n r))/\Below w.heap.size w w':=by
 have HR:=aa h;change Hid _ at F;clear h;go_in;go_wp2_with fail;go_loopw [3,8] (λa i wr=>∃(k:Nat) (at_:Int),a=I O at_/\i=I O (k:Int)/\k<=n/\Hid (Found n r k at_)/\Hid (Below w.heap.size w wr)) (λ_ i _=>n - (intOf i).toNat)
 case atStart=>exact⟨0,-1,rfl,rfl,by omega,Ue ⟨rfl,by omega⟩,Vd _ _⟩
 case round=>
  obtain⟨k,a,rfl,rfl,hk,t,s⟩:=hrel;by_cases K:k<n
  .have M:(k:Int)<(n:Int):=by omega
   obtain⟨cs,l,B,d⟩:=HR.kp (Kp.ag s);obtain⟨v,A,c⟩:=d k K;have ck:=l.cell k _ A;cases o:Sh.part n k r with
   | nil=>
    rw[o]at c;obtain⟨a',G,rfl⟩:=c.Su;have x:=aa o;have HS:=aa (Vg l (Vg B d));clear o c l B d A;go_wp2_with fail;go_quiet (fail);go_wp2_with fail;exact⟨⟨k+1,a,rfl,by go_num,by omega,t.skip x,ax s⟩,by simp only[intOf];omega⟩
   | cons y p=>
    rw[o]at c;simp only[Ve]at c;obtain⟨g,b0,G,rfl,D,cg⟩:=c.head;have x:=aa o;rw[Zd]at ck D c A;have a4:p.length<=1000:=by
     have:(Sh.part n k r).length<=r.length:=Xc _ _;grind
    have a6:(0:Int)<(p.length:Int)+1:=by omega
    have a7:0<p.length+1:=by omega
    by_cases H:a = -1
    .subst H;clear o c l B d A;go_wp2_with fail;go_quiet (fail);go_wp2_with fail;exact⟨⟨k+1,k,rfl,by go_num,by omega,t.first (by rw[x.out];simp),ax s⟩,by simp only[intOf];omega⟩
    obtain⟨j,rfl,a2,z,q,E⟩:∃j:Nat,a=(j:Int)/\j<k/\∃z q,Sh.part n j r=z ::q:=by
     rcases t.out with ⟨h,_⟩|⟨j,l,B,d,_⟩
     .exact absurd h H
     obtain⟨z,q,E⟩:=List.exists_cons_of_ne_nil d;grind
    obtain⟨v',f,b⟩:=d j (by omega);have cj:=l.cell j _ f;rw[E]at b;simp only[Ve]at b;obtain⟨g',W,U,rfl,m,a0⟩:=b.head;rw[Zd]at cj m b f;have T:=aa E;have a3:(j:Int)<(n:Int):=by omega
    have a1:¬(j:Int)<0:=by omega
    have a5:q.length<=1000:=by
     have:(Sh.part n j r).length<=r.length:=Xc _ _;grind
    have a8:0<q.length+1:=by omega
    have a9:(0:Int)<(q.length:Int)+1:=by omega
    clear o E c b l B d A f H;have u:=aa (bytesLess_eq y.1 z.1);go_wp2_with fail;go_quiet (fail);all_goals go_wp2_with fail
    .rename_i V;have P:cA y.1 z.1=true:=by
      rw[cA,<-u.out];grind
     exact⟨⟨k+1,k,rfl,by go_num,by omega,t.less F x T P,ax s⟩,by simp only[intOf];omega⟩
    rename_i V;have P:cA y.1 z.1=false:=by rw[cA,<-u.out];exact V.2
    exact⟨⟨k+1,j,rfl,by go_num,by omega,t.more F x T P,ax s⟩,by simp only[intOf];omega⟩
  have M:¬(k:Int)<(n:Int):=by omega
  have J:k=n:=by omega
  subst J;have X:=aa (t.done S);go_wp2_with fail;go_ret;rw[X.out];exact⟨rfl,s⟩
theorem GL:(Wa.info? 32).map (λi=>(i.zero,i.size,i.bytes))=Z (Z (Q Y 0 0),1,24):=by kernel_rfl
def BB (w wr:Xa)(R n k:Nat)(b:List (Bs×Nat)):Prop:=
 ∃a:Array C,af wr R 32 a/\a.size=n/\(∀i,i<k->∃v,a[i]? = Z v/\jG wr v ((Sh.part n i b).map (·.1)))/\Below w.heap.size w wr
set_option maxRecDepth 10000 in
theorem AW (M R:Nat)(c:List Nat)(d:List (Bs×Nat))(w:Xa)(h:fo w M R c d)(P:Up cA d)(hl:d.length<=1000):
  Za Wa 119 #[ca (Z ⟨M,0,Y⟩)] w λe T=>e=Ua (Q (Z ⟨w.heap.size,0,Y⟩) c.length c.length)/\nt T w.heap.size c.length d/\Below w.heap.size w T:=by
 have X:=h.head.Ri 0;have hm:=h.most;obtain⟨g,y,F⟩:=made 186 32 _ 24 Tryz.underlying186 GL c.length (by omega) (by omega) w;have z:=aa (show BB w (w.alloc (.cells g 32)) w.heap.size c.length 0 d from⟨g,af.new _ _ _,y,by omega,ai _⟩);have d0:=(h.head.alloc (.cells g 32)).Ri 0;have V:=aa h;have W:=aa P;clear h P;go_in;go_wp2_with fail;generalize w.alloc (.cells g 32)=w0 at *;clear F X d0;go_loopw [17] (λi wr=>∃k:Nat,i=I O (k:Int)/\k<=c.length/\Hid (BB w wr w.heap.size c.length k d)) (λi _=>c.length - (intOf i).toNat)
 case atStart=>exact⟨0,rfl,by omega,z⟩
 case round=>
  obtain⟨k,rfl,hk,H⟩:=hrel;by_cases o:k<c.length
  .have E:(k:Int)<(c.length:Int):=by omega
   obtain⟨A,K,q,s,B⟩:=H.out;have u:=aa (V.keep B);obtain⟨b,m⟩:∃b,c[k]? = Z b:=⟨_,Zb o⟩;have ck:=u.cell m;change Hid _ at m;have x:=aa K;change Hid _ at s;have G:=aa B;clear K B;have U:=aa (Me wr b _ (u.maps k b m) (W.filter _) (Ze (Xc _ _) hl));go_wp2_with fail;refine(Qp _ _).mono ?_;rintro e w3 ⟨rfl,rfl⟩;go_wp2_with fail;refine U.mono ?_;rintro e w3 ⟨v,rfl,l,n⟩;have f:=aa (x.below n x.lt);have c3:=f.cell k (A[k]'(by omega)) (by simp[q,o]);have f3:=f.frozen k;have t:=aa (jG.OG (ks:=(Sh.part c.length k d).map (·.1)) (by simpa[Xg] using l));obtain⟨J,S,j,rfl⟩:∃J S j,v=Q J S j:=by
    obtain⟨a,a0,e,_⟩:=t.out;exact⟨_,_,_,e⟩
   have r:=aa n;clear l n ck;go_wp2_with fail;go_roundw
   case rel=>
    refine⟨k+1,by go_num,by omega,_,f.set k _,by simp[q],λi hi=>?_,(G.trans (r.mono G.size)).setCell (p:=⟨w.heap.size,k,Y⟩) (Wf _) _⟩;by_cases e:i=k
    .subst e;exact⟨_,by simp[q,o],t.set f⟩
    obtain⟨v,e1,e2⟩:=s.out i (by omega);refine⟨v,?_,(e2.kp (Kp.ag r)).set f⟩;grind
   case measure=>simp only[intOf];omega
  have E:¬(k:Int)<(c.length:Int):=by omega
  have D:k=c.length:=by omega
  subst D;go_wp2_with fail;go_ret;obtain⟨A,h1,h2,h3,h4⟩:=H.out;exact⟨rfl,⟨A,h1,h2,h3⟩,h4⟩
end Kr
end Go.Proofs.YtpndiccohnafbaaGreatDoor
