/- What the records tell: a window enters a segment. -/
import Derived.Test.YtpndiccohnafbaaGreatDoorOay
import Derived.Test.YtpndiccohnafbaaGreatDoorJcy
import Derived.Test.YtpndiccohnafbaaGreatDoorJk
set_option maxHeartbeats 9000000
open Option renaming some->Z,none->Y
open Go.IntKind renaming i64->O
open Go.Value renaming pointer->ca,int->I,slice->Q,string->L,ownBlock->qb,slice->Ub,int->Yb,string->Wc
open Go.Ending renaming returned->Ua
open List renaming mem_singleton->Va,mem_append_right->Wa,mem_cons_of_mem->Xa,mem_append_left->Ya,mem_flatMap->Za,mem_append->eb,mem_cons->Vb,mem_cons_self->Xb,flatMap_append->Xc,length_append->Yc,map_append->ad
open Or renaming inl->Wb,inr->Zc
open Go.Proofs.Tryz renaming prog->Zb
open Go renaming World->N,Value->C
open Nat renaming le_trans->Uc
open Go.World renaming ownsRow_nil->Vc
namespace Go.Proofs.YtpndiccohnafbaaGreatDoor.Jr
open Go.RowKit Go.Maps Mem Foot Bytes Im Wm Hi Plainw Cq
variable {a b:N}{c:Nat}{e:C}
theorem yq {c:C}{o:Obj}(h:Apn.Same (a.alloc o) e c):∀k∈c.ownBlock.toList,k∈e.ownBlock.toList\/a.heap.size<=k:=λk b=>by
 rcases h with h|⟨g,d,f⟩
 .exact Wb (h▸b)
 rw[d]at b;simp at b f;exact Zc (by omega)
def hent (a:Int)(l:List Int):List Int:=if l.getLast? = Z a then l else l++[a]
set_option maxRecDepth 10000 in
theorem zM (c:Nat)(G H J F K M P:C)(l:List Int)(a:Int)(w:N)(E:af w c 135 #[G,H,J,F,K,M,P])(D:w.ownsRow 0 3 1 F l.length (l.map (Yb O)))(hl:l.length<=1000000000):
  Calls Zb 150 #[ca (Z ⟨c,1,Y⟩),I O a] w λe w'=>e=Ua (.tuple #[])/\∃f,af w' c 135 #[G,H,J,f,K,M,P]/\w'.ownsRow 0 3 1 f (hent a l).length ((hent a l).map (Yb O))/\(∀k∈f.ownBlock.toList,k∈F.ownBlock.toList\/w.heap.size<=k)/\an (c ::F.ownBlock.toList) w w':=by
 obtain⟨j,h,rfl⟩:=ak D;have U:=aa E;have B:=aa D;have c3:w.cell? ⟨c,3,Y⟩=Z (Q j l.length h):=E.Ri 3;have f3:=E.frozen 3;obtain⟨i0,hi,v,y,z⟩:=info_parts BY;have n:=aa (show c∉(Ub j l.length h).ownBlock.toList from λe=>by
  obtain⟨cs,h1⟩:=au D e;grind [aA])
 have R:=aa (show ∀(u:C) (W:N),hent a l=l++[a]->af W c 135 #[G,H,J,Q j l.length h,K,M,P]->W.ownsRow 0 3 1 u (l.length+1) (l.map (Yb O)++[I O a])->(∀k∈u.ownBlock.toList,k∈(Ub j l.length h).ownBlock.toList\/w.heap.size<=k)->an (Ub j l.length h).ownBlock.toList w W->∃f,af (W.setCell ⟨c,3,Y⟩ u) c 135 #[G,H,J,f,K,M,P]/\(W.setCell ⟨c,3,Y⟩ u).ownsRow 0 3 1 f (hent a l).length ((hent a l).map (Yb O))/\(∀k∈f.ownBlock.toList,k∈(Ub j l.length h).ownBlock.toList\/w.heap.size<=k)/\an (c ::(Ub j l.length h).ownBlock.toList) w (W.setCell ⟨c,3,Y⟩ u) from λu W he h1 h2 h3 h4=>by
  have t:an [c] W (W.setCell ⟨c,3,Y⟩ u):=(an.refl _ _).set (Va.2 rfl) _ _;refine⟨u,h1.set 3 u,?_,h3,(h4.mono λk _ r=>Xa _ r).trans (t.mono λk _ r=>Va.1 r▸Xb ..)⟩;rw[he,Yc,ad];refine aq h2 t λk r e=>?_
  obtain⟨cs,h5⟩:=au h2 r;grind [aA])
 clear E D;rcases List.eq_nil_or_concat l with rfl|⟨m,x,s⟩
 .have HE:Hid (hent a []=[]++[a]):=rfl;go_in;go_wp2_with (at_builtin;refine Apn.gD _ rfl _ _ 35 rfl 3 i0 (I O 0) 1 8 Tryz.underlying35 hi v y z rfl (by decide) (Q j ([]:List Int).length h) _ (([]:List Int).map (Yb O)) rfl (B.alloc _) _ 1 1 [I O a] rfl (kJ w _ _ _ rfl rfl) (by unfold maxLen;omega) (by omega) ?_;intro u2 w2 p q A n2;obtain⟨a5,a6,rfl⟩:=Own.shape p;have d:=ku q;have b:=Foot.af.off U d n;have d3:w2.cell? ⟨c,3,Y⟩=Z (Q j ([]:List Int).length h):=b.Ri 3;have g3:=b.frozen 3;have V:=aa b;have T:=aa d;have X:=aa p;have S:=aa A;clear b d p q A n2)
  go_end0;grind [Hid,yq]
 rw[List.concat_eq_append]at s;subst s;have hlen:(m++[x]).length=m.length+1:=by simp
 obtain⟨g,a7,hv,a1,_,a0⟩:=eO B (i:=m.length) (x:=x) List.getElem?_concat_length;injection hv with a2 a3 a4;subst a2;subst a4;rw[hlen]at c3 a1 U B n R;clear a3;have a8:m.length<=1000000000:=by omega
 have a9:IntKind.i64.wrap (m.length:Int)=(m.length:Int):=IntWalk.i64_in _ (by omega);have o:(m++[x]).getLast? = Z x:=by simp
 by_cases hx:x=a
 .subst hx;have HE:=aa (show hent x (m++[x])=m++[x] by unfold hent;rw[if_pos o]);clear o;go_in;go_wp2_with fail;go_end0;grind [Hid,an.refl]
 have b0:(x != a)=true:=by simpa using hx
 have HE:=aa (show hent a (m++[x])=m++[x]++[a] by grind [hent]);clear o;go_in;go_wp2_with (at_builtin;refine Apn.gD _ rfl _ _ 35 rfl 3 i0 (I O 0) 1 8 Tryz.underlying35 hi v y z rfl (by decide) (Q (Z ⟨g,0,Y⟩) (m.length+1) h) _ ((m++[x]).map (Yb O)) rfl (B.alloc _) _ 1 1 [I O a] rfl (kJ w _ _ _ rfl rfl) (by unfold maxLen;omega) (by omega) ?_;intro u2 w2 p q A n2;obtain⟨a5,a6,rfl⟩:=Own.shape p;have d:=ku q;have b:=Foot.af.off U d n;have d3:w2.cell? ⟨c,3,Y⟩=Z (Q (Z ⟨g,0,Y⟩) (m.length+1) h):=b.Ri 3;have g3:=b.frozen 3;have V:=aa b;have T:=aa d;have X:=aa p;have S:=aa A;clear b d p q A n2)
 go_end0;grind [Hid,yq]
set_option maxRecDepth 10000 in
theorem EZ (a:Nat)(y K sg:C)(i g t u f b:Int)(z:ByteArray)(w:N)(x:af w a 135 #[y,I O i,K,sg,I O g,I O t,I O u]):
  Calls Zb 112 #[ca (Z ⟨a,0,Y⟩),I O f,.agg #[L ⟨#[98]⟩,I O b,L z]] w λe J=>e=Ua (.tuple #[])/\∃c,af J a 135 #[y,I O 0,Q Y 0 0,c,I O b,I O t,I O u]/\J.ownsRow 0 3 1 c 1 [I O f]/\(∀k∈c.ownBlock.toList,w.heap.size<=k)/\an [a] w J:=by
 have s:=af.new w 158 #[L ⟨#[98]⟩,I O b,L z];have m:=ai (w:=w) (.cells #[L ⟨#[98]⟩,I O b,L z] 158);have d:=aa (Mem.af.below x m x.lt);have D:=aa s;have p:=aa m;have T:=aa x.lt;clear x s m;go_in;go_upto_region 1 with fail;generalize w.alloc (.cells #[L ⟨#[98]⟩,I O b,L z] 158)=o at *;generalize A:w.heap.size=F at D ⊢;change Hid _ at A;have R:o.cell? ⟨F,0,Y⟩=Z (L ⟨#[98]⟩):=D.Ri 0;have c1:o.cell? ⟨a,1,Y⟩=Z (I O i):=d.Ri 1;have c2:o.cell? ⟨a,2,Y⟩=Z K:=d.Ri 2;have c3:o.cell? ⟨a,3,Y⟩=Z sg:=d.Ri 3;have U:=d.frozen 1;have V:=d.frozen 2;have W:=d.frozen 3;have B:=aa (((d.set 1 (I O 0)).set 2 (Q Y 0 0)).set 3 (Q Y 0 0));have l:Hid (an [a] o (((o.setCell ⟨a,1,Y⟩ (I O 0)).setCell ⟨a,2,Y⟩ (Q Y 0 0)).setCell ⟨a,3,Y⟩ (Q Y 0 0))):=(((an.refl _ _).set (Va.2 rfl) _ _).set (Va.2 rfl) _ _).set (Va.2 rfl) _ _;have E:=aa (Foot.af.off D l (λe=>by grind [Hid]));go_wp2_with fail;clear R c1 c2 c3 U V W;generalize ((o.setCell ⟨a,1,Y⟩ (I O 0)).setCell ⟨a,2,Y⟩ (Q Y 0 0)).setCell ⟨a,3,Y⟩ (Q Y 0 0)=P at *;refine(zM a y (I O 0) (Q Y 0 0) (Q Y 0 0) (I O g) (I O t) (I O u) [] f P B (Vc _ _ _ _) (by simp)).mono ?_;rintro e j ⟨rfl,c,v,G,M,H⟩;have hz:w.heap.size<=P.heap.size:=Uc p.size l.size;have q:=aa (Foot.af.off E H (λe=>by grind [Hid,qb]));have R:j.cell? ⟨F,0,Y⟩=Z (L ⟨#[98]⟩):=q.Ri 0;have x1:j.cell? ⟨F,1,Y⟩=Z (I O b):=q.Ri 1;have X:j.cell? ⟨a,4,Y⟩=Z (I O g):=v.Ri 4;have f4:=v.frozen 4;have n:an [a] j (j.setCell ⟨a,4,Y⟩ (I O b)):=(an.refl _ _).set (Va.2 rfl) _ _;have S:=aa (show ∃c,af (j.setCell ⟨a,4,Y⟩ (I O b)) a 135 #[y,I O 0,Q Y 0 0,c,I O b,I O t,I O u]/\(j.setCell ⟨a,4,Y⟩ (I O b)).ownsRow 0 3 1 c 1 [I O f]/\(∀k∈c.ownBlock.toList,w.heap.size<=k)/\an [a] w (j.setCell ⟨a,4,Y⟩ (I O b)) from by
  refine⟨c,v.set 4 _,aq G n (λk r e=>?_),λk r=>?_,?_⟩
  .obtain⟨cs,h5⟩:=au G r;grind [aA]
  .rcases M k r with h|h
   .simp[qb]at h
   omega
  exact(((an.ag p).trans l).trans (H.mono λk _ r=>by simpa[qb] using r)).trans n)
 clear v G M H n;go_wp2_with fail;go_end0;exact⟨rfl,S⟩
structure Rc where
 k:UInt8
 n:Int
 t:ByteArray
def Rc.tx (r:Rc):Bs:=bC [r.k] r.n (B r.t)
structure Rc.Ok (r:Rc):Prop where
 k:r.k=100\/r.k=115\/r.k=98
 n0:0<=r.n
 n1:r.n<=1000000000
 t:r.t.size<=1000000
def Rc.val (r:Rc):Value:=.agg #[L ⟨#[r.k]⟩,I O r.n,L r.t]
def stx (a:List Rc):Bs:=a.flatMap Rc.tx
abbrev Et:=(Int×Nat)×Rc
def br (num:Int):Nat->List Rc->List Et
 | _,[]=>[]
 | z,r ::l=>((num,z+r.tx.length),r) ::br num (z+r.tx.length) l
def aG (l:List (Int×List Rc)):List Et:=l.flatMap λp=>br p.1 0 p.2
structure Hs where
 ae:List (Int×List ByteArray×List Int)
 onum:Int
 ar:List ByteArray
 az:List Int
 g:Int
 es:Int
 ez:Int
def hs0:Hs:=⟨[],0,[],[],-1,-1,0⟩
def htk (h:Hs)(a:Int)(r:Rc):Hs:=
 if r.k=98 then {h with onum:=0,ar:=[],az:=[a],g:=r.n}
 else if r.k=115 then {h with ae:=h.ae++[(h.onum,h.ar,hent a h.az)],onum:=0,ar:=[],az:=[],g:=r.n}
 else {h with onum:=r.n,ar:=h.ar++[r.t],az:=hent a h.az}
def hnext (h:Hs)(x:Et):Hs:={htk h x.1.1 x.2 with es:=x.1.1,ez:=(x.1.2:Int)}
def hfit (h:Hs)(r:Rc):Bool:=dI ⟨#[r.k]⟩ r.n (decide (0<h.ar.length)) h.onum h.g
def fK:Hs->List Et->Prop
 | _,[]=>True
 | h,x ::l=>hfit h x.2=true/\fK (hnext h x) l
def av (h:Hs)(l:List Et):Hs:=l.foldl hnext h
theorem gG (h:Hs)(a b:List Et):fK h (a++b)↔fK h a/\fK (av h a) b:=by
 induction a generalizing h with
 | nil=>simp[fK,av]
 | cons x a c=>
  show (_/\fK _ (a++b))↔(_/\_)/\_;rw[c];exact and_assoc.symm
theorem aK (h:Hs)(a b:List Et):av h (a++b)=av (av h a) b:=List.foldl_append
structure Wn where
 num:Int
 dv:C
 ds:List ByteArray
 sg:C
 ss:List Int
def Wn.cells (x:Wn):List Value:=[I O x.num,x.dv,x.sg]
def Wn.blocks (x:Wn):List Nat:=x.dv.ownBlock.toList++x.sg.ownBlock.toList
def Wn.is (x:Wn):Int×List ByteArray×List Int:=(x.num,x.ds,x.ss)
structure Wn.At (w:N)(x:Wn):Prop where
 d:w.ownsRow 0 9 1 x.dv x.ds.length (x.ds.map Wc)
 s:w.ownsRow 0 3 1 x.sg x.ss.length (x.ss.map (Yb O))
theorem Wn.At.off {F:List Nat}{w e:N}{x:Wn}(h:Wn.At w x)(c:an F w e)(b:∀k∈x.blocks,k∉F):Wn.At e x:=
 ⟨aq h.d c λk a=>b k (Ya _ a),aq h.s c λk a=>b k (Wa _ a)⟩
theorem Wn.At.lt {x:Wn}(h:Wn.At a x):∀k∈x.blocks,k<a.heap.size:=λk b=>by
 rcases eb.1 b with b|b
 .obtain⟨e,c⟩:=au h.d b;exact c.lt
 obtain⟨e,c⟩:=au h.s b;exact c.lt
def gN (a:List Wn):List Nat:=a.flatMap Wn.blocks
structure Hp where
 hb:Nat
 sv:C
 ws:List Wn
 dv:C
 sg:C
def Hp.blocks (p:Hp):List Nat:=p.hb ::(p.sv.ownBlock.toList++(p.dv.ownBlock.toList++(p.sg.ownBlock.toList++gN p.ws)))
structure HA (w:N)(H:Hs)(p:Hp):Prop where
 head:af w p.hb 135 #[p.sv,I O H.onum,p.dv,p.sg,I O H.g,I O H.es,I O H.ez]
 sv:w.ownsRow 0 93 3 p.sv H.ae.length (p.ws.flatMap Wn.cells)
 is:p.ws.map Wn.is=H.ae
 ws:∀x∈p.ws,Wn.At w x
 dv:w.ownsRow 0 9 1 p.dv H.ar.length (H.ar.map Wc)
 sg:w.ownsRow 0 3 1 p.sg H.az.length (H.az.map (Yb O))
 apart:∀k∈p.dv.ownBlock.toList++p.sg.ownBlock.toList,k∉gN p.ws
theorem HA.lt {H:Hs}{p:Hp}(h:HA a H p):∀k∈p.blocks,k<a.heap.size:=λk b=>by
 have d:∀{v:C} {e:TypeId} {c n:Nat} {f:List C},a.ownsRow 0 e c v n f->k∈v.ownBlock.toList->k<a.heap.size:=λ{v e c n f} g b=>by
  obtain⟨l,i⟩:=au g b;exact i.lt
 rcases Vb.1 b with e|b
 .rw[e];exact h.head.lt
 rcases eb.1 b with b|b
 .exact d h.sv b
 rcases eb.1 b with b|b
 .exact d h.dv b
 rcases eb.1 b with b|b
 .exact d h.sg b
 obtain⟨x,j,b⟩:=Za.1 b;exact(h.ws x j).lt k b
theorem HA.off {F:List Nat}{w e:N}{H:Hs}{p:Hp}(h:HA w H p)(c:an F w e)(b:∀k∈p.blocks,k∉F):HA e H p:=by
 have f:∀k∈p.sv.ownBlock.toList,k∈p.blocks:=λk a=>Xa _ (Ya _ a)
 have g:∀k∈p.dv.ownBlock.toList,k∈p.blocks:=λk a=>Xa _ (Wa _ (Ya _ a))
 have i:∀k∈p.sg.ownBlock.toList,k∈p.blocks:=λk a=>Xa _ (Wa _ (Wa _ (Ya _ a)))
 have j:∀k∈gN p.ws,k∈p.blocks:=λk a=>Xa _ (Wa _ (Wa _ (Wa _ a)))
 exact⟨Foot.af.off h.head c (b _ (Xb ..)),aq h.sv c λk a=>b k (f k a),h.is,λx d=>(h.ws x d).off c λk a=>b k (j k (Za.2 ⟨x,d,a⟩)),aq h.dv c λk a=>b k (g k a),aq h.sg c λk a=>b k (i k a),h.apart⟩
theorem HA.keep {H:Hs}{p:Hp}(h:HA a H p)(c:Below a.heap.size a b):HA b H p:=
 h.off (F:=[]) (an.ag c) λ_ _=>by simp
structure Hq (w w':N)(H:Hs)(F:List Nat)(hb:Nat):Prop where
 ex:∃p',HA w' H p'/\p'.hb=hb/\∀b∈p'.blocks,b∈F\/w.heap.size<=b
 off:an F w w'
theorem ee (num:Int)(z:Nat)(a b:List Rc):br num z (a++b)=br num z a++br num (z+(stx a).length) b:=by
 induction a generalizing z with
 | nil=>simp[br,stx]
 | cons r a c=>grind [br,stx]
theorem mT (a b:List Rc):stx (a++b)=stx a++stx b:=Xc
theorem lA (a b:List (Int×List Rc)):aG (a++b)=aG a++aG b:=Xc
theorem Db {g:List Wn}(h:∀x∈g,Wn.At a x)  (b:c∈gN g):(∃e,af a c 9 e)\/∃e,af a c 3 e:=by
 obtain⟨x,f,b⟩:=Za.1 b;rcases eb.1 b with b|b
 .exact Wb (au (h x f).d b)
 exact Zc (au (h x f).s b)
theorem HA.Fm {H:Hs}{p:Hp}(h:HA a H p)  (i:c∈gN p.ws):c≠p.hb/\c∉p.sv.ownBlock.toList:=by
 rcases Db h.ws i with ⟨g,e⟩|⟨g,e⟩
 .refine⟨aA e h.head (by decide),λd=>?_⟩;obtain⟨b,f⟩:=au h.sv d;grind [aA]
 refine⟨aA e h.head (by decide),λd=>?_⟩;obtain⟨b,f⟩:=au h.sv d;grind [aA]
theorem HA.zJ {H:Hs}{p:Hp}(h:HA a H p)  (f:c∈p.dv.ownBlock.toList):c≠p.hb/\c∉p.sv.ownBlock.toList/\c∉p.sg.ownBlock.toList:=by
 obtain⟨i,g⟩:=au h.dv f;refine⟨aA g h.head (by decide),λd=>?_,λd=>?_⟩
 .obtain⟨b,e⟩:=au h.sv d;grind [aA]
 obtain⟨b,e⟩:=au h.sg d;grind [aA]
theorem HA.EH {H:Hs}{p:Hp}(h:HA a H p)  (f:c∈p.sg.ownBlock.toList):c≠p.hb/\c∉p.sv.ownBlock.toList/\c∉p.dv.ownBlock.toList:=by
 obtain⟨i,g⟩:=au h.sg f;refine⟨aA g h.head (by decide),λd=>?_,λd=>?_⟩
 .obtain⟨b,e⟩:=au h.sv d;grind [aA]
 obtain⟨b,e⟩:=au h.dv d;grind [aA]
theorem HA.JO {H:Hs}{p:Hp}(h:HA a H p)  (b:c∈p.sv.ownBlock.toList):c≠p.hb:=by
 obtain⟨e,d⟩:=au h.sv b;exact aA d h.head (by decide)
theorem HA.num {H:Hs}{p:Hp}(h:HA a H p)(d:an [p.hb] a b){o g es ez:Int}(i:af b p.hb 135 #[p.sv,I O o,p.dv,p.sg,I O g,I O es,I O ez]):HA b {H with onum:=o,g:=g,es:=es,ez:=ez} p:=
 ⟨i,aq h.sv d λ_ c e=>h.JO c (Va.1 e),h.is,λx f=>(h.ws x f).off d λ_ c e=>(h.Fm (Za.2 ⟨x,f,c⟩)).1 (Va.1 e),aq h.dv d λ_ c e=>(h.zJ c).1 (Va.1 e),aq h.sg d λ_ c e=>(h.EH c).1 (Va.1 e),h.apart⟩
theorem HA.ah {H:Hs}{p:Hp}(h:HA a H p)(j:an (p.hb ::p.sg.ownBlock.toList) a b)  {l:List Int}(s:af b p.hb 135 #[p.sv,I O H.onum,p.dv,e,I O H.g,I O H.es,I O H.ez])(r:b.ownsRow 0 3 1 e l.length (l.map (Yb O)))(q:∀k∈e.ownBlock.toList,k∈p.sg.ownBlock.toList\/a.heap.size<=k):HA b {H with az:=l} {p with sg:=e}:=by
 have f:∀{k:Nat},k≠p.hb->k∉p.sg.ownBlock.toList->k∉p.hb ::p.sg.ownBlock.toList:=λn o d=>(Vb.1 d).elim n o
 refine⟨s,aq h.sv j λk c=>f (h.JO c) λd=>(h.EH d).2.1 c,h.is,λx m=>(h.ws x m).off j λk c=>by have i:k∈gN p.ws:=Za.2 ⟨x,m,c⟩;exact f (h.Fm i).1 λd=>h.apart k (Wa _ d) i,aq h.dv j λk c=>f (h.zJ c).1 (h.zJ c).2.2,r,λk c d=>?_⟩;rcases eb.1 c with c|c
 .exact h.apart k (Ya _ c) d
 rcases q k c with c|c
 .exact h.apart k (Wa _ c) d
 have:=h.lt k (Xa _ (Wa _ (Wa _ (Wa _ d))));omega
theorem HA.Tg {H:Hs}{p:Hp}(h:HA a H p)(j:an (p.hb ::p.dv.ownBlock.toList) a b)  {l:List ByteArray}(s:af b p.hb 135 #[p.sv,I O H.onum,e,p.sg,I O H.g,I O H.es,I O H.ez])(r:b.ownsRow 0 9 1 e l.length (l.map Wc))(q:∀k∈e.ownBlock.toList,k∈p.dv.ownBlock.toList\/a.heap.size<=k):HA b {H with ar:=l} {p with dv:=e}:=by
 have f:∀{k:Nat},k≠p.hb->k∉p.dv.ownBlock.toList->k∉p.hb ::p.dv.ownBlock.toList:=λn o d=>(Vb.1 d).elim n o
 refine⟨s,aq h.sv j λk c=>f (h.JO c) λd=>(h.zJ d).2.1 c,h.is,λx m=>(h.ws x m).off j λk c=>by have i:k∈gN p.ws:=Za.2 ⟨x,m,c⟩;exact f (h.Fm i).1 λd=>h.apart k (Ya _ d) i,r,aq h.sg j λk c=>f (h.EH c).1 (h.EH c).2.2,λk c d=>?_⟩;rcases eb.1 c with c|c
 .rcases q k c with c|c
  .exact h.apart k (Ya _ c) d
  have:=h.lt k (Xa _ (Wa _ (Wa _ (Wa _ d))));omega
 exact h.apart k (Wa _ c) d
theorem HA.more {H:Hs}{p:Hp}(h:HA a H p)(i:an (p.hb ::p.sv.ownBlock.toList) a b)  {g:Int}(o:af b p.hb 135 #[e,I O 0,Q Y 0 0,Q Y 0 0,I O g,I O H.es,I O H.ez])(n:b.ownsRow 0 93 3 e (H.ae.length+1) (p.ws.flatMap Wn.cells++[I O H.onum,p.dv,p.sg])):HA b {H with ae:=H.ae++[(H.onum,H.ar,H.az)],onum:=0,ar:=[],az:=[],g:=g} {p with sv:=e,ws:=p.ws++[⟨H.onum,p.dv,H.ar,p.sg,H.az⟩],dv:=Q Y 0 0,sg:=Q Y 0 0}:=by
 have f:∀{k:Nat},k≠p.hb->k∉p.sv.ownBlock.toList->k∉p.hb ::p.sv.ownBlock.toList:=λl m j=>(Vb.1 j).elim l m
 refine⟨o,by rw[Xc,Yc];exact n,by rw[ad,h.is];rfl,λx d=>?_,Vc _ _ _ _,Vc _ _ _ _,λk c=>by simp[qb]at c⟩;rcases eb.1 d with d|d
 .exact(h.ws x d).off i λk c=>f (h.Fm (Za.2 ⟨x,d,c⟩)).1 (h.Fm (Za.2 ⟨x,d,c⟩)).2
 rw[Va.1 d];exact⟨aq h.dv i λk c=>f (h.zJ c).1 (h.zJ c).2.1,aq h.sg i λk c=>f (h.EH c).1 (h.EH c).2.1⟩
theorem Hq.trans { g:N}{H:Hs}{F G:List Nat}  (f:an F a b)(e:∀d∈G,d∈F\/a.heap.size<=d)(h:Hq b g H G c):Hq a g H F c:=by
 obtain⟨⟨p,i,j,k⟩,l⟩:=h;exact⟨⟨p,i,j,λd c=>(k d c).elim (e d) λh=>Zc (Uc f.size h)⟩,aP f e l⟩
theorem yl {c:Option Nat}(h:a.grownBy b c):an c.toList a b:=
 ⟨h.os,h.tape,h.output,h.size,λk f d=>h.block k f (λe=>d (by simp[<-e]))⟩
theorem Hp.iO (p:Hp):p.hb∈p.blocks:=Xb ..
theorem Hp.yK (p:Hp)  (h:c∈p.sv.ownBlock.toList):c∈p.blocks:=Xa _ (Ya _ h)
theorem Hp.BN (p:Hp)  (h:c∈p.dv.ownBlock.toList):c∈p.blocks:=Xa _ (Wa _ (Ya _ h))
theorem Hp.pS (p:Hp)  (h:c∈p.sg.ownBlock.toList):c∈p.blocks:=Xa _ (Wa _ (Wa _ (Ya _ h)))
theorem Hp.uM (p:Hp)  (h:c∈gN p.ws):c∈p.blocks:=Xa _ (Wa _ (Wa _ (Wa _ h)))
theorem Hp.xQ {p:Hp}  {a:Prop}(h:c∈p.blocks)(b:c=p.hb->a)(d:c∈p.sv.ownBlock.toList->a)(e:c∈p.dv.ownBlock.toList->a)(f:c∈p.sg.ownBlock.toList->a)(g:c∈gN p.ws->a):a:=by
 rcases Vb.1 h with h|h
 .exact b h
 grind
theorem Lb:(Zb.info? 9).map (λi=>(i.zero,i.size,i.bytes))=Z (Z (L ⟨#[]⟩),1,16):=by kernel_rfl
set_option maxRecDepth 10000 in
theorem Ju (H:Hs)(p:Hp)(z c:Int)(r:ByteArray)(w:N)(h:HA w H p)(hd:H.ar.length<=1000000000)(hl:H.az.length<=1000000000):
  Calls Zb 112 #[ca (Z ⟨p.hb,0,Y⟩),I O z,.agg #[L ⟨#[100]⟩,I O c,L r]] w λe w'=>e=Ua (.tuple #[])/\Hq w w' (htk H z ⟨100,c,r⟩) p.blocks p.hb:=by
 have HE:=aa (show htk H z ⟨100,c,r⟩={H with onum:=c,ar:=H.ar++[r],az:=hent z H.az} by grind [htk]);obtain⟨a,s,A,dv,sg⟩:=p;obtain⟨l,m,b5⟩:=ak h.dv;simp only at b5;subst b5;have b7:=af.new w 158 #[L ⟨#[100]⟩,I O c,L r];have a0:=ai (w:=w) (.cells #[L ⟨#[100]⟩,I O c,L r] 158);have G:=aa (h.keep a0);have HX:=aa b7;have a5:=aa a0;have a7:=aa h.lt;obtain⟨i0,hi,c3,c4,c5⟩:=info_parts Lb;clear h b7 a0;go_in;go_upto_region 1 with fail;generalize w.alloc (.cells #[L ⟨#[100]⟩,I O c,L r] 158)=w1 at *;generalize a4:w.heap.size=V at HX ⊢;change Hid _ at a4;have x0:w1.cell? ⟨V,0,Y⟩=Z (L ⟨#[100]⟩):=HX.Ri 0;go_wp2_with fail;clear x0;refine(zM a s (I O H.onum) (Q l H.ar.length m) sg (I O H.g) (I O H.es) (I O H.ez) H.az z w1 G.head G.sg hl).mono ?_;rintro e w3 ⟨rfl,t,h1,h2,h3,h4⟩;have B:=aa (G.ah h4 h1 h2 h3);have P:=aa (Foot.af.off HX h4 (λe=>by
  have h6:=a4.out;rcases Vb.1 e with e|e
  .have:=a7.out a (Hp.iO _);omega
  have:=a7.out V (Hp.pS ⟨a,s,A,Q l H.ar.length m,sg⟩ e);omega))
 have a9:Hid (an (Hp.blocks ⟨a,s,A,Q l H.ar.length m,sg⟩) w w3):=(an.ag a5).trans (h4.mono λk _ F=>by grind [Hp.iO,Hp.pS]);have E:=aa (show ∀b∈Hp.blocks ⟨a,s,A,Q l H.ar.length m,t⟩,b∈Hp.blocks ⟨a,s,A,Q l H.ar.length m,sg⟩\/w.heap.size<=b from λb X=>Hp.xQ X (λe=>Wb (e▸Hp.iO _)) (λe=>Wb (Hp.yK ⟨a,s,A,Q l H.ar.length m,sg⟩ e)) (λe=>Wb (Hp.BN ⟨a,s,A,Q l H.ar.length m,sg⟩ e)) (λe=>(h3 b e).elim (λe=>Wb (Hp.pS ⟨a,s,A,Q l H.ar.length m,sg⟩ e)) λe=>Zc (Uc a5.size e)) (λe=>Wb (Hp.uM ⟨a,s,A,Q l H.ar.length m,sg⟩ e)));clear h1 h2 h3 h4;have x0:w3.cell? ⟨V,0,Y⟩=Z (L ⟨#[100]⟩):=P.Ri 0;have x1:w3.cell? ⟨V,1,Y⟩=Z (I O c):=P.Ri 1;have c1:w3.cell? ⟨a,1,Y⟩=Z (I O H.onum):=B.head.Ri 1;have f1:=B.head.frozen 1;go_upto_region 9 with fail;have q:an [a] w3 (w3.setCell ⟨a,1,Y⟩ (I O c)):=(an.refl _ _).set (Va.2 rfl) _ _;have U:=aa (B.num q (o:=c) (g:=H.g) (es:=H.es) (ez:=H.ez) (B.head.set 1 (I O c)));have b2:=aa (Foot.af.off P q (λe=>by grind [Hid,Hp.iO]));have b0:=aa (a9.trans (q.mono λk _ F=>Va.1 F▸Hp.iO _));clear q x0 x1 c1 f1 B P a9 G HX;generalize w3.setCell ⟨a,1,Y⟩ (I O c)=w4 at *;refine dS (λW=>af W a 135 #[s,I O c,Q l H.ar.length m,t,I O H.g,I O H.es,I O H.ez]/\af W V 158 #[L ⟨#[100]⟩,I O c,L r]) 11 (by kernel_rfl) ?_;have a1:Below w4.heap.size w4 w4.drew:=(Below.refl _ _).drew;have a6:=aa (U.keep a1);have d:=aa (show (λW=>af W a 135 #[s,I O c,Q l H.ar.length m,t,I O H.g,I O H.es,I O H.ez]/\af W V 158 #[L ⟨#[100]⟩,I O c,L r]) w4.drew from⟨U.head,b2⟩);have b8:=aa (b0.trans (an.ag a1));clear a1 U b2 b0;generalize w4.drew=wd at *;refine Tu (i:=0) (v:=ca (Z ⟨a,0,Y⟩)) rfl (by intro W f;have S:=f.1.Ri 2;have T:=f.2.Ri 2;go_simp) d ?_;refine Tu (i:=1) (v:=ca (Z ⟨a,0,Y⟩)) rfl (by intro W f;have S:=f.1.Ri 2;have T:=f.2.Ri 2;go_simp) d ?_;refine Tu (i:=2) (v:=ca (Z ⟨a,0,Y⟩)) rfl (by intro W f;have S:=f.1.Ri 2;have T:=f.2.Ri 2;go_simp) d ?_;refine Tu (i:=3) (v:=ca (Z ⟨a,0,Y⟩)) rfl (by intro W f;have S:=f.1.Ri 2;have T:=f.2.Ri 2;go_simp) d ?_;refine Tu (i:=4) (v:=ca (Z ⟨a,1,Y⟩)) rfl (by intro W f;have S:=f.1.Ri 2;have T:=f.2.Ri 2;go_simp) d ?_;refine Tu (i:=5) (v:=ca (Z ⟨a,2,Y⟩)) rfl (by intro W f;have S:=f.1.Ri 2;have T:=f.2.Ri 2;go_simp) d ?_;refine Tu (i:=6) (v:=Q l H.ar.length m) rfl (by intro W f;have S:=f.1.Ri 2;have T:=f.2.Ri 2;go_simp) d ?_;refine Tu (i:=7) (v:=ca (Z ⟨V,2,Y⟩)) rfl (by intro W f;have S:=f.1.Ri 2;have T:=f.2.Ri 2;go_simp) d ?_;refine Tu (i:=8) (v:=L r) rfl (by intro W f;have S:=f.1.Ri 2;have T:=f.2.Ri 2;go_simp) d ?_;refine aW (j:=9) (λK n=>?_);go_simp;have y:=ai (w:=wd) (.cells #[L r] 9);refine n _ _ (λ_=>⟨Mem.af.below d.1 y d.1.lt,Mem.af.below d.2 y d.2.lt⟩) ?_;clear n K;have D:=aa (a6.keep y);have b3:=aa (Mem.af.below d.2 y d.2.lt);have c0:=aa (kJ wd (L r) 9 _ rfl rfl);have b1:=aa (b8.trans (an.ag y));clear y a6;generalize wd.alloc (.cells #[L r] 9)=w7 at *;refine aW (j:=10) (λK n=>?_);refine Apn.eG rfl (.tmp 41) (.tmp 44) 32 rfl 9 i0 (L ⟨#[]⟩) 1 16 Tryz.underlying32 hi c3 c4 c5 rfl (by decide) (Q l H.ar.length m) H.ar.length (H.ar.map Wc) rfl D.dv _ 1 1 [L r] rfl c0 (by unfold maxLen;omega) (by omega) ?_;intro v8 w8 M b4 a8 _;obtain⟨u,x,rfl⟩:=ak M;have R:=yl b4;have J:=aa (Foot.af.off D.head R (λe=>(D.zJ e).1 rfl));have c2:=aa (Foot.af.off b3 R (λe=>by
  obtain⟨cs,h5⟩:=au D.dv e;exact Ty h5 b3 rfl))
 have b9:=aa R;change Hid _ at M a8;refine n _ _ (λ_=>⟨J,c2⟩) ?_;clear n K b4 R;have e2:w8.cell? ⟨a,2,Y⟩=Z (Q l H.ar.length m):=J.Ri 2;have f2:=J.frozen 2;go_simp;refine aW (j:=11) (λK n=>?_);go_simp;refine n _ _ (λh=>absurd h (by decide)) ?_;clear n K;refine aW (j:=12) (λK n=>?_);go_simp;refine n _ _ (λh=>absurd h (by decide)) ?_;clear n K;refine aW (j:=13) (λK n=>?_);go_simp;refine n _ _ (λh=>absurd h (by decide)) ?_;clear n K;refine aW (j:=14) (λK n=>?_);go_simp;refine n _ _ (λh=>absurd h (by decide)) ?_;clear n K;refine aW (j:=15) (λK n=>?_);go_simp;refine n _ _ (λh=>absurd h (by decide)) ?_;clear n K;refine Tz ?_;clear e2 f2;have q:an [a] w8 (w8.setCell ⟨a,2,Y⟩ (Q u (H.ar.length+1) x)):=(an.refl _ _).set (Va.2 rfl) _ _;have a3:an (a ::(Ub l H.ar.length m).ownBlock.toList) w7 (w8.setCell ⟨a,2,Y⟩ (Q u (H.ar.length+1) x)):=(b9.mono λk _ F=>Xa _ F).trans (q.mono λk _ F=>Va.1 F▸Xb ..);have b6:(w8.setCell ⟨a,2,Y⟩ (Q u (H.ar.length+1) x)).ownsRow 0 9 1 (Q u (H.ar.length+1) x) (H.ar++[r]).length ((H.ar++[r]).map Wc):=by
  rw[Yc,ad];refine aq M q λk F e=>?_
  obtain⟨cs,h5⟩:=au M F;grind [aA,Hid]
 have a2:∀k∈(Ub u (H.ar.length+1) x).ownBlock.toList,k∈(Ub l H.ar.length m).ownBlock.toList\/w7.heap.size<=k:=λk F=>by
  rcases a8.out with e|⟨g,e,hg⟩
  .exact Wb (e▸F)
  grind
 have HF:=aa (D.Tg a3 (J.set 2 _) b6 a2);have HQ:=aa (show Hq w (w8.setCell ⟨a,2,Y⟩ (Q u (H.ar.length+1) x)) {H with onum:=c,ar:=H.ar++[r],az:=hent z H.az} (Hp.blocks ⟨a,s,A,Q l H.ar.length m,sg⟩) a from
  ⟨⟨_,HF,rfl,λb X=>Hp.xQ X (λe=>E.out b (e▸Hp.iO _)) (λe=>E.out b (Hp.yK ⟨a,s,A,Q l H.ar.length m,t⟩ e)) (λe=>(a2 b e).elim (λe=>E.out b (Hp.BN ⟨a,s,A,Q l H.ar.length m,t⟩ e)) λe=>Zc (Uc b1.size e)) (λe=>E.out b (Hp.pS ⟨a,s,A,Q l H.ar.length m,t⟩ e)) (λe=>E.out b (Hp.uM ⟨a,s,A,Q l H.ar.length m,t⟩ e))⟩,
   b1.trans (a3.mono λk _ F=>by grind [Hp.iO,Hp.BN])⟩)
 clear q a3 b6 a2;generalize w8.setCell ⟨a,2,Y⟩ (Q u (H.ar.length+1) x)=w9 at *;go_wp2_with fail;go_end0;grind [Hid]
theorem Lc:(Zb.info? 93).map (λi=>(i.zero,i.size,i.bytes))=Z (Z (.agg #[I O 0,Q Y 0 0,Q Y 0 0]),3,56):=by kernel_rfl
theorem pq (w:N)(x y z:C)(t:TypeId)(d:x.oneCell'=true)(e:y.oneCell'=true)(hz:z.oneCell'=true):Apn.Src (w.alloc (.cells #[x,y,z] t)) 3 (Z ⟨w.heap.size,0,Y⟩) 1 [x,y,z]:=by
 refine⟨rfl,λu c=>by grind,Zc ⟨_,rfl,λj u a=>?_⟩⟩;have b:=af.new w t #[x,y,z];have:(⟨w.heap.size,0,Y⟩:Addr).add j=⟨w.heap.size,j,Y⟩:=by grind [Addr.add]
 simp_all
set_option maxRecDepth 10000 in
theorem QY (H:Hs)(p:Hp)(n d:Int)(tb:ByteArray)(w:N)(h:HA w H p)(hd:H.ae.length<=1000000000)(hl:H.az.length<=1000000000):
  Calls Zb 112 #[ca (Z ⟨p.hb,0,Y⟩),I O n,.agg #[L ⟨#[115]⟩,I O d,L tb]] w λe w'=>e=Ua (.tuple #[])/\Hq w w' (htk H n ⟨115,d,tb⟩) p.blocks p.hb:=by
 have HE:=aa (show htk H n ⟨115,d,tb⟩={H with ae:=H.ae++[(H.onum,H.ar,hent n H.az)],onum:=0,ar:=[],az:=[],g:=d} by grind [htk]);obtain⟨c,sv,ws,dv,sg⟩:=p;obtain⟨t,u,c8⟩:=ak h.sv;obtain⟨r,s,y⟩:=ak h.dv;simp only at y c8;subst c8;change Hid _ at y;have c7:=af.new w 158 #[L ⟨#[115]⟩,I O d,L tb];have a9:=ai (w:=w) (.cells #[L ⟨#[115]⟩,I O d,L tb] 158);have U:=aa (h.keep a9);have HX:=aa c7;have b2:=aa a9;have b4:=aa h.lt;obtain⟨i0,hi,d4,d5,d6⟩:=info_parts Lc;clear h c7 a9;go_in;go_upto_region 1 with fail;generalize w.alloc (.cells #[L ⟨#[115]⟩,I O d,L tb] 158)=w1 at *;generalize b1:w.heap.size=ab at HX ⊢;change Hid _ at b1;have x0:w1.cell? ⟨ab,0,Y⟩=Z (L ⟨#[115]⟩):=HX.Ri 0;go_wp2_with fail;clear x0;refine(zM c (Q t H.ae.length u) (I O H.onum) dv sg (I O H.g) (I O H.es) (I O H.ez) H.az n w1 U.head U.sg hl).mono ?_;rintro e w3 ⟨rfl,d7,h1,h2,h3,h4⟩;obtain⟨J,M,rfl⟩:=ak h2;have a6:=aa (U.ah h4 h1 h2 h3);have X:=aa (Foot.af.off HX h4 (λe=>by
  have h6:=b1.out;rcases Vb.1 e with e|e
  .have:=b4.out c (Hp.iO _);omega
  have:=b4.out ab (Hp.pS ⟨c,Q t H.ae.length u,ws,dv,sg⟩ e);omega))
 have b6:Hid (an (Hp.blocks ⟨c,Q t H.ae.length u,ws,dv,sg⟩) w w3):=(an.ag b2).trans (h4.mono λk _ o=>by grind [Hp.iO,Hp.pS]);have c9:=aa (show ∀b∈(Ub J (hent n H.az).length M).ownBlock.toList,b∈sg.ownBlock.toList\/w.heap.size<=b from λb a8=>(h3 b a8).imp id λe=>Uc b2.size e);clear h1 h2 h3 h4;have y:=y.out;subst y;have x0:w3.cell? ⟨ab,0,Y⟩=Z (L ⟨#[115]⟩):=X.Ri 0;go_upto_region 10 with fail;clear x0 U HX y;generalize (hent n H.az).length=gl at *;refine dS (λW=>af W c 135 #[Q t H.ae.length u,I O H.onum,Q r H.ar.length s,Q J gl M,I O H.g,I O H.es,I O H.ez]) 13 (by kernel_rfl) ?_;have a0:Below w3.heap.size w3 w3.drew:=(Below.refl _ _).drew;have b3:=aa (a6.keep a0);have a7:=aa (Mem.af.below X a0 X.lt);have f:Hid ((λW=>af W c 135 #[Q t H.ae.length u,I O H.onum,Q r H.ar.length s,Q J gl M,I O H.g,I O H.es,I O H.ez]) w3.drew):=a6.head;have d0:=aa (b6.trans (an.ag a0));clear a0 a6 b6 X;generalize w3.drew=wd at *;refine Tu (i:=0) (v:=ca (Z ⟨c,0,Y⟩)) rfl (by intro W a;have P:=a.Ri 0;have R:=a.Ri 1;have S:=a.Ri 2;have T:=a.Ri 3;go_simp) f ?_;refine Tu (i:=1) (v:=ca (Z ⟨c,0,Y⟩)) rfl (by intro W a;have P:=a.Ri 0;have R:=a.Ri 1;have S:=a.Ri 2;have T:=a.Ri 3;go_simp) f ?_;refine Tu (i:=2) (v:=ca (Z ⟨c,0,Y⟩)) rfl (by intro W a;have P:=a.Ri 0;have R:=a.Ri 1;have S:=a.Ri 2;have T:=a.Ri 3;go_simp) f ?_;refine Tu (i:=3) (v:=ca (Z ⟨c,0,Y⟩)) rfl (by intro W a;have P:=a.Ri 0;have R:=a.Ri 1;have S:=a.Ri 2;have T:=a.Ri 3;go_simp) f ?_;refine Tu (i:=4) (v:=ca (Z ⟨c,0,Y⟩)) rfl (by intro W a;have P:=a.Ri 0;have R:=a.Ri 1;have S:=a.Ri 2;have T:=a.Ri 3;go_simp) f ?_;refine Tu (i:=5) (v:=Q t H.ae.length u) rfl (by intro W a;have P:=a.Ri 0;have R:=a.Ri 1;have S:=a.Ri 2;have T:=a.Ri 3;go_simp) f ?_;refine Tu (i:=6) (v:=ca (Z ⟨c,0,Y⟩)) rfl (by intro W a;have P:=a.Ri 0;have R:=a.Ri 1;have S:=a.Ri 2;have T:=a.Ri 3;go_simp) f ?_;refine Tu (i:=7) (v:=ca (Z ⟨c,0,Y⟩)) rfl (by intro W a;have P:=a.Ri 0;have R:=a.Ri 1;have S:=a.Ri 2;have T:=a.Ri 3;go_simp) f ?_;refine Tu (i:=8) (v:=ca (Z ⟨c,0,Y⟩)) rfl (by intro W a;have P:=a.Ri 0;have R:=a.Ri 1;have S:=a.Ri 2;have T:=a.Ri 3;go_simp) f ?_;refine Tu (i:=9) (v:=ca (Z ⟨c,1,Y⟩)) rfl (by intro W a;have P:=a.Ri 0;have R:=a.Ri 1;have S:=a.Ri 2;have T:=a.Ri 3;go_simp) f ?_;refine Tu (i:=10) (v:=.agg #[I O H.onum,Q r H.ar.length s,Q J gl M]) rfl (by intro W a;have P:=a.Ri 0;have R:=a.Ri 1;have S:=a.Ri 2;have T:=a.Ri 3;go_simp) f ?_;refine aW (j:=11) (λK m=>?_);go_simp;have D:=ai (w:=wd) (.cells #[I O H.onum,Q r H.ar.length s,Q J gl M] 93);refine m _ _ (λ_=>Mem.af.below f D f.lt) ?_;clear m K;have z:=aa (b3.keep D);have b9:=aa (Mem.af.below a7 D a7.lt);have d3:=aa (pq wd (I O H.onum) (Q r H.ar.length s) (Q J gl M) 93 rfl rfl rfl);have b7:=aa (d0.trans (an.ag D));clear D b3 a7;generalize wd.alloc (.cells #[I O H.onum,Q r H.ar.length s,Q J gl M] 93)=w7 at *;refine aW (j:=12) (λK m=>?_);refine Apn.eG rfl (.tmp 55) (.tmp 61) 91 rfl 93 i0 (.agg #[I O 0,Q Y 0 0,Q Y 0 0]) 3 56 Tryz.underlying91 hi d4 d5 d6 rfl (by decide) (Q t H.ae.length u) H.ae.length (ws.flatMap Wn.cells) rfl z.sv _ 1 1 [I O H.onum,Q r H.ar.length s,Q J gl M] rfl d3 (by unfold maxLen;omega) (by omega) ?_;intro v8 w8 V c6 b5 _;obtain⟨a2,a3,rfl⟩:=ak V;have a1:=yl c6;have B:=aa (Foot.af.off z.head a1 (λe=>z.JO e rfl));have c0:=aa (Foot.af.off b9 a1 (λe=>by
  obtain⟨cs,h5⟩:=au z.sv e;exact Ty h5 b9 rfl))
 have d1:=aa a1;change Hid _ at V b5;refine m _ _ (λ_=>B) ?_;clear m K c6 a1;have e0:w8.cell? ⟨c,0,Y⟩=Z (Q t H.ae.length u):=B.Ri 0;have f0:=B.frozen 0;go_simp;refine aW (j:=13) (λK m=>?_);go_simp;refine m _ _ (λh=>absurd h (by decide)) ?_;clear m K;refine aW (j:=14) (λK m=>?_);go_simp;refine m _ _ (λh=>absurd h (by decide)) ?_;clear m K;refine aW (j:=15) (λK m=>?_);go_simp;refine m _ _ (λh=>absurd h (by decide)) ?_;clear m K;refine aW (j:=16) (λK m=>?_);go_simp;refine m _ _ (λh=>absurd h (by decide)) ?_;clear m K;refine Tz ?_;clear e0 f0;have l:=B.set 0 (Q a2 (H.ae.length+1) a3);have b0:an [c] w8 (w8.setCell ⟨c,0,Y⟩ (Q a2 (H.ae.length+1) a3)):=(an.refl _ _).set (Va.2 rfl) _ _;have c5:=aa (Foot.af.off c0 b0 (λe=>Ty c0 B (Va.1 e)));have d2:=aa b0;clear b0;generalize w8.setCell ⟨c,0,Y⟩ (Q a2 (H.ae.length+1) a3)=w9 at *;have c1:w9.cell? ⟨c,1,Y⟩=Z (I O H.onum):=l.Ri 1;have c2:w9.cell? ⟨c,2,Y⟩=Z (Q r H.ar.length s):=l.Ri 2;have c3:w9.cell? ⟨c,3,Y⟩=Z (Q J gl M):=l.Ri 3;have f1:=l.frozen 1;have f2:=l.frozen 2;have f3:=l.frozen 3;have A:=aa (((l.set 1 (I O 0)).set 2 (Q Y 0 0)).set 3 (Q Y 0 0));have E:an [c] w9 (((w9.setCell ⟨c,1,Y⟩ (I O 0)).setCell ⟨c,2,Y⟩ (Q Y 0 0)).setCell ⟨c,3,Y⟩ (Q Y 0 0)):=(((an.refl _ _).set (Va.2 rfl) _ _).set (Va.2 rfl) _ _).set (Va.2 rfl) _ _;have b8:=aa (Foot.af.off c5 E (λe=>Ty c5 l (Va.1 e)));have a4:=aa (d2.trans E);clear l E;go_upto_region 12 with fail;clear c1 c2 c3 f1 f2 f3;generalize ((w9.setCell ⟨c,1,Y⟩ (I O 0)).setCell ⟨c,2,Y⟩ (Q Y 0 0)).setCell ⟨c,3,Y⟩ (Q Y 0 0)=q at *;have x1:q.cell? ⟨ab,1,Y⟩=Z (I O d):=b8.Ri 1;have c4:q.cell? ⟨c,4,Y⟩=Z (I O H.g):=A.Ri 4;have f4:=A.frozen 4;have F:an [c] q (q.setCell ⟨c,4,Y⟩ (I O d)):=(an.refl _ _).set (Va.2 rfl) _ _;have G:an (c ::(Ub t H.ae.length u).ownBlock.toList) w7 (q.setCell ⟨c,4,Y⟩ (I O d)):=(d1.mono λk _ o=>Xa _ o).trans ((a4.trans F).mono λk _ o=>Va.1 o▸Xb ..);have a5:(q.setCell ⟨c,4,Y⟩ (I O d)).ownsRow 0 93 3 (Q a2 (H.ae.length+1) a3) (H.ae.length+1) (ws.flatMap Wn.cells++[I O H.onum,Q r H.ar.length s,Q J gl M]):=aq V (a4.trans F) λk o e=>by
  obtain⟨cs,h5⟩:=au V o;grind [aA,Hid]
 have HF:=aa (z.more G (A.set 4 (I O d)) a5);have HQ:=aa (show Hq w (q.setCell ⟨c,4,Y⟩ (I O d)) {H with ae:=H.ae++[(H.onum,H.ar,hent n H.az)],onum:=0,ar:=[],az:=[],g:=d} (Hp.blocks ⟨c,Q t H.ae.length u,ws,Q r H.ar.length s,sg⟩) c from
  ⟨⟨_,HF,rfl,λb a8=>Hp.xQ a8 (λe=>Wb (e▸Hp.iO _)) (λe=>by
    rcases b5.out with e1|⟨g,e1,hg⟩
    .exact Wb (Hp.yK ⟨c,Q t H.ae.length u,ws,Q r H.ar.length s,sg⟩ (e1▸e))
    .refine Zc (Uc b7.size ?_);grind) (λe=>by simp[qb]at e) (λe=>by simp[qb]at e) (λe=>by
    obtain⟨x,hx,o⟩:=Za.1 e;rcases eb.1 hx with hx|hx
    .exact Wb (Hp.uM ⟨c,Q t H.ae.length u,ws,Q r H.ar.length s,sg⟩ (Za.2 ⟨x,hx,o⟩))
    rw[Va.1 hx]at o;rcases eb.1 o with o|o
    .exact Wb (Hp.BN ⟨c,Q t H.ae.length u,ws,Q r H.ar.length s,sg⟩ o)
    exact(c9.out b o).imp (λe=>Hp.pS ⟨c,Q t H.ae.length u,ws,Q r H.ar.length s,sg⟩ e) id)⟩,
   b7.trans (G.mono λk _ o=>by grind [Hp.iO,Hp.yK])⟩)
 clear F G a5;go_wp2_with fail;go_end0;grind [Hid]
theorem QW (H:Hs)(p:Hp)(c d:Int)(f:ByteArray)(w:N)(h:HA w H p):
  Calls Zb 112 #[ca (Z ⟨p.hb,0,Y⟩),I O c,.agg #[L ⟨#[98]⟩,I O d,L f]] w λe n=>e=Ua (.tuple #[])/\Hq w n (htk H c ⟨98,d,f⟩) p.blocks p.hb:=by
 refine(EZ p.hb p.sv p.dv p.sg H.onum H.g H.es H.ez c d f w h.head).mono ?_;rintro e n ⟨rfl,j,o,q,l,i⟩;refine⟨rfl,?_⟩;have r:htk H c ⟨98,d,f⟩={H with onum:=0,ar:=[],az:=[c],g:=d}:=by unfold htk;rw[if_pos rfl]
 rw[r];refine⟨⟨⟨p.hb,p.sv,p.ws,Q Y 0 0,j⟩,⟨o,aq h.sv i λk a e=>h.JO a (Va.1 e),h.is,λx m=>(h.ws x m).off i λk a e=>(h.Fm (Za.2 ⟨x,m,a⟩)).1 (Va.1 e),Vc _ _ _ _,q,λk a e=>?_⟩,rfl,λb s=>Hp.xQ s (λe=>Wb (e▸Hp.iO _)) (λe=>Wb (p.yK e)) (λe=>by simp[qb]at e) (λe=>Zc (l b e)) (λe=>Wb (p.uM e))⟩,i.mono λk _ a=>Va.1 a▸p.iO⟩;rcases eb.1 a with a|a
 .simp[qb]at a
 have t:=l k a;have u:=h.lt k (p.uM e);omega
theorem QX (H:Hs)(p:Hp)(a:Int)(r:Rc)(b:r.k=100\/r.k=115\/r.k=98)(w:N)(h:HA w H p)(d:H.ar.length<=1000000000)(f:H.ae.length<=1000000000)(c:H.az.length<=1000000000):
  Calls Zb 112 #[ca (Z ⟨p.hb,0,Y⟩),I O a,r.val] w λe g=>e=Ua (.tuple #[])/\Hq w g (htk H a r) p.blocks p.hb:=by
 obtain⟨k,n,t⟩:=r;simp only at b;rcases b with rfl|rfl|rfl
 .exact Ju H p a n t w h d c
 .exact QY H p a n t w h f c
 exact QW H p a n t w h
theorem PZ (H:Hs)(p:Hp)(r:Rc)(i:r.k=100\/r.k=115\/r.k=98)(w:N)(h:HA w H p):
  Calls Zb 111 #[ca (Z ⟨p.hb,0,Y⟩),r.val] w λe j=>e=Ua (.bool (hfit H r))/\Below w.heap.size w j:=by
 obtain⟨k,n,t⟩:=r;obtain⟨d,f,m,l,sg⟩:=p;obtain⟨b,c,a⟩:=ak h.dv;simp only at i a;subst a;rcases i with rfl|rfl|rfl
 .exact tn w d f sg H.onum H.g H.es H.ez b H.ar.length c n t h.head
 .exact DH w d f sg H.onum H.g H.es H.ez b H.ar.length c n t h.head
 exact DG w d f sg H.onum H.g H.es H.ez b H.ar.length c n t h.head
end Go.Proofs.YtpndiccohnafbaaGreatDoor.Jr
