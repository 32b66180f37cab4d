/- The law of daemons on disks that fail: what a step leaves; the open window. -/
import Derived.Test.YtpndiccohnafbaaGreatDoorFty
import Derived.Test.YtpndiccohnafbaaGreatDoorRyy
set_option maxHeartbeats 9000000
open Go.Value renaming pointer->ca,int->I,string->L,slice->Q,slice->Vb,int->Vf
open Option renaming some->Z,none->Y
open Go.IntKind renaming i64->O,i64->Vd
open Go.Ending renaming returned->Ua
open List renaming mem_append_left->Va,mem_append_right->Wa,mem_singleton->Xa,mem_cons_self->Ya,mem_append->Za,mem_cons_of_mem->qb,replicate->Xb,mem_cons->Uc,getElem?_eq_getElem->Vc,take_succ_cons->Wc,drop_succ_cons->Xc,length_map->Yc,take_zero->zd,drop_zero->Ud,getElem?_append_right->te,getElem?_map->Ue,mem_flatMap->Xe,not_mem_nil->Ye,length_take->Uf,length_replicate->Xf
open Nat renaming le_trans->eb,le_succ->ad,zero_le->Wf
open Or renaming inl->Ub,inr->ed
open Go renaming World->N,Value->Wb,wpQuiet_nil->Yb,Calls->vd,TypeId->Xd,bodyPost_ret->Ze
open Go.Proofs.Tryz renaming prog->Zb
open Go.IntWalk renaming i64_in->Zc
open Int renaming tdiv_eq_ediv_of_nonneg->Zd
open Go.RowKit.Below renaming refl->Ve
open Go.Addr renaming add->ef
namespace Go.Proofs.YtpndiccohnafbaaGreatDoor
namespace Lw
open Go.RowKit Go.Maps Go.Shelf Mem Foot Bytes Im Wm Hi Plainw Cq Dm Dh Jr Wi Sk Hn Kr Dd
variable {w0 w w' w1 : N} {r n m n0 X ba cap : Nat} {bs : List Nat} {R R' : Rn} {p p' : Rp} {F F' : List Nat} {S : Dk} {o : Ac} {D : Dn} {q : Pl} {K : List (Int × List Rc)} {b : List Rc} {H : Hs} {W' : Wd} {dv hv : Wb}
structure LM (w0 w:N)(r:Nat)(R:Rn)(p:Rp)(X:Nat)(D:Dn)(q:Pl)(K:List (Int×List Rc))(b:List Rc)(H:Hs)(n:Nat):Prop where
 T:gp w0
 b0:Below w0.heap.size w0 w
 ra:RA w r R p (df X q)
 xv:p.xv=ca (Z ⟨X,0,Y⟩)
 bx:p.bx=q.bx
 da:DA w X D q
 far:∀k∈(r ::lb p)++df X q,w0.heap.size<=k
 lr:Lr R D K b H n
theorem LM.keep (h:LM w0 w r R p X D q K b H n)(a:Below w.heap.size w w'):LM w0 w' r R p X D q K b H n:={h with b0:=h.b0.trans (a.mono h.b0.size),ra:=h.ra.keep a,da:=h.da.keep a}
theorem LM.gx (h:LM w0 w r R p X D q K b H n):Gx w0 w X D q K b H R.W.sr.toNat n:=⟨h.T,h.b0,h.da,λk a=>h.far k (Wa _ a),h.lr.dl,h.lr.gd⟩
theorem LM.pd (h:LM w0 w r R p X D q K b H n):PD w p.bx D.S q.ba q.cap q.bs:=h.bx▸h.da.pd
theorem LM.lt (h:LM w0 w r R p X D q K b H n):∀k∈(r ::lb p)++df X q,k<w.heap.size:=λk a=>(Za.1 a).elim (h.ra.lt k) (h.da.lt k)
def Body (w:N)(R:Rn)(p:Rp)(F:List Nat)(n:Nat):Prop:=
 (∃X D q K b H,F=df X q/\p.xv=ca (Z ⟨X,0,Y⟩)/\p.bx=q.bx/\DA w X D q/\Lr R D K b H n)\/
 (∃X D q,F=df X q/\p.xv=ca (Z ⟨X,0,Y⟩)/\p.bx=q.bx/\DA w X D q/\D.cD=true/\R.sp=true/\Dr R D.S n)\/
 (∃S ba cap bs,F=pf p.bx ba bs/\p.xv=ca Y/\PD w p.bx S ba cap bs/\Dr R S n)
noncomputable def lT (R:Rn)(o:Ac):Wd:=
 if o.a1=1/\o.s.size<=256 then th (wt R.c R.tt R.W) o.s
 else if o.a1=2/\¬(o.a2<=R.now\/1000000000<o.a2) then wt R.c (o.a2 / R.c 0) R.W
 else if o.a1=3 then {R.W with sr:=R.W.hs.length}
 else if o.a1=4 then {R.W with due:=wo o.a2 R.W.due}
 else R.W
def Sq (w w':N)(r:Nat)(R:Rn)(o:Ac)(p:Rp)(F:List Nat)(n:Nat):Prop:=
 ∃R' p' F',RA w' r R' p' F'/\Body w' R' p' F' n/\(p'.ls.length<=p.ls.length+1/\p'.xv=p.xv)/\(∀k∈(r ::lb p')++F',k∈(r ::lb p)++F\/w.heap.size<=k)/\an ((r ::lb p)++F) w w'/\
  (R.lim=false->R'.lim=false/\R'.sp=false/\R'.c=R.c/\R'.W=lT R o/\R'.now=if o.a1=2/\¬(o.a2<=R.now\/1000000000<o.a2) then o.a2 else R.now)
theorem Sq.from (h:Sq w1 w' r R o p F n)(a:Below w.heap.size w w1):Sq w w' r R o p F n:=by
 obtain⟨R',p',F',b,c,d,f,g,i⟩:=h;exact⟨R',p',F',b,c,d,λk j=>(f k j).imp id λe=>eb a.size e,(an.ag a).trans g,i⟩
def W5 (w:N)(r:Nat)(dv hv:Wb)(W:Wd):World:=((((w.setCell ⟨r,9,Y⟩ dv).setCell ⟨r,10,Y⟩ (I O W.o)).setCell ⟨r,11,Y⟩ hv).setCell ⟨r,12,Y⟩ (I O W.sr)).setCell ⟨r,13,Y⟩ (I O W.tp)
set_option maxRecDepth 10000 in
theorem RA.sW (h:RA w r R p F)(dv hv:Wb)(W:Wd):
  w.cell? ⟨r,9,Y⟩=Z p.dv/\w.frozen? ⟨r,9,Y⟩=false/\(w.setCell ⟨r,9,Y⟩ dv).cell? ⟨r,10,Y⟩=Z (I O R.W.o)/\(w.setCell ⟨r,9,Y⟩ dv).frozen? ⟨r,10,Y⟩=false/\
  ((w.setCell ⟨r,9,Y⟩ dv).setCell ⟨r,10,Y⟩ (I O W.o)).cell? ⟨r,11,Y⟩=Z p.hv/\((w.setCell ⟨r,9,Y⟩ dv).setCell ⟨r,10,Y⟩ (I O W.o)).frozen? ⟨r,11,Y⟩=false/\
  (((w.setCell ⟨r,9,Y⟩ dv).setCell ⟨r,10,Y⟩ (I O W.o)).setCell ⟨r,11,Y⟩ hv).cell? ⟨r,12,Y⟩=Z (I O R.W.sr)/\(((w.setCell ⟨r,9,Y⟩ dv).setCell ⟨r,10,Y⟩ (I O W.o)).setCell ⟨r,11,Y⟩ hv).frozen? ⟨r,12,Y⟩=false/\
  ((((w.setCell ⟨r,9,Y⟩ dv).setCell ⟨r,10,Y⟩ (I O W.o)).setCell ⟨r,11,Y⟩ hv).setCell ⟨r,12,Y⟩ (I O W.sr)).cell? ⟨r,13,Y⟩=Z (I O R.W.tp)/\((((w.setCell ⟨r,9,Y⟩ dv).setCell ⟨r,10,Y⟩ (I O W.o)).setCell ⟨r,11,Y⟩ hv).setCell ⟨r,12,Y⟩ (I O W.sr)).frozen? ⟨r,13,Y⟩=false/\
  af (W5 w r dv hv W) r 40 (fe {R with W:=W} {p with dv:=dv,hv:=hv})/\an [r] w (W5 w r dv hv W):=by
 have a:=h.head;unfold fe at a;have b:=a.set 9 dv;have c:=b.set 10 (I O W.o);have d:=c.set 11 hv;have e:=d.set 12 (I O W.sr);exact⟨a.Ri 9,a.frozen 9,b.Ri 10,b.frozen 10,c.Ri 11,c.frozen 11,d.Ri 12,d.frozen 12,e.Ri 13,e.frozen 13,e.set 13 (I O W.tp),(((((an.refl _ _).set (Xa.2 rfl) _ _).set (Xa.2 rfl) _ _).set (Xa.2 rfl) _ _).set (Xa.2 rfl) _ _).set (Xa.2 rfl) _ _⟩
theorem RA.Ry (h:RA w r R p F)(o:an [r] w w')(q:af w' r 40 (fe {R with W:=W'} {p with dv:=dv,hv:=hv}))(l:oF w dv hv W')(d:∀k∈(r ::lb p)++F,k<n0)(g:∀k∈dv.ownBlock.toList,k∈p.dv.ownBlock.toList\/n0<=k)(m:∀k∈hv.ownBlock.toList,k∈p.hv.ownBlock.toList\/n0<=k):
  RA w' r {R with W:=W'} {p with dv:=dv,hv:=hv} F/\∀k∈lb {p with dv:=dv,hv:=hv},k∈lb p\/n0<=k:=by
 have j:∀k∈lb {p with dv:=dv,hv:=hv},k∈lb p\/n0<=k:=λk b=>by
  rcases Za.1 b with b|b
  .obtain⟨v,f,c⟩:=Xe.1 b;clear b;simp only[dU,Uc,Ye,or_false]at f;rcases f with rfl|rfl|rfl|rfl|rfl|rfl
   .exact(g k c).imp (lE (by simp[dU])) id
   .exact(m k c).imp (lE (by simp[dU])) id
   all_goals exact Ub (lE (by simp[dU]) c)
  exact Ub (Wa _ b)
 have a:=h.rows;refine⟨h.put o q ⟨l,a.ever,a.gone,a.lists,a.grown,a.aG,a.ml,λk b=>⟨λn=>?_,(a.e1 k b).2⟩,a.e2⟩ h.rm λk b i=>?_,j⟩
 .rcases g k n with e|e
  .exact(a.e1 k b).1 e
  have:=d k (Va _ (qb _ (lE (by simp[dU]) b)));omega
 rcases j k b with e|e
 .exact h.ap k (qb _ e) i
 have:=d k (Wa _ i);omega
theorem RA.Pu (h:RA w r R p F)(d:oF w dv hv W')(a:∀k∈(r ::lb p)++F,k<n0)(e:∀k∈dv.ownBlock.toList,k∈p.dv.ownBlock.toList\/n0<=k)(f:∀k∈hv.ownBlock.toList,k∈p.hv.ownBlock.toList\/n0<=k):
  RA (W5 w r dv hv W') r {R with W:=W'} {p with dv:=dv,hv:=hv} F/\∀k∈lb {p with dv:=dv,hv:=hv},k∈lb p\/n0<=k:=
 have ⟨_,_,_,_,_,_,_,_,_,_,b,c⟩:=h.sW dv hv W'
 h.Ry c b d a e f
set_option maxRecDepth 10000 in
theorem xR (h:DA w X D q)(a:DL D K b H m n)(l:n<=100000000)(d:gp w):
  vd Zb 46 #[ca (Z ⟨X,0,Y⟩)] w λe w'=>e=Ua (.tuple #[I O D.num,I O (D.count:Int),L (fq D)])/\Below w.heap.size w w':=by
 have j:=aa (λs:Bw w=>aT (pH (m:=jE (H.ar.map B)) (h.keep s.is) a.dk.ok.fit (Cf (D:=dx D) a.dk.ok) a.dk.ok.ll (by have:=a.dk.ok.lines;omega) a.bn.num (d.below s.is)));have f:∀s:Bw w,s.val.cell? ⟨X,8,Y⟩=Z (I O D.num):=λs=>(h.keep s.is).head.Ri 8
 have g:∀s:Bw w,s.val.cell? ⟨X,9,Y⟩=Z (I O (D.count:Int)):=λs=>(h.keep s.is).head.Ri 9
 have c:∀s:Bw w,s.val.cell? ⟨X,10,Y⟩=Z (ca (Z ⟨q.p.P,0,Y⟩)):=λs=>(h.keep s.is).head.Ri 10
 clear h a d;generalize D.num=num at *;generalize (D.count:Int)=k at *;generalize fq D=z at *;go_in;go_wp2_with fail;refine aU ?_;repeat go_big_quiet_step ((go_at_call 68;exact j.out _))
 refine Yb ?_;rintro _ ⟨s,rfl⟩;have i:=aa s.is;clear f g c;generalize s.val=w1 at *;go_wp2_with fail;refine Ze (results_tmp3 rfl _ _ _) rfl ?_;exact⟨rfl,i⟩
theorem uU {c:Fin 6->Int}{num:Int}{a:List ByteArray}(d:oz c)(f:0<=num/\num<=1000000000)(g:a.length<=10000000)(b:∀s∈a,s.size<=256)(e:jE (a.map B)<=10000000):Doc c num a (qF c num a):=
 Gk c d num (by omega) (by omega) a (by omega) (λs h=>by have:=b s h;omega) e
theorem Dr.doc (h:Dr R S n)(a:n<=10000000):Doc R.c R.W.o R.W.hs (qF R.c R.W.o R.W.hs):=uU h.ll h.o (by have:=h.len;omega) h.short (by have:=h.lines;omega)
set_option maxRecDepth 10000 in
theorem Co (h:LM w0 w r R p X D q K b H n)(G:n<=9000000):
  vd Zb 23 #[ca (Z ⟨r,0,Y⟩)] w λe w'=>e=Ua (.tuple #[])/\Below w.heap.size w w':=by
 have g:=xR h.da h.lr.dl (by omega) (h.T.below h.b0);have A:w.cell? ⟨r,6,Y⟩=Z (ca (Z ⟨X,0,Y⟩)):=h.xv▸h.ra.head.Ri 6;obtain⟨t,k,f⟩:=ak h.ra.rows.wd.held;have v:=aa (λ(w':N) (a:Below w.heap.size w w')=>show w'.cell? ⟨r,10,Y⟩=Z (I O D.num)/\w'.cell? ⟨r,11,Y⟩=Z (Q t R.W.hs.length k) from
  have u:=(h.ra.keep a).head
  ⟨h.lr.o▸u.Ri 10,f▸u.Ri 11⟩)
 have s:=aa (λ(w':N) (a:Below w.heap.size w w')=>JC r R.c R.W.o t k R.W.hs _ w' (h.ra.keep a).cfg (h.lr.dr.doc (by omega)) (ry (f▸(h.ra.keep a).rows.wd.held)));rw[h.lr.qF,h.lr.o]at s;rw[h.lr.dl.cnt,<-h.lr.hs]at g;have B:R.W.hs.length<=10000000:=by
  have:=h.lr.dr.len;omega
 clear h f;generalize fq D=z at *;generalize D.num=num at *;generalize R.W.hs.length=F at *;go_in;go_wp2_with fail;refine g.mono ?_;clear g A;rintro e w1 ⟨rfl,d⟩;obtain⟨x,y⟩:=v.out w1 d;have l:=s.out w1 d;have i:=aa d;clear d;go_wp2_with fail;refine l.mono ?_;clear l;rintro e E ⟨rfl,j⟩;have m:=aa (i.trans (j.mono i.size));clear j;go_wp2_with fail;refine(dX r E).mono ?_;rintro e J ⟨rfl,rfl⟩;go_wp2_with fail;go_end0;exact⟨rfl,m⟩
variable {w0 w w' w1 : N} {r n m n0 X ba cap : Nat} {bs : List Nat} {R R' : Rn} {p p' : Rp} {F F' : List Nat} {S S' : Dk} {o : Ac} {D D' : Dn} {q : Pl} {K : List (Int × List Rc)} {b : List Rc} {H : Hs} {W' : Wd} {dv hv : Wb}
theorem Lr.small (h:Lr R D K b H n)(a:R.W.due=[])(c:R.W.hs=[]):pr D.S<=64:=by
 have d:Dm.used D.S.ah<=64:=h.dl.dk.ok.small (h.due▸a) (by rw[<-h.hs,c];rfl);unfold pr;split<;>omega
theorem vK (h:Dm.used S'.ah<=Dm.used S.ah+m):pr S'<0\/pr S<0\/pr S'<=pr S+m:=by
 unfold pr;repeat' split
 all_goals omega
theorem sJ (h:Bd (bm S) n)(b:n<=10000000):-1<=pr S/\pr S<=10000000000:=by
 have a:Dm.used S.ah<=500*n:=h.used;unfold pr;split<;>omega
theorem RA.ghost (h:RA w r R p F)(sl:List Int):RA w r {R with sl:=sl} p F:=⟨h.head,⟨h.rows.wd,h.rows.ever,h.rows.gone,h.rows.lists,h.rows.grown,h.rows.aG,h.rows.ml,h.rows.e1,h.rows.e2⟩,h.rm,h.ap⟩
theorem LM.call (h:LM w0 w r R p X D q K b H n)(a:Dq w w' X D' (df X q) q.bx):∃q',DA w' X D' q'/\RA w' r R p (df X q')/\p.bx=q'.bx/\(∀k∈df X q',k∈df X q\/w.heap.size<=k)/\an (df X q) w w':=by
 obtain⟨q',d,e,c⟩:=a.ex;exact⟨q',d,h.ra.call a.off c,h.bx.trans e.symm,c,a.off⟩
theorem LM.c6 (h:LM w0 w r R p X D q K b H n):w.cell? ⟨r,6,Y⟩=Z (ca (Z ⟨X,0,Y⟩)):=h.xv▸h.ra.head.Ri 6
theorem LM.tt (h:LM w0 w r R p X D q K b H n):0<R.c 0/\0<=R.tt/\R.tt<=1000000000/\R.now.tdiv (R.c 0)=R.tt/\oz R.c/\0<=R.now/\R.now<=1000000000:=by
 have d:=h.lr.dr;have a:=Dd.oz.pos d.ll;exact⟨a,Int.ediv_nonneg d.now.1 (by omega),Int.le_trans (Int.ediv_le_self _ d.now.1) d.now.2,Zd d.now.1,d.ll,d.now.1,d.now.2⟩
set_option maxRecDepth 10000 in
theorem yv (ra:RA w r R p F)(hx:p.xv=ca (Z ⟨X,0,Y⟩))(da:DA w X D q)(dl:DL D K b H m n)(hn:n<=9000000)(ht:gp w)(dr:Dr R S n)(x:∀k∈(r ::lb p)++F,k<w.heap.size):
  vd Zb 40 #[ca (Z ⟨r,0,Y⟩)] w λe w'=>e=Ua (.tuple #[])/\∃dv hv,RA w' r {R with W:=if D.num=R.W.o then R.W else wt R.c R.tt R.W} {p with dv:=dv,hv:=hv} F/\(∀k∈lb {p with dv:=dv,hv:=hv},k∈lb p\/w.heap.size<=k)/\an [r] w w':=by
 have U:=xR da dl (by omega) ht;have c6:w.cell? ⟨r,6,Y⟩=Z (ca (Z ⟨X,0,Y⟩)):=hx▸ra.head.Ri 6;have HR:=aa ra;have d:=aa dr;change Hid _ at x;clear ra hx da dl ht dr;generalize fq D=z at *;generalize D.num=num at *;generalize (D.count:Int)=cn at *;go_in;go_wp2_with fail;refine U.mono ?_;clear U c6;rintro e w1 ⟨rfl,t⟩;have f:=aa t;have a:=aa (HR.keep t);clear t;have a0:w1.cell? ⟨r,10,Y⟩=Z (I O R.W.o):=a.head.Ri 10;by_cases T:num=R.W.o
 .have l:=aa T;go_wp2_with fail;go_end0
  try rw[if_pos l.out]
  exact⟨rfl,p.dv,p.hv,a,λk P=>Ub P,an.ag f⟩
 have l:=aa T;obtain⟨a4,dc,g⟩:=ak a.rows.wd.due;obtain⟨ha,a6,h⟩:=ak a.rows.wd.held;have c9:w1.cell? ⟨r,9,Y⟩=Z (Q a4 R.W.due.length dc):=g▸a.head.Ri 9;have a1:w1.cell? ⟨r,11,Y⟩=Z (Q ha R.W.hs.length a6):=h▸a.head.Ri 11;have a2:w1.cell? ⟨r,12,Y⟩=Z (I O R.W.sr):=a.head.Ri 12;have a3:w1.cell? ⟨r,13,Y⟩=Z (I O R.W.tp):=a.head.Ri 13;have i:=qE r R.c d.ll R.now d.now.1 d.now.2 p.dv p.hv R.W _ w1 a.cfg (a.head.Ri 8) (d.doc (by omega)) a.rows.wd (by have:=d.dues;omega) (by have:=d.len;omega);unfold Ki wv at i;rw[g,h]at i;change Hid _ at g h;go_wp2_with fail;refine i.mono ?_;clear i c9 a0 a1 a2 a3;rintro e w2 ⟨a5,a8,rfl,j,G,J,u,-⟩;generalize B:dL (qF R.c R.W.o R.W.hs) (R.now / R.c 0) R.W=WT at *;change Hid _ at B;have A:=aa (a.keep u);have V:=aa (f.trans (u.mono f.size));have v:=f.size;have s:=A.Pu j (n0:=w.heap.size) x (λk P=>(G k P).imp (λe=>by rw[g.out];exact e) λe=>eb v e) (λk P=>(J k P).imp (λe=>by rw[h.out];exact e) λe=>eb v e);obtain⟨d9,f9,a9,b5,b0,b6,b1,b7,b2,b8,a7,y⟩:=A.sW a5 a8 WT;obtain⟨b3,b4,E⟩:=ak j.due;obtain⟨b9,c0,M⟩:=ak j.held;subst E;subst M;change Hid _ at s y;clear j G J u v a7;go_wp2_with fail;go_end0
 try rw[if_neg l.out]
 rw[show wt R.c R.tt R.W=WT from B.out];exact⟨rfl,_,_,s.1,s.2,(an.ag V).trans y⟩
variable {w0 w w' w1 : N} {r n m n0 X ba cap : Nat} {bs : List Nat} {R R' : Rn} {p p' : Rp} {F F' : List Nat} {S S' : Dk} {o : Ac} {D D' : Dn} {q q' : Pl} {K : List (Int × List Rc)} {b : List Rc} {H : Hs} {W' : Wd} {dv hv : Wb}
theorem Lr.mono (h:Lr R D K b H n)(a:n<=m):Lr R D K b H m:={h with dl:=h.dl.mono a,eZ:=h.eZ.mono a}
theorem Dr.mono (h:Dr R S n)(a:n<=m):Dr R S m:=
 {h with all:=h.all.imp λ_ b=>⟨b.1.mono a,b.2⟩,bd:=h.bd.mono a,len:=eb h.len a,lines:=eb h.lines a,dues:=eb h.dues a,eZ:=λV c=>(h.eZ V c).mono a}
theorem LM.same (h:LM w0 w r R p X D q K b H n)(a:Below w.heap.size w w')(e:n<=m)(g:lT R o=R.W)(f:¬(o.a1=2/\¬(o.a2<=R.now\/1000000000<o.a2))):Sq w w' r R o p (df X q) m:=
 ⟨R,p,df X q,h.ra.keep a,Ub ⟨X,D,q,K,b,H,rfl,h.xv,h.bx,h.da.keep a,h.lr.mono e⟩,⟨ad _,rfl⟩,λ_ c=>Ub c,an.ag a,λd=>⟨d,h.lr.sp,rfl,g.symm,(if_neg f).symm⟩⟩
theorem LM.cD {R1:Rn}(h:LM w0 w r R p X D q K b H n)(g:RA w' r {R1 with sp:=true,d:=o} p (df X q'))(a:p.bx=q'.bx)(c:DA w' X D' q')(j:∀k∈df X q',k∈df X q\/w.heap.size<=k)(t:an ((r ::lb p)++df X q) w w')(i:D'.cD=true)(f:Dr (tG R1 o) D'.S m)(s:R.lim=true):Sq w w' r R o p (df X q) m:=
 ⟨tG R1 o,p,df X q',g.ghost (R1.W.o ::R1.sl),ed (Ub ⟨X,D',q',rfl,h.xv,a,c,i,rfl,f⟩),⟨ad _,rfl⟩,λk l=>(Za.1 l).elim (λe=>Ub (Va _ e)) λe=>(j k e).imp (Wa _) id,t,λe=>absurd (s.symm.trans e) (by decide)⟩
theorem Qs (h:DA w X D q)(b:D.cD=false){s:ByteArray}(d:256<s.size):
  vd Zb 32 #[ca (Z ⟨X,0,Y⟩),L s] w λe w'=>e=Ua (I O 3)/\w'=w:=by
 have a:=h.head.Ri 12;rw[b]at a;have c:(256:Int)<(s.size:Int):=by omega
 clear h;go_in;go_wp2_with fail;go_ret;exact⟨rfl,rfl⟩
set_option maxRecDepth 10000 in
theorem LJ (h:LM w0 w r R p X D q K b H n)(hn:n<=7000000)(H1:o.a1=1)(o9:o.s.size<=1000000000):
  vd Zb 18 #[ca (Z ⟨r,0,Y⟩),.agg o.cs] w λe w'=>e=Ua (.tuple #[])/\Sq w w' r R o p (df X q) (n+o.s.size+2):=by
 have f8:=aa (Ac.new o w);have g1:=aa (ai (w:=w) (.cells o.cs 37));have b8:=aa (h.keep g1);have l:=aa h;change Hid _ at H1;clear h;unfold Ac.cs at *;go_in;go_upto_region 1 with fail;generalize w.alloc (.cells #[I O o.a0,I O o.a1,I O o.a2,I O o.a3,L o.s] 37)=w1 at *;generalize i9:w.heap.size=ab at f8 ⊢;change Hid _ at i9;have i5:=uq b8.ra b8.pd b8.lr.gd b8.lr.dl.bd (by omega);generalize HU:pr D.S=u at i5;change Hid _ at HU;go_wp2_with fail;refine i5.mono ?_;clear i5;rintro e w2 ⟨rfl,e5⟩;have j0:=aa (g1.trans (e5.mono g1.size));have j6:=aa (b8.keep e5);have c8:=aa (Mem.af.below f8 e5 f8.lt);clear e5;have C6:∀q:Bw w2,q.val.cell? ⟨r,6,Y⟩=Z (ca (Z ⟨X,0,Y⟩)):=λq=>(j6.keep q.is).c6
 have C4:∀q:Bw w2,q.val.cell? ⟨ab,4,Y⟩=Z (L o.s):=λq=>(Mem.af.below c8 q.is c8.lt).Ri 4
 go_wp2_with fail;refine bg 6 ?_;simp only[Wc,zd,Xc,Ud];repeat go_big_quiet_step (fail)
 refine Yb ?_;intro s3;have g2:=aa (j0.trans (s3.is.mono j0.size));have d3:=aa (j6.keep s3.is);have i7:=aa (Mem.af.below c8 s3.is c8.lt);clear C6 C4;generalize s3.val=w3 at *;by_cases i1:256<o.s.size
 .have m1:=Qs d3.da l.lr.tM i1;have n7:(256:Int)<(o.s.size:Int):=by omega
  go_wp2_with fail;refine m1.mono ?_;clear m1;rintro e w4 ⟨rfl,rfl⟩;have c4:=i7.Ri 4;go_wp2_with fail;refine(Check.num _ _).mono ?_;rintro e w5 ⟨rfl,rfl⟩;go_wp2_with fail;refine(dX r _).mono ?_;rintro e w6 ⟨rfl,rfl⟩;go_wp2_with fail;refine Ze (results_none rfl _ _ _) rfl ?_;have e1:=H1.out;exact⟨rfl,l.same g2 (by omega) (by unfold lT;rw[if_neg (λe=>by omega),if_neg (λe=>by omega),if_neg (by omega),if_neg (by omega)]) (λe=>by omega)⟩
 have J:o.s.size<=256:=by omega
 have n7:¬(256:Int)<(o.s.size:Int):=by omega
 have i4:=Cs d3.gx (by omega) d3.lr.tM o.s J;have j2:=aa (l.lr.vv (o:=o) (by omega) H1 J);obtain⟨D',ce,m8⟩:∃D' ce,ew D o.s=(D',ce):=⟨_,_,rfl⟩;rw[m8]at i4 j2;clear m8;go_wp2_with fail;refine i4.mono ?_;clear i4;rintro e w4 ⟨rfl,hq⟩;obtain⟨q',l4,f4,f2,l8,i2⟩:=d3.call hq;have g3:=aa l4;have c0:=aa f4;have d0:=aa f2;have g6:=aa (show ∀k∈df X q',k∈df X q\/w.heap.size<=k from λk a=>(l8 k a).imp id λe=>eb g2.size e);have g8:Hid (an (df X q) w w4):=(an.ag g2).trans i2;have F:=aa (Foot.af.off i7 i2 λhm=>by
  have H1:=l.lt ab (Wa _ hm);have h2:=i9.out;omega)
 clear hq l4 f4 f2 l8 i2;obtain⟨b0,b1,b2,b3,b4⟩:w4.cell? ⟨ab,0,Y⟩=Z (I O o.a0)/\w4.cell? ⟨ab,1,Y⟩=Z (I O o.a1)/\w4.cell? ⟨ab,2,Y⟩=Z (I O o.a2)/\w4.cell? ⟨ab,3,Y⟩=Z (I O o.a3)/\w4.cell? ⟨ab,4,Y⟩=Z (L o.s):=
  ⟨F.Ri 0,F.Ri 1,F.Ri 2,F.Ri 3,F.Ri 4⟩
 rcases j2.out with ⟨c3,⟨K',b',H',c5⟩,e3⟩|⟨hl,c3,sl,K',b',H',c5⟩|⟨hl,c3,k0,l7⟩
 rotate_left
 .obtain rfl:ce=7:=c3;have d2:=aa c5;have g7:=aa hl;have G:=uV (o:=o) c0 hl (by have:=H1.out;omega);unfold Ac.cs at G;clear hl c5;go_wp2_with fail;refine G.mono ?_;clear G b0 b1 b2 b3 b4;rintro e w5 ⟨rfl,x⟩;have d:=aa (c0.keep x);have b6:=aa (g3.keep x);have B:=aa (g8.trans (an.ag x));clear x;have a6:w5.cell? ⟨r,17,Y⟩=Z (.bool R.sp):=d.head.Ri 17;rw[l.lr.sp]at a6;have m5:=yv d l.xv b6 d2.dl (by omega) (l.T.below (l.b0.trans (B.below (λk a=>l.far k (Wa _ a)) l.b0.size))) (l.lr.dr.mono (ad n)) (λk a=>(Za.1 a).elim (d.lt k) (b6.lt k));go_wp2_with fail;refine m5.mono ?_;clear m5 a6;rintro e w6 ⟨rfl,dv,hv,f5,d5,i3⟩;have n2:=aa (f5.ghost sl);have b7:=aa (b6.off i3 λk a e=>d.ap r (Ya ..) (Xa.1 e▸a));change Hid _ at d5;have d7:=aa i3;clear f5 i3;go_wp2_with fail;go_end0;refine⟨rfl,_,_,df X q',n2,Ub ⟨X,D',q',K',b',H',rfl,l.xv,d0,b7,d2.mono (by omega)⟩,⟨ad _,rfl⟩,λk a=>?_,(B.mono λk _ a=>Wa _ a).trans (d7.mono λk _ a=>Xa.1 a▸Va _ (Ya ..)),λe=>absurd (g7.symm.trans e) (by decide)⟩;rcases Za.1 a with a|a
  .rcases Uc.1 a with a|a
   .exact Ub (a▸Va _ (Ya ..))
   exact(d5.out k a).imp (λe=>Va _ (qb _ e)) λe=>eb B.size e
  exact(g6.out k a).imp (Wa _) id
 .obtain rfl:ce=6:=c3;have n1:=aa l7;change Hid _ at k0;have g7:=aa hl;have G:=qo (o:=o) c0 hl;unfold Ac.cs at G;clear hl l7;go_wp2_with fail;refine G.mono ?_;clear G b0 b1 b2 b3 b4;rintro e w5 ⟨rfl,c7,m3⟩;have d:=aa c7;have B:=aa m3;have a6:w5.cell? ⟨r,17,Y⟩=Z (.bool true):=c7.head.Ri 17;clear c7 m3;go_wp2_with fail;go_end0;exact⟨rfl,l.cD d d0 (g3.off B λk a e=>c0.ap r (Ya ..) (Xa.1 e▸a)) g6 ((g8.mono λk _ a=>Wa _ a).trans (B.mono λk _ a=>Xa.1 a▸Va _ (Ya ..))) k0 (n1.mono (by omega)) g7⟩
 obtain rfl:ce=0:=c3;have d2:=aa c5;change Hid _ at e3;clear c5;go_wp2_with fail;refine(qm r o.a0 o.a1 o.a2 o.a3 o.s w4).mono ?_;clear b0 b1 b2 b3 b4;rintro e w5 ⟨rfl,x⟩;have d:=aa (c0.keep x);have g0:=aa (Mem.af.below F x F.lt);have b6:=aa (g3.keep x);have B:=aa (g8.trans (an.ag x));clear x;have a6:w5.cell? ⟨r,17,Y⟩=Z (.bool R.sp):=d.head.Ri 17;rw[l.lr.sp]at a6;have e4:=g0.Ri 4;have p2:Vd.wrap ((o.s.size:Int)+32)=(o.s.size:Int)+32:=Zc _ (by omega);go_wp2_with fail;obtain⟨ha,h9,i0⟩:=ak d.rows.wd.held;obtain⟨da,dc,l5⟩:=ak d.rows.wd.due;have j4:=aa i0;have g5:=aa l5;have b5:=aa (λq:Bw w5=>
  have hh:=(d.keep q.is).head;show q.val.cell? ⟨r,8,Y⟩=Z (I O R.now)/\q.val.cell? ⟨r,0,Y⟩=Z (I O (R.c 0))/\q.val.cell? ⟨r,10,Y⟩=Z (I O R.W.o)/\q.val.cell? ⟨r,11,Y⟩=Z (Q ha R.W.hs.length h9) from⟨hh.Ri 8,hh.Ri 0,hh.Ri 10,i0▸hh.Ri 11⟩)
 have C8:=λq=>(b5.out q).1
 have C0:=λq=>(b5.out q).2.1
 have f6:=λq=>(b5.out q).2.2.1
 have f7:=λq=>(b5.out q).2.2.2
 obtain⟨o6,o1,o2,e9,f3,n8,n9⟩:=l.tt;have o8:¬R.c 0=0:=by omega
 have j1:=aa f3;have m9:=aa (l.lr.dr.doc (by omega));generalize m6:R.tt=tt at e9 o1 o2 e3;have h4:Hid (R.now / R.c 0=tt):=m6;have i6:Vd.wrap tt=tt:=Zc _ (by omega);have o7:R.W.due.length<=n:=l.lr.dr.dues;have n6:R.W.hs.length<=n:=l.lr.dr.len;have h6:=aa (show ∀m:Nat,(if R.W.o<tt/\R.W.hs≠[] then 15 else 0)+o.s.size+32<=m->pr D'.S<0\/u<0\/pr D'.S<=u+m from λm hm=>HU.out▸vK (by have:Dm.used D'.S.ah<=_:=e3;omega));have k1:Hid (-1<=u/\u<=10000000000):=HU.out▸sJ l.lr.dl.bd (by omega);clear f3 i0 l5 m6 a6 e4 b5 e3;have h3:(R.W.o<tt/\R.W.hs.length=0)\/(R.W.o<tt/\¬R.W.hs.length=0)\/¬R.W.o<tt:=by omega
 rcases h3 with ⟨e6,e8⟩|⟨e6,e8⟩|e6
 case' inl=>
  have m2:¬(0:Int)<(R.W.hs.length:Int):=by omega
  have d6:=aa (h6.out (o.s.size+32) (by rw[if_neg (λe=>e.2 (List.length_eq_zero_iff.1 e8))];omega));clear e8;refine aU ?_;repeat go_big_quiet_step (fail)
  refine Yb ?_;rintro _ ⟨s6,rfl⟩;have a5:=aa s6.is;clear C8 C0 f6 f7 e9 i6;generalize s6.val=w6 at *;go_wp2_with fail;obtain⟨mz,e7⟩:∃mz:Nat,mz=o.s.size+32:=⟨_,rfl⟩;rw[show (o.s.size:Int)+32=(mz:Int) by omega]
 case' inr.inl=>
  have m2:(0:Int)<(R.W.hs.length:Int):=by omega
  have d6:=aa (h6.out (o.s.size+32+64) (by split<;>omega));clear e8;have o4:Vd.wrap ((o.s.size:Int)+32+64)=(o.s.size:Int)+32+64:=Zc _ (by omega);refine aU ?_;repeat go_big_quiet_step (fail)
  refine Yb ?_;rintro _ ⟨s6,rfl⟩;have a5:=aa s6.is;clear C8 C0 f6 f7 e9 i6;generalize s6.val=w6 at *;go_wp2_with fail;obtain⟨mz,e7⟩:∃mz:Nat,mz=o.s.size+32+64:=⟨_,rfl⟩;rw[show (o.s.size:Int)+32+64=(mz:Int) by omega]
 case' inr.inr=>
  have d6:=aa (h6.out (o.s.size+32) (by rw[if_neg (λe=>e6 e.1)];omega));refine aU ?_;repeat go_big_quiet_step (fail)
  refine Yb ?_;rintro _ ⟨s6,rfl⟩;have a5:=aa s6.is;clear C8 C0 f6 f7 e9 i6;generalize s6.val=w6 at *;go_wp2_with fail;obtain⟨mz,e7⟩:∃mz:Nat,mz=o.s.size+32:=⟨_,rfl⟩;rw[show (o.s.size:Int)+32=(mz:Int) by omega]
 all_goals
  try clear m2
  rw[<-e7]at d6;have o3:mz<=1000:=by omega
  clear e6 e7;have e0:=aa (d.keep a5);have i8:=aa (Mem.af.below g0 a5 g0.lt);have b7:=aa (b6.keep a5);have d7:=aa (B.trans (an.ag a5));have A:=aa (show ∀W,Below w6.heap.size w6 W->(W.cell? ⟨r,9,Y⟩=Z (Q da R.W.due.length dc)/\W.cell? ⟨r,10,Y⟩=Z (I O R.W.o)/\W.cell? ⟨r,11,Y⟩=Z (Q ha R.W.hs.length h9)/\W.cell? ⟨r,12,Y⟩=Z (I O R.W.sr)/\W.cell? ⟨r,13,Y⟩=Z (I O R.W.tp)/\W.cell? ⟨ab,4,Y⟩=Z (L o.s)) from λW z=>
   have hh:=(e0.keep z).head
   ⟨g5.out▸hh.Ri 9,hh.Ri 10,j4.out▸hh.Ri 11,hh.Ri 12,hh.Ri 13,(Mem.af.below i8 z i8.lt).Ri 4⟩)
  refine dS (λW=>Below w6.heap.size w6 W) 10 (by kernel_rfl) ?_;have f:Hid (Below w6.heap.size w6 w6.drew):=(Ve _ _).drew;generalize w6.drew=wd at *;refine Tu (i:=0) (v:=ca (Z ⟨r,0,Y⟩)) rfl (by intro W z;obtain⟨k9,M,P,U,V,k4⟩:=A.out W z;go_simp) f ?_;refine Tu (i:=1) (v:=ca (Z ⟨r,0,Y⟩)) rfl (by intro W z;obtain⟨k9,M,P,U,V,k4⟩:=A.out W z;go_simp) f ?_;refine Tu (i:=2) (v:=ca (Z ⟨r,0,Y⟩)) rfl (by intro W z;obtain⟨k9,M,P,U,V,k4⟩:=A.out W z;go_simp) f ?_;refine Tu (i:=3) (v:=ca (Z ⟨r,0,Y⟩)) rfl (by intro W z;obtain⟨k9,M,P,U,V,k4⟩:=A.out W z;go_simp) f ?_;refine Tu (i:=4) (v:=ca (Z ⟨r,9,Y⟩)) rfl (by intro W z;obtain⟨k9,M,P,U,V,k4⟩:=A.out W z;go_simp) f ?_;refine Tu (i:=5) (v:=.agg #[Q da R.W.due.length dc,I O R.W.o,Q ha R.W.hs.length h9,I O R.W.sr,I O R.W.tp]) rfl (by intro W z;obtain⟨k9,M,P,U,V,k4⟩:=A.out W z;go_simp) f ?_;refine Tu (i:=7) (v:=ca (Z ⟨ab,4,Y⟩)) rfl (by intro W z;obtain⟨k9,M,P,U,V,k4⟩:=A.out W z;go_simp) f ?_;refine Tu (i:=8) (v:=L o.s) rfl (by intro W z;obtain⟨k9,M,P,U,V,k4⟩:=A.out W z;go_simp) f ?_;have h0:=aa (e0.keep f);have f0:=qE r R.c j1 R.now n8 n9 p.dv p.hv R.W _ wd h0.cfg (h0.head.Ri 8) m9 h0.rows.wd (by omega) (by omega);unfold Ki wv at f0;rw[h4.out,g5.out,j4.out]at f0;refine aW (j:=6) (λK hK=>?_);go_simp;refine f0.mono ?_;clear f0;rintro e w7 ⟨o5,p0,rfl,E,f1,l9,l3,-⟩;generalize h7:dL (qF R.c R.W.o R.W.hs) tt R.W=g at *;have k2:=aa h7;have m7:g.hs.length<=1000000000:=by
   rw[<-h7];unfold dL;repeat' split
   all_goals first|exact eb n6 (by omega)|exact Wf _
  obtain⟨a7,a8,l6⟩:=ak E.due;obtain⟨n4,n5,m0⟩:=ak E.held;subst l6;subst m0;have c9:=aa (f.trans (l3.mono f.size));refine hK _ _ (λ_=>c9) ?_;clear hK K h7;have htk:=Jz a7 g.due.length a8 g.o g.sr g.tp (Q n4 g.hs.length n5) g.hs o.s w7 E.held m7;unfold wv at htk;have n3:=aa E;change Hid _ at f1;clear E l9 l3 m7;refine aW (j:=9) (λK hK=>?_);go_simp;refine htk.mono ?_;clear htk;rintro e w8 ⟨p1,rfl,y,h8⟩;obtain⟨c1,c2,rfl⟩:=ak y;have a9:=aa (c9.trans (h8.mono c9.size));have e2:=aa (e0.keep a9);have b9:=e2.Pu (W':=th g o.s) (dv:=Q a7 g.due.length a8) (hv:=Q c1 (g.hs++[o.s]).length c2) ⟨(n3.keep h8).due,Apn.weaken y⟩ (n0:=w6.heap.size) (λk a=>(Za.1 a).elim (e0.lt k) (b7.lt k)) (λk a=>(f1.out k a).imp (λe=>by rw[g5.out];exact e) λe=>eb f.size e) (λk a=>ed (eb c9.size (nU y k a)));refine hK _ _ (λ_=>a9) ?_;obtain⟨d9,f9,k3,k8,k5,l0,k6,l1,k7,l2,o0,m4⟩:=e2.sW (Q a7 g.due.length a8) (Q c1 (g.hs++[o.s]).length c2) (th g o.s);change Hid _ at b9;have d8:=aa m4;clear hK K y h8 m4 o0;simp only[th]at d9 k3 k5 k6 k7 f9 k8 l0 l1 l2;generalize (g.hs++[o.s]).length=nl at *;refine aW (j:=10) (λK hK=>?_);go_simp;refine hK _ _ (λh=>absurd h (by decide)) ?_;clear hK K;refine aW (j:=11) (λK hK=>?_);go_simp;refine hK _ _ (λh=>absurd h (by decide)) ?_;clear hK K;refine aW (j:=12) (λK hK=>?_);go_simp;refine hK _ _ (λh=>absurd h (by decide)) ?_;clear hK K;refine Tz ?_;clear d9 f9 k3 k8 k5 l0 k6 l1 k7 l2;have d4:=aa (show Lr {eV R with W:=th g o.s} D' K' b' H' (n+o.s.size+2) from by
   have h5:=d2.out;rw[show (eV R).W=g from(congrArg (λt=>dL (qF R.c R.W.o R.W.hs) t R.W) h4).trans k2]at h5;exact h5)
  have j8:=aa (show PD (W5 w8 r (Q a7 g.due.length a8) (Q c1 nl c2) (th g o.s)) p.bx D'.S q'.ba q'.cap q'.bs from
   d0.out▸((b7.keep a9).off d8 λk a e=>e2.ap r (Ya ..) (Xa.1 e▸a)).pd)
  have g4:=aa ((b7.keep a9).off d8 λk a e=>e2.ap r (Ya ..) (Xa.1 e▸a));have d1:=aa (xf b9.1 j8 d4.gd d4.dl.bd (by omega) u mz k1.1 k1.2 (by omega) d6 (λH1 h2=>absurd h2 (by simp[th])));have g9:Hid (an ((r ::lb p)++df X q) w (W5 w8 r (Q a7 g.due.length a8) (Q c1 nl c2) (th g o.s))):=((d7.trans (an.ag a9)).mono λk _ a=>Wa _ a).trans (d8.mono λk _ a=>Xa.1 a▸Va _ (Ya ..));have h1:=aa (b9.1.ghost (R.W.o ::R.sl));have d5:=aa b9.2;clear b9 d8 j8;have j5:=aa d4.out;unfold W5 at d1 g9 h1 g4;simp only[th]at d1 g9 h1 g4 d4;generalize ((((w8.setCell ⟨r,9,Y⟩ (Q a7 g.due.length a8)).setCell ⟨r,10,Y⟩ (I O g.o)).setCell ⟨r,11,Y⟩ (Q c1 nl c2)).setCell ⟨r,12,Y⟩ (I O g.sr)).setCell ⟨r,13,Y⟩ (I O g.tp)=w9 at *;go_wp2_with fail;refine d1.mono ?_;rintro e p3 ⟨rfl,a4⟩;have j9:=aa (h1.keep a4);have j3:=aa (g4.keep a4);have j7:=aa (g9.trans (an.ag a4));clear a4 d1;go_wp2_with fail;go_end0;refine⟨rfl,_,_,df X q',j9,Ub ⟨X,D',q',K',b',H',rfl,l.xv,d0,j3,j5⟩,⟨ad _,rfl⟩,λk a=>?_,j7,λhl=>⟨hl,l.lr.sp,rfl,by unfold lT;rw[if_pos ⟨H1,J⟩,<-k2.out,<-h4.out];rfl,by rw[if_neg (λe=>by have:=H1.out;omega)]⟩⟩;rcases Za.1 a with a|a
  .rcases Uc.1 a with a|a
   .exact Ub (a▸Va _ (Ya ..))
   exact(d5.out k a).imp (λe=>Va _ (qb _ e)) λe=>eb d7.size e
  exact(g6.out k a).imp (Wa _) id
variable {w0 w w' w1 : N} {r n m n0 X ba cap : Nat} {bs : List Nat} {R R' : Rn} {p p' : Rp} {F F' : List Nat} {S S' : Dk} {o : Ac} {D D' : Dn} {q q' : Pl} {K K' : List (Int × List Rc)} {b b' : List Rc} {H H' : Hs} {W' : Wd} {dv hv : Wb}
theorem LM.live (h:LM w0 w r R p X D q K b H n)(j:RA w' r R' p' (df X q'))(d:p'.xv=p.xv/\p'.bx=q'.bx/\p'.ls=p.ls)(f:DA w' X D' q')(i:Lr R' D' K' b' H' m)(g:∀k∈lb p',k∈lb p\/w.heap.size<=k)(s:∀k∈df X q',k∈df X q\/w.heap.size<=k)(t:an ((r ::lb p)++df X q) w w')
  (l:R.lim=false->R'.lim=false/\R'.sp=false/\R'.c=R.c/\R'.W=lT R o/\R'.now=if o.a1=2/\¬(o.a2<=R.now\/1000000000<o.a2) then o.a2 else R.now):Sq w w' r R o p (df X q) m:=
 ⟨R',p',df X q',j,Ub ⟨X,D',q',K',b',H',rfl,d.1.trans h.xv,d.2.1,f,i⟩,⟨by rw[d.2.2];exact ad _,d.1⟩,λk a=>by
  rcases Za.1 a with a|a
  .rcases Uc.1 a with a|a
   .exact Ub (a▸Va _ (Ya ..))
   exact(g k a).imp (λe=>Va _ (qb _ e)) id
  exact(s k a).imp (Wa _) id,t,l⟩
theorem pQ {A C:List Nat}(h:an C w w1)(b:an [r] w1 w'):an ((r ::A)++C) w w':=
 (h.mono λ_ _ a=>Wa _ a).trans (b.mono λ_ _ a=>Xa.1 a▸Va _ (Ya ..))
theorem Hz {A C:List Nat}(h:an C w w1):an (A++C) w w1:=h.mono λ_ _ a=>Wa _ a
theorem RA.lq (h:RA w r R p (df X q))(a:DA w X D q)(c:an [r] w w'):DA w' X D q:=a.off c λ_ b e=>h.ap r (Ya ..) (Xa.1 e▸b)
set_option maxRecDepth 10000 in
theorem QT (h:LM w0 w r R p X D q K b H n)(hn:n<=7000000)(H1:o.a1=3):
  vd Zb 20 #[ca (Z ⟨r,0,Y⟩),.agg o.cs] w λe w'=>e=Ua (.tuple #[])/\Sq w w' r R o p (df X q) (n+o.s.size+2):=by
 have B:=aa (Ac.new o w);have E:=aa (ai (w:=w) (.cells o.cs 37));have d:=aa (h.keep E);have HL:=aa h;change Hid _ at H1;clear h;unfold Ac.cs at *;go_in;go_upto_region 1 with fail;generalize w.alloc (.cells #[I O o.a0,I O o.a1,I O o.a2,I O o.a3,L o.s] 37)=w1 at *;generalize a4:w.heap.size=ab at B ⊢;change Hid _ at a4;have V:=uq d.ra d.pd d.lr.gd d.lr.dl.bd (by omega);generalize HU:pr D.S=u at V;change Hid _ at HU;go_wp2_with fail;refine V.mono ?_;clear V;rintro e w3 ⟨rfl,l⟩;have a5:=aa (E.trans (l.mono E.size));have j:=aa (d.keep l);have c9:=aa (Mem.af.below B l B.lt);clear l;have c6:=j.c6;have U:=Ny j.gx (by omega) j.lr.tM;have a6:=aa (HL.lr.sync (o:=o) H1);obtain⟨D',ce,c8⟩:∃D' ce,kS D=(D',ce):=⟨_,_,rfl⟩;rw[c8]at U a6;clear c8;go_wp2_with fail;refine U.mono ?_;clear U c6;rintro e w4 ⟨rfl,hq⟩;obtain⟨q',c0,y,x,c2,T⟩:=j.call hq;have a7:=aa c0;have J:=aa y;have F:=aa x;have a9:=aa (show ∀k∈df X q',k∈df X q\/w.heap.size<=k from λk hk=>(c2 k hk).imp id λe=>eb a5.size e);have b5:Hid (an (df X q) w w4):=(an.ag a5).trans T;have c:=aa (Foot.af.off c9 T λhm=>by
  have H1:=HL.lt ab (Wa _ hm);have h2:=a4.out;omega)
 clear hq c0 y x c2 T;obtain⟨b0,b1,b2,b3,b4⟩:w4.cell? ⟨ab,0,Y⟩=Z (I O o.a0)/\w4.cell? ⟨ab,1,Y⟩=Z (I O o.a1)/\w4.cell? ⟨ab,2,Y⟩=Z (I O o.a2)/\w4.cell? ⟨ab,3,Y⟩=Z (I O o.a3)/\w4.cell? ⟨ab,4,Y⟩=Z (L o.s):=
  ⟨c.Ri 0,c.Ri 1,c.Ri 2,c.Ri 3,c.Ri 4⟩
 rcases a6.out with ⟨M,c5,c7⟩|⟨hl,M,b7,c1⟩
 rotate_left
 .obtain rfl:ce=6:=M;have d2:=aa c1;change Hid _ at b7;have d3:=aa hl;have P:=qo (o:=o) J hl;unfold Ac.cs at P;clear hl c1;go_wp2_with fail;refine P.mono ?_;clear P b0 b1 b2 b3 b4;rintro e w5 ⟨rfl,z,f⟩;have a:=aa z;change Hid _ at f;clear z;go_wp2_with fail;go_end0;exact⟨rfl,HL.cD a F (J.lq a7 f) a9 (pQ b5 f) b7 (d2.mono (by omega)) d3⟩
 obtain rfl:ce=0:=M;have i:=aa c5;have b9:=aa (vK (m:=64) (show Dm.used D'.S.ah<=Dm.used D.S.ah+64 from eb (Nat.le_of_eq c7) (Nat.le_add_right ..)));rw[HU.out]at b9;have b8:Hid (-1<=u/\u<=10000000000):=HU.out▸sJ HL.lr.dl.bd (by omega);clear c5 c7;go_wp2_with fail;refine(qm r o.a0 o.a1 o.a2 o.a3 o.s w4).mono ?_;clear b0 b1 b2 b3 b4;rintro e w5 ⟨rfl,t⟩;have a:=aa (J.keep t);have d0:=aa (a7.keep t);have f:=aa (b5.trans (an.ag t));clear t;obtain⟨ha,d9,c4⟩:=ak a.rows.wd.held;have g:=a.head;unfold fe at g;have d6:w5.cell? ⟨r,11,Y⟩=Z (Q ha R.W.hs.length d9):=c4▸a.head.Ri 11;have d7:=g.Ri 12;have d8:=g.frozen 12;have G:Hid (an [r] w5 (w5.setCell ⟨r,12,Y⟩ (I O (R.W.hs.length:Int)))):=(an.refl _ _).set (Xa.2 rfl) _ _;have b6:=aa (show RA (w5.setCell ⟨r,12,Y⟩ (I O (R.W.hs.length:Int))) r {R with W:={R.W with sr:=(R.W.hs.length:Int)}} p (df X q') from
  a.set G (g.set 12 (I O (R.W.hs.length:Int))) ⟨rfl,rfl⟩ rfl rfl ⟨rfl,rfl,rfl⟩)
 have a8:=aa (a.lq d0 G);have c3:=xf b6 (F.out▸a8.pd) i.gd i.dl.bd (by omega) u 64 b8.1 b8.2 (by omega) b9 i.small;clear g c4;go_wp2_with fail;refine c3.mono ?_;clear c3 d6 d7 d8;rintro e w8 ⟨rfl,v⟩;have d5:=aa (b6.keep v);have d1:=aa (a8.keep v);have d4:=aa ((pQ (A:=lb p) f G).trans (an.ag v));clear v;go_wp2_with fail;go_end0;exact⟨rfl,HL.live d5 ⟨rfl,F,rfl⟩ d1 (i.mono (by omega)) (λ_ hk=>Ub hk) a9 d4 λhl=>⟨hl,HL.lr.sp,rfl,by have:=H1.out;unfold lT;rw[if_neg (λe=>by omega),if_neg (λe=>by omega),if_pos this],by rw[if_neg (λe=>by have:=H1.out;omega)]⟩⟩
set_option maxRecDepth 10000 in
theorem NW (h:LM w0 w r R p X D q K b H n)(hn:n<=7000000)(H1:o.a1=2):
  vd Zb 19 #[ca (Z ⟨r,0,Y⟩),.agg o.cs] w λe w'=>e=Ua (.tuple #[])/\Sq w w' r R o p (df X q) (n+o.s.size+2):=by
 have d4:=aa (Ac.new o w);have d6:=aa (ai (w:=w) (.cells o.cs 37));have V:=aa (h.keep d6);have d:=aa h;change Hid _ at H1;clear h;unfold Ac.cs at *;go_in;go_upto_region 1 with fail;generalize w.alloc (.cells #[I O o.a0,I O o.a1,I O o.a2,I O o.a3,L o.s] 37)=w1 at *;generalize d5:w.heap.size=ab at d4 ⊢;change Hid _ at d5;have f5:=uq V.ra V.pd V.lr.gd V.lr.dl.bd (by omega);generalize HU:pr D.S=u at f5;change Hid _ at HU;go_wp2_with fail;refine f5.mono ?_;clear f5;rintro e w2 ⟨rfl,c5⟩;have f7:=aa (d6.trans (c5.mono d6.size));have g3:=aa (V.keep c5);have b6:=aa (Mem.af.below d4 c5 d4.lt);clear c5;have C6:∀q:Bw w2,q.val.cell? ⟨r,6,Y⟩=Z (ca (Z ⟨X,0,Y⟩)):=λq=>(g3.keep q.is).c6
 have C2:∀q:Bw w2,q.val.cell? ⟨ab,2,Y⟩=Z (I O o.a2):=λq=>(Mem.af.below b6 q.is b6.lt).Ri 2
 go_wp2_with fail;refine bg 6 ?_;simp only[Wc,zd,Xc,Ud];repeat go_big_quiet_step (fail)
 refine Yb ?_;intro s3;have g0:=aa (f7.trans (s3.is.mono f7.size));have e1:=aa (g3.keep s3.is);have j0:=aa (Mem.af.below b6 s3.is b6.lt);clear C6 C2;generalize s3.val=w3 at *;have f3:=FW e1.gx (by omega) e1.lr.tM o.a2;have b8:=aa (λht=>d.lr.clock (o:=o) (by omega) H1 ht);have d8:=aa (show (o.a2<=R.now\/1000000000<o.a2)->fg D o.a2=(D,0) from λe=>if_pos (d.lr.now▸e));obtain⟨D',ce,i6⟩:∃D' ce,fg D o.a2=(D',ce):=⟨_,_,rfl⟩;rw[i6]at f3 b8 d8;clear i6;go_wp2_with fail;refine f3.mono ?_;clear f3;rintro e w4 ⟨rfl,hq⟩;obtain⟨q',h1,d3,d2,h7,f0⟩:=e1.call hq;have g2:=aa h1;have e5:=aa d3;have J:=aa d2;have c1:=aa (show ∀k∈df X q',k∈df X q\/w.heap.size<=k from λk f=>(h7 k f).imp id λe=>eb g0.size e);have g6:Hid (an (df X q) w w4):=(an.ag g0).trans f0;have b7:=aa (Foot.af.off j0 f0 λhm=>by
  have H1:=d.lt ab (Wa _ hm);have h2:=d5.out;omega)
 clear hq h1 d3 d2 h7 f0;have C2:∀q:Bw w4,q.val.cell? ⟨ab,2,Y⟩=Z (I O o.a2):=λq=>(Mem.af.below b7 q.is b7.lt).Ri 2
 have C8:∀q:Bw w4,q.val.cell? ⟨r,8,Y⟩=Z (I O R.now):=λq=>(e5.keep q.is).head.Ri 8
 go_wp2_with fail;by_cases g:o.a2<=R.now\/1000000000<o.a2
 .have hx:=d8.out g;obtain rfl:D'=D:=congrArg Prod.fst hx;obtain rfl:ce=0:=congrArg Prod.snd hx;have i9:=aa (show ∀w5,Below w4.heap.size w4 w5->Sq w w5 r R o p (df X q) (n+o.s.size+2) from λw5 hb=>
   d.live (e5.keep hb) ⟨rfl,J,rfl⟩ (g2.keep hb) (d.lr.mono (by omega)) (λ_ f=>Ub f) c1 (Hz (g6.trans (an.ag hb))) λhl=>⟨hl,d.lr.sp,rfl,by have:=H1.out;unfold lT;rw[if_neg (λe=>by omega),if_neg (λe=>e.2 g),if_neg (by omega),if_neg (by omega)],by rw[if_neg (λe=>e.2 g)]⟩)
  have h2:o.a2<=R.now\/(¬o.a2<=R.now/\1000000000<o.a2):=by omega
  clear hx;rcases h2 with h2|⟨h2,h3⟩
  all_goals
   refine aU ?_;repeat go_big_quiet_step (fail)
   refine Yb ?_;rintro _ ⟨s5,rfl⟩;have j1:=aa s5.is;clear C2 C8 h2;generalize s5.val=w5 at *;go_wp2_with fail;refine(Check.num _ _).mono ?_;rintro e w6 ⟨rfl,rfl⟩;go_wp2_with fail;refine(dX r _).mono ?_;rintro e w6 ⟨rfl,rfl⟩;go_wp2_with fail;refine Ze (results_none rfl _ _ _) rfl ?_;exact⟨rfl,i9.out _ j1⟩
 have h2:¬o.a2<=R.now:=λe=>g (Ub e)
 have h3:¬1000000000<o.a2:=λe=>g (ed e)
 have b8:=aa (b8.out g);change Hid _ at g;refine aU ?_;repeat go_big_quiet_step (fail)
 refine Yb ?_;rintro _ ⟨s5,rfl⟩;have e6:=aa (e5.keep s5.is);have j2:=aa (g2.keep s5.is);have f6:=aa (Mem.af.below b7 s5.is b7.lt);have j5:=aa (g6.trans (an.ag s5.is));clear C2 C8 d8;generalize s5.val=w5 at *;have a7:=e6.head;unfold fe at a7;have c8:=a7.Ri 8;have f8:=a7.frozen 8;have a2:=f6.Ri 2;have c4:Hid (an [r] w5 (w5.setCell ⟨r,8,Y⟩ (I O o.a2))):=(an.refl _ _).set (Xa.2 rfl) _ _;have a5:Hid (RA (w5.setCell ⟨r,8,Y⟩ (I O o.a2)) r {R with now:=o.a2} p (df X q')):=e6.set c4 (a7.set 8 (I O o.a2)) ⟨rfl,rfl⟩ rfl rfl ⟨rfl,rfl,rfl⟩;have d7:=aa (e6.lq j2 c4);have G:=aa (Foot.af.off f6 c4 λhm=>by
  have H1:=d.lt r (Va _ (Ya ..));have h2:=d5.out;have h3:=Xa.1 hm;omega)
 have e3:=aa (pQ (A:=lb p) j5 c4);clear a7;go_upto_region 6 with fail;clear c8 f8 a2;generalize w5.setCell ⟨r,8,Y⟩ (I O o.a2)=w6 at *;obtain⟨b0,b1,b2,b3,b4⟩:w6.cell? ⟨ab,0,Y⟩=Z (I O o.a0)/\w6.cell? ⟨ab,1,Y⟩=Z (I O o.a1)/\w6.cell? ⟨ab,2,Y⟩=Z (I O o.a2)/\w6.cell? ⟨ab,3,Y⟩=Z (I O o.a3)/\w6.cell? ⟨ab,4,Y⟩=Z (L o.s):=
  ⟨G.Ri 0,G.Ri 1,G.Ri 2,G.Ri 3,G.Ri 4⟩
 rcases b8.out with ⟨a6,⟨K',b',H',a8⟩,i5⟩|⟨hl,l4,i1,a6,y,a8⟩|⟨hl,a6,g8,h6⟩
 rotate_left;rotate_left
 .obtain rfl:ce=6:=a6;have j3:=aa h6;change Hid _ at g8;have e2:=aa hl;have t:=qo (o:=o) a5 hl;unfold Ac.cs at t;clear hl h6;go_wp2_with fail;refine t.mono ?_;clear t b0 b1 b2 b3 b4;rintro e F ⟨rfl,a9,i3⟩;have a:=aa a9;have l:=aa i3;have E:F.cell? ⟨r,17,Y⟩=Z (.bool true):=a9.head.Ri 17;clear a9 i3;go_wp2_with fail;go_end0;exact⟨rfl,d.cD (R1:={R with now:=o.a2}) a J (a5.lq d7 l) c1 (e3.trans (l.mono λ_ _ f=>Xa.1 f▸Va _ (Ya ..))) g8 (j3.mono (by omega)) e2⟩
 .obtain rfl:ce=0:=a6;have U:=aa a8;have h0:=aa (vK (m:=64) (show Dm.used D'.S.ah<=Dm.used D.S.ah+64 from eb i5 (by omega)));rw[HU.out]at h0;have g9:Hid (-1<=u/\u<=10000000000):=HU.out▸sJ d.lr.dl.bd (by omega);clear a8 i5;go_wp2_with fail;refine(qm r o.a0 o.a1 o.a2 o.a3 o.s w6).mono ?_;clear b0 b1 b2 b3 b4;rintro e F ⟨rfl,i⟩;have a:=aa (a5.keep i);have b9:=aa (d7.keep i);have l:=aa (e3.trans (an.ag i));clear i;have E:F.cell? ⟨r,17,Y⟩=Z (.bool R.sp):=a.head.Ri 17;rw[d.lr.sp]at E;obtain⟨k4,dc,c0⟩:=ak a.rows.wd.due;obtain⟨ha,e9,B⟩:=ak a.rows.wd.held;have c9:F.cell? ⟨r,9,Y⟩=Z (Q k4 R.W.due.length dc):=c0▸a.head.Ri 9;have j6:F.cell? ⟨r,10,Y⟩=Z (I O R.W.o):=a.head.Ri 10;have j7:F.cell? ⟨r,11,Y⟩=Z (Q ha R.W.hs.length e9):=B▸a.head.Ri 11;have j8:F.cell? ⟨r,12,Y⟩=Z (I O R.W.sr):=a.head.Ri 12;have j9:F.cell? ⟨r,13,Y⟩=Z (I O R.W.tp):=a.head.Ri 13;have i2:=d.lr.dr.now;have d0:=qE r R.c d.lr.dr.ll o.a2 (by omega) (by omega) p.dv p.hv R.W _ F a.cfg (a.head.Ri 8) (d.lr.dr.doc (by omega)) a.rows.wd (by have:=d.lr.dr.dues;omega) (by have:=d.lr.dr.len;omega);unfold Ki wv at d0;rw[show p.dv=_ from c0,show p.hv=_ from B]at d0;change Hid _ at c0 B;clear i2;go_wp2_with fail;refine d0.mono ?_;clear d0 c9 j6 j7 j8 j9 E;rintro e w8 ⟨k7,l7,rfl,d1,h8,h9,c7,-⟩;generalize e8:dL (qF R.c R.W.o R.W.hs) (o.a2 / R.c 0) R.W=WT at *;change Hid _ at e8;have j:=aa (a.keep c7);have z:=aa (b9.keep c7);have a4:=aa (l.trans (an.ag c7));have f4:=j.Pu d1 (n0:=F.heap.size) (λk f=>(Za.1 f).elim (a.lt k) (b9.lt k)) (λk f=>(h8 k f).imp (λe=>by rw[c0.out];exact e) id) (λk f=>(h9 k f).imp (λe=>by rw[B.out];exact e) id);obtain⟨d9,f9,k0,k8,k1,k9,k2,l0,k3,l1,l5,f2⟩:=j.sW k7 l7 WT;obtain⟨k5,k6,h4⟩:=ak d1.due;obtain⟨l2,l3,i0⟩:=ak d1.held;subst h4;subst i0;have c3:=aa (show Lr {R with now:=o.a2,W:=WT,sl:=R.W.o ::R.sl} D' K' b' H' (n+1) from by
   have h5:=U.out;unfold eV wt Rn.tt at h5;simp only[e8.out]at h5;exact h5)
  have e4:Hid (RA _ r {R with now:=o.a2,W:=WT,sl:=R.W.o ::R.sl} _ _):=f4.1.ghost (R.W.o ::R.sl);have c2:=aa f4.2;have P:=aa (j.lq z f2);have e0:=aa (xf e4 (J.out▸P.pd) c3.gd c3.dl.bd (by omega) u 64 g9.1 g9.2 (by omega) h0 c3.small);have v:=aa (a4.trans (f2.mono λ_ _ f=>Xa.1 f▸Va _ (Ya ..)));clear d1 h8 h9 c7 f4 f2 l5 j z;unfold W5 at e0 v e4 P;go_upto_region 8 with fail;clear d9 f9 k0 k8 k1 k9 k2 l0 k3 l1;generalize ((((w8.setCell ⟨r,9,Y⟩ (Q k5 WT.due.length k6)).setCell ⟨r,10,Y⟩ (I O WT.o)).setCell ⟨r,11,Y⟩ (Q l2 WT.hs.length l3)).setCell ⟨r,12,Y⟩ (I O WT.sr)).setCell ⟨r,13,Y⟩ (I O WT.tp)=w9 at *;go_wp2_with fail;refine e0.mono ?_;rintro e m5 ⟨rfl,x⟩;have g7:=aa (e4.keep x);have g1:=aa (P.keep x);have g5:=aa (v.trans (an.ag x));have HZ:=aa l.size;clear x e0;go_wp2_with fail;go_end0;refine⟨rfl,d.live g7 ⟨rfl,J,rfl⟩ g1 (c3.mono (by omega)) (λk f=>(c2.out k f).imp id λe=>eb HZ e) c1 g5 λhl=>⟨hl,d.lr.sp,rfl,?_,by rw[if_pos ⟨H1,g⟩]⟩⟩;have:=H1.out;unfold lT;rw[if_neg (λe=>by omega),if_pos ⟨this,g⟩,<-e8.out];rfl
 obtain rfl:ce=7:=a6;have U:=aa a8;have e2:=aa hl;have y:D'.num=R.W.o:=y;have j4:=aa y;have t:=uV (o:=o) a5 hl (by have:=H1.out;omega);unfold Ac.cs at t;have g4:=aa (List.length_pos_iff.2 i1);have m1:(0:Int)<(R.W.hs.length:Int):=by have:=g4.out;omega
 clear hl a8 y i1;go_wp2_with fail;refine t.mono ?_;clear t b0 b1 b2 b3 b4;rintro e F ⟨rfl,i⟩;have a:=aa (a5.keep i);have b9:=aa (d7.keep i);have l:=aa (e3.trans (an.ag i));clear i;have E:F.cell? ⟨r,17,Y⟩=Z (.bool R.sp):=a.head.Ri 17;rw[d.lr.sp]at E;obtain⟨ha,e9,B⟩:=ak a.rows.wd.held;have M:=aa (λq:Bw F=>
  have hh:=(a.keep q.is).head;show q.val.cell? ⟨r,8,Y⟩=Z (I O o.a2)/\q.val.cell? ⟨r,0,Y⟩=Z (I O (R.c 0))/\q.val.cell? ⟨r,10,Y⟩=Z (I O R.W.o)/\q.val.cell? ⟨r,11,Y⟩=Z (Q ha R.W.hs.length e9) from⟨hh.Ri 8,hh.Ri 0,hh.Ri 10,B▸hh.Ri 11⟩)
 have C8:=λq=>(M.out q).1
 have C0:=λq=>(M.out q).2.1
 have i7:=λq=>(M.out q).2.2.1
 have i8:=λq=>(M.out q).2.2.2
 have i2:=d.lr.dr.now;have l9:=Dd.oz.pos d.lr.dr.ll;have m2:¬R.c 0=0:=by omega
 obtain⟨tt,b5⟩:∃tt,o.a2 / R.c 0=tt:=⟨_,rfl⟩;have l6:o.a2.tdiv (R.c 0)=tt:=by rw[Zd (by omega),b5]
 have m3:0<=tt:=by rw[<-b5];exact Int.ediv_nonneg (by omega) (by omega)
 have m4:tt<=1000000000:=by rw[<-b5];exact Int.le_trans (Int.ediv_le_self _ (by omega)) (by omega)
 have l8:Vd.wrap tt=tt:=Zc _ (by omega);rw[b5]at l4;have m0:R.W.hs.length<=n:=d.lr.dr.len;clear b5 M;go_wp2_with fail;refine bg 26 ?_;simp only[Wc,zd,Xc,Ud];repeat go_big_quiet_step (fail)
 refine Yb ?_;intro s8;have j:=aa (a.keep s8.is);have z:=aa (b9.keep s8.is);have a4:=aa (l.trans (an.ag s8.is));clear C8 C0 i7 i8 l6 l8 E;generalize s8.val=w8 at *;go_wp2_with fail;rw[show decide (0<R.W.hs.length)=true from decide_eq_true g4.out];refine(dX r _).mono ?_;rintro e m6 ⟨rfl,rfl⟩;have i4:=yv j d.xv z U.dl (by omega) (d.T.below (d.b0.trans (a4.below d.far d.b0.size))) U.dr (λk f=>(Za.1 f).elim (j.lt k) (z.lt k));go_wp2_with fail;refine i4.mono ?_;clear i4;rintro e w9 ⟨rfl,dv,hv,e7,c2,f1⟩;rw[if_pos j4.out]at e7;change Hid _ at e7;have P:=aa (j.lq z f1);change Hid _ at c2;have v:=aa (a4.trans (f1.mono λ_ _ f=>Xa.1 f▸Va _ (Ya ..)));have HZ:=aa a4.size;clear f1;go_wp2_with fail;go_end0;exact⟨rfl,d.live e7 ⟨rfl,J,rfl⟩ P (U.mono (by omega)) (λk f=>(c2.out k f).imp id λe=>eb HZ e) c1 v λe=>absurd (e2.symm.trans e) (by decide)⟩
variable {w0 w w' w1 : N} {r n m n0 X ba cap : Nat} {bs : List Nat} {R R' : Rn} {p p' : Rp} {F F' : List Nat} {S S' : Dk} {o : Ac} {D D' : Dn} {q q' : Pl} {K K' : List (Int × List Rc)} {b b' : List Rc} {H H' : Hs} {W' : Wd} {dv hv : Wb}
theorem dM {c d n a b s:Nat}{e l:Xd}{v m:Wb}{t j:List Wb}(h:w.ownsRow c e d v n t)(p:w.ownsRow a l b m s j)(g:e≠l):∀k∈v.ownBlock.toList,k∉m.ownBlock.toList:=λk q f=>by
 obtain⟨u,r⟩:=au h q;obtain⟨o,i⟩:=au p f;exact aA r i g rfl
theorem RA.Qc (h:RA w r R p F){gv':Wb}{x:Int}(d:an p.gv.ownBlock.toList w w1)(j:w1.ownsRow 0 3 1 gv' (R.gone++[x]).length ((R.gone++[x]).map (Vf O)))(s:∀k∈F,k<n0)(u:∀k∈gv'.ownBlock.toList,k∈p.gv.ownBlock.toList\/n0<=k)(z:an [r] w1 w')(G:af w' r 40 (fe {R with gone:=R.gone++[x]} {p with gv:=gv'})):
  RA w' r {R with gone:=R.gone++[x]} {p with gv:=gv'} F/\(∀k∈lb {p with gv:=gv'},k∈lb p\/n0<=k)/\an (r ::lb p) w w':=by
 have a:=h.rows;have t:=Kj h.head a h.rm;have o:p.gv∈dU p:=by simp[dU]
 have q:=Foot.af.off h.head d λe=>t (lE o e)
 have f:∀k∈p.mbs,k∉p.gv.ownBlock.toList:=λk b e=>by
  obtain⟨A,m⟩:=a.ml k b;obtain⟨B,D⟩:=au a.gone e;exact Ty m D rfl
 have g:Rows w1 {R with gone:=R.gone++[x]} {p with gv:=gv'}:=⟨⟨aq a.wd.due d (dM a.wd.due a.gone (by decide)),aq a.wd.held d (dM a.wd.held a.gone (by decide))⟩,aq a.ever d (dM a.ever a.gone (by decide)),j,aq a.lists d (dM a.lists a.gone (by decide)),aq a.grown d (dM a.grown a.gone (by decide)),λi e E=>(a.aG i e E).off d f,λk b=>(a.ml k b).imp λA m=>Foot.af.off m d (f k b),a.e1,a.e2⟩;have y:∀k∈lb {p with gv:=gv'},k∈lb p\/n0<=k:=λk b=>by
  rcases Za.1 b with b|b
  .obtain⟨v,l,c⟩:=Xe.1 b;clear b;simp only[dU,Uc,Ye,or_false]at l;rcases l with rfl|rfl|rfl|rfl|rfl|rfl
   .exact Ub (lE (by simp[dU]) c)
   .exact Ub (lE (by simp[dU]) c)
   .exact Ub (lE (by simp[dU]) c)
   .exact(u k c).imp (lE o) id
   all_goals exact Ub (lE (by simp[dU]) c)
  exact Ub (Wa _ b)
 refine⟨⟨G,g.off z λk b e=>Kj q g h.rm (Xa.1 e▸b),h.rm,λk b n=>?_⟩,y,(d.mono λk _ b=>qb _ (lE o b)).trans (z.mono λk _ b=>Xa.1 b▸Ya ..)⟩;rcases Uc.1 b with e|e
 .exact h.ap r (Ya ..) (e▸n)
 rcases y k e with e|e
 .exact h.ap k (qb _ e) n
 have:=s k n;omega
theorem RA.dues (h:RA w r R p F){l:List Ms}(n:an [r] w w')(o:af w' r 40 (fe {R with W:={R.W with due:=l}} {p with dv:=dv}))(d:w.ownsRow 0 47 2 dv l.length (aH l))(g:∀k∈dv.ownBlock.toList,k∉lb p/\k∉F):
  RA w' r {R with W:={R.W with due:=l}} {p with dv:=dv} F/\∀k∈lb {p with dv:=dv},k∈lb p\/k∈dv.ownBlock.toList:=by
 have a:=h.rows;have j:∀k∈lb {p with dv:=dv},k∈lb p\/k∈dv.ownBlock.toList:=λk b=>by
  rcases Za.1 b with b|b
  .obtain⟨v,f,c⟩:=Xe.1 b;clear b;simp only[dU,Uc,Ye,or_false]at f;rcases f with rfl|rfl|rfl|rfl|rfl|rfl
   .exact ed c
   all_goals exact Ub (lE (by simp[dU]) c)
  exact Ub (Wa _ b)
 exact⟨h.put n o ⟨⟨d,a.wd.held⟩,a.ever,a.gone,a.lists,a.grown,a.aG,a.ml,λk b=>⟨λm=>(g k m).1 (lE (by simp[dU]) b),(a.e1 k b).2⟩,a.e2⟩ h.rm λk b i=>(j k b).elim (λe=>h.ap k (qb _ e) i) λe=>(g k e).2 i,j⟩
theorem Kn (l:List Ms)(a:Int):(l.any λm=>decide (m.k=a))=decide (a∈l.map (·.k)):=by
 rw[Bool.eq_iff_iff];simp[List.any_eq_true]
theorem MU {l:List Ms}{a:Int}(h:a∉l.map (·.k)):wo a l=l:=List.filter_eq_self.2 λm b=>by
 have:m.k≠a:=λe=>h (e▸List.mem_map_of_mem b)
 simpa using this
set_option maxRecDepth 10000 in
theorem RL (h:LM w0 w r R p X D q K b H n)(hn:n<=7000000)(H1:o.a1=4)(l5:-9223372036854775808<=o.a2)(l6:o.a2<=9223372036854775807):
  vd Zb 21 #[ca (Z ⟨r,0,Y⟩),.agg o.cs] w λe w'=>e=Ua (.tuple #[])/\Sq w w' r R o p (df X q) (n+o.s.size+2):=by
 have f0:=aa (Ac.new o w);have f2:=aa (ai (w:=w) (.cells o.cs 37));have c1:=aa (h.keep f2);have HL:=aa h;change Hid _ at H1;clear h;unfold Ac.cs at *;go_in;go_upto_region 1 with fail;generalize w.alloc (.cells #[I O o.a0,I O o.a1,I O o.a2,I O o.a3,L o.s] 37)=w1 at *;generalize f1:w.heap.size=ab at f0 ⊢;change Hid _ at f1;have g2:=uq c1.ra c1.pd c1.lr.gd c1.lr.dl.bd (by omega);generalize HU:pr D.S=u at g2;change Hid _ at HU;go_wp2_with fail;refine g2.mono ?_;clear g2;rintro e w2 ⟨rfl,d7⟩;have f3:=aa (f2.trans (d7.mono f2.size));have T:=aa (c1.keep d7);have d3:=aa (Mem.af.below f0 d7 f0.lt);clear d7;obtain⟨da,dc,f8⟩:=ak T.ra.rows.wd.due;have k0:=aa f8;have P:=aa (show ∀W,Below w2.heap.size w2 W->(W.cell? ⟨r,9,Y⟩=Z (Q da R.W.due.length dc)/\W.cell? ⟨ab,2,Y⟩=Z (I O o.a2)) from λW a=>⟨f8▸(T.ra.keep a).head.Ri 9,(Mem.af.below d3 a d3.lt).Ri 2⟩);have m3:R.W.due.length<=n:=HL.lr.dr.dues;clear f8;go_wp2_with fail;refine dS (λW=>Below w2.heap.size w2 W) 12 (by kernel_rfl) ?_;have t:Hid (Below w2.heap.size w2 w2.drew):=(Ve _ _).drew;generalize w2.drew=wd at *;refine Tu (i:=0) (v:=ca (Z ⟨r,0,Y⟩)) rfl (by intro W a;obtain⟨k9,k2⟩:=P.out W a;go_simp) t ?_;refine Tu (i:=1) (v:=ca (Z ⟨r,0,Y⟩)) rfl (by intro W a;obtain⟨k9,k2⟩:=P.out W a;go_simp) t ?_;refine Tu (i:=2) (v:=ca (Z ⟨r,9,Y⟩)) rfl (by intro W a;obtain⟨k9,k2⟩:=P.out W a;go_simp) t ?_;refine Tu (i:=3) (v:=ca (Z ⟨r,9,Y⟩)) rfl (by intro W a;obtain⟨k9,k2⟩:=P.out W a;go_simp) t ?_;refine Tu (i:=4) (v:=Q da R.W.due.length dc) rfl (by intro W a;obtain⟨k9,k2⟩:=P.out W a;go_simp) t ?_;refine Tu (i:=5) (v:=ca (Z ⟨ab,2,Y⟩)) rfl (by intro W a;obtain⟨k9,k2⟩:=P.out W a;go_simp) t ?_;refine Tu (i:=6) (v:=I O o.a2) rfl (by intro W a;obtain⟨k9,k2⟩:=P.out W a;go_simp) t ?_;have d9:=zh (Q da R.W.due.length dc) R.W.due o.a2 wd (k0.out▸(T.ra.keep t).rows.wd.due) (by omega);rw[Kn]at d9;generalize J:decide (o.a2∈R.W.due.map (·.k))=bq at d9;change Hid _ at J;refine aW (j:=7) (λK f=>?_);go_simp;refine d9.mono ?_;clear d9;rintro e w3 ⟨lv,rfl,d1,j0⟩;obtain⟨la,lc,rfl⟩:=ak d1;have d:=aa (t.trans (j0.mono t.size));have B:Hid (w3.ownsRow w2.heap.size 47 2 (Q la (wo o.a2 R.W.due).length lc) (wo o.a2 R.W.due).length (aH (wo o.a2 R.W.due))):=fw d1 t.size;refine f _ _ (λ_=>d) ?_;clear f K d1 j0;refine aW (j:=8) (λK f=>?_);go_simp;refine f _ _ (λ_=>d) ?_;clear f K;refine Tu (i:=9) (v:=Q la (wo o.a2 R.W.due).length lc) rfl (by intro W a;go_simp) d ?_;refine Tu (i:=10) (v:=.bool bq) rfl (by intro W a;go_simp) d ?_;refine aW (j:=11) (λK f=>?_);go_simp;refine f _ _ (λ_=>d) ?_;clear f K;refine aW (j:=12) (λK f=>?_);go_simp;refine f _ _ (λh=>absurd h (by decide)) ?_;clear f K;refine Tz ?_;have h1:=aa (T.keep d);have d4:=aa (Mem.af.below d3 d d3.lt);have g4:=aa (f3.trans (d.mono f3.size));have C6:∀q:Bw w3,q.val.cell? ⟨r,6,Y⟩=Z (ca (Z ⟨X,0,Y⟩)):=λq=>(h1.keep q.is).c6
 have C2:∀q:Bw w3,q.val.cell? ⟨ab,2,Y⟩=Z (I O o.a2):=λq=>(Mem.af.below d4 q.is d4.lt).Ri 2
 go_wp2_with fail;refine bg 6 ?_;simp only[Wc,zd,Xc,Ud];repeat go_big_quiet_step (fail)
 refine Yb ?_;intro s3;have g5:=aa (g4.trans (s3.is.mono g4.size));have f5:=aa (h1.keep s3.is);have j7:=aa (Mem.af.below d4 s3.is d4.lt);have B:=aa (aE B s3.is);clear C6 C2;generalize s3.val=w4 at *;have g1:=RM f5.gx (by omega) f5.lr.tM o.a2 l5 l6;have g6:=aa (λE=>HL.lr.RD (o:=o) (by omega) H1 E);have g9:=aa (show o.a2∉R.W.due.map (·.k)->nf D o.a2=(D,4) from λe=>if_pos (HL.lr.due▸e));obtain⟨D',ce,j5⟩:∃D' ce,nf D o.a2=(D',ce):=⟨_,_,rfl⟩;rw[j5]at g1 g6 g9;clear j5;go_wp2_with fail;refine g1.mono ?_;clear g1;rintro e w5 ⟨rfl,hq⟩;obtain⟨q',j2,e7,e6,g0,d8⟩:=f5.call hq;have d5:=aa j2;have a8:=aa e7;have b8:=aa e6;have k3:Hid (∀k∈df X q',k∈df X q\/w4.heap.size<=k):=g0;have HF:=aa (show ∀k∈df X q',k∈df X q\/w.heap.size<=k from λk c=>(g0 k c).imp id λe=>eb g5.size e);have d6:Hid (an (df X q) w w5):=(an.ag g5).trans d8;have G:=aa (Foot.af.off j7 d8 λhm=>by
  have H1:=HL.lt ab (Wa _ hm);have h2:=f1.out;omega)
 have i1:Hid (w5.ownsRow w2.heap.size 47 2 (Q la (wo o.a2 R.W.due).length lc) (wo o.a2 R.W.due).length (aH (wo o.a2 R.W.due))):=aq B d8 λk c hm=>by
  have H1:=nU B k c;have h2:=T.lt k (Wa _ hm);omega
 have h9:=aa (show ∀k∈(Vb la (wo o.a2 R.W.due).length lc).ownBlock.toList,w2.heap.size<=k/\k<w4.heap.size from λk c=>⟨nU B k c,kE B c⟩);clear hq j2 e7 e6 g0 d8;by_cases E:o.a2∈R.W.due.map (·.k)
 rotate_left
 .have hx:=g9.out E;obtain rfl:D'=D:=congrArg Prod.fst hx;obtain rfl:ce=4:=congrArg Prod.snd hx;obtain rfl:bq=false:=by rw[<-J.out];exact decide_eq_false E
  change Hid _ at E;clear hx J;go_wp2_with fail;refine(Check.num _ _).mono ?_;rintro e w6 ⟨rfl,rfl⟩;go_wp2_with fail;refine(dX r _).mono ?_;rintro e w6 ⟨rfl,rfl⟩;go_wp2_with fail;refine Ze (results_none rfl _ _ _) rfl ?_;have e1:=H1.out;exact⟨rfl,HL.live a8 ⟨rfl,b8,rfl⟩ d5 (HL.lr.mono (by omega)) (λ_ c=>Ub c) HF (Hz d6) λhl=>⟨hl,HL.lr.sp,rfl,by unfold lT;rw[if_neg (λe=>by omega),if_neg (λe=>by omega),if_neg (by omega),if_pos e1,MU E],by rw[if_neg (λe=>by omega)]⟩⟩
 obtain rfl:bq=true:=by rw[<-J.out];exact decide_eq_true E
 obtain⟨b0,b1,b2,b3,b4⟩:w5.cell? ⟨ab,0,Y⟩=Z (I O o.a0)/\w5.cell? ⟨ab,1,Y⟩=Z (I O o.a1)/\w5.cell? ⟨ab,2,Y⟩=Z (I O o.a2)/\w5.cell? ⟨ab,3,Y⟩=Z (I O o.a3)/\w5.cell? ⟨ab,4,Y⟩=Z (L o.s):=
  ⟨G.Ri 0,G.Ri 1,G.Ri 2,G.Ri 3,G.Ri 4⟩
 rcases g6.out E with ⟨c4,⟨K',b',H',c8⟩,j4⟩|⟨hl,c4,c8⟩|⟨hl,c4,i2,j3⟩
 rotate_left
 .obtain rfl:ce=7:=c4;have a7:=aa c8;have f6:=aa hl;have a4:=uV (o:=o) a8 hl (by have:=H1.out;omega);unfold Ac.cs at a4;clear hl c8 J;go_wp2_with fail;refine a4.mono ?_;clear a4 b0 b1 b2 b3 b4;rintro e w6 ⟨rfl,y⟩;have V:=aa (a8.keep y);have f4:=aa (d5.keep y);have U:=aa (d6.trans (an.ag y));clear y;go_wp2_with fail;go_end0;exact⟨rfl,HL.live V ⟨rfl,b8,rfl⟩ f4 (a7.mono (by omega)) (λ_ c=>Ub c) HF (Hz U) λe=>absurd (f6.symm.trans e) (by decide)⟩
 .obtain rfl:ce=6:=c4;have k1:=aa j3;change Hid _ at i2;have f6:=aa hl;have a4:=qo (o:=o) a8 hl;unfold Ac.cs at a4;clear hl j3 J;go_wp2_with fail;refine a4.mono ?_;clear a4 b0 b1 b2 b3 b4;rintro e w6 ⟨rfl,e8,U⟩;have V:=aa e8;change Hid _ at U;clear e8;go_wp2_with fail;go_end0;exact⟨rfl,HL.cD V b8 (a8.lq d5 U) HF (pQ d6 U) i2 (k1.mono (by omega)) f6⟩
 obtain rfl:ce=0:=c4;have a7:=aa c8;have i4:=aa (vK (m:=64) (show Dm.used D'.S.ah<=Dm.used D.S.ah+64 from eb j4 (by omega)));rw[HU.out]at i4;have i3:Hid (-1<=u/\u<=10000000000):=HU.out▸sJ HL.lr.dl.bd (by omega);clear c8 j4 J;go_wp2_with fail;refine(qm r o.a0 o.a1 o.a2 o.a3 o.s w5).mono ?_;clear b0 b1 b2 b3 b4;rintro e w6 ⟨rfl,y⟩;have V:=aa (a8.keep y);have f4:=aa (d5.keep y);have j8:=aa (Mem.af.below G y G.lt);have U:=aa (d6.trans (an.ag y));have e9:=aE i1 y;clear y;have c7:=V.head;unfold fe at c7;have c9:=c7.Ri 9;have f9:=c7.frozen 9;have d2:an [r] w6 (w6.setCell ⟨r,9,Y⟩ (Q la (wo o.a2 R.W.due).length lc)):=(an.refl _ _).set (Xa.2 rfl) _ _;have d0:=V.dues (l:=wo o.a2 R.W.due) (dv:=Q la (wo o.a2 R.W.due).length lc) d2 (c7.set 9 (Q la (wo o.a2 R.W.due).length lc)) (Apn.weaken e9) λk c=>by
  have H1:=h9.out k c;refine⟨λe=>by have:=T.lt k (Va _ (qb _ e));omega,λe=>?_⟩;rcases k3.out k e with e|e
  .have:=T.lt k (Wa _ e);omega
  omega
 have f7:=aa d0.1;have e4:=aa (show ∀k∈lb {p with dv:=Q la (wo o.a2 R.W.due).length lc},k∈lb p\/w.heap.size<=k from λk c=>(d0.2 k c).imp id λe=>eb f3.size (h9.out k e).1);have g8:=aa (V.lq f4 d2);have b7:=aa (Foot.af.off j8 d2 λe=>by
  have h3:=HL.lt r (Va _ (Ya ..));have h4:=f1.out;have h5:=Xa.1 e;omega)
 have h7:=aa (pQ (A:=lb p) U d2);clear c7 d2 d0 e9;generalize (wo o.a2 R.W.due).length=nl at *;go_upto_region 9 with fail;clear c9 f9;generalize w6.setCell ⟨r,9,Y⟩ (Q la nl lc)=w7 at *;obtain⟨ga,gc,c5⟩:=ak f7.rows.gone;have c5:p.gv=Q ga R.gone.length gc:=c5;have b9:=aa c5;have i6:w7.cell? ⟨r,15,Y⟩=Z (Q ga R.gone.length gc):=c5▸f7.head.Ri 15;obtain⟨i0,hi,l8,l9,m0⟩:=info_parts BY;have m4:R.gone.length<=n:=HL.lr.eZ.GG;clear c5;refine dS (λW=>W.cell? ⟨r,15,Y⟩=Z (Q ga R.gone.length gc)/\W.cell? ⟨ab,2,Y⟩=Z (I O o.a2)) 9 (by kernel_rfl) ?_;have M:=aa (show (λW:N=>W.cell? ⟨r,15,Y⟩=Z (Q ga R.gone.length gc)/\W.cell? ⟨ab,2,Y⟩=Z (I O o.a2)) w7.drew from⟨i6,b7.Ri 2⟩);have i5:Hid (Below w7.heap.size w7 w7.drew):=(Ve _ _).drew;clear i6;generalize w7.drew=we at *;refine Tu (i:=0) (v:=ca (Z ⟨r,0,Y⟩)) rfl (by intro W a;obtain⟨b6,k2⟩:=a;go_simp) M ?_;refine Tu (i:=1) (v:=ca (Z ⟨r,0,Y⟩)) rfl (by intro W a;obtain⟨b6,k2⟩:=a;go_simp) M ?_;refine Tu (i:=2) (v:=ca (Z ⟨r,0,Y⟩)) rfl (by intro W a;obtain⟨b6,k2⟩:=a;go_simp) M ?_;refine Tu (i:=3) (v:=ca (Z ⟨r,15,Y⟩)) rfl (by intro W a;obtain⟨b6,k2⟩:=a;go_simp) M ?_;refine Tu (i:=4) (v:=Q ga R.gone.length gc) rfl (by intro W a;obtain⟨b6,k2⟩:=a;go_simp) M ?_;refine Tu (i:=5) (v:=ca (Z ⟨ab,2,Y⟩)) rfl (by intro W a;obtain⟨b6,k2⟩:=a;go_simp) M ?_;refine Tu (i:=6) (v:=I O o.a2) rfl (by intro W a;obtain⟨b6,k2⟩:=a;go_simp) M ?_;refine aW (j:=7) (λK f=>?_);go_simp;have j1:=ai (w:=we) (.cells #[I O o.a2] 3);have a6:=aa (i5.trans (j1.mono i5.size));have z:=aa (f7.keep a6);have k8:=aa (kJ we (I O o.a2) 3 we.heap.size rfl rfl);have e5:(we.alloc (.cells #[I O o.a2] 3)).cell? ⟨r,15,Y⟩=Z (Q ga R.gone.length gc):=b9.out▸z.head.Ri 15;refine f _ _ (λ_=>⟨e5,(Mem.af.below b7 a6 b7.lt).Ri 2⟩) ?_;clear f K j1 e5;have g3:=aa (Mem.af.below b7 a6 b7.lt);generalize we.alloc (.cells #[I O o.a2] 3)=w8 at *;refine aW (j:=8) (λK f=>?_);refine Apn.eG rfl (.tmp 51) (.tmp 54) 35 rfl 3 i0 (I O 0) 1 8 Tryz.underlying35 hi l8 l9 m0 rfl (by decide) (Q ga R.gone.length gc) R.gone.length (R.gone.map (Vf O)) rfl (b9.out▸z.rows.gone) _ 1 1 [I O o.a2] rfl k8 (by unfold maxLen;omega) (by omega) ?_;intro v9 w9 e0 i7 j6 l7;obtain⟨c2,c3,rfl⟩:=ak e0;have a9:an p.gv.ownBlock.toList w8 w9:=b9.out▸cu i7;have l3:r∉p.gv.ownBlock.toList:=λe=>Kj z.head z.rows z.rm (lE (v:=p.gv) (by simp[dU]) e)
 have b5:=Foot.af.off z.head a9 l3;have i9:ab∉p.gv.ownBlock.toList:=λhm=>by
  obtain⟨cs,l4⟩:=au z.rows.gone hm;exact Ty g3 l4 rfl
 have i8:=Foot.af.off g3 a9 i9;unfold fe at b5;have l1:=b5.Ri 15;have l2:=b5.frozen 15;have m2:=aa e0;have m1:=aa a9;have l0:=aa (show ∀k∈(Vb c2 (R.gone.length+1) c3).ownBlock.toList,k∈p.gv.ownBlock.toList\/w7.heap.size<=k from λk c=>by
  rcases j6 with e|⟨g,e1,e2⟩
  .rw[e]at c;exact Ub (b9.out▸c)
  rw[e1]at c;have:=a6.size;exact ed (by simp at c;omega))
 have c0:=aa (z.Qc (x:=o.a2) (gv':=Q c2 (R.gone.length+1) c3) (n0:=w7.heap.size) a9 (by
  rw[List.map_append,List.length_append];exact e0) (λk c=>g8.lt k c) l0 ((an.refl _ _).set (Xa.2 rfl) _ _) (b5.set 15 (Q c2 (R.gone.length+1) c3)))
 have j9:=aa (((g8.keep a6).off a9 λk c e=>z.ap k (qb _ (lE (v:=p.gv) (by simp[dU]) e)) c));have k7:Hid (r∉df X q'):=z.ap r (Ya ..);refine f _ _ (λ_=>⟨b9.out▸b5.Ri 15,i8.Ri 2⟩) ?_;clear f K e0 i7 j6 a9 b5 i8 l7;go_simp;refine aW (j:=9) (λK f=>?_);go_simp;refine f _ _ (λh=>absurd h (by decide)) ?_;clear f K;refine aW (j:=10) (λK f=>?_);go_simp;refine f _ _ (λh=>absurd h (by decide)) ?_;clear f K;refine aW (j:=11) (λK f=>?_);go_simp;refine f _ _ (λh=>absurd h (by decide)) ?_;clear f K;refine Tz ?_;clear l1 l2;have e3:=aa (j9.off (F:=[r]) ((an.refl _ _).set (Xa.2 rfl) 15 (Q c2 (R.gone.length+1) c3)) λk c e=>k7.out (Xa.1 e▸c));have h0:=aa (xf c0.1 (show PD _ p.bx D'.S q'.ba q'.cap q'.bs from b8.out▸e3.pd) a7.gd a7.dl.bd (by omega) u 64 i3.1 i3.2 (by omega) i4 a7.small);have k5:=aa (aP (h7.trans (an.ag a6)) (λk c=>by
  rcases Uc.1 c with e|e
  .exact Ub (e▸Va _ (Ya ..))
  exact(e4.out k e).imp (λe=>Va _ (qb _ e)) id) c0.2.2)
 have k4:=aa (λk c=>(c0.2.1 k c).elim (e4.out k) λe=>ed (eb h7.size e));have k6:=aa c0.1;clear c0;generalize w9.setCell ⟨r,15,Y⟩ (Q c2 (R.gone.length+1) c3)=m5 at *;go_wp2_with fail;refine h0.mono ?_;rintro e m6 ⟨rfl,a5⟩;have h8:=aa (k6.keep a5);have g7:=aa (e3.keep a5);have h6:=aa (k5.trans (an.ag a5));clear a5 h0;go_wp2_with fail;go_end0;exact⟨rfl,HL.live h8 ⟨rfl,b8,rfl⟩ g7 (a7.mono (by omega)) k4 HF h6 λhl=>⟨hl,HL.lr.sp,rfl,by have e1:=H1.out;unfold lT;rw[if_neg (λe=>by omega),if_neg (λe=>by omega),if_neg (by omega),if_pos e1],by rw[if_neg (λe=>by have:=H1.out;omega)]⟩⟩
end Lw
namespace Lw
open Go.RowKit Go.Maps Mem Foot Bytes Im Wm Hi Plainw Cq Dm Dh Jr Wi Sk Hn Kr Dd
def filled (i:Nat)(z:Ms)(l:List Ms):List Ms:=Xb i z++l.drop i
theorem wR (z:Ms)(l:List Ms):filled 0 z l=l:=by simp[filled]
variable {a:List Ms}{c:Nat}{d:Wb}
theorem tm {z:Ms}  (h:c<=a.length):(filled c z a).length=a.length:=by
 simp[filled];omega
theorem zP (z:Ms)(l:List Ms):filled l.length z l=Xb l.length z:=by simp[filled]
theorem zQ {z:Ms}  (h:c<a.length):(filled c z a)[c]? = Z a[c]:=by
 rw[filled,te (by simp),Xf,Nat.sub_self,List.getElem?_drop,Nat.add_zero,Vc h]
theorem zR {z:Ms}  (h:c<a.length):(filled c z a).set c z=filled (c+1) z a:=by
 have b:a.drop c=a[c] ::a.drop (c+1):=List.drop_eq_getElem_cons h;grind [filled,List.set_append_right,Xf,List.replicate_succ']
theorem Av:∀(l:List Ms) (i:Nat) (z:Ms),i<l.length->aH (l.set i z)=((aH l).set (i*2) (I O z.k)).set (i*2+1) (L z.t):=by
 intro l
 induction l with
 | nil=>grind
 | cons x l a=>
  intro i z h;cases i with
  | zero=>rfl
  | succ i=>grind [aH]
theorem Ih {w:N}{b n g cap i:Nat}{e:Xd}  (z:Ms)(u:i<a.length)(h:w.ownsRow b e 2 (Q (Z ⟨g,0,Y⟩) n cap) n (aH a)):((w.setCell ⟨g,i*2,Y⟩ (I O z.k)).setCell ⟨g,i*2+1,Y⟩ (L z.t)).ownsRow b e 2 (Q (Z ⟨g,0,Y⟩) n cap) n (aH (a.set i z)):=by
 have v:=h.1;refine⟨by grind [cP],?_⟩;rcases h.2 with ⟨l,_⟩|⟨s,f,d,hv,m,o,q,p,r,x⟩
 .cases l
 injection hv with c _ j;injection c with c;injection c with c;subst c;subst j;refine ed ⟨g,cap,_,rfl,m,af.set (t:=e) (af.set (t:=e) (cs:=d) o (i*2) _) (i*2+1) _,q,p,by simpa using r,?_⟩;grind [Av,List.take_set]
theorem KY:(Zb.info? 31).map (λi=>(i.zero,i.size,i.bytes))=Z (Z (Q Y 0 0),1,24):=by kernel_rfl
theorem kj (w:N)(a b c d e f:Wb)(t:Xd):∀j u,[a,b,c,d,e,f][j]? = Z u->(w.alloc (.cells #[a,b,c,d,e,f] t)).cell? ((⟨w.heap.size,0,Y⟩:Addr).add j)=Z u:=by
 intro j u g
 match j,g with
 | 0,g=>simp at g;subst g;simp[ef]
 | 1,g=>simp at g;subst g;simp[ef]
 | 2,g=>simp at g;subst g;simp[ef]
 | 3,g=>simp at g;subst g;simp[ef]
 | 4,g=>simp at g;subst g;simp[ef]
 | 5,g=>simp at g;subst g;simp[ef]
 | j+6,g=>simp at g
theorem pq (w:N)(z:Ms)(t:Xd)(b:Nat)(c:b=w.heap.size):Apn.Src (w.alloc (.cells #[I O z.k,L z.t,I O z.k,L z.t,I O z.k,L z.t] t)) 2 (Z ⟨b,0,Y⟩) 3 (aH (Xb 3 z)):=by
 subst c;refine⟨rfl,λu a=>?_,ed ⟨_,rfl,kj w _ _ _ _ _ _ t⟩⟩;simp[aH,Xb]at a;rcases a with rfl|rfl|rfl|rfl|rfl|rfl<;>rfl
theorem IE (n:Nat)(z:Ms):aH (Xb n z)++aH (Xb 3 z)=aH (Xb (n+3) z):=by
 rw[<-fu,List.replicate_append_replicate]
theorem Au (n:Nat)(z:Ms):∀j,j<n->(aH (Xb n z))[j*2]? = Z (I O z.k)/\(aH (Xb n z))[j*2+1]? = Z (L z.t):=λj a=>
 oV (by rw[List.getElem?_replicate,if_pos a])
theorem ud {w:N}{c:List Nat}{a n l h:Nat}{f:Option Addr}  {z:Int}(v:n≠0->n<=h/\∃g,f=Z ⟨g,0,Y⟩)(t:n<=l)(r:w.ownsRow a 47 2 d l (aH (Xb l ⟨z,⟨#[]⟩⟩)))(o:n≠0->d.ownBlock=(Vb f n h).ownBlock)(x:∀k∈d.ownBlock.toList,k∈c):Marks w c (Q f n h) n z:=by
 refine⟨f,h,rfl,λp=>?_⟩;obtain⟨q,g,rfl⟩:=v p;have o:=o p;rcases r.2 with ⟨_,rfl⟩|⟨m,cap,b,rfl,_,s,_,_,_,B⟩
 .omega
 have e:m=g:=by simpa[Value.ownBlock] using o
 subst e;refine⟨m,b,rfl,x m (by simp[Value.ownBlock]),q,s,λj A=>?_⟩;have y:∀(i:Nat) u,(aH (Xb l (⟨z,⟨#[]⟩⟩:Ms)))[i]? = Z u->b[i]? = Z u:=λi u D=>by grind
 grind [Au]
theorem yj {w:N}{a n:Nat}  {i:List Wb}(h:w.ownsRow a 47 2 d n i)(f:n≠0):∃g c,d=Q (Z ⟨g,0,Y⟩) n c/\n<=c:=by
 rcases h.2 with ⟨_,e⟩|⟨g,cap,b,rfl,_,_,j,_⟩
 .exact absurd e f
 grind
theorem ue {w:N}{b:List Nat}{a n:Nat}  {z:Int}(h:w.ownsRow a 47 2 d n (aH (Xb n ⟨z,⟨#[]⟩⟩)))(e:∀k∈d.ownBlock.toList,k∈b):Marks w b d n z:=by
 obtain⟨f,c,rfl⟩:=ak h;refine ud (λg=>?_) (Nat.le_refl _) h (λ_=>rfl) e;grind [yj]
end Lw
namespace Lw
open Go.RowKit Go.Maps Go.Shelf Mem Foot Bytes Im Wm Hi Plainw Cq Dm Dh Jr Wi Sk Hn Kr Dd
variable {w0 w w' w1 : N} {r n m n0 X ba cap : Nat} {bs : List Nat} {R R' : Rn} {p p' : Rp} {F F' : List Nat} {S S' : Dk} {o : Ac} {D D' : Dn} {q q' : Pl} {K K' : List (Int × List Rc)} {b b' : List Rc} {H H' : Hs} {W' : Wd} {dv hv : Wb}
variable {c d e:Wb}{f g:N}{h i:List Nat}{j l:List Ms}{s:Array Wb}{t:Int}
theorem nv {P:Program}{f:Nat}   (h:vd P f s w λe w'=>e=Ua c/\w'=w):vd P f s w λe w'=>e=Ua c/\Below w.heap.size w w':=h.mono λ_ _ h=>⟨h.1,h.2▸Ve _ _⟩
set_option maxRecDepth 10000 in
theorem Oc (h:RA w r R p F)(G:p.xv=ca (Z ⟨X,0,Y⟩))(E:DA w X D q)(m:D.cD=true):
  vd Zb 17 #[ca (Z ⟨r,0,Y⟩),.agg o.cs] w λe w'=>e=Ua (.tuple #[])/\Below w.heap.size w w':=by
 have k:=aa (ai (w:=w) (.cells o.cs 37));have c:=aa (λ(W:N) (y:Below w.heap.size w W)=>(show W.cell? ⟨r,6,Y⟩=Z (ca (Z ⟨X,0,Y⟩)) from G▸(h.keep y).head.Ri 6));have HA:=aa (Ac.new o w);have d:=aa (λ(W:N) (y:Below w.heap.size w W)=>Pb (E.keep y) m o.a2 o.s);clear h E m G;unfold Ac.cs at *;go_in;go_upto_region 1 with fail;generalize w.alloc (.cells #[I O o.a0,I O o.a1,I O o.a2,I O o.a3,L o.s] 37)=w1 at *;generalize u:w.heap.size=x at HA ⊢;change Hid _ at u;have a:=aa (λs:Bw w1=>k.trans (s.is.mono k.size));have i:∀s:Bw w1,s.val.cell? ⟨r,6,Y⟩=Z (ca (Z ⟨X,0,Y⟩)):=λs=>c.out s.val (a.out s)
 have j:∀s:Bw w1,s.val.cell? ⟨x,4,Y⟩=Z (L o.s):=λs=>(Mem.af.below HA s.is HA.lt).Ri 4
 have g:=aa (λs:Bw w1=>aT (nv (d.out s.val (a.out s)).1));go_wp2_with fail;refine aU ?_;repeat go_big_quiet_step ((go_at_call 32;exact g.out _))
 refine Yb ?_;rintro _ ⟨z,rfl⟩;have l:=aa (a.out z);have HA:=aa (Mem.af.below HA z.is HA.lt);clear a i j g;generalize z.val=t at *;have a:=aa (λs:Bw t=>l.trans (s.is.mono l.size));have i:∀s:Bw t,s.val.cell? ⟨r,6,Y⟩=Z (ca (Z ⟨X,0,Y⟩)):=λs=>c.out s.val (a.out s)
 have j:∀s:Bw t,s.val.cell? ⟨x,2,Y⟩=Z (I O o.a2):=λs=>(Mem.af.below HA s.is HA.lt).Ri 2
 have g:=aa (λs:Bw t=>aT (nv (d.out s.val (a.out s)).2.1));go_wp2_with fail;refine aU ?_;repeat go_big_quiet_step ((go_at_call 34;exact g.out _))
 refine Yb ?_;rintro _ ⟨A,rfl⟩;have b:=aa (a.out A);have HA:=aa (Mem.af.below HA A.is HA.lt);clear a i j g;generalize A.val=H at *;have J:=c.out H b;have n:=(d.out H b).2.2.1;go_wp2_with fail;refine n.mono ?_;clear n J;rintro e f ⟨rfl,rfl⟩;have a:=aa (λs:Bw f=>b.trans (s.is.mono b.size));have i:∀s:Bw f,s.val.cell? ⟨r,6,Y⟩=Z (ca (Z ⟨X,0,Y⟩)):=λs=>c.out s.val (a.out s)
 have j:∀s:Bw f,s.val.cell? ⟨x,2,Y⟩=Z (I O o.a2):=λs=>(Mem.af.below HA s.is HA.lt).Ri 2
 have g:=aa (λs:Bw f=>aT (nv (d.out s.val (a.out s)).2.2.2));go_wp2_with fail;refine aU ?_;repeat go_big_quiet_step ((go_at_call 38;exact g.out _))
 refine Yb ?_;rintro _ ⟨B,rfl⟩;have v:=aa (a.out B);have HA:=aa (Mem.af.below HA B.is HA.lt);clear a i j g;generalize B.val=K at *;go_wp2_with (first|(go_at_call 29;refine(Check.num _ _).mono ?_;rintro e w' ⟨rfl,rfl⟩)|(go_at_call 11;refine(dX r _).mono ?_;rintro e w' ⟨rfl,rfl⟩))
 go_end0;exact⟨rfl,v⟩
theorem Ce:∀(l s:List Int),l.Nodup->(∀x∈l,x∈s)->l.length<=s.length
 | [],_,_,_=>Wf _
 | a ::l,s,hn,hs=>by
  rw[List.nodup_cons]at hn;have c:a∈s:=hs a (Ya ..);have b:=Ce l (s.erase a) hn.2 λx d=>by grind
  grind
def lf (r:Nat)(p:Rp):List Nat:=r ::lb p
def rf (r:Nat)(p:Rp)(F:List Nat):List Nat:=lf r p++F
theorem mA (r:Nat)(p:Rp):r∈lf r p:=Ya ..
theorem DV {r:Nat}{p:Rp}  (hv:c∈dU p){k:Nat}(h:k∈c.ownBlock.toList):k∈lf r p:=qb _ (lE hv h)
theorem xF {r:Nat}{p:Rp}{k:Nat}(h:k∈p.dv.ownBlock.toList):k∈lf r p:=DV (by simp[dU]) h
theorem Am {r:Nat}{p:Rp}{k:Nat}(h:k∈p.hv.ownBlock.toList):k∈lf r p:=DV (by simp[dU]) h
theorem tr {r:Nat}{p:Rp}{k:Nat}(h:k∈p.ev.ownBlock.toList):k∈lf r p:=DV (by simp[dU]) h
theorem DU {r:Nat}{p:Rp}{k:Nat}(h:k∈p.gv.ownBlock.toList):k∈lf r p:=DV (by simp[dU]) h
theorem An {r:Nat}{p:Rp}{k:Nat}(h:k∈p.lv.ownBlock.toList):k∈lf r p:=DV (by simp[dU]) h
theorem xG {r:Nat}{p:Rp}{k:Nat}(h:k∈p.kv.ownBlock.toList):k∈lf r p:=DV (by simp[dU]) h
theorem Ao {r:Nat}{p:Rp}{k:Nat}(h:k∈p.mbs):k∈lf r p:=qb _ (Wa _ h)
theorem lF {r:Nat}{p:Rp}{k:Nat}(h:k∈lf r p):k=r\/k∈p.dv.ownBlock.toList\/k∈p.hv.ownBlock.toList\/k∈p.ev.ownBlock.toList\/k∈p.gv.ownBlock.toList\/k∈p.lv.ownBlock.toList\/k∈p.kv.ownBlock.toList\/k∈p.mbs:=by
 simpa[lf,lb,dU] using h
theorem RA.Kj {w:N}{r:Nat}{R:Rn}{p:Rp}{F:List Nat}(h:RA w r R p F):r∉p.mbs/\r∉p.dv.ownBlock.toList/\r∉p.hv.ownBlock.toList/\r∉p.ev.ownBlock.toList/\r∉p.gv.ownBlock.toList/\r∉p.lv.ownBlock.toList/\r∉p.kv.ownBlock.toList:=by
 have:=Lw.Kj h.head h.rows h.rm;simpa[lb,dU,not_or,and_comm,and_left_comm,and_assoc] using this
theorem ia.Th {a sl:List Int}  {n:Nat}(h:ia j a sl l t n):j.length<=n:=by
 have:=Ce (j.map (·.k)) sl h.PB (λx c=>by
  obtain⟨m,b,rfl⟩:=List.mem_map.1 c;exact h.PE m b)
 rw[Yc]at this;exact eb this h.Nu
theorem ia.seen {b sl:List Int}  {n:Nat}(h:ia j b sl l t n)(e:∀x∈l,∀y∈l,x.k=y.k->x=y)(d:∀x∈l,x.k<=t){m:Ms}(c:m∈l)(a:∀x∈j,x.k≠m.k):ia (j++[m]) b sl l t n:=by
 refine⟨λx a=>?_,h.KT,h.GG,by grind [PB],λx a=>?_,h.PA,h.Nu⟩
 .rcases Za.1 a with a|a
  .exact h.Oe x a
  grind
 rcases Za.1 a with a|a
 .exact h.PE x a
 rw[Xa]at a;subst a;exact h.PA x c
theorem RA.PW {w w1 x t:N}{r:Nat}{R:Rn}{p:Rp}{F:List Nat}(h:RA w r R p F)(U:∀k∈F,k<w.heap.size)(J:Below w.heap.size w w1){ev':Wb}{m:Ms}(o:an p.ev.ownBlock.toList w1 x)(l:x.ownsRow 0 47 2 ev' (R.ever++[m]).length (aH (R.ever++[m])))(q:∀k∈ev'.ownBlock.toList,k∈p.ev.ownBlock.toList\/w.heap.size<=k)(s:an [r] x t)(P:af t r 40 (fe {R with ever:=R.ever++[m]} {p with ev:=ev'})):
  RA t r {R with ever:=R.ever++[m]} {p with ev:=ev'} F/\(∀k∈rf r {p with ev:=ev'} F,k∈rf r p F\/w.heap.size<=k)/\an (lf r p) w t:=by
 have z:=h.keep J;have a:=z.rows;have G:r∉p.ev.ownBlock.toList:=h.Kj.2.2.2.1;have E:∀{w':N} {c d n:Nat} {e:Xd} {v:Wb} {y:List Wb},w'.ownsRow c e d v n y->af w' r 40 (fe R p)->e≠40->∀k∈v.ownBlock.toList,k∉[r]:=λo s K k b e=>by
  obtain⟨H,f⟩:=au o b;grind [aA]
 have D:af x r 40 (fe R p):=Foot.af.off z.head o G;have g:∀{c d n:Nat} {e:Xd} {v:Wb} {y:List Wb},w1.ownsRow c e d v n y->(∀k∈v.ownBlock.toList,k∉p.ev.ownBlock.toList)->e≠40->t.ownsRow c e d v n y:=λS M T=>by
  have V:=aq S o M;grind [aq]
 have j:∀k∈p.mbs,k∉p.ev.ownBlock.toList/\k∉[r]:=λk b=>by
  refine⟨λe=>(a.e1 k e).2 b,λe=>?_⟩;obtain⟨H,f⟩:=a.ml k b;rw[Xa.1 e]at f;exact Ty f z.head rfl
 have B:∀k∈p.dv.ownBlock.toList,k∉p.ev.ownBlock.toList:=λk b e=>(a.e1 k e).1 b
 refine⟨⟨P,⟨⟨g a.wd.due B (by decide),g a.wd.held (dM a.wd.held a.ever (by decide)) (by decide)⟩,aq l s (E l D (by decide)),g a.gone (dM a.gone a.ever (by decide)) (by decide),g a.lists (dM a.lists a.ever (by decide)) (by decide),g a.grown (dM a.grown a.ever (by decide)) (by decide),λi e K=>((a.aG i e K).off o λk b=>(j k b).1).off s λk b=>(j k b).2,λk b=>(a.ml k b).imp λH f=>Foot.af.off (Foot.af.off f o (j k b).1) s (j k b).2,λk b=>?_,a.e2⟩,h.rm,λk b=>?_⟩,λk b=>?_,((an.ag J).trans (o.mono λk _ b=>tr b)).trans (s.mono λk _ b=>Xa.1 b▸mA _ _)⟩
 .rcases q k b with e|e
  .exact a.e1 k e
  exact⟨λA=>by have:=h.lt k (xF A);omega,λA=>by have:=h.lt k (Ao A);omega⟩
 .rcases lF b with e|e|e|e|e|e|e|e
  .exact e▸h.ap r (mA _ _)
  .exact h.ap k (xF e)
  .exact h.ap k (Am e)
  .rcases q k e with u|u
   .exact h.ap k (tr u)
   grind
  .exact h.ap k (DU e)
  .exact h.ap k (An e)
  .exact h.ap k (xG e)
  exact h.ap k (Ao e)
 rcases Za.1 b with e|e
 .rcases lF e with e|e|e|e|e|e|e|e
  .exact Ub (Va _ (e▸mA _ _))
  .exact Ub (Va _ (xF e))
  .exact Ub (Va _ (Am e))
  .exact(q k e).imp (λu=>Va _ (tr u)) id
  .exact Ub (Va _ (DU e))
  .exact Ub (Va _ (An e))
  .exact Ub (Va _ (xG e))
  exact Ub (Va _ (Ao e))
 exact Ub (Wa _ e)
theorem Marks.more {w:N}   {n:Nat}  (b:Marks w h c n t)(g:∀k∈h,k∈i):Marks w i c n t:=by
 obtain⟨a,cv,d,e⟩:=b;refine⟨a,cv,d,λf=>?_⟩;grind
theorem fh.more {w:N}  {b:Nat}  (e:fh w h b c d)(a:∀k∈h,k∈i):fh w i b c d:=by
 obtain⟨n,f,g,j⟩:=e;exact⟨n,f,g.more a,j.more a⟩
theorem RA.listed {w s:N}{r:Nat}{R:Rn}{p:Rp}{F:List Nat}  {  g:Wb}(l:RA w r R p F)(V:∀k∈F,k<w.heap.size)(j:∀k∈h,k∉rf r p F/\∃A,af s k 47 A)(J:an (h++(p.lv.ownBlock.toList++(p.kv.ownBlock.toList++[r]))) w s)
  (W:af s r 40 (fe R {p with lv:=e,kv:=g,ls:=p.ls++[(c,d)],mbs:=h++p.mbs})) (hl:s.ownsRow 0 31 1 e (p.ls.length+1) (p.ls.map (·.1)++[c])) (b:s.ownsRow 0 31 1 g (p.ls.length+1) (p.ls.map (·.2)++[d])) (G:fh s h p.ls.length c d)
  (y:∀k∈e.ownBlock.toList,k∈p.lv.ownBlock.toList\/w.heap.size<=k) (x:∀k∈g.ownBlock.toList,k∈p.kv.ownBlock.toList\/w.heap.size<=k) (E:∀k∈e.ownBlock.toList,k∉g.ownBlock.toList):
  RA s r R {p with lv:=e,kv:=g,ls:=p.ls++[(c,d)],mbs:=h++p.mbs} F/\∀k∈rf r {p with lv:=e,kv:=g,ls:=p.ls++[(c,d)],mbs:=h++p.mbs} F,k∈rf r p F\/k∈h\/w.heap.size<=k:=by
 have f:=l.rows;obtain⟨n1,n2,n3,n4,n5,n6,n7⟩:=l.Kj;have a3:r∉h:=λa=>(j r a).1 (Va _ (mA r p))
 have z:∀k,k∈lf r p->k≠r->k∉p.lv.ownBlock.toList->k∉p.kv.ownBlock.toList->k∉h++(p.lv.ownBlock.toList++(p.kv.ownBlock.toList++[r])):=λk b a2 a1 a0 hm=>by
  rcases Za.1 hm with a|a
  .exact(j k a).1 (Va _ b)
  grind
 have mv:∀{o q n:Nat} {a:Xd} {u:Wb} {T:List Wb},w.ownsRow o a q u n T->(∀k∈u.ownBlock.toList,k∈lf r p)->r∉u.ownBlock.toList->a≠31->s.ownsRow o a q u n T:=λM U E P=>
  aq M J λk b=>z k (U k b) (λa=>E (a▸b)) (dM M f.lists P k b) (dM M f.grown P k b)
 have v:∀k∈p.mbs,k∉h++(p.lv.ownBlock.toList++(p.kv.ownBlock.toList++[r])):=λk b=>by
  obtain⟨A,S⟩:=f.ml k b;refine z k (Ao b) (λa=>n1 (a▸b)) (λa=>?_) (λa=>?_)
  .obtain⟨B,K⟩:=au f.lists a;grind [aA]
  obtain⟨B,K⟩:=au f.grown a;grind [aA]
 refine⟨⟨W,⟨⟨mv f.wd.due (λk b=>xF b) n2 (by decide),mv f.wd.held (λk b=>Am b) n3 (by decide)⟩,mv f.ever (λk b=>tr b) n4 (by decide),mv f.gone (λk b=>DU b) n5 (by decide),by grind,by grind,λi a t=>?_,λk b=>?_,λk b=>⟨(f.e1 k b).1,λa=>?_⟩,E⟩,λa=>by grind,λk b m=>?_⟩,λk b=>?_⟩
 .by_cases X:i<p.ls.length
  .rw[List.getElem?_append_left X]at t;exact((f.aG i a t).off J v).more λk b=>Wa _ b
  rw[te (by omega)]at t;have h0:=(List.getElem?_eq_some_iff.1 t).1;have H:i=p.ls.length:=by grind
  subst H;simp at t;subst t;exact G.more λk b=>Va _ b
 .rcases Za.1 b with a|a
  .exact(j k a).2
  exact(f.ml k a).imp λA S=>Foot.af.off S J (v k a)
 .rcases Za.1 a with a|a
  .exact(j k a).1 (Va _ (tr b))
  exact(f.e1 k b).2 a
 .have hl:=V k m;rcases lF b with a|a|a|a|a|a|a|a
  .exact l.ap r (mA _ _) (a▸m)
  .exact l.ap k (xF a) m
  .exact l.ap k (Am a) m
  .exact l.ap k (tr a) m
  .exact l.ap k (DU a) m
  .rcases y k a with a|a
   .exact l.ap k (An a) m
   omega
  .rcases x k a with a|a
   .exact l.ap k (xG a) m
   omega
  rcases Za.1 a with a|a
  .exact(j k a).1 (Wa _ m)
  exact l.ap k (Ao a) m
 rcases Za.1 b with a|a
 .rcases lF a with a|a|a|a|a|a|a|a
  .exact Ub (Va _ (a▸mA _ _))
  .exact Ub (Va _ (xF a))
  .exact Ub (Va _ (Am a))
  .exact Ub (Va _ (tr a))
  .exact Ub (Va _ (DU a))
  .exact(y k a).imp (λD=>Va _ (An D)) ed
  .exact(x k a).imp (λD=>Va _ (xG D)) ed
  rcases Za.1 a with a|a
  .exact ed (Ub a)
  exact Ub (Va _ (Ao a))
 exact Ub (Wa _ a)
structure PK (x x4:N)(r:Nat)(R:Rn)(p:Rp)(v3 l:Wb)(n3 nk n B:Nat)(vs ys zs:List Wb)(cs:Array Wb):Prop where
 head:af x4 r 40 (fe R {p with lv:=v3})
 lists:x4.ownsRow 0 31 1 v3 n3 vs
 grown:x4.ownsRow 0 31 1 p.kv nk ys
 row:x4.ownsRow 0 47 2 l n zs
 box:af x4 B 47 cs
 off:an (p.lv.ownBlock.toList++[r]) x x4
theorem xM {r n:Nat}{R:Rn}{p:Rp}{o:Obj}{e:List Wb}(a:af f r 40 (fe R p))(c:f.ownsRow 0 31 1 p.lv n e)(b:(f.alloc o).grownBy g p.lv.ownBlock):af g r 40 (fe R p):=
 Foot.af.off (Mem.af.below a (ai o) a.lt) (cu b) (λd=>by
  obtain⟨h,i⟩:=au c d;grind [aA])
theorem Sl {r n U F E B:Nat}{R:Rn}{p:Rp}{o:Obj}{x H J G:List Wb}   (P:af f r 40 (fe R p))(u:f.ownsRow 0 31 1 p.lv U x)(M:f.ownsRow 0 31 1 p.kv F H)(D:∀k∈p.lv.ownBlock.toList,k∉p.kv.ownBlock.toList)(A:f.ownsRow 0 47 2 c n J)(K:af f B 47 s)(y:(f.alloc o).grownBy g p.lv.ownBlock)(m:g.ownsRow 0 31 1 d E G):PK f (g.setCell ⟨r,23,Y⟩ d) r R p d c E F n B G H J s:=by
 have z:=xM P u y;have q:an p.lv.ownBlock.toList f g:=(an.ag (ai o)).trans (cu y);have j:an [r] g (g.setCell ⟨r,23,Y⟩ d):=(an.refl _ _).set (Xa.2 rfl) _ _;have w:∀{b l n:Nat} {e:Xd} {v:Wb} {x:List Wb},g.ownsRow b e l v n x->e≠40->∀k∈v.ownBlock.toList,k∉[r]:=λm D k a e=>by
  obtain⟨s,T⟩:=au m a;grind [aA]
 have h:=aq M q (λk a e=>D k e a);have i:=aq A q (dM A u (by decide));have t:=Foot.af.off K q (λS=>by
  obtain⟨s,V⟩:=au u S;grind [aA])
 refine⟨?_,aq m j (w m (by decide)),aq h j (w h (by decide)),aq i j (w i (by decide)),Foot.af.off t j (λe=>?_),(q.mono λk _ a=>Va _ a).trans (j.mono λk _ a=>Wa _ a)⟩
 .unfold fe at z ⊢;exact z.set 23 d
 grind [aA]
theorem Mt { x4 V T x6 l:N}{r n i B:Nat}{b:Option Addr}{R:Rn}{p:Rp}{F:List Nat}   (w:RA f r R p F)(hF:∀k∈F,k<f.heap.size)(t:∀k∈(Vb b n i).ownBlock.toList,k∉rf r p F)(a5:n<=1000000000)(h1:an (Vb b n i).ownBlock.toList f g)
  (m:PK g x4 r R p c (Q b n i) (p.ls.length+1) p.ls.length n B (p.ls.map (·.1)++[Q b n i]) (p.ls.map (·.2)) (aH (Xb n ⟨-1 - (p.ls.length:Int),⟨#[]⟩⟩)) s)
  (D:∀k∈c.ownBlock.toList,k∈p.lv.ownBlock.toList\/g.heap.size<=k) (q:Below x4.heap.size x4 V)
  (o5:T.ownsRow 0 47 2 d (n+3) (aH (Xb (n+3) ⟨-1 - (p.ls.length:Int),⟨#[]⟩⟩))) (W:an (Vb b n i).ownBlock.toList V T) (s5:∀k∈d.ownBlock.toList,k∈(Vb b n i).ownBlock.toList\/V.heap.size<=k) (P:d.ownBlock=(Vb b n i).ownBlock\/an [] V T)
  (x:Below T.heap.size T x6) (o7:l.ownsRow 0 31 1 e (p.ls.length+1) (p.ls.map (·.2)++[d])) (A:an p.kv.ownBlock.toList x6 l) (s7:∀k∈e.ownBlock.toList,k∈p.kv.ownBlock.toList\/x6.heap.size<=k) (h7:af l r 40 (fe R {p with lv:=c})):
  ∃p',RA (l.setCell ⟨r,24,Y⟩ e) r R p' F/\p'.ls.length=p.ls.length+1/\(p'.xv=p.xv/\p'.bx=p.bx/\p'.dv=p.dv/\p'.hv=p.hv)/\(∀k∈rf r p' F,k∈rf r p F\/k∈(Vb b n i).ownBlock.toList\/f.heap.size<=k)/\an (lf r p++(Vb b n i).ownBlock.toList) f (l.setCell ⟨r,24,Y⟩ e):=by
 have y:an [r] l (l.setCell ⟨r,24,Y⟩ e):=(an.refl _ _).set (Xa.2 rfl) _ _;have z1:=h1.size;have z2:=m.off.size;have z3:=q.size;have z4:=W.size;have z5:=x.size;have hr:=w.rows;have J:∀{z M n:Nat} {j:Xd} {v:Wb} {xs:List Wb},l.ownsRow z j M v n xs->j≠40->∀k∈v.ownBlock.toList,k∉[r]:=λho he k a j=>by
  obtain⟨s,a9⟩:=au ho a;grind [aA]
 have b1:∀k∈p.kv.ownBlock.toList,k<f.heap.size:=λk a=>kE hr.grown a
 have b2:∀k∈p.lv.ownBlock.toList,k<f.heap.size:=λk a=>kE hr.lists a
 have lk:∀k∈(Vb b n i).ownBlock.toList,k∉p.kv.ownBlock.toList:=λk a j=>t k a (Va _ (xG j))
 have S:∀k∈c.ownBlock.toList,k∉p.kv.ownBlock.toList:=λk a j=>by
  rcases D k a with h|h
  .exact hr.e2 k h j
  grind
 have a7:∀k∈d.ownBlock.toList,k∉p.kv.ownBlock.toList:=λk a j=>by grind
 have E:=aE m.lists q;have l5:=aq E W (dM E (aE m.row q) (by decide));have l7:=aq (aE l5 x) A S;have l8:=aq l7 y (J l7 (by decide));have m7:=aq (aE o5 x) A a7;have U:=aq m7 y (J m7 (by decide));have k8:=aq o7 y (J o7 (by decide));have X:fh (l.setCell ⟨r,24,Y⟩ e) ((Vb b n i).ownBlock.toList++d.ownBlock.toList) p.ls.length (Q b n i) d:=by
  refine⟨n,a5,?_,ue U λk a=>Wa _ a⟩;rcases P with j|j
  .refine ud (λh0=>?_) (by omega) U (λ_=>j) λk a=>Wa _ a
   obtain⟨b3,c',e2,hc⟩:=yj m.row h0;grind
  have r5:=aq (aE m.row q) j (λk _ h=>by cases h);have K:=aq (aE r5 x) A lk;exact ue (aq K y (J K (by decide))) λk a=>Va _ a
 have H:∀k∈(Vb b n i).ownBlock.toList,∃s,af (l.setCell ⟨r,24,Y⟩ e) k 47 s:=λk a=>by
  obtain⟨a8,b0⟩:=au (aE m.row q) a;rcases P with j|j
  .exact au U (j▸a)
  have r5:=aq (aE m.row q) j (λk _ h=>by cases h);have K:=aq (aE r5 x) A lk;exact au (aq K y (J K (by decide))) a
 have a6:∀k∈(Vb b n i).ownBlock.toList++d.ownBlock.toList,k∉rf r p F/\∃s,af (l.setCell ⟨r,24,Y⟩ e) k 47 s:=λk a=>by
  rcases Za.1 a with h|h
  .exact⟨t k h,H k h⟩
  refine⟨λj=>?_,au U h⟩;rcases s5 k h with h|h
  .exact t k h j
  have:k<f.heap.size:=(Za.1 j).elim (w.lt k) (hF k);omega
 have o:an ((Vb b n i).ownBlock.toList++(p.lv.ownBlock.toList++(p.kv.ownBlock.toList++[r]))) f (l.setCell ⟨r,24,Y⟩ e):=by
  have a1:∀k,k∈(Vb b n i).ownBlock.toList->k∈(Vb b n i).ownBlock.toList++(p.lv.ownBlock.toList++(p.kv.ownBlock.toList++[r])):=λk h=>Va _ h
  have a2:∀k,k∈p.lv.ownBlock.toList++[r]->k∈(Vb b n i).ownBlock.toList++(p.lv.ownBlock.toList++(p.kv.ownBlock.toList++[r])):=λk h=>by grind
  have a3:∀k,k∈p.kv.ownBlock.toList->k∈(Vb b n i).ownBlock.toList++(p.lv.ownBlock.toList++(p.kv.ownBlock.toList++[r])):=λk h=>by grind
  have a4:∀k,k∈[r]->k∈(Vb b n i).ownBlock.toList++(p.lv.ownBlock.toList++(p.kv.ownBlock.toList++[r])):=λk h=>by grind
  exact(((((h1.mono λk _=>a1 k).trans (m.off.mono λk _=>a2 k)).trans (an.ag q)).trans (W.mono λk _=>a1 k)).trans (an.ag x)).trans ((A.mono λk _=>a3 k).trans (y.mono λk _=>a4 k))
 have u:=o.mono (G:=((Vb b n i).ownBlock.toList++d.ownBlock.toList)++(p.lv.ownBlock.toList++(p.kv.ownBlock.toList++[r]))) λk _ h=>by grind
 have a0:af (l.setCell ⟨r,24,Y⟩ e) r 40 (fe R {p with lv:=c,kv:=e,ls:=p.ls++[(Q b n i,d)],mbs:=((Vb b n i).ownBlock.toList++d.ownBlock.toList)++p.mbs}):=by
  unfold fe at h7 ⊢;exact h7.set 24 e
 obtain⟨f1,f2⟩:=w.listed hF a6 u a0 l8 k8 X (λk a=>(D k a).imp id λh=>by omega) (λk a=>(s7 k a).imp id λh=>by omega) (λk a j=>by
  rcases s7 k j with h|h
  .exact S k a h
  have:=kE m.lists a;omega)
 refine⟨_,f1,by simp,⟨rfl,rfl,rfl,rfl⟩,λk a=>?_,o.mono λk _ h=>?_⟩
 .grind
 grind [An,xG,mA]
end Lw
namespace Lw
open Go.RowKit Go.Maps Mem Foot Bytes Im Wm Hi Plainw Cq Dm Dh Jr Wi Sk Hn Kr Dd
structure SY (w:N)(r:Nat)(lv kv:Wb)(ls:List (Wb×Wb))(mbs:List Nat):Prop where
 c23:w.cell? ⟨r,23,Y⟩=Z lv
 c24:w.cell? ⟨r,24,Y⟩=Z kv
 lists:w.ownsRow 0 31 1 lv ls.length (ls.map (·.1))
 grown:w.ownsRow 0 31 1 kv ls.length (ls.map (·.2))
 aG:∀i e,ls[i]? = Z e->fh w mbs i e.1 e.2
variable {a:Wb}{c:List Nat}
theorem xJ {w:N}   {n:Nat}{z:Int}(h:Marks w c a n z){k:Nat}(l:k<n):∃b cv,a=Q (Z ⟨b,0,Y⟩) n cv/\n<=cv/\w.cell? ⟨b,k*2,Y⟩=Z (I O z):=by
 obtain⟨m,cv,i,j⟩:=h;obtain⟨b,o,d,_,e,f,g⟩:=j (by omega);exact⟨b,cv,by rw[i,d],e,f.cell _ _ (g k l).1⟩
theorem pP {w:N}   {n:Nat}{z:Int}(h:Marks w c a n z):∃b cv,a=Q b n cv:=by
 obtain⟨b,cv,d,_⟩:=h;exact⟨b,cv,d⟩
set_option maxRecDepth 10000 in
theorem Ps {w:N}{r:Nat}{kv:Wb}{l:List (Wb×Wb)}  (h:SY w r a kv l c)(hl:l.length<=1000000000):
  vd Zb 8 #[ca (Z ⟨r,0,Y⟩)] w λe w'=>e=Ua (.tuple #[])/\w'=w:=by
 obtain⟨la,lc,A⟩:=ak h.lists;obtain⟨ka,kc,z⟩:=ak h.grown;have B:=h.c23;have D:=h.c24;rw[A]at B;rw[z]at D;change Hid _ at A z;have H:=aa h;clear h;go_in;go_wp2_with fail;go_loopw [2] (λV wr=>∃i:Nat,V=I O (i:Int)/\wr=w/\i<=l.length) (λV _=>l.length - (intOf V).toNat)
 case atStart=>exact⟨0,rfl,rfl,by omega⟩
 case round=>
  obtain⟨i,rfl,rfl,hi⟩:=hrel;by_cases q:i<l.length
  .have G:(i:Int)<(l.length:Int):=by omega
   obtain⟨e,y⟩:∃e,l[i]? = Z e:=⟨_,Vc q⟩;obtain⟨n,a7,f,j⟩:=H.aG i e y;obtain⟨v,g⟩:=e;simp only at f j;obtain⟨gk,a1,b,a5,_,_,t⟩:=so H.grown q;obtain⟨gl,a2,d,a6,_,_,x⟩:=so H.lists q;have T:=(t i g (by rw[Ue,y];rfl)).1;have U:=(x i v (by rw[Ue,y];rfl)).1;rw[z.out]at b;rw[A.out]at d;injection b with b _ J;injection d with d _ R;subst b;subst d;subst J;subst R;obtain⟨ga,gc,rfl⟩:=pP j;obtain⟨va,vc,rfl⟩:=pP f;have m:=aa f;have o:=aa j;have a8:Vd.wrap (-1 - (i:Int)) = -1 - (i:Int):=Zc _ (by omega);have a3:¬(i:Int)<0:=by omega
   clear y f j t x;go_wp2_with fail;go_loopw [3] (λX W=>∃k:Nat,X=I O (k:Int)/\W=wr/\k<=n+3) (λX _=>n+3 - (intOf X).toNat)
   case atStart=>exact⟨0,rfl,rfl,by omega⟩
   case round=>
    obtain⟨k,rfl,rfl,hk⟩:=hrel;by_cases K:k<n+3
    .have P:(k:Int)<(n:Int)+3:=by omega
     have a4:¬(k:Int)<0:=by omega
     obtain⟨gb,_,p,_,E⟩:=xJ o K;injection p with p _ F;subst p;subst F;by_cases M:k<n
     .have u:¬(n:Int)<=(k:Int):=by omega
      obtain⟨vb,_,s,_,a0⟩:=xJ m M;injection s with s _ S;subst s;subst S;clear m o H;go_wp2_with fail;refine(dX r _).mono ?_;rintro e w6 ⟨rfl,rfl⟩;go_wp2_with fail;refine⟨⟨k+1,by rfl,trivial,by omega⟩,by simp only[intOf];omega⟩
     have u:(n:Int)<=(k:Int):=by omega
     clear m o H;go_wp2_with fail;refine(dX r _).mono ?_;rintro e w6 ⟨rfl,rfl⟩;go_wp2_with fail;refine⟨⟨k+1,by rfl,trivial,by omega⟩,by simp only[intOf];omega⟩
    have P:¬(k:Int)<(n:Int)+3:=by omega
    go_wp2_with fail;refine⟨⟨i+1,by rfl,trivial,by omega⟩,by simp only[intOf];omega⟩
  have G:¬(i:Int)<(l.length:Int):=by omega
  go_wp2_with fail;go_end0;exact⟨rfl,rfl⟩
end Lw
namespace Jr
open Bytes Im Dm
variable {a:List bM}
theorem yV {s:bM}(f:bM->bM)(h:∀q∈a,q.num≠s.num):bT s.num f (a++[s])=a++[f s]:=by
 unfold bT;rw[List.map_append];congr 1
 .conv=>rhs;rw[<-List.map_id a]
  grind [List.map_congr_left]
 grind
theorem oH (t:ByteArray):(⟨#[]⟩:ByteArray)++t=t:=bo (by rw[bp];rfl)
theorem pF {s:bM}(b:∀q∈a,q.num<s.num)(c:0<=s.num):aB ⟨a,-1,-1⟩ s.num s.text=(⟨a++[⟨s.num,s.text,0⟩],-1,-1⟩,0):=by
 rw[gP rfl rfl c,mM b,yV (s:=⟨s.num,⟨#[]⟩,0⟩) _ (λq d=>by grind)];grind [oH]
theorem Du {s:bM}(d:∀q∈a,q.num<s.num):bz ⟨a++[⟨s.num,s.text,0⟩],-1,-1⟩ s.num=(⟨a++[⟨s.num,s.text,s.text.size⟩],-1,-1⟩,0):=by
 have b:(a++[(⟨s.num,s.text,0⟩:bM)])[a.length]? = Z ⟨s.num,s.text,0⟩:=List.getElem?_concat_length;have c:place s.num (a++[(⟨s.num,s.text,0⟩:bM)])=Z a.length:=lN (λj t e g=>by grind) b rfl;unfold bz;rw[if_neg (show ¬(-1:Int)=0 by decide),c];simp only;rw[yV (s:=⟨s.num,s.text,0⟩) _ (λq f=>by grind)];rfl
end Jr
namespace Jr
open Go.RowKit Go.Maps Mem Foot Bytes Im Wm Hi Plainw Cq Dm Dh Dd
theorem zH {S:Dk}(b:Dm.Good S)(t:Int):∀s∈(eH S t).ah,s.cJ=s.text.size:=λs d=>by
 have a:s∈S.ah.map (dT (if t<0 then 0 else t)):=d;obtain⟨q,c,rfl⟩:=List.mem_map.1 a;obtain⟨m,_,_,_,h⟩:=uH (if t<0 then 0 else t) q (by split<;>omega) (b.cJ q c);exact h
theorem Iq {w:N}{a ba cap:Nat}{bs:List Nat}{S:Dk}(h:PD w a S ba cap bs):∀b∈pf a ba bs,b<w.heap.size:=λb c=>by
 obtain⟨t,e,d⟩:=fx h c;exact d.lt
theorem DN {C:Dk}(h:Dm.Good C)(i:Nat):Dm.Good ⟨C.ah.take i,-1,-1⟩:=
 {h with bQ:=h.bQ.sublist (List.take_sublist i _),cJ:=λs a=>h.cJ s (List.mem_of_mem_take a),num:=λs a=>h.num s (List.mem_of_mem_take a),left:=(by decide:(-1:Int)<=-1/\(-1:Int)<=9223372036854775807),room:=(by decide:(-1:Int)<=-1/\(-1:Int)<=9223372036854775807)}
theorem jW (l:List bM)(i:Nat):Dm.used (l.take i)+0<=Dm.used l:=by grind [gW,List.take_append_drop]
end Jr
namespace Lw
open Go.RowKit Go.Maps Go.Shelf Mem Foot Bytes Im Wm Hi Plainw Cq Dm Dh Jr Wi Sk Hn Kr Dd
variable {w0 w w' w1 : N} {r n k u ba cap : Nat} {bs : List Nat} {R : Rn} {p : Rp} {F : List Nat} {C : Dk}
set_option maxRecDepth 10000 in
theorem Rj (ra:RA w r R p F)(hP:PD w p.bx C ba cap bs)(hF:Fit C k u)(hk:k<=1000000000)(hu:u<=100000000000)(c2:∀s∈C.ah,s.cJ=s.text.size)(hl:C.left = -1)(hr:C.room = -1):
  vd Zb 31 #[ca (Z ⟨r,0,Y⟩)] w λe w'=>∃m n d f,e=Ua (ca (Z ⟨m,0,Y⟩))/\PD w' m C n d f/\(∀b∈pf m n f,w.heap.size<=b)/\Below w.heap.size w w':=by
 have hlen:=hP.len;have a4:=hF.len;have b9:bs.length<=1000000000:=by omega
 have f6:C.ah.length<=1000000000:=by omega
 have t:=aa hF;have d6:=aa c2;have b1:=aa hl;have d5:=aa (show (⟨C.ah,-1,-1⟩:Dk)=C by cases C;simp only at hl hr;rw[hl,hr]);have z:=aa (λ(W:N) (M:Below w.heap.size w W)=>show W.cell? ⟨r,7,Y⟩=Z (ca (Z ⟨p.bx,0,Y⟩))/\W.cell? ⟨r,25,Y⟩=Z (.bool true)/\PD W p.bx C ba cap bs from⟨(ra.keep M).head.Ri 7,(ra.keep M).head.Ri 25,hP.keep M⟩);clear hlen a4 c2 hl hr hF hP ra;go_in;go_wp2_with fail;refine(new w).mono ?_;rintro e w2 ⟨rfl,rfl⟩;have a0:=aa (af.new w 62 #[Q Y 0 0,I O (-1),I O (-1)]);have G:=aa (ai (w:=w) (.cells #[Q Y 0 0,I O (-1),I O (-1)] 62));generalize w.alloc (.cells #[Q Y 0 0,I O (-1),I O (-1)] 62)=w2 at *;generalize c4:w.heap.size=m at a0 z G ⊢;have H:=aa c4;clear c4;obtain⟨c7,-,c6⟩:=z.out w2 G.out;have a6:=list p.bx ba cap bs C w2 c6 b9;have hd:fM C=(C.ah.map (·.num),0):=by unfold fM;rw[if_neg (by rw[b1.out];decide)]
 rw[hd]at a6;clear hd c6;go_wp2_with fail;refine a6.mono ?_;clear a6;rintro e w3 ⟨v,rfl,hv,a3⟩;obtain⟨a,c,rfl⟩:=ak hv;have HV:=aa (fw hv (Wf _));have d2:Hid (Below m w w3):=G.out.trans (a3.mono (by rw[<-H.out];exact G.out.size));have e5:=aa (Mem.af.below a0.out a3 a0.out.lt);clear hv a3 c7;simp only[Yc]at HV ⊢;have d8:=aa (show PD w3 m ⟨C.ah.take 0,-1,-1⟩ (m+1) 0 [] from⟨e5.out,rfl,λe=>absurd rfl e,λi b s h=>(by cases h),by simp,λe=>absurd rfl e⟩);go_wp2_with (first|(go_at_call 29;refine(Check.num _ _).mono ?_;rintro e w' ⟨rfl,rfl⟩)|(go_at_call 11;refine(dX r _).mono ?_;rintro e w' ⟨rfl,rfl⟩))
 go_loopw [6] (λs wr=>∃(i:Nat) (n d:Nat) (f:List Nat),s=I O (i:Int)/\i<=C.ah.length/\Hid (PD wr m ⟨C.ah.take i,-1,-1⟩ n d f)/\Hid (∀b∈pf m n f,m<=b)/\Hid (Below m w wr)/\Hid (wr.ownsRow 0 3 1 (Q a C.ah.length c) C.ah.length ((C.ah.map (·.num)).map (Vf O)))) (λs _=>C.ah.length - (intOf s).toNat)
 case atStart=>exact⟨0,m+1,0,[],rfl,Wf _,d8.out,λb M=>by simp[pf]at M;omega,d2.out,HV.out⟩
 case round=>
  obtain⟨i,n,d,f,rfl,f8,J,X,x,a1⟩:=hrel;have A:=aa (show m<=wr.heap.size by rw[<-H.out];exact x.out.size);obtain⟨c7,f0,-⟩:=z.out wr x.out;by_cases hi:i<C.ah.length
  .have f3:(i:Int)<(C.ah.length:Int):=by omega
   obtain⟨s,hs⟩:∃s,C.ah[i]? = Z s:=⟨_,Vc hi⟩;have y:=List.mem_of_getElem? hs;have U:(C.ah.map (·.num))[i]? = Z s.num:=by rw[Ue,hs];rfl
   have b2:=aa (λ(W:N) (ho:W.ownsRow 0 3 1 (Q a C.ah.length c) C.ah.length ((C.ah.map (·.num)).map (Vf O)))=>eO (l:=C.ah.map (·.num)) (w:=W) (base:=0) (v:=Q a C.ah.length c) (by rw[Yc];exact ho) U);obtain⟨g,cp,hv,c0,f7,-⟩:=b2.out wr a1.out;rw[Yc]at hv c0;injection hv with e1 e2 e3;clear e2;subst e1;subst e3;have S:=aa (λ(W:N) (ho:W.ownsRow 0 3 1 (Q (Z ⟨g,0,Y⟩) C.ah.length c) C.ah.length ((C.ah.map (·.num)).map (Vf O)))=>show W.cell? ⟨g,i,Y⟩=Z (I O s.num) from by
    obtain⟨g5,f5,d1,_,_,f1⟩:=b2.out W ho;rw[Yc]at d1;injection d1 with q1;have f2:g=g5:=by injection q1 with q;injection q
    rw[f2];exact f1)
   have b5:=aa (λq:Bw wr=>aT (s:=q) (by
    have o:=read p.bx ba cap bs C s.num q.val (z.out q.val (x.out.trans (q.is.mono A.out))).2.2 b9;rw[pj b1.out t.out.aJ y]at o;exact o.mono λe w' ⟨h2,h3⟩=>⟨h2,h3▸Ve _ _⟩))
   have C7:∀q:Bw wr,q.val.cell? ⟨r,7,Y⟩=Z (ca (Z ⟨p.bx,0,Y⟩)):=λq=>(z.out q.val (x.out.trans (q.is.mono A.out))).1
   have CG:∀q:Bw wr,q.val.cell? ⟨g,i,Y⟩=Z (I O s.num):=λq=>S.out q.val (aE a1.out q.is)
   have E:=t.out.aJ.bQ;have P:∀q∈C.ah.take i,q.num<s.num:=λq hq=>by
    obtain⟨j,hj,rfl⟩:=List.mem_iff_getElem.1 hq;rw[Uf]at hj;have o:=List.pairwise_iff_getElem.1 E j i (by omega) hi (by omega);rw[Vc hi]at hs;rw[List.getElem_take,<-Option.some.inj hs];exact o
   have h0:=(t.out.aJ.num s y).1;have a5:Dm.Good ⟨C.ah.take i,-1,-1⟩:=DN t.out.aJ i;have V:Dm.used (C.ah.take i)+s.text.size<=1000000000000:=by
    have o:=Jr.jW C.ah i;have h2:=gn y;have h3:=t.out.use;omega
   have d0:=J.out.len;have c9:f.length<=1000000000:=by
    rw[d0];show (C.ah.take i).length<=_;rw[Uf];omega
   have a9:=aa (λ(W:N) (M:Below wr.heap.size wr W)=>by
    have o:=append m n d f ⟨C.ah.take i,-1,-1⟩ s.num s.text W (J.out.keep M) a5 c9 V;rw[pF P h0]at o;exact o)
   have e6:=aa (Du (s:=s) P);have d7:=aa (show Dm.Good ⟨C.ah.take i++[⟨s.num,s.text,0⟩],-1,-1⟩ by
    have o:=(gz (dC a5) s.num s.text (t.out.aJ.num s y).2).aJ;rw[pF P h0]at o;exact o)
   have e7:=aa (show (⟨C.ah.take i++[⟨s.num,s.text,s.text.size⟩],-1,-1⟩:Dk)=⟨C.ah.take (i+1),-1,-1⟩ by
    have o:(⟨s.num,s.text,s.text.size⟩:bM)=s:=by
     have:=d6.out s y;cases s;simp only at this;rw[this]
    rw[List.take_add_one,hs,o];rfl)
   clear hs U y E P h0 a5 V d0 c9;go_upto_region 7 with fail;clear c7 f0;refine aU ?_;repeat go_big_quiet_step ((go_at_call 55;exact b5.out _))
   refine Yb ?_;rintro _ ⟨q,rfl⟩;have HQ:=aa q.is;have cg:=CG q;clear C7 CG b5;generalize q.val=w4 at *;have b8:=a9.out w4 HQ.out;have d3:=aa (x.out.trans (HQ.out.mono A.out));have e8:=aa (aE a1.out HQ.out);have d9:=aa (J.out.keep HQ.out);have f4:=HQ.out.size;clear a9;go_wp2_with fail;refine b8.mono ?_;clear b8 cg;rintro e w5 ⟨rfl,a7,K,T,B,a2,c1⟩;have b6:=aa (vC e8.out d9.out a7 (by decide) (by decide) (by decide));have b3:=aa (show ∀b∈pf m K B,m<=b from λb M=>(c1 b M).elim (X.out b) λe=>by
    have h2:=A.out;omega)
   have b0:=aa (d3.out.trans (a7.below X.out (by have:=A.out;omega)));have b4:=aa a2;have cg:=S.out w5 b6.out;have c8:B.length<=1000000000:=by
    have o:=a2.len;rw[o];show (C.ah.take i++[_]).length<=_;rw[List.length_append,Uf,List.length_singleton];have:=t.out.len;omega
   have a8:=sync m K T B ⟨C.ah.take i++[⟨s.num,s.text,0⟩],-1,-1⟩ s.num w5 b4.out d7.out c8;rw[e6.out,e7.out]at a8;clear a7 a2 c1 f4;go_wp2_with fail;refine a8.mono ?_;clear a8 cg;rintro e w6 ⟨rfl,c5,b7⟩;have D:an (pf m K B) w5 w6:=c5.mono λk _ hk=>gg hk
   have e9:=aa (vC b6.out b4.out D (by decide) (by decide) (by decide));have d4:=aa (b0.out.trans (D.below b3.out (by rw[<-H.out];exact b0.out.size)));have e0:=aa b7;clear c5 D b7;go_wp2_with (first|(go_at_call 29;refine(Check.num _ _).mono ?_;rintro e w' ⟨rfl,rfl⟩)|(go_at_call 11;refine(dX r _).mono ?_;rintro e w' ⟨rfl,rfl⟩))
   go_roundw
   case rel=>exact⟨i+1,K,T,B,by go_num,by omega,e0,b3,d4,e9⟩
   case measure=>simp only[intOf];omega
  have f3:¬(i:Int)<(C.ah.length:Int):=by omega
  have c3:i=C.ah.length:=by omega
  have e4:=aa (show PD wr m C n d f by
   have o:=J.out;rw[c3,List.take_length,d5.out]at o;exact o)
  clear c3;go_wp2_with fail;go_ret;rw[H.out];exact⟨m,rfl,n,d,f,e4.out,X.out,x.out⟩
end Lw
end Go.Proofs.YtpndiccohnafbaaGreatDoor
