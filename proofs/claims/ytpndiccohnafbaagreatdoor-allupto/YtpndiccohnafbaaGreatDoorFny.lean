/- What a journal that was opened has: no Go in sight. -/
import Derived.Test.YtpndiccohnafbaaGreatDoorQqy
set_option maxHeartbeats 9000000
open Go.Value renaming pointer->ca,slice->Va,int->I,string->L
open Option renaming some->Z,none->Y
open Go.Ending renaming returned->Ua
open Go.IntKind renaming i64->O
open List renaming mem_singleton->Wa,length_map->Xa,getElem?_eq_getElem->Za,mem_map_of_mem->Vb,take_succ_cons->Wb,drop_succ_cons->Xb,take_zero->Zb,drop_zero->Uc,eq_nil_or_concat->Vc,concat_eq_append->Wc,mem_of_getElem?->Xc,flatMap_append->Zc,getElem?_map->vd,mem_map->Ud,getElem_map->Vd,length_eq_zero_iff->Xd,mem_append_right->te
open Or renaming inl->Ya,inr->qb
open Go.Proofs.Tryz renaming prog->eb,underlying95->zd
open Nat renaming le_trans->Ub,zero_le->ad,le_of_eq->Ue
open Classical renaming byContradiction->Yb
open Go renaming bodyPost_ret->Yc,wpQuiet_nil->ed,World->N,run_loadVar_row->Zd
open Option.some renaming inj->Ve
namespace Go.Proofs.YtpndiccohnafbaaGreatDoor
namespace Jr
open Bytes Im Dm
variable {S : Dk} {K : List (Int × List Rc)} {H : Hs} {A C : List Et} {Q : Hs -> Prop}
theorem wk.lv (h:wk (bm S) K H)(a:Int):Lv (Di a H) (bm S) K [] H H.ar.length:=by
 have:=h.tid.kd h.ne h.cl h.up a;grind [is,qv]
theorem wk.free (h:wk S K H)(g:H.ar=[]):H.az=[]\/∃f x r,K=f++[(x,[r])]/\r.k=98/\r.Ok/\H.az=[x]:=by
 have d:=h.is;have c:=h.cl;rcases Vc K with e|⟨f,p,e⟩
 .subst e;rw[<-d];exact Ya rfl
 rw[Wc]at e;obtain⟨x,o⟩:=p;have hrs:o≠[]:=h.ne (x,o) (by rw[e];simp);rcases Vc o with i|⟨a,r,i⟩
 .exact absurd i hrs
 rw[Wc]at i;subst i;subst e;have q:=nC f x a r;rw[q,aK]at d;rw[q,bG]at c;have l:=c.2.1;have s:H=hnext (av hs0 (aG (f++[(x,a)]))) ((x,(stx a).length+r.tx.length),r):=d.symm;rcases l.ok.k with b|b|b
 .exfalso;have b:r.k=100:=b;rw[s]at g;unfold hnext htk at g;simp_all
 .grind [hnext,htk]
 right
 have t:=l.base b;have b:r.k=98:=b;have n:a=[]:=Yb λm=>by
  obtain⟨z,hz⟩:=List.exists_mem_of_ne_nil _ (show br x 0 a≠[] from λe=>m (Xd.1 (by grind [iD])));have j:=(oK c.1).1 z (by grind [dh]);rw[eF hz]at j;unfold bF at j;rw[t,List.append_nil]at j;exact l.own j
 subst n;refine⟨f,x,r,rfl,b,l.ok,?_⟩;grind [hnext,htk]
end Jr
namespace Dd
open Go.RowKit Bytes Im Wm Dm Jr Sk Mem Foot Wi Kr
variable {D : Dn} {R : List (Int × List Rc)} {b : List Rc} {H : Hs} {sure n : Nat}
abbrev dx (D:Dn):Dn:={D with S:=bm D.S}
structure DL (D:Dn)(R:List (Int×List Rc))(b:List Rc)(H:Hs)(sure n:Nat):Prop where
 dk:DK (dx D) R b H n
 lv:Lv D.J (bm D.S) R b H sure
def iw (D:Dn)(x:Jn×Dk×Int):Dn:={D with J:=x.1,S:=x.2.1}
theorem Ds {x:Jn×Dk×Int}(a:x.1=D.J)(b:bm x.2.1=bm D.S):dx (iw D x)=dx D:=by grind [iw]
theorem DL.iw {x:Jn×Dk×Int}(h:DL D R b H sure n)(a:x.1=D.J)(c:bm x.2.1=bm D.S):DL (iw D x) R b H sure n:=
 ⟨by rw[Ds a c];exact h.dk,by show Lv x.1 (bm x.2.1) R b H sure;grind [lv]⟩
theorem DL.QV (h:DL D R b H sure n):((aQ D.J D.S).2.2=0/\dx (jm D)=jm (dx D)/\DL (jm D) R [] H H.ar.length n)\/((aQ D.J D.S).2.2=8/\DL (Dd.iw D (aQ D.J D.S)) R b H sure n):=by
 obtain⟨f,g,i,k,_⟩:=h.lv.sync;have j:=h.dk.sync;rcases gj h.lv.kd.seg.calm with ⟨a,c,d⟩|⟨a,c,d,_⟩
 .have e:dx (jm D)=jm (dx D):=by grind [jm]
  exact Ya ⟨a,e,by grind,by show Lv (aQ D.J D.S).1 (bm (aQ D.J D.S).2.1) R [] H H.ar.length;grind⟩
 exact qb ⟨a,h.iw c d⟩
theorem DL.writes (h:DL D R b H sure n)(K:n<=100000000){s:ByteArray}(P:s.size<=256):
  ((aY D.J D.S D.num s).2.2=0/\dx (ig D s)=ig (dx D) s/\∃i f d,DL (ig D s) i f d sure (n+s.size+1)/\d.ar=H.ar++[s]/\d.ae=H.ae/\d.g=H.g)\/
  (Er (aY D.J D.S D.num s).2.2/\∃f,DL (Dd.iw D (aY D.J D.S D.num s)) R f H sure n):=by
 have a:=h.dk;have V:=(a.ok.write K P).1;have v:-1<=D.J.al/\D.J.al<D.num:=a.ok.fZ;have w:0<=D.num/\D.num<=1000000000:=a.ok.num;have t:D.J.next<=9223372036854775807:=by
  have:D.J.next<=n:=a.ok.next;omega
 have r:0<D.count->D.J.aN≠[]:=a.ok.aN;have G:D.count=H.ar.length:=by
  have:D.count=(H.ar.map B).length:=a.ok.cnt;grind
 obtain⟨x,S',i,f,d,e,k,A,E,o,F,_⟩:=h.lv.write t ⟨v.1,by omega⟩ D.num s ⟨Ya rfl,w.1,w.2,by grind⟩ (by rw[h.lv.kd.g];exact v.2)
  (Classical.byCases (λe:H.ar=[]=>Ya e) λe=>qb (a.num e).symm) (λe=>Yb λM=>r (by grind) e)
 rcases Fv h.lv.kd.seg.calm t D.num s with ⟨j,l,m⟩|⟨j,⟨l,m⟩|⟨l,m⟩⟩
 .have p:dx (ig D s)=ig (dx D) s:=by grind [ig]
  refine Ya ⟨j,p,i,f,d,⟨?_,by show Lv (aY D.J D.S D.num s).1 (bm (aY D.J D.S D.num s).2.1) i f d sure;grind⟩,A,o,F⟩;rw[p];have q:x.most=D.J.most:=by
   obtain⟨y,z,u,_,_,_,_,_,U,_⟩:=h.lv.kd.seg.calm.write t D.num s;grind
  exact⟨by grind,by show Kd (aY D.J (bm D.S) D.num s).1 (aY D.J (bm D.S) D.num s).2.1 i f d;grind [Lv.kd],λ_=>E,by rw[o];exact a.due,by rw[o];exact a.dg,by show (aY D.J (bm D.S) D.num s).1.most=D.c 5;rw[e];exact q.trans a.most⟩
 .exact qb ⟨j,b,h.iw l m⟩
 obtain⟨y,z,u,T,_⟩:=h.lv.sync;refine qb ⟨j,[],?_,by show Lv (aY D.J D.S D.num s).1 (bm (aY D.J D.S D.num s).2.1) R [] H sure;rw[l,m,u];exact T.less h.lv.sure⟩;have p:dx (Dd.iw D (aY D.J D.S D.num s))=jm (dx D):=by grind [Dd.iw,jm]
 grind [DK.sync]
variable {D : Dn} {R : List (Int × List Rc)} {b : List Rc} {H : Hs} {sure n : Nat}
theorem DL.cnt (h:DL D R b H sure n):D.count=H.ar.length:=by
 have:D.count=(H.ar.map B).length:=h.dk.ok.cnt;grind
theorem DL.Np (h:DL D R b H sure n)(k:D.num<D.clock / D.c 0)(a:H.ar=[]):DL (bA D) R b H sure (n+1)/\(bA D).num=D.clock / D.c 0/\dx (bA D)=bA (dx D):=by
 have j:¬0<D.count:=by rw[h.cnt,a];simp
 have i:∀S,bA {D with S:=S}={D with S:=S,num:=D.clock / D.c 0,count:=0,W:=gC}:=λS=>by grind [bA]
 have d:=h.dk.ok.bT.1;rw[if_neg (show ¬(dx D).clock / (dx D).c 0<=(dx D).num from by grind)]at d;have f:bA D={D with num:=D.clock / D.c 0,count:=0,W:=gC}:=i D.S;have g:bA (dx D)=dx (bA D):=by grind
 rw[g]at d;refine⟨⟨⟨by grind,?_,λe=>absurd a e,?_,h.dk.dg,?_⟩,?_⟩,by rw[f],g.symm⟩
 .rw[f];exact h.dk.kd
 .rw[f];exact h.dk.due
 .rw[f];exact h.dk.most
 grind [lv]
theorem DL.Ns (h:DL D R b H sure n)(U:n<=100000000)(hq:D.num<D.clock / D.c 0)(g:H.ar≠[]):
  ((bE D.J D.S D.num).2.2=0/\(∃y j,DL (bA D) y [] j 0 (n+1)/\kY j H D.J.aN)/\(bA D).num=D.clock / D.c 0/\(bA D).due=D.due++[⟨D.num,fq D⟩]/\dx (bA D)=bA (dx D))\/
  (Er (bE D.J D.S D.num).2.2/\DL (Dd.iw D (bE D.J D.S D.num)) R b H sure n)\/
  ((bE D.J D.S D.num).2.2=8/\For (bm (bE D.J D.S D.num).2.1) λK=>ng K H sure\/kY K H D.J.aN):=by
 have a:=h.dk;have f:0<D.count:=by grind [cnt]
 have i:H.onum=D.num:=a.num g;have hm:0<=D.num/\D.num<=1000000000:=a.ok.num;have d:D.J.aN≠[]:=a.ok.aN f;have M:=a.PU U;have A:D.J.ae.map (·.1)=D.due.map (·.k):=a.ok.keys;have q:∀m∈D.due,m.k<D.num:=a.ok.lt;have E:∀p∈D.J.ae,p.1<H.onum:=λp hp=>by grind [Vb]
 have z:bA D={D with J:=(bE D.J D.S D.num).1,S:=(bE D.J D.S D.num).2.1,due:=iR ⟨D.num,fq D⟩ D.due,num:=D.clock / D.c 0,count:=0,W:=gC}:=by grind [bA]
 have t:=a.ok.bT.1;rw[if_neg (show ¬(dx D).clock / (dx D).c 0<=(dx D).num from by grind)]at t;have r:iR ⟨D.num,fq D⟩ D.due=D.due++[⟨D.num,fq D⟩]:=rB q;obtain⟨G,S',y,j,e,k,l,a6,a7⟩:=h.lv.sw d g (by omega) E;rw[i]at e;rcases yr h.lv.kd.seg.calm d D.num with ⟨v,w,x⟩|⟨v,w,x⟩|⟨v,w,x⟩
 .have o:dx (bA D)=bA (dx D):=by
   rw[z];unfold dx bA;simp only;rw[if_neg (by omega),if_pos f,w,x];rfl
  refine Ya ⟨v,⟨y,j,⟨?_,?_⟩,l⟩,by rw[z],by grind,o⟩
  .have F:G.most=D.J.most:=by
    obtain⟨V,X,e2,_,_,_,_,_,e3,_⟩:=h.lv.kd.seg.calm.sw d (win:=D.num) (λT=>by grind);grind
   have P:iR ⟨D.num,fq D⟩ D.due=bI D.c j.ae:=by
    rw[r,l.1,show D.due=bI D.c H.ae from a.due];unfold bI;rw[List.map_append,i];congr 1;unfold fq;rw[show D.W=(H.ar.map B).foldl (ju (bP D.c)) gC from a.ok.win];rfl
   refine⟨by rw[o,l.2.1];exact t,by grind [Lv.kd],λe=>absurd l.2.1 e,by grind,λs u=>?_,?_⟩
   .rw[l.1]at u;rcases List.mem_append.1 u with u|u
    .exact a.dg s u
    grind
   rw[z];show (bE D.J D.S D.num).1.most=D.c 5;rw[w,e];exact F.trans a.most
  grind
 .exact qb (Ya ⟨v,h.iw w x⟩)
 refine qb (qb ⟨v,?_⟩);rw[x,<-i];exact h.lv.half d g (by omega)
end Dd
namespace Jr
open Bytes Im Dm
variable {J : Jn} {S : Dk} {R : List (Int × List Rc)} {b : List Rc} {H : Hs} {sure n : Nat} {pre post : List (Int × List ByteArray × List Int)} {s0 : Int × List ByteArray × List Int}
theorem Kd.rows (h:Kd J S R b H)(a:H.ae=pre++s0 ::post):J.ae=(pre.map λs=>(s.1,s.2.2))++(s0.1,s0.2.2) ::post.map λs=>(s.1,s.2.2):=by grind [ae]
theorem tN (h:Lv J (bm S) R b H sure)(j:H.ae=pre++s0 ::post)(i:s0.2.2≠[])(e:H.g≠s0.1\/(H.az≠[]/\b=[]))(hz:(fY J S s0.1).2.2=0):
  (fY J S s0.1).1=(fY J (bm S) s0.1).1/\bm (fY J S s0.1).2.1=(fY J (bm S) s0.1).2.1:=by
 obtain⟨l,k,_,_⟩:=h.fin j i e;have d:∀n∈s0.2.2.reverse,n∈S.ah.map (·.num):=λn v=>h.kd.seg.calm.perm.mem_iff.2 (List.mem_append_left _ (by
  rw[<-h.kd.own,j,Zc,List.flatMap_cons];grind))
 have f:s0.2.2.reverse.Nodup:=by
  have u:=h.kd.owns;grind
 have o:((bm S).ah.map (·.num)).Perm (s0.2.2.reverse++(((pre.map λs=>(s.1,s.2.2)).flatMap (·.2)++(post.map λs=>(s.1,s.2.2)).flatMap (·.2))++J.aN)):=by
  refine h.kd.seg.calm.perm.trans ?_;rw[h.kd.rows j];grind
 have p:=(rF h.kd.seg.calm.left h.kd.seg.calm.aJ o).1;have m:=nO (l:=s0.2.2.reverse) h.kd.seg.calm.left h.kd.seg.calm.aJ d f;obtain⟨a,c,q,r,t⟩:=ny (S:=S) h.kd.seg.calm.aJ d f;grind [fY,bm]
theorem wW (h:Lv J (bm S) R b H sure)(i:J.next<=9223372036854775807)(j:0<=J.al/\J.al<=1000000000)(l:H.ae=pre++s0 ::post)(f:s0.2.2≠[])(hz:(aO J S s0.1).2.2=0):
  (aO J S s0.1).1=(aO J (bm S) s0.1).1/\bm (aO J S s0.1).2.1=(aO J (bm S) s0.1).2.1:=by
 unfold aO at hz ⊢;by_cases c:s0.1=J.al
 .rw[if_pos c]at hz ⊢;rw[if_pos c];obtain⟨n,p,o,m,e,k,q,r,s,t,u,_⟩:=h.keep i j;have d:(bR J S).2.2=0:=Yb λx=>by grind
  rcases rH h.kd.seg.calm i with ⟨a,v,w⟩|⟨a,_⟩|⟨a,_⟩
  .grind [tN]
  .rw[d]at a;rcases a with a|a<;>exact absurd a (by decide)
  omega
 rw[if_neg c]at hz ⊢;rw[if_neg c];exact tN h l f (Ya λe=>c (by rw[<-e];exact h.kd.g)) hz
theorem ym {l:List Et}:∀{h:Hs},(∀s∈h.ae,s.2.2≠[])->∀s∈(av h l).ae,s.2.2≠[]:=by
 induction l with
 | nil=>exact λh=>h
 | cons x l a=>
  intro h c;refine a (h:=hnext h x) λs b=>?_
  grind [eL,qs,htk]
end Jr
namespace Dd
open Go.RowKit Bytes Im Wm Dm Jr Sk Mem Foot Wi Kr
variable {D : Dn} {R : List (Int × List Rc)} {b : List Rc} {H : Hs} {sure n : Nat}
theorem DL.RN (h:DL D R b H sure n)(V:n<=100000000){win:Int}(hw:win∈D.due.map (·.k)):
  ∃pre s0 post,H.ae=pre++s0 ::post/\s0.1=win/\D.due.filter (λm=>!decide (m.k=win))=bI D.c (pre++post)/\
  (((aO D.J D.S win).2.2=0/\dx (qY D win)=qY (dx D) win/\∃q t d,DL (qY D win) q t d sure (n+1)/\d.ae=pre++post/\d.ar=H.ar/\d.g=H.g)\/
  (Er (aO D.J D.S win).2.2/\DL (Dd.iw D (aO D.J D.S win)) R b H sure n)\/
  ((aO D.J D.S win).2.2=8/\For (bm (aO D.J D.S win).2.1) λK=>ng K H sure\/ng K {H with ae:=pre++post} sure)):=by
 have a:=h.dk;have T:D.due=bI D.c H.ae:=a.due;have E:=a.dW;obtain⟨s0,hs0,z⟩:∃s0∈H.ae,s0.1=win:=by grind [nB]
 obtain⟨pre,post,i⟩:=List.append_of_mem hs0;subst z;have f:D.due.filter (λm=>!decide (m.k=s0.1))=bI D.c (pre++post):=by
  have y:=E.up;rw[i,List.map_append,List.map_cons,List.pairwise_append,List.pairwise_cons]at y;grind [bI,List.filter_eq_self,Vb]
 refine⟨pre,s0,post,i,rfl,f,?_⟩;have j:s0.2.2≠[]:=by
  have:=ym (l:=aG R) (h:=Jr.hs0) (λs i=>by cases i);rw[h.lv.kd.is]at this;grind
 have X:=a.ok.RD V hw;have A:D.J.next<=9223372036854775807:=by
  have:D.J.next<=n:=a.ok.next;omega
 have U:-1<=D.J.al/\D.J.al<D.num:=a.ok.fZ;have W:0<=D.num/\D.num<=1000000000:=a.ok.num;have v:0<=D.J.al:=by
  rw[<-h.lv.kd.g];have h1:=(E.sn s0 hs0);omega
 have F:0<=D.J.al/\D.J.al<=1000000000:=⟨v,by omega⟩;have x:(aO D.J (bm D.S) s0.1).1.most=D.J.most:=by
  have w:D.J.ae.map (·.1)=D.due.map (·.k):=a.ok.keys;obtain⟨r,hr⟩:=get_some (l:=D.J.ae) (k:=s0.1) (by grind);obtain⟨J2,S2,e2,_,_,_,_,e3,_⟩:=a.kd.seg.calm.forget A a.ok.nodup hr;grind
 rcases h.lv.KR A F i j with ⟨p,q,t,d,o,G,B,M,P⟩|⟨p,o⟩|k
 .obtain⟨q1,q2⟩:=wW h.lv A F i j p;have u:dx (qY D s0.1)=qY (dx D) s0.1:=by grind [qY]
  exact Ya ⟨p,u,q,t,d,⟨⟨by grind,o.kd,λe=>by rw[B]at e;exact(M e).trans (a.num e),by show D.due.filter (λm=>!decide (m.k=s0.1))=bI D.c d.ae;grind,λs a0=>a.dg s (by grind),by show (aO D.J D.S s0.1).1.most=D.c 5;rw[q1];exact x.trans a.most⟩,o⟩,G,B,P⟩
 .exact qb (Ya ⟨p,h.iw o.1 o.2⟩)
 grind
variable {c : Fin 6 -> Int} {S : Dk} {K : List (Int × List Rc)} {H : Hs} {n : Nat}
noncomputable def Dg (c:Fin 6->Int)(S:Dk)(H:Hs):Dn:=
 ⟨c,Di (c 5) H,S,0,(eK H).onum,H.ar.length,oy (bP c) (H.ar.map Bytes.B),bI c H.ae,false⟩
structure Sz (K:List (Int×List Rc))(H:Hs)(n:Nat):Prop where
 es:H.es+1<=n
 ah:K.length<=n
 tf:Jr.tf K<=500*n
 dues:H.ae.length<=n
 len:H.ar.length<=n
 lines:jE (H.ar.map B)<=n
 short:∀d∈H.ar,d.size<=256
 top:H.g<1000000000
 dg:∀s∈H.ae,wj s.2.1
theorem FK {r:Rc}(b:r.k=98)(c:r.Ok)(a:r.t=⟨#[]⟩):(stx [r]).length<=64:=by
 obtain⟨k,m,t⟩:=r;simp only at b a;subst b;subst a;have d:=nY [98] (win:=m) c.n0 c.n1;have e:stx [(⟨98,m,⟨#[]⟩⟩:Rc)]=bC [98] m []:=List.append_nil _;grind
theorem zT (h:wk (bm S) K H)(G:oz c)(f:Sz K H n):DL (Dg c S H) K [] H H.ar.length n:=by
 have D:=h.lv (c 5);have y:=D.kd;have z:mH H:=by
  have i:=zx.all y.cl;grind [Kd.is]
 have j:=GH z λ_=>f.top
 have P:=z.g;have A:H.ar≠[]->H.az≠[]:=by
  have i:=opened (h:=hs0) (l:=aG K) (λe=>absurd rfl e);grind [Kd.is]
 have F:0<=(eK H).onum:=by omega
 have M:0<=H.ez/\H.ez<=500*n:=by
  have t:=zL h.ne;rw[h.is]at t;have V:=f.tf;rcases t with ⟨_,e⟩|⟨p,w,_,e⟩
  .omega
  have:=CV w;omega
 have u:∀m∈bI c H.ae,0<=m.k/\m.k<(eK H).onum:=λm v=>by
  have i:m.k∈(bI c H.ae).map (·.k):=Vb v;rw[nB]at i;obtain⟨s,B,e⟩:=Ud.1 i;have U:=z.sn s B;omega
 refine⟨⟨⟨G,y.seg.calm,⟨Int.le_refl _,by show (0:Int)<=1000000000;omega⟩,⟨F,j.2.1⟩,by show H.ar.length=_;grind,rfl,by show (H.ae.map λs=>(s.1,s.2.2)).map (·.1)=(bI c H.ae).map (·.k);rw[nB,List.map_map];rfl,λm v=>(u m v).2,λm v=>(u m v).1,?_,⟨P.1,j.1⟩,λw=>by have o:0<H.ar.length:=w;exact A (List.length_pos_iff.1 o),λw=>?_,rfl,f.es,?_,by show Dm.used (bm S).ah<=500*n;rw[yZ y.seg.ah];exact f.tf,?_,by show H.ez.toNat+0<=500*n;omega,by rw[Xa];exact f.len,f.lines,λd J=>?_⟩,y,λe=>(j.2.2.1 e).symm,rfl,f.dg,rfl⟩,D⟩
 .show (bI c H.ae).Pairwise λa b=>a.k<b.k
  grind [mH.up,nB]
 .have o:H.ar.length=0:=w;rcases h.free (Xd.1 o) with e|⟨E,x,r,e,u,R,T⟩
  .exact Ya e
  refine qb ⟨x,T,?_⟩;have t:=ma E x [r] (by simp);rw[<-e,h.is]at t;show H.ez.toNat+0<=64;rw[t.2];have q:=h.cl;rw[e,dh,bG]at q;have:=FK u R (q.2.1.bare u);omega
 .show (bm S).ah.length<=n;have i:=congrArg List.length y.seg.ah;rw[Xa,Xa]at i;rw[i];exact f.ah
 .show (bI c H.ae).length<=n;unfold bI;rw[Xa];exact f.dues
 obtain⟨s,B,rfl⟩:=Ud.1 J;rw[<-aj];exact f.short s B
end Dd
namespace Jr
open Bytes Im Dm
variable {J : Jn} {S S' S'' : Dk} {R : List (Int × List Rc)} {b : List Rc} {H : Hs} {sure : Nat} {win m : Int} {d : Nat}
def Px (S' S:Dk)(d:Nat)(m:Int):Prop:=S'.ah.length<=S.ah.length+1/\Dm.used S'.ah<=Dm.used S.ah+d/\∀s∈S'.ah,s.num<m
theorem yY (p:bM->Bool)(l:List bM):Dm.used (l.filter p)<=Dm.used l:=by
 induction l with
 | nil=>exact Nat.le_refl _
 | cons x l a=>grind [used]
theorem bL.cI (h:bL J S):∀s∈S.ah,s.num<J.next:=λs a=>h.below s.num (Vb a)
theorem xg (h:bL J (bm S))(a:bm S'=bm S)(c:J.next<=m):Px (bm S') S d m:=by
 rw[a];exact⟨Nat.le_succ _,Nat.le_add_right _ _,λs b=>by have:=h.cI s b;omega⟩
theorem IX (h:bL J (bm S))(a:J.aN≠[])(hz:(bE J S win).2.2≠0):Px (bm (bE J S win).2.1) S (bC [115] win []).length J.next:=by
 rcases yr h a win with ⟨c,_⟩|⟨_,_,b⟩|⟨_,_,b⟩
 .exact absurd c hz
 .exact xg h b (Int.le_refl _)
 obtain⟨g,e,k,f,i⟩:=h.add a (bytesOf (bC [115] win []));rw[b,e];rw[dY]at f;exact⟨by grind [bm],by grind [bm],λs d=>k.cI s d⟩
theorem GW (h:bL J (bm S))(c:J.next<=9223372036854775807):Px (bm (bR J S).2.1) S (aZ J).length (J.next+1):=by
 rcases rH h c with ⟨_,_,a⟩|⟨_,_,a⟩|⟨_,_,_,a⟩
 .obtain⟨i,f,e,k,d,_,_,_,l,_,g,_⟩:=h.keep c;rw[a,e];exact⟨g,d,λs b=>by have:=k.cI s b;omega⟩
 .exact xg h a (by omega)
 obtain⟨f,e,k,d,j⟩:=h.begin c (bytesOf (aZ J));rw[a,e];rw[dY]at d;exact⟨by grind [bm],by grind [bm],λs b=>k.cI s b⟩
theorem BO (h:Lv J (bm S) R b H sure){pre post:List (Int×List ByteArray×List Int)}{s0:Int×List ByteArray×List Int}(k:H.ae=pre++s0 ::post)(i:s0.2.2≠[])(d:H.g≠s0.1\/(H.az≠[]/\b=[])):
  (fY J S s0.1).2.1.ah.length<=S.ah.length/\Dm.used (fY J S s0.1).2.1.ah<=Dm.used S.ah/\∀s∈(fY J S s0.1).2.1.ah,s∈S.ah:=by
 obtain⟨l,j,_,_⟩:=h.fin k i d;have e:∀n∈s0.2.2.reverse,n∈S.ah.map (·.num):=λn t=>h.kd.seg.calm.perm.mem_iff.2 (List.mem_append_left _ (by
  rw[<-h.kd.own,k,Zc,List.flatMap_cons];grind))
 have f:s0.2.2.reverse.Nodup:=by
  have r:=h.kd.owns;grind
 obtain⟨a,c,o,m,_⟩:=ny (S:=S) h.kd.seg.calm.aJ e f;have p:(bh S s0.2.2.reverse).1.ah=S.ah.filter λq=>!decide (q.num∈a):=congrArg (λx:Dk=>x.ah) m
 grind [yY,fY]
theorem zU (h:Lv J (bm S) R b H sure)(n:J.next<=9223372036854775807)(q:0<=J.al/\J.al<=1000000000){pre post:List (Int×List ByteArray×List Int)}{s0:Int×List ByteArray×List Int}(m:H.ae=pre++s0 ::post)(a:s0.2.2≠[]):Px (bm (aO J S s0.1).2.1) S (aZ J).length (J.next+1):=by
 have c:=GW h.kd.seg.calm n;unfold aO;by_cases l:s0.1=J.al
 .rw[if_pos l];rcases h.keeps n q with ⟨d,u,t,r,o,v,w,x,p⟩|⟨d,_⟩|⟨d,_⟩
  .rw[if_neg (by rw[d];simp)];obtain⟨f,i,j⟩:=BO r (o.trans m) a (qb ⟨p,rfl⟩);exact⟨Ub f c.1,Ub i c.2.1,λs k=>c.2.2 s (j s k)⟩
  .rw[if_pos (show (bR J S).2.2≠0 by rcases d with e|e<;>rw[e]<;>decide)];exact c
  grind
 rw[if_neg l];obtain⟨f,i,j⟩:=BO h m a (Ya λe=>l (by rw[<-e];exact h.kd.g));exact⟨Nat.le_succ_of_le f,Ub i (Nat.le_add_right _ _),λs k=>by
  have:=h.kd.seg.calm.cI s (j s k);omega⟩
end Jr
namespace Jr
open Go.RowKit Go.Maps Mem Foot Bytes Im Wm Hi Plainw Cq Dm Dh Dd
theorem Cz {S:Dk}(d:S.left≠0)(c:Dm.Good S){s:bM}(e:s∈S.ah):dt S s.num=(s.text,0):=by
 obtain⟨i,a,b⟩:=mo c.bQ e;unfold dt;rw[if_neg d,a];simp[b]
set_option maxRecDepth 10000 in
theorem QP (x J h:Nat)(u:List Nat)(S:Dk)(w:N)(y:PD w x S J h u)(T:S.left≠0)(HG:Dm.Good S)(hn:S.ah.length<=1000000000):
  Calls eb 75 #[ca (Z ⟨x,0,Y⟩)] w λe w'=>∃sa sc,e=Ua (.tuple #[Va sa (gZ S).length sc,.nilIface])/\w'.ownsRow w.heap.size 176 2 (Va sa (gZ S).length sc) (gZ S).length ((gZ S).flatMap ct)/\Below w.heap.size w w':=by
 have hlen:=y.len;have p:u.length<=1000000000:=by omega
 have i:=list x J h u S w y p;have hd:fM S=(S.ah.map (·.num),0):=by unfold fM;rw[if_neg T]
 rw[hd]at i;obtain⟨i0,hi,V,W,X⟩:=info_parts KZ;have HP:=aa y;have HL:=aa T;change Hid _ at HG;have a2:(gZ S).length=S.ah.length:=by simp[gZ]
 clear y T hlen hd;go_in;go_wp2_with fail;refine i.mono ?_;clear i;rintro e A ⟨v,rfl,m,hb⟩;obtain⟨a,c,rfl⟩:=ak m;have B:=aa hb;have HV:=aa m;clear m hb;simp only[Xa]at HV ⊢;go_wp2_with fail;go_loopw [6,22] (λr s wr=>∃(k:Nat) (t:Option Addr) (cv:Nat),r=Va t k cv/\s=I O (k:Int)/\k<=S.ah.length/\Hid (wr.ownsRow A.heap.size 176 2 (Va t k cv) k (((gZ S).take k).flatMap ct))/\Hid (Below A.heap.size A wr)) (λ_ s _=>S.ah.length - (intOf s).toNat)
 case atStart=>exact⟨0,Y,0,rfl,rfl,ad _,World.ownsRow_nil _ _ _ _,Below.refl _ _⟩
 case round=>
  obtain⟨k,t,cv,rfl,rfl,hk,D,b⟩:=hrel;have n:=aa (B.trans (b.mono B.size));by_cases P:k<S.ah.length
  .have R:(k:Int)<(S.ah.length:Int):=by omega
   obtain⟨s,z⟩:∃s,S.ah[k]? = Z s:=⟨_,Za P⟩;have d:(S.ah.map (·.num))[k]? = Z s.num:=by rw[vd,z];rfl
   obtain⟨g,a0,m,q,a1,M⟩:=eO (l:=S.ah.map (·.num)) (w:=wr) (base:=w.heap.size) (v:=Va a S.ah.length c) (by rw[Xa];exact aE HV b) d;rw[Xa]at m q;injection m with e1 _ e3;subst e1;subst e3;have j:=read x J h u S s.num wr (HP.keep n) p;rw[Cz HL HG (Xc z)]at j;have G:=aa (show ((gZ S).take k).flatMap ct++[I O s.num,L s.text]=((gZ S).take (k+1)).flatMap ct by
    have h1:(gZ S)[k]? = Z (s.num,s.text):=by unfold gZ;rw[vd,z];rfl
    rw[List.take_add_one,h1,Zc];rfl)
   clear z d;go_wp2_with fail;refine j.mono ?_;clear j;rintro e wx ⟨rfl,rfl⟩;have F:=aa (Mm wr (I O s.num) (L s.text) 176 rfl rfl);have E:=aa (D.alloc (.cells #[I O s.num,L s.text] 176));have a3:=b.size;go_wp2_with (at_builtin;refine Apn.gE _ rfl _ _ 125 rfl A.heap.size 176 i0 (.agg #[I O 0,L ⟨#[]⟩]) 2 24 Tryz.underlying125 hi V W X rfl (by decide) _ _ _ rfl E _ 1 1 [I O s.num,L s.text] rfl F (by unfold maxLen;omega) (by omega) (by simp;omega) ?_;intro v2 w2 f o U;obtain⟨H,K,rfl⟩:=Own.shape f;change Hid _ at f o;clear U)
   go_roundw
   case rel=>exact⟨k+1,H,K,rfl,by go_num,by omega,by rw[<-G.out];exact f,Own.cz b b.size D o⟩
   case measure=>simp only[intOf];omega
  have R:¬(k:Int)<(S.ah.length:Int):=by omega
  obtain rfl:k=S.ah.length:=by omega
  go_wp2_with fail;refine Yc (results_tmp2 rfl _ _ _) rfl ?_;refine⟨t,cv,rfl,?_,n⟩;have:=D.out;rw[List.take_of_length_le (by omega)]at this;exact fw this B.size
theorem QO (k m d:Nat)(j:List Nat)(S:Dk)(w:N)(n:PD w k S m d j)(q:S.left=0)(t:j.length<=1000000000):
  Calls eb 75 #[ca (Z ⟨k,0,Y⟩)] w λe r=>∃v,e=Ua (.tuple #[Va Y 0 0,v])/\fj r v 8/\Below w.heap.size w r:=by
 have b:=list k m d j S w n t;have p:fM S=([],8):=by unfold fM;rw[if_pos q]
 rw[p]at b;clear n q p;go_in;go_wp2_with fail;refine b.mono ?_;clear b;rintro e u ⟨v,rfl,h,o⟩;obtain⟨a,c,rfl⟩:=ak h;have l:=aa o;have g:=iM ⟨#[108,105,115,116,105,110,103,32,116,104,101,32,115,101,103,109,101,110,116,115]⟩ 8 u;clear h o;go_wp2_with fail;refine g.mono ?_;clear g;rintro e x ⟨⟨v,rfl,h⟩,f⟩;have s:=aa h;have i:=aa (l.trans (f.mono l.size));clear h f;go_wp2_with fail;refine Yc (results_tmp2 rfl _ _ _) rfl ?_;exact⟨v,rfl,s,i⟩
set_option maxRecDepth 10000 in
theorem Rg (w:N)(hT:gp w)(j u A:Nat)(s:List Nat)(S:Dk)(hP:PD w j S u A s)(HG:Dm.Good S)(a6:s.length<=1000000000)(num:Int)(t:ByteArray)(ua:Option Addr)(uc:Nat)(o:List Int)(HU:w.ownsRow 0 3 1 (Va ua o.length uc) o.length (o.map (Value.int O)))(hl:o.length<=1000000000)(a3:o.Pairwise (·<·))(x l:Int)(hn:-9223372036854775808<=num/\num<=9223372036854775807):
  Calls eb 114 #[ca (Z ⟨j,0,Y⟩),.agg #[I O num,L t],Va ua o.length uc,.agg #[I O x,I O l]] w λe w'=>∃v,e=Ua v/\fj w' v (du S (num,t) o x l).2/\an (pf j u s) w w'/\∃f i g,PD w' j (du S (num,t) o x l).1 f i g/\∀b∈pf j f g,b∈pf j u s\/w.heap.size<=b:=by
 have a0:=af.new w 176 #[I O num,L t];have W:=ai (w:=w) (.cells #[I O num,L t] 176);have a1:=af.new (w.alloc (.cells #[I O num,L t] 176)) 133 #[I O x,I O l];have X:=ai (w:=w.alloc (.cells #[I O num,L t] 176)) (.cells #[I O x,I O l] 133);have z:=aa (Mem.af.below a0 X a0.lt);rw[World.size_alloc]at a1;have G:=aa a1;have P:=aa (W.trans (X.mono W.size));have HP:=aa hP;change Hid _ at HG;have HT:=aa hT;change Hid _ at HU a3;clear a0 W a1 X hP hT;go_in;go_upto_region 1 with fail;generalize (w.alloc (.cells #[I O num,L t] 176)).alloc (.cells #[I O x,I O l] 133)=w2 at *;obtain⟨F,J⟩:∃F,w.heap.size=F:=⟨_,rfl⟩;rw[J]at z G;have b2:=aa J;rw[J];clear J;have x0:w2.cell? ⟨F,0,Y⟩=Z (I O num):=z.Ri 0;have a7:=bsearch ua uc o num w2 (aE HU P) hl a3;go_wp2_with fail;refine a7.mono ?_;clear a7 x0;rintro e M ⟨⟨c,rfl⟩,K⟩;have r:=aa (Mem.af.below z K z.lt);have H:=aa (Mem.af.below G K G.lt);have d:=aa (P.trans (K.mono P.size));clear K z G;have b3:=aa (HP.keep d);have a2:=aa (show ∀w',Below w.heap.size w w'->∃f i g,PD w' j S f i g/\∀b∈pf j f g,b∈pf j u s\/w.heap.size<=b from λw' hb=>⟨u,A,s,HP.keep hb,λb V=>Ya V⟩);by_cases hm:num∈o
 .rw[decide_eq_true hm];have x0:M.cell? ⟨F,0,Y⟩=Z (I O num):=r.Ri 0;have x1:M.cell? ⟨F,1,Y⟩=Z (L t):=r.Ri 1;have y0:M.cell? ⟨F+1,0,Y⟩=Z (I O x):=H.Ri 0;have y1:M.cell? ⟨F+1,1,Y⟩=Z (I O l):=H.Ri 1;by_cases he:num=x
  .by_cases a9:l<(t.size:Int)
   .have n:=aa (show du S (num,t) o x l=cx S num l by unfold du;rw[if_neg (λh=>h hm),if_pos ⟨he,a9⟩]);subst he;go_wp2_with fail;have C0:∀q:Bw M,q.val.cell? ⟨F,0,Y⟩=Z (I O num):=λq=>(Mem.af.below r q.is r.lt).Ri 0
    have C1:∀q:Bw M,q.val.cell? ⟨F+1,1,Y⟩=Z (I O l):=λq=>(Mem.af.below H q.is H.lt).Ri 1
    have a:=aa (λq:Bw M=>aT (about ⟨#[116,114,117,110,99,97,116,105,110,103]⟩ (by decide) num hn.1 hn.2 q.val ((HT.below d).below q.is)));generalize ie ⟨#[116,114,117,110,99,97,116,105,110,103]⟩ num=y at a;clear x0 x1 y0 y1;refine bg 8 ?_;simp only[Wb,Zb,Xb,Uc];repeat go_big_quiet_step ((go_at_call 100;exact a.out _))
    refine ed ?_;intro q;have p:=aa (d.trans (q.is.mono d.size));clear C0 C1 a;generalize q.val=w4 at *;have b0:=truncate j u A s S num l w4 (HP.keep p) HG a6;go_wp2_with fail;refine b0.mono ?_;clear b0;rintro e w5 ⟨rfl,E,B⟩;have R:Hid (an (pf j u s) w w5):=(an.ag p).trans (E.mono λk _ hk=>gg hk);have T:=aa B;have D:=iM y (cx S num l).2 w5;clear E B;go_wp2_with fail;refine D.mono ?_;clear D;rintro e w6 ⟨⟨v,rfl,hv⟩,m⟩;change Hid _ at m;have U:=aa hv;clear hv;go_wp2_with fail;go_ret;rw[n.out];exact⟨_,rfl,U,R.trans (an.ag m),u,A,s,T.keep m,λb V=>Ya V⟩
   have n:=aa (show du S (num,t) o x l=(S,0) by unfold du;rw[if_neg (λh=>h hm),if_neg (λh=>a9 h.2)]);subst he;go_wp2_with fail;go_ret;rw[n.out];exact⟨_,rfl,Ya ⟨rfl,rfl⟩,an.ag d,a2.out _ d⟩
  have n:=aa (show du S (num,t) o x l=(S,0) by unfold du;rw[if_neg (λh=>h hm),if_neg (λh=>he h.1)]);go_wp2_with fail;go_ret;rw[n.out];exact⟨_,rfl,Ya ⟨rfl,rfl⟩,an.ag d,a2.out _ d⟩
 rw[decide_eq_false hm];have n:=aa (show du S (num,t) o x l=aF S num by unfold du;rw[if_pos hm]);go_wp2_with fail;have C0:∀q:Bw M,q.val.cell? ⟨F,0,Y⟩=Z (I O num):=λq=>(Mem.af.below r q.is r.lt).Ri 0
 have a:=aa (λq:Bw M=>aT (about ⟨#[100,101,108,101,116,105,110,103]⟩ (by decide) num hn.1 hn.2 q.val ((HT.below d).below q.is)));generalize ie ⟨#[100,101,108,101,116,105,110,103]⟩ num=y at a;refine bg 6 ?_;simp only[Wb,Zb,Xb,Uc];repeat go_big_quiet_step ((go_at_call 100;exact a.out _))
 refine ed ?_;intro q;have p:=aa (d.trans (q.is.mono d.size));clear C0 a;generalize q.val=w4 at *;have a8:=delete j u A s S num w4 (HP.keep p) HG a6;go_wp2_with fail;refine a8.mono ?_;clear a8;rintro e w5 ⟨rfl,E,f,i,g,B,a5,a4⟩;have R:Hid (an (pf j u s) w w5):=(an.ag p).trans (E.mono λk _ hk=>by rw[Wa.1 hk];exact iA j u s);have T:=aa B;have b1:Hid (∀b∈pf j f g,b∈pf j u s\/w.heap.size<=b):=AI a5 (a4.imp id λh=>Ub p.size h);have D:=iM y (aF S num).2 w5;clear E B a5 a4;go_wp2_with fail;refine D.mono ?_;clear D;rintro e w6 ⟨⟨v,rfl,hv⟩,m⟩;change Hid _ at m;have U:=aa hv;clear hv;go_wp2_with fail;go_ret;rw[n.out];exact⟨_,rfl,U,R.trans (an.ag m),f,i,g,T.keep m,b1⟩
set_option maxRecDepth 10000 in
theorem Rh (w0 w:N)(hT:gp w0)(h0:Below w0.heap.size w0 w)(o ba d4:Nat)(bs:List Nat)(S:Dk)(hP:PD w o S ba d4 bs)(a3:∀b∈pf o ba bs,w0.heap.size<=b)(k u:Nat)(c5:Fit S k u)(hk:k<=1000000000)(l:List (Int×ByteArray))(sa:Option Addr)(sc:Nat)(c9:w.ownsRow 0 176 2 (Va sa l.length sc) l.length (l.flatMap ct))(hl:l.length<=1000000000)(HN:∀x∈l,-9223372036854775808<=x.1/\x.1<=9223372036854775807)(H:Hs)(p:Hp)(h:HA w H p)(g9:H.ae.length<=1000000000)(c0:(bF H).length<=1000000000)(b4:∀x∈bF H,-9223372036854775808<=x/\x<=9223372036854775807)(b2:(bF H).Pairwise (·<·)):
  Calls eb 77 #[ca (Z ⟨o,0,Y⟩),Va sa l.length sc,ca (Z ⟨p.hb,0,Y⟩)] w λe w'=>∃v,e=Ua v/\fj w' v (dG (bF H) H.es H.ez l S).2/\an (pf o ba bs) w w'/\∃j c d,PD w' o (dG (bF H) H.es H.ez l S).1 j c d/\∀b∈pf o j d,b∈pf o ba bs\/w.heap.size<=b:=by
 have c1:=Ro H p w h g9 c0;have HP:=aa hP;have HT:=aa hT;have c2:=aa h0;change Hid _ at a3 c5 c9 HN;have HH:=aa h;change Hid _ at b4 b2;generalize f1:bF H=m at c1 c0 b4 b2 ⊢;clear hP hT h0 h f1;go_in;go_wp2_with fail;refine c1.mono ?_;clear c1;rintro e w1 ⟨ua,uc,rfl,e9,T⟩;have g2:=aa (fw e9 (ad _));have a0:=aa T;clear e9 T;go_wp2_with fail;go_loopw [16] (λs wr=>∃(i:Nat) (S':Dk) (j c:Nat) (d:List Nat),s=I O (i:Int)/\i<=l.length/\Hid (eD m H.es H.ez (l.drop i) S'=eD m H.es H.ez l S)/\Hid (Fit S' k u)/\Hid (PD wr o S' j c d)/\Hid (∀b∈pf o j d,b∈pf o ba bs\/w.heap.size<=b)/\Hid (an (pf o ba bs) w wr)/\Hid (wr.ownsRow 0 176 2 (Va sa l.length sc) l.length (l.flatMap ct))/\Hid (HA wr H p)/\Hid (wr.ownsRow 0 3 1 (Va ua m.length uc) m.length (m.map (Value.int O)))) (λs _=>l.length - (intOf s).toNat)
 case atStart=>exact⟨0,S,ba,d4,bs,rfl,ad _,rfl,c5,HP.keep a0,λb hb=>Ya hb,an.ag a0,aE c9 a0,HH.keep a0,g2⟩
 case round=>
  obtain⟨i,S',j,c,d,rfl,h5,R,A,K,J,D,B,c6,b5⟩:=hrel;have b3:=aa (HT.below (c2.trans (D.below a3 c2.size)));have d8:d.length<=1000000000:=by
   have h1:=K.len;have h2:=A.len;omega
  rcases Nat.lt_or_ge i l.length with hi|hi
  .have g8:(i:Int)<(l.length:Int):=by omega
   obtain⟨⟨num,t⟩,hx⟩:∃x,l[i]? = Z x:=⟨_,Za hi⟩;have U:l.drop i=(num,t) ::l.drop (i+1):=by
    rw[List.drop_eq_getElem_cons hi];congr 1;rw[Za hi]at hx;exact Ve hx
   rw[U]at R;have a7:=HN.out _ (Xc hx);obtain⟨r1,r2⟩:=uo hx;obtain⟨g,cp,hv,a6,_,d1⟩:=cW B r1;obtain⟨g',h4,f2,_,_,d2⟩:=cW B r2;rw[hv]at f2;injection f2 with d5 g5 g6;clear g5 g6;have eg:g=g':=by injection d5 with e;injection e
   rw[<-eg]at d2;injection hv with e1 e2 e3;clear e2;subst e1;subst e3;clear d5 eg r1 r2 U hx;have e5:=af.new wr 176 #[I O num,L t];have T:=ai (w:=wr) (.cells #[I O num,L t] 176);have M:=aa e5;have r:=aa T;clear e5 T;simp only at d1 d2 a7;go_upto_region 5 with fail;clear d1 d2;have a4:=aa (D.trans (an.ag r));have c8:=aa (K.keep r);have f8:=aa (aE B r);have a9:=aa (c6.keep r);have d3:=aa (aE b5 r);have g0:=aa (b3.below r);generalize e6:wr.heap.size=sb at M ⊢;have h3:=aa (show w.heap.size<=sb by rw[<-e6];exact D.size);clear e6 K B c6 b5 b3 r D;generalize wr.alloc (.cells #[I O num,L t] 176)=a2 at *;have C0:∀q:Bw a2,q.val.cell? ⟨sb,0,Y⟩=Z (I O num):=λq=>(Mem.af.below M q.is M.lt).Ri 0
   have C1:∀q:Bw a2,q.val.cell? ⟨sb,1,Y⟩=Z (L t):=λq=>(Mem.af.below M q.is M.lt).Ri 1
   have C5:∀q:Bw a2,q.val.cell? ⟨p.hb,5,Y⟩=Z (I O H.es):=λq=>(a9.keep q.is).head.Ri 5
   have C6:∀q:Bw a2,q.val.cell? ⟨p.hb,6,Y⟩=Z (I O H.ez):=λq=>(a9.keep q.is).head.Ri 6
   refine bg 7 ?_;simp only[Wb,Zb,Xb,Uc];repeat go_big_quiet_step (fail)
   refine ed ?_;intro q;have n:=aa q.is;clear C0 C1 C5 C6;generalize q.val=w4 at *;have e8:=Rg w4 (g0.below n) o j c d S' (c8.keep n) A.aJ d8 num t ua uc m (aE d3 n) c0 b2 H.es H.ez a7;go_wp2_with fail;refine e8.mono ?_;clear e8;rintro e w5 ⟨v,rfl,b6,W,b7,a5,b8,b0,e0⟩;change Hid _ at b6;have b1:=aa (c8.keep n);have f9:=aa (vC (aE f8 n) b1 W (by decide) (by decide) (by decide));have f5:=aa ((a9.keep n).pd b1 W);have g3:=aa (vC (aE d3 n) b1 W (by decide) (by decide) (by decide));have c7:=aa (aP (a4.trans (an.ag n)) J W);have c4:=aa (show ∀b∈pf o b7 b8,b∈pf o ba bs\/w.heap.size<=b from λb hb=>(e0 b hb).elim (J.out b) λe=>qb (Ub (a4.trans (an.ag n)).size e));change Hid _ at b0;have g1:=aa (yR A (num,t) m H.es H.ez);clear W e0;rcases b6.out with ⟨E,rfl⟩|⟨E,f,z,rfl,_⟩
   rotate_left
   .have P:=aa (show dG m H.es H.ez l S=du S' (num,t) m H.es H.ez by
     have h1:eD m H.es H.ez l S=du S' (num,t) m H.es H.ez:=by rw[<-R.out];unfold eD;exact if_pos E
     unfold dG;rw[h1,if_pos (Ya E)])
    clear E;go_wp2_with fail;go_ret;rw[P.out];exact⟨_,rfl,b6,c7,b7,a5,b8,b0,c4⟩
   have d0:=aa (show eD m H.es H.ez (l.drop (i+1)) (du S' (num,t) m H.es H.ez).1=eD m H.es H.ez l S by rw[<-R.out,eD,if_neg λh=>h E]);clear E;go_wp2_with fail;go_roundw
   case rel=>exact⟨i+1,_,b7,a5,b8,by go_num,by omega,d0,g1,b0,c4,c7,f9,f5,g3⟩
   case measure=>simp only[intOf];omega
  have g8:¬(i:Int)<(l.length:Int):=by omega
  have U:l.drop i=[]:=List.drop_of_length_le hi;rw[U]at R;have c3:Hid (eD m H.es H.ez l S=(S',0)):=R.symm;by_cases a1:m=[]
  .subst a1;have P:=aa (show dG [] H.es H.ez l S=(S',0) by unfold dG;rw[if_pos (qb rfl)];exact c3);simp only[List.length_nil]at *;go_wp2_with fail;go_ret;rw[P.out];exact⟨_,rfl,Ya ⟨rfl,rfl⟩,D,j,c,d,K,J⟩
  obtain⟨F,x,X⟩:∃F x,m=F++[x]:=(Vc m).elim (λe=>absurd e a1) λ⟨a,b,e⟩=>⟨a,b,by rw[e,Wc]⟩
  have V:m.getLast?.getD 0=x:=by rw[X];simp
  have P:=aa (show dG m H.es H.ez l S=bz S' x by unfold dG;rw[c3.out,if_neg (λh=>h.elim (λh=>h rfl) a1),V]);have f0:m.length=F.length+1:=by rw[X];simp
  have f3:=b4.out x (by rw[X];simp);obtain⟨g,cp,hv,a6,_,g7⟩:=eO b5 (i:=F.length) (x:=x) (by rw[X];exact List.getElem?_concat_length);injection hv with e1 _ e3;subst e1;subst e3;rw[f0]at a6 ⊢;have h6:IntKind.i64.wrap (F.length:Int)=(F.length:Int):=IntWalk.i64_in _ (by omega);have d7:=about ⟨#[115,121,110,99,105,110,103]⟩ (by decide) x f3.1 f3.2 wr b3;clear V a1 X U;go_wp2_with fail;refine d7.mono ?_;clear d7;rintro e w5 ⟨rfl,b9⟩;generalize ie ⟨#[115,121,110,99,105,110,103]⟩ x=y;have f4:=aa b9;have e7:=sync o j c d S' x w5 (K.keep b9) A.aJ d8;clear b9;go_wp2_with fail;refine e7.mono ?_;clear e7;rintro e w6 ⟨rfl,e4,d6⟩;have f6:=aa (aP (G:=pf o j d) (D.trans (an.ag f4)) J (e4.mono λk _ hk=>gg hk));have f7:=aa d6;have d9:=iM y (bz S' x).2 w6;clear e4 d6;go_wp2_with fail;refine d9.mono ?_;clear d9;rintro e w7 ⟨⟨v,rfl,hv⟩,a8⟩;change Hid _ at a8;have g4:=aa hv;clear hv;go_wp2_with fail;go_ret;rw[P.out];exact⟨_,rfl,g4,f6.trans (an.ag a8),j,c,d,f7.keep a8,J⟩
structure RC (S:Dk)(ss:List (Int×List Rc))(H:Hs):Prop where
 is:av hs0 (aG ss)=H
 told:Told (gZ S) ss
 fit:fK hs0 (aG ss)
 len:(aG ss).length<=900000000
 g:H.g<=1000000000/\-1<=H.g
 es:H.es<=1000000000000/\-1<=H.es
 ez:0<=H.ez/\H.ez<=1000000000000
 cI:∀x∈gZ S,-9223372036854775808<=x.1/\x.1<=9223372036854775807
 ul:(bF H).length<=1000000000
 ur:∀x∈bF H,-9223372036854775808<=x/\x<=9223372036854775807
 us:(bF H).Pairwise (·<·)
 up:(H.ae.map (·.1)).Pairwise (·<·)
 sn:∀s∈H.ae,0<=s.1/\s.1<=1000000000
structure PL (w w':N)(bx ba:Nat)(bs:List Nat)(S':Dk)(v:Value)(m:Int):Prop where
 nn:∃f,v=.iface 212 (ca (Z ⟨f,0,Y⟩))
 bad:m≠0
 pd:∃ba' cap' bs',PD w' bx S' ba' cap' bs'/\∀b∈pf bx ba' bs',b∈pf bx ba bs\/w.heap.size<=b
 off:an (pf bx ba bs) w w'
theorem QG (w:N)(r x j:Nat)(q:List Nat)(S:Dk)(y:PD w r S x j q)(A:S.left=0)(E:q.length<=1000000000)(k:Int):
  Calls eb 52 #[ca (Z ⟨r,0,Y⟩),I O k] w λe G=>(∃f,e=Ua (.tuple #[ca Y,.agg ij,.iface 212 (ca (Z ⟨f,0,Y⟩))]))/\Below w.heap.size w G:=by
 have c:=aa (ai (w:=w) (.cells ij 95));have d:=aa (af.new w 95 ij);have hrs:=QO r x j q S (w.alloc (.cells ij 95)) (y.keep c) A E;clear y A;unfold ij at *;go_in;go_wp2_with fail;generalize w.alloc (.cells #[Va Y 0 0,I O 0,Va Y 0 0,Va Y 0 0] 95)=W at *;generalize i:w.heap.size=a at d ⊢;change Hid _ at i;refine hrs.mono ?_;clear hrs;rintro e u ⟨v,rfl,F,g⟩;rcases F with ⟨B,_⟩|⟨_,f,z,rfl,_⟩
 .exact absurd B (by decide)
 have h:=aa (c.trans (g.mono c.size));have l:=Mem.af.below d g d.lt;have J:=l.Ri 0;have R:=l.frozen 0;have m:=l.set 0 (Va Y 0 0);have K:=m.Ri 1;have T:=m.frozen 1;have n:=m.set 1 (I O 0);have M:=n.Ri 2;have U:=n.frozen 2;have o:=n.set 2 (Va Y 0 0);have P:=o.Ri 3;have V:=o.frozen 3;have p:=aa (o.set 3 (Va Y 0 0));clear l m n o g;go_wp2_with fail;have t:an [a] u ((((u.setCell ⟨a,0,Y⟩ (Va Y 0 0)).setCell ⟨a,1,Y⟩ (I O 0)).setCell ⟨a,2,Y⟩ (Va Y 0 0)).setCell ⟨a,3,Y⟩ (Va Y 0 0)):=((((an.refl _ _).set (Wa.2 rfl) _ _).set (Wa.2 rfl) _ _).set (Wa.2 rfl) _ _).set (Wa.2 rfl) _ _;have s:=p.out;generalize (((u.setCell ⟨a,0,Y⟩ (Va Y 0 0)).setCell ⟨a,1,Y⟩ (I O 0)).setCell ⟨a,2,Y⟩ (Va Y 0 0)).setCell ⟨a,3,Y⟩ (Va Y 0 0)=H at *;refine Yc (lR rfl _ _ ⟨a,0,Y⟩ (.agg #[Va Y 0 0,I O 0,Va Y 0 0,Va Y 0 0]) rfl (Zd H a 95 95 _ (0,0) _ s zd rfl (by kernel_rfl))) rfl ?_;exact⟨⟨f,rfl⟩,h.trans (t.below (λb D=>by rw[Wa.1 D];exact Ue i) h.size)⟩
set_option maxRecDepth 20000 in
theorem xR (w0 w:N)(hT:gp w0)(hE:oC w0)(h0:Below w0.heap.size w0 w)(D ba g5:Nat)(bs:List Nat)(S:Dk)(hP:PD w D S ba g5 bs)(d9:∀b∈pf D ba bs,w0.heap.size<=b)(hl:S.left≠0)(k u:Nat)(hF:Fit S k u)(y:k<=1000000000)(ss:List (Int×List Rc))(H:Hs)(k2:RC S ss H)(m:Int):
  Calls eb 52 #[ca (Z ⟨D,0,Y⟩),I O m] w λe w'=>(∃v,e=Ua (.tuple #[ca Y,.agg ij,v])/\PL w w' D ba bs (dG (bF H) H.es H.ez (gZ S) S).1 v (dG (bF H) H.es H.ez (gZ S) S).2)\/((dG (bF H) H.es H.ez (gZ S) S).2=0/\∃jb A p,e=Ua (.tuple #[ca (Z ⟨jb,0,Y⟩),.agg #[p.sv,I O (eK H).onum,p.dv,p.sg],.nilIface])/\PM w w' D ba bs (dG (bF H) H.es H.ez (gZ S) S).1 m H p jb A):=by
 have c2:=BX H;generalize k3:(eK H).onum=on at c2 ⊢;change Hid _ at c2;clear k3;have a0:=ai (w:=w) (.cells ij 95);have j7:=af.new w 95 ij;have hrs:=QP D ba g5 bs S (w.alloc (.cells ij 95)) (hP.keep a0) hl hF.aJ (by have:=hF.len;omega);have i1:=aa a0;have e9:=aa j7;have HP:=aa hP;have HT:=aa hT;have HE:=aa hE;have b5:=aa h0;have i3:=aa d9;have l1:=aa hF;have a:=aa k2;have k5:(gZ S).length<=1000000000:=by
  have:=hF.len;simp[gZ];omega
 clear a0 j7 hP hl hT hE h0 d9 hF k2;unfold ij at *;go_in;go_wp2_with fail;generalize w.alloc (.cells #[Va Y 0 0,I O 0,Va Y 0 0,Va Y 0 0] 95)=w1 at *;generalize a5:w.heap.size=c at e9 ⊢;change Hid _ at a5;refine hrs.mono ?_;clear hrs;rintro e w2 ⟨sa,sc,rfl,e0,g6⟩;have j3:=aa (fw e0 (ad _));have b6:=aa (i1.trans (g6.mono i1.size));have f4:=aa (Mem.af.below e9 g6 e9.lt);clear g6 e0;have d8:=aa (b5.trans (b6.mono b5.size));have g8:=Qg w2 (HT.below d8) (HE.keep d8) sa sc (gZ S) ss j3 a.told k5 a.fit a.len (by rw[a.is];exact a.g);rw[a.is]at g8;go_wp2_with fail;refine g8.mono ?_;clear g8;rintro e w3 ⟨p,rfl,hA,b3,c8⟩;rw[c2.out]at hA;have e7:=aa hA;have l5:=aa (show ∀b∈p.blocks,w.heap.size<=b from λb T=>Ub b6.size (b3 b T));have l6:=aa (show ∀b∈p.blocks,c<b from λb T=>Nat.lt_of_lt_of_le f4.lt (b3 b T));have f5:=aa (Mem.af.below f4 c8 f4.lt);have a3:=aa (b6.trans (c8.mono b6.size));have j2:=aa (aE j3 c8);have i0:=aa (b5.trans (a3.mono b5.size));clear hA b3 c8;have n7:H.ae.length<=1000000000:=by
  rw[<-a.is];have o:=(hlen (aG ss) hs0).1;have R:=a.len;simp only[hs0,List.length_nil,Nat.zero_add]at o ⊢;exact Ub o (by omega)
 have k7:=Rh w0 w3 HT i0 D ba g5 bs S (HP.keep a3) i3 k u l1 y (gZ S) sa sc j2 k5 a.cI {H with onum:=on} p e7 n7 a.ul a.ur a.us;go_wp2_with fail;refine k7.mono ?_;clear k7;rintro e r ⟨v4,rfl,k8,b4,a9,M,b0,j5,j8⟩;have g4:Hid (fj r v4 (dG (bF H) H.es H.ez (gZ S) S).2):=k8;have g0:=aa (HP.keep a3);have U:=aa (e7.pd g0 b4);have a4:=aa (Foot.af.off f5 b4 (PD.not g0 f5 (by decide) (by decide) (by decide)));have f9:=aa ((an.ag a3).trans b4);have a6:Hid (PD r D (dG (bF H) H.es H.ez (gZ S) S).1 a9 M b0):=j5;have j1:=aa (show ∀b∈pf D a9 b0,b∈pf D ba bs\/w.heap.size<=b from λb T=>(j8 b T).imp id λe=>Ub a3.size e);have i5:=aa (Nat.lt_of_lt_of_le f5.lt b4.size);clear b4 j5 j8 k8;obtain⟨S4,z4,c7⟩:∃S4 z4,dG (bF H) H.es H.ez (gZ S) S=(S4,z4):=⟨_,_,rfl⟩;rw[c7]at a6 g4;change Hid _ at c7;rcases g4.out with ⟨a8,rfl⟩|⟨a8,f,z,rfl,_⟩
 rotate_left
 .change Hid _ at a8;have h0:=a4.out;have d0:=h0.Ri 0;have f0:=h0.frozen 0;have o:=h0.set 0 (Va Y 0 0);have d1:=o.Ri 1;have f1:=o.frozen 1;have R:=o.set 1 (I O 0);have d2:=R.Ri 2;have f2:=R.frozen 2;have h3:=R.set 2 (Va Y 0 0);have d3:=h3.Ri 3;have f3:=h3.frozen 3;have b8:=aa (h3.set 3 (Va Y 0 0));clear h0 o R h3;go_wp2_with fail;have K:an [c] r ((((r.setCell ⟨c,0,Y⟩ (Va Y 0 0)).setCell ⟨c,1,Y⟩ (I O 0)).setCell ⟨c,2,Y⟩ (Va Y 0 0)).setCell ⟨c,3,Y⟩ (Va Y 0 0)):=((((an.refl _ _).set (Wa.2 rfl) _ _).set (Wa.2 rfl) _ _).set (Wa.2 rfl) _ _).set (Wa.2 rfl) _ _;have g7:=b8.out;generalize (((r.setCell ⟨c,0,Y⟩ (Va Y 0 0)).setCell ⟨c,1,Y⟩ (I O 0)).setCell ⟨c,2,Y⟩ (Va Y 0 0)).setCell ⟨c,3,Y⟩ (Va Y 0 0)=w7 at *;refine Yc (lR rfl _ _ ⟨c,0,Y⟩ (.agg #[Va Y 0 0,I O 0,Va Y 0 0,Va Y 0 0]) rfl (Zd w7 c 95 95 _ (0,0) _ g7 zd rfl (by kernel_rfl))) rfl ?_;rw[c7.out];exact Ya ⟨_,rfl,⟨_,rfl⟩,a8,⟨a9,M,b0,cm a6 K (λk y e=>PD.not a6 a4 (by decide) (by decide) (by decide) (Wa.1 e▸y)),j1⟩,aP f9 (λb T=>qb (by rw[Wa.1 T];exact Ue a5)) K⟩
 change Hid _ at a8;clear g4;obtain⟨T,sv,l,dv,sg⟩:=p;obtain⟨va,vc,k6⟩:=ak U.sv;obtain⟨da,dc,b2⟩:=ak U.dv;obtain⟨X,gc,c9⟩:=ak U.sg;simp only at k6 b2 c9;subst k6;subst b2;subst c9;have n4:=@run_makeMap eb;have J:=U.head;have a2:=J.alloc (.map #[] 0);simp only at J a2;have c3:=J.Ri 3;have c4:=J.Ri 4;have c5:=J.Ri 5;have c6:=J.Ri 6;have d3:=a2.Ri 3;have d4:=a2.Ri 4;have d5:=a2.Ri 5;have d6:=a2.Ri 6;have o6:=a.es;have n8:IntKind.i64.wrap (H.es+1)=H.es+1:=IntWalk.i64_in _ (by omega);clear J a2;go_wp2_with fail;go_region
 clear c3 c4 c5 c6 d3 d4 d5 d6 n4 n8;have a1:Below r.heap.size r ((r.alloc (.map #[] 0)).alloc (.cells #[ca (Z ⟨D,0,Y⟩),I O m,.map (Z r.heap.size),Va X H.az.length gc,I O H.ez,L ⟨#[]⟩,I O (H.es+1),I O H.g] 137)).drew:=ax (n:=1) ((ai _).alloc (by simp) _);have g9:=af.new (r.alloc (.map #[] 0)) 137 #[ca (Z ⟨D,0,Y⟩),I O m,.map (Z r.heap.size),Va X H.az.length gc,I O H.ez,L ⟨#[]⟩,I O (H.es+1),I O H.g];rw[World.size_alloc]at g9;have i8:Hid (af ((r.alloc (.map #[] 0)).alloc (.cells #[ca (Z ⟨D,0,Y⟩),I O m,.map (Z r.heap.size),Va X H.az.length gc,I O H.ez,L ⟨#[]⟩,I O (H.es+1),I O H.g] 137)).drew (r.heap.size+1) _ _):=g9;have b9:=aa (show ((r.alloc (.map #[] 0)).alloc (.cells #[ca (Z ⟨D,0,Y⟩),I O m,.map (Z r.heap.size),Va X H.az.length gc,I O H.ez,L ⟨#[]⟩,I O (H.es+1),I O H.g] 137)).drew.ownsMap eb 3 (kg Em) r.heap.size 0 (sD []) from
  oZ (He r) (Below.heap_alloc _ _ _ (by simp)))
 have o5:=aa a1;have V:=aa (U.keep a1);have i2:=aa (Mem.af.below a4 a1 a4.lt);have g3:=aa (a6.keep a1);have l8:=aa (f9.trans (an.ag a1));clear g9 a1 U a4 a6 e7 g0 j2;generalize ((r.alloc (.map #[] 0)).alloc (.cells #[ca (Z ⟨D,0,Y⟩),I O m,.map (Z r.heap.size),Va X H.az.length gc,I O H.ez,L ⟨#[]⟩,I O (H.es+1),I O H.g] 137)).drew=w5 at *;generalize h4:r.heap.size=A at i8 b9 ⊢;have f8:=aa (show w.heap.size<=A by rw[<-h4];exact f9.size);have i4:=aa (show c<A by rw[<-h4];exact i5);clear h4;have c0:=V.head.Ri 0;simp only at c0;go_wp2_with fail;clear c0;have W:=aa (show l.length=H.ae.length by rw[<-show l.map Wn.is=H.ae from V.is,Xa]);have m1:=aa (show ∀x∈l,0<=x.num/\x.num<=1000000000 from λx hx=>a.sn x.is (by rw[<-show l.map Wn.is=H.ae from V.is];exact Vb hx));have j4:=aa (show (l.map (·.num)).Pairwise (·<·) by
  have o:=a.up;rw[<-show l.map Wn.is=H.ae from V.is,List.map_map]at o;exact o)
 have l7:=aa (show ∀wr:N,an [A] w5 wr->HA wr {H with onum:=on} ⟨T,Va va H.ae.length vc,l,Va da H.ar.length dc,Va X H.az.length gc⟩ from λwr ho=>V.off ho λk y e=>by
  obtain⟨t,cs,hs,_⟩:=V.cells y;exact dD b9 hs (Wa.1 e).symm)
 have f6:=aa (show ∀wr:N,an [A] w5 wr->af wr (A+1) 137 #[ca (Z ⟨D,0,Y⟩),I O m,.map (Z A),Va X H.az.length gc,I O H.ez,L ⟨#[]⟩,I O (H.es+1),I O H.g] from λwr ho=>Foot.af.off i8 ho (by simp));go_loopw [65] (λs wr=>∃i:Nat,s=I O (i:Int)/\i<=H.ae.length/\Hid (wr.ownsMap eb 3 (kg Em) A i (sD ((je l).take i)))/\Hid (an [A] w5 wr)) (λs _=>H.ae.length - (intOf s).toNat)
 case atStart=>exact⟨0,rfl,ad _,b9,an.refl _ _⟩
 case round=>
  obtain⟨i,rfl,o8,c1,E⟩:=hrel;have B:=aa (l7.out _ E);by_cases hi:i<H.ae.length
  .have m9:(i:Int)<(H.ae.length:Int):=by omega
   obtain⟨x,hx⟩:∃x,l[i]? = Z x:=⟨_,Za (by rw[W.out];exact hi)⟩;obtain⟨r0,r1,r2⟩:=py hx;obtain⟨g,o1,hv,o4,⟨cs,c9⟩,d0⟩:=cW B.sv r0;obtain⟨g1,o2,d7,_,_,d1⟩:=cW B.sv r1;obtain⟨g2,o3,h5,_,_,d2⟩:=cW B.sv r2;simp only at hv d7 h5;rw[d7]at h5;rw[hv]at d7;injection hv with e1 e2 e3;injection d7 with e4 m2 m3;injection h5 with e5 m4 m5;have m6:g=g1:=by injection e4 with e;injection e
   have m7:g1=g2:=by injection e5 with e;injection e
   subst m7;subst m6;clear e4 e5 m2 m3 m4 m5 e2;subst e1;subst e3;have h6:=Xc hx;have p0:=m1.out x h6;obtain⟨xd,h9,b2⟩:=ak (B.ws x h6).d;obtain⟨xa,xc,h7⟩:=ak (B.ws x h6).s;rw[b2]at d1;rw[h7]at d2;have i9:=aa (Maps.keyOf_int_mk (P:=eb) (k:=3) Tryz.underlying3 (pz (n:=x.num) (by omega) (by omega)));have m0:=aa (show put dJ x.num (Va xa x.ss.length xc,x.ss) ((je l).take i)=(je l).take (i+1) by
    have o:(je l)[i]? = Z (x.num,Va xa x.ss.length xc,x.ss):=by
     unfold je;rw[vd,hx,<-h7];rfl
    rw[List.take_add_one,o];refine Cu λq hq=>?_
    obtain⟨j,hj,he⟩:=List.mem_iff_getElem.1 hq;rw[List.length_take]at hj;have n2:j<l.length:=by
     have:(je l).length=l.length:=by simp[je]
     omega
    have n1:j<i:=by omega
    have o0:l[i]'(by rw[W.out];exact hi)=x:=by
     rw[Za (by rw[W.out];exact hi)]at hx;exact Ve hx
    have R:=List.pairwise_iff_getElem.1 j4 j i (by simpa using n2) (by rw[Xa,W.out];exact hi) n1;rw[Vd,Vd,o0]at R;rw[<-he,List.getElem_take];unfold je;rw[Vd];exact R)
   clear hx r0 r1 r2 c9 h7 b2;have k4:=af.new wr 93 #[I O x.num,Va xd x.ds.length h9,Va xa x.ss.length xc];have a0:=ai (w:=wr) (.cells #[I O x.num,Va xd x.ds.length h9,Va xa x.ss.length xc] 93);have a7:=aa k4;have e8:=aa a0;clear k4 a0;go_upto_region 12 with fail;clear d0 d1 d2;have j0:=aa (E.trans (an.ag e8));have l2:=aa (gJ c1 (an.ag (F:=[]) e8) (by simp));generalize n9:wr.heap.size=xb at a7 ⊢;clear n9 B c1 E e8;generalize wr.alloc (.cells #[I O x.num,Va xd x.ds.length h9,Va xa x.ss.length xc] 93)=h8 at *;have i7:=aa (f6.out _ j0);have C0:∀q:Bw h8,q.val.cell? ⟨xb,0,Y⟩=Z (I O x.num):=λq=>(Mem.af.below a7 q.is a7.lt).Ri 0
   have C2:∀q:Bw h8,q.val.cell? ⟨xb,2,Y⟩=Z (Va xa x.ss.length xc):=λq=>(Mem.af.below a7 q.is a7.lt).Ri 2
   have CJ:∀q:Bw h8,q.val.cell? ⟨A+1,2,Y⟩=Z (.map (Z A)):=λq=>(Mem.af.below i7 q.is i7.lt).Ri 2
   refine bg 8 ?_;simp only[Wb,Zb,Xb,Uc];repeat go_big_quiet_step (fail)
   refine ed ?_;intro q;have k9:=aa q.is;have l3:=aa (gJ l2 (an.ag (F:=[]) q.is) (by simp));clear C0 C2 CJ;generalize q.val=w7 at *;obtain⟨w8,o9,f7,j9⟩:=l3.update (t:=131) (val:=Va xa x.ss.length xc) (int_keyed Tryz.underlying3) Tryz.underlying131 (Nat.lt_of_le_of_lt (show i<=1000000000 by omega) (by decide)) i9 (kr (ok:=Em) rfl);rw[show (sD ((je l).take i)).put (Lit.int O x.num) (.held (Va xa x.ss.length xc))=sD (put dJ x.num (Va xa x.ss.length xc,x.ss) ((je l).take i)) from vq (f:=λp:Value×List Int=>p.1) cB gS x.num ((Value.slice xa x.ss.length xc,x.ss):Value×List Int) ((je l).take i),m0.out]at f7;change Hid _ at f7;have l9:=aa ((j0.trans (an.ag k9)).trans (cu j9));clear j9;go_wp2_with fail;go_roundw
   case rel=>
    refine⟨i+1,by go_num,by omega,?_,l9⟩;have o:=jR f7;rw[show Maps.size (sD ((je l).take (i+1)))=i+1 from(gK _).trans (by
     have R:(je l).length=l.length:=by simp[je]
     have h3:=W.out;rw[List.length_take];omega)]at o
    exact o
   case measure=>simp only[intOf];omega
  have m9:¬(i:Int)<(H.ae.length:Int):=by omega
  have k0:i=H.ae.length:=by omega
  have e6:(je l).length=H.ae.length:=by rw[<-W.out];simp[je]
  have l4:=aa (show wr.ownsMap eb 3 (kg Em) A (je l).length (sD (je l)) by
   have o:=c1.out;rw[k0,<-e6,List.take_length]at o;exact o)
  have i6:=aa (Foot.af.off i2 E (by have:=i4.out;simp;omega));clear k0 e6 c1;have C:∀s:Bw wr,s.val.cell? ⟨T,0,Y⟩=Z (Va va H.ae.length vc)/\s.val.cell? ⟨T,1,Y⟩=Z (I O on)/\s.val.cell? ⟨T,2,Y⟩=Z (Va da H.ar.length dc)/\s.val.cell? ⟨T,3,Y⟩=Z (Va X H.az.length gc):=λs=>by
   have h:=(B.keep s.is).head;exact⟨h.Ri 0,h.Ri 1,h.Ri 2,h.Ri 3⟩
  have C0:=λs=>(C s).1
  have C1:=λs=>(C s).2.1
  have C2:=λs=>(C s).2.2.1
  have C3:=λs=>(C s).2.2.2
  clear C;go_wp2_with fail;refine bg 6 ?_;simp only[Wb,Zb,Xb,Uc];repeat go_big_quiet_step (fail)
  refine ed ?_;intro s;have b7:=aa s.is;have l0:=aa (Mem.af.below i6 s.is i6.lt);clear C0 C1 C2 C3;generalize s.val=w6 at *;have h0:=l0.out;have d0:=h0.Ri 0;have f0:=h0.frozen 0;have o:=h0.set 0 (Va va H.ae.length vc);have d1:=o.Ri 1;have f1:=o.frozen 1;have R:=o.set 1 (I O on);have d2:=R.Ri 2;have f2:=R.frozen 2;have h3:=R.set 2 (Va da H.ar.length dc);have d3:=h3.Ri 3;have f3:=h3.frozen 3;have b8:=aa (h3.set 3 (Va X H.az.length gc));clear h0 o R h3;go_wp2_with fail;have K:an [c] w6 ((((w6.setCell ⟨c,0,Y⟩ (Va va H.ae.length vc)).setCell ⟨c,1,Y⟩ (I O on)).setCell ⟨c,2,Y⟩ (Va da H.ar.length dc)).setCell ⟨c,3,Y⟩ (Va X H.az.length gc)):=((((an.refl _ _).set (Wa.2 rfl) _ _).set (Wa.2 rfl) _ _).set (Wa.2 rfl) _ _).set (Wa.2 rfl) _ _;have g7:=b8.out;clear b8 d0 d1 d2 d3 f0 f1 f2 f3;generalize (((w6.setCell ⟨c,0,Y⟩ (Va va H.ae.length vc)).setCell ⟨c,1,Y⟩ (I O on)).setCell ⟨c,2,Y⟩ (Va da H.ar.length dc)).setCell ⟨c,3,Y⟩ (Va X H.az.length gc)=w7 at *;have o7:=i4.out;have b1:=(B.keep b7).off K λk y e=>by
   have:=l6.out k y;rw[Wa.1 e]at this;exact absurd this (Nat.lt_irrefl _)
  have n0:=Foot.af.off (Mem.af.below (f6.out _ E) b7 (f6.out _ E).lt) K (by simp;omega);have n3:=gJ (gJ l4 (an.ag (F:=[]) b7) (by simp)) K (by simp;omega);have k1:an [A,c] w5 w7:=((E.mono λk _ y=>by rw[Wa.1 y];simp).trans (an.ag b7)).trans (K.mono λk _ y=>by rw[Wa.1 y];simp);have a5:w.heap.size<=c:=Ue a5;have n5:=aP l8 (G:=[A,c]) (λb j6=>by
   simp only[List.mem_cons,List.not_mem_nil,or_false]at j6;rcases j6 with rfl|rfl
   .exact qb f8
   exact qb a5) k1
  have n6:PD w7 D S4 a9 M b0:=cm g3 k1 λk y e=>by
   obtain⟨t,cs,hs⟩:=fx g3 y;simp only[List.mem_cons,List.not_mem_nil,or_false]at e;rcases e with rfl|rfl
   .exact dD b9 hs rfl
   exact PD.not g3 i2 (by decide) (by decide) (by decide) y
  have m8:((H.ez.toNat:Nat):Int)=H.ez:=Int.toNat_of_nonneg a.ez.1;refine Yc (lR rfl _ _ ⟨c,0,Y⟩ (.agg #[Va va H.ae.length vc,I O on,Va da H.ar.length dc,Va X H.az.length gc]) rfl (Zd w7 c 95 95 _ (0,0) _ g7 zd rfl (by kernel_rfl))) rfl ?_;rw[c7.out];refine qb ⟨a8,A+1,A,⟨T,Va va H.ae.length vc,l,Va da H.ar.length dc,Va X H.az.length gc⟩,rfl,⟨by rw[c2.out];exact b1,l5,⟨⟨by show af w7 (A+1) _ #[_,_,_,_,I O ((H.ez.toNat:Nat):Int),_,_,_];rw[m8];exact n0,b1.sg⟩,⟨n3,List.pairwise_map.2 ((List.pairwise_map.1 j4).imp λh=>by simpa[dJ] using h),λq hq=>?_⟩,by show H.ae.map _=_;rw[<-show l.map Wn.is=H.ae from b1.is];simp[je,Wn.is],λk y e=>?_⟩,⟨a9,M,b0,n6,j1⟩,n5,Nat.le_succ_of_le f8,f8⟩⟩
  .obtain⟨x,hx,rfl⟩:=Ud.1 hq;exact(b1.ws x hx).s
  refine b1.apart k (te _ e) ?_;obtain⟨q,hq,y⟩:=List.mem_flatMap.1 y;obtain⟨x,hx,rfl⟩:=Ud.1 hq;exact List.mem_flatMap.2 ⟨x,hx,te _ y⟩
end Jr
end Go.Proofs.YtpndiccohnafbaaGreatDoor
