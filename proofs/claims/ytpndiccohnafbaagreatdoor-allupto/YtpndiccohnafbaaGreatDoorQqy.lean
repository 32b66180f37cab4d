/- A daemon and what its disk's records tell: no Go in sight. -/
import Derived.Test.YtpndiccohnafbaaGreatDoorOky
open List renaming mem_append_left->ca,append_assoc->Va,append_nil->Xa,filter_eq_self->Ya,mem_append->Za,mem_filter->eb,filter_append->qb,mem_append_right->Ub,mem_cons_self->Vb,mem_map->Wb,eq_nil_or_concat->Xb,pairwise_append->Yb,append_cancel_left->Zb,flatMap_append->Uc,concat_eq_append->Vc,mem_cons_of_mem->Xc,filter_cons_of_neg->Yc,pairwise_cons->Zc,append_eq_nil_iff->ed,pairwise_map->vd,map_map->zd,mem_map_of_mem->Ud,filter_sublist->Vd,map_eq_singleton_iff->Xd,map_append->Zd,append_eq_append_iff->te,length_append->Ue,filter_cons_of_pos->Ve,filter_eq_nil_iff->Xe,map_eq_append_iff->Ye,singleton_append->ef,length_pos_iff->Uf,map_eq_nil_iff->Vf,nodup_iff_pairwise_ne->Wf,nodup_append->Xf,cons_append->Yf,length_eq_zero_iff->Zf,filter_map->og,nil_append->Ug,length_singleton->Vg,mem_cons->Wg,map_cons->Xg
open Or renaming inr->Ua,inl->Wa
open Classical renaming byContradiction->Wc
open Nat renaming zero_le->ad
open Bool renaming and_eq_true->Ze
open List.Pairwise renaming nil->Yg
namespace Go.Proofs.YtpndiccohnafbaaGreatDoor
namespace Jr
open Bytes Im Dm
theorem Cl.gm {h:Hs}{x:Et}(d:mH h)(c:Cl h x):h.g<=(hnext h x).g/\(x.2.k=100\/0<=(hnext h x).g):=by
 obtain⟨⟨i,z⟩,⟨k,n,t⟩⟩:=x;have a:=c.fit;have b:0<=n:=c.ok.n0;unfold hfit dI at a;rcases c.ok.k with e|e|e
 .have e:k=100:=e;subst e;exact⟨Int.le_refl _,Wa rfl⟩
 .have e:k=115:=e;subst e;rw[if_neg (show ¬(⟨#[(115:UInt8)]⟩:ByteArray)=⟨#[100]⟩ by decide),if_pos rfl]at a;simp only[Ze,decide_eq_true_eq]at a;have j:=d.aN (Uf.1 a.1);have f:n=h.onum:=a.2;exact⟨by show h.g<=n;omega,Ua b⟩
 have e:k=98:=e;subst e;rw[if_neg (show ¬(⟨#[(98:UInt8)]⟩:ByteArray)=⟨#[100]⟩ by decide),if_neg (show ¬(⟨#[(98:UInt8)]⟩:ByteArray)=⟨#[115]⟩ by decide),if_pos rfl]at a;simp only[decide_eq_true_eq]at a;exact⟨a,Ua b⟩
theorem cN.gm {h:Hs}{l:List Et}(b:mH h)(a:cN h l):h.g<=(av h l).g/\((av h l).g<0->∀x∈l,x.2.k=100):=by
 induction l generalizing h with
 | nil=>exact⟨Int.le_refl _,λ_ x c=>by cases c⟩
 | cons y l d=>
  obtain⟨e,f⟩:=Cl.gm b a.1;obtain⟨i,j⟩:=d (b.next a.1) a.2;grind [av]
theorem qs (a:Int)(l:List Int):hent a l≠[]:=by
 unfold hent;split
 .grind
 simp
theorem opened {h:Hs}{l:List Et}(a:h.ar≠[]->h.az≠[]):(av h l).ar≠[]->(av h l).az≠[]:=by
 induction l generalizing h with
 | nil=>exact a
 | cons y l d=>
  refine d (h:=hnext h y) λb=>?_
  have c:(htk h y.1.1 y.2).ar≠[]:=b;show (htk h y.1.1 y.2).az≠[];grind [qs,htk]
def tf (R:List (Int×List Rc)):Nat:=(R.map λp=>(stx p.2).length).sum
theorem Bl (a b:List (Int×List Rc)):tf (a++b)=tf a+tf b:=by simp[tf]
theorem yZ {R:List (Int×List Rc)}{l:List bM}(h:l.map view=tg R):Dm.used l=tf R:=by
 have a:=congrArg (List.map λx:Int×Bs=>x.2.length) h;unfold tg at a;rw[zd,zd]at a;have b:l.map (·.text.size)=l.map ((λx:Int×Bs=>x.2.length) ∘ view):=List.map_congr_left λs _=>aj s.text
 unfold Dm.used tf;rw[b,a];rfl
theorem iD (n:Int)(z:Nat)(l:List Rc):(br n z l).length=l.length:=by
 induction l generalizing z with
 | nil=>rfl
 | cons r l a=>simp[br,a]
theorem zL {R:List (Int×List Rc)}(a:∀p∈R,p.2≠[]):((av hs0 (aG R)).es = -1/\(av hs0 (aG R)).ez=0)\/∃p∈R,(av hs0 (aG R)).es=p.1/\(av hs0 (aG R)).ez=((stx p.2).length:Int):=by
 rcases Xb R with rfl|⟨b,p,e⟩
 .exact Wa ⟨rfl,rfl⟩
 grind [ma]
theorem CV {R:List (Int×List Rc)}{p:Int×List Rc}(h:p∈R):(stx p.2).length<=tf R:=by
 induction R with
 | nil=>cases h
 | cons q R a=>grind [tf]
end Jr
namespace Dd
open Go.RowKit Bytes Im Wm Dm Jr Sk Mem Foot Wi Kr
structure DK (D:Dn)(R:List (Int×List Rc))(b:List Rc)(H:Hs)(n:Nat):Prop where
 ok:qL D (H.ar.map B) n
 kd:Kd D.J D.S R b H
 num:H.ar≠[]->H.onum=D.num
 due:D.due=bI D.c H.ae
 dg:∀s∈H.ae,wj s.2.1
 most:D.J.most=D.c 5
theorem DK.dW {D:Dn}{R:List (Int×List Rc)}{b:List Rc}{H:Hs}{n:Nat}(h:DK D R b H n):mH H:=by
 have a:=zx.all h.kd.cl;rwa [h.kd.is]at a
theorem DK.mono {D:Dn}{R:List (Int×List Rc)}{b:List Rc}{H:Hs}{n m:Nat}(h:DK D R b H n)(a:n<=m):DK D R b H m:={h with ok:=h.ok.mono a}
theorem DK.PU {D:Dn}{R:List (Int×List Rc)}{b:List Rc}{H:Hs}{n:Nat}(h:DK D R b H n)(e:n<=100000000):wj H.ar:=by
 exact⟨λd a=>by have c:=h.ok.short (B d) (Ud a);grind [aj],by have:=h.ok.lines;omega,by have:=h.ok.len;grind⟩
theorem DK.sync {D:Dn}{R:List (Int×List Rc)}{b:List Rc}{H:Hs}{n:Nat}(h:DK D R b H n):DK (jm D) R [] H n:=by
 obtain⟨a,g,e,k,_⟩:=h.kd.sync;have d:a.most=D.J.most:=by
  obtain⟨f,i,j,_,_,_,_,_,_,l,_⟩:=h.kd.seg.calm.sync;grind
 exact⟨h.ok.sync.1,by show Kd (aQ D.J D.S).1 (aQ D.J D.S).2.1 R [] H;grind,h.num,h.due,h.dg,by show (aQ D.J D.S).1.most=D.c 5;grind [most]⟩
theorem nB (c:Fin 6->Int)(l:List (Int×List ByteArray×List Int)):(bI c l).map (·.k)=l.map (·.1):=by
 unfold bI;simp_all
theorem GH {H:Hs}(a:mH H)(d:H.ar=[]->H.g<1000000000):H.g<(eK H).onum/\(eK H).onum<=1000000000/\(H.ar≠[]->(eK H).onum=H.onum)/\(H.ar=[]->(eK H).onum=H.g+1):=by
 have c:=a.g;by_cases e:H.ar=[]
 .grind [eK]
 have b:(eK H).onum=H.onum:=by grind [eK]
 have:=a.aN e;grind
theorem DK.len {D:Dn}{R:List (Int×List Rc)}{b:List Rc}{H:Hs}{n:Nat}(h:DK D R b H n):R.length=D.S.ah.length:=by
 have a:=congrArg List.length h.kd.seg.ah;grind
theorem DK.text {D:Dn}{R:List (Int×List Rc)}{b:List Rc}{H:Hs}{n:Nat}(h:DK D R b H n)(e:n<=100000000):∀s∈D.S.ah,s.text.size<=140737488355328:=λs a=>by
 have c:=gn a;have d:=h.ok.used;omega
theorem lK (a:List Im.Bs)(k:Nat):jE (a.take k)<=jE a:=by grind [iX,List.take_append_drop]
end Dd
namespace Jr
open Bytes Im Dm
theorem iQ (a:Int)(l:List Int):a∈hent a l/\∀y∈l,y∈hent a l:=by grind [hent]
theorem kH (h:Hs)(l:List Et):∃r,(av h l).ae=h.ae++r:=by
 induction l generalizing h with
 | nil=>exact⟨[],(Xa _).symm⟩
 | cons x l a=>
  obtain⟨r,b⟩:=a (hnext h x);grind [hnext,htk,av]
theorem eF {n:Int}:∀{a:List Rc} {z:Nat} {x:Et},x∈br n z a->x.1.1=n
 | [],_,_,h=>by cases h
 | r ::a,z,x,h=>by
  rcases Wg.1 h with e|h
  .rw[e]
  .exact eF h
theorem gQ (p:Int->Bool)(R:List (Int×List Rc)):aG (R.filter λq=>p q.1)=(aG R).filter λx=>p x.1.1:=by
 induction R with
 | nil=>rfl
 | cons q R c=>
  have d:aG (q ::R)=br q.1 0 q.2++aG R:=rfl;rw[d,qb,List.filter_cons];by_cases a:p q.1=true
  .rw[if_pos a];have e:aG (q ::R.filter λq=>p q.1)=br q.1 0 q.2++aG (R.filter λq=>p q.1):=rfl;rw[e,c];congr 1;exact(Ya.2 λx b=>by rw[eF b];exact a).symm
  rw[if_neg a,c];have f:(br q.1 0 q.2).filter (λx=>p x.1.1)=[]:=Xe.2 λx b=>by rw[eF b];exact a
  grind
theorem erase_filter {s:bM}:∀{l:List bM} {i:Nat},l.Pairwise (λa b=>a.num<b.num)->l[i]? = some s->l.eraseIdx i=l.filter λq=>!decide (q.num=s.num)
 | [],i,_,h=>by simp at h
 | q ::l,0,hp,h=>by grind [Zc,Ya]
 | q ::l,i+1,hp,h=>by
  rw[Zc]at hp;have c:l[i]? = some s:=by simpa using h
  have d:=List.mem_of_getElem? c;have:=hp.1 s d;rw[List.eraseIdx_cons_succ,erase_filter hp.2 c,Ve (by simp;omega)]
theorem nO:∀{l:List Int} {S:Dk},S.left = -1->Dm.Good S->(∀n∈l,n∈S.ah.map (·.num))->l.Nodup->(bh S l).1={S with ah:=S.ah.filter λq=>!decide (q.num∈l)}
 | [],S,_,_,_,_=>by
  have h:S.ah.filter (λq=>!decide (q.num∈([]:List Int)))=S.ah:=Ya.2 λx _=>by simp
  rw[h];rfl
 | n ::l,S,hl,hg,hin,hnd=>by
  rw[List.nodup_cons]at hnd;obtain⟨s,g,d⟩:=Wb.1 (hin n (Vb ..));obtain⟨i,f,b⟩:=lY hl hg g;have a:=(fit_delete (dC hg) s.num).aJ;rw[b]at a;have c:=erase_filter hg.bQ f;rw[c]at b a;simp only[d]at b a;have e:bh S (n ::l)=bh {S with ah:=S.ah.filter λq=>!decide (q.num=n)} l:=by grind [bh]
  rw[e,nO (S:={S with ah:=S.ah.filter λq=>!decide (q.num=n)}) hl a (λm j=>?_) hnd.2]
  .simp only[List.filter_filter];grind
  grind
theorem lB (p:Int->Bool)(l:List bM):(l.filter λq=>p q.num).map view=(l.map view).filter λx=>p x.1:=by
 rw[og];rfl
theorem ri (p:Int->Bool)(R:List (Int×List Rc)):tg (R.filter λq=>p q.1)=(tg R).filter λx=>p x.1:=by
 unfold tg;rw[og];rfl
theorem Kd.keep {J:Jn}{S:Dk}{R:List (Int×List Rc)}{H:Hs}(h:Kd J S R [] H)(s:J.aN=[])(y:J.next<=9223372036854775807)(o:0<=J.al/\J.al<=1000000000):
  ∃b d t a,bR J S=(b,d,0)/\Kd b d t [] a/\a.ae=H.ae/\a.ar=[]/\a.g=H.g/\a.az≠[]/\b.ae=J.ae:=by
 obtain⟨z,w,q⟩:=h.seg.begin y (hrs J);rw[zY]at w q;obtain⟨b,d,x,k,u,n,v,_,_⟩:=q.sync;have l:hrs J=[⟨98,J.al,⟨#[]⟩⟩]:=by grind [hrs]
 have j:J.al=H.g:=h.g.symm;have m:H.az=[]:=by rw[h.aN,s]
 have c:J.next∉H.ae.flatMap (·.2.2):=λr=>by
  rw[h.own]at r;have:=h.seg.calm.below J.next (h.seg.calm.perm.mem_iff.2 (ca _ r));omega
 have i:=dh R J.next (hrs J);rw[l]at i;have f:Cl H ((J.next,0+(⟨98,J.al,⟨#[]⟩⟩:Rc).tx.length),⟨98,J.al,⟨#[]⟩⟩):=by
  refine⟨?_,⟨Ua (Ua rfl),o.1,o.2,by show (0:Nat)<=1000000;omega⟩,λ_=>m,c,λ_ _=>⟨rfl,Int.le_of_eq h.g⟩,λ_=>rfl⟩;grind [hfit,dI]
 refine⟨b,d,R++[(J.next,hrs J)],hnext H ((J.next,0+(⟨98,J.al,⟨#[]⟩⟩:Rc).tx.length),⟨98,J.al,⟨#[]⟩⟩),by grind [bR],⟨k,λp e=>?_,by rw[l,i,aK,h.is];rfl,by rw[l,i,bG,h.is];exact⟨h.cl,f,trivial⟩,by rw[u,s];rfl,by rw[v];rfl,by rw[n];exact h.ae⟩,rfl,rfl,j,List.cons_ne_nil _ _,n⟩;rcases Za.1 e with e|e
 .exact h.ne p e
 grind
theorem Gf {k:Int}{r:List Int}{l:List (Int×List Int)}(h:((k,r) ::l).Pairwise λa b=>a.1<b.1):del k ((k,r) ::l)=l/\aS k ((k,r) ::l)=some r:=by grind [aS,del,Zc,Ya]
end Jr
namespace Dd
open Go.RowKit Bytes Im Wm Dm Jr Sk Mem Foot Wi Kr
end Dd
namespace Jr
open Bytes Im Dm
def bm (S:Dk):Dk:={S with left :=-1,room :=-1}
variable {d e:List (Int × List ByteArray × List Int)}{f:Int × List ByteArray × List Int}{i:Hs -> Prop}{j o:List Int}{r:Int}{s:Et}{u:Hs}{v:List Et}
theorem NS {S:Dk}(a:S.left = -1)(b:S.room = -1):bm S=S:=by
 cases S;simp only at a b;subst a;subst b;rfl
def Er (e:Int):Prop:=e=7\/e=8
theorem qP (S:Dk){n:Int}(a:0<=n)(t:ByteArray):((aB S n t).2=0/\bm (aB S n t).1=(aB (bm S) n t).1)\/(Er (aB S n t).2/\bm (aB S n t).1=bm S):=by
 unfold aB;split
 .exact Ua ⟨Ua rfl,rfl⟩
 rw[if_neg (by omega)];split
 .exact Ua ⟨Wa rfl,rfl⟩
 refine Wa ⟨rfl,?_⟩;rw[if_neg (show ¬(bm S).left=0 from(by decide:¬(-1:Int)=0)),if_neg (by omega),if_neg (λh=>absurd h.1 (show ¬(0:Int)<=-1 by decide))];rfl
theorem yM (S:Dk){n:Int}(b:n∈S.ah.map (·.num)):((bz S n).2=0/\bm (bz S n).1=(bz (bm S) n).1)\/((bz S n).2=8/\bm (bz S n).1=bm S):=by
 unfold bz;split
 .exact Ua ⟨rfl,rfl⟩
 rw[if_neg (show ¬(bm S).left=0 from(by decide:¬(-1:Int)=0))];have a:(bm S).ah=S.ah:=rfl;rw[a];cases c:place n S.ah with
 | none=>grind [kB]
 | some i=>exact Wa ⟨rfl,rfl⟩
theorem qZ (S:Dk){n:Int}(b:n∈S.ah.map (·.num)):((aF S n).2=0/\bm (aF S n).1=(aF (bm S) n).1)\/((aF S n).2=8/\bm (aF S n).1=bm S):=by
 unfold aF;split
 .exact Ua ⟨rfl,rfl⟩
 rw[if_neg (show ¬(bm S).left=0 from(by decide:¬(-1:Int)=0))];have a:(bm S).ah=S.ah:=rfl;rw[a];cases c:place n S.ah with
 | none=>grind [kB]
 | some i=>exact Wa ⟨rfl,rfl⟩
theorem IC (S:Dk)(n:Int):dt S n=dt (bm S) n\/(dt S n).2=8:=by grind [dt,bm]
theorem xL {J:Jn}{S:Dk}(h:bL J (bm S))(a:J.aN≠[]):cQ J S=(S,0)\/cQ J S=(S,8):=by
 have b:=h.rQ a;rcases IC S (aC J) with c|c
 .left
  unfold cQ mD at b ⊢;rw[c];split at b
  .grind
  rename_i hz;rw[if_neg hz];split at b
  .grind
  rename_i g;exfalso;obtain⟨s,f,d,e⟩:=h.last a;grind [pj,bL.left,bL.aJ]
 grind [cQ]
theorem BD {J:Jn}{S:Dk}(h:bL J (bm S))(a:J.aN≠[])(t:ByteArray):((cM J S t).2.2=0/\(cM J S t).1=(cM J (bm S) t).1/\bm (cM J S t).2.1=(cM J (bm S) t).2.1)\/(Er (cM J S t).2.2/\(cM J S t).1=J/\bm (cM J S t).2.1=bm S):=by
 have d:=h.Nl;unfold cM;rw[h.rQ a,if_neg (show ¬((0:Int)≠0) by simp)];rcases xL h a with e|e<;>rw[e]
 .rw[if_neg (show ¬((0:Int)≠0) by simp)];obtain⟨g,b,_⟩:=h.add a t;unfold cM at b;rw[h.rQ a,if_neg (show ¬((0:Int)≠0) by simp)]at b;have hz:(aB (bm S) (aC J) t).2=0:=Wc λhz=>by grind
  rw[if_neg (show ¬(aB (bm S) (aC J) t).2≠0 from λh=>h hz)];rcases qP S d.1 t with ⟨c,f⟩|⟨c,f⟩
  .grind
  rw[if_pos (show (aB S (aC J) t).2≠0 by rcases c with e|e<;>rw[e]<;>decide)];grind
 rw[if_pos (show (8:Int)≠0 by decide)];exact Ua ⟨Ua rfl,rfl,rfl⟩
theorem Lg {J:Jn}{S:Dk}(h:bL J S)(a:J.aN≠[]):aC J∈S.ah.map (·.num):=by
 obtain⟨s,c,b,_⟩:=h.last a;grind
theorem gj {J:Jn}{S:Dk}(h:bL J (bm S)):((aQ J S).2.2=0/\(aQ J S).1=(aQ J (bm S)).1/\bm (aQ J S).2.1=(aQ J (bm S)).2.1)\/((aQ J S).2.2=8/\(aQ J S).1=J/\bm (aQ J S).2.1=bm S/\J.aN≠[]):=by
 by_cases a:J.aN=[]
 .grind [aQ]
 have b:=Lg h a;have d:aC J∈S.ah.map (·.num):=b;obtain⟨s,f,e,_⟩:=h.last a;have c:=ko h.left h.aJ f;rw[e]at c;unfold aQ;rw[if_neg a,if_neg a,h.rQ a,if_neg (show ¬((0:Int)≠0) by simp),c,if_neg (show ¬((0:Int)≠0) by simp)];grind [xL,yM]
theorem oG {J:Jn}{S:Dk}(h:bL J (bm S))(b:J.next<=9223372036854775807)(t:ByteArray):((bf J S t).2.2=0/\(bf J S t).1=(bf J (bm S) t).1/\bm (bf J S t).2.1=(bf J (bm S) t).2.1)\/(Er (bf J S t).2.2/\(bf J S t).1=J/\bm (bf J S t).2.1=bm S):=by
 obtain⟨c,a,_⟩:=h.begin b t;unfold bf at a ⊢;grind [qP,aB,bm]
theorem Fv {J:Jn}{S:Dk}(h:bL J (bm S))(n:J.next<=9223372036854775807)(a:Int)(t:ByteArray):
  ((aY J S a t).2.2=0/\(aY J S a t).1=(aY J (bm S) a t).1/\bm (aY J S a t).2.1=(aY J (bm S) a t).2.1)\/
  (Er (aY J S a t).2.2/\(((aY J S a t).1=J/\bm (aY J S a t).2.1=bm S)\/((aY J S a t).1=(aQ J (bm S)).1/\bm (aY J S a t).2.1=(aQ J (bm S)).2.1))):=by
 unfold aY;by_cases b:J.aN=[]
 .grind [oG]
 rw[if_neg b,if_neg b];by_cases d:(J.synced:Int)+(J.bU.size:Int)<J.most
 .grind [BD]
 rw[if_neg d,if_neg d];obtain⟨j,k,i,g,_,l,_,m,_⟩:=h.sync;rw[i];simp only;rw[if_neg (show ¬((0:Int)≠0) by simp)];rcases gj h with ⟨c,e,f⟩|⟨c,e,f,_⟩
 .grind [oG]
 rw[if_pos (show (aQ J S).2.2≠0 by rw[c];decide)];exact Ua ⟨Ua c,Wa ⟨e,f⟩⟩
theorem yr {J:Jn}{S:Dk}(h:bL J (bm S))(b:J.aN≠[])(a:Int):
  ((bE J S a).2.2=0/\(bE J S a).1=(bE J (bm S) a).1/\bm (bE J S a).2.1=(bE J (bm S) a).2.1)\/
  (Er (bE J S a).2.2/\(bE J S a).1=J/\bm (bE J S a).2.1=bm S)\/
  ((bE J S a).2.2=8/\(bE J S a).1=(cM J (bm S) (bytesOf (bC [115] a []))).1/\bm (bE J S a).2.1=(cM J (bm S) (bytesOf (bC [115] a []))).2.1):=by
 obtain⟨l,g,c,_⟩:=h.add b (bytesOf (bC [115] a []));obtain⟨k,m,d,_⟩:=c.sync;unfold bE;rw[g];simp only;rw[if_neg (show ¬((0:Int)≠0) by simp),d];simp only;rw[if_neg (show ¬((0:Int)≠0) by simp)];rcases BD h b (bytesOf (bC [115] a [])) with ⟨f,i,j⟩|⟨f,i,j⟩
 .grind [gj]
 rw[if_pos (show (cM J S (bytesOf (bC [115] a []))).2.2≠0 by rcases f with e|e<;>rw[e]<;>decide)];grind
theorem rH {J:Jn}{S:Dk}(h:bL J (bm S))(b:J.next<=9223372036854775807):
  ((bR J S).2.2=0/\(bR J S).1=(bR J (bm S)).1/\bm (bR J S).2.1=(bR J (bm S)).2.1)\/
  (Er (bR J S).2.2/\(bR J S).1=J/\bm (bR J S).2.1=bm S)\/
  ((bR J S).2.2=8/\J.aN=[]/\(bR J S).1=(bf J (bm S) (bytesOf (aZ J))).1/\bm (bR J S).2.1=(bf J (bm S) (bytesOf (aZ J))).2.1):=by
 unfold bR;by_cases a:J.aN=[]
 .rw[if_pos a,if_pos a];obtain⟨m,d,c,_⟩:=h.begin b (bytesOf (aZ J));rw[d];simp only;rw[if_neg (show ¬((0:Int)≠0) by simp)];rcases oG h b (bytesOf (aZ J)) with ⟨f,g,i⟩|⟨f,g,i⟩
  .grind [gj]
  grind [bf]
 rw[if_neg a,if_neg a];rcases gj h with e|⟨j,k,l,_⟩
 .exact Wa e
 exact Ua (Wa ⟨Ua j,k,l⟩)
theorem ny:∀{l:List Int} {S:Dk},Dm.Good (bm S)->(∀n∈l,n∈S.ah.map (·.num))->l.Nodup->
  ∃a b,l=a++b/\bm (bh S l).1={bm S with ah:=S.ah.filter λq=>!decide (q.num∈a)}/\((bh S l).2=0/\b=[]\/(bh S l).2=8/\b≠[])
 | [],S,_,_,_=>⟨[],[],rfl,by
   have h:S.ah.filter (λq=>!decide (q.num∈([]:List Int)))=S.ah:=Ya.2 λx _=>by simp
   rw[h];rfl,Wa ⟨rfl,rfl⟩⟩
 | n ::l,S,hg,hin,hnd=>by
  rw[List.nodup_cons]at hnd;have e:bh S (n ::l)=if (aF S n).2≠0 then aF S n else bh (aF S n).1 l:=rfl
  obtain⟨s,t,f⟩:=Wb.1 (hin n (Vb ..));have d:=lY (S:=bm S) rfl hg t;rw[f]at d;obtain⟨i,r,d⟩:=d;have c:=erase_filter hg.bQ r;rw[f]at c;rcases qZ S (hin n (Vb ..)) with ⟨k,g⟩|⟨k,g⟩
  .rw[d,c]at g;have j:=(fit_delete (dC hg) n).aJ;rw[d,c]at j;have u:(aF S n).1.ah=S.ah.filter λq=>!decide (q.num=n):=congrArg (λx:Dk=>x.ah) g
   obtain⟨a,b,o,v,p⟩:=ny (l:=l) (S:=(aF S n).1) (by grind) (λm w=>by grind) hnd.2;rw[e,if_neg (show ¬(aF S n).2≠0 from λh=>h k)];refine⟨n ::a,b,by rw[o];rfl,?_,p⟩;grind [List.filter_filter]
  refine⟨[],n ::l,rfl,?_,Ua ⟨?_,by simp⟩⟩
  .rw[e,if_pos (show (aF S n).2≠0 by rw[k];decide),g];have h:S.ah.filter (λq=>!decide (q.num∈([]:List Int)))=S.ah:=Ya.2 λx _=>by simp
   rw[h];rfl
  grind
theorem yu (b:∀x∈v,x.2.k≠115):(av u v).ae=u.ae:=by
 induction v generalizing u with
 | nil=>rfl
 | cons x v c=>
  have a:(hnext u x).ae=u.ae:=by
   show (htk u x.1.1 x.2).ae=u.ae;grind [htk]
  grind [av]
theorem FL {h h':Hs}(a:h'.ae=h.ae)  (b:s.2.k=98):hnext h' s=hnext h s:=by grind [hnext,htk]
structure Gb (h:Hs)(G:List Et)(win:Int):Prop where
 ok:∀x∈G,x.2.Ok
 gt:h.g<win
 free:h.ar=[]
 is:(∀x∈G,x.2.k=100/\x.2.n=win)\/∃y G',G=y ::G'/\y.2.k=98/\h.g<=y.2.n/\y.2.n<win/\∀x∈G',x.2.k=100/\x.2.n=win
theorem BU {G:List Et}{win:Int}:∀{h:Hs},h.g<win->(h.ar=[]\/h.onum=win)->(∀x∈G,x.2.k=100/\x.2.n=win)->fK h G/\(av h G).g=h.g:=by
 induction G with
 | nil=>exact λ_ _ _=>⟨trivial,rfl⟩
 | cons x G l=>
  intro h d i f;obtain⟨⟨c,z⟩,⟨k,n,t⟩⟩:=x;obtain⟨a,b⟩:=f _ (Vb ..);have a:k=100:=a;have b:n=win:=b;subst a;subst b;obtain⟨m,o⟩:=l (h:=hnext h ((c,z),⟨100,n,t⟩)) d (Ua rfl) λy j=>f y (Xc _ j)
  exact⟨⟨BP d (i.imp id λe=>e.symm),m⟩,o⟩
theorem Gb.fits {G:List Et}  (c:Gb u G r):fK u G/\(∀x∈G,x.2.k≠115)/\(av u G).g<r:=by
 rcases c.is with e|⟨y,j,rfl,d,l,m,e⟩
 .obtain⟨h,i⟩:=BU c.gt (Wa c.free) e;exact⟨h,λx f=>by grind,by rw[i];exact c.gt⟩
 obtain⟨⟨b,z⟩,⟨k,n,t⟩⟩:=y;have d:k=98:=d;subst d;have o:u.g<=n:=l;have a:n<r:=m;obtain⟨h,i⟩:=BU (h:=hnext u ((b,z),⟨98,n,t⟩)) (G:=j) (win:=r) a (Wa rfl) e;exact⟨⟨by grind [hfit,dI],h⟩,λx f=>by grind,by show (av (hnext u ((b,z),⟨98,n,t⟩)) j).g<r;rw[i];exact a⟩
structure De (R:List (Int×List Rc))(A G C:List Et):Prop where
 aG:aG R=A++(G++C)
 cl:cN hs0 (A++C)
 qe:G≠[]->∃win y C',C=y ::C'/\y.2.k=98/\win<=y.2.n/\Gb (av hs0 A) G win
 RE:∀x∈G,∀y∈A++C,x.1.1≠y.1.1
theorem De.Nz {R:List (Int×List Rc)}{A G C:List Et}(h:De R A G C):av hs0 (Jr.aG R)=av hs0 (A++C)/\fK hs0 (Jr.aG R)/\∀x∈Jr.aG R,x.2.Ok:=by
 have b:=h.cl;rw[bG]at b;by_cases d:G=[]
 .have f:Jr.aG R=A++C:=by rw[h.aG,d];rfl
  rw[f];exact⟨rfl,h.cl.fits,h.cl.ok⟩
 obtain⟨l,y,m,rfl,g,n,c⟩:=h.qe d;obtain⟨j,k,o⟩:=c.fits;have e:=FL (h:=av hs0 A) (h':=av (av hs0 A) G) (yu k) g;have i:hfit (av (av hs0 A) G) y.2=true:=by grind [hfit,dI]
 rw[h.aG];refine⟨by grind [av],?_,λx a=>?_⟩
 .rw[gG,gG];refine⟨b.1.fits,j,i,?_⟩;rw[e];exact b.2.2.fits
 rcases Za.1 a with a|a
 .exact h.cl.ok x (ca _ a)
 rcases Za.1 a with a|a
 .exact c.ok x a
 exact h.cl.ok x (Ub _ a)
def clean (R:List (Int×List Rc))(G:List Et):List (Int×List Rc):=R.filter λp=>!decide (p.1∈G.map (·.1.1))
theorem De.clean {R:List (Int×List Rc)}{A G C:List Et}(h:De R A G C):Jr.aG (Jr.clean R G)=A++C:=by
 unfold Jr.clean;rw[gQ (λx=>!decide (x∈G.map (·.1.1))),h.aG,qb,qb];have f:G.filter (λx=>!decide (x.1.1∈G.map (·.1.1)))=[]:=Xe.2 λx a=>by grind
 have g:∀{l:List Et},(∀y∈l,y∈A++C)->l.filter (λx=>!decide (x.1.1∈G.map (·.1.1)))=l:=λ{l} b=>Ya.2 λy d=>by
  have:y.1.1∉G.map (·.1.1):=λc=>by
   obtain⟨x,a,e⟩:=Wb.1 c;exact h.RE x a y (b y d) e
  simp[this]
 grind
theorem IS (hz:s.2.k=115):∀{l:List Et} {h:Hs},cN h (l++[s])->h.az≠[]->(∀x∈l,x.2.k≠115)->(∀x∈l,x.2.k=100/\x.2.n=s.2.n)/\(h.ar≠[]->h.onum=s.2.n)
 | [],h,hc,_,_=>by
  refine⟨λx m=>(by cases m),λ_=>?_⟩;obtain⟨⟨a,f⟩,⟨k,n,t⟩⟩:=s;have hz:k=115:=hz;subst hz;have i:=hc.1.fit;grind [hfit,dI]
 | x ::l,h,hc,ho,hs=>by
  have c:x.2.k=100:=by
   rcases hc.1.ok.k with e|e|e
   .exact e
   .exact absurd e (hs x (Vb ..))
   exact absurd (hc.1.base e) ho
  obtain⟨⟨a,f⟩,⟨k,n,t⟩⟩:=x;have c:k=100:=c;subst c;have b:cN (hnext h ((a,f),⟨100,n,t⟩)) (l++[s]):=hc.2;obtain⟨o,g⟩:=IS hz b (qs _ _) λy d=>hs y (Xc _ d)
  have p:n=s.2.n:=g (show h.ar++[t]≠[] by simp);exact⟨λy d=>by grind,λj=>by have i:=hc.1.fit;grind [hfit,dI]⟩
theorem OT (hz:s.2.k=115)   (d:cN u (v++[s]))(f:u.ar=[])(z:∀x∈v,x.2.k≠115):Gb u v s.2.n:=by
 have h:∀x∈v,x.2.Ok:=λx l=>d.ok x (ca _ l)
 cases v with
 | nil=>
  exfalso;obtain⟨⟨i,B⟩,⟨k,n,t⟩⟩:=s;have hz:k=115:=hz;subst hz;have c:=d.1.fit;grind [hfit,dI]
 | cons y v=>
  have b:cN (hnext u y) (v++[s]):=d.2;have o:(hnext u y).az≠[]:=by
   show (htk u y.1.1 y.2).az≠[];grind [qs,htk]
  obtain⟨w,D⟩:=IS hz b o λx l=>z x (Xc _ l)
  obtain⟨⟨i,B⟩,⟨k,n,t⟩⟩:=y;have c:=d.1.fit;rcases d.1.ok.k with e|e|e
  .have e:k=100:=e;subst e;have G:n=s.2.n:=D (show u.ar++[t]≠[] by simp);unfold hfit dI at c;rw[if_pos rfl]at c;simp only[Ze,decide_eq_true_eq]at c;refine⟨h,by omega,f,Wa λx l=>?_⟩;grind
  .exact absurd e (z _ (Vb ..))
  have e:k=98:=e;subst e;unfold hfit dI at c;rw[if_neg (show ¬(⟨#[(98:UInt8)]⟩:ByteArray)=⟨#[100]⟩ by decide),if_neg (show ¬(⟨#[(98:UInt8)]⟩:ByteArray)=⟨#[115]⟩ by decide),if_pos rfl]at c;have E:u.g<=n:=of_decide_eq_true c;have m:n<s.2.n:=by
   cases v with
   | nil=>
    exfalso;obtain⟨⟨j,r⟩,⟨p,A,F⟩⟩:=s;have hz:p=115:=hz;subst hz;have a:=b.1.fit;unfold hfit dI at a;rw[if_neg (show ¬(⟨#[(115:UInt8)]⟩:ByteArray)=⟨#[100]⟩ by decide),if_pos rfl]at a;have:(hnext u ((i,B),⟨98,n,t⟩)).ar=[]:=rfl;grind
   | cons x v=>
    obtain⟨⟨j,r⟩,⟨p,A,F⟩⟩:=x;obtain⟨q1,q⟩:=w _ (Vb ..);have q1:p=100:=q1;have q:A=s.2.n:=q;subst q1;have a:=b.1.fit;unfold hfit dI at a;rw[if_pos rfl]at a;simp only[Ze,decide_eq_true_eq]at a;rw[<-q];exact a.1
  exact⟨h,by omega,f,Ua ⟨_,v,rfl,rfl,E,m,w⟩⟩
theorem Gb.sub {G:List Et}  (a:Gb u G r)(p:Et->Bool):Gb u (G.filter p) r:=by
 refine⟨λx b=>a.ok x (eb.1 b).1,a.gt,a.free,?_⟩;grind [is]
theorem oX:∀(l:List Et) (h:Hs),cN h l->(av h l).ae≠h.ae->
  ∃a z b d,l=a++(z ::b)/\z.2.k=115/\z.2.n=d.1/\(∀x∈a,x.2.k≠115)/\(av h (a++[z])).ae=h.ae++[d]/\(av h (a++[z])).ar=[]/\(av h (a++[z])).az=[]/\(av h (a++[z])).g=d.1/\(∀x∈a++[z],x.1.1∈d.2.2)/\d.2.2.getLast? = some z.1.1/\(∀y∈h.az,y∈d.2.2)
 | [],h,_,hne=>absurd rfl hne
 | x ::l,h,hc,hne=>by
  obtain⟨⟨c,z⟩,⟨k,n,t⟩⟩:=x;by_cases D:k=115
  .subst D;have i:=hc.1.fit;unfold hfit dI at i;rw[if_neg (show ¬(⟨#[(115:UInt8)]⟩:ByteArray)=⟨#[100]⟩ by decide),if_pos rfl]at i;simp only[Ze,decide_eq_true_eq]at i;have f:n=h.onum:=i.2;refine⟨[],((c,z),⟨115,n,t⟩),l,(h.onum,h.ar,hent c h.az),rfl,rfl,f,λx j=>(by cases j),rfl,rfl,rfl,f,λx j=>?_,?_,(iQ c h.az).2⟩
   .grind [iQ]
   grind [hent]
  .have p:(hnext h ((c,z),⟨k,n,t⟩)).ae=h.ae:=by
    show (htk h c ⟨k,n,t⟩).ae=h.ae;grind [htk]
   have E:c∈(hnext h ((c,z),⟨k,n,t⟩)).az/\∀y∈h.az,y∈(hnext h ((c,z),⟨k,n,t⟩)).az:=by
    show c∈(htk h c ⟨k,n,t⟩).az/\∀y∈h.az,y∈(htk h c ⟨k,n,t⟩).az;unfold htk;split
    .rename_i B;have:=hc.1.base B;grind
    grind [iQ]
   have e:(av (hnext h ((c,z),⟨k,n,t⟩)) l).ae≠(hnext h ((c,z),⟨k,n,t⟩)).ae:=by
    rw[p];exact hne
   obtain⟨a,G,b,d,q,r,s,H,u,v,w,A,J,m,o⟩:=oX l _ hc.2 e;refine⟨((c,z),⟨k,n,t⟩) ::a,G,b,d,by rw[q];rfl,r,s,λx j=>?_,by rw[<-p];exact u,v,w,A,λx j=>?_,m,λy F=>o y (E.2 y F)⟩
   .grind
   grind
theorem om {s0:Int×List ByteArray×List Int}:∀(e:List (Int×List ByteArray×List Int)) (l:List Et) (h:Hs) (d:List (Int×List ByteArray×List Int)),cN h l->h.az=[]->h.ar=[]->(av h l).ae=h.ae++(e++s0 ::d)->
  ∃a w z c,l=a++(w++z ::c)/\(av h a).ae=h.ae++e/\(av h a).az=[]/\(av h a).ar=[]/\z.2.k=115/\z.2.n=s0.1/\(∀x∈w,x.2.k≠115)/\(av h (a++(w++[z]))).ae=h.ae++(e++[s0])/\(av h (a++(w++[z]))).ar=[]/\(av h (a++(w++[z]))).az=[]/\(av h (a++(w++[z]))).g=s0.1/\(∀x∈w++[z],x.1.1∈s0.2.2)/\s0.2.2.getLast? = some z.1.1
 | [],l,h,d,hc,ho,hod,hs=>by
  obtain⟨a,z,b,v,o,y,A,B,q,s,t,D,E,i,_⟩:=oX l h hc (by simp_all);have f:v=s0:=by
   obtain⟨r,m⟩:=kH (av h (a++[z])) b;rw[<-aK,Va,ef,<-o,hs,q,Va]at m;have u:=Zb m;grind
  subst f;exact⟨[],a,z,b,o,by simp[av],ho,hod,y,A,B,q,s,t,D,E,i⟩
 | p ::e,l,h,d,hc,ho,hod,hs=>by
  obtain⟨a,z,b,v,o,y,A,B,q,s,t,D,E,i,_⟩:=oX l h hc (by simp_all);have F:l=(a++[z])++b:=by rw[o];simp
  have f:v=p:=by
   obtain⟨r,m⟩:=kH (av h (a++[z])) b;rw[<-aK,<-F,hs,q,Va]at m;have u:=Zb m;grind
  subst f;have j:=hc;rw[F,bG]at j;obtain⟨M,w,z',c,P,R,S,T,U,V,W,X,k9,G,H,J,K⟩:=om (s0:=s0) e b (av h (a++[z])) d j.2 t s (by grind [aK]);grind [aK]
theorem mg (s:List (Int×List ByteArray×List Int))(h:Hs)(l:List Et):av {h with ae:=s} l={av {h with ae:=[]} l with ae:=s++(av {h with ae:=[]} l).ae}:=by
 induction l generalizing h s with
 | nil=>
  show ({h with ae:=s}:Hs)={h with ae:=s++[]};rw[Xa]
 | cons x l d=>
  have e:∀q,av q (x ::l)=av (hnext q x) l:=λ_=>rfl
  rw[e,e];by_cases b:x.2.k=98
  .have a:∀s,hnext {h with ae:=s} x={hnext h x with ae:=s}:=λs=>by
    unfold hnext htk;rw[if_pos b,if_pos b]
   rw[a s,a []];exact d s (hnext h x)
  by_cases c:x.2.k=115
  .have a:∀s,hnext {h with ae:=s} x={hnext h x with ae:=s++[(h.onum,h.ar,hent x.1.1 h.az)]}:=λs=>by
    unfold hnext htk;rw[if_neg b,if_pos c,if_neg b,if_pos c]
   rw[a s,a [],d (s++[(h.onum,h.ar,hent x.1.1 h.az)]) (hnext h x),d ([]++[(h.onum,h.ar,hent x.1.1 h.az)]) (hnext h x)];simp
  have a:∀s,hnext {h with ae:=s} x={hnext h x with ae:=s}:=λs=>by
   unfold hnext htk;rw[if_neg b,if_neg c,if_neg b,if_neg c]
  rw[a s,a []];exact d s (hnext h x)
theorem DO (s a:List (Int×List ByteArray×List Int))(h:Hs)(x:Et):∃r,(hnext {h with ae:=s} x)={hnext {h with ae:=a} x with ae:=s++r}/\(hnext {h with ae:=a} x).ae=a++r:=by
 unfold hnext htk;simp only;split
 .exact⟨[],by simp⟩
 split
 .exact⟨[_],rfl,rfl⟩
 exact⟨[],by simp⟩
theorem Dj (l:List Et):∀(h:Hs) (s a:List (Int×List ByteArray×List Int)),(∀y∈a.flatMap (·.2.2),y∈s.flatMap (·.2.2))->cN {h with ae:=s} l->cN {h with ae:=a} l:=by
 induction l with
 | nil=>exact λ_ _ _ _ _=>trivial
 | cons x l m=>
  intro h s a e b;obtain⟨r,f,g⟩:=DO s a h x;refine⟨⟨b.1.fit,b.1.ok,b.1.base,λk=>b.1.own (e _ k),b.1.head,b.1.bare⟩,?_⟩;have d:=b.2;rw[f]at d;have i:=m (hnext {h with ae:=a} x) (s++r) (a++r) (λy c=>by
   rw[Uc]at c ⊢;rcases Za.1 c with c|c
   .exact ca _ (e y c)
   exact Ub _ c) d
  have j:({hnext {h with ae:=a} x with ae:=a++r}:Hs)=hnext {h with ae:=a} x:=by
   rw[<-g]
  rwa [j]at i
theorem LI:∀{h:Hs},cN h v->∀x∈v,x.1.1∉h.ae.flatMap (·.2.2):=by
 induction v with
 | nil=>exact λ_ x a=>by cases a
 | cons y v g=>
  intro h d x a;rcases Wg.1 a with e|a
  .rw[e];exact d.1.own
  have c:=g d.2 x a;obtain⟨r,f⟩:=kH h [y];have b:(hnext h y).ae=h.ae++r:=f;rw[b,Uc]at c;exact λe=>c (ca _ e)
theorem oK:∀{h:Hs},cN h v->(∀x∈v,x.1.1∈bF (av h v))/\∀y∈bF h,y∈bF (av h v):=by
 induction v with
 | nil=>exact λ_=>⟨λx g=>(by cases g),λy a=>a⟩
 | cons x v i=>
  intro h b;obtain⟨j,d⟩:=i b.2;have c:x.1.1∈bF (hnext h x)/\∀y∈bF h,y∈bF (hnext h x):=by
   unfold bF;rw[(eL h x).1,(eL h x).2];unfold htk;split
   .rename_i f;rw[b.1.base f];exact⟨by simp,λy a=>by simp at a ⊢;exact Wa a⟩
   split
   .simp only[Uc,List.flatMap_cons,List.flatMap_nil,Xa];exact⟨Ub _ (iQ _ _).1,λy a=>(Za.1 a).elim (λe=>ca _ e) λe=>Ub _ ((iQ _ _).2 y e)⟩
   exact⟨Ub _ (iQ _ _).1,λy a=>(Za.1 a).elim (λe=>ca _ e) λe=>Ub _ ((iQ _ _).2 y e)⟩
  refine⟨λy a=>?_,λy a=>d y (c.2 y a)⟩;rcases Wg.1 a with e|a
  .rw[e];exact d _ c.1
  exact j y a
theorem Gl {A W:List Et}{z y:Et}{c:List Et}   (h:(av hs0 A).ae=d)(i:(av hs0 (A++(W++[z]))).ae=d++[f])(g:y.2.k=98):
  ∃F:Hs,av hs0 (A++(W++z ::y ::c))={F with ae:=d++[f]++F.ae}/\av hs0 (A++y ::c)={F with ae:=d++F.ae}:=by
 have a:hnext (av hs0 (A++(W++[z]))) y={hnext (av hs0 A) y with ae:=d++[f]}:=by
  unfold hnext htk;rw[if_pos g,if_pos g];simp only;rw[i]
 have b:hnext (av hs0 A) y={hnext (av hs0 A) y with ae:=d}:=by
  unfold hnext htk;rw[if_pos g];simp only;rw[h]
 refine⟨av {hnext (av hs0 A) y with ae:=[]} c,?_,by rw[aK];show av (hnext _ y) c=_;rw[b,mg]⟩;have e:A++(W++z ::y ::c)=(A++(W++[z]))++y ::c:=by simp
 rw[e,aK];show av (hnext _ y) c=_;rw[a,mg]
theorem zI {R:List (Int×List Rc)}{H:Hs}   (K:cN hs0 (aG R))(a8:av hs0 (aG R)=H)(hs:H.ae=d++f ::e)(a9:(H.ae.flatMap (·.2.2)).Nodup)(P:H.g≠f.1\/H.az≠[])  (hr:f.2.2=j++o)(b3:o≠[]):
  ∃A W z C,aG R=A++(W++z ::C)/\De (R.filter λp=>!decide (p.1∈o)) A (W.filter λx=>!decide (x.1.1∈o)) C/\av hs0 (A++C)={H with ae:=d++e}/\(j=[]->W.filter (λx=>!decide (x.1.1∈o))=[])/\(av hs0 A).ae=d/\(av hs0 (A++(W++[z]))).ae=d++[f]/\(av hs0 (A++(W++[z]))).g=f.1/\(∀x∈W,x.2.k≠115)/\(∀x∈A++C,x.1.1∉f.2.2)/\∃y C',C=y ::C'/\y.2.k=98:=by
 obtain⟨a,w,z,c,e1,e2,e3,e4,e5,e6,e7,e8,e9,V,r,X,a0⟩:=om (s0:=f) d (aG R) hs0 e K rfl rfl (by rw[a8,hs];rfl);have E:(av hs0 a).ae=d:=e2;have hl:aG R=(a++(w++[z]))++c:=by rw[e1];simp
 have h:=K;rw[hl,bG]at h;have G:=K;rw[e1,bG]at G;have a4:cN (av hs0 a) (w++[z]):=by
  have b:=h.1;rw[bG]at b;exact b.2
 have s:av (av hs0 (a++(w++[z]))) c=H:=by rw[<-aK,<-hl];exact a8
 have b0:H.ae.flatMap (·.2.2)=d.flatMap (·.2.2)++(f.2.2++e.flatMap (·.2.2)):=by rw[hs];simp
 rw[b0,Xf]at a9;have ha:∀x∈a,x.1.1∉f.2.2:=λx D U=>by
  have b:=(oK G.1).1 x D;unfold bF at b;rw[E,e3,Xa]at b;exact a9.2.2 _ b _ (ca _ U) rfl
 have M:∀x∈c,x.1.1∉f.2.2:=λx D U=>by
  have b:=LI h.2 x D;rw[e8]at b;exact b (by simp[hs0];exact Ua U)
 have b1:∀y∈o,y∈f.2.2:=λy hy=>by rw[hr];exact Ub _ hy
 have b7:z.1.1∈o:=by
  rcases Xb o with m|⟨B,q,m⟩
  .exact absurd m b3
  rw[Vc]at m;rw[hr,m,<-Va,List.getLast?_concat]at a0;rw[m,<-Option.some.inj a0];simp
 have b6:c≠[]:=λm=>by
  rw[m]at s;have u:av hs0 (a++(w++[z]))=H:=s;rcases P with b|b
  .exact b (by rw[<-u];exact r)
  exact b (by rw[<-u];exact V)
 cases c with
 | nil=>exact absurd rfl b6
 | cons y c=>
  have b8:0<=f.1:=by
   have b:=(zx.all h.1).sn f (by rw[e8];simp[hs0]);exact b.1
  obtain⟨J,hn⟩:=h.2.1.head V (by rw[r];omega);rw[r]at hn;have b9:(av hs0 a).g<=f.1:=by
   have b:=(cN.gm (zx.all G.1) a4).1;rwa [<-aK,r]at b
  -- the two states behind the base
  have a1:hnext (av hs0 (a++(w++[z]))) y={hnext (av hs0 a) y with ae:=d++[f]}:=by
   unfold hnext htk;rw[if_pos J,if_pos J];simp only;rw[e8];rfl
  have a2:hnext (av hs0 a) y={hnext (av hs0 a) y with ae:=d}:=by
   unfold hnext htk;rw[if_pos J];simp only;rw[E]
  have a5:=h.2.2;rw[a1]at a5;have b4:cN (hnext (av hs0 a) y) c:=by
   rw[a2];exact Dj c _ _ _ (λq S=>by rw[Uc];exact ca _ S) a5
  have a3:Cl (av hs0 a) y:=by
   refine⟨?_,h.2.1.ok,λ_=>e3,λU=>?_,λ_ _=>⟨J,by omega⟩,h.2.1.bare⟩
   .obtain⟨⟨c0,zz⟩,⟨k,n,t⟩⟩:=y;have J:k=98:=J;subst J;have hn:f.1<=n:=hn;unfold hfit dI;rw[if_neg (show ¬(⟨#[(98:UInt8)]⟩:ByteArray)=⟨#[100]⟩ by decide),if_neg (show ¬(⟨#[(98:UInt8)]⟩:ByteArray)=⟨#[115]⟩ by decide),if_pos rfl];exact decide_eq_true (by omega)
   rw[E]at U;have b:=h.2.1.own;rw[e8]at b;refine b ?_;show y.1.1∈([]++(d++[f])).flatMap (λq:Int×List ByteArray×List Int=>q.2.2);rw[Ug,Uc];exact ca _ U
  obtain⟨F,hF⟩:∃F,av {hnext (av hs0 a) y with ae:=[]} c=F:=⟨_,rfl⟩;have a6:H={F with ae:=d++[f]++F.ae}:=by
   rw[<-s];show av (hnext _ y) c=_;rw[a1,mg,hF]
  have b5:av hs0 (a++y ::c)={F with ae:=d++F.ae}:=by
   rw[aK];show av (hnext _ y) c=_;rw[a2,mg,hF]
  have v:F.ae=e:=by
   have b:=congrArg (λq:Hs=>q.ae) a6;simp only at b;rw[hs,Va,ef]at b;have T:=Zb b;injection T with _ T;exact T.symm
  refine⟨a,w,z,y ::c,e1,⟨?_,by rw[bG];exact⟨G.1,a3,b4⟩,λhG=>⟨f.1,y,c,rfl,J,hn,by have a7:=OT e5 a4 e4 e7;rw[e6]at a7;exact a7.sub _⟩,λx D q S=>?_⟩,by rw[b5,v];rw[a6,v],λb2=>Xe.2 λx D=>by have i:x.1.1∈f.2.2:=X x (ca _ D);rw[hr,b2,Ug]at i;simp[i],E,e8,r,e7,λx D=>(Za.1 D).elim (ha x) (M x),y,c,rfl,J⟩
  .rw[gQ (λx=>!decide (x∈o)),e1,qb,qb,Yc (by simp[b7])];have T:∀{l:List Et},(∀x∈l,x.1.1∉f.2.2)->l.filter (λx=>!decide (x.1.1∈o))=l:=λ{l} hl=>Ya.2 λx D=>by
    have:x.1.1∉o:=λm=>hl x D (b1 _ m)
    simp[this]
   rw[T ha,T M]
  have i:x.1.1∈f.2.2:=X x (ca _ (eb.1 D).1);intro m;rw[m]at i;rcases Za.1 S with S|S
  .exact ha q S i
  exact M q S i
structure lW (S:Dk)(R0:List (Int×List Rc))(n:Int)(a b:List Rc)(y:Bs)(A G C:List Et):Prop where
 left:S.left = -1
 room:S.room = -1
 aJ:Dm.Good S
 view:S.ah.map view=tg R0++[(n,stx (a++b)++y)]
 cJ:∀s∈S.ah,s.num≠n->s.cJ=s.text.size
 xH:∀s∈S.ah,s.num=n->(b=[]/\s.cJ=s.text.size)\/(y=[]/\s.cJ=(stx a).length)
 dT:y=[]\/(y≠[]/\(nX y).2=false)
 ne:∀p∈R0,p.2≠[]
 qe:De (R0++[(n,a++b)]) A G C
 tail:∃C0,C=C0++br n (stx a).length b/\(G≠[]->C0≠[])
theorem Gz {R:List (Int×List Rc)}{c:List (Int×List Rc)}{A G C a x:List Et}(h:De R A G C)(n:C=a++x)(f:G≠[]->a≠[])(g:aG c=A++(G++a)):De c A G a:=by
 refine⟨g,?_,λd=>?_,λp i q o=>h.RE p i q ?_⟩
 .have m:=h.cl;grind [bG]
 .obtain⟨j,y,k,e,r,s,t⟩:=h.qe d;cases b:a with
  | nil=>exact absurd b (f d)
  | cons u l=>grind
 grind
theorem lW.pG {S:Dk}{R0:List (Int×List Rc)}{n:Int}{a b:List Rc}{y:Bs}{A G C:List Et}(h:lW S R0 n a b y A G C)(t:Int):
  ∃e f d P,b=e++f/\lW (eH S t) R0 n (a++e) [] d A G P/\∃x,C=P++x/\x.length<=b.length:=by
 obtain⟨l,l1,V,v0,v1⟩:=Ye.1 h.view;obtain⟨s,rfl,X⟩:=Xd.1 v1;unfold Jr.view at X;injection X with R U;have M:=h.aJ.bQ;rw[V,Yb]at M;have v:s∈S.ah:=by rw[V];simp
 obtain⟨T,hT⟩:∃T,(if t<0 then (0:Int) else t)=T:=⟨_,rfl⟩;have u:0<=T:=by omega
 have K:∀q∈l,q.num≠n:=λq g=>by grind
 have j:∀q∈l,Dm.dT T q=q:=λq g=>uG T q u (h.cJ q (by grind) (K q g))
 have c:(eH S t).ah=l++[Dm.dT T s]:=by
  show S.ah.map (Dm.dT (if t<0 then 0 else t))=_;have h5:l.map (Dm.dT T)=l:=(List.map_congr_left j).trans (List.map_id l);grind
 have k:=(jI (dC h.aJ) t).aJ;obtain⟨D,a0,p⟩:=h.tail;have key:∃e f d,b=e++f/\B (Dm.dT T s).text=stx (a++e)++d/\(d=[]\/(d≠[]/\(nX d).2=false))/\(Dm.dT T s).num=n/\(Dm.dT T s).cJ=(Dm.dT T s).text.size:=by
  rcases h.xH s v R with ⟨F,hf⟩|⟨hy,hf⟩
  .grind [uG,dT]
  subst hy;rw[Xa]at U;obtain⟨m,hm,ht,w,hz⟩:=uH T s u (h.aJ.cJ s v);obtain⟨a',b',d,o,E,h3,h4⟩:=CT (a++b) m (λr M=>by
   obtain⟨x,hx,e⟩:=oW (n:=n) (z:=0) M;rw[<-e];exact h.qe.Nz.2.2 x (by grind [dh]))
  obtain⟨e,W⟩:=h4 a b rfl (by omega);refine⟨e,b',d,?_,by rw[ht,U,E,W],h3,w.trans R,hz⟩;rw[W,Va]at o;exact Zb o
 obtain⟨e,f,d,F,k1,k2,k3,k4⟩:=key;have H:br n (stx a).length b=br n (stx a).length e++br n ((stx a).length+(stx e).length) f:=by rw[F,ee]
 have i:C=(D++br n (stx a).length e)++br n ((stx a).length+(stx e).length) f:=by grind
 refine⟨e,f,d,D++br n (stx a).length e,F,⟨rfl,rfl,k,?_,λq g w=>?_,λq g w=>Wa ⟨rfl,by grind⟩,k2,h.ne,?_,D++br n (stx a).length e,by simp[br],λJ=>by simp[p J]⟩,_,i,by grind [iD]⟩
 .rw[c,Zd,v0,Xa];congr 1;show [((Dm.dT T s).num,B (Dm.dT T s).text)]=_;rw[k3,k1]
 .rw[c]at g;rcases Za.1 g with g|g
  .exact h.cJ q (by grind) w
  grind
 refine Gz h.qe i (λJ=>by simp[p J]) ?_;have o:=h.qe.aG;have E:aG (R0++[(n,a++b)])=aG (R0++[(n,a++e++[])])++br n ((stx a).length+(stx e).length) f:=by grind [dh,ee]
 rw[E,i,<-Va G,<-Va A]at o;exact List.append_cancel_right o
theorem ib.SK {J:Jn}{S:Dk}{R:List (Int×List Rc)}{b:List Rc}(h:ib J S R b)(k:∀p∈R,p.2≠[])(D:R≠[]){A G C:List Et}(o:De R A G C)(K:b=[]\/b.length<=C.length/\(G≠[]->b.length<C.length)):∃R0 n a,R=R0++[(n,a++b)]/\lW S R0 n a b [] A G C:=by
 have d:=h.calm;obtain⟨j,p,w⟩:∃j p,R=j++[p]:=(Xb R).elim (λe=>absurd e D) λ⟨j,p,e⟩=>⟨j,p,by rw[e,Vc]⟩
 by_cases t:J.aN=[]
 .have m:=h.OC t;subst m;have f:=h.full;refine⟨j,p.1,p.2,by rw[w,Xa],d.left,d.room,d.aJ,?_,λs i _=>f s i,λs i _=>Wa ⟨rfl,f s i⟩,Wa rfl,λq H=>k q (by grind),by grind,C,by simp[br],λe=>?_⟩
  .have l:=h.ah;rw[w,Zd]at l;rw[Xa,Xa];exact l
  obtain⟨_,y,z,q,_⟩:=o.qe e;grind
 obtain⟨R0,a,g,u,_⟩:=h.last t;refine⟨R0,aC J,a,g,d.left,d.room,d.aJ,?_,λs i r=>h.cJ s i (Ua r),λs i r=>Ua ⟨rfl,by rw[h.xH t s i r,u]⟩,Wa rfl,λq H=>k q (by grind),by grind,?_⟩
 .have l:=h.ah;rw[g,Zd]at l;rw[Xa];exact l
 rcases K with m|⟨F,E⟩
 .subst m;refine⟨C,by simp[br],λe=>?_⟩;obtain⟨_,y,z,q,_⟩:=o.qe e;grind
 have v:=o.aG;rw[<-Va,g,dh,ee,Nat.zero_add,<-Va]at v;have key:∃c,C=c++br (aC J) (stx a).length b:=by
  rcases te.1 v with ⟨c,q1,x⟩|⟨c,q1,x⟩
  .have B:=congrArg List.length x;rw[iD,Ue]at B;have M:c=[]:=Zf.1 (by omega);grind
  grind
 grind [iD]
def For (S:Dk)(d:Hs->Prop):Prop:=
 (S.left = -1/\S.room = -1/\S.ah=[]/\d hs0)\/∃R0 n a b y A G C,lW S R0 n a b y A G C/\∀c x,C=c++x->x.length<=b.length->d (av hs0 (A++c))
theorem For.imp {S:Dk}{f:Hs->Prop}(h:For S i)(g:∀K,i K->f K):For S f:=by
 rcases h with ⟨c,d,k,l⟩|⟨R0,n,a,b,y,A,G,C,c,d⟩
 .exact Wa ⟨c,d,k,g _ l⟩
 exact Ua ⟨R0,n,a,b,y,A,G,C,c,λj x e m=>g _ (d j x e m)⟩
theorem For.pG {S:Dk}  (h:For S i)(t:Int):For (eH S t) i:=by
 rcases h with ⟨c,g,j,k⟩|⟨R0,n,a,b,y,A,G,C,c,g⟩
 .refine Wa ⟨rfl,rfl,?_,k⟩;show S.ah.map _=[];rw[j];rfl
 obtain⟨e,f,p,d,s,l,x,u,o⟩:=c.pG t;refine Ua ⟨R0,n,a++e,[],p,A,G,d,l,λq v r m=>?_⟩;grind
def ng (K H:Hs)(sure:Nat):Prop:=K.ae=H.ae/\K.g=H.g/\∃k,K.ar=H.ar.take k/\sure<=k/\k<=H.ar.length/\(K.ar≠[]->K.onum=H.onum)
theorem ng.refl {H:Hs}{sure:Nat}(h:sure<=H.ar.length):ng H H sure:=⟨rfl,rfl,H.ar.length,by simp,h,Nat.le_refl _,λ_=>rfl⟩
structure Lv (J:Jn)(S:Dk)(R:List (Int×List Rc))(b:List Rc)(H:Hs)(sure:Nat):Prop where
 kd:Kd J S R b H
 pre:∀P x,aG R=P++x->x.length<=b.length->ng (av hs0 P) H sure
theorem Lv.sure {J:Jn}{S:Dk}{R:List (Int×List Rc)}{b:List Rc}{H:Hs}{sure:Nat}(h:Lv J S R b H sure):sure<=H.ar.length:=by
 have a:=h.pre (aG R) [] (by simp) (ad _);rw[h.kd.is]at a;obtain⟨_,_,k,_,c,d,_⟩:=a;omega
theorem qv {J:Jn}{S:Dk}{R:List (Int×List Rc)}{H:Hs}(h:Kd J S R [] H){sure:Nat}(a:sure<=H.ar.length):Lv J S R [] H sure:=
 ⟨h,λP x e b=>by grind [Kd.is,ng.refl,Zf]⟩
theorem ib.NP {J:Jn}{S:Dk}{R:List (Int×List Rc)}{b:List Rc}(h:ib J S R b):b.length<=(aG R).length:=by
 by_cases c:J.aN=[]
 .rw[h.OC c];grind
 obtain⟨R0,a,d,_,_⟩:=h.last c;grind [dh,iD]
theorem Lv.write {J:Jn}{S:Dk}{R:List (Int×List Rc)}{b:List Rc}{H:Hs}{sure:Nat}(h:Lv J S R b H sure)(hx:J.next<=9223372036854775807)(hg:-1<=J.al/\J.al<=1000000000)(a:Int)(t:ByteArray)(y:(⟨100,a,t⟩:Rc).Ok)(w:H.g<a)(hb:H.ar=[]\/a=H.onum)(ho:J.aN=[]->H.ar=[]):
  ∃n r o u f,aY J S a t=(n,r,0)/\Lv n r o u f sure/\f.ar=H.ar++[t]/\f.onum=a/\f.ae=H.ae/\f.g=H.g/\n.aN≠[]:=by
 obtain⟨n,r,o,u,f,e,k,G,M,B,D,⟨F,he,hw⟩,a6,T⟩:=h.kd.write hx hg a t y w hb ho;have z:=h.sure;have a0:=h.kd.seg.NP;refine⟨n,r,o,u,f,e,⟨k,λP x m a8=>?_⟩,G,M,B,D,T⟩;have X:(aG o).length=(aG R).length+F.length:=by grind
 have l:∀{K:Hs},ng K H sure->ng K f sure:=λ{K} ⟨q1,q2,k,q3,q4,q5,q6⟩=>by
  refine⟨q1.trans B.symm,q2.trans D.symm,k,?_,q4,by grind,λE=>?_⟩
  .grind
  grind
 have j:=m;rw[he]at j;rcases te.1 j with ⟨c,s,i⟩|⟨c,s,i⟩
 ·-- P=aG R++c,F=c++x
  rw[s,aK,h.kd.is];have hz:c=[]->ng (av H c) f sure:=λhc=>by
   rw[hc];exact l (ng.refl z)
  have d:x=[]->ng (av H c) f sure:=λA=>by
   rw[A,Xa]at m;have W:=k.is;rw[m,s,aK,h.kd.is]at W;grind [ng.refl]
  rcases hw with ⟨p,rfl⟩|⟨a5,p,q,rfl⟩
  .cases c with
   | nil=>exact hz rfl
   | cons U c=>
    injection i with _ i;exact d (ed.1 i.symm).2
  cases c with
  | nil=>exact hz rfl
  | cons U c=>
   cases c with
   | cons c1 c=>
    injection i with _ i;injection i with _ i;exact d (ed.1 i.symm).2
   | nil=>
    injection i with V _;rw[<-V];refine l ⟨rfl,rfl,0,?_,?_,ad _,λE=>absurd rfl E⟩
    .rw[List.take_zero];rfl
    grind
 have v:c.length<=b.length:=by grind
 exact l (h.pre P c s v)
theorem Lv.sync {J:Jn}{S:Dk}{R:List (Int×List Rc)}{b:List Rc}{H:Hs}{sure:Nat}(h:Lv J S R b H sure):∃a c,aQ J S=(a,c,0)/\Lv a c R [] H H.ar.length/\a.aN=J.aN/\a.next=J.next:=by
 obtain⟨a,c,e,k,d,f⟩:=h.kd.sync;grind [qv]
theorem Ge:∀{p q:List (Int×List Int)},(p++(r,j) ::q).Pairwise (λa b=>a.1<b.1)->del r (p++(r,j) ::q)=p++q/\aS r (p++(r,j) ::q)=some j
 | [],q,h=>Gf h
 | x ::p,q,h=>by
  rw[Yf,Zc]at h;have c:x.1≠r:=by
   have:=h.1 (r,j) (by simp);omega
  obtain⟨d,e⟩:=Ge h.2;grind [del,aS]
theorem ib.thin {J:Jn}{S:Dk}{R:List (Int×List Rc)}{b:List Rc}(h:ib J S R b){A2:List Int}{l:List (Int×List Int)}(w:(J.ae.flatMap (·.2)).Perm (A2++l.flatMap (·.2))):
  ib {J with ae:=l} {S with ah:=S.ah.filter λq=>!decide (q.num∈A2)} (R.filter λq=>!decide (q.1∈A2)) b:=by
 have c:=h.calm;have o:(S.ah.map (·.num)).Nodup:=by
  rw[Wf,vd];exact c.aJ.bQ.imp λ{a b} v e=>by omega
 have r:(S.ah.map (·.num)).Perm (A2++(l.flatMap (·.2)++J.aN)):=by
  rw[<-Va];exact c.perm.trans (w.append_right _)
 have f:=r.nodup_iff.1 o;rw[Xf]at f;have t:∀n∈l.flatMap (·.2)++J.aN,n∉A2:=λn k u=>f.2.2 n u n k rfl
 have p:(S.ah.filter λq=>!decide (q.num∈A2)).map (·.num)=(S.ah.map (·.num)).filter λx=>!decide (x∈A2):=by
  rw[og];rfl
 have i:((S.ah.filter λq=>!decide (q.num∈A2)).map (·.num)).Perm (l.flatMap (·.2)++J.aN):=by grind
 have d:∀q∈S.ah.filter (λq=>!decide (q.num∈A2)),q∈S.ah:=λq j=>(eb.1 j).1
 refine⟨⟨c.left,c.room,{c.aJ with bQ:=c.aJ.bQ.sublist Vd,cJ:=λs m=>c.aJ.cJ s (d s m),num:=λs m=>c.aJ.num s (d s m)},i,λn k=>?_,c.mE,λg=>?_⟩,by show (S.ah.filter λq=>!decide (q.num∈A2)).map view=tg (R.filter λq=>!decide (q.1∈A2));rw[lB (λx=>!decide (x∈A2)),ri (λx=>!decide (x∈A2)),h.ah];rfl,λq j g=>h.cJ q (d q j) g,λg=>?_,λg q j k=>h.xH g q (d q j) k,h.OC⟩
 .obtain⟨q,j,e⟩:=Wb.1 k;exact c.below n (Wb.2 ⟨q,d q j,e⟩)
 .obtain⟨s,m,A,B⟩:=c.last g;grind [jN,aC]
 obtain⟨R0,a,D,y,z⟩:=h.last g;grind [jN,aC]
theorem Kd.owns {J:Jn}{S:Dk}{R:List (Int×List Rc)}{b:List Rc}{H:Hs}(h:Kd J S R b H):(H.ae.flatMap (·.2.2)).Nodup:=by
 have c:(S.ah.map (·.num)).Nodup:=by
  rw[Wf,vd];exact h.seg.calm.aJ.bQ.imp λ{a b} d e=>by omega
 rw[h.own];exact(Xf.1 (h.seg.calm.perm.nodup_iff.1 c)).1
theorem Lv.cut {J:Jn}{S:Dk}{R:List (Int×List Rc)}{b:List Rc}{H:Hs}{sure:Nat}(h:Lv J S R b H sure)   (u:H.ae=d++f ::e)(a:H.g≠f.1\/(H.az≠[]/\b=[])){A1 A2:List Int}(hr:f.2.2=A1++A2)(m:A2≠[]):
  ∃A G C,De (R.filter λp=>!decide (p.1∈A2)) A G C/\(A1=[]->G=[])/\av hs0 (A++C)={H with ae:=d++e}/\(b=[]\/b.length<C.length)/\C≠[]/\∀i x,C=i++x->x.length<=b.length->ng (av hs0 (A++i)) {H with ae:=d++e} sure:=by
 obtain⟨A,W,z,C,E,j,K,M,P,T,U,_,_,y,l,rfl,q⟩:=zI h.kd.cl h.kd.is u h.kd.owns (a.imp id λh=>h.1) hr m;have o:b=[]\/b.length<(y ::l).length:=by
  rcases a with t|⟨_,t⟩
  .right
   refine Wc λhw=>t ?_
   rw[<-(h.pre (A++(W++[z])) (y ::l) (by rw[E];simp) (by omega)).2.1];exact U
  grind
 refine⟨A,_,y ::l,j,M,K,o,by simp,λi x a0 r=>?_⟩;obtain⟨c,rfl,hc⟩:∃c,i=y ::c/\l=c++x:=by
  cases i with
  | nil=>grind
  | cons c0 c=>grind
 obtain⟨F,V,X⟩:=Gl (A:=A) (W:=W) (z:=z) (y:=y) (c:=c) P T q;obtain⟨v,w,k,B,p4,p5,D⟩:=h.pre (A++(W++z ::y ::c)) x (by grind) r;rw[V]at v w B D;have n:F.ae=e:=by
  have s:d++[f]++F.ae=d++f ::e:=v.trans u;rw[Va,ef]at s;have h2:=Zb s;injection h2
 rw[X];exact⟨by rw[<-n],w,k,B,p4,p5,D⟩
theorem Lv.fin {J:Jn}{S:Dk}{R:List (Int×List Rc)}{b:List Rc}{H:Hs}{sure:Nat}(h:Lv J S R b H sure)   (M:H.ae=d++f ::e)(y:f.2.2≠[])(n:H.g≠f.1\/(H.az≠[]/\b=[])):
  ∃l,aS f.1 J.ae=some f.2.2/\del f.1 J.ae=l/\Lv {J with ae:=l} {S with ah:=S.ah.filter λq=>!decide (q.num∈f.2.2)} (R.filter λq=>!decide (q.1∈f.2.2)) b {H with ae:=d++e} sure:=by
 have u:=h.kd;have B:mH H:=by
  have z:=zx.all u.cl;grind [Kd.is]
 have r:J.ae=(d.map λs=>(s.1,s.2.2))++(f.1,f.2.2) ::e.map λs=>(s.1,s.2.2):=by grind [Kd.ae]
 have v:J.ae.Pairwise λa b=>a.1<b.1:=by grind [mH.up,Kd.ae]
 rw[r]at v;obtain⟨k,m⟩:=Ge v;rw[<-r]at k m;obtain⟨A,G,C,j,F,U,w,o,D⟩:=h.cut M n (A1:=[]) (A2:=f.2.2) rfl y;rw[F rfl]at j;have i:aG (R.filter λq=>!decide (q.1∈f.2.2))=A++C:=j.aG;refine⟨_,m,k,⟨⟨u.seg.thin (by grind),λp K=>u.ne p (eb.1 K).1,by grind,by rw[i];exact j.cl,u.aN,u.g,by grind⟩,λP x t T=>?_⟩⟩;rw[i]at t;rcases te.1 t with ⟨c,q1,E⟩|⟨c,q1,E⟩
 .grind
 exfalso;have z:=congrArg List.length E;have V:=Uf.2 o;rw[Ue]at z;rcases w with B|B
 .grind
 omega
theorem ib.for {J:Jn}{S:Dk}{R:List (Int×List Rc)}{b:List Rc}(h:ib J S R b)(d:∀p∈R,p.2≠[])(c:cN hs0 (aG R))  (j:∀P x,aG R=P++x->x.length<=b.length->i (av hs0 P)):For S i:=by
 by_cases g:R=[]
 .subst g;exact Wa ⟨h.calm.left,h.calm.room,Vf.1 h.ah,j [] [] rfl (ad _)⟩
 obtain⟨R0,n,a,l,m⟩:=h.SK d g (A:=[]) (G:=[]) (C:=aG R) ⟨rfl,c,λe=>absurd rfl e,λx f=>by cases f⟩ (Ua ⟨h.NP,λe=>absurd rfl e⟩);exact Ua ⟨R0,n,a,b,[],[],[],aG R,m,λk x e f=>j k x e f⟩
theorem Lv.for {J:Jn}{S:Dk}{R:List (Int×List Rc)}{b:List Rc}{H:Hs}{sure:Nat}(h:Lv J S R b H sure):For S λK=>ng K H sure:=h.kd.seg.for h.kd.ne h.kd.cl h.pre
theorem Lv.part {J:Jn}{S:Dk}{R:List (Int×List Rc)}{b:List Rc}{H:Hs}{sure:Nat}(h:Lv J S R b H sure)   (V:H.ae=d++f ::e)(i:H.g≠f.1\/(H.az≠[]/\b=[]))  (U:f.2.2=j++o):
  For {S with ah:=S.ah.filter λq=>!decide (q.num∈o)} λK=>ng K H sure\/ng K {H with ae:=d++e} sure:=by
 by_cases k:o=[]
 .have t:S.ah.filter (λq=>!decide (q.num∈o))=S.ah:=Ya.2 λx _=>by simp[k]
  rw[t];exact h.for.imp λK E=>Wa E
 obtain⟨A,G,C,c,hG,X,w,m,r⟩:=h.cut V i U k;have z:=h.kd;have D:J.ae=(d.map λs=>(s.1,s.2.2))++(f.1,f.2.2) ::e.map λs=>(s.1,s.2.2):=by grind [Kd.ae]
 have y:=z.seg.thin (A2:=o) (l:=(d.map λs=>(s.1,s.2.2))++(f.1,j) ::e.map λs=>(s.1,s.2.2)) (by grind);have v:(R.filter λp=>!decide (p.1∈o))≠[]:=λu=>by
  have t:=c.aG;rw[u]at t;exact m (ed.1 (ed.1 t.symm).2).2
 obtain⟨R0,n,a,F,P⟩:=y.SK (λp T=>z.ne p (eb.1 T).1) v c (w.imp id λM=>⟨by omega,λ_=>M⟩);exact Ua ⟨R0,n,a,b,[],A,G,C,P,λB x u W=>Ua (r B x u W)⟩
def kY (K H:Hs)(l:List Int):Prop:=K.ae=H.ae++[(H.onum,H.ar,l)]/\K.ar=[]/\K.g=H.onum
theorem Lv.sw {J:Jn}{S:Dk}{R:List (Int×List Rc)}{b:List Rc}{H:Hs}{sure:Nat}(h:Lv J S R b H sure)(i:J.aN≠[])(j:H.ar≠[])(r:0<=H.onum/\H.onum<=1000000000)(g:∀p∈J.ae,p.1<H.onum):
  ∃a d f c,bE J S H.onum=(a,d,0)/\Lv a d f [] c 0/\kY c H J.aN/\a.aN=[]/\a.al=H.onum:=by
 obtain⟨a,d,f,c,e,k,l,m,_,n,_,o,q⟩:=h.kd.sw i j r g;exact⟨a,d,f,c,e,qv k (ad _),⟨l,m,n⟩,o,q⟩
theorem yz {α:Type}{l P x:List α}{z:α}(h:l++[z]=P++x):(x=[]/\P=l++[z])\/∃a,x=a++[z]/\l=P++a:=by
 rcases Xb x with e|⟨a,q,e⟩
 .grind
 grind [List.append_inj']
theorem Lv.half {J:Jn}{S:Dk}{R:List (Int×List Rc)}{b:List Rc}{H:Hs}{sure:Nat}(h:Lv J S R b H sure)(c:J.aN≠[])(k:H.ar≠[])(o:0<=H.onum/\H.onum<=1000000000):
  For (cM J S (bytesOf (bC [115] H.onum []))).2.1 λK=>ng K H sure\/kY K H J.aN:=by
 have a:=h.kd;obtain⟨v,R0,q,s,f,g⟩:=a.seg.add c ⟨115,H.onum,⟨#[]⟩⟩;have m:(⟨115,H.onum,⟨#[]⟩⟩:Rc).tx=bC [115] H.onum []:=rfl;rw[m]at f g;rw[f];have j:=nC R0 (aC J) q ⟨115,H.onum,⟨#[]⟩⟩;rw[<-s]at j;have t:hent (aC J) H.az=J.aN:=by grind [iE,Kd.aN,rG]
 have i:Cl H ((aC J,(stx q).length+(⟨115,H.onum,⟨#[]⟩⟩:Rc).tx.length),⟨115,H.onum,⟨#[]⟩⟩):=⟨Nd k,⟨Ua (Wa rfl),o.1,o.2,by show (0:Nat)<=1000000;omega⟩,λe=>absurd e (show ¬(115:UInt8)=98 by decide),a.rI c,λe=>absurd (a.aN.symm.trans e) c,λe=>absurd e (show ¬(115:UInt8)=98 by decide)⟩;refine g.for (λp l=>?_) (by rw[j,bG,a.is];exact⟨a.cl,i,trivial⟩) λP x d n=>?_
 .rcases Za.1 l with l|l
  .exact a.ne p (by grind)
  simp_all
 rw[j]at d;rcases yz d with ⟨_,rfl⟩|⟨u,rfl,r⟩
 .right
  rw[aK,a.is];show kY (hnext H _) H J.aN;unfold hnext htk;rw[if_neg (show ¬(115:UInt8)=98 by decide),if_pos rfl];refine⟨?_,rfl,rfl⟩;grind
 left
 rw[Ue,Ue,Vg,Vg]at n;exact h.pre P u r (by omega)
theorem Kd.shut {J:Jn}{S:Dk}{R:List (Int×List Rc)}{b:List Rc}{H:Hs}(h:Kd J S R b H)(d:J.aN=[]):H.ar=[]:=Wc λa=>by
 have c:=opened (h:=hs0) (l:=aG R) (λe=>absurd rfl e);grind [is,aN]
theorem Lv.keep {J:Jn}{S:Dk}{R:List (Int×List Rc)}{b:List Rc}{H:Hs}{sure:Nat}(h:Lv J S R b H sure)(s:J.next<=9223372036854775807)(r:0<=J.al/\J.al<=1000000000):
  ∃c d j a,bR J S=(c,d,0)/\Lv c d j [] a H.ar.length/\a.ae=H.ae/\a.ar=H.ar/\(H.ar≠[]->a.onum=H.onum)/\a.g=H.g/\a.az≠[]/\c.ae=J.ae:=by
 by_cases i:J.aN=[]
 .have q:=h.kd.seg.OC i;subst q;have f:=h.kd.shut i;obtain⟨c,d,j,a,e,k,l,m,n,o,p⟩:=h.kd.keep i s r;exact⟨c,d,j,a,e,qv k (by grind),l,by rw[m,f],λe=>absurd f e,n,o,p⟩
 obtain⟨c,d,e,k,l,m⟩:=h.sync;exact⟨c,d,R,H,by grind [bR],k,rfl,rfl,λ_=>rfl,rfl,by rw[h.kd.aN];exact i,by rw[<-h.kd.ae,<-k.kd.ae]⟩
theorem Lv.base {J:Jn}{S:Dk}{R:List (Int×List Rc)}{b:List Rc}{H:Hs}{sure:Nat}(h:Lv J S R b H sure)(l:J.aN=[])(v:J.next<=9223372036854775807)(m:0<=J.al/\J.al<=1000000000):
  For (bf J S (bytesOf (aZ J))).2.1 λK=>ng K H sure:=by
 have a:=h.kd;have s:=a.seg.OC l;subst s;have t:=a.shut l;have u:=h.sure;obtain⟨z,n,c⟩:=a.seg.begin v (hrs J);rw[zY]at n c;rw[n];have q:hrs J=[⟨98,J.al,⟨#[]⟩⟩]:=by grind [hrs]
 have k:=dh R J.next (hrs J);have f:J.next∉H.ae.flatMap (·.2.2):=λo=>by
  rw[a.own]at o;have:=a.seg.calm.below J.next (a.seg.calm.perm.mem_iff.2 (ca _ o));omega
 have j:Cl H ((J.next,0+(⟨98,J.al,⟨#[]⟩⟩:Rc).tx.length),⟨98,J.al,⟨#[]⟩⟩):=by
  refine⟨?_,⟨Ua (Ua rfl),m.1,m.2,by show (0:Nat)<=1000000;omega⟩,λ_=>by rw[a.aN,l],f,λ_ _=>⟨rfl,Int.le_of_eq a.g⟩,λ_=>rfl⟩;grind [Kd.g,hfit,dI]
 rw[q]at k;rw[q]at c;refine c.for (λp i=>?_) (by rw[k,bG,a.is];exact⟨a.cl,j,trivial⟩) λP x d w=>?_
 .rcases Za.1 i with i|i
  .exact a.ne p i
  grind
 rw[k]at d;rcases yz d with ⟨_,rfl⟩|⟨y,rfl,r⟩
 .rw[aK,a.is];exact⟨rfl,a.g.symm,0,rfl,by grind,ad _,λe=>absurd rfl e⟩
 refine h.pre P y r ?_;grind
variable {J : Jn} {S : Dk} {R : List (Int × List Rc)} {b : List Rc} {H : Hs} {sure : Nat}
theorem ng.less {K:Hs}{m:Nat}(h:ng K H sure)(g:m<=sure):ng K H m:=by
 obtain⟨a,b,k,c,f,d,e⟩:=h;exact⟨a,b,k,c,by omega,d,e⟩
theorem Lv.less {m:Nat}(h:Lv J S R b H sure)(a:m<=sure):Lv J S R b H m:=⟨h.kd,λP x e c=>(h.pre P x e c).less a⟩
theorem Lv.PX (h:Lv J (bm S) R b H sure)   (r:H.ae=d++f ::e)(p:f.2.2≠[])(i:H.g≠f.1\/(H.az≠[]/\b=[])):
  ((fY J S f.1).2.2=0/\∃t,Lv (fY J S f.1).1 (bm (fY J S f.1).2.1) t b {H with ae:=d++e} sure)\/
  ((fY J S f.1).2.2=8/\For (bm (fY J S f.1).2.1) λK=>ng K H sure\/ng K {H with ae:=d++e} sure):=by
 obtain⟨l,j,s,x⟩:=h.fin r p i;have k:∀n∈f.2.2.reverse,n∈S.ah.map (·.num):=λn E=>h.kd.seg.calm.perm.mem_iff.2 (ca _ (by
  rw[<-h.kd.own,r,Uc,List.flatMap_cons];grind))
 have o:f.2.2.reverse.Nodup:=by
  have B:=h.kd.owns;grind
 obtain⟨a,c,A,u,v⟩:=ny (S:=S) h.kd.seg.calm.aJ k o;unfold fY;rw[j];simp only[Option.getD_some];have y:f.2.2=c.reverse++a.reverse:=by grind
 have w:bm (bh S f.2.2.reverse).1={bm S with ah:=(bm S).ah.filter λq=>!decide (q.num∈a.reverse)}:=by
  have m:S.ah.filter (λq=>!decide (q.num∈a))=S.ah.filter (λq=>!decide (q.num∈a.reverse)):=List.filter_congr λq _=>by simp
  rw[u,m];rfl
 rcases v with ⟨z,D⟩|⟨z,_⟩
 .grind
 rw[if_pos (by rw[z];decide)]
 right
 refine⟨z,?_⟩;rw[w];exact h.part r i y
theorem Lv.keeps (h:Lv J (bm S) R b H sure)(i:J.next<=9223372036854775807)(j:0<=J.al/\J.al<=1000000000):
  ((bR J S).2.2=0/\∃l a,Lv (bR J S).1 (bm (bR J S).2.1) l [] a H.ar.length/\a.ae=H.ae/\a.ar=H.ar/\(H.ar≠[]->a.onum=H.onum)/\a.g=H.g/\a.az≠[])\/
  (Er (bR J S).2.2/\(bR J S).1=J/\bm (bR J S).2.1=bm S)\/
  ((bR J S).2.2=8/\For (bm (bR J S).2.1) λK=>ng K H sure):=by
 obtain⟨o,q,p,n,e,k,r,s,t,u,v,_⟩:=h.keep i j;rcases rH h.kd.seg.calm i with ⟨c,f,d⟩|⟨c,f,d⟩|⟨c,m,f,d⟩
 .grind
 .exact Ua (Wa ⟨c,f,d⟩)
 exact Ua (Ua ⟨c,by rw[d];exact h.base m i j⟩)
theorem Lv.KR (h:Lv J (bm S) R b H sure)(V:J.next<=9223372036854775807)(U:0<=J.al/\J.al<=1000000000)   (G:H.ae=d++f ::e)(o:f.2.2≠[]):
  ((aO J S f.1).2.2=0/\∃m T l,Lv (aO J S f.1).1 (bm (aO J S f.1).2.1) m T l sure/\l.ae=d++e/\l.ar=H.ar/\(H.ar≠[]->l.onum=H.onum)/\l.g=H.g)\/
  (Er (aO J S f.1).2.2/\(aO J S f.1).1=J/\bm (aO J S f.1).2.1=bm S)\/
  ((aO J S f.1).2.2=8/\For (bm (aO J S f.1).2.1) λK=>ng K H sure\/ng K {H with ae:=d++e} sure):=by
 have x:=h.sure;unfold aO;by_cases y:f.1=J.al
 .rw[if_pos y];rcases h.keeps V U with ⟨c,R1,E,r,F,n,t,u,P⟩|⟨c,r⟩|⟨c,r⟩
  .rw[if_neg (by rw[c];simp)];rcases r.PX (F.trans G) o (Ua ⟨P,rfl⟩) with ⟨i,m,j⟩|⟨i,j⟩
   .exact Wa ⟨i,m,[],_,j.less x,rfl,n,t,u⟩
   refine Ua (Ua ⟨i,j.imp λK v=>v.imp (λp=>?_) λp=>?_⟩)
   .obtain⟨A,B,k,s,W,M,D⟩:=p;exact⟨A.trans F,B.trans u,k,by rw[s,n],by omega,by grind,λa=>(D a).trans (t λz=>a (by rw[s,n,z,List.take_nil]))⟩
   obtain⟨A,B,k,s,W,M,D⟩:=p;have q:K.ar=E.ar.take k:=s;have X:k<=E.ar.length:=M;exact⟨A,B.trans u,k,by rw[q,n],by omega,by grind,λa=>(D a).trans (t λz=>a (by rw[q,n,z,List.take_nil]))⟩
  .have hz:(bR J S).2.2≠0:=by rcases c with a|a<;>rw[a]<;>decide
   grind
  rw[if_pos (by rw[c];decide)];exact Ua (Ua ⟨c,r.imp λK v=>Wa v⟩)
 rw[if_neg y];have w:H.g≠f.1:=λa=>y (by rw[<-a];exact h.kd.g)
 rcases h.PX G o (Wa w) with ⟨i,m,j⟩|⟨i,j⟩
 .exact Wa ⟨i,m,b,_,j,rfl,rfl,λ_=>rfl,rfl⟩
 grind
variable {S : Dk} {R R0 : List (Int × List Rc)} {n m : Int} {a b : List Rc} {y : Bs} {A G C : List Et}
def eD (us:List Int)(es ez:Int):List (Int×ByteArray)->Dk->Dk×Int
 | [],S=>(S,0)
 | x ::l,S=>if (du S x us es ez).2≠0 then du S x us es ez else eD us es ez l (du S x us es ez).1
theorem De.drop (h:De R A G C)(i:∀x∈A++C,x.1.1≠m):De (R.filter λp=>!decide (p.1=m)) A (G.filter λx=>!decide (x.1.1=m)) C:=by
 have c:∀{l:List Et},(∀x∈l,x∈A++C)->l.filter (λx=>!decide (x.1.1=m))=l:=λ{l} g=>Ya.2 λx a=>by simpa using i x (g x a)
 refine⟨by rw[gQ (λx=>!decide (x=m)),h.aG,qb,qb,c λx a=>ca _ a,c λx a=>Ub _ a],h.cl,λf=>?_,λx a=>h.RE x (eb.1 a).1⟩;obtain⟨b,y,d,e,j,k,n⟩:=h.qe λe=>f (by rw[e];rfl)
 exact⟨b,y,d,e,j,k,n.sub _⟩
theorem lW.cI (h:lW S R0 n a b y A G C):S.ah.map (·.num)=R0.map (·.1)++[n]:=by
 have c:=congrArg (List.map Prod.fst) h.view;rw[zd,Zd]at c;unfold tg at c;rwa [zd]at c
theorem lW.bQ (h:lW S R0 n a b y A G C):(R0.map (·.1)++[n]).Pairwise (·<·):=by
 rw[<-h.cI,vd];exact h.aJ.bQ
theorem lW.drop (h:lW S R0 n a b y A G C)(j:m≠n)(o:∀x∈A++C,x.1.1≠m):
  lW {S with ah:=S.ah.filter λq=>!decide (q.num=m)} (R0.filter λp=>!decide (p.1=m)) n a b y A (G.filter λx=>!decide (x.1.1=m)) C:=by
 have c:∀q∈S.ah.filter (λq=>!decide (q.num=m)),q∈S.ah:=λq l=>(eb.1 l).1
 have i:∀(v:List Rc),(R0++[(n,v)]).filter (λp=>!decide (p.1=m))=R0.filter (λp=>!decide (p.1=m))++[(n,v)]:=λv=>by grind
 obtain⟨f,q1,r⟩:=h.tail;exact⟨h.left,h.room,{h.aJ with bQ:=h.aJ.bQ.sublist Vd,cJ:=λs d=>h.aJ.cJ s (c s d),num:=λs d=>h.aJ.num s (c s d)},by show (S.ah.filter λq=>!decide (q.num=m)).map Jr.view=_;rw[lB (λx=>!decide (x=m)),h.view,qb,ri (λx=>!decide (x=m)),Ve (by simpa using λe:n=m=>j e.symm)];rfl,λs d=>h.cJ s (c s d),λs d=>h.xH s (c s d),h.dT,λp k=>h.ne p (eb.1 k).1,by rw[<-i];exact h.qe.drop o,f,q1,λe=>r λg=>e (by rw[g];rfl)⟩
theorem BM (a:Dm.Good (bm S))(b:m∈S.ah.map (·.num)):((aF S m).2=0/\bm (aF S m).1={bm S with ah:=(bm S).ah.filter λq=>!decide (q.num=m)})\/((aF S m).2=8/\bm (aF S m).1=bm S):=by grind [lY,erase_filter,Good.bQ,qZ,bm]
theorem lW.Jt {us:List Int}{es ez:Int}(g:us=bF (av hs0 (A++C))):∀(d V:List (Int×List Rc)) (l:List (Int×ByteArray)) (S:Dk) (G:List Et),lW (bm S) (V++d) n a b y A G C->l.map (·.1)=d.map (·.1)->(∀x∈l,¬(x.1=es/\ez<(x.2.size:Int)))->
  ((eD us es ez l S).2=0/\∃i,lW (bm (eD us es ez l S).1) (V++d.filter λp=>decide (p.1∈us)) n a b y A i C)\/((eD us es ez l S).2=8/\∃z i,lW (bm (eD us es ez l S).1) z n a b y A i C)
 | [],V,l,S,G,h,hl,_=>by
  have s:l=[]:=by simpa using hl
  subst s;exact Wa ⟨rfl,G,h⟩
 | p ::d,V,[],S,G,h,hl,_=>by cases hl
 | p ::d,V,x ::l,S,G,h,hl,ht=>by
  rw[Xg,Xg]at hl;injection hl with B t;have F:∀q∈A++C,q.1.1∈us:=λq c=>by rw[g];exact(oK h.qe.cl).1 q c
  by_cases D:x.1∈us
  .have u:du S x us es ez=(S,0):=by grind [du]
   have j:eD us es ez (x ::l) S=eD us es ez l S:=by
    show (if (du S x us es ez).2≠0 then _ else _)=_;grind
   rw[j,Ve (by grind)];have:=lW.Jt g d (V++[p]) l S G (by grind) t λq c=>ht q (Xc _ c)
   grind
  have u:du S x us es ez=aF S x.1:=by grind [du]
  have f:=h.bQ;rw[Zd,Xg,Va,Yb,Yf,Zc]at f;have r:x.1∈S.ah.map (·.num):=by
   have E:=h.cI;grind [bm]
  rw[Yc (by grind)];have j:eD us es ez (x ::l) S=if (aF S x.1).2≠0 then aF S x.1 else eD us es ez l (aF S x.1).1:=by
   show (if (du S x us es ez).2≠0 then _ else _)=_;rw[u]
  rw[j];rcases BM h.aJ r with ⟨v,w⟩|⟨v,w⟩
  .rw[if_neg (by rw[v];simp)];have k:=h.drop (m:=x.1) (by
    have:=f.2.1.1 n (by simp);omega) λq c e=>D (by grind)
   rw[<-w]at k;have o:(V++p ::d).filter (λq=>!decide (q.1=x.1))=V++d:=by
    rw[qb,Yc (by simp[B]),Ya.2 λq c=>?_,Ya.2 λq c=>?_]
    .have:=f.2.1.1 q.1 (ca _ (Ud c));grind
    have:=f.2.2 q.1 (Ud c) p.1 (Vb ..);grind
   rw[o]at k;exact lW.Jt g d V l _ _ k t λq c=>ht q (Xc _ c)
  grind
variable {S : Dk} {R R0 : List (Int × List Rc)} {n m : Int} {a b : List Rc} {y : Bs} {A G C : List Et}
theorem lW.Cb (h:lW S R0 n a b y A G C):(∀p∈kept R0 n (a++b),p.2≠[])/\(kept R0 n (a++b)).Pairwise λp q=>p.1<q.1:=by
 have d:=h.bQ;rw[Yb,vd]at d;unfold kept;split
 .exact⟨h.ne,d.1⟩
 rename_i e;refine⟨λp c=>?_,?_⟩
 .rcases Za.1 c with c|c
  .exact h.ne p c
  grind
 grind
theorem lW.used (h:lW S R0 n a b y A G C):bF (av hs0 (A++C))=(clean (kept R0 n (a++b)) G).map (·.1):=by
 have d:aG (clean (kept R0 n (a++b)) G)=A++C:=by
  rw[<-h.qe.clean];unfold clean;rw[gQ (λx=>!decide (x∈G.map (·.1.1))),gQ (λx=>!decide (x∈G.map (·.1.1))),tV]
 have c:=nL (clean (kept R0 n (a++b)) G) hs0 (λp e=>h.Cb.1 p (eb.1 e).1) (by rw[d];exact h.qe.cl) (h.Cb.2.sublist Vd) (λ_ _ z hz=>by simp[bF,hs0]at hz);rw[d]at c;rw[c];rfl
theorem Hf:∀{R:List (Int×List Rc)},s∈aG R->∃p∈R,s∈br p.1 0 p.2:=λ{R} a=>by
 induction R with
 | nil=>cases a
 | cons p R b=>grind [aG]
theorem lW.Ti (h:lW S R0 n a b y A G C)(t:∀p∈R0,p.1∈bF (av hs0 (A++C))):G=[]:=Wc λl=>by
 obtain⟨x,w,rfl⟩:=List.exists_cons_of_ne_nil l;obtain⟨_,z,v,D,_⟩:=h.qe.qe l;have u:x∈aG (R0++[(n,a++b)]):=by rw[h.qe.aG];simp
 obtain⟨p,d,f⟩:=Hf u;have s:=eF f;rcases Za.1 d with d|d
 .have k:=t p d;rw[h.used]at k;obtain⟨q,g,e⟩:=Wb.1 k;have B:=(eb.1 g).2;grind
 rw[List.mem_singleton.1 d]at f s;have i:=h.qe.aG;rw[dh]at i;obtain⟨c,q,g⟩:∃c q,C=c++[q]:=(Xb C).elim (λe=>by grind) λ⟨c,q,e⟩=>⟨c,q,by rw[e,Vc]⟩
 obtain⟨j,r,o⟩:∃j r,br n 0 (a++b)=j++[r]:=(Xb (br n 0 (a++b))).elim (λe=>by grind) λ⟨c,q,e⟩=>⟨c,q,by rw[e,Vc]⟩
 have m:r=q:=by
  rw[o,g,<-Va,<-Va,<-Va]at i;have:=(List.append_inj' i rfl).2;injection this
 refine h.qe.RE x (Vb ..) q (by rw[g];simp) ?_;grind [eF]
theorem Fc (S:Dk){n:Int}{k:Nat}{d:List bM}{s:bM}(e:S.ah=d++[s])(h:S.ah.Pairwise λa b=>a.num<b.num)(f:k<=s.text.size)(g:s.num=n):
  ((cx S n (k:Int)).2=0/\bm (cx S n (k:Int)).1={bm S with ah:=d++[{s with text:=s.text.extract 0 k,cJ:=min s.cJ k}]})\/((cx S n (k:Int)).2=8/\bm (cx S n (k:Int)).1=bm S):=by
 subst g;by_cases i:S.left=0
 .grind [cx]
 left
 have c:=Bk (S:=bm S) rfl e h f;unfold cx at c ⊢;rw[if_neg (show ¬(bm S).left=0 from(by decide:¬(-1:Int)=0))]at c;grind [bm]
variable {S : Dk} {R R0 K : List (Int × List Rc)} {n m : Int} {a b : List Rc} {y : Bs} {A G C : List Et}
def PO (S:Dk)(K:List (Int×List Rc))(k:Nat)(A C:List Et):Prop:=
 (S.left = -1/\S.room = -1/\K=[]/\S.ah=[]/\A++C=[])\/∃R0 n a b,K=R0++[(n,a++b)]/\a++b≠[]/\lW S R0 n a b [] A [] C/\b.length<=k
theorem lW.NG (h:lW S R0 n a b y A [] C):bF (av hs0 (A++C))=(kept R0 n (a++b)).map (·.1):=by
 rw[h.used];grind [clean,Ya]
theorem lW.Gp (h:lW S R0 n a b y A [] C):aG (R0++[(n,a++b)])=A++C:=h.qe.aG
theorem lW.lt (h:lW S R0 n a b y A G C):∀p∈R0,p.1<n:=λp c=>(Yb.1 h.bQ).2.2 p.1 (Ud c) n (List.mem_singleton.2 rfl)
theorem lW.final (h:lW (bm S) R0 n a b y A [] C){t:ByteArray}(ht:B t=stx (a++b)++y):
  ((du S (n,t) (bF (av hs0 (A++C))) (av hs0 (A++C)).es (av hs0 (A++C)).ez).2=0/\PO (bm (du S (n,t) (bF (av hs0 (A++C))) (av hs0 (A++C)).es (av hs0 (A++C)).ez).1) (kept R0 n (a++b)) b.length A C)\/
  ((du S (n,t) (bF (av hs0 (A++C))) (av hs0 (A++C)).es (av hs0 (A++C)).ez).2=8/\bm (du S (n,t) (bF (av hs0 (A++C))) (av hs0 (A++C)).es (av hs0 (A++C)).ez).1=bm S):=by
 have u:n∈S.ah.map (·.num):=by
  have l:=h.cI;grind [bm]
 have V:t.size=(stx (a++b)).length+y.length:=by grind [aj]
 rw[h.NG];unfold du kept;by_cases g:a++b=[]
 .rw[if_pos g];rw[if_pos (show n∉R0.map (·.1) from λR=>by
   obtain⟨p,v,e⟩:=Wb.1 R;have:=h.lt p v;omega)]
  rcases BM h.aJ u with ⟨D,E⟩|k
  .refine Wa ⟨D,?_⟩;rw[E];have K:((bm S).ah.filter λq=>!decide (q.num=n)).map Jr.view=tg R0:=by
    rw[lB (λx=>!decide (x=n)),h.view,qb,Yc (by simp),List.filter_nil,Xa];refine Ya.2 λq c=>?_
    obtain⟨p,v,rfl⟩:=Wb.1 c;have:=h.lt p v;grind
   have m:=h.Gp;rw[g,dh]at m;have m:aG R0=A++C:=by rw[<-m];exact(Xa _).symm
   rcases Xb R0 with e|⟨M,p,e⟩
   .rw[e]at K m;exact Wa ⟨rfl,rfl,e,Vf.1 K,m.symm⟩
   rw[Vc]at e;have f:∀q∈(bm S).ah.filter (λq=>!decide (q.num=n)),q∈(bm S).ah/\q.num≠n:=λq c=>⟨(eb.1 c).1,by simpa using (eb.1 c).2⟩
   have i:∀q∈(bm S).ah.filter (λq=>!decide (q.num=n)),q.cJ=q.text.size:=λq c=>h.cJ q (f q c).1 (f q c).2
   refine Ua ⟨M,p.1,p.2,[],by grind,by rw[Xa];exact h.ne p (by rw[e];simp),⟨rfl,rfl,{h.aJ with bQ:=h.aJ.bQ.sublist Vd,cJ:=λs j=>h.aJ.cJ s (f s j).1,num:=λs j=>h.aJ.num s (f s j).1},?_,λs j _=>i s j,λs j _=>Wa ⟨rfl,i s j⟩,Wa rfl,λq c=>h.ne q (by grind),⟨?_,h.qe.cl,λe=>absurd rfl e,λx W=>by cases W⟩,C,by simp[br],λe=>absurd rfl e⟩,ad _⟩
   .grind [tg]
   grind
  grind
 rw[if_neg g];obtain⟨G,hz⟩:=ma R0 n (a++b) g;rw[h.Gp]at G hz;rw[G,hz,if_neg (λe=>e (by simp))];by_cases z:y=[]
 .rw[if_neg (λe=>by grind)];subst z;exact Wa ⟨rfl,Ua ⟨R0,n,a,b,rfl,g,h,Nat.le_refl _⟩⟩
 have X:=Uf.2 z;rw[if_pos (show n=n/\((stx (a++b)).length:Int)<(t.size:Int) from⟨rfl,by omega⟩)];obtain⟨l0,l1,r,v0,v1⟩:=Ye.1 h.view;obtain⟨s,rfl,j⟩:=Xd.1 v1;unfold Jr.view at j;injection j with F e2;have o:s∈(bm S).ah:=by rw[r];simp
 have J:s.text.size=(stx (a++b)).length+y.length:=by grind [aj]
 obtain⟨P,w⟩:b=[]/\s.cJ=s.text.size:=(h.xH s o F).elim id λe=>absurd e.1 z
 rcases Fc S (k:=(stx (a++b)).length) r h.aJ.bQ (by omega) F with ⟨D,E⟩|k
 .refine Wa ⟨D,Ua ⟨R0,n,a,b,rfl,g,?_,Nat.le_refl _⟩⟩;rw[E];have U:min s.cJ (stx (a++b)).length=(s.text.extract 0 (stx (a++b)).length).size:=by
   rw[ByteArray.size_extract,w];omega
  have T:=h.aJ.bQ;rw[r,Yb]at T;have d:∀q∈l0++[({s with text:=s.text.extract 0 (stx (a++b)).length,cJ:=min s.cJ (stx (a++b)).length}:bM)],(q∈(bm S).ah/\q.num≠n)\/q={s with text:=s.text.extract 0 (stx (a++b)).length,cJ:=min s.cJ (stx (a++b)).length}:=λq c=>by grind
  refine⟨rfl,rfl,{h.aJ with bQ:=?_,cJ:=λq c=>?_,num:=λq c=>?_},?_,λq c H=>?_,λq c H=>Wa ⟨P,?_⟩,Wa rfl,h.ne,h.qe,h.tail⟩
  .grind
  .rcases d q c with ⟨l,_⟩|rfl
   .exact h.aJ.cJ q l
   grind
  .rcases d q c with ⟨l,_⟩|rfl
   .exact h.aJ.num q l
   exact h.aJ.num s o
  .grind [bu,Jr.view]
  .rcases d q c with ⟨l,h2⟩|rfl
   .exact h.cJ q l H
   omega
  grind
 grind
variable {S : Dk} {R R0 K : List (Int × List Rc)} {n m : Int} {a b : List Rc} {y : Bs} {A G C : List Et}
def dG (a:List Int)(b c:Int)(l:List (Int×ByteArray))(S:Dk):Dk×Int:=
 if (eD a b c l S).2≠0\/a=[] then eD a b c l S else bz (eD a b c l S).1 (a.getLast?.getD 0)
theorem uA {a:Int}{x:Int×ByteArray}:∀(l:List (Int×ByteArray)) (S:Dk),eD j r a (l++[x]) S=if (eD j r a l S).2≠0 then eD j r a l S else du (eD j r a l S).1 x j r a
 | [],S=>by
  show (if (du S x j r a).2≠0 then du S x j r a else ((du S x j r a).1,0))=if (0:Int)≠0 then _ else du S x j r a
  grind
 | q ::l,S=>by
  have b:∀c,eD j r a (q ::c) S=if (du S q j r a).2≠0 then du S q j r a else eD j r a c (du S q j r a).1:=λ_=>rfl
  rw[Yf,b,b];by_cases hz:(du S q j r a).2≠0
  .rw[if_pos hz,if_pos hz,if_pos hz]
  rw[if_neg hz,if_neg hz];exact uA l _
theorem PO.sync {k:Nat}(h:PO (bm S) K k A C)(l:K≠[]):
  ((bz S ((K.map (·.1)).getLast?.getD 0)).2=0/\qN (bm (bz S ((K.map (·.1)).getLast?.getD 0)).1) K)\/((bz S ((K.map (·.1)).getLast?.getD 0)).2=8/\bm (bz S ((K.map (·.1)).getLast?.getD 0)).1=bm S):=by
 rcases h with ⟨_,_,e,_⟩|⟨R0,n,a,b,rfl,_,h,_⟩
 .exact absurd e l
 have m:((R0++[(n,a++b)]).map (·.1)).getLast?.getD 0=n:=by simp
 rw[m];have c:n∈(bm S).ah.map (·.num):=by rw[h.cI];simp
 rcases yM S c with ⟨r,j⟩|k
 .refine Wa ⟨r,?_⟩;obtain⟨s,p,f⟩:=Wb.1 c;have g:=ko h.left h.aJ p;have i:=(jK (dC h.aJ) n).aJ;rw[f]at g;rw[g]at j i;rw[j];refine⟨rfl,rfl,i,λq o=>?_,by show (bT n (λs=>{s with cJ:=s.text.size}) (bm S).ah).map Jr.view=_;rw[uK,h.view,Xa];grind [tg]⟩;obtain⟨t,d,rfl⟩:=Wb.1 o;simp only;split
  .rfl
  rename_i e;exact h.cJ t d e
 grind
theorem PO.for {k:Nat}  (h:PO S K k A C)(d:∀c x,C=c++x->x.length<=k->i (av hs0 (A++c))):For S i:=by
 rcases h with ⟨f,g,_,j,l⟩|⟨R0,n,a,b,_,_,h,m⟩
 .have:=d C [] (Xa _).symm (ad _);rw[l]at this;exact Wa ⟨f,g,j,this⟩
 exact Ua ⟨R0,n,a,b,[],A,[],C,h,λc x e o=>d c x e (Nat.le_trans o m)⟩
def Has (S:Dk)(R:List (Int×List Rc)):Prop:=(S.ah=[]/\R=[])\/∃R0 n a y,R=R0++[(n,a)]/\S.ah.map view=tg R0++[(n,stx a++y)]/\(y=[]\/(y≠[]/\(nX y).2=false))
structure wk (S:Dk)(K:List (Int×List Rc))(H:Hs):Prop where
 tid:qN S K
 ne:∀p∈K,p.2≠[]
 up:K.Pairwise λp q=>p.1<q.1
 cl:cN hs0 (aG K)
 is:av hs0 (aG K)=H
theorem tO (a:S.left = -1)(b:S.room = -1)(d:S.ah=[]):qN S []:=
 ⟨a,b,⟨by simp_all,λs c=>(by grind),λs c=>(by grind),by rw[a];decide,by rw[b];decide⟩,λs c=>(by grind),by rw[d];rfl⟩
theorem For.tidy (h:For (bm S) i):
  ∃R H,Has S R/\av hs0 (aG R)=H/\i H/\fK hs0 (aG R)/\(∀x∈aG R,x.2.Ok)/\mH H/\(bF H).Pairwise (·<·)/\(∀x∈bF H,x∈S.ah.map (·.num))/\
   (((dG (bF H) H.es H.ez (gZ S) S).2=0/\∃K,wk (bm (dG (bF H) H.es H.ez (gZ S) S).1) K H)\/((dG (bF H) H.es H.ez (gZ S) S).2=8/\For (bm (dG (bF H) H.es H.ez (gZ S) S).1) i)):=by
 rcases h with ⟨F,h2,h3,h4⟩|⟨R0,n,a,b,y,A,G,C,h,J⟩
 .have U:S.ah=[]:=h3;refine⟨[],hs0,Wa ⟨U,rfl⟩,rfl,h4,trivial,λx f=>(by cases f),zx,Yg,λx f=>(by cases f),Wa ?_⟩;have hg:gZ S=[]:=by grind [gZ]
  rw[hg];exact⟨rfl,[],tO F h2 h3,λp o=>(by cases o),Yg,trivial,rfl⟩
 obtain⟨t1,t2,t3⟩:=h.qe.Nz;obtain⟨m,l1,hS,v0,v1⟩:=Ye.1 h.view;obtain⟨s,rfl,hs⟩:=Xd.1 v1;unfold Jr.view at hs;injection hs with e1 e2;have a4:S.ah=m++[s]:=hS;have a2:gZ S=(m.map λs=>(s.num,s.text))++[(n,s.text)]:=by grind [gZ]
 have V:i (av hs0 (A++C)):=J C [] (Xa _).symm (ad _);refine⟨R0++[(n,a++b)],av hs0 (A++C),Ua ⟨R0,n,a++b,y,rfl,h.view,h.dT⟩,t1,V,t2,t3,zx.all h.qe.cl,?_,?_,?_⟩
 .rw[h.used,vd];exact h.Cb.2.filter _
 .intro x f;rw[h.used]at f;obtain⟨p,o,e⟩:=Wb.1 f;have hk:=(eb.1 o).1;have hn:=h.cI;grind [kept]
 have X:m.map (·.num)=R0.map (·.1):=by
  have F:=congrArg (List.map Prod.fst) v0;unfold tg at F;rwa [zd,zd]at F
 have a1:R0.Pairwise λp q=>p.1<q.1:=by
  have:=(Yb.1 h.bQ).1;grind
 obtain⟨H,v⟩:∃H,av hs0 (A++C)=H:=⟨_,rfl⟩;have a0:∀x∈m.map (λs=>(s.num,s.text)),¬(x.1=H.es/\H.ez<(x.2.size:Int)):=λx f=>by
  obtain⟨q,hq,rfl⟩:=Wb.1 f;by_cases w:a++b=[]
  .have M:aG (R0++[(n,a++b)])=aG R0:=by rw[w,dh];exact Xa _
   rw[<-v,<-t1,M];exact LB h.ne a1 v0 q hq
  obtain⟨M,_⟩:=ma R0 n (a++b) w;rw[t1,v]at M;rw[M];intro⟨e,_⟩;have h5:q.num∈R0.map (·.1):=by grind
  obtain⟨p,o,a5⟩:=Wb.1 h5;have:=h.lt p o;omega
 have a3:=lW.Jt (us:=bF H) (es:=H.es) (ez:=H.ez) (by rw[v]) R0 [] (m.map λs=>(s.num,s.text)) S G h (by rw[zd];exact X) a0;rw[v,a2];unfold dG;rw[uA];rcases a3 with ⟨T,G',j⟩|⟨T,R',G',j⟩
 .have hG:=j.Ti λp o=>by grind
  subst hG;have W:=j.final (t:=s.text) (by rw[e2]);have d:=j.NG;rw[v]at W d;rw[if_neg (show ¬(eD (bF H) H.es H.ez (m.map λs=>(s.num,s.text)) S).2≠0 from λe=>e T)];have c:=j.Cb;have l:=tV (R0.filter λp=>decide (p.1∈bF H)) n (a++b);have z:=j.Gp;rw[Ug]at c d W z;rw[z]at l;rcases W with ⟨r,u⟩|⟨r,u⟩
  .by_cases P:bF H=[]
   .rw[if_pos (Ua P)];refine Wa ⟨r,_,?_,c.1,c.2,by rw[l];exact h.qe.cl,by grind⟩;have k:=Vf.1 (d.symm.trans P);rcases u with ⟨D,E,g3,g4,_⟩|⟨_,_,_,_,g,_⟩
    .grind [tO]
    rw[k]at g;exact absurd g.symm (by simp)
   rw[if_neg (λe=>e.elim (λe=>e r) P)];have k:kept (R0.filter λp=>decide (p.1∈bF H)) n (a++b)≠[]:=λe=>P (by rw[d,e];rfl)
   have B:=u.sync k;rw[<-d]at B;rcases B with ⟨D,E⟩|⟨D,E⟩
   .exact Wa ⟨D,_,E,c.1,c.2,by rw[l];exact h.qe.cl,by grind⟩
   exact Ua ⟨D,by rw[E];exact u.for J⟩
  rw[if_pos (Wa (by rw[r];decide))];exact Ua ⟨r,by rw[u];exact Ua ⟨_,n,a,b,y,A,[],C,j,J⟩⟩
 have hz:(eD (bF H) H.es H.ez (m.map λs=>(s.num,s.text)) S).2≠0:=by rw[T];decide
 rw[if_pos hz,if_pos (Wa hz)];exact Ua ⟨T,Ua ⟨R',n,a,b,y,A,G',C,j,J⟩⟩
end Jr
end Go.Proofs.YtpndiccohnafbaaGreatDoor
