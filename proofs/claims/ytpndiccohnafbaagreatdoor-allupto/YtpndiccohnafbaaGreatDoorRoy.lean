/- What the document tells of a series. -/
import Derived.Test.YtpndiccohnafbaaGreatDoorRefiy
import Derived.Deep.CutRange
import Derived.Test.YtpndiccohnafbaaGreatDoorRefvy
import Derived.Sort.Walk0
set_option maxHeartbeats 9000000
open Option renaming some->Z,none->Y,bind_some->Za
open Go.Value renaming slice->Q,int->I,string->L,tuple->Ua,bool->bO,ownBlock->Xc
open Go.IntKind renaming i64->O
open Go.Ending renaming returned->ca
open Nat renaming le_refl->Va,le_trans->Zb,sub_self->Ve
open Go.Proofs.Tryz renaming results132->Wa,prog->Xb
open Go renaming World->N,Value->C,bodyPost_ret->Xa,results->Yb,TypeId->zd,Calls->Vd
open List renaming mem_cons_self->Ya,getElem?_eq_some_iff->qb,getElem?_append_right->Ub,mem_singleton->Vb,getElem?_eq_getElem->Wb,length_append->Vc,pairwise_cons->Wc,mem_of_getElem?->Yc,getElem?_append_left->Zc,getElem?_set_ne->ed,take_length->vd,drop_drop->te
open Or renaming inl->eb,inr->Uc
open Go.Lib renaming compact->ad,toList_data->Xd,compactUpTo->Zd
open Go.Addr renaming add->Ud
open Go.RowKit.Below renaming refl->Ue
namespace Go.Proofs.YtpndiccohnafbaaGreatDoor
namespace Ra
open Go.RowKit Mem Foot Bytes Wm Im Cq Tagw
def eU (n:Int)(x:Sx):Int:=dW (if x.K=99 then n+(x.v*1000).tdiv x.r else if x.K=103 then x.v else n+x.v)
def numOf (l:List Sx):Int:=l.foldl eU 0
theorem AB {l:List Sx}{k:Nat}{x:Sx}(a:l[k]? = Z x):numOf (l.take (k+1))=eU (numOf (l.take k)) x:=by
 unfold numOf;rw[List.take_add_one,a,List.foldl_append];rfl
theorem ui (l:List Sx):-1000000000000000<=numOf l/\numOf l<=1000000000000000:=by
 have key:∀(r:List Sx) (n:Int),-1000000000000000<=n/\n<=1000000000000000->-1000000000000000<=r.foldl eU n/\r.foldl eU n<=1000000000000000:=by
  intro r
  induction r with
  | nil=>intro n h;exact h
  | cons x r a=>
   intro n _;rw[List.foldl_cons];refine a _ ?_;have:=BG (if x.K=99 then n+(x.v*1000).tdiv x.r else if x.K=103 then x.v else n+x.v);unfold eU;simpa only[top] using this
 exact key l 0 (by omega)
def SI (x:Sx):Prop:=¬x.K=115/\¬x.K=109/\-999999999<=x.v/\x.v<=999999999/\1<=x.r/\x.r<=1000
inductive Same (l:List Sx):Prop where
 | set (h:∀x∈l,x.K=115) (hW:∀k,k<=l.length->(aI (l.take k)).length<=1000)
 | tim (h:∀x∈l,x.K=109/\Py x)
 | num (h:∀x∈l,SI x)
noncomputable def tell (a:Nat)(l:List Sx):List UInt8:=match l with
 | []=>[48]
 | x ::_=>if x.K=115 then Lib.itoa (aI l).length else if x.K=109 then gV (.tim (cy a l)) else Lib.itoa (numOf l)
theorem KF {v r:Int}(a:-999999999<=v)(b:v<=999999999):-1000000000000<=(v*1000).tdiv r/\(v*1000).tdiv r<=1000000000000:=by
 have h:=Int.natAbs_tdiv_le_natAbs (v*1000) r;have c:(v*1000).natAbs<=999999999000:=by omega
 omega
theorem CL {w:N}{a:Option Addr}{b:Nat}{l:List Sx}(h:wu w (Q a l.length b) l){k:Nat}{x:Sx}(p:l[k]? = Z x):∃g,a=Z ⟨g,0,Y⟩/\l.length<=b/\g<w.heap.size/\w.cell? ⟨g,k*6+1,Y⟩=Z (I .u8 x.K)/\w.cell? ⟨g,k*6+2,Y⟩=Z (I O x.v)/\w.cell? ⟨g,k*6+4,Y⟩=Z (I O x.r):=by
 obtain⟨q,s,o,d,c⟩:=h;injection o with f j i;clear j;subst f;subst i;obtain⟨g,m,n,c1,c2,c3,e⟩:=c k x p;exact⟨g,m,d,n,c1,c2,e⟩
set_option maxRecDepth 10000 in
theorem told (v:C)(l:List Sx)(c:Fin 6->Int)(d:Nat)(HM:c 3=(d:Int))(w:N)(h:wu w v l)(V:l≠[])(hn:l.length<=100000000)(a7:2<=d)(hm:d<=64)(hs:Same l):
  Vd Xb 136 #[v,.agg #[I O (c 0),I O (c 1),I O (c 2),I O (c 3),I O (c 4),I O (c 5)]] w λe S=>(∃z,e=ca (L z)/\B z=tell d l/\z.size<=400)/\Below w.heap.size w S:=by
 have HC:=aa (af.new w 23 #[I O (c 0),I O (c 1),I O (c 2),I O (c 3),I O (c 4),I O (c 5)]);have f:=aa (ai (w:=w) (.cells #[I O (c 0),I O (c 1),I O (c 2),I O (c 3),I O (c 4),I O (c 5)] 23));have E:=aa (h.below f);obtain⟨D,r0,F⟩:∃D r0,l=D ::r0:=by
  cases l with
  | nil=>exact absurd rfl V
  | cons x r=>exact⟨x,r,rfl⟩
 obtain⟨a,b6,rfl,b2,_⟩:=h;have a6:¬(l.length:Int)=0:=by rw[F];simp;omega
 have c0:(0:Int)<(l.length:Int):=by omega
 have b9:((l.length:Int)==0)=false:=by simpa using a6
 have m:=aa F;change Hid _ at HM;clear V;go_in;go_upto_region 1 with fail;generalize w.alloc (.cells #[I O (c 0),I O (c 1),I O (c 2),I O (c 3),I O (c 4),I O (c 5)] 23)=w1 at *;obtain⟨g,rfl,_,hg,c1,c2,c4⟩:=CL E (k:=0) (x:=D) (by rw[F];rfl);clear F;simp only[Nat.zero_mul,Nat.zero_add]at c1 c2 c4;cases hs with
 | set H hW=>
  have n:D.K=115:=H D (by rw[m.out];simp);rw[n]at c1;have X:=words _ l w1 E hn hW;change Hid _ at n;have a2:=aa (hW l.length (Va _));clear H hW;go_wp2_with fail;refine X.mono ?_;clear X;rintro e w2 ⟨⟨u,rfl,hu⟩,o⟩;obtain⟨ua,uc,rfl⟩:=fP hu;have c5:(aI l).length<=1000:=by have:=a2.out;rw[vd]at this;exact this
  go_wp2_with fail;refine(gH _ (by omega) (by omega) w2).mono ?_;rintro e w3 ⟨⟨z,rfl,G,P⟩,t⟩;change Hid _ at G;have q:=aa ((f.trans (o.mono f.size)).trans (t.mono (Zb f.size o.size)));clear o t hu;go_wp2_with fail;go_ret;refine⟨⟨z,rfl,?_,by omega⟩,q⟩;rw[G.out,m.out,tell,if_pos n.out]
 | tim A=>
  have n:D.K=109:=(A D (by rw[m.out];simp)).1;rw[n]at c1;have W:=timer _ l d w1 E (by rw[m.out];simp) hn a7 hm (λx hx=>(A x hx).2);have k3:w1.cell? ⟨w.heap.size,3,Y⟩=Z (I O (d:Int)):=by rw[<-HM.out];exact HC.Ri 3
  change Hid _ at n;clear A;go_wp2_with fail;refine W.mono ?_;clear W;rintro e w2 ⟨⟨z,rfl,G,P⟩,o⟩;change Hid _ at G;have q:=aa (f.trans (o.mono f.size));clear o;go_wp2_with fail;go_ret;refine⟨⟨z,rfl,?_,P⟩,q⟩;rw[G.out,m.out,tell,if_neg (by rw[n.out];decide),if_pos n.out]
 | num HN=>
  have n:=HN D (by rw[m.out];simp);have b1:(D.K==115)=false:=by simpa using n.1
  have b0:(D.K==109)=false:=by simpa using n.2.1
  change Hid _ at n HN;go_wp2_with fail;clear c1 c2 c4;go_loopw [6,7] (λs6 i wr=>∃k:Nat,i=I O (k:Int)/\k<=l.length/\s6=I O (numOf (l.take k))/\Hid (Below w1.heap.size w1 wr)) (λ_ i _=>l.length - (intOf i).toNat)
  case atStart=>exact⟨0,rfl,by omega,rfl,Ue _ _⟩
  case round=>
   obtain⟨k,rfl,hk,rfl,J⟩:=hrel;have a8:=ui (l.take k);by_cases a4:k<l.length
   .have a5:(k:Int)<(l.length:Int):=by omega
    obtain⟨x,hx⟩:∃x,l[k]? = Z x:=⟨_,Wb a4⟩;obtain⟨b5,b4,v0,v1,c6,c7⟩:=HN.out x (Yc hx);have M:=aa (AB hx);obtain⟨g',y,_,U,c1,c2,c4⟩:=CL (E.below J) hx;injection y with y;injection y with y;subst y;have b8:=KF (r:=x.r) v0 v1;generalize numOf (l.take k)=R at *;have a1:-1000000000000<=x.v*1000/\x.v*1000<=1000000000000:=by omega
    by_cases j:x.K=99
    .rw[j]at c1;have c3:¬x.r=0:=by omega
     have T:=aa (show eU R x=dW (R+(x.v*1000).tdiv x.r) by unfold eU;rw[if_pos j]);have C2:∀s:Bw wr,s.val.cell? ⟨g,k*6+2,Y⟩=Z (I O x.v):=λs=>by rw[s.is.cell (p:=⟨g,k*6+2,Y⟩) U];exact c2
     have C4:∀s:Bw wr,s.val.cell? ⟨g,k*6+4,Y⟩=Z (I O x.r):=λs=>by rw[s.is.cell (p:=⟨g,k*6+4,Y⟩) U];exact c4
     generalize b7:(x.v*1000).tdiv x.r=dd at *;have HA:=aa (λs:Bw wr=>aT ((bound (R+dd) s.val).mono λe S ⟨h1,h2⟩=>⟨h1,by rw[h2];exact Ue _ _⟩));clear j;go_wp2_with fail;refine aU ?_;repeat go_big_quiet_step (exact HA.out _)
     refine wpQuiet_nil ?_;rintro _ ⟨s,rfl⟩;go_wp2_with fail;go_roundw
     case rel=>exact⟨k+1,by go_num,by omega,by rw[M.out,T.out],J.trans (s.is.mono J.size)⟩
     case measure=>simp only[intOf];omega
    have a0:(x.K==99)=false:=by simpa using j
    by_cases b:x.K=103
    .rw[b]at c1 a0;have T:=aa (show eU R x=dW x.v by unfold eU;rw[if_neg j,if_pos b]);clear j b a0;go_wp2_with fail;refine(bound _ wr).mono ?_;rintro e S ⟨rfl,hw⟩;subst S;go_wp2_with fail;go_roundw
     case rel=>exact⟨k+1,by go_num,by omega,by rw[M.out,T.out],J⟩
     case measure=>simp only[intOf];omega
    have b3:(x.K==103)=false:=by simpa using b
    have T:=aa (show eU R x=dW (R+x.v) by unfold eU;rw[if_neg j,if_neg b]);clear j b;go_wp2_with fail;refine(bound _ wr).mono ?_;rintro e S ⟨rfl,hw⟩;subst S;go_wp2_with fail;go_roundw
    case rel=>exact⟨k+1,by go_num,by omega,by rw[M.out,T.out],J⟩
    case measure=>simp only[intOf];omega
   have a5:¬(k:Int)<(l.length:Int):=by omega
   have a3:k=l.length:=by omega
   subst a3;rw[vd]at a8 ⊢;generalize a9:numOf l=R at *;go_wp2_with fail;refine(gH _ (by omega) (by omega) wr).mono ?_;rintro e w3 ⟨⟨z,rfl,G,P⟩,t⟩;change Hid _ at G;have q:=aa ((f.trans (J.mono f.size)).trans (t.mono (Zb f.size J.size)));clear t;go_wp2_with fail;go_ret;refine⟨⟨z,rfl,?_,by omega⟩,q⟩;rw[G.out,<-a9,m.out,tell,if_neg n.1,if_neg n.2.1]
end Ra
namespace Ra
open Go.RowKit Mem Foot Bytes Wm Im Refi Tagw
section
variable {a d e:Nat}{f g:zd}{h:C}{i:List C}
theorem cH {w:N}   {c b:Array C}(h:af w a f c)(i:af w d g b)(j:f≠g):a≠d:=by
 intro e;grind [af]
theorem mm (b:a∈h.ownBlock.toList):h.ownBlock=Z a:=by simpa using b
theorem au {w:N}     (m:w.ownsRow a f d h e i){k:Nat}(o:k∈h.ownBlock.toList):∃l,af w k f l:=by
 have b:=mm o;rcases m.2 with ⟨rfl,_⟩|⟨g,j,c,rfl,_,n,_⟩
 .simp[Xc]at b
 simp[Xc]at b;subst b;exact⟨c,n⟩
theorem aq {F:List Nat}{w m:N}      (j:w.ownsRow d f e h a i)(r:an F w m)(q:∀k∈h.ownBlock.toList,k∉F):m.ownsRow d f e h a i:=by
 refine⟨j.1,?_⟩;rcases j.2 with n|⟨g,b,c,rfl,o,l,p⟩
 .exact eb n
 refine Uc ⟨g,b,c,rfl,o,?_,p⟩;rw[r.block g (Array.getElem?_eq_some_iff.1 l).1 (q g (by simp[Xc]))];exact l
theorem aE {w b:N}     (c:w.ownsRow a f d h e i)(g:Below w.heap.size w b):b.ownsRow a f d h e i:=
 aq (F:=[]) c (an.ag g) (λ_ _=>by simp)
theorem rV {w:N}     (b:w.ownsRow a f d h e i){k:Nat}(c:k∈h.ownBlock.toList):a<=k/\k<w.heap.size:=b.lt k (mm c)
theorem dR {w x:N}{o:Obj}  (a:(w.alloc o).grownBy x h.ownBlock):an h.ownBlock.toList w x:=
 ⟨a.os,a.tape,a.output,by have:=a.size;simp at this;omega,λk c b=>by
  rw[a.block k (by simp;omega) (λe=>b (by rw[<-e];simp)),Below.heap_alloc _ _ _ c]⟩
theorem kF {w:N}  {c:C}{n q b d s r:Nat}{a:List C}(j:w.ownsRow b f s h n i)(l:w.ownsRow d g r c q a)(p:f≠g):∀k∈h.ownBlock.toList,k∉c.ownBlock.toList:=by
 intro k m o;obtain⟨t,u⟩:=au j m;obtain⟨e,v⟩:=au l o;grind [cH]
theorem bt {w:N}   {n b S s:Nat}  {a:Array C}(c:w.ownsRow b f s h n i)(j:af w S g a)(e:f≠g):S∉h.ownBlock.toList:=by
 intro d;obtain⟨a,k⟩:=au c d;grind [cH]
end
structure Rw (w0 w:N)(b:Nat)(c:Fin 6->Int)(ks:List (List UInt8))(ss:List (List Sx))(rej drp:Nat)(K S:C)(vs:List C):Prop where
 far:w0.heap.size<=b
 head:af w b 169 #[I O (c 0),I O (c 1),I O (c 2),I O (c 3),I O (c 4),I O (c 5),K,S,I O (rej:Int),I O (drp:Int)]
 keys:w.ownsRow w0.heap.size 9 1 K ks.length (enc ks)
 rows:w.ownsRow w0.heap.size 224 1 S vs.length vs
 len:vs.length=ks.length
 kV:ss.length=ks.length
 each:∀(i:Nat) v l,vs[i]? = Z v->ss[i]? = Z l->w.ownsRow w0.heap.size 218 6 v l.length (ct l)
 apart:∀(i j:Nat) v v',i≠j->vs[i]? = Z v->vs[j]? = Z v'->v.ownBlock=Y\/v.ownBlock≠v'.ownBlock
section
variable {w0 w : N} {b : Nat} {c : Fin 6 -> Int} {ks : List (List UInt8)} {ss : List (List Sx)} {rej drp : Nat} {K S : C} {vs : List C}
variable {a:Nat}{d:N}{e:C}{f:Obj}
theorem Rw.off {F:List Nat}  (h:Rw w0 w b c ks ss rej drp K S vs)(a:an F w d)(n:b∉F)(g:∀k∈K.ownBlock.toList,k∉F)(j:∀k∈S.ownBlock.toList,k∉F)(m:∀v∈vs,∀k∈v.ownBlock.toList,k∉F):Rw w0 d b c ks ss rej drp K S vs:=
 ⟨h.far,Foot.af.off h.head a n,aq h.keys a g,aq h.rows a j,h.len,h.kV,λi v l e f=>aq (h.each i v l e f) a (m v (Yc e)),h.apart⟩
theorem Rw.keep (h:Rw w0 w b c ks ss rej drp K S vs)(a:Below w.heap.size w d):Rw w0 d b c ks ss rej drp K S vs:=
 h.off (F:=[]) (an.ag a) (by simp) (λ_ _=>by simp) (λ_ _=>by simp) (λ_ _ _ _=>by simp)
theorem Rw.drew (h:Rw w0 w b c ks ss rej drp K S vs):Rw w0 w.drew b c ks ss rej drp K S vs:=h.keep ((Ue _ _).drew)
theorem Rw.Gm (h:Rw w0 w b c ks ss rej drp K S vs)   (f:vs[a]? = Z e):∃l,ss[a]? = Z l/\w.ownsRow w0.heap.size 218 6 e l.length (ct l):=by
 have g:=(qb.1 f).1;have d:a<ss.length:=by rw[h.kV,<-h.len];exact g
 exact⟨ss[a],Wb d,h.each a e _ f (Wb d)⟩
theorem Rw.SV (h:Rw w0 w b c ks ss rej drp K S vs)  (g:e∈vs)  {t:zd}{d:Array C}(k:af w a t d)(m:t≠218):a∉e.ownBlock.toList:=by
 obtain⟨i,f⟩:=List.getElem?_of_mem g;obtain⟨l,_,j⟩:=h.Gm f;grind [bt]
theorem pb {b:List (List UInt8)}(h:w.ownsRow a 9 1 e b.length (enc b)):Strs 0 w e b:=(nV h).mono (Nat.zero_le _)
theorem Rw.SC (h:Rw w0 w b c ks ss rej drp K S vs)(n:Nat):Rw w0 (w.setCell ⟨b,8,Y⟩ (I O (n:Int))) b c ks ss n drp K S vs:=by
 have d:an [b] w (w.setCell ⟨b,8,Y⟩ (I O (n:Int))):=(an.refl _ _).set (Ya ..) _ _;exact⟨h.far,h.head.set 8 _,aq h.keys d λk a e=>by rw[Vb]at e;exact bt h.keys h.head (by decide) (e▸a),aq h.rows d λk a e=>by rw[Vb]at e;exact bt h.rows h.head (by decide) (e▸a),h.len,h.kV,λi v l f g=>aq (h.each i v l f g) d λk a e=>by rw[Vb]at e;exact h.SV (Yc f) h.head (by decide) (e▸a),h.apart⟩
theorem Rw.QQ (h:Rw w0 w b c ks ss rej drp K S vs)(n:Nat):Rw w0 (w.setCell ⟨b,9,Y⟩ (I O (n:Int))) b c ks ss rej n K S vs:=by
 have d:an [b] w (w.setCell ⟨b,9,Y⟩ (I O (n:Int))):=(an.refl _ _).set (Ya ..) _ _;exact⟨h.far,h.head.set 9 _,aq h.keys d λk a e=>by rw[Vb]at e;exact bt h.keys h.head (by decide) (e▸a),aq h.rows d λk a e=>by rw[Vb]at e;exact bt h.rows h.head (by decide) (e▸a),h.len,h.kV,λi v l f g=>aq (h.each i v l f g) d λk a e=>by rw[Vb]at e;exact h.SV (Yc f) h.head (by decide) (e▸a),h.apart⟩
theorem Rw.GY {K':C}  (h:Rw w0 w b c ks ss rej drp K S vs)(j:(w.alloc f).grownBy d K.ownBlock):af d b 169 #[I O (c 0),I O (c 1),I O (c 2),I O (c 3),I O (c 4),I O (c 5),K,S,I O (rej:Int),I O (drp:Int)]/\d.ownsRow w0.heap.size 224 1 S vs.length vs/\(∀(i:Nat) v l,vs[i]? = Z v->ss[i]? = Z l->d.ownsRow w0.heap.size 218 6 v l.length (ct l)):=by
 have a:=dR j;have _:=K';exact⟨Foot.af.off h.head a (bt h.keys h.head (by decide)),aq h.rows a (kF h.rows h.keys (by decide)),λi v l e g=>aq (h.each i v l e g) a (kF (h.each i v l e g) h.keys (by decide))⟩
theorem Rw.more {n:N}{o:C}{X:Obj}{key:List UInt8}(h:Rw w0 w b c ks ss rej drp K S vs)(H:w0.heap.size<=w.heap.size)
  (o2:d.ownsRow w0.heap.size 9 1 e (ks.length+1) (enc ks++[L ⟨key.toArray⟩])) (F:(w.alloc f).grownBy d K.ownBlock)
  (o4:n.ownsRow w0.heap.size 224 1 o (vs.length+1) (vs++[Q Y 0 0])) (V:((d.setCell ⟨b,6,Y⟩ e).alloc X).grownBy n S.ownBlock):
  Rw w0 (n.setCell ⟨b,7,Y⟩ o) b c (ks++[key]) (ss++[[]]) rej drp e o (vs++[Q Y 0 0])/\Below w0.heap.size w (n.setCell ⟨b,7,Y⟩ o):=by
 obtain⟨M,P,R⟩:=h.GY (K':=e) F;have A:=dR F;have q:an [b] d (d.setCell ⟨b,6,Y⟩ e):=(an.refl _ _).set (Ya ..) _ _;have B:af (d.setCell ⟨b,6,Y⟩ e) b 169 #[I O (c 0),I O (c 1),I O (c 2),I O (c 3),I O (c 4),I O (c 5),e,S,I O (rej:Int),I O (drp:Int)]:=M.set 6 e;have D:=aq o2 q λk s u=>by grind [bt]
 have t:=aq P q λk s u=>by grind [bt]
 have E:∀(i:Nat) v l,vs[i]? = Z v->ss[i]? = Z l->(d.setCell ⟨b,6,Y⟩ e).ownsRow w0.heap.size 218 6 v l.length (ct l):=λi v l a g=>aq (R i v l a g) q λk s u=>by grind [bt]
 have m:=dR V;have T:=Foot.af.off B m (bt t B (by decide));have U:=aq D m (kF D t (by decide));have d4:∀(i:Nat) v l,vs[i]? = Z v->ss[i]? = Z l->n.ownsRow w0.heap.size 218 6 v l.length (ct l):=λi v l a g=>aq (E i v l a g) m (kF (E i v l a g) t (by decide))
 have x:an [b] n (n.setCell ⟨b,7,Y⟩ o):=(an.refl _ _).set (Ya ..) _ _;refine⟨⟨h.far,T.set 7 o,?_,by grind [aq,bt],by grind [len],by grind [kV],λi v l a g=>?_,λi j v v' y a g=>?_⟩,?_⟩
 .rw[Vc,mL];refine aq U x λk s u=>?_
  grind [bt]
 .by_cases G:i<vs.length
  .grind [kV,len,aq,bt]
  have r:i=vs.length:=by grind
  subst r;rw[Ub (Va _),Ve]at a;rw[Ub (by grind [kV,len]),show vs.length - ss.length=0 by grind]at g;cases a;cases g;exact World.ownsRow_nil _ _ _ _
 .by_cases G:i<vs.length
  .rw[Zc G]at a;by_cases W:j<vs.length
   .rw[Zc W]at g;exact h.apart i j v v' y a g
   have z:j=vs.length:=by grind
   subst z;rw[Ub (Va _),Ve]at g;cases g;cases hv:v.ownBlock with
   | none=>exact eb rfl
   | some k=>exact Uc (by simp[Xc])
  have r:i=vs.length:=by grind
  subst r;rw[Ub (Va _),Ve]at a;cases a;exact eb rfl
 have q1:Below w0.heap.size w d:=A.below (λk s=>(rV h.keys s).1) H;have J:Below w0.heap.size w (d.setCell ⟨b,6,Y⟩ e):=q1.setCell (p:=⟨b,6,Y⟩) h.far e;have q3:Below w0.heap.size w n:=J.trans (m.below (λk s=>(rV t s).1) (Zb H J.size));exact q3.setCell (p:=⟨b,7,Y⟩) h.far o
theorem Rw.put {x:Sx}  {v v':C}  {l:List Sx}{n y:Nat}(h:Rw w0 w b c ks ss rej drp K S vs)(hw:w0.heap.size<=w.heap.size)(H:S=Q (Z ⟨n,0,Y⟩) vs.length y)(D:vs[a]? = Z v)(hl:ss[a]? = Z l)
  (o5:d.ownsRow w0.heap.size 218 6 v' (l.length+1) (ct (l++[x]))) (W:(w.alloc f).grownBy d v.ownBlock) (sm:v'.ownBlock=v.ownBlock\/∃g,v'.ownBlock=Z g/\w.heap.size<=g):
  Rw w0 (d.setCell ⟨n,a,Y⟩ v') b c ks (ss.set a (l++[x])) rej drp K S (vs.set a v')/\Below w0.heap.size w (d.setCell ⟨n,a,Y⟩ v'):=by
 have B:=h.each a v l D hl;have a5:=(qb.1 D).1;have A:=dR W;have a1:=Foot.af.off h.head A (bt B h.head (by decide));have a2:=aq h.keys A (kF h.keys B (by decide));have R:=aq h.rows A (kF h.rows B (by decide));have z:n∈S.ownBlock.toList:=by rw[H];simp[Xc]
 obtain⟨cs,a0⟩:=au R z;have hb:an [n] d (d.setCell ⟨n,a,Y⟩ v'):=(an.refl _ _).set (Ya ..) _ _;refine⟨⟨h.far,by grind [af.off,bt],by grind [aq,kF],?_,by grind [len],by grind [kV],λj u m i r=>?_,λj k u u' M i r=>?_⟩,by have q1:Below w0.heap.size w d:=A.below (λk U=>(rV B U).1) hw;exact q1.setCell (p:=⟨n,a,Y⟩) (rV h.rows z).1 v'⟩
 .rw[List.length_set];refine⟨by rw[List.length_set,Nat.mul_one],?_⟩;rcases R.2 with ⟨h0,_⟩|⟨g,cp,E,i,r,G,T,X,h6,h7⟩
  .omega
  rw[H]at i;injection i with o _ F;injection o with o;injection o with o;subst o;subst F;refine Uc ⟨n,y,_,H,r,af.set (t:=224) (cs:=E) G a v',T,X,by simpa using h6,?_⟩;rw[Array.toList_setIfInBounds,List.take_set,h7]
 .by_cases e:a=j
  .grind [aq,kF]
  rw[ed e]at i r;have G:=h.each j u m i r;have T:=aq G A λk U a6=>by
   rcases h.apart j a u v (Ne.symm e) i D with q|q
   .grind
   grind
  grind [aq,kF]
 have a7:∀(j:Nat) u,a≠j->vs[j]? = Z u->u.ownBlock=Y\/u.ownBlock≠v'.ownBlock:=λj u J V=>by
  obtain⟨m,_,hm⟩:=h.Gm V;cases P:u.ownBlock with
  | none=>exact eb rfl
  | some g=>
   refine Uc λe=>?_
   rcases sm with s|⟨g',s,a4⟩
   .rcases h.apart j a u v (Ne.symm J) V D with q|q
    .grind
    grind
   have:=(rV hm (k:=g) (by rw[P];simp)).2;grind
 by_cases o:a=j
 .grind
 rw[ed o]at i;by_cases F:a=k
 .grind
 rw[ed F]at r;exact h.apart j k u u' M i r
end
end Ra
namespace Ra
open Go.RowKit Mem Foot Bytes Wm Im Refi Tagw Reft Plain
structure ke where
 ks:List (List UInt8)
 ss:List (List Sx)
 drp:Nat
def dA (key:List UInt8)(s:ke):ke:=if pl key s.ks=s.ks.length then ⟨s.ks++[key],s.ss++[[]],s.drp⟩ else s
def IF (a:Nat)(x:Sx)(i:Nat)(s:ke):ke:=
 if x.K=115/\B x.wb∉aI (s.ss.getD i [])/\a<=(aI (s.ss.getD i [])).length then ⟨s.ks,s.ss,s.drp+1⟩ else ⟨s.ks,s.ss.set i (s.ss.getD i []++[x]),s.drp⟩
def kR (a b:Nat)(key:List UInt8)(x:Sx)(s:ke):ke:=
 if pl key s.ks=s.ks.length/\a<=s.ks.length then ⟨s.ks,s.ss,s.drp+1⟩ else IF b x (pl key s.ks) (dA key s)
theorem GO:(Xb.info? 9).map (λi=>(i.zero,i.size,i.bytes))=Z (Z (L ⟨#[]⟩),1,16):=by kernel_rfl
theorem GN:(Xb.info? 224).map (λi=>(i.zero,i.size,i.bytes))=Z (Z (Q Y 0 0),1,24):=by kernel_rfl
theorem La:(Xb.info? 218).map (λi=>(i.zero,i.size,i.bytes))=Z (Z (.agg #[L ⟨#[]⟩,I .u8 0,I O 0,L ⟨#[]⟩,I O 0,Q Y 0 0]),6,80):=by kernel_rfl
def SZ (w0:N)(b:Nat)(c:Fin 6->Int)(rej:Nat)(s:ke)(w a:N):Prop:=(∃K S vs,Rw w0 a b c s.ks s.ss rej s.drp K S vs)/\Below w0.heap.size w a
variable {a d e f g h:C}
theorem iP {w:N}{b:Nat}{t:zd}{     i j k l:C}(c:af w b t #[a,d,e,f,g,h,i,j,k,l]):
  w.cell? ⟨b,1,Y⟩=Z d/\w.cell? ⟨b,2,Y⟩=Z e/\w.cell? ⟨b,6,Y⟩=Z i/\w.cell? ⟨b,7,Y⟩=Z j/\w.cell? ⟨b,8,Y⟩=Z k/\w.cell? ⟨b,9,Y⟩=Z l/\w.frozen? ⟨b,6,Y⟩=false/\w.frozen? ⟨b,7,Y⟩=false/\w.frozen? ⟨b,8,Y⟩=false/\w.frozen? ⟨b,9,Y⟩=false:=
 ⟨c.Ri 1,c.Ri 2,c.Ri 6,c.Ri 7,c.Ri 8,c.Ri 9,c.frozen 6,c.frozen 7,c.frozen 8,c.frozen 9⟩
theorem kn {w:N}{b:Nat}{t:zd}  (c:af w b t #[a,d,e,f,g,h]):
  w.cell? ⟨b,0,Y⟩=Z a/\w.cell? ⟨b,1,Y⟩=Z d/\w.cell? ⟨b,2,Y⟩=Z e/\w.cell? ⟨b,3,Y⟩=Z f/\w.cell? ⟨b,4,Y⟩=Z g/\w.cell? ⟨b,5,Y⟩=Z h:=
 ⟨c.Ri 0,c.Ri 1,c.Ri 2,c.Ri 3,c.Ri 4,c.Ri 5⟩
section
variable {w0 w : N} {b : Nat} {c : Fin 6 -> Int} {ks : List (List UInt8)} {ss : List (List Sx)} {rej drp : Nat} {K S : C} {vs : List C}
variable {a d:Obj}{e f:N}
theorem Rw.Ot {K':C}  (h:Rw w0 w b c ks ss rej drp K S vs)(j:(w.alloc a).grownBy e K.ownBlock):af (e.setCell ⟨b,6,Y⟩ K') b 169 #[I O (c 0),I O (c 1),I O (c 2),I O (c 3),I O (c 4),I O (c 5),K',S,I O (rej:Int),I O (drp:Int)]/\(e.setCell ⟨b,6,Y⟩ K').ownsRow w0.heap.size 224 1 S vs.length vs:=by
 obtain⟨f,g,_⟩:=h.GY (K':=K') j;have d:an [b] e (e.setCell ⟨b,6,Y⟩ K'):=(an.refl _ _).set (Ya ..) _ _;exact⟨f.set 6 K',aq g d λk l i=>by
  rw[Vb]at i;exact bt g f (by decide) (i▸l)⟩
theorem Rw.Ou {g:C}  (h:Rw w0 w b c ks ss rej drp K S vs)(k:(w.alloc a).grownBy e K.ownBlock)(l:((e.setCell ⟨b,6,Y⟩ g).alloc d).grownBy f S.ownBlock):af f b 169 #[I O (c 0),I O (c 1),I O (c 2),I O (c 3),I O (c 4),I O (c 5),g,S,I O (rej:Int),I O (drp:Int)]:=by
 obtain⟨i,j⟩:=h.Ot (K':=g) k;exact Foot.af.off i (dR l) (bt j i (by decide))
theorem Rw.box {i p:C}  {X:Nat}{g:Array C}(h:Rw w0 w b c ks ss rej drp K S vs)(j:(w.alloc a).grownBy e K.ownBlock)(n:((e.setCell ⟨b,6,Y⟩ i).alloc d).grownBy f S.ownBlock)(o:af w X 218 g):af (f.setCell ⟨b,7,Y⟩ p) X 218 g:=by
 obtain⟨s,r⟩:=h.Ot (K':=i) j;have q:=(h.GY (K':=i) j).1;have k:af e X 218 g:=Foot.af.off o (dR j) (bt h.keys o (by decide));have l:af (e.setCell ⟨b,6,Y⟩ i) X 218 g:=(Below.heap_setCell _ _ _ _ (cH k q (by decide))).trans k;have m:af f X 218 g:=Foot.af.off l (dR n) (bt r l (by decide));exact(Below.heap_setCell _ _ _ _ (cH m (h.Ou j n) (by decide))).trans m
end
variable {d e f:Nat}
theorem Ig {w:N}  {a:zd}{v:C}{b:List C}(h:w.ownsRow d a e v f b)(o:Obj):(w.drew.alloc o).ownsRow d a e v f b:=by
 have c:w.drew.ownsRow d a e v f b:=h;exact c.alloc o
theorem fw {w:N}  {i:zd}{v:C}{j:List C}(h:w.ownsRow 0 i e v f j)(m:∀k,v.ownBlock=Z k->d<=k):w.ownsRow d i e v f j:=by
 refine⟨h.1,?_⟩;rcases h.2 with a|⟨g,b,c,a,_,l⟩
 .exact eb a
 exact Uc ⟨g,b,c,a,m g (by rw[a];rfl),l⟩
theorem kj (w:N)(a b c d e f:C)(t:zd):∀j u,[a,b,c,d,e,f][j]? = Z u->(w.alloc (.cells #[a,b,c,d,e,f] t)).cell? ((⟨w.heap.size,0,Y⟩:Addr).add j)=Z u:=by
 intro j u g
 match j,g with
 | 0,g=>simp at g;subst g;simp[Ud]
 | 1,g=>simp at g;subst g;simp[Ud]
 | 2,g=>simp at g;subst g;simp[Ud]
 | 3,g=>simp at g;subst g;simp[Ud]
 | 4,g=>simp at g;subst g;simp[Ud]
 | 5,g=>simp at g;subst g;simp[Ud]
 | j+6,g=>simp at g
theorem Bc (w:N)(x:Sx)(t:zd)(b:Nat)(d:b=w.heap.size)(a:x.tv.oneCell'=true):Apn.Src (w.alloc (.cells #[L x.nb,I .u8 x.K,I O x.v,L x.wb,I O x.r,x.tv] t)) 6 (Z ⟨b,0,Y⟩) 1 [L x.nb,I .u8 x.K,I O x.v,L x.wb,I O x.r,x.tv]:=by
 subst d;refine⟨rfl,λu c=>?_,Uc ⟨_,rfl,kj w _ _ _ _ _ _ t⟩⟩;simp only[List.mem_cons,List.not_mem_nil,or_false]at c;rcases c with rfl|rfl|rfl|rfl|rfl|rfl
 .rfl
 .rfl
 .rfl
 .rfl
 .rfl
 exact a
set_option maxRecDepth 10000 in
theorem take (w0:N)(b:Nat)(c:Fin 6->Int)(s:ke)(rej:Nat)(K S:C)(vs:List C)(x:Sx)(sa:Option Addr)(sl sc:Nat)(f0:x.tv=Q sa sl sc)(J:List (List UInt8))(d f:Nat)(g5:c 1=(d:Int))(c4:c 2=(f:Int))(w:N)(h:Rw w0 w b c s.ks s.ss rej s.drp K S vs)(c0:w0.heap.size<=w.heap.size)
  (hst:Strs w0.heap.size w x.tv J) (i8:x.nb.size<=16) (hn:J.length<=4) (h8:∀y∈J,y.length<=8) (i7:s.ks.length<=1000) (m3:s.drp<=1000000000)
  (V:∀(i:Nat) l,s.ss[i]? = Z l->l.length<=10000000/\(x.K=115->∀k,k<=l.length->(aI (l.take k)).length<=1000)) (key:List UInt8) (d8:key=B x.nb++[124]++B (ty x.K)++pt J):
  Vd Xb 133 #[.pointer (Z ⟨b,0,Y⟩),.agg #[L x.nb,I .u8 x.K,I O x.v,L x.wb,I O x.r,x.tv]] w λe w'=>e=ca (Ua #[])/\SZ w0 b c rej (kR d f key x s) w w':=by
 have g0:=Ra.key x.nb x.wb x.K x.v x.r sa sl sc J w0.heap.size;rw[<-f0,<-d8]at g0;obtain⟨i0,hi,k9,l0,l1⟩:=info_parts GO;obtain⟨j0,hj,k6,k7,k8⟩:=info_parts GN;obtain⟨m0,hm,k3,k4,k5⟩:=info_parts La;change Hid _ at g5 c4 V f0;have c3:=aa (ai (w:=w) (.cells #[L x.nb,I .u8 x.K,I O x.v,L x.wb,I O x.r,x.tv] 218));have g6:=aa (h.keep c3);have a8:=aa (af.new w 218 #[L x.nb,I .u8 x.K,I O x.v,L x.wb,I O x.r,x.tv]);have g8:=aa (g0 (w.alloc (.cells #[L x.nb,I .u8 x.K,I O x.v,L x.wb,I O x.r,x.tv] 218)) (Strs.kept hst c3) i8 hn h8);have e0:=aa (c3.mono c0);clear g0 hst i8 hn h8 h d8;go_in;go_upto_region 1 with fail;generalize hX:w.heap.size=X at a8 ⊢;clear hX c3;generalize w.alloc (.cells #[L x.nb,I .u8 x.K,I O x.v,L x.wb,I O x.r,x.tv] 218)=w1 at *;obtain⟨b0,b1,b2,b3,b4,b5⟩:=kn a8;go_wp2_with fail;refine g8.mono ?_;clear b0 b1 b2 b3 b4 b5;rintro e w2 ⟨⟨z,rfl,hz⟩,d1⟩;have m:=aa (g6.keep d1);have f2:=aa (a8.below d1 a8.lt);have a0:=aa (e0.trans (d1.mono (Zb c0 e0.size)));have HZ:=aa hz;clear g8 g6 a8 e0 d1;obtain⟨c1,c2,c6,c7,c8,c9,f6,f7,f8,f9⟩:=iP m.head;have g1:=place b K s.ks z w2 c6 (pb m.keys) i7;rw[hz]at g1;clear hz;obtain⟨ka,kc,f4⟩:=cd m.keys;have e4:=aa f4;rw[f4]at c6;clear f4;go_wp2_with fail;refine g1.mono ?_;clear g1;rintro e w' ⟨rfl,k2⟩;subst w';generalize HI:pl key s.ks=i at *;change Hid _ at HI;go_upto_if 19 with fail
 rw[g5.out]at c1;rw[c4.out]at c2;have l2:z=⟨key.toArray⟩:=Bytes.bo (by rw[HZ.out];rfl);subst l2;have l7:i<=s.ks.length:=by rw[<-HI.out];exact List.findIdx_le_length
 obtain⟨ra,rc,a7⟩:=cd m.rows;change Hid _ at a7;have i9:vs.length<=1000:=by rw[m.len];exact i7
 go_cut [] from 8 (λwx=>∃K2 S2 A,i<(dA key s).ks.length/\Hid (¬(i=s.ks.length/\d<=s.ks.length))/\Hid (Rw w0 wx b c (dA key s).ks (dA key s).ss rej s.drp K2 S2 A)/\Hid (af wx X 218 #[L x.nb,I .u8 x.K,I O x.v,L x.wb,I O x.r,x.tv])/\Hid (Below w0.heap.size w wx))
 case first=>
  by_cases hf:i=s.ks.length
  .have j8:((i:Int)==(s.ks.length:Int))=true:=by simp[hf]
   by_cases o:d<=s.ks.length
   .have f5:(d:Int)<=(i:Int):=by omega
    have HE:=aa (show kR d f key x s=⟨s.ks,s.ss,s.drp+1⟩ by unfold kR;rw[HI.out,if_pos ⟨hf,o⟩]);have a6:=aa (m.QQ (s.drp+1));have a3:=aa (a0.setCell (p:=⟨b,9,Y⟩) m.far (I O ((s.drp+1:Nat):Int)));rw[show ((s.drp+1:Nat):Int)=(s.drp:Int)+1 by omega]at a6 a3;clear hf;go_wp2_with fail
    try simp only[Exit.inBlock,Exit.then]
    refine Xa (results_none rfl _ _ _) rfl ?_;refine⟨rfl,?_⟩;rw[HE.out];exact⟨⟨_,_,_,a6⟩,a3⟩
   have f5:¬(d:Int)<=(i:Int):=by omega
   have a4:=aa (show dA key s=⟨s.ks++[key],s.ss++[[]],s.drp⟩ by unfold dA;rw[HI.out,if_pos hf]);have a1:=aa (show ¬(i=s.ks.length/\d<=s.ks.length) from λh=>o h.2);have e5:=aa (show i<s.ks.length+1 by omega);have b9:w2.ownsRow w0.heap.size 9 1 (Q ka s.ks.length kc) s.ks.length (enc s.ks):=e4.out▸m.keys;have j2:=aa b9;have l8:=a0.size;clear b9 hf o;go_upto_region 7 with (at_builtin;refine wpList_append_own _ rfl _ _ 32 rfl w0.heap.size 9 i0 (L ⟨#[]⟩) 1 16 Tryz.underlying32 hi k9 l0 l1 rfl (by decide) _ _ _ rfl (j2.alloc _) ⟨w2.heap.size,0,Y⟩ 1 1 [_] rfl rfl (cell_one_new _ _ _) (λx hx=>by simp at hx;subst hx;rfl) (by unfold maxLen;omega) (by omega) (by simp;omega) ?_;intro K2 w3 o2 g2 n2;have G:=aa (show (w2.alloc (.cells #[L ⟨key.toArray⟩] 9)).grownBy w3 K.ownBlock from by rw[e4.out];exact g2);have j3:=aa o2;obtain⟨T,U,rfl⟩:=cd o2;have q6:=(iP (m.GY (K':=Q T (s.ks.length+1) U) G).1).2.2.1;have qf:=(iP (m.GY (K':=Q T (s.ks.length+1) U) G).1).2.2.2.2.2.2.1;clear o2 g2 n2);have e3:=aa (m.Ot (K':=Q T (s.ks.length+1) U) G);have h9:Hid ((w3.setCell ⟨b,6,Y⟩ (Q T (s.ks.length+1) U)).ownsRow w0.heap.size 224 1 (Q ra vs.length rc) vs.length vs):=a7.out▸e3.2;have q7:=(iP e3.1).2.2.2.1;rw[a7.out]at q7;have d6:=aa (show w0.heap.size<=(w3.setCell ⟨b,6,Y⟩ (Q T (s.ks.length+1) U)).heap.size from by
    have h1:=G.size;simp at h1 ⊢;omega)
   clear q6 qf c6 c7 c8 c9 f6 f7 f8 f9 c1 c2;obtain⟨l6,f1⟩:∃w',w3.setCell ⟨b,6,Y⟩ (Q T (s.ks.length+1) U)=w':=⟨_,rfl⟩;rw[f1]at e3 h9 q7 d6 ⊢;change Hid _ at f1;go_wp2_with (at_builtin;refine wpList_append_own _ rfl _ _ 167 rfl w0.heap.size 224 j0 (Q Y 0 0) 1 24 Tryz.underlying167 hj k6 k7 k8 rfl (by decide) _ _ _ rfl (h9.alloc _) ⟨l6.heap.size,0,Y⟩ 1 1 [Q Y 0 0] rfl rfl (cell_one_new _ _ _) (λx hx=>by simp at hx;subst hx;rfl) (by unfold maxLen;omega) (by omega) (by have:=d6.out;simp;omega) ?_;intro S2 w4 o4 g4 n4;have c5:=aa (show ((w3.setCell ⟨b,6,Y⟩ (Q T (s.ks.length+1) U)).alloc (.cells #[Q Y 0 0] 224)).grownBy w4 S.ownBlock from by rw[a7.out,f1.out];exact g4);have j4:=aa o4;obtain⟨n0,n1,rfl⟩:=cd o4;have m8:=(iP (m.Ou G c5)).2.2.2.1;have m9:=(iP (m.Ou G c5)).2.2.2.2.2.2.2.1;clear o4 g4 n4)
   go_meet
   case rel=>
    have b8:=m.more (Zb c0 (by have:=a0.size;omega)) j3 G j4 c5;refine⟨_,_,_,by rw[a4.out,Vc];exact e5,a1,by rw[a4.out];exact b8.1,m.box G c5 f2,a0.trans b8.2⟩
  have j8:((i:Int)==(s.ks.length:Int))=false:=by simp;omega
  have a4:=aa (show dA key s=s by unfold dA;rw[HI.out,if_neg hf]);have a1:=aa (show ¬(i=s.ks.length/\d<=s.ks.length) from λh=>hf h.1);have e5:=aa (show i<s.ks.length by omega);clear hf;go_wp2_with fail;go_meet
  case rel=>exact⟨K,S,vs,by rw[a4.out];exact e5,a1,by rw[a4.out];exact m,f2,a0⟩
 case rest=>
 obtain⟨K2,S2,A,m4,a1,E,H,F⟩:=hcut;have i4:=aa (show kR d f key x s=IF f x i (dA key s) by unfold kR;rw[HI.out,if_neg a1.out]);have e8:=aa (show ∀(j:Nat) l,(dA key s).ss[j]? = Z l->l.length<=10000000/\(x.K=115->∀k,k<=l.length->(aI (l.take k)).length<=1000) by
  intro j l M;unfold dA at M;split at M
  .by_cases hj:j<s.ss.length
   .rw[Zc hj]at M;exact V.out j l M
   rw[Ub (by omega)]at M;have:l=[]:=by
    cases hq:j - s.ss.length with
    | zero=>rw[hq]at M;cases M;rfl
    | succ n=>rw[hq]at M;simp at M
   subst this;exact⟨by simp,λ_ k _=>by simp[aI]⟩
  exact V.out j l M)
 have i2:=aa (show (dA key s).drp=s.drp by unfold dA;split<;>rfl);have m6:(dA key s).ks.length<=1001:=by
  unfold dA;split
  .rw[Vc];show s.ks.length+1<=1001;omega
  omega
 clear c1 c2 c6 c7 c8 c9 f6 f7 f8 f9 m f2 a0 e4 a7 HZ V a1 i9;generalize dA key s=p at *;have j5:=E.len;have g3:=E.kV;have j9:i<A.length:=by omega
 obtain⟨v,hv⟩:∃v,A[i]? = Z v:=⟨_,Wb j9⟩;obtain⟨l,M⟩:∃l,p.ss[i]? = Z l:=⟨_,Wb (by omega)⟩;have HV:=aa hv;have HL:=aa M;have d4:=e8.out i l M;have g9:=aa (show p.ss.getD i []=l by rw[List.getD_eq_getElem?_getD,M];rfl);have R:=E.each i v l hv M;obtain⟨va,vc,rfl⟩:=cd R;have d0:=aa R;obtain⟨SB,a9,b7,j6,q⟩:∃SB a9,S2=Q (Z ⟨SB,0,Y⟩) A.length a9/\A.length<=a9/\wc.cell? ⟨SB,i,Y⟩=Z (Q va l.length vc):=by
  rcases E.rows.2 with ⟨_,h0⟩|⟨g,cp,b6,h1,h2,h3,h4,h5,h6,h7⟩
  .omega
  refine⟨g,cp,h1,h4,?_⟩;have hs:af wc g 224 b6:=h3;refine hs.cell i _ ?_;have:(b6.toList.take (A.length*1))[i]? = Z (Q va l.length vc):=by rw[h7];exact hv
  rw[List.getElem?_take]at this;split at this
  .simpa using this
  cases this
 have a2:=aa b7;obtain⟨c1,c2,c6,c7,c8,c9,f6,f7,f8,f9⟩:=iP E.head;rw[c4.out]at c2;rw[b7]at c7;have m7:(i:Int)<(A.length:Int):=by omega
 obtain⟨b0,b1,b2,b3,b4,b5⟩:=kn H;change Hid _ at j5;clear hv M R b7 g3 c6;go_upto_if 55 with fail
 go_cut [] from 8 (λwx=>Hid (¬(x.K=115/\B x.wb∉aI l/\f<=(aI l).length))/\Hid (Rw w0 wx b c p.ks p.ss rej s.drp K2 S2 A)/\Hid (af wx X 218 #[L x.nb,I .u8 x.K,I O x.v,L x.wb,I O x.r,x.tv])/\Hid (Below w0.heap.size w wx))
 case first=>
  by_cases D:x.K=115
  .have k0:(x.K==115)=true:=by simp[D]
   have hW:=d4.2 D;have j1:=words _ l wc (CM d0) (by omega) hW;have k1:(aI l).length<=1000:=by have:=hW l.length (Va _);rw[vd]at this;exact this
   change Hid _ at D;clear hW d4;go_wp2_with fail;refine j1.mono ?_;clear j1;rintro e w5 ⟨⟨u,rfl,hu⟩,d2⟩;have a5:=aa (E.keep d2);have f3:=aa (H.below d2 H.lt);have d9:=aa (F.trans (d2.mono (Zb c0 F.size)));have d7:=has u (aI l) x.wb w5 hu k1;obtain⟨ua,uc,rfl⟩:=fP hu;clear c1 c2 c7 c8 c9 f6 f7 f8 f9 b0 b1 b2 b3 b4 b5 d2 hu q;obtain⟨c1,c2,c6,c7,c8,c9,f6,f7,f8,f9⟩:=iP a5.head;rw[c4.out]at c2;obtain⟨b0,b1,b2,b3,b4,b5⟩:=kn f3;go_wp2_with fail;refine d7.mono ?_;clear d7;rintro e w' ⟨rfl,k2⟩;subst w';by_cases t:B x.wb∈aI l
   .rw[decide_eq_true t];have P:=aa (show ¬(x.K=115/\B x.wb∉aI l/\f<=(aI l).length) from λh=>h.2.1 t);clear t;go_wp2_with fail;go_meet
    case rel=>exact⟨P,a5,f3,d9⟩
   rw[decide_eq_false t];by_cases o:f<=(aI l).length
   .have f5:(f:Int)<=((aI l).length:Int):=by omega
    have HE:=aa (show IF f x i p=⟨p.ks,p.ss,p.drp+1⟩ by unfold IF;rw[g9.out,if_pos ⟨D,t,o⟩]);have a6:=aa (a5.QQ (s.drp+1));have a3:=aa (d9.setCell (p:=⟨b,9,Y⟩) a5.far (I O ((s.drp+1:Nat):Int)));rw[show ((s.drp+1:Nat):Int)=(s.drp:Int)+1 by omega]at a6 a3;clear t;go_wp2_with fail
    try simp only[Exit.inBlock,Exit.then]
    refine Xa (results_none rfl _ _ _) rfl ?_;refine⟨rfl,?_⟩;rw[i4.out,HE.out,i2.out];exact⟨⟨_,_,_,a6⟩,a3⟩
   have f5:¬(f:Int)<=((aI l).length:Int):=by omega
   have P:=aa (show ¬(x.K=115/\B x.wb∉aI l/\f<=(aI l).length) from λh=>o h.2.2);clear t;go_wp2_with fail;go_meet
   case rel=>exact⟨P,a5,f3,d9⟩
  have k0:(x.K==115)=false:=by simp[D]
  have P:=aa (show ¬(x.K=115/\B x.wb∉aI l/\f<=(aI l).length) from λh=>D h.1);go_wp2_with fail;go_meet
  case rel=>exact⟨P,E,H,F⟩
 case rest=>
 clear c1 c2 c7 c8 c9 f6 f7 f8 f9 b0 b1 b2 b3 b4 b5 q d0 E H F;obtain⟨P,E,H,F⟩:=hcut;have HE:=aa (show IF f x i p=⟨p.ks,p.ss.set i (l++[x]),p.drp⟩ by unfold IF;rw[g9.out,if_neg P.out]);have d0:=aa (Apn.weaken (E.each i _ l HV HL));have e7:=aa (E.each i _ l HV HL);obtain⟨c1,c2,c6,c7,c8,c9,f6,f7,f8,f9⟩:=iP E.head;rw[a2.out]at c7;obtain⟨b0,b1,b2,b3,b4,b5⟩:=kn H;obtain⟨l9,W⟩:=au E.rows (k:=SB) (by rw[a2.out];simp[Xc]);have q:wc.cell? ⟨SB,i,Y⟩=Z (Q va l.length vc):=by
  rcases E.rows.2 with ⟨h0,_⟩|⟨g,cp,b6,h1,h2,h3,h4,h5,h6,h7⟩
  .rw[a2.out]at h0;cases h0
  rw[a2.out]at h1;injection h1 with e1 _ _;injection e1 with e1;injection e1 with e1;subst e1;have hs:af wc SB 224 b6:=h3;refine hs.cell i _ ?_;have:(b6.toList.take (A.length*1))[i]? = Z (Q va l.length vc):=by rw[h7];exact HV
  rw[List.getElem?_take]at this;split at this
  .simpa using this
  cases this
 have i5:=aa W;have i1:=aa (show x.tv.oneCell'=true by rw[f0.out];rfl);have m1:=H.lt;have m2:=E.head.lt;have j7:=W.lt;have m5:=d4.1;have d5:Hid (SB∉(Value.slice va l.length vc).ownBlock.toList):=bt e7 W (by decide);have g7:Hid (b∉(Value.slice va l.length vc).ownBlock.toList):=bt e7 E.head (by decide);clear W c1 c2 c6 c8 c9 f6 f8 f9 d4;go_upto_region 13 with fail;go_region_law (refine Apn.eG rfl (.tmp 98) (.tmp 100) 224 rfl 218 m0 (.agg #[L ⟨#[]⟩,I .u8 0,I O 0,L ⟨#[]⟩,I O 0,Q Y 0 0]) 6 80 Tryz.underlying224 hm k3 k4 k5 rfl (by decide) (Q va l.length vc) _ _ rfl (Ig d0 _) _ 1 1 [L x.nb,I .u8 x.K,I O x.v,L x.wb,I O x.r,x.tv] rfl (Bc _ x _ _ rfl i1) (by unfold maxLen;omega) (by omega) ?_;intro v5 x5 e6 e2 e9 l3;obtain⟨l4,l5,rfl⟩:=cd e6;have d3:=dR (w:=wc.drew) e2;have y7:=(iP (Foot.af.off (w:=wc.drew) E.head d3 g7)).2.2.2.1;rw[a2.out]at y7;have i6:=Foot.af.off (w:=wc.drew) i5 d3 d5;have yf:=i6.frozen i;have yc:=World.cell?_of_block (w:=wc.drew) (w':=x5) (a:=⟨SB,i,Y⟩) (d3.block SB j7 d5);rw[show wc.drew.cell? ⟨SB,i,Y⟩=Z (Q va l.length vc) from q]at yc;change Hid _ at e6 e2 e9;clear l3 i6 d3)
 all_goals
  have i3:=aa (E.drew.put (x:=x) (v':=Q l4 (l.length+1) l5) (Zb c0 F.size) a2 HV HL (by
   refine fw (by rw[tA];exact e6) λk hk=>?_
   rcases e9.out with e|⟨g,e,hg⟩
   .exact(e7.lt k (e▸hk)).1
   .rw[e]at hk;cases hk;have:=F.size;simp at hg;omega) e2 (by
   rcases e9.out with e|⟨g,e,hg⟩
   .exact eb e
   refine Uc ⟨g,e,?_⟩;simp at hg;show wc.drew.heap.size<=g;simp;omega))
  go_wp2_with fail;go_end0;refine⟨rfl,?_⟩;rw[i4.out,HE.out,i2.out];exact⟨⟨_,_,_,i3.1⟩,F.trans ((Ue _ _).drew.trans i3.2)⟩
end Ra
namespace Refr
open Go.RowKit Bytes Nums Refs Numw Mem Refw Refn Refv Refi Refl Tagw
def kU (a:ByteArray)(K v:Int)(c:ByteArray)(r:Int)(b:C):Value:=.agg #[L a,I .u8 K,I O v,L c,I O r,b]
def NK (l:List UInt8)(w:N)(e:Ending)(d:N):Prop:=
 Below w.heap.size w d/\((bZ l=Y/\∃a K v b r f sl g,e=ca (Ua #[kU a K v b r (Q f sl g),bO false]))\/
  (∃(m:Rs) (a b:ByteArray) (c:C),bZ l=Z m/\B a=m.name/\B b=m.word/\Strs w.heap.size d c m.tags/\e=ca (Ua #[kU a m.kind m.value b m.cw c,bO true])))
variable {a d e f g:List UInt8}{h i:Nat}{j m o q s t:C}{u:ByteArray}{x:Bool}{y:List (List UInt8)}
theorem bV {B b:Nat}{w c:N}(h:Below B w c)(a:B<=b)(d e f g i j:C):
  Below B w ((((((c.setCell ⟨b,0,Y⟩ d).setCell ⟨b,1,Y⟩ e).setCell ⟨b,2,Y⟩ f).setCell ⟨b,3,Y⟩ g).setCell ⟨b,4,Y⟩ i).setCell ⟨b,5,Y⟩ j):=
 (((((h.setCell a _).setCell a _).setCell a _).setCell a _).setCell a _).setCell a _
theorem vB (h:made oA 16 (tw [58,124] a)=false):bZ a=Y:=by
 rw[bZ,if_neg (by rw[h];simp)]
theorem mF {l:List UInt8}(h:¬l[(tw [58,124] l).length]? = Z 58):bZ l=Y:=by
 rw[bZ,if_neg (λa=>h a.2)]
theorem ID (h:made oA 16 (tw [58,124] a)=true)(b:a[(tw [58,124] a).length]? = Z 58):bZ a=za a (tw [58,124] a) (tw [58,124] a).length:=by
 rw[bZ,if_pos ⟨h,b⟩]
theorem get_at {b:UInt8}(a:h<u.size)(c:(u[h].toNat:Int)=(b.toNat:Int)):(B u)[h]? = Z b:=by
 rw[gO a];congr 1;apply UInt8.toNat_inj.1;omega
theorem Ay {b:UInt8}(a:h<u.size)(c:¬(u[h].toNat:Int)=(b.toNat:Int)):¬(B u)[h]? = Z b:=by
 rw[gO a];intro e;cases e;exact c rfl
theorem xW {b:UInt8}(a:¬h<u.size):¬(B u)[h]? = Z b:=by
 rw[List.getElem?_eq_none (by rw[<-aj];omega)];simp
theorem NF (s:ByteArray)(d:s.size<=140737488355328)(w:N):
  Vd Xb 131 #[L s,I O 0,L ⟨#[58,124]⟩] w λe a=>(∃z,e=ca (Ua #[L z,I O (z.size:Int)])/\B z=tw [58,124] (B s)/\z.size<=s.size)/\∃n,a=w.drewN n:=by
 refine(Mv s ⟨#[58,124]⟩ 0 (Nat.zero_le _) d (by decide) w).mono λe a h=>?_
 obtain⟨⟨z,b,hz,f⟩,c⟩:=h;refine⟨⟨z,?_,hz,by omega⟩,c⟩;rw[b,Nat.zero_add]
set_option maxRecDepth 100000 in
theorem lQ (s:ByteArray)(f:s.size<=140737488355328)(w:N)(a:made oA 16 (tw [58,124] (B s))=false):
  Vd Xb 132 #[L s] w λe b=>NK (B s) w e b:=by
 change Hid _ at a;go_in;go_wp2_with (go_at_call 131;refine(NF s f _).mono ?_;rintro e b ⟨⟨g,rfl,c,d⟩,h,rfl⟩)
 refine(Kb g 16 (by omega) _).mono ?_;rintro e b ⟨rfl,rfl⟩;rw[c,a.out];go_wp2_with fail;go_returns
 exact⟨bV (ax ((ai _).alloc (by simp) _)) (Va _) _ _ _ _ _ _,eb ⟨vB a,_,_,_,_,_,_,_,_,rfl⟩⟩
theorem yX (s t:ByteArray)(a:Nat)(d:a+1<=s.size)(i:s.size<=140737488355328)(j:t.size<=2)(w:N):
  Vd Xb 131 #[L s,I O ((a:Int)+1),L t] w λe c=>(∃z p,e=ca (Ua #[L z,I O ((p:Nat):Int)])/\B z=tw (B t) ((B s).drop (a+1))/\p=a+1+z.size/\p<=s.size)/\∃n,c=w.drewN n:=by
 refine(Mv s t (a+1) d i j w).mono λe c h=>?_
 obtain⟨⟨z,f,hz,b⟩,g⟩:=h;exact⟨⟨z,_,f,hz,rfl,b⟩,g⟩
theorem Rm (s t:ByteArray)(a:Nat)(d:a+2<=s.size)(i:s.size<=140737488355328)(j:t.size<=2)(w:N):
  Vd Xb 131 #[L s,I O ((a:Int)+2),L t] w λe c=>(∃z p,e=ca (Ua #[L z,I O ((p:Nat):Int)])/\B z=tw (B t) ((B s).drop (a+2))/\p=a+2+z.size/\p<=s.size)/\∃n,c=w.drewN n:=by
 refine(Mv s t (a+2) d i j w).mono λe c h=>?_
 obtain⟨⟨z,f,hz,b⟩,g⟩:=h;exact⟨⟨z,_,f,hz,rfl,b⟩,g⟩
theorem AR (b:¬i<a.length):dB a h i y=Z y:=by
 cases h<;>rw[dB,if_neg b]
theorem vD (b:h<a.length):dB a (4 - 4) h y=Y:=by
 show dB a 0 h y=Y;rw[dB,if_pos b]
theorem AQ (b:i<a.length)(c:made dm 8 (tw [44] (a.drop (i+1)))=false):dB a h i y=Y:=by
 cases h with
 | zero=>rw[dB,if_pos b]
 | succ h=>rw[dB,if_pos b,c];rfl
theorem IM (b:i<a.length)(c:made dm 8 (tw [44] (a.drop (i+1)))=true):dB a (h+1) i y=dB a h (i+1+(tw [44] (a.drop (i+1))).length) (ins (tw [44] (a.drop (i+1))) y):=by
 rw[dB,if_pos b,if_pos c]
theorem oR (h:1<=u.size):iT (B u)=(!((u[u.size - 1].toNat:Int)==44)&&!((u[u.size - 1].toNat:Int)==35)):=by
 have e:(B u).getLast? = Z u[u.size - 1]:=by
  rw[List.getLast?_eq_getElem?,<-aj,gO (by omega)]
 have d:∀(b c:UInt8),(Z b==Z c)=((b.toNat:Int)==(c.toNat:Int)):=by
  intro b c;by_cases a:b=c
  .subst a;simp
  have f:(Z b==Z c)=false:=by simpa using a
  have g:((b.toNat:Int)==(c.toNat:Int))=false:=by
   simp only[beq_eq_false_iff_ne];intro i;exact a (UInt8.toNat_inj.1 (by omega))
  rw[f,g]
 rw[iT,e,d,d];rfl
theorem ER (t:List UInt8)(l:List (List UInt8)):∀c:List (List UInt8)×Bool,(l.foldl (Refi.step t) c).1.length+(if (l.foldl (Refi.step t) c).2=true then 0 else 1)<=c.1.length+l.length+(if c.2=true then 0 else 1):=by
 induction l with
 | nil=>intro c;exact Va _
 | cons x l e=>
  intro c;rw[List.foldl_cons];have h:=e (Refi.step t c x);have g:(Refi.step t c x).1.length+(if (Refi.step t c x).2=true then 0 else 1)<=c.1.length+1+(if c.2=true then 0 else 1):=by
   obtain⟨a,b⟩:=c;show (((if b=false/\Fy t x=true then a++[t] else a)++(if x=t then [] else [x])).length+(if (b||Fy t x)=true then 0 else 1))<=a.length+1+(if b=true then 0 else 1);rw[Vc];have d:(if x=t then ([]:List (List UInt8)) else [x]).length<=1:=by split<;>simp
   generalize (if x=t then ([]:List (List UInt8)) else [x]).length=m at d;generalize Fy t x=f;cases b<;>cases f<;>simp<;>omega
  simp only[List.length_cons];omega
theorem nM (t:List UInt8)(l:List (List UInt8)):(ins t l).length<=l.length+1:=by
 have h:=ER t l ([],false);unfold ins;split
 .rename_i a;rw[a]at h;simp at h;omega
 rename_i a;rw[if_neg a]at h;rw[Vc];simp at h ⊢;omega
theorem nD {r:Int}  (b:bK f e x=Y):fin a d e f x r h=Y:=by
 rw[fin,b];rfl
theorem uW {r K V:Int}  (b:bK f e x=Z (K,V,g))(c:¬h<a.length):fin a d e f x r h=Z ⟨d,K,V,g,r,[]⟩:=by
 rw[fin,b,Za,if_neg c]
theorem uY {r K V:Int}  (c:bK f e x=Z (K,V,g))(i:h<a.length)(b:¬a[h+1]? = Z 35):fin a d e f x r h=Y:=by
 rw[fin,c,Za,if_pos i,if_neg b]
theorem rl {l n v k b:List UInt8}  {r K V:Int}  (c:bK k v x=Z (K,V,b))(d:h<l.length)(a:l[h+1]? = Z 35):fin l n v k x r h=(dB l 4 (h+1) []).bind λt=>if iT l=true then Z ⟨n,K,V,b,r,t⟩ else Y:=by
 rw[fin,c,Za,if_pos d,if_pos a]
theorem Ep (b:¬a[h+1]? = Z 64):opt a d e f h=fin a d e f false 1000 h:=by
 rw[opt,if_neg b]
theorem qA (b:a[h+1]? = Z 64)(c:IJ (tw [124] (a.drop (h+2)))=Y):opt a d e f h=Y:=by
 rw[opt,if_pos b,c];rfl
theorem uj {p p4:Nat}{r:Int}(h:a[p+1]? = Z 64)(c:g=tw [124] (a.drop (p+2)))(b:p4=p+2+g.length)(i:IJ g=Z r):opt a d e f p=fin a d e f true r p4:=by
 subst b c;rw[opt,if_pos h,i];rfl
theorem LU (h:(u.toList==[49])=true):IJ (B u)=Z 1000:=by
 have e:B u=[49]:=by
  rw[Xd]at h;simpa[B] using h
 rw[IJ,if_pos e]
theorem qB (h:(u.toList==[49])=false)(a:(B u).length<3\/(B u)[0]?≠Z 48\/(B u)[1]?≠Z 46\/aw (B u)<1):IJ (B u)=Y:=by
 have e:¬B u=[49]:=by
  rw[Xd]at h;simpa[B] using h
 rw[IJ,if_neg e,if_pos a]
theorem IK (h:(u.toList==[49])=false)(c:¬(B u).length<3)(a:(B u)[0]? = Z 48)(b:(B u)[1]? = Z 46)(d:¬aw (B u)<1):IJ (B u)=Z (aw (B u)):=by
 have e:¬B u=[49]:=by
  rw[Xd]at h;simpa[B] using h
 rw[IJ,if_neg e,if_neg];rintro(h|h|h|h)
 .exact c h
 .exact h a
 .exact h b
 exact d h
theorem Fj (b:¬h+1+(tw [124] (a.drop (h+1))).length<a.length):za a d h=Y:=by
 rw[za,if_neg b]
theorem Mz {l n v k:List UInt8}{p p2 p3:Nat}(d:v=tw [124] (l.drop (p+1)))(a:p2=p+1+v.length)(h:p2<l.length)(c:k=tw [124] (l.drop (p2+1)))(b:p3=p2+1+k.length):za l n p=opt l n v k p3:=by
 subst b c a d;rw[za,if_pos h]
def lV:Array Value:=#[L ⟨#[]⟩,I .u8 0,I O 0,L ⟨#[]⟩,I O 0,Q Y 0 0]
structure oE (w W:N)(cs:Array C):Prop where
 below:Below w.heap.size w W
 res:af W w.heap.size 218 lV
 own:af W (w.heap.size+1) 218 cs
theorem oE.drewN {w W:N}{a:Array C}(h:oE w W a)(n:Nat):oE w (W.drewN n) a:=⟨ax h.below,h.res,h.own⟩
theorem oE.cw {w W:N}  (h:oE w W #[j,m,o,q,s,t])(v:C):oE w (W.setCell ⟨w.heap.size+1,4,Y⟩ v) #[j,m,o,q,v,t]:=
 ⟨h.below.setCell (by simp) _,h.res.but ((bS.refl _ _).set 4 _) (by omega),h.own.set 4 _⟩
theorem oE.grow {w W b:N}{c:Array C}(h:oE w W c)(a:Below W.heap.size W b):oE w b c:=⟨h.below.trans (a.mono h.below.size),h.res.below a h.res.lt,h.own.below a h.own.lt⟩
theorem oE.tag {w W:N}  (h:oE w W #[j,m,o,q,s,t])(v:C):oE w (W.setCell ⟨w.heap.size+1,5,Y⟩ v) #[j,m,o,q,s,v]:=
 ⟨h.below.setCell (by simp) _,h.res.but ((bS.refl _ _).set 5 _) (by omega),h.own.set 5 _⟩
theorem oE.start (w:N)(c:ByteArray)(n:Nat)(a:Array C):oE w ((((w.alloc (.cells lV 218)).alloc (.cells a 218)).drewN n).setCell ⟨w.heap.size+1,0,Y⟩ (L c)) (a.setIfInBounds 0 (L c)):=by
 have d:Below w.heap.size w (((w.alloc (.cells lV 218)).alloc (.cells a 218)).drewN n):=ax ((ai _).alloc (by simp) _);have g:af (((w.alloc (.cells lV 218)).alloc (.cells a 218)).drewN n) w.heap.size 218 lV:=((af.new w _ _).alloc _).drewN _;have f:af (((w.alloc (.cells lV 218)).alloc (.cells a 218)).drewN n) (w.heap.size+1) 218 a:=by
  have e:w.heap.size+1=(w.alloc (.cells lV 218)).heap.size:=by simp
  rw[e];exact(af.new _ _ _).drewN _
 refine⟨d.setCell (by simp) _,?_,f.set 0 _⟩;exact g.but (b:=w.heap.size+1) ((bS.refl _ _).set 0 _) (by omega)
set_option maxRecDepth 100000 in
theorem AM (s:ByteArray)(hs:s.size<=140737488355328)(w:N)(HM:made oA 16 (tw [58,124] (B s))=true):
  Vd Xb 132 #[L s] w λe w'=>NK (B s) w e w':=by
 change Hid _ at HM;go_in;go_wp2_with (go_at_call 131;refine(NF s hs _).mono ?_;rintro e w' ⟨⟨d,rfl,HN,h8⟩,n1,rfl⟩)
 refine(Kb d 16 (by omega) _).mono ?_;rintro e w' ⟨rfl,rfl⟩;rw[HN,HM.out];by_cases d7:d.size<s.size
 .have e4:¬(s.size:Int)<=(d.size:Int):=by omega
  by_cases a9:(s[d.size].toNat:Int)=58
  .have g3:((s[d.size].toNat:Int) != 58)=false:=by simpa using a9
   have b1:=ID HM (by rw[<-HN,<-aj];exact get_at d7 a9);rw[<-HN,<-aj]at b1;change Hid _ at b1 HN;clear a9;go_wp2_with fail;obtain⟨W,hW⟩:∃W,W=((((w.alloc (.cells lV 218)).alloc (.cells #[L ⟨#[]⟩,I .u8 0,I O 0,L ⟨#[]⟩,I O 1000,Q Y 0 0] 218)).drewN n1).setCell ⟨w.heap.size+1,0,Y⟩ (L d)):=⟨_,rfl⟩;have h2:oE w W #[L d,I .u8 0,I O 0,L ⟨#[]⟩,I O 1000,Q Y 0 0]:=by
    rw[hW];exact oE.start w d n1 _
   refine Eq.mp (congrArg (λX=>Vd Xb 131 #[L s,I O ((d.size:Int)+1),L ⟨#[124]⟩] X _) hW) ?_;clear hW;have H2:=aa h2;obtain⟨z,A,D,E,F,G⟩:=aR h2.res;obtain⟨z0,z1,z2,z3,z4,z5⟩:=bN h2.res;obtain⟨c0,c1,c2,c3,c4,c5⟩:=aR h2.own;clear h2;refine(yX s ⟨#[124]⟩ d.size (by omega) hs (by decide) _).mono ?_;rintro e w' ⟨⟨vb,p2,rfl,hv,b9,h3⟩,n2,rfl⟩;have h4:vb.size<=s.size:=by omega
   change Hid _ at b9;have HV:=aa hv;clear hv;by_cases c9:p2<s.size
   .have d8:¬(s.size:Int)<=(p2:Int):=by omega
    go_wp2_with fail;refine(yX s ⟨#[124]⟩ p2 (by omega) hs (by decide) _).mono ?_;rintro e w' ⟨⟨kd,p3,rfl,hk,e7,e8⟩,n3,rfl⟩;have g:=Mz (l:=B s) (n:=B d) (v:=B vb) (k:=B kd) (p:=d.size) (p2:=p2) (p3:=p3) HV (by rw[b9.out,aj vb]) (by rw[<-aj];exact c9) hk (by rw[e7,aj kd]);rw[<-b1.out]at g;change Hid _ at g;clear b1 hk e7 b9 HV;obtain⟨rt,y⟩:∃rt,decide ((B s)[p3+1]? = Z 64)=rt:=⟨_,rfl⟩;have t:=aa y;clear y;go_upto_region 11 with fail;go_cut [10] from 11 to 157 (λg7 wx=>g7=bO rt/\wx=W.drewN (n2+n3))
    case first=>
     by_cases c7:p3+1<s.size
     .have f4:(p3:Int)+1<(s.size:Int):=by omega
      by_cases c8:(s[p3+1].toNat:Int)=64
      .have f6:((s[p3+1].toNat:Int)==64)=true:=by simpa using c8
       go_wp2_with fail;go_meet;exact⟨by rw[<-t.out,decide_eq_true (get_at (b:=64) c7 c8)],rfl⟩
      have f6:((s[p3+1].toNat:Int)==64)=false:=by simpa using c8
      go_wp2_with fail;go_meet;exact⟨by rw[<-t.out,decide_eq_false (Ay (b:=64) c7 c8)],rfl⟩
     have f4:¬(p3:Int)+1<(s.size:Int):=by omega
     go_wp2_with fail;go_meet;exact⟨by rw[<-t.out,decide_eq_false (xW (b:=64) c7)],rfl⟩
    case rest=>
    obtain⟨rfl,rfl⟩:=hcut;go_upto_if 71 with fail
    go_cut [6] from 11 to 157 (λs6 wx=>∃(r:Int) (o:Nat),s6=I O (o:Int)/\o<=s.size/\Hid (bZ (B s)=fin (B s) (B d) (B vb) (B kd) rt r o)/\Hid (oE w wx #[L d,I .u8 0,I O 0,L ⟨#[]⟩,I O r,Q Y 0 0]))
    case first=>
     by_cases f:(B s)[p3+1]? = Z 64
     .have y:=t.out;rw[decide_eq_true f]at y;subst y;have c7:p3+1<s.size:=by
       rw[aj];exact(qb.1 f).1
      change Hid _ at f;clear t;have y4:=H2.own.frozen 4;go_wp2_with fail;refine(Rm s ⟨#[124]⟩ p3 (by omega) hs (by decide) _).mono ?_;rintro e w' ⟨⟨i,o,rfl,hq,J,b5⟩,n5,rfl⟩;have i2:i.size<=s.size:=by omega
      have HQ:Hid (B i=tw [124] ((B s).drop (p3+2))):=hq;change Hid _ at J;clear hq;go_wp2_with fail;refine(number i (by omega) _).mono ?_;rintro e w' ⟨rfl,rfl⟩;have i3:=iB (B i);cases q1:(i.toList==[49]) with
      | true=>
       have V:=aa (show bZ (B s)=fin (B s) (B d) (B vb) (B kd) true 1000 o by rw[g.out,uj (p4:=o) f HQ (by rw[J.out,aj i]) (LU q1)]);have j:=aa (((H2.drewN (n2+n3+n5)).cw (I O (aw (B i)))).cw (I O 1000));clear g f HQ J;go_wp2_with fail;go_meet;exact⟨_,_,rfl,b5,V,j⟩
      | false=>
       by_cases l3:i.size<3
       .have g6:(i.size:Int)<3:=by omega
        have a:bZ (B s)=Y:=by rw[g.out,qA f (by rw[<-HQ.out];exact qB q1 (eb (by rw[<-aj];exact l3)))]
        have c:=aa a;have j:=aa ((H2.drewN (n2+n3+n5)).cw (I O (aw (B i))));clear a g f HQ J;go_wp2_with fail;refine Xa (v:=Ua #[kU d 0 0 ⟨#[]⟩ (aw (B i)) (Q Y 0 0),bO false]) (by simp[Yb,Wa,go_sem,z,A,D,E,F,G];rfl) rfl ?_;exact⟨bV j.below (Va _) _ _ _ _ _ _,eb ⟨c,_,_,_,_,_,_,_,_,rfl⟩⟩
       have g6:¬(i.size:Int)<3:=by omega
       have i0:0<i.size:=by omega
       have i1:1<i.size:=by omega
       by_cases d0:(i[0].toNat:Int)=48
       .have g1:((i[0].toNat:Int) != 48)=false:=by simpa using d0
        by_cases d1:(i[1].toNat:Int)=46
        .have g2:((i[1].toNat:Int) != 46)=false:=by simpa using d1
         by_cases dn:aw (B i)<1
         .have a:bZ (B s)=Y:=by rw[g.out,qA f (by rw[<-HQ.out];exact qB q1 (Uc (Uc (Uc dn))))]
          have c:=aa a;have j:=aa ((H2.drewN (n2+n3+n5)).cw (I O (aw (B i))));clear a g f HQ J;clear d0 d1;go_wp2_with fail;refine Xa (v:=Ua #[kU d 0 0 ⟨#[]⟩ (aw (B i)) (Q Y 0 0),bO false]) (by simp[Yb,Wa,go_sem,z,A,D,E,F,G];rfl) rfl ?_;exact⟨bV j.below (Va _) _ _ _ _ _ _,eb ⟨c,_,_,_,_,_,_,_,_,rfl⟩⟩
         have V:=aa (show bZ (B s)=fin (B s) (B d) (B vb) (B kd) true (aw (B i)) o by rw[g.out,uj (p4:=o) f HQ (by rw[J.out,aj i]) (IK q1 (by rw[<-aj];exact l3) (get_at i0 d0) (get_at i1 d1) dn)]);have j:=aa ((H2.drewN (n2+n3+n5)).cw (I O (aw (B i))));clear g f HQ J d0 d1;go_wp2_with fail;go_meet;exact⟨_,_,rfl,b5,V,j⟩
        have g2:((i[1].toNat:Int) != 46)=true:=by simpa using d1
        have a:bZ (B s)=Y:=by rw[g.out,qA f (by rw[<-HQ.out];exact qB q1 (Uc (Uc (eb (Ay i1 d1)))))]
        have c:=aa a;have j:=aa ((H2.drewN (n2+n3+n5)).cw (I O (aw (B i))));clear a g f HQ J;clear d0 d1;go_wp2_with fail;refine Xa (v:=Ua #[kU d 0 0 ⟨#[]⟩ (aw (B i)) (Q Y 0 0),bO false]) (by simp[Yb,Wa,go_sem,z,A,D,E,F,G];rfl) rfl ?_;exact⟨bV j.below (Va _) _ _ _ _ _ _,eb ⟨c,_,_,_,_,_,_,_,_,rfl⟩⟩
       have g1:((i[0].toNat:Int) != 48)=true:=by simpa using d0
       have a:bZ (B s)=Y:=by rw[g.out,qA f (by rw[<-HQ.out];exact qB q1 (Uc (eb (Ay i0 d0))))]
       have c:=aa a;have j:=aa ((H2.drewN (n2+n3+n5)).cw (I O (aw (B i))));clear a g f HQ J;clear d0;go_wp2_with fail;refine Xa (v:=Ua #[kU d 0 0 ⟨#[]⟩ (aw (B i)) (Q Y 0 0),bO false]) (by simp[Yb,Wa,go_sem,z,A,D,E,F,G];rfl) rfl ?_;exact⟨bV j.below (Va _) _ _ _ _ _ _,eb ⟨c,_,_,_,_,_,_,_,_,rfl⟩⟩
     have y:=t.out;rw[decide_eq_false f]at y;subst y;have V:=aa (show bZ (B s)=fin (B s) (B d) (B vb) (B kd) false 1000 p3 by rw[g.out,Ep f]);clear t g;go_wp2_with fail;go_meet;exact⟨_,_,rfl,e8,V,H2.drewN (n2+n3)⟩
    case rest=>
    obtain⟨r,o,rfl,b5,V,j⟩:=hcut;have H:=j.out;clear z A D E F G z0 z1 z2 z3 z4 z5 c0 c1 c2 c3 c4 c5 H2 g j;obtain⟨z,A,D,E,F,G⟩:=aR H.res;obtain⟨z0,z1,z2,z3,z4,z5⟩:=bN H.res;obtain⟨c0,c1,c2,c3,c4,c5⟩:=aR H.own;go_wp2_with fail;refine(Refvj.vT (w.heap.size+1) vb kd rt (by omega) (L d) (I O r) (Q Y 0 0) _ H.own).mono ?_;rintro e w2 ⟨a8,⟨HX,rfl,K,v,m,b2⟩|⟨K,v,x,HX,rfl,m,d5,b2⟩⟩
    .have u:oE w w2 _:=⟨H.below.trans (a8.below (by omega) H.below.size),H.res.but a8 (by omega),b2⟩;clear z A D E F G z0 z1 z2 z3 z4 z5 c0 c1 c2 c3 c4 c5;obtain⟨z,A,D,E,F,G⟩:=aR u.res;obtain⟨z0,z1,z2,z3,z4,z5⟩:=bN u.res;obtain⟨c0,c1,c2,c3,c4,c5⟩:=aR u.own;have a:bZ (B s)=Y:=by rw[V.out,nD HX]
     have c:=aa a;have a7:=aa u;clear u a a8 b2;go_wp2_with fail;refine Xa (v:=Ua #[kU d K v m r (Q Y 0 0),bO false]) (by simp[Yb,Wa,go_sem,z,A,D,E,F,G];rfl) rfl ?_;exact⟨bV a7.below (Va _) _ _ _ _ _ _,eb ⟨c,_,_,_,_,_,_,_,_,rfl⟩⟩
    have u:oE w w2 _:=⟨H.below.trans (a8.below (by omega) H.below.size),H.res.but a8 (by omega),b2⟩;clear z A D E F G z0 z1 z2 z3 z4 z5 c0 c1 c2 c3 c4 c5;obtain⟨z,A,D,E,F,G⟩:=aR u.res;obtain⟨z0,z1,z2,z3,z4,z5⟩:=bN u.res;obtain⟨c0,c1,c2,c3,c4,c5⟩:=aR u.own;have a7:=aa u;change Hid _ at HX d5;clear u a8 b2;by_cases e9:o<s.size
    .have f0:¬(s.size:Int)<=(o:Int):=by omega
     have b6:o<(B s).length:=by rw[<-aj];exact e9
     by_cases R:(B s)[o+1]? = Z 35
     .have d6:=rl (n:=B d) (r:=r) HX b6 R;rw[<-V.out]at d6;have d3:=aa d6;have d9:o+1<s.size:=by
       rw[aj];exact(qb.1 R).1
      have S:(s[o+1].toNat:Int)=35:=by
       rw[gO d9]at R;injection R with e;rw[e];rfl
      have d2:¬(s.size:Int)<=(o:Int)+1:=by omega
      have f1:((s[o+1].toNat:Int) != 35)=false:=by simpa using S
      clear d6 R S b6 V HX;go_wp2_with fail;go_loopw [6,12] (λs6 g8 wr=>∃(k q:Nat) (P:List (List UInt8)) (sa:Option Addr) (sl sc:Nat),s6=I O (q:Int)/\g8=I O (k:Int)/\k<=4/\q<=s.size/\P.length<=k/\Hid (oE w wr #[L d,I .u8 K,I O v,L m,I O r,Q sa sl sc]/\Strs (w.heap.size+2) wr (Q sa sl sc) P/\dB (B s) 4 (o+1) []=dB (B s) (4 - k) q P))
       (λs6 _ _=>s.size - (intOf s6).toNat)
      case atStart=>exact⟨0,o+1,[],Y,0,0,rfl,rfl,by omega,by omega,by simp,⟨a7,eb ⟨rfl,rfl⟩,rfl⟩⟩
      case round=>
       clear z A D E F G z0 z1 z2 z3 z4 z5 c0 c1 c2 c3 c4 c5;obtain⟨k,q,P,sa,sl,sc,rfl,rfl,h6,h9,h5,T⟩:=hrel;have b4:=T.1;obtain⟨z,A,D,E,F,G⟩:=aR b4.res;obtain⟨z0,z1,z2,z3,z4,z5⟩:=bN b4.res;obtain⟨c0,c1,c2,c3,c4,c5⟩:=aR b4.own;have y5:=b4.own.frozen 5;clear b4;by_cases c6:q<s.size
       .have f3:(q:Int)<(s.size:Int):=by omega
        go_wp2_with fail;refine(yX s ⟨#[44]⟩ q (by omega) hs (by decide) _).mono ?_;rintro e w' ⟨⟨tb,q2,rfl,f8,S,f2⟩,n4,rfl⟩;have d4:Hid (B tb=tw [44] ((B s).drop (q+1))):=f8;have e0:=aa S;have i4:tb.size<=s.size:=by omega
        clear f8 S;go_wp2_with fail;refine(mZ tb 8 (by omega) _).mono ?_;rintro e w' ⟨rfl,rfl⟩;cases e6:made dm 8 (B tb) with
        | false=>
         have a:bZ (B s)=Y:=by
          rw[d3.out,T.2.2,AQ (by rw[<-aj];exact c6) (by rw[<-d4.out];exact e6)];rfl
         have c:=aa a;have M:=aa (T.1.drewN n4);clear a T;go_wp2_with fail;refine Xa (v:=Ua #[kU d K v m r (Q sa sl sc),bO false]) (by simp[Yb,Wa,go_sem,z,A,D,E,F,G];rfl) rfl ?_;exact⟨bV M.below (Va _) _ _ _ _ _ _,eb ⟨c,_,_,_,_,_,_,_,_,rfl⟩⟩
        | true=>
         by_cases hk:k=4
         .subst hk;have a:bZ (B s)=Y:=by
           rw[d3.out,T.2.2,vD (by rw[<-aj];exact c6)];rfl
          have c:=aa a;have M:=aa (T.1.drewN n4);clear a T;go_wp2_with fail;refine Xa (v:=Ua #[kU d K v m r (Q sa sl sc),bO false]) (by simp[Yb,Wa,go_sem,z,A,D,E,F,G];rfl) rfl ?_;exact⟨bV M.below (Va _) _ _ _ _ _ _,eb ⟨c,_,_,_,_,_,_,_,_,rfl⟩⟩
         have h7:¬(4:Int)<=(k:Int):=by omega
         go_wp2_with fail;refine(insert (w.heap.size+2) (Q sa sl sc) P tb (wr.drewN n4) T.2.1 (by omega)).mono ?_;rintro e w3 ⟨⟨i6,rfl,b8⟩,e3⟩;obtain⟨g9,h1,h0,rfl⟩:=b8.shape;have b3:=(T.1.drewN n4).grow e3;have e5:=b3.own.Ri 5;have f5:=b3.own.frozen 5;have y:dB (B s) 4 (o+1) []=dB (B s) (4 - (k+1)) q2 (ins (B tb) P):=by
          rw[T.2.2,show 4 - k=(4 - (k+1))+1 by omega,IM (by rw[<-aj];exact c6) (by rw[<-d4.out];exact e6),<-d4.out,e0.out,aj tb]
         have e1:=aa b8;have M:=aa b3;have g0:=aa y;have i5:w.heap.size+2<=w3.heap.size:=b3.own.lt;have f9:=aa (T.1.own.lt);clear b8 b3 y e3;go_wp2_with fail;go_roundw
         case rel=>exact⟨k+1,q2,ins (B tb) P,g9,h1,h0,rfl,by go_num,by omega,f2,Zb (nM _ _) (by omega),⟨M.tag _,(e1.mono (Nat.succ_le_of_lt f9)).set (by omega) 5 _,g0⟩⟩
         case measure=>simp[intOf];have:=e0.out;omega
       have f3:¬(q:Int)<(s.size:Int):=by omega
       have b7:bZ (B s)=if iT (B s)=true then Z ⟨B d,K,v,x,r,P⟩ else Y:=by
        rw[d3.out,T.2.2,AR (by rw[<-aj];exact c6)];rfl
       have U:=aa b7;have M:=aa T.1;have e2:=aa T.2.1;have f7:1<=s.size:=by omega
       have a6:=oR f7;change Hid _ at a6;clear b7 T;by_cases l1:(s[s.size - 1].toNat:Int)=44
       .have g4:((s[s.size - 1].toNat:Int) != 44)=false:=by simpa using l1
        have a:bZ (B s)=Y:=by rw[U.out,a6.out,if_neg (by simp[l1])]
        have c:=aa a;clear a l1;go_wp2_with fail;refine Xa (v:=Ua #[kU d K v m r (Q sa sl sc),bO false]) (by simp[Yb,Wa,go_sem,z,A,D,E,F,G];rfl) rfl ?_;exact⟨bV M.below (Va _) _ _ _ _ _ _,eb ⟨c,_,_,_,_,_,_,_,_,rfl⟩⟩
       have g4:((s[s.size - 1].toNat:Int) != 44)=true:=by simpa using l1
       by_cases l2:(s[s.size - 1].toNat:Int)=35
       .have g5:((s[s.size - 1].toNat:Int) != 35)=false:=by simpa using l2
        have a:bZ (B s)=Y:=by rw[U.out,a6.out,if_neg (by simp[l2])]
        have c:=aa a;clear a l1 l2;go_wp2_with fail;refine Xa (v:=Ua #[kU d K v m r (Q sa sl sc),bO false]) (by simp[Yb,Wa,go_sem,z,A,D,E,F,G];rfl) rfl ?_;exact⟨bV M.below (Va _) _ _ _ _ _ _,eb ⟨c,_,_,_,_,_,_,_,_,rfl⟩⟩
       have g5:((s[s.size - 1].toNat:Int) != 35)=true:=by simpa using l2
       have b0:bZ (B s)=Z ⟨B d,K,v,x,r,P⟩:=by rw[U.out,a6.out,if_pos (by simp[l1,l2])]
       change Hid _ at b0;clear l1 l2;go_wp2_with fail;refine Xa (v:=Ua #[kU d K v m r (Q sa sl sc),bO true]) (by simp[Yb,Wa,go_sem,z,A,D,E,F,G];rfl) rfl ?_;refine⟨bV M.below (Va _) _ _ _ _ _ _,Uc ⟨_,d,m,_,b0,rfl,d5,?_,rfl⟩⟩;exact((((((e2.set (by omega) 0 _).set (by omega) 1 _).set (by omega) 2 _).set (by omega) 3 _).set (by omega) 4 _).set (by omega) 5 _).mono (by omega)
     have a:bZ (B s)=Y:=by rw[V.out,uY HX b6 R]
     have c:=aa a;by_cases d9:o+1<s.size
     .have S:¬(s[o+1].toNat:Int)=35:=λh=>R (get_at d9 h)
      have d2:¬(s.size:Int)<=(o:Int)+1:=by omega
      have f1:((s[o+1].toNat:Int) != 35)=true:=by simpa using S
      clear a R S b6 V HX;go_wp2_with fail;refine Xa (v:=Ua #[kU d K v m r (Q Y 0 0),bO false]) (by simp[Yb,Wa,go_sem,z,A,D,E,F,G];rfl) rfl ?_;exact⟨bV a7.below (Va _) _ _ _ _ _ _,eb ⟨c,_,_,_,_,_,_,_,_,rfl⟩⟩
     have d2:(s.size:Int)<=(o:Int)+1:=by omega
     clear a R b6 V HX;go_wp2_with fail;refine Xa (v:=Ua #[kU d K v m r (Q Y 0 0),bO false]) (by simp[Yb,Wa,go_sem,z,A,D,E,F,G];rfl) rfl ?_;exact⟨bV a7.below (Va _) _ _ _ _ _ _,eb ⟨c,_,_,_,_,_,_,_,_,rfl⟩⟩
    have f0:(s.size:Int)<=(o:Int):=by omega
    have b0:bZ (B s)=Z ⟨B d,K,v,x,r,[]⟩:=by rw[V.out,uW HX (by rw[<-aj];exact e9)]
    change Hid _ at b0;clear V HX;go_wp2_with fail;refine Xa (v:=Ua #[kU d K v m r (Q Y 0 0),bO true]) (by simp[Yb,Wa,go_sem,z,A,D,E,F,G];rfl) rfl ?_;exact⟨bV a7.below (Va _) _ _ _ _ _ _,Uc ⟨_,d,m,_,b0,rfl,d5,eb ⟨rfl,rfl⟩,rfl⟩⟩
   have d8:(s.size:Int)<=(p2:Int):=by omega
   go_wp2_with fail;refine Xa (v:=Ua #[kU d 0 0 ⟨#[]⟩ 1000 (Q Y 0 0),bO false]) (by simp[Yb,Wa,go_sem,z,A,D,E,F,G];rfl) rfl ?_;exact⟨bV (ax H2.below) (Va _) _ _ _ _ _ _,eb ⟨by rw[b1.out];exact Fj (by have e:B vb=tw [124] ((B s).drop (d.size+1)):=HV;rw[<-aj,<-e,<-aj,<-b9.out];exact c9),_,_,_,_,_,_,_,_,rfl⟩⟩
  have g3:((s[d.size].toNat:Int) != 58)=true:=by simpa using a9
  have a:=mF (l:=B s) (by rw[<-HN,<-aj];exact Ay d7 a9);have c:=aa a;clear a a9;go_wp2_with fail;go_returns
  exact⟨bV (ax ((ai _).alloc (by simp) _)) (Va _) _ _ _ _ _ _,eb ⟨c,_,_,_,_,_,_,_,_,rfl⟩⟩
 have e4:(s.size:Int)<=(d.size:Int):=by omega
 have a:=mF (l:=B s) (by rw[<-HN,<-aj];exact xW d7);have c:=aa a;clear a;go_wp2_with fail;go_returns
 exact⟨bV (ax ((ai _).alloc (by simp) _)) (Va _) _ _ _ _ _ _,eb ⟨c,_,_,_,_,_,_,_,_,rfl⟩⟩
theorem read (s:ByteArray)(b:s.size<=140737488355328)(w:N):
  Vd Xb 132 #[L s] w λe c=>NK (B s) w e c:=by
 cases a:made oA 16 (tw [58,124] (B s)) with
 | false=>exact lQ s b w a
 | true=>exact AM s b w a
end Refr
namespace Sorts
open Bytes Refi Bounds
abbrev Tx:=List UInt8
def SS (l:List Tx):Prop:=l.Pairwise (·<·)
theorem mQ (a:Tx):¬a<a:=List.lt_irrefl a
variable {a d:Tx}
theorem oT {a b c:Tx}(h:a<b)(k:b<c):a<c:=List.lt_trans h k
theorem DZ {a b:Tx}(h:a<b):¬b<a:=λk=>mQ a (oT h k)
theorem SF {a b:Tx}(h:¬a<b)(k:¬b<a):a=b:=List.le_antisymm (List.not_lt.1 k) (List.not_lt.1 h)
theorem nP:Fy a d=true↔a<d\/a=d:=by
 rw[Fy,bytesLess_eq];simp
theorem Ls (h:Fy a d=false):d<a:=by grind [nP]
theorem vI:∀(l m:List Tx),SS l->SS m->(∀x,x∈l↔x∈m)->l=m:=by
 intro l
 induction l with
 | nil=>
  intro m _ _ h;cases m with
  | nil=>rfl
  | cons b m=>exact absurd ((h b).2 (Ya ..)) (by simp)
 | cons a l i=>
  intro m f g h;cases m with
  | nil=>exact absurd ((h a).1 (Ya ..)) (by simp)
  | cons b m=>
   have d:=Wc.1 f;have e:=Wc.1 g;have c:a=b:=by grind [Ya]
   subst c;rw[i m d.2 e.2];intro x;grind
def qg (t:Tx):List Tx->List Tx
 | []=>[t]
 | x ::l=>if Fy t x=true then t ::(x ::l).filter (λy=>!(y==t)) else x ::qg t l
theorem nG (t:Tx)(l:List Tx):∀a,l.foldl (Refi.step t) (a,true)=(a++l.filter (λy=>!(y==t)),true):=by
 induction l with
 | nil=>intro a;simp
 | cons x l b=>
  intro a;grind [Refi.step]
theorem Ld (t:Tx)(l:List Tx):∀a,(if (l.foldl (Refi.step t) (a,false)).2=true then (l.foldl (Refi.step t) (a,false)).1 else (l.foldl (Refi.step t) (a,false)).1++[t])=a++qg t l:=by
 induction l with
 | nil=>intro a;simp[qg]
 | cons x l b=>
  intro a;grind [nG,Fy,Refi.step,qg]
theorem rC (t:Tx)(l:List Tx):ins t l=qg t l:=by
 have:=Ld t l [];rw[List.nil_append]at this;rw[<-this];rfl
theorem sy (t:Tx)(l:List Tx)(x:Tx):x∈qg t l↔x=t\/x∈l:=by
 induction l with
 | nil=>simp[qg]
 | cons y l a=>grind [qg]
theorem CI (t:Tx)(l:List Tx)(h:SS l):SS (qg t l):=by
 induction l with
 | nil=>exact List.pairwise_singleton _ _
 | cons y l d=>
  have b:=Wc.1 h;rw[qg];split
  .rename_i a;refine Wc.2 ⟨λx c=>?_,h.filter _⟩;grind [nP]
  rename_i a;refine Wc.2 ⟨λx c=>?_,d b.2⟩;grind [sy,Ls]
def jy (b:List Tx)(c:List Tx):List Tx:=c.foldl (λa t=>ins t a) b
theorem oP (b:List Tx):∀a,SS a->SS (jy a b):=by
 induction b with
 | nil=>intro a h;exact h
 | cons t b c=>grind [rC,CI,jy,ins]
theorem mO (b:List Tx):∀a x,x∈jy a b↔x∈a\/x∈b:=by
 induction b with
 | nil=>grind [jy]
 | cons t b c=>
  intro a x;show x∈jy (ins t a) b↔_;grind [rC,sy]
theorem qU (a:List Tx)(h:a.Pairwise (·<=·)):SS (ad a):=by
 unfold ad Zd SS;rw[List.pairwise_map];have e:(List.range a.length).Pairwise (·<·):=List.pairwise_lt_range;refine(e.filter _).imp_of_mem λ{i j} b c d=>?_
 rw[List.mem_filter,List.mem_range]at b c;have f:a.toArray[i]! = a[i]:=by simp[b.1]
 have g:a.toArray[j]! = a[j]:=by simp[c.1]
 have k:=List.pairwise_iff_getElem.1 h;grind [Lib.keeps]
theorem wE (a:List Tx):∀(j:Nat) (b:j<a.length),a[j]∈ad a:=by
 intro j
 induction j with
 | zero=>
  intro b;unfold ad Zd;rw[List.mem_map];refine⟨0,?_,by simp[b]⟩;grind [Lib.keeps]
 | succ j c=>
  intro b;by_cases e:a[j+1]=a[j]'(by omega)
  .grind
  unfold ad Zd;rw[List.mem_map];refine⟨j+1,?_,by simp[b]⟩;grind [Lib.keeps]
theorem EX (a:List Tx):jy [] a=ad (a.mergeSort λx y=>decide (x<=y)):=by
 refine vI _ _ (oP a [] List.Pairwise.nil) (qU _ (by grind [List.pairwise_mergeSort])) λx=>?_
 rw[mO];constructor
 .rintro(h|h)
  .cases h
  have b:x∈a.mergeSort λx y=>decide (x<=y):=List.mem_mergeSort.2 h
  grind [wE,List.mem_iff_getElem]
 intro h;exact Uc (List.mem_mergeSort.1 (pE h))
end Sorts
namespace Same
open Bytes Nums Refs Refl Vals Opts Tags Spl Sorts Bounds
theorem vP (c:UInt8)(l:List UInt8):tw [c] l=aM c l:=by grind [tw,aM]
variable {a d e f:List UInt8}{g:Nat}{h:Bool}{i:Int}
theorem place (c:UInt8){l:List UInt8}{q:Nat}(f:q<=l.length):
  (has c (l.drop q)=true/\q+(aM c (l.drop q)).length<l.length/\l.drop (q+(aM c (l.drop q)).length+1)=cO c (l.drop q))\/
  (has c (l.drop q)=false/\q+(aM c (l.drop q)).length=l.length/\aM c (l.drop q)=l.drop q):=by
 rcases eR (l.drop q) c with ⟨_,a,b,_⟩|⟨o,_,d,a,b,e⟩
 .grind
 grind [te]
theorem EG (k:Nat)  (h:¬g<a.length)(b:List (List UInt8)):dB a k g b=Z b:=by
 cases k<;>rw[dB,if_neg h]
def lM (k:Nat)(t:List UInt8):Prop:=(kI k t).length<=k/\(kI k t).all (made dm 8)=true
def PF (k:Nat)(t:List UInt8):Bool:=decide ((kI k t).length<=k)&&(kI k t).all (made dm 8)
theorem jt:PF g a=true↔lM g a:=by grind [PF,lM]
theorem IN (k:Nat):∀(q:Nat) (b:List (List UInt8)),q<a.length->dB a k q b=if PF k (a.drop (q+1))=true then Z (jy b (kI k (a.drop (q+1)))) else Y:=by
 induction k with
 | zero=>
  intro q b h;rw[dB,if_pos h,if_neg];intro c;have:=(jt.1 c).1;grind [kI]
 | succ k l=>
  intro q b h;rw[dB,if_pos h,vP];rcases place 44 (l:=a) (q:=q+1) (by omega) with ⟨i,f,g⟩|⟨i,f,g⟩
  .have d:kI (k+1) (a.drop (q+1))=aM 44 (a.drop (q+1)) ::kI k (cO 44 (a.drop (q+1))):=by
    rw[kI,if_pos i]
   cases j:made dm 8 (aM 44 (a.drop (q+1))) with
   | false=>
    rw[if_neg (by simp),if_neg];intro c;have:=(jt.1 c).2;grind
   | true=>
    rw[if_pos rfl,l _ _ f,g,d];have e:PF (k+1) (a.drop (q+1))=true↔PF k (cO 44 (a.drop (q+1)))=true:=by grind [jt,lM]
    by_cases c:PF k (cO 44 (a.drop (q+1)))=true
    .rw[if_pos c,if_pos (e.2 c)];rfl
    grind
  have d:kI (k+1) (a.drop (q+1))=[a.drop (q+1)]:=by grind [kI]
  rw[f,EG k (by omega),g];cases j:made dm 8 (a.drop (q+1)) with
  | false=>
   rw[if_neg (by simp),if_neg];intro c;have:=(jt.1 c).2;grind
  | true=>
   rw[if_pos rfl,if_pos,d]
   .rfl
   grind [jt,lM]
theorem xr (o:a.drop g=d)(n:made dm 8 d=true):iT a=true:=by
 have h:d≠[]:=by
  intro e;grind [made]
 have f:(d.all λb=>dm b.toNat)=true:=by grind [made]
 have m:a.getLast? = d.getLast? :=by grind [List.getLast?_eq_none_iff]
 have i:∃b,d.getLast? = Z b:=⟨d.getLast h,List.getLast?_eq_some_getLast h⟩;obtain⟨b,i⟩:=i;have j:b∈d:=List.mem_of_getLast? i;have c:=List.all_eq_true.1 f b j;have l:b≠44:=by
  intro e;subst e;exact absurd c (by decide)
 have k:b≠35:=by
  intro e;subst e;exact absurd c (by decide)
 grind [iT]
theorem xu (k:Nat):∀(q:Nat),q<a.length->lM k (a.drop (q+1))->iT a=true:=by
 induction k with
 | zero=>
  intro q h b;have:=b.1;grind [kI]
 | succ k c=>grind [place,xr,kI,lM]
theorem nK (c:UInt8)  : a[g]? = Z c↔[c].isPrefixOf (a.drop g)=true:=by
 have e:a[g]? = (a.drop g)[0]? :=by grind
 rw[e];cases a.drop g with
 | nil=>simp
 | cons b t=>grind
theorem uX:
  fin a d e f h i g=(bK f e h).bind λx=>if g<a.length then (cX (a.drop (g+1))).map λt=>⟨d,x.1,x.2.1,x.2.2,i,t⟩ else Z ⟨d,x.1,x.2.1,x.2.2,i,[]⟩:=by grind [nK,IN,xu,jt,EX,fin,lM,cX,te]
theorem Gv (b:g<a.length):
  fin a d e f h i g=(bK f e h).bind λx=>(cX (a.drop (g+1))).map λt=>⟨d,x.1,x.2.1,x.2.2,i,t⟩:=by grind [uX]
theorem Gu (b:¬g<a.length):
  fin a d e f h i g=(bK f e h).bind λx=>Z ⟨d,x.1,x.2.1,x.2.2,i,[]⟩:=by grind [uX]
theorem vF {x:List UInt8×Bool×Int×List UInt8}(h:rv a d=Z x):(x.1=[103]\/x.1=[115])↔(a=[103]\/a=[115]):=by grind [rv,Option.map_eq_some_iff]
def cv (m:jv):Rs:=⟨m.name,kb m.kind m.signed,m.value,m.word,m.cw,m.tags⟩
theorem OI (u:g<a.length):
  opt a d e f g=(rv f e).bind λx=>(opts x.1 (a.drop (g+1))).map λo=>cv ⟨d,x.1,x.2.1,x.2.2.1,x.2.2.2,o.1,o.2⟩:=by
 unfold opt;by_cases c:a[g+1]? = Z 64
 .have v:g+1<a.length:=(qb.1 c).1;have b:=(nK 64).1 c;have t:(a.drop (g+1)).drop 1=a.drop (g+2):=by rw[te]
  rw[if_pos c,vP,OQ];cases k:rv f e with
  | none=>
   have s:∀r m,fin a d e f true r m=Y:=by grind [uX,iG]
   simp_all
  | some x=>
   have i:=vF k;by_cases j:f=[103]\/f=[115]
   .have s:∀r m,fin a d e f true r m=Y:=by grind [uX,iG]
    rw[Za,xV b (i.2 j)];simp_all
   rw[Za,uk b (λh=>j (i.1 h)),t];cases w:cw (aM 124 (a.drop (g+2))) with
   | none=>rfl
   | some r=>
    rw[Za,Za];rcases place 124 (l:=a) (q:=g+2) (by omega) with ⟨l,n,p⟩|⟨l,n,p⟩
    .rw[Gv n,iG,if_neg (λh=>j h.2),k,p,l,if_pos rfl];cases cX (cO 124 (a.drop (g+2)))<;>rfl
    rw[Gu (by omega),iG,if_neg (λh=>j h.2),k,l];rfl
 have b:[64].isPrefixOf (a.drop (g+1))=false:=by grind [nK]
 rw[if_neg c,Gv u,iG,if_neg (λh=>by cases h.1)];cases k:rv f e with
 | none=>rfl
 | some x=>
  rw[Za,oY b];cases cX (a.drop (g+1))<;>rfl
theorem LH (b:¬g<a.length):
  opt a d e f g=(rv f e).bind λx=>Z (cv ⟨d,x.1,x.2.1,x.2.2.1,x.2.2.2,1000,[]⟩):=by
 unfold opt;rw[if_neg,Gu b,iG,if_neg (λh=>by cases h.1)]
 .cases rv f e<;>rfl
 grind
theorem My (j:g+1<=a.length):za a d g=(fE d (a.drop (g+1))).map cv:=by
 unfold za fE;simp only[vP];rcases place 124 (l:=a) (q:=g+1) j with ⟨h,i,c⟩|⟨h,i,c⟩
 .rw[if_pos i,if_pos h,c];rcases place 124 (l:=a) (q:=g+1+(aM 124 (a.drop (g+1))).length+1) (by omega) with ⟨b,e,f⟩|⟨b,e,f⟩
  .rw[c]at b e f;rw[OI e,f,b];cases rv (aM 124 (cO 124 (a.drop (g+1)))) (aM 124 (a.drop (g+1))) with
   | none=>rfl
   | some x=>
    rw[Za,Za,if_pos rfl,Option.map_map];rfl
  rw[c]at b e f;rw[LH (by omega),b];cases rv (aM 124 (cO 124 (a.drop (g+1)))) (aM 124 (a.drop (g+1))) with
  | none=>rfl
  | some x=>rfl
 grind
theorem Ho:∀{l:List UInt8},l[(tw [58,124] l).length]? = Z 58->has 58 l=true/\tw [58,124] l=aM 58 l:=by
 intro l
 induction l with
 | nil=>intro h;simp at h
 | cons b l f=>
  intro h;by_cases a:b=58
  .subst a;exact⟨by simp[has],rfl⟩
  by_cases c:b=124
  .subst c;simp[tw]at h
  have e:tw [58,124] (b ::l)=b ::tw [58,124] l:=by
   simp[tw,a,c]
  rw[e,List.length_cons,List.getElem?_cons_succ]at h;obtain⟨g,d⟩:=f h;exact⟨by grind [has],by rw[e,d];simp[aM,a]⟩
theorem Ea:∀{l:List UInt8},has 58 l=true->((aM 58 l).all λb=>oA b.toNat)=true->tw [58,124] l=aM 58 l/\l[(aM 58 l).length]? = Z 58:=by
 intro l
 induction l with
 | nil=>intro h;simp[has]at h
 | cons b l j=>
  intro h c;by_cases a:b=58
  .subst a;exact⟨rfl,rfl⟩
  have d:aM 58 (b ::l)=b ::aM 58 l:=by simp[aM,a]
  rw[d,List.all_cons,Bool.and_eq_true]at c;have f:b≠124:=by
   intro e;subst e;exact absurd c.1 (by decide)
  have g:has 58 l=true:=by grind [has]
  obtain⟨i,k⟩:=j g c.2;refine⟨?_,?_⟩
  .rw[d,<-i];simp[tw,a,f]
  grind
theorem sj (l:List UInt8):bZ l=(rd l).map cv:=by
 unfold bZ rd;by_cases c:has 58 l=true/\made oA 16 (aM 58 l)=true
 .have a:((aM 58 l).all λb=>oA b.toNat)=true:=by grind [made]
  obtain⟨e,d⟩:=Ea c.1 a;have h:=(qb.1 d).1;rw[e,if_pos ⟨c.2,d⟩,if_pos c.1,if_pos c.2,My (by omega)];rcases place 58 (l:=l) (q:=0) (by omega) with ⟨_,_,g⟩|⟨f,_,_⟩
  .grind
  grind
 grind [Ho]
end Same
end Go.Proofs.YtpndiccohnafbaaGreatDoor
