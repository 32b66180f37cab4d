/- A tag among others: the document's list, and its walk. -/
import Derived.Test.YtpndiccohnafbaaGreatDoorTagwy
import Derived.Sort.Walk0
import Derived.Test.YtpndiccohnafbaaGreatDoorRefdy
import Derived.Test.YtpndiccohnafbaaGreatDoorRa
import Derived.Test.YtpndiccohnafbaaGreatDoorCq
import Derived.WalkLawsBesides
import Derived.Handy
import Derived.Deep.QuietTactic
import Derived.BigQuiet
import Derived.Deep.Cut
import Derived.BigRegion
set_option maxHeartbeats 9000000
open Go.Value renaming string->L,slice->Q,int->I
open Option renaming none->Y,some->Z
open Go.Ending renaming returned->ca
open Go.IntKind renaming i64->O,i64->Ug
open Go renaming wpList_append_own->Ua,World->N,Value->C,maxLen->Zb,cell_one_new->Vc,Calls->Wc
open List renaming length_append->Va,getElem?_eq_getElem->Wa,getElem?_eq_some_iff->Xa,mem_cons_of_mem->Ya,take_add_one->qb,getElem?_cons_succ->Ub,mem_cons_self->Wb,eq_nil_of_length_eq_zero->Yb,take_length->Uc,mem_of_getElem?->ad,foldl_append->vd,append_assoc->zd,takeWhile_cons->Zd,mem_singleton->Ve,intercalate->Uf,cons_append->Vf,getElem?_cons_zero->Wf,mem_append->Xf,length_take_of_le->Yf
open Go.Proofs.Tryz renaming prog->Za,underlying326->eb,underlying32->Vb
open ByteArray renaming empty->Xb,size_append->Xd
open Go.World renaming ownsRow->Xc,ownsRow_nil->Ze
open Go.Lib renaming toList_data->Yc,itoa->ed,join->Vd,decDigits->Xe
open Go.RowKit.Below renaming refl->Zc
open Nat renaming le_refl->Ud,lt_of_lt_of_le->Ue
open Or renaming inl->te,inr->ef
open Int renaming tdiv_eq_ediv_of_nonneg->Ye
open Go.IntWalk renaming i64_in->Zf
open UInt8 renaming ofNat->og
namespace Go.Proofs.YtpndiccohnafbaaGreatDoor
namespace Refi
open Go.RowKit Bytes Numw Mem Tagw
def Fy (t x:List UInt8):Bool:=Op.bytesLess t x||t==x
def step (t:List UInt8)(a:List (List UInt8)×Bool)(x:List UInt8):List (List UInt8)×Bool:=
 ((if a.2=false/\Fy t x=true then a.1++[t] else a.1)++(if x=t then [] else [x]),a.2||Fy t x)
def ins (t:List UInt8)(l:List (List UInt8)):List (List UInt8):=
 if (l.foldl (step t) ([],false)).2 then (l.foldl (step t) ([],false)).1 else (l.foldl (step t) ([],false)).1++[t]
def enc (a:List (List UInt8)):List Value:=a.map λx=>L ⟨x.toArray⟩
theorem mL (a b:List (List UInt8)):enc (a++b)=enc a++enc b:=List.map_append ..
variable {a b:Nat}{c d:ByteArray}{e:C}{f:N}{g:List (List UInt8)}{h:List UInt8}{i:List C}
theorem jQ (h:f.ownsRow a 9 1 e b i):∃d cv,e=Q d b cv:=by
 rcases h.2 with ⟨c,l⟩|⟨g,j,k,c,_⟩
 .exact⟨Y,0,by rw[c,l]⟩
 exact⟨_,_,c⟩
theorem nV (h:f.ownsRow a 9 1 e g.length (enc g)):Strs a f e g:=by
 rcases h.2 with ⟨i,k⟩|⟨d,c,b,i,k,m,p,s,t,q⟩
 .exact te ⟨Yb k,i⟩
 have l:d<f.heap.size:=(Array.getElem?_eq_some_iff.1 m).1;refine ef ⟨d,c,i,k,l,p,λj x n=>?_⟩;have u:j<g.length:=(Xa.1 n).1;have o:b[j]? = Z (L ⟨x.toArray⟩):=by
  rw[<-Array.getElem?_toList];have:(b.toList.take (g.length*1))[j]? = (enc g)[j]? :=by rw[q]
  rw[List.getElem?_take_of_lt (by omega)]at this;rw[this,enc,List.getElem?_map,n];rfl
 have r:af f d 9 b:=m;exact r.cell j _ o
theorem Fa (b:g[a]? = Z h)(t:List UInt8):(g.take (a+1)).foldl (step t) ([],false)=step t ((g.take a).foldl (step t) ([],false)) h:=by
 rw[qb,b,Option.toList_some,vd];rfl
theorem Qu (s:ByteArray):(⟨(B s).toArray⟩:ByteArray)=s:=Lib.mk_data s
theorem Es (h:f.ownsRow a 9 1 e b i):∀k,e.ownBlock=Z k->a<=k:=by
 intro k c;rcases h.2 with ⟨d,_⟩|⟨g,j,l,d,m,_⟩
 .rw[d]at c;cases c
 rw[d]at c;cases c;exact m
theorem iY {acc:List (List UInt8)}  {x:List UInt8}(d:B c=x)(h:f.ownsRow a 9 1 e (acc.length+1) (enc acc++[L c])):f.ownsRow a 9 1 e (acc++[x]).length (enc (acc++[x])):=by
 have b:enc (acc++[x])=enc acc++[L c]:=by
  rw[mL,<-d];show enc acc++[Value.string ⟨(B c).toArray⟩]=_;rw[Qu]
 rw[b,Va];exact h
theorem cz {w wr c:N}  {o:Obj}    (f:Below a w wr)(d:a<=wr.heap.size)(h:wr.ownsRow a 9 1 e b i)(g:(wr.alloc o).grownBy c e.ownBlock):Below a w c:=
 (f.alloc d o).grown g (by simp;omega) (Es h)
theorem later {c:N}   (g:Below f.heap.size f c)(d:a<f.heap.size)(h:f.cell? ⟨a,b,Y⟩=Z e):c.cell? ⟨a,b,Y⟩=Z e:=by
 rw[g.cell (p:=⟨a,b,Y⟩) d,h]
theorem Ie (h:f.ownsRow a 9 1 e (g.length+1+1) (enc g++[L c]++[L d])):f.ownsRow a 9 1 e (g.length+[B c].length+1) (enc g++enc [B c]++[L d]):=by
 have b:enc [B c]=[L c]:=by
  show [Value.string ⟨(B c).toArray⟩]=_;rw[Qu]
 rw[b];exact h
theorem le_iff (a:B d=h):(Op.bytesLess c.toList d.toList||c.toList==d.toList)=Fy (B c) h:=by
 rw[<-a,Yc,Yc];rfl
theorem eq_iff' (a:B d=h):(d.toList==c.toList)=(h==B c):=by
 rw[<-a,Yc,Yc];rfl
theorem step_eq {x:List UInt8}  {put l e:Bool}(b:Fy h x=l)(a:(x==h)=e):step h (g,put) x=((if put=false/\l=true then g++[h] else g)++(if e=true then [] else [x]),put||l):=by
 subst b;subst a;simp only[step,beq_iff_eq]
theorem GQ {a:List (List UInt8)}{put:Bool}(b:(g.take g.length).foldl (step h) ([],false)=(a,put)):ins h g=if put then a else a++[h]:=by
 rw[Uc]at b;rw[ins,b]
theorem xl (G R:Nat)(F:List (List UInt8))(q:ByteArray)(w:N)(hn:F.length<=1000)(hG:G<w.heap.size)(_hc:F.length<=R)(HC:∀j x,F[j]? = Z x->w.cell? ⟨G,j,Y⟩=Z (L ⟨x.toArray⟩)):
  Wc Za 135 #[Q (Z ⟨G,0,Y⟩) F.length R,L q] w λe w'=>(∃v,e=ca v/\Strs w.heap.size w' v (ins (B q) F))/\Below w.heap.size w w':=by
 obtain⟨P,K,z,A,D⟩:=info_parts Split.RF;change Hid _ at HC;go_in;go_wp2_with fail;go_loopw [5,6,7] (λs5 s6 s7 wr=>∃(k:Nat) (i:List (List UInt8)) (put:Bool) (ao:Option Addr) (cv:Nat),s5=Q ao i.length cv/\s6=.bool put/\s7=I O k/\k<=F.length/\i.length<=2*k/\wr.ownsRow w.heap.size 9 1 (Q ao i.length cv) i.length (enc i)/\Below w.heap.size w wr/\Hid ((F.take k).foldl (step (B q)) ([],false)=(i,put)))
  (λ_ _ s7 _=>F.length - (intOf s7).toNat)
 case atStart=>exact⟨0,[],false,Y,0,rfl,rfl,rfl,Nat.zero_le _,by simp,Ze _ _ _ _,Zc _ _,rfl⟩
 case round=>
  obtain⟨k,i,put,ao,cv,rfl,rfl,rfl,hk,a3,a,d,X⟩:=hrel;have f:=d.size;by_cases a1:k<F.length
  .obtain⟨x,l⟩:∃x,F[k]? = Z x:=⟨_,Wa a1⟩;obtain⟨t,H⟩:∃t:ByteArray,(⟨x.toArray⟩:ByteArray)=t:=⟨_,rfl⟩;have c:B t=x:=by
    rw[<-H];rfl
   have a4:wr.cell? ⟨G,k,Y⟩=Z (L t):=by
    rw[d.cell (p:=⟨G,k,Y⟩) hG,HC.out k x l,H]
   have J:w.cell? ⟨G,k,Y⟩=Z (L t):=by
    rw[HC.out k x l,H]
   change Hid _ at J;have T:(k:Int)<(F.length:Int):=by omega
   have r:=Fa l (B q);rw[X.out]at r;change Hid _ at r c;clear l H X;have a2:=f;cases s:(Op.bytesLess q.toList t.toList||q.toList==t.toList) with
   | true=>
    cases m:(t.toList==q.toList) with
    | true=>
     have V:(t.toList != q.toList)=false:=by simp[bne,m]
     cases put with
     | true=>
      go_wp2_with fail;go_roundw
      case rel=>exact⟨k+1,i,true,ao,cv,rfl,rfl,by go_num,by omega,by omega,a,d,aa (by rw[r.out,step_eq ((le_iff c).symm.trans s) ((eq_iff' c).symm.trans m)];simp)⟩
      case measure=>simp[intOf];omega
     | false=>
      go_wp2_with (at_builtin;refine Ua _ rfl _ _ 32 rfl w.heap.size 9 P (L Xb) 1 16 Vb K z A D rfl (by decide) _ _ _ rfl (a.alloc _) ⟨wr.heap.size,0,Y⟩ 1 1 [L q] rfl rfl (Vc _ _ _) (λx l=>by simp at l;subst l;rfl) (by unfold Zb;omega) (by omega) (by simp;omega) ?_;intro v2 w2 g E U;have u:=cz d f a E;have S:=later u hG J;have W:=u.size)
      obtain⟨n,o,rfl⟩:=jQ g;go_roundw
      case rel=>exact⟨k+1,i++[B q],true,n,o,by simp,rfl,by go_num,by omega,by simp;omega,by have h:=iY (x:=B q) rfl g;rw[Va]at h ⊢;exact h,cz d f a E,aa (by rw[r.out,step_eq ((le_iff c).symm.trans s) ((eq_iff' c).symm.trans m)];simp)⟩
      case measure=>simp[intOf];omega
    | false=>
     have V:(t.toList != q.toList)=true:=by simp[bne,m]
     cases put with
     | true=>
      go_wp2_with (at_builtin;refine Ua _ rfl _ _ 32 rfl w.heap.size 9 P (L Xb) 1 16 Vb K z A D rfl (by decide) _ _ _ rfl (a.alloc _) ⟨wr.heap.size,0,Y⟩ 1 1 [L t] rfl rfl (Vc _ _ _) (λx l=>by simp at l;subst l;rfl) (by unfold Zb;omega) (by omega) (by simp;omega) ?_;intro v3 w3 b y M)
      obtain⟨n,o,rfl⟩:=jQ b;go_roundw
      case rel=>exact⟨k+1,i++[x],true,n,o,by simp,rfl,by go_num,by omega,by simp;omega,by have h:=iY c b;rw[Va]at h ⊢;exact h,cz d f a y,aa (by rw[r.out,step_eq ((le_iff c).symm.trans s) ((eq_iff' c).symm.trans m)];simp)⟩
      case measure=>simp[intOf];omega
     | false=>
      go_wp2_with (first|(at_builtin;refine Ua _ rfl _ _ 32 rfl w.heap.size 9 P (L Xb) 1 16 Vb K z A D rfl (by decide) _ _ _ rfl (g.alloc _) ⟨w2.heap.size,0,Y⟩ 1 1 [L t] rfl rfl (Vc _ _ _) (λx l=>by simp at l;subst l;rfl) (by unfold Zb;omega) (by omega) (by simp;omega) ?_;intro v3 w3 b y M)|(at_builtin;refine Ua _ rfl _ _ 32 rfl w.heap.size 9 P (L Xb) 1 16 Vb K z A D rfl (by decide) _ _ _ rfl (a.alloc _) ⟨wr.heap.size,0,Y⟩ 1 1 [L q] rfl rfl (Vc _ _ _) (λx l=>by simp at l;subst l;rfl) (by unfold Zb;omega) (by omega) (by simp;omega) ?_;intro v2 w2 g E U;have u:=cz d f a E;have S:=later u hG J;have W:=u.size))
      obtain⟨n,o,rfl⟩:=jQ b;go_roundw
      case rel=>exact⟨k+1,i++[B q]++[x],true,n,o,by simp,rfl,by go_num,by omega,by simp;omega,by have h:=iY c (acc:=i++[B q]) (by have h2:=b;rw[mL,Va];exact Ie h2);rw[Va,Va]at h ⊢;exact h,cz u u.size g y,aa (by rw[r.out,step_eq ((le_iff c).symm.trans s) ((eq_iff' c).symm.trans m)];simp)⟩
      case measure=>simp[intOf];omega
   | false=>
    cases m:(t.toList==q.toList) with
    | true=>
     exfalso;rw[Bool.or_eq_false_iff]at s;have h1:=s.2;rw[beq_eq_false_iff_ne]at h1;exact h1 (by simpa using (beq_iff_eq.1 m).symm)
    | false=>
     have V:(t.toList != q.toList)=true:=by simp[bne,m]
     cases put with
     | true=>
      go_wp2_with (at_builtin;refine Ua _ rfl _ _ 32 rfl w.heap.size 9 P (L Xb) 1 16 Vb K z A D rfl (by decide) _ _ _ rfl (a.alloc _) ⟨wr.heap.size,0,Y⟩ 1 1 [L t] rfl rfl (Vc _ _ _) (λx l=>by simp at l;subst l;rfl) (by unfold Zb;omega) (by omega) (by simp;omega) ?_;intro v3 w3 b y M)
      obtain⟨n,o,rfl⟩:=jQ b;go_roundw
      case rel=>exact⟨k+1,i++[x],true,n,o,by simp,rfl,by go_num,by omega,by simp;omega,by have h:=iY c b;rw[Va]at h ⊢;exact h,cz d f a y,aa (by rw[r.out,step_eq ((le_iff c).symm.trans s) ((eq_iff' c).symm.trans m)];simp)⟩
      case measure=>simp[intOf];omega
     | false=>
      go_wp2_with (at_builtin;refine Ua _ rfl _ _ 32 rfl w.heap.size 9 P (L Xb) 1 16 Vb K z A D rfl (by decide) _ _ _ rfl (a.alloc _) ⟨wr.heap.size,0,Y⟩ 1 1 [L t] rfl rfl (Vc _ _ _) (λx l=>by simp at l;subst l;rfl) (by unfold Zb;omega) (by omega) (by simp;omega) ?_;intro v3 w3 b y M)
      obtain⟨n,o,rfl⟩:=jQ b;go_roundw
      case rel=>exact⟨k+1,i++[x],false,n,o,by simp,rfl,by go_num,by omega,by simp;omega,by have h:=iY c b;rw[Va]at h ⊢;exact h,cz d f a y,aa (by rw[r.out,step_eq ((le_iff c).symm.trans s) ((eq_iff' c).symm.trans m)];simp)⟩
      case measure=>simp[intOf];omega
  have T:¬(k:Int)<(F.length:Int):=by omega
  have a0:k=F.length:=by omega
  subst a0;cases put with
  | true=>
   go_wp2_with fail;go_ret;refine⟨⟨_,rfl,?_⟩,d⟩;rw[GQ X,if_pos rfl];exact nV a
  | false=>
   go_wp2_with (at_builtin;refine Ua _ rfl _ _ 32 rfl w.heap.size 9 P (L Xb) 1 16 Vb K z A D rfl (by decide) _ _ _ rfl (a.alloc _) ⟨wr.heap.size,0,Y⟩ 1 1 [L q] rfl rfl (Vc _ _ _) (λx l=>by simp at l;subst l;rfl) (by unfold Zb;omega) (by omega) (by simp;omega) ?_;intro v2 w2 g E U)
   go_ret;refine⟨⟨_,rfl,?_⟩,cz d f a E⟩;rw[GQ X];exact nV (iY rfl g)
theorem insert_nil (c:ByteArray)(w:N):
  Wc Za 135 #[Q Y 0 0,L c] w λe j=>(∃v,e=ca v/\Strs w.heap.size j v [B c])/\Below w.heap.size w j:=by
 obtain⟨m,k,f,g,h⟩:=info_parts Split.RF;have a:w.ownsRow w.heap.size 9 1 (Q Y 0 0) 0 []:=Ze _ _ _ _;go_in;go_wp2_with fail;refine wp_loop_rounds 1 ?_;rw[rounds_succ];go_wp2_with (at_builtin;refine Ua _ rfl _ _ 32 rfl w.heap.size 9 m (L Xb) 1 16 Vb k f g h rfl (by decide) _ _ _ rfl (a.alloc _) ⟨w.heap.size,0,Y⟩ 1 1 [L c] rfl rfl (Vc _ _ _) (λx i=>by simp at i;subst i;rfl) (by unfold Zb;omega) (by omega) (by simp) ?_;intro n o b d l)
 go_ret;refine⟨⟨_,rfl,?_⟩,cz (Zc _ _) (Ud _) a d⟩;exact nV (iY (acc:=[]) (x:=B c) rfl b)
theorem insert (l:Nat)(d:C)(a:List (List UInt8))(b:ByteArray)(w:N)(hst:Strs l w d a)(k:a.length<=1000):
  Wc Za 135 #[d,L b] w λe f=>(∃v,e=ca v/\Strs w.heap.size f v (ins (B b) a))/\Below w.heap.size w f:=by
 rcases hst with ⟨rfl,rfl⟩|⟨g,c,rfl,m,h,i,j⟩
 .exact insert_nil b w
 exact xl g c a b w k h i j
end Refi
namespace Refe
open Go.RowKit Bytes Numw Mem Plain Refd Tagw
theorem wK {r:Nat}(h:r<1000):(Xe (1000+r)).drop 1=[og (48+r / 100),og (48+r / 10 % 10),og (48+r % 10)]:=by
 rw[Xe,dif_neg (by omega),Xe,dif_neg (by omega),Xe,dif_neg (by omega),Lib.decDigits_one (by omega)];simp only[zd,List.singleton_append];have a:(1000+r) / 10 / 10 % 10=r / 100:=by omega
 grind
end Refe
namespace Reft
open Go.RowKit Bytes Numw Mem Plain Tagw Bounds
def ty (K:Int):ByteArray:=if K=99 then ⟨#[99]⟩ else if K=115 then ⟨#[115]⟩ else if K=109 then ⟨#[109,115]⟩ else ⟨#[103]⟩
theorem CW (K:Int):(ty K).size<=2:=by
 unfold ty;split
 .decide
 split
 .decide
 split<;>decide
theorem typeOf (f j:ByteArray)(K v r:Int)(g:Option Addr)(sl h:Nat)(w:N):
  Wc Za 233 #[.agg #[L f,I .u8 K,I O v,L j,I O r,Q g sl h]] w λe i=>e=ca (L (ty K))/\Below w.heap.size w i:=by
 by_cases a:K=99
 .subst a;go_in;go_wp2_with fail;go_ret;exact⟨rfl,ai _⟩
 have k:(K==99)=false:=by simpa using a
 by_cases b:K=115
 .subst b;go_in;go_wp2_with fail;go_ret;exact⟨rfl,ai _⟩
 have l:(K==115)=false:=by simpa using b
 by_cases c:K=109
 .subst c;go_in;go_wp2_with fail;go_ret;exact⟨rfl,ai _⟩
 have m:(K==109)=false:=by simpa using c
 have e:ty K=⟨#[103]⟩:=by
  unfold ty;rw[if_neg a,if_neg b,if_neg c]
 have d:=aa e;clear e a b c;go_in;go_wp2_with fail;go_ret;exact⟨by rw[d.out];rfl,ai _⟩
theorem DR (l:List (List UInt8))(x:List UInt8)(h:l≠[]):Vd (l++[x]) [44]=Vd l [44]++[44]++x:=by
 induction l with
 | nil=>exact absurd rfl h
 | cons y l d=>
  cases l with
  | nil=>simp[Vd,Uf,List.intersperse]
  | cons z l=>
   have e:∀(a b:List UInt8) (m:List (List UInt8)),Vd (a ::b ::m) [44]=a++[44]++Vd (b ::m) [44]:=by
    intro a b m;simp[Vd,Uf,List.intersperse]
   have c:=d (by simp);simp only[Vf]at c ⊢;rw[e,e,c];simp only[zd]
theorem It (x:List UInt8):pt [x]=[124,35]++x:=by
 rw[pt,if_neg (by simp)];simp[Vd,Uf]
theorem LL (l:List (List UInt8))(x:List UInt8)(h:l≠[]):pt (l++[x])=pt l++[44]++x:=by
 rw[pt,if_neg (by simp),pt,if_neg h,DR l x h];simp
theorem vL {a:List (List UInt8)}{x:List UInt8}(h:a[0]? = Z x):pt (a.take 1)=pt (a.take 0)++[124,35]++x:=by
 rw[qb,h];show pt [x]=pt []++[124,35]++x;rw[It];rfl
theorem Mq {a:List (List UInt8)}{k:Nat}{x:List UInt8}(h:a[k]? = Z x)(d:k≠0):pt (a.take (k+1))=pt (a.take k)++[44]++x:=by
 rw[qb,h,Option.toList_some,LL];intro c;have:=(Xa.1 h).1;have b:(a.take k).length=0:=by rw[c];rfl
 rw[List.length_take]at b;omega
theorem yN (G l:Nat)(a:List (List UInt8))(s:ByteArray)(w:N)(F:s.size<=1000)(E:a.length<=4)(p:∀x∈a,x.length<=8)(q:∀j x,a[j]? = Z x->w.cell? ⟨G,j,Y⟩=Z (L ⟨x.toArray⟩)):
  Wc Za 232 #[L s,Q (Z ⟨G,0,Y⟩) a.length l] w λe A=>(∃z,e=ca (L z)/\B z=B s++pt a)/\w=A:=by
 change Hid _ at q p;go_in;go_wp2_with fail;go_loop [0,5] (λy o=>∃(k:Nat) (u:ByteArray),y=L u/\o=I O k/\k<=a.length/\u.size<=1000+11*k/\Hid (B u=B s++pt (a.take k)))
  (λ_ o=>a.length - (intOf o).toNat)
 case atStart=>exact⟨0,s,rfl,rfl,Nat.zero_le _,by omega,aa (by show B s=B s++[];rw[List.append_nil])⟩
 case round=>
  obtain⟨k,u,rfl,rfl,D,H,i⟩:=hrel;by_cases n:k<a.length
  .have h:(k:Int)<(a.length:Int):=by omega
   obtain⟨x,f⟩:∃x,a[k]? = Z x:=⟨_,Wa n⟩;obtain⟨b,d⟩:∃b:ByteArray,(⟨x.toArray⟩:ByteArray)=b:=⟨_,rfl⟩;have c:B b=x:=by
    rw[<-d];rfl
   have r:w.cell? ⟨G,k,Y⟩=Z (L b):=by
    rw[q.out k x f,d]
   have v:b.size<=8:=by
    rw[aj,c];exact p.out x (ad f)
   change Hid _ at f c;clear d;by_cases g:k=0
   .subst g;go_wp2_with fail;go_round
    case rel=>
     refine⟨1,_,rfl,by go_num,by omega,?_,aa ?_⟩
     .rw[aj];refine Nat.le_trans (Nat.le_of_eq (congrArg List.length ((bp _ _).trans (congrArg (·++B b) (bp _ _))))) ?_;simp only[Va,<-aj];show u.size+2+b.size<=_;omega
     rw[vL f,<-c.out];refine((bp _ _).trans (congrArg (·++B b) (bp _ _))).trans ?_;rw[i.out];simp only[zd];rfl
    case measure=>simp[intOf];omega
   have t:((k:Int)==0)=false:=by
    simp only[beq_eq_false_iff_ne];omega
   go_wp2_with fail;go_round
   case rel=>
    refine⟨k+1,_,rfl,by go_num,by omega,?_,aa ?_⟩
    .rw[aj];refine Nat.le_trans (Nat.le_of_eq (congrArg List.length ((bp _ _).trans (congrArg (·++B b) (bp _ _))))) ?_;simp only[Va,<-aj];show u.size+1+b.size<=_;omega
    rw[Mq f g,<-c.out];refine((bp _ _).trans (congrArg (·++B b) (bp _ _))).trans ?_;rw[i.out];simp only[zd];rfl
   case measure=>simp[intOf];omega
  have h:¬(k:Int)<(a.length:Int):=by omega
  have m:k=a.length:=by omega
  subst m;go_wp2_with fail;go_ret;refine⟨⟨_,rfl,?_⟩,rfl⟩;have:=i.out;rwa [Uc]at this
theorem Bf (s:ByteArray)(w:N):
  Wc Za 232 #[L s,Q Y 0 0] w λe a=>e=ca (L s)/\w=a:=by
 go_in;go_wp2_with fail;go_rounds 1
 go_ret;exact⟨rfl,rfl⟩
theorem tagged (n:Nat)(c:C)(a:List (List UInt8))(s:ByteArray)(w:N)(hst:Strs n w c a)(l:s.size<=1000)(k:a.length<=4)(i:∀x∈a,x.length<=8):
  Wc Za 232 #[L s,c] w λe d=>(∃z,e=ca (L z)/\B z=B s++pt a)/\w=d:=by
 rcases hst with ⟨rfl,rfl⟩|⟨g,b,rfl,o,p,q,f⟩
 .refine(Bf s w).mono λe d h=>?_
  obtain⟨j,m⟩:=h;exact⟨⟨s,j,by show B s=B s++[];rw[List.append_nil]⟩,m⟩
 exact yN g b a s w l k i f
end Reft
namespace Ra
open Go.RowKit Mem Foot
section
open mH
theorem AO (v:Int)(w:N):
  Wc Za 266 #[I O v] w λe q=>(∃n s,e=ca (.tuple #[I O n,I O s])/\Kh v n s)/\Below w.heap.size w q:=by
 by_cases f:v<0
 .go_in;go_wp2;go_ret2;exact⟨⟨_,_,rfl,te ⟨te f,rfl,rfl⟩⟩,Zc _ _⟩
 by_cases c1:1000000000<v
 .go_in;go_wp2;go_ret2;exact⟨⟨_,_,rfl,te ⟨ef c1,rfl,rfl⟩⟩,Zc _ _⟩
 go_in;go_wp2;go_loop [4,5,6] (λg c n=>∃(l h:Int) (k:Nat),g=I O l/\c=I O h/\n=I O k/\0<=l/\l<=v/\l<h/\h<=2000000000/\(k:Int)<=l/\Hid (l=dW k/\h=dW (k+1)))
  (λ_ c _=>(v+1 - intOf c).toNat)
 case atStart=>exact⟨0,1,0,rfl,rfl,rfl,by omega,by omega,by omega,by omega,by omega,⟨rfl,rfl⟩⟩
 case round=>
  obtain⟨l,h,k,rfl,rfl,rfl,i,j,r,m,t,a⟩:=hrel;have o:l<=1000000000:=by omega
  obtain⟨q1,u⟩:=sG i o (by omega:0<=h) m;go_wp2
  .have b:h<=v:=by assumption
   have p:51*h / 49<=h:=by assumption
   have d:h+1=vZ h:=by
    unfold vZ;omega
   go_round
   case rel=>exact⟨h,h+1,k+1,rfl,rfl,by go_num,by omega,b,by omega,by omega,by omega,⟨a.2,by rw[d,a.2];rfl⟩⟩
   case measure=>simp only[intOf];omega
  .have b:h<=v:=by assumption
   have p:h<51*h / 49:=by assumption
   have d:51*h / 49=vZ h:=by
    unfold vZ;omega
   go_round
   case rel=>exact⟨h,51*h / 49,k+1,rfl,rfl,by go_num,by omega,b,by omega,by omega,by omega,⟨a.2,by rw[d,a.2];rfl⟩⟩
   case measure=>simp only[intOf];omega
  have b:v<h:=by assumption
  go_quiet (fail);go_wp2;go_ret2;exact⟨⟨_,_,rfl,ef ⟨by omega,by omega,k,rfl,by rw[<-a.1];exact j,by rw[<-a.2];exact b,by rw[<-a.1,<-a.2];rfl⟩⟩,ax (Zc _ _)⟩
end
open Bytes Tagw Refi Reft Wm Cq
theorem EC (v:Int)(w:N):
  Wc Za 266 #[I O v] w λe a=>e=ca (.tuple #[I O (bk v).1,I O (bk v).2])/\Below w.heap.size w a:=
 (AO v w).mono λe a ⟨⟨n,s,c,b⟩,d⟩=>⟨by rw[c,FP b],d⟩
theorem bound (v:Int)(w:N):Wc Za 190 #[I O v] w λe a=>e=ca (I O (Wm.dW v))/\a=w:=by
 by_cases b:1000000000000000<v
 .have e:Wm.dW v=1000000000000000:=by unfold Wm.dW Wm.top;omega
  rw[e];go_in;go_wp2_with fail;go_ret;exact⟨rfl,rfl⟩
 by_cases c:v < -1000000000000000
 .have e:Wm.dW v = -1000000000000000:=by unfold Wm.dW Wm.top;omega
  rw[e];go_in;go_wp2_with fail;go_ret;exact⟨rfl,rfl⟩
 have e:Wm.dW v=v:=by unfold Wm.dW Wm.top;omega
 rw[e];go_in;go_wp2_with fail;go_ret;exact⟨rfl,rfl⟩
def pl (t:List UInt8)(a:List (List UInt8)):Nat:=a.findIdx λx=>x==t
variable {a b:N}{c:Nat}{d:List (List UInt8)}{e:C}{f:List UInt8}
theorem mw (h:Strs c a e d){k:Nat}  (i:d[k]? = Z f):∃g b,e=Q (Z ⟨g,0,Y⟩) d.length b/\c<=g/\g<a.heap.size/\d.length<=b/\a.cell? ⟨g,k,Y⟩=Z (L ⟨f.toArray⟩):=by
 rcases h with ⟨rfl,_⟩|⟨g,b,j,l,m,n,o⟩
 .simp at i
 exact⟨g,b,j,l,m,n,o k f i⟩
theorem fP (h:Strs c a e d):∃f b,e=Q f d.length b:=by
 rcases h with ⟨rfl,rfl⟩|⟨g,b,i,_⟩
 .exact⟨_,_,rfl⟩
 exact⟨_,_,i⟩
theorem OK (h:∀(j:Nat) x,d[j]? = Z x->x≠f):pl f d=d.length:=by
 unfold pl;rw[List.findIdx_eq_length];intro x b;obtain⟨j,a⟩:=List.getElem?_of_mem b;simpa using h j x a
theorem QI {k:Nat}(a:d[k]? = Z f)(h:∀(j:Nat) x,j<k->d[j]? = Z x->x≠f):pl f d=k:=by
 unfold pl;have c:=(Xa.1 a).1;rw[List.findIdx_eq c];refine⟨by have:=(Xa.1 a).2;simp[this],λj b=>?_⟩;have:=h j d[j] b (Wa (by omega));simpa using this
set_option maxRecDepth 10000 in
theorem place (b:Nat)(K:C)(ks:List (List UInt8))(t:ByteArray)(w:N)(G:w.cell? ⟨b,6,Y⟩=Z K)(hst:Strs 0 w K ks)(M:ks.length<=1000):
  Wc Za 137 #[.pointer (Z ⟨b,0,Y⟩),L t] w λe E=>e=ca (I O (pl (B t) ks:Int))/\E=w:=by
 have m:=aa hst;obtain⟨a,s,rfl⟩:=fP hst;clear hst;go_in;go_wp2_with fail;go_loopw [5] (λi wr=>∃k:Nat,i=I O (k:Int)/\k<=ks.length/\wr=w/\Hid (∀(j:Nat) x,j<k->ks[j]? = Z x->x≠B t)) (λi _=>ks.length - (intOf i).toNat)
 case atStart=>exact⟨0,rfl,by omega,rfl,λj x h=>by omega⟩
 case round=>
  obtain⟨k,rfl,J,rfl,l⟩:=hrel;by_cases o:k<ks.length
  .have p:(k:Int)<(ks.length:Int):=by omega
   obtain⟨x,c⟩:∃x,ks[k]? = Z x:=⟨_,Wa o⟩;obtain⟨g,F,D,_,_,A,d⟩:=mw m c;injection D with u z v;clear z;subst u;subst v;change Hid _ at c;by_cases f:x=B t
   .have q:(⟨x.toArray⟩:ByteArray)=t:=Bytes.bo (by rw[<-f];rfl);rw[q]at d;change Hid _ at f;clear q;go_wp2_with fail;go_ret;refine⟨?_,rfl⟩;rw[QI (k:=k) (by rw[<-f.out];exact c) l];rfl
   have q:(x==t.toList)=false:=by
    rw[Yc];exact beq_eq_false_iff_ne.2 f
   change Hid _ at f;go_wp2_with fail;go_roundw
   case rel=>
    refine⟨k+1,by go_num,by omega,trivial,λj y H r=>?_⟩;by_cases e:j=k
    .subst e;rw[c.out]at r;cases r;exact f
    exact l.out j y (by omega) r
   case measure=>simp only[intOf];omega
  have p:¬(k:Int)<(ks.length:Int):=by omega
  have n:k=ks.length:=by omega
  subst n;go_wp2_with fail;go_ret;refine⟨?_,rfl⟩;rw[OK λj x c=>l.out j x (Xa.1 c).1 c];rfl
set_option maxRecDepth 10000 in
theorem has (K:C)(ks:List (List UInt8))(t:ByteArray)(w:N)(hst:Strs 0 w K ks)(J:ks.length<=1000):
  Wc Za 188 #[K,L t] w λe F=>e=ca (.bool (decide (B t∈ks)))/\F=w:=by
 have f:=aa hst;obtain⟨a,s,rfl⟩:=fP hst;clear hst;go_in;go_wp2_with fail;go_loopw [5] (λi wr=>∃k:Nat,i=I O (k:Int)/\k<=ks.length/\wr=w/\Hid (∀(j:Nat) x,j<k->ks[j]? = Z x->x≠B t)) (λi _=>ks.length - (intOf i).toNat)
 case atStart=>exact⟨0,rfl,by omega,rfl,λj x h=>by omega⟩
 case round=>
  obtain⟨k,rfl,H,rfl,r⟩:=hrel;by_cases n:k<ks.length
  .have o:(k:Int)<(ks.length:Int):=by omega
   obtain⟨x,d⟩:∃x,ks[k]? = Z x:=⟨_,Wa n⟩;obtain⟨g,G,E,_,_,A,b⟩:=mw f d;injection E with u z v;clear z;subst u;subst v;change Hid _ at d;by_cases c:x=B t
   .have p:(⟨x.toArray⟩:ByteArray)=t:=Bytes.bo (by rw[<-c];rfl);rw[p]at b;change Hid _ at c;clear p;go_wp2_with fail;go_ret;refine⟨?_,rfl⟩;rw[decide_eq_true (by rw[<-c.out];exact ad d)];rfl
   have p:(x==t.toList)=false:=by
    rw[Yc];exact beq_eq_false_iff_ne.2 c
   change Hid _ at c;go_wp2_with fail;go_roundw
   case rel=>
    refine⟨k+1,by go_num,by omega,trivial,λj y l q=>?_⟩;by_cases e:j=k
    .subst e;rw[d.out]at q;cases q;exact c
    exact r.out j y (by omega) q
   case measure=>simp only[intOf];omega
  have o:¬(k:Int)<(ks.length:Int):=by omega
  have m:k=ks.length:=by omega
  subst m;go_wp2_with fail;go_ret;refine⟨?_,rfl⟩;rw[decide_eq_false (λD=>by
   obtain⟨j,l⟩:=List.getElem?_of_mem D;exact r.out j _ (Xa.1 l).1 l rfl)]
  rfl
structure Sx where
 nb:ByteArray
 K:Int
 v:Int
 wb:ByteArray
 r:Int
 tv:C
def ct:List Sx->List C
 | []=>[]
 | x ::l=>L x.nb ::I .u8 x.K ::I O x.v ::L x.wb ::I O x.r ::x.tv ::ct l
theorem tA (l m:List Sx):ct (l++m)=ct l++ct m:=by
 induction l with
 | nil=>rfl
 | cons s l a=>simp[ct,a]
theorem AT:∀{l:List Sx} {i:Nat} {x:Sx},l[i]? = Z x->(ct l)[i*6+1]? = Z (I .u8 x.K)/\(ct l)[i*6+2]? = Z (I O x.v)/\(ct l)[i*6+3]? = Z (L x.wb)/\(ct l)[i*6+4]? = Z (I O x.r):=by
 intro l
 induction l with
 | nil=>intro i x h;simp at h
 | cons y l f=>
  intro i x h;cases i with
  | zero=>
   rw[Wf]at h;cases h;exact⟨rfl,rfl,rfl,rfl⟩
  | succ i=>
   rw[Ub]at h;obtain⟨a,b,c,d⟩:=f h;have e:∀j,(ct (y ::l))[(i+1)*6+j]? = (ct l)[i*6+j]? :=λj=>by
    rw[ct,show (i+1)*6+j=i*6+j+1+1+1+1+1+1 by omega];simp
   exact⟨by rw[e 1];exact a,by rw[e 2];exact b,by rw[e 3];exact c,by rw[e 4];exact d⟩
def wu (w:N)(v:C)(l:List Sx):Prop:=∃a b,v=Q a l.length b/\l.length<=b/\∀(i:Nat) x,l[i]? = Z x->∃g,a=Z ⟨g,0,Y⟩/\g<w.heap.size/\w.cell? ⟨g,i*6+1,Y⟩=Z (I .u8 x.K)/\w.cell? ⟨g,i*6+2,Y⟩=Z (I O x.v)/\w.cell? ⟨g,i*6+3,Y⟩=Z (L x.wb)/\w.cell? ⟨g,i*6+4,Y⟩=Z (I O x.r)
theorem wu.below {l:List Sx}(h:wu a e l)(d:Below a.heap.size a b):wu b e l:=by
 obtain⟨j,f,n,o,q⟩:=h;refine⟨j,f,n,o,λi x r=>?_⟩;obtain⟨g,m,c,c1,c2,c3,k⟩:=q i x r;exact⟨g,m,Ue c d.size,by rw[d.cell (p:=⟨g,i*6+1,Y⟩) c];exact c1,by rw[d.cell (p:=⟨g,i*6+2,Y⟩) c];exact c2,by rw[d.cell (p:=⟨g,i*6+3,Y⟩) c];exact c3,by rw[d.cell (p:=⟨g,i*6+4,Y⟩) c];exact k⟩
theorem CM {l:List Sx}(h:a.ownsRow c 218 6 e l.length (ct l)):wu a e l:=by
 rcases h.2 with ⟨rfl,s⟩|⟨g,m,n,rfl,_,t,v,_,_,w⟩
 .have:l=[]:=Yb s;subst this;exact⟨Y,0,rfl,Ud _,λi x o=>by simp at o⟩
 have p:af a g 218 n:=t;have f:∀(j:Nat) u,(ct l)[j]? = Z u->a.cell? ⟨g,j,Y⟩=Z u:=λj u k=>by
  rw[<-w,List.getElem?_take]at k;split at k
  .exact p.cell j u (by simpa using k)
  cases k
 refine⟨_,m,rfl,v,λi x o=>?_⟩;obtain⟨q,b,r,d⟩:=AT o;exact⟨g,rfl,p.lt,f _ _ q,f _ _ b,f _ _ r,f _ _ d⟩
def aI (l:List Sx):List (List UInt8):=l.foldl (λa x=>ins (B x.wb) a) []
theorem vW {l:List Sx}  {x:Sx}(a:l[c]? = Z x):aI (l.take (c+1))=ins (B x.wb) (aI (l.take c)):=by
 unfold aI;rw[qb,a,vd];rfl
theorem Strs.kept (h:Strs c a e d)(k:Below a.heap.size a b):Strs c b e d:=by
 rcases h with h|⟨g,f,l,m,i,n,o⟩
 .exact te h
 exact ef ⟨g,f,l,m,Ue i k.size,n,λj x q=>by rw[k.cell (p:=⟨g,j,Y⟩) i];exact o j x q⟩
set_option maxRecDepth 10000 in
theorem words (v:C)(l:List Sx)(w:N)(h:wu w v l)(U:l.length<=100000000)(y:∀k,k<=l.length->(aI (l.take k)).length<=1000):
  Wc Za 187 #[v] w λe B=>(∃u,e=ca u/\Strs 0 B u (aI l))/\Below w.heap.size w B:=by
 have p:=aa h;obtain⟨a,F,rfl,z,_⟩:=h;change Hid _ at y;go_in;go_wp2_with fail;go_loopw [3,4] (λo i wr=>∃k:Nat,i=I O (k:Int)/\k<=l.length/\Hid (Strs 0 wr o (aI (l.take k)))/\Hid (Below w.heap.size w wr)) (λ_ i _=>l.length - (intOf i).toNat)
 case atStart=>exact⟨0,rfl,by omega,te ⟨rfl,rfl⟩,Zc _ _⟩
 case round=>
  obtain⟨k,rfl,M,m,f⟩:=hrel;by_cases s:k<l.length
  .have t:(k:Int)<(l.length:Int):=by omega
   obtain⟨x,q⟩:∃x,l[k]? = Z x:=⟨_,Wa s⟩;obtain⟨R,S,P,K,b⟩:=p.below f;injection P with G J H;clear J;subst G;subst H;obtain⟨g,rfl,T,c1,c2,c3,E⟩:=b k x q;clear b;change Hid _ at q;have c:=insert 0 _ _ x.wb _ m (y.out k M);go_wp2_with fail;refine c.mono ?_;clear c;rintro e V ⟨⟨u,rfl,A⟩,d⟩;have D:=aa A;have j:=aa (f.trans (d.mono f.size));clear A d c1 c2 c3 E;go_wp2_with fail;go_roundw
   case rel=>exact⟨k+1,by go_num,by omega,by rw[vW q];exact D.mono (Nat.zero_le _),j⟩
   case measure=>simp only[intOf];omega
  have t:¬(k:Int)<(l.length:Int):=by omega
  have r:k=l.length:=by omega
  subst r;have n:=aa (show Strs 0 wr _ (aI l) by have:=m.out;rw[Uc]at this;exact this);clear m;go_wp2_with fail;go_ret;exact⟨⟨_,rfl,n⟩,f⟩
end Ra
namespace Ra
open Go.RowKit Mem Foot Bytes Tagw Refi Reft Wm Cq Plain
set_option maxRecDepth 10000 in
theorem key (c j:ByteArray)(K v r:Int)(f:Option Addr)(sl g:Nat)(a:List (List UInt8))(A:Nat)(w:N)(hst:Strs A w (Q f sl g) a)(J:c.size<=16)(u:a.length<=4)(t:∀x∈a,x.length<=8):
  Wc Za 186 #[.agg #[L c,I .u8 K,I O v,L j,I O r,Q f sl g]] w λe D=>(∃z,e=ca (L z)/\B z=B c++[124]++B (ty K)++pt a)/\Below w.heap.size w D:=by
 have k:=af.new w 218 #[L c,I .u8 K,I O v,L j,I O r,Q f sl g];have h:=aa (ai (w:=w) (.cells #[L c,I .u8 K,I O v,L j,I O r,Q f sl g] 218));have l:=aa (Strs.kept hst h);have o:=CW K;go_in;go_wp2_with fail;generalize H:w.heap.size=b at k ⊢;clear H hst;generalize w.alloc (.cells #[L c,I .u8 K,I O v,L j,I O r,Q f sl g] 218)=d at *;have n:=k.lt;have i:∀s:Bw d,af s.val b 218 #[L c,I .u8 K,I O v,L j,I O r,Q f sl g]:=λs=>k.below s.is n
 have M:∀s:Bw d,s.val.cell? ⟨b,0,Y⟩=Z (L c):=λs=>(i s).Ri 0
 have P:∀s:Bw d,s.val.cell? ⟨b,1,Y⟩=Z (I .u8 K):=λs=>(i s).Ri 1
 have R:∀s:Bw d,s.val.cell? ⟨b,2,Y⟩=Z (I O v):=λs=>(i s).Ri 2
 have S:∀s:Bw d,s.val.cell? ⟨b,3,Y⟩=Z (L j):=λs=>(i s).Ri 3
 have T:∀s:Bw d,s.val.cell? ⟨b,4,Y⟩=Z (I O r):=λs=>(i s).Ri 4
 have U:∀s:Bw d,s.val.cell? ⟨b,5,Y⟩=Z (Q f sl g):=λs=>(i s).Ri 5
 have q:=aa (λs:Bw d=>aT (typeOf c j K v r f sl g s.val));obtain⟨z,m⟩:∃z:ByteArray,B z=B c++[124]++B (ty K)++pt a:=⟨⟨(B c++[124]++B (ty K)++pt a).toArray⟩,rfl⟩;have p:=aa (λs:Bw d=>aT (v:=L z) ((tagged A _ a (c++⟨#[124]⟩++ty K) s.val (Strs.kept l s.is) (by
  rw[Xd,Xd];have:(⟨#[124]⟩:ByteArray).size=1:=rfl;omega) u t).mono λe D ⟨⟨y,E,F⟩,G⟩=>⟨by
   have:y=z:=Bytes.bo (by rw[F,m,Bytes.bp,Bytes.bp];rfl);rw[E,this],by rw[<-G];exact Zc _ _⟩))
 change Hid _ at m;clear k i u t;generalize ty K=V at o q p ⊢;refine aU ?_;repeat go_big_quiet_step ((first|exact q.out _|exact p.out _))
 refine wpQuiet_nil ?_;rintro _ ⟨s,rfl⟩;go_wp2_with fail;go_ret;exact⟨⟨z,rfl,m⟩,h.trans (s.is.mono h.size)⟩
def jA:List (Int×cL)->List C
 | []=>[]
 | x ::l=>I O x.1 ::I O x.2.aL ::I O x.2.weight ::jA l
theorem dF (l m:List (Int×cL)):jA (l++m)=jA l++jA m:=by
 induction l with
 | nil=>rfl
 | cons s l a=>simp[jA,a]
variable {a:List (Int × cL)}
theorem Is:∀{l:List (Int×cL)} {i:Nat} {x:Int×cL},l[i]? = Z x->(jA l)[i*3]? = Z (I O x.1)/\(jA l)[i*3+1]? = Z (I O x.2.aL)/\(jA l)[i*3+2]? = Z (I O x.2.weight):=by
 intro l
 induction l with
 | nil=>intro i x h;simp at h
 | cons y l e=>
  intro i x h;cases i with
  | zero=>
   rw[Wf]at h;cases h;exact⟨rfl,rfl,rfl⟩
  | succ i=>
   rw[Ub]at h;obtain⟨a,b,c⟩:=e h;have d:∀j,(jA (y ::l))[(i+1)*3+j]? = (jA l)[i*3+j]? :=λj=>by
    rw[jA,show (i+1)*3+j=i*3+j+1+1+1 by omega];simp
   exact⟨by have:=d 0;simp only[Nat.add_zero]at this;rw[this];exact a,by rw[d 1];exact b,by rw[d 2];exact c⟩
def jF (w:N)(v:C)(l:List (Int×cL)):Prop:=∃a b,v=Q a l.length b/\l.length<=b/\∀(i:Nat) x,l[i]? = Z x->∃g,a=Z ⟨g,0,Y⟩/\g<w.heap.size/\w.cell? ⟨g,i*3,Y⟩=Z (I O x.1)/\w.cell? ⟨g,i*3+1,Y⟩=Z (I O x.2.aL)/\w.cell? ⟨g,i*3+2,Y⟩=Z (I O x.2.weight)
theorem jF.below {w e:N}{v:C}  (h:jF w v a)(c:Below w.heap.size w e):jF e v a:=by
 obtain⟨f,d,k,l,m⟩:=h;refine⟨f,d,k,l,λi x n=>?_⟩;obtain⟨g,j,b,c1,c2,c3⟩:=m i x n;exact⟨g,j,Ue b c.size,by rw[c.cell (p:=⟨g,i*3,Y⟩) b];exact c1,by rw[c.cell (p:=⟨g,i*3+1,Y⟩) b];exact c2,by rw[c.cell (p:=⟨g,i*3+2,Y⟩) b];exact c3⟩
theorem gT {w:N}{base:Nat}{v:C}  (h:w.ownsRow base 348 3 v a.length (jA a)):jF w v a:=by
 rcases h.2 with ⟨rfl,o⟩|⟨g,e,f,rfl,_,p,q,_,_,r⟩
 .have:a=[]:=Yb o;subst this;exact⟨Y,0,rfl,Ud _,λi x l=>by simp at l⟩
 have m:af w g 348 f:=p;have k:∀(j:Nat) u,(jA a)[j]? = Z u->w.cell? ⟨g,j,Y⟩=Z u:=λj u d=>by
  rw[<-r,List.getElem?_take]at d;split at d
  .exact m.cell j u (by simpa using d)
  cases d
 refine⟨_,e,rfl,q,λi x l=>?_⟩;obtain⟨n,b,c⟩:=Is l;exact⟨g,rfl,m.lt,k _ _ n,k _ _ b,k _ _ c⟩
def lO (l:List (Int×cL)):Int:=(l.map λx=>x.2.weight).sum
theorem pg {k:Nat}{x:Int×cL}(b:a[k]? = Z x):lO (a.take (k+1))=lO (a.take k)+x.2.weight:=by
 unfold lO;rw[qb,b,List.map_append,List.sum_append];simp
theorem Ff {K s:Int}  {k:Nat}{x:Int×cL}(b:a[k]? = Z x):upto K s (a.drop k)=if K<s+x.2.weight then x.2.aL else upto K (s+x.2.weight) (a.drop (k+1)):=by
 have d:=(Xa.1 b).1;have c:a.drop k=x ::a.drop (k+1):=by
  rw[List.drop_eq_getElem_cons d,(Xa.1 b).2]
 rw[c,upto]
set_option maxRecDepth 10000 in
theorem rZ (v:C)(l:List (Int×cL))(b q:Int)(w:N)(h:jF w v l)(hn:l.length<=1000)(K:1<=b)(M:b<=1000000000000000)(z:0<=q)(A:q<=100)(o:∀k,k<=l.length->0<=lO (l.take k)/\lO (l.take k)<=1000000000000000000):
  Wc Za 235 #[v,I O b,I O q] w λe X=>e=ca (I O (upto (q*(b - 1) / 100) 0 l))/\X=w:=by
 have r:=aa h;obtain⟨a,F,rfl,E,_⟩:=h;change Hid _ at o;have y:0<=q*(b - 1):=Int.mul_nonneg z (by omega);have T:q*(b - 1)<=100*1000000000000000:=Int.mul_le_mul A (by omega) (by omega) (by omega);have hd:(q*(b - 1)).tdiv 100=q*(b - 1) / 100:=Ye y;generalize R:q*(b - 1)=p at *;have U:0<=p / 100/\p / 100<=1000000000000000:=by omega
 generalize p / 100=f at *;go_in;go_wp2_with fail;go_loopw [8,9] (λs i wr=>∃k:Nat,i=I O (k:Int)/\k<=l.length/\wr=w/\s=I O (lO (l.take k))/\Hid (upto f 0 l=upto f (lO (l.take k)) (l.drop k))) (λ_ i _=>l.length - (intOf i).toNat)
 case atStart=>exact⟨0,rfl,by omega,rfl,rfl,rfl⟩
 case round=>
  obtain⟨k,rfl,S,rfl,rfl,D⟩:=hrel;have V:=o.out k S;by_cases m:k<l.length
  .have u:(k:Int)<(l.length:Int):=by omega
   obtain⟨x,d⟩:∃x,l[k]? = Z x:=⟨_,Wa m⟩;obtain⟨a2,cp,W,P,c⟩:=r.out;injection W with G J H;clear J;subst G;subst H;obtain⟨g,rfl,R,c1,c2,c3⟩:=c k x d;clear c;have B:=o.out (k+1) m;rw[pg d]at B;have j:=aa (show upto f 0 l=if f<lO (l.take k)+x.2.weight then x.2.aL else upto f (lO (l.take k)+x.2.weight) (l.drop (k+1)) by rw[D.out,Ff d]);change Hid _ at d;by_cases n:f<lO (l.take k)+x.2.weight
   .go_wp2_with fail;go_ret;refine⟨?_,rfl⟩;rw[j.out,if_pos n];rfl
   go_wp2_with fail;go_roundw
   case rel=>exact⟨k+1,by go_num,by omega,trivial,by rw[pg d],aa (by rw[j.out,if_neg n,pg d])⟩
   case measure=>simp only[intOf];omega
  have u:¬(k:Int)<(l.length:Int):=by omega
  have t:k=l.length:=by omega
  subst t;go_wp2_with fail;go_ret;refine⟨?_,rfl⟩;rw[D.out,List.drop_length];rfl
end Ra
namespace Ra
open Go.RowKit Mem Foot Bytes Wm
theorem GM:(Za.info? 348).map (λi=>(i.zero,i.size,i.bytes))=Z (Z (.agg #[I O 0,I O 0,I O 0]),3,24):=by kernel_rfl
def di (n s wt:Int)(a:List (Int×cL)×Bool)(x:Int×cL):List (Int×cL)×Bool:=
 ((if a.2=false/\n<x.1 then a.1++[(n,(⟨s,wt⟩:cL))] else a.1)++[if x.1=n then (x.1,⟨x.2.aL,x.2.weight+wt⟩) else x],a.2||(decide (n<x.1)||decide (x.1=n)))
def qd (n s wt:Int)(l:List (Int×cL)):List (Int×cL):=
 if (l.foldl (di n s wt) ([],false)).2 then (l.foldl (di n s wt) ([],false)).1 else (l.foldl (di n s wt) ([],false)).1++[(n,(⟨s,wt⟩:cL))]
def kP (a:Nat)(b:List (Int×cL)):List (Int×cL)×Bool:=if a<b.length then (fold b,true) else (b,false)
variable {a b c:Nat}{d:C}{e:TypeId}{f:N}{g h:Int}{j:List C}{k:List (Int × cL)}
theorem zV {n s wt:Int}   {x:Int×cL}(b:k[a]? = Z x):(k.take (a+1)).foldl (di n s wt) ([],false)=di n s wt ((k.take a).foldl (di n s wt) ([],false)) x:=by
 rw[qb,b,vd];rfl
theorem cG (w:N)(a b c:C)(t:TypeId):∀j u,[a,b,c][j]? = Z u->(w.alloc (.cells #[a,b,c] t)).cell? ((⟨w.heap.size,0,Y⟩:Addr).add j)=Z u:=by
 intro j u d
 match j,d with
 | 0,d=>simp at d;subst d;simp[Addr.add]
 | 1,d=>simp at d;subst d;simp[Addr.add]
 | 2,d=>simp at d;subst d;simp[Addr.add]
 | j+3,d=>simp at d
theorem eu {w wr g:N}      {o:Obj}(h:Below a w wr)(f:a<=wr.heap.size)(m:wr.ownsRow a e c d b j)(i:(wr.alloc o).grownBy g d.ownBlock):Below a w g:=
 (h.alloc f _).grown i (by simp;omega) (λk l=>(m.lt k l).1)
theorem cd (h:f.ownsRow a e b d c j):∃i k,d=Q i c k:=by
 rcases h.2 with ⟨rfl,rfl⟩|⟨g,l,m,rfl,_⟩
 .exact⟨_,_,rfl⟩
 exact⟨_,_,rfl⟩
theorem km {b c:C}(h:af f a e #[d,b,c]):f.cell? ⟨a,0,Y⟩=Z d/\f.cell? ⟨a,1,Y⟩=Z b/\f.cell? ⟨a,2,Y⟩=Z c/\f.frozen? ⟨a,2,Y⟩=false:=
 ⟨h.Ri 0,h.Ri 1,h.Ri 2,h.frozen 2⟩
theorem OJ {m:N}     (h:f.ownsRow a e b d c j)(q:∀g,d.ownBlock=Z g->m.heap[g]? = f.heap[g]?):m.ownsRow a e b d c j:=by
 refine⟨h.1,?_⟩;rcases h.2 with i|⟨g,k,l,i,n,o,p⟩
 .exact te i
 exact ef ⟨g,k,l,i,n,by rw[q g (by rw[i];rfl)];exact o,p⟩
theorem rX {a b n P i:Nat}  {v x:C}  (h:f.ownsRow a e b v n j)(c:∀g,v.ownBlock=Z g->g≠P):(f.setCell ⟨P,i,Y⟩ x).ownsRow a e b v n j:=
 OJ h λg d=>Below.heap_setCell _ _ _ _ (c g d)
theorem Gw {n s wt:Int}   (d:g<=wt/\wt<=h)(hz:0<=wt)(e:∀p∈k,g<=p.2.weight/\p.2.weight+wt<=h):∀c:List (Int×cL)×Bool,(∀p∈c.1,g<=p.2.weight/\p.2.weight<=h)->∀p∈(k.foldl (di n s wt) c).1,g<=p.2.weight/\p.2.weight<=h:=by
 induction k with
 | nil=>intro c b;exact b
 | cons x r f=>
  intro c b;rw[List.foldl_cons];refine f (λp a=>e p (Ya _ a)) _ λp a=>?_
  have i:=e x (Wb ..);unfold di at a;simp only[Xf,Ve]at a;rcases a with a|a
  .split at a
   .simp only[Xf,Ve]at a;rcases a with a|a
    .exact b p a
    rw[a];exact d
   exact b p a
  rw[a];split
  .simp only;omega
  omega
theorem KJ {n s wt:Int}   (b:g<=wt/\wt<=h)(hz:0<=wt)(d:∀p∈k,g<=p.2.weight/\p.2.weight+wt<=h):∀p∈qd n s wt k,g<=p.2.weight/\p.2.weight<=h:=by
 have c:=Gw (n:=n) (s:=s) b hz d ([],false) (λp a=>by cases a);intro p a;unfold qd at a;split at a
 .exact c p a
 rcases Xf.1 a with a|a
 .exact c p a
 rw[Ve.1 a];exact b
set_option maxRecDepth 10000 in
theorem RU (v:C)(l:List (Int×cL))(x wt:Int)(q:Nat)(w:N)(h:jF w v l)(hn:l.length<=100)(k3:2<=q)(hm:q<=100)(j1:0<=wt/\wt<=1000)(hw:∀p∈l,0<=p.2.weight/\p.2.weight<=1000000000000000000):
  Wc Za 234 #[v,I O x,I O wt,I O (q:Int)] w λe w'=>(∃u,e=ca (.tuple #[u,.bool (kP q (qd (bk x).1 (bk x).2 wt l)).2])/\jF w' u (kP q (qd (bk x).1 (bk x).2 wt l)).1)/\Below w.heap.size w w':=by
 have h6:=aa h;obtain⟨a,j9,rfl,j6,_⟩:=h;obtain⟨i0,hi,a0,a1,a4⟩:=info_parts GM;have g9:=EC x w;have HW:=aa hw;have g4:Hid (∀p∈qd (bk x).1 (bk x).2 wt l,0<=p.2.weight/\p.2.weight<=1000000000000002000):=KJ (by omega) j1.1 (λp hp=>by have:=hw p hp;omega);generalize (bk x).1=n at *;generalize (bk x).2=s at *;clear hw;go_in;go_wp2_with fail;refine g9.mono ?_;clear g9;rintro e w1 ⟨rfl,f9⟩;change Hid _ at f9;go_wp2_with fail;go_loopw [12,13,14] (λo pt i wr=>∃(k:Nat) (j:List (Int×cL)) (put:Bool),i=I O (k:Int)/\pt=.bool put/\k<=l.length/\j.length<=2*k/\(∃a c,o=Q a j.length c)/\Hid ((l.take k).foldl (di n s wt) ([],false)=(j,put))/\Hid (wr.ownsRow w.heap.size 348 3 o j.length (jA j))/\Hid (Below w.heap.size w wr)) (λ_ _ i _=>l.length - (intOf i).toNat)
 case atStart=>exact⟨0,[],false,rfl,rfl,by omega,by simp,⟨_,_,rfl⟩,rfl,Ze _ _ _ _,f9⟩
 case round=>
  obtain⟨k,j,put,rfl,rfl,hk,g8,⟨oa,oc,rfl⟩,HF,HR,HB⟩:=hrel;have f6:=HB.size;by_cases c8:k<l.length
  .have c9:(k:Int)<(l.length:Int):=by omega
   obtain⟨y,hy⟩:∃y,l[k]? = Z y:=⟨_,Wa c8⟩;obtain⟨a2,cp,hv,k1,d6⟩:=h6.below HB;injection hv with e1 em e2;clear em;subst e1;subst e2;obtain⟨g,rfl,hg,c1,c2,c3⟩:=d6 k y hy;clear d6;have k6:=HW.out y (ad hy);have c0:=aa (show (l.take (k+1)).foldl (di n s wt) ([],false)=di n s wt (j,put) y by rw[zV hy,HF.out]);clear hy HF;have HS:=aa (af.new wr 348 #[I O y.1,I O y.2.aL,I O y.2.weight]);have g1:=aa (HR.alloc (.cells #[I O y.1,I O y.2.aL,I O y.2.weight] 348));have W:=aa (HB.alloc f6 (.cells #[I O y.1,I O y.2.aL,I O y.2.weight] 348));have e0:=aa (show ∀g,(Value.slice oa j.length oc).ownBlock=Z g->g≠wr.heap.size from λg hg=>Nat.ne_of_lt (HR.lt g hg).2);obtain⟨P,hP⟩:∃P,wr.heap.size=P:=⟨_,rfl⟩;have h8:w.heap.size<=P:=by omega
   rw[hP]at HS e0;go_upto_region 8 with fail;generalize wr.alloc (.cells #[I O y.1,I O y.2.aL,I O y.2.weight] 348)=wp at *;obtain⟨p0,p1,p2,f2⟩:=km HS;have a9:Hid (wp.ownsRow w.heap.size 348 3 (Q oa j.length oc) j.length (jA j)):=g1;clear c1 c2 c3 HR HB g1;by_cases b2:y.1=n
   .have b5:=aa b2;have j7:¬n<y.1:=by omega
    have k2:(y.1==n)=true:=by simp[b2]
    have j8:Ug.wrap (y.2.weight+wt)=y.2.weight+wt:=Zf _ (by omega);have g2:Hid (af (wp.setCell ⟨P,2,Y⟩ (I O (y.2.weight+wt))) P 348 #[I O y.1,I O y.2.aL,I O (y.2.weight+wt)]):=HS.set 2 (I O (y.2.weight+wt));have d5:=aa (rX (i:=2) (x:=I O (y.2.weight+wt)) a9 e0);have b3:=aa (W.setCell (p:=⟨P,2,Y⟩) h8 (I O (y.2.weight+wt)));clear b2;cases put with
    | true=>
      go_upto_region 13 with fail;generalize wp.setCell ⟨P,2,Y⟩ (I O (y.2.weight+wt))=ws at *;clear p0 p1 p2 f2;obtain⟨p0,p1,p2,f2⟩:=km g2;go_wp2_with (at_builtin;refine Ua _ rfl _ _ 326 rfl w.heap.size 348 i0 (.agg #[I O 0,I O 0,I O 0]) 3 24 eb hi a0 a1 a4 rfl (by decide) _ _ _ rfl (d5.alloc _) ⟨ws.heap.size,0,Y⟩ 1 1 [I O y.1,I O y.2.aL,I O (y.2.weight+wt)] rfl rfl (cG _ _ _ _ _) (λx J=>by simp at J;rcases J with rfl|rfl|rfl<;>rfl) (by unfold Zb;omega) (by omega) (by have:=b3.size;simp;omega) ?_;intro v2 w2 f D b1)
      have B:=aa (show di n s wt (j,true) y=(j++[(y.1,(⟨y.2.aL,y.2.weight+wt⟩:cL))],true) by
       unfold di;simp[b5.out])
      refine⟨⟨k+1,j++[(y.1,(⟨y.2.aL,y.2.weight+wt⟩:cL))],true,by go_num,rfl,by omega,by simp;omega,?_,aa (by rw[c0.out,B.out]),by show Xc _ _ _ _ _ _ _;rw[dF,Va];exact f,eu b3 b3.size d5 D⟩,by simp only[intOf];omega⟩;obtain⟨a3,c3,rfl⟩:=cd f;exact⟨a3,c3,by simp⟩
    | false=>
      go_upto_region 13 with fail;generalize wp.setCell ⟨P,2,Y⟩ (I O (y.2.weight+wt))=ws at *;clear p0 p1 p2 f2;obtain⟨p0,p1,p2,f2⟩:=km g2;go_wp2_with (at_builtin;refine Ua _ rfl _ _ 326 rfl w.heap.size 348 i0 (.agg #[I O 0,I O 0,I O 0]) 3 24 eb hi a0 a1 a4 rfl (by decide) _ _ _ rfl (d5.alloc _) ⟨ws.heap.size,0,Y⟩ 1 1 [I O y.1,I O y.2.aL,I O (y.2.weight+wt)] rfl rfl (cG _ _ _ _ _) (λx J=>by simp at J;rcases J with rfl|rfl|rfl<;>rfl) (by unfold Zb;omega) (by omega) (by have:=b3.size;simp;omega) ?_;intro v2 w2 f D b1)
      have B:=aa (show di n s wt (j,false) y=(j++[(y.1,(⟨y.2.aL,y.2.weight+wt⟩:cL))],true) by
       unfold di;simp[b5.out])
      refine⟨⟨k+1,j++[(y.1,(⟨y.2.aL,y.2.weight+wt⟩:cL))],true,by go_num,rfl,by omega,by simp;omega,?_,aa (by rw[c0.out,B.out]),by show Xc _ _ _ _ _ _ _;rw[dF,Va];exact f,eu b3 b3.size d5 D⟩,by simp only[intOf];omega⟩;obtain⟨a3,c3,rfl⟩:=cd f;exact⟨a3,c3,by simp⟩
   have k5:(y.1==n)=false:=by simp[b2]
   have b5:=aa b2;by_cases c7:put=false/\n<y.1
   .obtain⟨rfl,i7⟩:=c7;clear b2;go_upto_region 11 with (at_builtin;refine Ua _ rfl _ _ 326 rfl w.heap.size 348 i0 (.agg #[I O 0,I O 0,I O 0]) 3 24 eb hi a0 a1 a4 rfl (by decide) _ _ _ rfl (a9.alloc _) ⟨wp.heap.size,0,Y⟩ 1 1 [I O n,I O s,I O wt] rfl rfl (cG _ _ _ _ _) (λx J=>by simp at J;rcases J with rfl|rfl|rfl<;>rfl) (by unfold Zb;omega) (by omega) (by have:=W.size;simp;omega) ?_;intro v2 w2 f D b1);have d7:=aa (eu W W.size a9 D);have g0:=aa (show w2.ownsRow w.heap.size 348 3 v2 (j.length+1) (jA (j++[(n,(⟨s,wt⟩:cL))])) by
     rw[dF];exact f)
    have h5:=aa (show af w2 P 348 #[I O y.1,I O y.2.aL,I O y.2.weight] by
     have h1:=D.block P (by simp;have:=HS.lt;omega) (λe=>e0.out P e.symm rfl);have h2:(wp.alloc (.cells #[I O n,I O s,I O wt] 348)).heap[P]? = wp.heap[P]? :=Below.heap_alloc _ _ _ HS.lt;exact h1.trans (h2.trans HS))
    obtain⟨a3,k0,rfl⟩:=cd f;clear f D b1 p0 p1 p2 f2;obtain⟨p0,p1,p2,f2⟩:=km h5;go_wp2_with (at_builtin;refine Ua _ rfl _ _ 326 rfl w.heap.size 348 i0 (.agg #[I O 0,I O 0,I O 0]) 3 24 eb hi a0 a1 a4 rfl (by decide) _ _ _ rfl (g0.alloc _) ⟨w2.heap.size,0,Y⟩ 1 1 [I O y.1,I O y.2.aL,I O y.2.weight] rfl rfl (cG _ _ _ _ _) (λx J=>by simp at J;rcases J with rfl|rfl|rfl<;>rfl) (by unfold Zb;omega) (by omega) (by have:=d7.size;simp;omega) ?_;intro v3 w3 d0 i2 k4)
    have B:=aa (show di n s wt (j,false) y=(j++[(n,(⟨s,wt⟩:cL))]++[y],true) by
     unfold di;simp[b5.out,i7])
    refine⟨⟨k+1,j++[(n,(⟨s,wt⟩:cL))]++[y],true,by go_num,rfl,by omega,by simp;omega,?_,aa (by rw[c0.out,B.out]),by show Xc _ _ _ _ _ _ _;rw[dF,Va,Va];exact d0,eu d7 d7.size g0 i2⟩,by simp only[intOf];omega⟩;obtain⟨a5,c5,rfl⟩:=cd d0;exact⟨a5,c5,by simp⟩
   clear b2;cases put with
   | true=>
    go_wp2_with (at_builtin;refine Ua _ rfl _ _ 326 rfl w.heap.size 348 i0 (.agg #[I O 0,I O 0,I O 0]) 3 24 eb hi a0 a1 a4 rfl (by decide) _ _ _ rfl (a9.alloc _) ⟨wp.heap.size,0,Y⟩ 1 1 [I O y.1,I O y.2.aL,I O y.2.weight] rfl rfl (cG _ _ _ _ _) (λx J=>by simp at J;rcases J with rfl|rfl|rfl<;>rfl) (by unfold Zb;omega) (by omega) (by have:=W.size;simp;omega) ?_;intro v2 w2 f D b1)
    have B:=aa (show di n s wt (j,true) y=(j++[y],true) by
     unfold di;simp[b5.out])
    refine⟨⟨k+1,j++[y],true,by go_num,rfl,by omega,by simp;omega,?_,aa (by rw[c0.out,B.out]),by show Xc _ _ _ _ _ _ _;rw[dF,Va];exact f,eu W W.size a9 D⟩,by simp only[intOf];omega⟩;obtain⟨a3,c3,rfl⟩:=cd f;exact⟨a3,c3,by simp⟩
   | false=>
    have i9:¬n<y.1:=λh=>c7 ⟨rfl,h⟩
    go_wp2_with (at_builtin;refine Ua _ rfl _ _ 326 rfl w.heap.size 348 i0 (.agg #[I O 0,I O 0,I O 0]) 3 24 eb hi a0 a1 a4 rfl (by decide) _ _ _ rfl (a9.alloc _) ⟨wp.heap.size,0,Y⟩ 1 1 [I O y.1,I O y.2.aL,I O y.2.weight] rfl rfl (cG _ _ _ _ _) (λx J=>by simp at J;rcases J with rfl|rfl|rfl<;>rfl) (by unfold Zb;omega) (by omega) (by have:=W.size;simp;omega) ?_;intro v2 w2 f D b1)
    have B:=aa (show di n s wt (j,false) y=(j++[y],false) by
     unfold di;simp[b5.out,i9])
    refine⟨⟨k+1,j++[y],false,by go_num,rfl,by omega,by simp;omega,?_,aa (by rw[c0.out,B.out]),by show Xc _ _ _ _ _ _ _;rw[dF,Va];exact f,eu W W.size a9 D⟩,by simp only[intOf];omega⟩;obtain⟨a3,c3,rfl⟩:=cd f;exact⟨a3,c3,by simp⟩
  have c9:¬(k:Int)<(l.length:Int):=by omega
  have e8:k=l.length:=by omega
  subst e8;have hF:=HF.out;rw[Uc]at hF;cases put with
  | true=>
   have H:=aa (show qd n s wt l=j by unfold qd;rw[hF];rfl);clear hF HF;go_upto_region 17 with fail;have b4:=aa (show ∀p∈j,0<=p.2.weight/\p.2.weight<=1000000000000002000 by rw[<-H.out];exact g4);have HO:=HR;have a7:=HB;generalize hF:j=F at HO H b4 g8 ⊢;clear hF HR HB;have a8:=gT HO;have a6:=aa a7.size;by_cases hlen:F.length<=q
   .have f3:(F.length:Int)<=(q:Int):=by omega
    have HL:=aa (show ¬q<F.length by omega);change Hid _ at a8;clear hlen;go_wp2_with fail;go_ret2;exact⟨⟨Q oa F.length oc,by rw[H.out,kP,if_neg HL.out];rfl,by rw[H.out,kP,if_neg HL.out];exact a8⟩,a7⟩
   have f3:¬(F.length:Int)<=(q:Int):=by omega
   have HL:=aa (show q<F.length by omega);obtain⟨m,d,K,T⟩:∃m d K,F=m ::d ::K:=by
    match F,hlen with
    | m ::d ::K,_=>exact⟨m,d,K,rfl⟩
    | [m],h=>simp at h;omega
    | [],h=>simp at h
   have z:=aa T;have e6:2<=F.length:=by rw[T];simp
   have h7:(2:Int)<=(F.length:Int):=by omega
   obtain⟨pa,pc,f5,f4,A⟩:=a8;injection f5 with e1 em e2;clear em;subst e1;subst e2;obtain⟨g,rfl,hg,q0,q1,q2⟩:=A 0 m (by rw[T];rfl);obtain⟨g',U,_,r0,r1,r2⟩:=A 1 d (by rw[T];rfl);injection U with U;injection U with U;subst U;change Hid _ at A;clear hlen T;have h9:=b4.out m (by rw[z.out];simp);have i1:=b4.out d (by rw[z.out];simp);have X:=aa (af.new wr 348 #[I O d.1,I O d.2.aL,I O d.2.weight]);have b6:=aa (a7.alloc a6 (.cells #[I O d.1,I O d.2.aL,I O d.2.weight] 348));have c4:=aa (HO.alloc (.cells #[I O d.1,I O d.2.aL,I O d.2.weight] 348));have c6:=aa ((gT HO).below (ai (w:=wr) (.cells #[I O d.1,I O d.2.aL,I O d.2.weight] 348)));obtain⟨S,hS⟩:∃S,wr.heap.size=S:=⟨_,rfl⟩;have i5:g<S:=by rw[<-hS];exact hg
   have f7:w.heap.size<=S:=by rw[<-hS];exact a6
   rw[hS]at X;go_upto_region 20 with fail;generalize wr.alloc (.cells #[I O d.1,I O d.2.aL,I O d.2.weight] 348)=W1 at *;clear q0 q1 q2 r0 r1 r2;obtain⟨s0,s1,s2,sf⟩:=km X;obtain⟨j2,j4,d1,_,E⟩:=c6.out;injection d1 with e1 em e2;clear em;subst e1;subst e2;obtain⟨g5,r,i3,q0,q1,q2⟩:=E 0 m (by rw[z.out];rfl);injection r with r;injection r with r;subst r;clear E;have j0:Ug.wrap (d.2.weight+m.2.weight)=d.2.weight+m.2.weight:=Zf _ (by omega);go_cut [] (λwx=>Hid (wx=(W1.setCell ⟨S,2,Y⟩ (I O (d.2.weight+m.2.weight))).drew))
   case first=>
    go_region
    all_goals
     go_wp2_with fail;go_meet;exact aa rfl
   case rest=>
   have f8:=hcut.out;subst f8;have e4:Hid (af (W1.setCell ⟨S,2,Y⟩ (I O (d.2.weight+m.2.weight))).drew S 348 #[I O d.1,I O d.2.aL,I O (d.2.weight+m.2.weight)]):=X.set 2 (I O (d.2.weight+m.2.weight));have b7:=aa ((b6.setCell (p:=⟨S,2,Y⟩) f7 (I O (d.2.weight+m.2.weight))).drew);have d9:Hid (jF (W1.setCell ⟨S,2,Y⟩ (I O (d.2.weight+m.2.weight))).drew (Q (Z ⟨g,0,Y⟩) F.length oc) F):=gT (base:=w.heap.size) (rX (i:=2) (x:=I O (d.2.weight+m.2.weight)) c4 λb hb=>by
    simp[Value.ownBlock]at hb;omega)
   clear s0 s1 s2 sf q0 q1 q2 hcut c4 c6 X b6;generalize (W1.setCell ⟨S,2,Y⟩ (I O (d.2.weight+m.2.weight))).drew=R at *;obtain⟨s0,s1,s2,sf⟩:=km e4;have e3:Hid ((R.alloc (.cells #[I O d.1,I O d.2.aL,I O (d.2.weight+m.2.weight)] 348)).ownsRow R.heap.size 348 3 (Q (Z ⟨R.heap.size,0,Y⟩) 1 1) 1 (jA [(d.1,(⟨d.2.aL,d.2.weight+m.2.weight⟩:cL))])):=World.ownsRow_lit R _ 1 (Ud _) (by decide) rfl;have b8:=aa (ai (w:=R) (.cells #[I O d.1,I O d.2.aL,I O (d.2.weight+m.2.weight)] 348));go_upto_region 22 with fail;generalize R.alloc (.cells #[I O d.1,I O d.2.aL,I O (d.2.weight+m.2.weight)] 348)=W3 at *;clear s0 s1 s2 sf;have g3:=aa b8.size;go_wp2_with fail;go_loopw [17,18] (λo i wq=>∃k:Nat,i=I O (k:Int)/\2<=k/\k<=F.length/\(∃a c,o=Q a (k - 1) c)/\Hid (wq.ownsRow R.heap.size 348 3 o (k - 1) (jA ((d.1,(⟨d.2.aL,d.2.weight+m.2.weight⟩:cL)) ::K.take (k - 2))))/\Hid (Below R.heap.size R wq)) (λ_ i _=>F.length - (intOf i).toNat)
   case atStart=>exact⟨2,rfl,by omega,e6,⟨_,_,rfl⟩,e3,b8⟩
   case round=>
    obtain⟨k,rfl,e8,hk,⟨d3,d4,rfl⟩,b0,M⟩:=hrel;by_cases c8:k<F.length
    .have c9:(k:Int)<(F.length:Int):=by omega
     obtain⟨y,hy⟩:∃y,F[k]? = Z y:=⟨_,Wa c8⟩;obtain⟨j3,j5,d2,h0,G⟩:=d9.below M;injection d2 with e1 em e2;clear em;subst e1;subst e2;obtain⟨g6,t,i4,q0,q1,q2⟩:=G k y hy;injection t with t;injection t with t;subst t;clear G;have e5:=aa (show K.take (k+1 - 2)=K.take (k - 2)++[y] by
      have h1:K[k - 2]? = Z y:=by
       rwa [z.out,show k=(k - 2)+1+1 by omega,Ub,Ub]at hy
      rw[show k+1 - 2=(k - 2)+1 by omega,qb,h1];rfl)
     clear hy;have i6:k - 1<=300:=by omega
     go_wp2_with (at_builtin;refine Ua _ rfl _ _ 326 rfl R.heap.size 348 i0 (.agg #[I O 0,I O 0,I O 0]) 3 24 eb hi a0 a1 a4 rfl (by decide) _ _ _ rfl (b0.alloc _) ⟨wr.heap.size,0,Y⟩ 1 1 [I O y.1,I O y.2.aL,I O y.2.weight] rfl rfl (cG _ _ _ _ _) (λx J=>by simp at J;rcases J with rfl|rfl|rfl<;>rfl) (by unfold Zb;omega) (by omega) (by have:=M.size;simp;omega) ?_;intro v8 w8 V e7 i8)
     refine⟨⟨k+1,by go_num,by omega,by omega,?_,by show Xc _ _ _ _ _ _ _;rw[e5.out,<-Vf,dF,show k+1 - 1=k - 1+1 by omega];exact V,eu M M.size b0 e7⟩,by simp only[intOf];omega⟩;obtain⟨a3,c3,rfl⟩:=cd V;exact⟨a3,c3,by rw[show k - 1+1=k+1 - 1 by omega]⟩
    have c9:¬(k:Int)<(F.length:Int):=by omega
    have e9:k=F.length:=by omega
    subst e9;have b9:=aa (show jF wr (Q d3 (F.length - 1) d4) (fold F) by
     have h1:=b0.out;have h2:K.take (F.length - 2)=K:=by
      rw[z.out];simp
     rw[h2]at h1;have h3:fold F=(d.1,(⟨d.2.aL,d.2.weight+m.2.weight⟩:cL)) ::K:=by rw[z.out];rfl
     rw[h3];have h4:((d.1,(⟨d.2.aL,d.2.weight+m.2.weight⟩:cL)) ::K).length=F.length - 1:=by rw[z.out];simp
     refine gT (base:=R.heap.size) ?_;rw[h4];exact h1)
    have d8:=aa (b7.trans (M.mono b7.size));go_wp2_with fail;go_ret2;exact⟨⟨Q d3 (F.length - 1) d4,by rw[H.out,kP,if_pos HL.out];rfl,by rw[H.out,kP,if_pos HL.out];exact b9⟩,d8⟩
  | false=>
   have H:=aa (show qd n s wt l=j++[(n,(⟨s,wt⟩:cL))] by unfold qd;rw[hF];rfl);clear hF HF;go_upto_region 17 with (at_builtin;refine Ua _ rfl _ _ 326 rfl w.heap.size 348 i0 (.agg #[I O 0,I O 0,I O 0]) 3 24 eb hi a0 a1 a4 rfl (by decide) _ _ _ rfl (HR.alloc _) ⟨wr.heap.size,0,Y⟩ 1 1 [I O n,I O s,I O wt] rfl rfl (cG _ _ _ _ _) (λx J=>by simp at J;rcases J with rfl|rfl|rfl<;>rfl) (by unfold Zb;omega) (by omega) (by have:=HB.size;simp;omega) ?_;intro v2 w2 f D b1);have a7:=aa (eu HB HB.size HR D);obtain⟨F,hF⟩:∃F,j++[(n,(⟨s,wt⟩:cL))]=F:=⟨_,rfl⟩;have g7:F.length=j.length+1:=by rw[<-hF];simp
   have HO:=aa (show w2.ownsRow w.heap.size 348 3 v2 F.length (jA F) by
    rw[g7,<-hF,dF];exact f)
   rw[hF]at H;have b4:=aa (show ∀p∈F,0<=p.2.weight/\p.2.weight<=1000000000000002000 by rw[<-H.out];exact g4);have g8:F.length<=2*l.length+1:=by omega
   clear f D b1 hF HR HB g7;obtain⟨oa,oc,rfl⟩:=cd HO;have a8:=gT HO;have a6:=aa a7.size;by_cases hlen:F.length<=q
   .have f3:(F.length:Int)<=(q:Int):=by omega
    have HL:=aa (show ¬q<F.length by omega);change Hid _ at a8;clear hlen;go_wp2_with fail;go_ret2;exact⟨⟨Q oa F.length oc,by rw[H.out,kP,if_neg HL.out];rfl,by rw[H.out,kP,if_neg HL.out];exact a8⟩,a7⟩
   have f3:¬(F.length:Int)<=(q:Int):=by omega
   have HL:=aa (show q<F.length by omega);obtain⟨m,d,K,T⟩:∃m d K,F=m ::d ::K:=by
    match F,hlen with
    | m ::d ::K,_=>exact⟨m,d,K,rfl⟩
    | [m],h=>simp at h;omega
    | [],h=>simp at h
   have z:=aa T;have e6:2<=F.length:=by rw[T];simp
   have h7:(2:Int)<=(F.length:Int):=by omega
   obtain⟨pa,pc,f5,f4,A⟩:=a8;injection f5 with e1 em e2;clear em;subst e1;subst e2;obtain⟨g,rfl,hg,q0,q1,q2⟩:=A 0 m (by rw[T];rfl);obtain⟨g',U,_,r0,r1,r2⟩:=A 1 d (by rw[T];rfl);injection U with U;injection U with U;subst U;change Hid _ at A;clear hlen T;have h9:=b4.out m (by rw[z.out];simp);have i1:=b4.out d (by rw[z.out];simp);have X:=aa (af.new w2 348 #[I O d.1,I O d.2.aL,I O d.2.weight]);have b6:=aa (a7.alloc a6 (.cells #[I O d.1,I O d.2.aL,I O d.2.weight] 348));have c4:=aa (HO.alloc (.cells #[I O d.1,I O d.2.aL,I O d.2.weight] 348));have c6:=aa ((gT HO).below (ai (w:=w2) (.cells #[I O d.1,I O d.2.aL,I O d.2.weight] 348)));obtain⟨S,hS⟩:∃S,w2.heap.size=S:=⟨_,rfl⟩;have i5:g<S:=by rw[<-hS];exact hg
   have f7:w.heap.size<=S:=by rw[<-hS];exact a6
   rw[hS]at X;go_upto_region 20 with fail;generalize w2.alloc (.cells #[I O d.1,I O d.2.aL,I O d.2.weight] 348)=W1 at *;clear q0 q1 q2 r0 r1 r2;obtain⟨s0,s1,s2,sf⟩:=km X;obtain⟨j2,j4,d1,_,E⟩:=c6.out;injection d1 with e1 em e2;clear em;subst e1;subst e2;obtain⟨g5,r,i3,q0,q1,q2⟩:=E 0 m (by rw[z.out];rfl);injection r with r;injection r with r;subst r;clear E;have j0:Ug.wrap (d.2.weight+m.2.weight)=d.2.weight+m.2.weight:=Zf _ (by omega);go_cut [] (λwx=>Hid (wx=(W1.setCell ⟨S,2,Y⟩ (I O (d.2.weight+m.2.weight))).drew))
   case first=>
    go_region
    all_goals
     go_wp2_with fail;go_meet;exact aa rfl
   case rest=>
   have f8:=hcut.out;subst f8;have e4:Hid (af (W1.setCell ⟨S,2,Y⟩ (I O (d.2.weight+m.2.weight))).drew S 348 #[I O d.1,I O d.2.aL,I O (d.2.weight+m.2.weight)]):=X.set 2 (I O (d.2.weight+m.2.weight));have b7:=aa ((b6.setCell (p:=⟨S,2,Y⟩) f7 (I O (d.2.weight+m.2.weight))).drew);have d9:Hid (jF (W1.setCell ⟨S,2,Y⟩ (I O (d.2.weight+m.2.weight))).drew (Q (Z ⟨g,0,Y⟩) F.length oc) F):=gT (base:=w.heap.size) (rX (i:=2) (x:=I O (d.2.weight+m.2.weight)) c4 λb hb=>by
    simp[Value.ownBlock]at hb;omega)
   clear s0 s1 s2 sf q0 q1 q2 hcut c4 c6 X b6;generalize (W1.setCell ⟨S,2,Y⟩ (I O (d.2.weight+m.2.weight))).drew=R at *;obtain⟨s0,s1,s2,sf⟩:=km e4;have e3:Hid ((R.alloc (.cells #[I O d.1,I O d.2.aL,I O (d.2.weight+m.2.weight)] 348)).ownsRow R.heap.size 348 3 (Q (Z ⟨R.heap.size,0,Y⟩) 1 1) 1 (jA [(d.1,(⟨d.2.aL,d.2.weight+m.2.weight⟩:cL))])):=World.ownsRow_lit R _ 1 (Ud _) (by decide) rfl;have b8:=aa (ai (w:=R) (.cells #[I O d.1,I O d.2.aL,I O (d.2.weight+m.2.weight)] 348));go_upto_region 22 with fail;generalize R.alloc (.cells #[I O d.1,I O d.2.aL,I O (d.2.weight+m.2.weight)] 348)=W3 at *;clear s0 s1 s2 sf;have g3:=aa b8.size;go_wp2_with fail;go_loopw [17,18] (λo i wq=>∃k:Nat,i=I O (k:Int)/\2<=k/\k<=F.length/\(∃a c,o=Q a (k - 1) c)/\Hid (wq.ownsRow R.heap.size 348 3 o (k - 1) (jA ((d.1,(⟨d.2.aL,d.2.weight+m.2.weight⟩:cL)) ::K.take (k - 2))))/\Hid (Below R.heap.size R wq)) (λ_ i _=>F.length - (intOf i).toNat)
   case atStart=>exact⟨2,rfl,by omega,e6,⟨_,_,rfl⟩,e3,b8⟩
   case round=>
    obtain⟨k,rfl,e8,hk,⟨d3,d4,rfl⟩,b0,M⟩:=hrel;by_cases c8:k<F.length
    .have c9:(k:Int)<(F.length:Int):=by omega
     obtain⟨y,hy⟩:∃y,F[k]? = Z y:=⟨_,Wa c8⟩;obtain⟨j3,j5,d2,h0,G⟩:=d9.below M;injection d2 with e1 em e2;clear em;subst e1;subst e2;obtain⟨g6,t,i4,q0,q1,q2⟩:=G k y hy;injection t with t;injection t with t;subst t;clear G;have e5:=aa (show K.take (k+1 - 2)=K.take (k - 2)++[y] by
      have h1:K[k - 2]? = Z y:=by
       rwa [z.out,show k=(k - 2)+1+1 by omega,Ub,Ub]at hy
      rw[show k+1 - 2=(k - 2)+1 by omega,qb,h1];rfl)
     clear hy;have i6:k - 1<=300:=by omega
     go_wp2_with (at_builtin;refine Ua _ rfl _ _ 326 rfl R.heap.size 348 i0 (.agg #[I O 0,I O 0,I O 0]) 3 24 eb hi a0 a1 a4 rfl (by decide) _ _ _ rfl (b0.alloc _) ⟨wr.heap.size,0,Y⟩ 1 1 [I O y.1,I O y.2.aL,I O y.2.weight] rfl rfl (cG _ _ _ _ _) (λx J=>by simp at J;rcases J with rfl|rfl|rfl<;>rfl) (by unfold Zb;omega) (by omega) (by have:=M.size;simp;omega) ?_;intro v8 w8 V e7 i8)
     refine⟨⟨k+1,by go_num,by omega,by omega,?_,by show Xc _ _ _ _ _ _ _;rw[e5.out,<-Vf,dF,show k+1 - 1=k - 1+1 by omega];exact V,eu M M.size b0 e7⟩,by simp only[intOf];omega⟩;obtain⟨a3,c3,rfl⟩:=cd V;exact⟨a3,c3,by rw[show k - 1+1=k+1 - 1 by omega]⟩
    have c9:¬(k:Int)<(F.length:Int):=by omega
    have e9:k=F.length:=by omega
    subst e9;have b9:=aa (show jF wr (Q d3 (F.length - 1) d4) (fold F) by
     have h1:=b0.out;have h2:K.take (F.length - 2)=K:=by
      rw[z.out];simp
     rw[h2]at h1;have h3:fold F=(d.1,(⟨d.2.aL,d.2.weight+m.2.weight⟩:cL)) ::K:=by rw[z.out];rfl
     rw[h3];have h4:((d.1,(⟨d.2.aL,d.2.weight+m.2.weight⟩:cL)) ::K).length=F.length - 1:=by rw[z.out];simp
     refine gT (base:=R.heap.size) ?_;rw[h4];exact h1)
    have d8:=aa (b7.trans (M.mono b7.size));go_wp2_with fail;go_ret2;exact⟨⟨Q d3 (F.length - 1) d4,by rw[H.out,kP,if_pos HL.out];rfl,by rw[H.out,kP,if_pos HL.out];exact b9⟩,d8⟩
end Ra
namespace Ra
open Wm Im
def Ak (n s wt:Int):List (Int×cL)->List (Int×cL)
 | []=>[(n,⟨s,wt⟩)]
 | x ::r=>if n<x.1 then (n,⟨s,wt⟩) ::x ::r else if x.1=n then (x.1,⟨x.2.aL,x.2.weight+wt⟩) ::r else x ::Ak n s wt r
variable {c:List (Int × cL)}{d:Int}
theorem nG {n s wt:Int}(r:List (Int×cL))(h:∀x∈r,n<x.1):∀a,r.foldl (di n s wt) (a,true)=(a++r,true):=by
 induction r with
 | nil=>intro a;simp
 | cons x r b=>
  intro a;grind [di]
theorem CX {x:Int×cL}  (h:Up dJ (x ::c)):(∀y∈c,x.1<y.1)/\Up dJ c:=by
 obtain⟨a,b⟩:=List.pairwise_cons.1 h;exact⟨λy d=>by simpa[dJ] using a y d,b⟩
theorem Gr {n s wt:Int}(l:List (Int×cL))(h:Up dJ l):∀a,(if (l.foldl (di n s wt) (a,false)).2 then (l.foldl (di n s wt) (a,false)).1 else (l.foldl (di n s wt) (a,false)).1++[(n,⟨s,wt⟩)])=a++Ak n s wt l:=by
 induction l with
 | nil=>intro a;simp[Ak]
 | cons x r b=>
  intro a;grind [CX,nG,Ak,di]
theorem KI {n s wt:Int}  (h:Up dJ c):qd n s wt c=Ak n s wt c:=by
 have:=Gr (n:=n) (s:=s) (wt:=wt) c h [];rwa [List.nil_append]at this
theorem BL (h:∀x∈c,d<x.1):del d c=c:=by
 show c.filter _=c;grind [List.filter_eq_self]
theorem zg (h:∀x∈c,d<x.1):qI d c=0:=by grind [qI,aS]
theorem xi {a:cL}  (h:∀x∈c,d<x.1):ins dJ (d,a) c=(d,a) ::c:=by
 cases c with
 | nil=>rfl
 | cons x c=>rw[ins,if_pos (by simpa[dJ] using h x (Wb ..))]
theorem Lh {n s wt:Int}(l:List (Int×cL))(h:Up dJ l)(a:∀c∈l,c.1=n->c.2.aL=s):put dJ n ⟨s,qI n l+wt⟩ l=Ak n s wt l:=by
 induction l with
 | nil=>
  show ins dJ (n,(⟨s,qI n []+wt⟩:cL)) []=_;rw[zg (by simp),Int.zero_add];rfl
 | cons x r b=>grind [CX,BL,zg,xi,bc,aV,Ak,put,del,qI,ins,dJ]
def Std (l:List (Int×cL)):Prop:=∀c∈l,∃v,0<=v/\v<=999999999/\bk v=(c.1,c.2.aL)
theorem NO {b:Int}(i:0<=d)(j:d<=999999999)(_:0<=b)(_:b<=999999999)(h:(bk d).1=(bk b).1):(bk d).2=(bk b).2:=by
 rcases FO d with ⟨a,_⟩|⟨_,_,k,c,_,_,e⟩
 .omega
 rcases FO b with ⟨a,_⟩|⟨_,_,l,f,_,_,g⟩
 .omega
 grind
theorem Gs {v wt:Int}  (h:Up dJ c)(d:Std c)(f:0<=v)(g:v<=999999999):qd (bk v).1 (bk v).2 wt c=lay v wt c:=by
 rw[KI h];refine(Lh c h λa b e=>?_).symm;obtain⟨l,j,k,i⟩:=d a b;grind [NO]
theorem Std.lay {v wt:Int}  (f:Std c)(d:0<=v)(e:v<=999999999):Std (Wm.lay v wt c):=by
 intro b a;rcases eT a with rfl|⟨a,_⟩
 .exact⟨v,d,e,rfl⟩
 exact f b a
theorem Std.fold (d:Std c):Std (Wm.fold c):=by
 match c,d with
 | [],d=>exact d
 | [a],d=>exact d
 | a ::b ::r,d=>
  intro f e;rcases List.mem_cons.1 e with rfl|e
  .exact d b (Ya _ (Wb ..))
  exact d f (Ya _ (Ya _ e))
theorem zN {most:Nat}{t:pZ}{v wt:Int}(h:Up dJ t.cells)(c:Std t.cells)(a:0<=v)(b:v<=999999999):kP most (qd (bk v).1 (bk v).2 wt t.cells)=((dq most t v wt).cells,decide (most<(lay v wt t.cells).length)):=by grind [Gs,kP,dq]
theorem Std.dq {a:Nat}{t:pZ}{v wt:Int}(d:Std t.cells)(b:0<=v)(c:v<=999999999):Std (Wm.dq a t v wt).cells:=by
 simp only[Wm.dq];split
 .exact(d.lay b c).fold
 exact d.lay b c
end Ra
namespace Ra
open Go.RowKit Mem Foot Bytes Wm Im
noncomputable def cy (a:Nat)(l:List Sx):pZ:=l.foldl (λt x=>dq a t x.v (1000 / x.r)) ⟨0,0,0,0,[],false⟩
variable {a b:Nat}
theorem sN {most:Nat}{l:List Sx}  {x:Sx}(b:l[a]? = Z x):cy most (l.take (a+1))=dq most (cy most (l.take a)) x.v (1000 / x.r):=by
 unfold cy;rw[qb,b,vd];rfl
def Py (x:Sx):Prop:=0<=x.v/\x.v<=999999999/\1<=x.r/\x.r<=1000
theorem Kf {r:Int}(c:1<=r)(d:r<=1000):1<=1000 / r/\1000 / r<=1000:=by
 have a:1000 / r<=1000:=Int.ediv_le_self r (by omega);have b:1<=1000 / r:=by
  rw[Int.le_ediv_iff_mul_le (by omega)];omega
 exact⟨b,a⟩
theorem uC (s:2<=a)(l:List Sx)(h:∀x∈l,Py x):iu ⟨0,0,a⟩ l.length (cy a l)/\Std (cy a l).cells/\(l≠[]->1<=(cy a l).count):=by
 have key:∀(r:List Sx) (n:Nat) (t:pZ),(∀x∈r,Py x)->iu ⟨0,0,a⟩ n t->Std t.cells->(n≠0->1<=t.count)->iu ⟨0,0,a⟩ (n+r.length) (r.foldl (λt x=>dq a t x.v (1000 / x.r)) t)/\Std (r.foldl (λt x=>dq a t x.v (1000 / x.r)) t).cells/\(n+r.length≠0->1<=(r.foldl (λt x=>dq a t x.v (1000 / x.r)) t).count):=by
  intro r
  induction r with
  | nil=>intro n t _ i j m;exact⟨i,j,m⟩
  | cons x r w=>
   intro n t o i j m;obtain⟨k,b,c,d⟩:=o x (Wb ..);obtain⟨e,f⟩:=Kf c d;have g:=w (n+1) (dq a t x.v (1000 / x.r)) (λy u=>o y (Ya _ u)) (i.add s k b e f) (j.dq k b) (λ_=>by
    have:=i.count;simp only[dq,dW,top]at this ⊢;omega)
   rw[List.foldl_cons,List.length_cons];rw[show n+(r.length+1)=n+1+r.length by omega];exact g
 have:=key l 0 ⟨0,0,0,0,[],false⟩ h (iu.zero _ _) (λc p=>by cases p) (λh=>absurd rfl h);rw[Nat.zero_add]at this;exact⟨this.1,this.2.1,λq=>this.2.2 (by intro e;exact q (Yb e))⟩
theorem vy {l:List (Int×cL)}(h:∀c∈l,0<=c.2.weight)(k:Nat):0<=lO (l.take k)/\lO (l.take k)<=gB l:=by
 induction l generalizing k with
 | nil=>simp[lO,gB]
 | cons x r d=>
  have e:=h x (Wb ..);have a:=d (λc b=>h c (Ya _ b));cases k with
  | zero=>
   have:=a 0;simp only[List.take_zero,lO,List.map_nil,List.sum_nil,gB]at this ⊢;omega
  | succ k=>
   have:=a k;simp only[List.take_succ_cons,lO,List.map_cons,List.sum_cons,gB]at this ⊢;omega
theorem Fo {l:List (Int×cL)}(h:∀c∈l,0<=c.2.weight):∀c∈l,c.2.weight<=gB l:=by
 induction l with
 | nil=>intro c a;cases a
 | cons x r b=>
  intro c a;have f:=h x (Wb ..);have d:=(vy (l:=r) (λc a=>h c (Ya _ a)) 0);have e:=vy (l:=r) (λc a=>h c (Ya _ a)) r.length;simp only[gB];rcases List.mem_cons.1 a with rfl|a
  .omega
  have:=b (λc a=>h c (Ya _ a)) c a;omega
def flag (b:Bool):ByteArray:=if b then ⟨#[49]⟩ else ⟨#[48]⟩
theorem sO (t:pZ)(a b c d e f g:List UInt8)(i:a=ed t.count)(j:b=ed t.sum)(k:c=ed t.least)(l:d=ed t.al)(m:e=ed (dz t 50))(n:f=ed (dz t 90))(o:g=ed (dz t 99)):
  a++[32]++b++[32]++c++[32]++d++[32]++e++[32]++f++[32]++g++[32]++B (flag t.folded)=gV (.tim t):=by
 have h:B (flag t.folded)=ed (if t.folded then 1 else 0):=by
  cases t.folded<;>decide +kernel
 simp only[gV,jV,List.map_cons,List.map_nil,Vd,i,j,k,l,m,n,o,h];simp
theorem gH (v:Int)(d:-9223372036854775808<=v)(f:v<=9223372036854775807)(w:N):
  Wc Za 134 #[I O v] w λe c=>(∃z,e=ca (L z)/\B z=ed v/\z.size<=21)/\Below w.heap.size w c:=
 (show Wc _ _ _ _ _ from digits v d f w).mono λe c ⟨⟨z,a,b⟩,g⟩=>⟨⟨z,a,b,by
  rw[Bytes.aj,b];unfold ed;split
  .have:=Plain.iW 18 v.natAbs (by omega);rw[List.length_cons,Lib.decDigits_length];omega
  have:=Plain.iW 18 v.toNat (by omega);rw[Lib.decDigits_length];omega⟩,g⟩
theorem BQ {t:pZ}(h:iu ⟨0,0,a⟩ b t)(g:b<=100000000):(∀p∈t.cells,0<=p.2.weight/\p.2.weight<=1000000000000000000)/\∀k,k<=t.cells.length->0<=lO (t.cells.take k)/\lO (t.cells.take k)<=1000000000000000000:=by
 have d:∀c∈t.cells,0<=c.2.weight:=λc f=>(h.tJ c f).2.2.2.2
 have i:=h.gB;exact⟨λp e=>⟨d p e,by have:=Fo d p e;omega⟩,λk _=>by have:=vy d k;omega⟩
theorem DD {l:List Sx}  {x k:Sx}{j h:Int}(m:l[b]? = Z x)(d:l[0]? = Z k)(n:b≠0->1<=(cy a (l.take b)).count)(f:j=(if b=0 then k.v else (cy a (l.take b)).least))(g:h=(if b=0 then k.v else (cy a (l.take b)).al)):
  (if x.v<j then x.v else j)=(cy a (l.take (b+1))).least/\(if h<x.v then x.v else h)=(cy a (l.take (b+1))).al:=by
 rw[sN m];simp only[dq];by_cases i:b=0
 .subst i;rw[m]at d;cases d;rw[if_pos rfl]at f g;subst f;subst g;have e:(cy a (l.take 0)).count=0:=rfl;exact⟨by rw[if_neg (show ¬x.v<x.v by omega),if_pos e],by rw[if_neg (show ¬x.v<x.v by omega),if_pos e]⟩
 have:=n i;rw[if_neg i]at f g;subst f;subst g;have c:¬(cy a (l.take b)).count=0:=by omega
 refine⟨?_,?_⟩
 .rw[if_neg c];split<;>omega
 rw[if_neg c];split<;>omega
theorem jn (a b:Bool):(if b then (⟨#[49]⟩:ByteArray) else flag a)=flag (a||b):=by
 cases a<;>cases b<;>rfl
set_option maxRecDepth 10000 in
theorem timer (v:C)(l:List Sx)(b:Nat)(w:N)(h:wu w v l)(c5:l≠[])(hn:l.length<=100000000)(c6:2<=b)(hm:b<=64)(D:∀x∈l,Py x):
  Wc Za 189 #[v,I O (b:Int)] w λe R=>(∃z,e=ca (L z)/\B z=gV (.tim (cy b l))/\z.size<=400)/\Below w.heap.size w R:=by
 have a3:=aa h;obtain⟨a,f4,rfl,e8,p⟩:=h;have HX:=aa D;obtain⟨x0,H⟩:∃x0,l[0]? = Z x0:=⟨l[0]'(by cases l with|nil=>exact absurd rfl c5|cons=>simp),Wa _⟩;obtain⟨g0,rfl,f8,c1,c2,c3,c4⟩:=p 0 x0 H;have g3:(0:Int)<(l.length:Int):=by
  have:=(Xa.1 H).1;omega
 change Hid _ at H;clear p D;go_in;go_wp2_with fail;go_loopw [5,6,7,8,9,10,11] (λs5 s6 s7 s8 s9 e7 i wr=>∃(k:Nat) (E y:Int) (J:Bool),i=I O (k:Int)/\k<=l.length/\s5=I O (cy b (l.take k)).count/\s6=I O (cy b (l.take k)).sum/\s7=I O E/\s8=I O y/\s9=L (flag J)/\Hid (E=(if k=0 then x0.v else (cy b (l.take k)).least)/\y=(if k=0 then x0.v else (cy b (l.take k)).al)/\J=(cy b (l.take k)).folded)/\Hid (jF wr e7 (cy b (l.take k)).cells)/\Hid (Below w.heap.size w wr)) (λ_ _ _ _ _ _ i _=>l.length - (intOf i).toNat)
 case atStart=>exact⟨0,x0.v,x0.v,false,rfl,by omega,rfl,rfl,rfl,rfl,rfl,⟨rfl,rfl,rfl⟩,⟨Y,0,rfl,Ud _,λi x D=>by simp[cy]at D⟩,Zc _ _⟩
 case round=>
  obtain⟨k,E,y,J,rfl,hk,rfl,rfl,rfl,rfl,rfl,A,HP,F⟩:=hrel;clear c1 c2 c3 c4;have P:=uC c6 (l.take k) (λx D=>HX.out x (List.mem_of_mem_take D));rw[Yf hk]at P;have s:=aa P;have hc:=P.1.count;have c7:=P.1.sum;simp only[top]at hc c7;clear P;by_cases e3:k<l.length
  .have e4:(k:Int)<(l.length:Int):=by omega
   obtain⟨x,D⟩:∃x,l[k]? = Z x:=⟨_,Wa e3⟩;obtain⟨a2,cp,hv,f6,p⟩:=a3.below F;injection hv with e1 em e2;clear em;subst e1;subst e2;obtain⟨g,M,hg,c1,c2,c3,c4⟩:=p k x D;injection M with M;injection M with M;subst M;clear p;have e6:=HX.out x (ad D);obtain⟨v0,v1,r0,r1⟩:=e6;have f:=aa (sN (most:=b) D);obtain⟨h9,c8⟩:=Kf r0 r1;have hq:(1000:Int).tdiv x.r=1000 / x.r:=Ye (by omega);have g6:¬x.r=0:=by omega
   have d8:=aa D;clear D;have T:=aa (zN (most:=b) (v:=x.v) (wt:=1000 / x.r) s.1.up s.2.1 v0 v1);have G:=λ(u:C) (W:N) (n:jF W u (cy b (l.take k)).cells)=>RU u (cy b (l.take k)).cells x.v (1000 / x.r) b W n (by have:=s.1.len;simp only at this;omega) c6 (by omega) ⟨by omega,c8⟩ (BQ s.1 (by omega)).1
   generalize e5:1000 / x.r=wt at *;have g4:0<=x.v*wt:=Int.mul_nonneg v0 (by omega);have g5:x.v*wt<=999999999*1000:=Int.mul_le_mul v1 c8 (by omega) (by omega);change Hid _ at G;clear e5;go_wp2_with fail;have d:=aa (DD d8 H (λg1=>s.2.2 (λe=>by
    have:=congrArg List.length e;rw[Yf hk]at this;simp at this;omega)) A.1 A.2.1)
   refine(bound _ wr).mono ?_;rintro e R ⟨rfl,hw⟩;subst R;go_wp2_with fail;refine(bound _ wr).mono ?_;rintro e R ⟨rfl,hw⟩;subst R;by_cases h7:x.v<E
   .by_cases h8:y<x.v
    .clear c1 c2 c3 c4;go_wp2_with fail;refine(G.out _ wr HP).mono ?_;rintro e w2 ⟨⟨u,rfl,n⟩,j⟩;rw[T.out]at n ⊢;change Hid _ at n;have m:=aa (F.trans (j.mono F.size));clear j;cases o:decide (b<(lay x.v wt (cy b (l.take k)).cells).length) with
     | true=>
      change Hid _ at o;go_wp2_with fail;go_roundw
      case rel=>
       exact⟨k+1,x.v,x.v,J||true,by go_num,by omega,by rw[f.out];rfl,by rw[f.out];rfl,rfl,rfl,by rw[<-jn];rfl,⟨by rw[if_neg (by omega),<-d.1,if_pos h7],by rw[if_neg (by omega),<-d.2,if_pos h8],by rw[f.out,A.2.2];simp only[dq];rw[o.out]⟩,by rw[f.out];exact n,m⟩
      case measure=>simp only[intOf];omega
     | false=>
      change Hid _ at o;go_wp2_with fail;go_roundw
      case rel=>
       exact⟨k+1,x.v,x.v,J||false,by go_num,by omega,by rw[f.out];rfl,by rw[f.out];rfl,rfl,rfl,by rw[<-jn];rfl,⟨by rw[if_neg (by omega),<-d.1,if_pos h7],by rw[if_neg (by omega),<-d.2,if_pos h8],by rw[f.out,A.2.2];simp only[dq];rw[o.out]⟩,by rw[f.out];exact n,m⟩
      case measure=>simp only[intOf];omega
    clear c1 c2 c3 c4;go_wp2_with fail;refine(G.out _ wr HP).mono ?_;rintro e w2 ⟨⟨u,rfl,n⟩,j⟩;rw[T.out]at n ⊢;change Hid _ at n;have m:=aa (F.trans (j.mono F.size));clear j;cases o:decide (b<(lay x.v wt (cy b (l.take k)).cells).length) with
    | true=>
     change Hid _ at o;go_wp2_with fail;go_roundw
     case rel=>
      exact⟨k+1,x.v,y,J||true,by go_num,by omega,by rw[f.out];rfl,by rw[f.out];rfl,rfl,rfl,by rw[<-jn];rfl,⟨by rw[if_neg (by omega),<-d.1,if_pos h7],by rw[if_neg (by omega),<-d.2,if_neg (show ¬y<x.v by omega)],by rw[f.out,A.2.2];simp only[dq];rw[o.out]⟩,by rw[f.out];exact n,m⟩
     case measure=>simp only[intOf];omega
    | false=>
     change Hid _ at o;go_wp2_with fail;go_roundw
     case rel=>
      exact⟨k+1,x.v,y,J||false,by go_num,by omega,by rw[f.out];rfl,by rw[f.out];rfl,rfl,rfl,by rw[<-jn];rfl,⟨by rw[if_neg (by omega),<-d.1,if_pos h7],by rw[if_neg (by omega),<-d.2,if_neg (show ¬y<x.v by omega)],by rw[f.out,A.2.2];simp only[dq];rw[o.out]⟩,by rw[f.out];exact n,m⟩
     case measure=>simp only[intOf];omega
   by_cases h8:y<x.v
   .clear c1 c2 c3 c4;go_wp2_with fail;refine(G.out _ wr HP).mono ?_;rintro e w2 ⟨⟨u,rfl,n⟩,j⟩;rw[T.out]at n ⊢;change Hid _ at n;have m:=aa (F.trans (j.mono F.size));clear j;cases o:decide (b<(lay x.v wt (cy b (l.take k)).cells).length) with
    | true=>
     change Hid _ at o;go_wp2_with fail;go_roundw
     case rel=>
      exact⟨k+1,E,x.v,J||true,by go_num,by omega,by rw[f.out];rfl,by rw[f.out];rfl,rfl,rfl,by rw[<-jn];rfl,⟨by rw[if_neg (by omega),<-d.1,if_neg (show ¬x.v<E by omega)],by rw[if_neg (by omega),<-d.2,if_pos h8],by rw[f.out,A.2.2];simp only[dq];rw[o.out]⟩,by rw[f.out];exact n,m⟩
     case measure=>simp only[intOf];omega
    | false=>
     change Hid _ at o;go_wp2_with fail;go_roundw
     case rel=>
      exact⟨k+1,E,x.v,J||false,by go_num,by omega,by rw[f.out];rfl,by rw[f.out];rfl,rfl,rfl,by rw[<-jn];rfl,⟨by rw[if_neg (by omega),<-d.1,if_neg (show ¬x.v<E by omega)],by rw[if_neg (by omega),<-d.2,if_pos h8],by rw[f.out,A.2.2];simp only[dq];rw[o.out]⟩,by rw[f.out];exact n,m⟩
     case measure=>simp only[intOf];omega
   clear c1 c2 c3 c4;go_wp2_with fail;refine(G.out _ wr HP).mono ?_;rintro e w2 ⟨⟨u,rfl,n⟩,j⟩;rw[T.out]at n ⊢;change Hid _ at n;have m:=aa (F.trans (j.mono F.size));clear j;cases o:decide (b<(lay x.v wt (cy b (l.take k)).cells).length) with
   | true=>
    change Hid _ at o;go_wp2_with fail;go_roundw
    case rel=>
     exact⟨k+1,E,y,J||true,by go_num,by omega,by rw[f.out];rfl,by rw[f.out];rfl,rfl,rfl,by rw[<-jn];rfl,⟨by rw[if_neg (by omega),<-d.1,if_neg (show ¬x.v<E by omega)],by rw[if_neg (by omega),<-d.2,if_neg (show ¬y<x.v by omega)],by rw[f.out,A.2.2];simp only[dq];rw[o.out]⟩,by rw[f.out];exact n,m⟩
    case measure=>simp only[intOf];omega
   | false=>
    change Hid _ at o;go_wp2_with fail;go_roundw
    case rel=>
     exact⟨k+1,E,y,J||false,by go_num,by omega,by rw[f.out];rfl,by rw[f.out];rfl,rfl,rfl,by rw[<-jn];rfl,⟨by rw[if_neg (by omega),<-d.1,if_neg (show ¬x.v<E by omega)],by rw[if_neg (by omega),<-d.2,if_neg (show ¬y<x.v by omega)],by rw[f.out,A.2.2];simp only[dq];rw[o.out]⟩,by rw[f.out];exact n,m⟩
    case measure=>simp only[intOf];omega
  have e4:¬(k:Int)<(l.length:Int):=by omega
  have e0:k=l.length:=by omega
  subst e0;have hE:=A.out;have hlen:¬l.length=0:=by omega
  rw[Uc,if_neg hlen,if_neg hlen]at hE;obtain⟨rfl,rfl,rfl⟩:=hE;have hP:=HP.out;have U:=s.out;rw[Uc]at hP U hc c7 ⊢;have c9:=aa hP;have f3:=aa U;have g2:=U.1.least;have f9:=U.1.al;have d9:=U.2.2 c5;have V:=(BQ U.1 hn).2;have c0:(cy b l).cells.length<=1000:=by have:=U.1.len;simp only at this;omega
  have S:∀q k0,0<=upto q k0 (cy b l).cells/\upto q k0 (cy b l).cells<=2000000000:=by
   have K:=U.1.tJ;generalize (cy b l).cells=cs at K;intro q
   induction cs with
   | nil=>intro k0;simp[upto]
   | cons c r ih=>
    intro k0;have h1:=K c (Wb ..);have h2:=ih (λc hc=>K c (Ya _ hc)) (k0+c.2.weight);unfold upto;split
    .omega
    exact h2
  have HQ:=aa (λ(q:Int) (h0:0<=q) (h1:q<=100) (W:N) (hW:Below wr.heap.size wr W)=>rZ _ _ (cy b l).count q W (c9.below hW) c0 d9 hc.2 h0 h1 V);change Hid _ at S;have e9:(flag (cy b l).folded).size=1:=by unfold flag;split<;>rfl
  clear hP U A HP s V c0 HX H a3;generalize ht:cy b l=t at *;go_wp2_with fail;refine(gH _ (by omega) (by omega) wr).mono ?_;rintro e d1 ⟨⟨z1,rfl,a7,g7⟩,b4⟩;change Hid _ at a7;have a4:Hid (Below wr.heap.size wr d1):=b4;clear b4;go_wp2_with fail;refine(gH _ (by omega) (by omega) d1).mono ?_;rintro e d2 ⟨⟨z2,rfl,a8,g8⟩,j⟩;change Hid _ at a8;have a5:Hid (Below wr.heap.size wr d2):=a4.trans (j.mono a4.size);clear j;go_wp2_with fail;refine(gH _ (by omega) (by omega) d2).mono ?_;rintro e d3 ⟨⟨z3,rfl,a9,g9⟩,b5⟩;change Hid _ at a9;have a6:Hid (Below wr.heap.size wr d3):=a5.trans (b5.mono a5.size);clear b5;go_wp2_with fail;refine(gH _ (by omega) (by omega) d3).mono ?_;rintro e d4 ⟨⟨z4,rfl,b0,h3⟩,b6⟩;change Hid _ at b0;have X:Hid (Below wr.heap.size wr d4):=a6.trans (b6.mono a6.size);clear b6;go_wp2_with fail;refine(HQ.out 50 (by omega) (by omega) d4 X).mono ?_;rintro e R ⟨rfl,hw⟩;subst R;have f0:=S.out (50*(t.count - 1) / 100) 0;go_wp2_with fail;refine(gH _ (by omega) (by omega) d4).mono ?_;rintro e d5 ⟨⟨z5,rfl,b1,h4⟩,b7⟩;change Hid _ at b1;have a0:Hid (Below wr.heap.size wr d5):=X.trans (b7.mono X.size);clear b7;go_wp2_with fail;refine(HQ.out 90 (by omega) (by omega) d5 a0).mono ?_;rintro e R ⟨rfl,hw⟩;subst R;have f1:=S.out (90*(t.count - 1) / 100) 0;go_wp2_with fail;refine(gH _ (by omega) (by omega) d5).mono ?_;rintro e d6 ⟨⟨z6,rfl,b2,h5⟩,b8⟩;change Hid _ at b2;have a1:Hid (Below wr.heap.size wr d6):=a0.trans (b8.mono a0.size);clear b8;go_wp2_with fail;refine(HQ.out 99 (by omega) (by omega) d6 a1).mono ?_;rintro e R ⟨rfl,hw⟩;subst R;have f2:=S.out (99*(t.count - 1) / 100) 0;go_wp2_with fail;refine(gH _ (by omega) (by omega) d6).mono ?_;rintro e d7 ⟨⟨z7,rfl,b3,h6⟩,b9⟩;change Hid _ at b3;have d0:Hid (Below wr.heap.size wr d7):=a1.trans (b9.mono a1.size);clear b9;go_wp2_with fail;go_ret;refine⟨⟨_,rfl,by rw[ht,<-sO t _ _ _ _ _ _ _ a7 a8 a9 b0 b1 b2 b3];simp only[Bytes.bp];rfl,?_⟩,F.trans (d0.mono F.size)⟩;have f7:(flag t.folded).size=1:=by unfold flag;split<;>rfl
  have f5:(⟨#[32]⟩:ByteArray).size=1:=rfl;simp only[Xd];omega
end Ra
namespace Refl
open Bytes Nums Refs Refi
structure Rs where
 name:List UInt8
 kind:Int
 value:Int
 word:List UInt8
 cw:Int
 tags:List (List UInt8)
def dB (l:List UInt8):Nat->Nat->List (List UInt8)->Option (List (List UInt8))
 | 0,p,acc=>if p<l.length then Y else Z acc
 | k+1,p,acc=>if p<l.length then (if made dm 8 (tw [44] (l.drop (p+1)))=true then dB l k (p+1+(tw [44] (l.drop (p+1))).length) (ins (tw [44] (l.drop (p+1))) acc) else Y) else Z acc
def iT (l:List UInt8):Bool:=!(l.getLast? == Z 44)&&!(l.getLast? == Z 35)
def fin (l n v k:List UInt8)(a:Bool)(r:Int)(p:Nat):Option Rs:=
 (bK k v a).bind λx=>
  if p<l.length then
   (if l[p+1]? = Z 35 then (dB l 4 (p+1) []).bind λt=>if iT l=true then Z ⟨n,x.1,x.2.1,x.2.2,r,t⟩ else Y else Y)
  else Z ⟨n,x.1,x.2.1,x.2.2,r,[]⟩
def IJ (q:List UInt8):Option Int:=
 if q=[49] then Z 1000 else if q.length<3\/q[0]?≠Z 48\/q[1]?≠Z 46\/aw q<1 then Y else Z (aw q)
def opt (l n v k:List UInt8)(p:Nat):Option Rs:=
 if l[p+1]? = Z 64 then (IJ (tw [124] (l.drop (p+2)))).bind λr=>fin l n v k true r (p+2+(tw [124] (l.drop (p+2))).length)
 else fin l n v k false 1000 p
def za (l n:List UInt8)(p:Nat):Option Rs:=
 if p+1+(tw [124] (l.drop (p+1))).length<l.length then
  opt l n (tw [124] (l.drop (p+1))) (tw [124] (l.drop (p+1+(tw [124] (l.drop (p+1))).length+1))) (p+1+(tw [124] (l.drop (p+1))).length+1+(tw [124] (l.drop (p+1+(tw [124] (l.drop (p+1))).length+1))).length)
 else Y
def bZ (l:List UInt8):Option Rs:=
 if made oA 16 (tw [58,124] l)=true/\l[(tw [58,124] l).length]? = Z 58 then za l (tw [58,124] l) (tw [58,124] l).length else Y
end Refl
namespace Same
open Bytes Nums Refs
def vf (v:Int)(l:List UInt8):Int:=l.foldl (λn b=>n*10+((b.toNat:Int) - 48)) v
theorem CZ (l:List UInt8):vf 0 l=val l:=rfl
theorem ob (l:List UInt8):∀(v a:Int),0<=a->a<=6->dQ l=true->et (v,a,-1) l=if a+l.length<=6 then Z (vf v l,a+l.length,-1) else Y:=by
 induction l with
 | nil=>grind [et,vf]
 | cons b l d=>
  intro v a e f c;simp only[dQ,List.all_cons,Bool.and_eq_true]at c;rw[et,cU,if_pos c.1,if_pos (by grind)];dsimp only;by_cases h:6<a+1
  .rw[if_pos h];have:¬a+((b ::l).length:Int)<=6:=by grind
   grind
  rw[if_neg h,Option.bind_some,d _ _ (by omega) (by omega) c.2];grind [vf]
theorem yo (l:List UInt8):∀(v d a:Int),0<=a->a<=3->dQ l=true->et (v,d,a) l=if a+l.length<=3 then Z (vf v l,d,a+l.length) else Y:=by
 induction l with
 | nil=>grind [et,vf]
 | cons b l e=>
  intro v d a f g c;simp only[dQ,List.all_cons,Bool.and_eq_true]at c;rw[et,cU,if_pos c.1,if_neg (by grind)];dsimp only;by_cases h:3<a+1
  .rw[if_pos h];have:¬a+((b ::l).length:Int)<=3:=by grind
   grind
  rw[if_neg h,Option.bind_some,e _ _ _ (by omega) (by omega) c.2];grind [vf]
theorem nZ (l:List UInt8):∀(a:Int×Int×Int),dQ l=false->(a.2.2<0->has 46 l=false)->et a l=Y:=by
 induction l with
 | nil=>grind [dQ]
 | cons b l c=>grind [et,dQ,cU,has]
theorem KO (c:UInt8)(l:List UInt8):has c (aM c l)=false:=by
 induction l with
 | nil=>rfl
 | cons b l a=>grind [aM,has,Zd]
theorem om {c:UInt8}{l:List UInt8}(h:has c l=true):l=aM c l++c ::cO c l:=by
 induction l with
 | nil=>simp[has]at h
 | cons b l a=>grind [aM,cO,has,Zd,List.dropWhile_cons]
theorem iV {a:Int}{l:List UInt8}:made dig a l=true↔l≠[]/\(l.length:Int)<=a/\dQ l=true:=by grind [made,dQ]
theorem sV (v:Int)(a b c:UInt8):vf v [a,b,c]=((v*10+((a.toNat:Int) - 48))*10+((b.toNat:Int) - 48))*10+((c.toNat:Int) - 48):=rfl
theorem Gd:dec [48]=Z 0:=by decide +kernel
theorem xN (v a:Int)(l:List UInt8):et (v,a,-1) (46 ::l)=et (v,a,0) l:=by
 rw[et,cU,if_neg (by decide),if_pos ⟨rfl,by grind⟩];rfl
theorem pn (l:List UInt8):aw l=(num l).getD (-1):=by
 cases q:has 46 l with
 | false=>
  have y:aM 46 l=l:=by
   rcases eR l 46 with ⟨_,_,h,_⟩|⟨o,_,_,h,_⟩
   .exact h
   grind
  cases i:made dig 6 l with
  | true=>
   obtain⟨v,w,s⟩:=iV.1 i;rw[mn (by grind) q,y,Gd];have r:=ob l 0 0 (by omega) (by omega) s;rw[if_pos (by omega),CZ]at r;have t:1<=l.length:=by grind
   grind [aw,jO]
  | false=>
   rw[nT (by grind)];show aw l = -1;rw[aw];cases n:dQ l with
   | false=>rw[nZ l _ n (λ_=>q)]
   | true=>
    rw[ob l 0 0 (by omega) (by omega) n];by_cases t:(0:Int)+l.length<=6
    .rw[if_pos t];have A:l=[]:=by grind [iV]
     subst A;rfl
    grind
 | true=>
  have D:=om q;cases i:made dig 6 (aM 46 l) with
  | false=>
   rw[nT i];show aw l = -1;rw[aw];cases n:dQ (aM 46 l) with
   | false=>grind [js,nZ,KO]
   | true=>
    have r:=ob (aM 46 l) 0 0 (by omega) (by omega) n;by_cases t:(0:Int)+(aM 46 l).length<=6
    .grind [iV,xN,nZ,yo,jO]
    grind [js]
  | true=>
   obtain⟨v,w,s⟩:=iV.1 i;have r:=ob (aM 46 l) 0 0 (by omega) (by omega) s;rw[if_pos (by omega),CZ]at r;have z:1<=(aM 46 l).length:=by grind
   have j:et (0,0,-1) l=et (val (aM 46 l),0+(aM 46 l).length,0) (cO 46 l):=by grind [js,xN]
   rw[jP i q,aw,j];generalize val (aM 46 l)=V;generalize B:(0:Int)+(aM 46 l).length=k;have x:¬k<1:=by omega
   cases p:dQ (cO 46 l) with
   | false=>grind [nZ,iV,dec]
   | true=>
    rw[yo _ _ _ _ (by omega) (by omega) p];by_cases f:(0:Int)+(cO 46 l).length<=3
    .rw[if_pos f];have e:cO 46 l≠[]->made dig 3 (cO 46 l)=true:=λu=>iV.2 ⟨u,by omega,p⟩
     generalize cO 46 l=g at p f e ⊢
     match g,p,f,e with
     | [],_,_,_=>
      show jO _=_;rw[jO,if_pos (ef (by simp))];rfl
     | [a],_,_,e=>
      rw[dec,if_pos (e (by simp))];show jO (V*10+((a.toNat:Int) - 48),k,0+1)=V*1000+vf 0 [a,48,48];grind [sV,jO]
     | [a,b],_,_,e=>
      rw[dec,if_pos (e (by simp))];show jO ((V*10+((a.toNat:Int) - 48))*10+((b.toNat:Int) - 48),k,0+2)=V*1000+vf 0 [a,b,48];grind [sV,jO]
     | [a,b,c],_,_,e=>
      rw[dec,if_pos (e (by simp))];show jO (((V*10+((a.toNat:Int) - 48))*10+((b.toNat:Int) - 48))*10+((c.toNat:Int) - 48),k,0+3)=V*1000+vf 0 [a,b,c];grind [sV,jO]
     | a ::b ::c ::d ::m,_,f,_=>grind
    grind [iV,dec]
end Same
namespace Same
open Bytes Nums Refs Refl Vals
theorem rT (g:List UInt8):num (48 ::46 ::g)=dec g:=by
 have a:aM 46 (48 ::46 ::g)=[48]:=rfl;have b:cO 46 (48 ::46 ::g)=g:=rfl;have c:has 46 (48 ::46 ::g)=true:=by simp[has]
 rw[jP (by rw[a];decide +kernel) c,a,b];grind [val,dec]
theorem KA:dec []=Y:=rfl
theorem OQ (q:List UInt8):IJ q=cw q:=by
 unfold IJ cw;by_cases c:q=[49]
 .rw[if_pos c,if_pos c]
 rw[if_neg c,if_neg c]
 match q with
 | []=>rfl
 | [a]=>grind
 | a ::b ::g=>grind [pn,rT,KA,dec]
theorem rS {b:UInt8}(t:List UInt8)(a:dig (b.toNat:Int)=false)(c:b≠46):num (b ::t)=Y:=by grind [nT,aM,made,Zd]
def kb (k:List UInt8)(g:Bool):Int:=if k=[99] then 99 else if k=[103] then (if g=true then 100 else 103) else if k=[115] then 115 else 109
def conv (x:List UInt8×Bool×Int×List UInt8):Int×Int×List UInt8:=(kb x.1 x.2.1,x.2.2.1,x.2.2.2)
theorem getD_none {l:List UInt8}(h:num l=Y):¬0<=aw l:=by
 rw[pn,h];decide
theorem getD_some {l:List UInt8}{n:Int}(h:num l=Z n):aw l=n/\0<=n:=by
 rw[pn,h];exact⟨rfl,(fv h).1⟩
theorem iG (k v:List UInt8)(e:Bool):bK k v e=if e=true/\(k=[103]\/k=[115]) then Y else (rv k v).map conv:=by
 by_cases m:k=[99]
 .subst m;rw[if_neg (by simp),IT rfl,bK,if_pos rfl,signed]
  match v with
  | []=>rfl
  | b ::t=>
   by_cases a:b=45
   .subst a;have c:qC ((45:UInt8) ::t)=45:=rfl;have i:eB ((45:UInt8) ::t)=t:=rfl;have g:sg [45] ((45:UInt8) ::t)=[45]:=rfl;rw[c,i,g];show _=(((num t).map _).map _).map _;cases f:num t with
    | none=>
     rw[if_neg (λh=>getD_none f h.1)];rfl
    | some n=>
     obtain⟨j,l⟩:=getD_some f;rw[j,if_pos ⟨l,by decide⟩];rfl
   by_cases d:b=43
   .subst d;have c:qC ((43:UInt8) ::t)=43:=rfl;have g:sg [45] ((43:UInt8) ::t)=[]:=rfl;rw[c,if_neg (by simp),g];show Y=(((num (43 ::t)).map _).map _).map _;rw[rS t (by decide) (by decide)];rfl
   have c:qC (b ::t)=0:=by simp[qC,a,d]
   have i:eB (b ::t)=b ::t:=by rw[eB,if_pos c]
   have g:sg [45] (b ::t)=[]:=by simp[sg,has,a]
   rw[c,i,g];show _=(((num (b ::t)).map _).map _).map _;cases f:num (b ::t) with
   | none=>
    rw[if_neg (λh=>getD_none f h.1)];rfl
   | some n=>
    obtain⟨j,l⟩:=getD_some f;rw[j,if_pos ⟨l,by decide⟩];rfl
 by_cases o:k=[103]
 .subst o;cases e with
  | true=>
   rw[if_pos ⟨rfl,te rfl⟩,bK,if_neg (by decide),if_pos rfl,if_neg (by simp)]
  | false=>
   rw[if_neg (by simp),AS rfl,bK,if_neg (by decide),if_pos rfl,signed]
   match v with
   | []=>rfl
   | b ::t=>
    by_cases a:b=45
    .subst a;have c:qC ((45:UInt8) ::t)=45:=rfl;have i:eB ((45:UInt8) ::t)=t:=rfl;have g:sg [43,45] ((45:UInt8) ::t)=[45]:=rfl;rw[c,i,g];show _=(((num t).map _).map _).map _;cases f:num t with
     | none=>
      rw[if_neg (λh=>getD_none f h.1)];rfl
     | some n=>
      obtain⟨j,l⟩:=getD_some f;rw[j,if_pos ⟨l,rfl⟩];rfl
    by_cases d:b=43
    .subst d;have c:qC ((43:UInt8) ::t)=43:=rfl;have i:eB ((43:UInt8) ::t)=t:=rfl;have g:sg [43,45] ((43:UInt8) ::t)=[43]:=rfl;rw[c,i,g];show _=(((num t).map _).map _).map _;cases f:num t with
     | none=>
      rw[if_neg (λh=>getD_none f h.1)];rfl
     | some n=>
      obtain⟨j,l⟩:=getD_some f;rw[j,if_pos ⟨l,rfl⟩];rfl
    have c:qC (b ::t)=0:=by simp[qC,a,d]
    have i:eB (b ::t)=b ::t:=by rw[eB,if_pos c]
    have g:sg [43,45] (b ::t)=[]:=by simp[sg,has,a,d]
    rw[c,i,g];show _=(((num (b ::t)).map _).map _).map _;cases f:num (b ::t) with
    | none=>
     rw[if_neg (λh=>getD_none f h.1)];rfl
    | some n=>
     obtain⟨j,l⟩:=getD_some f;rw[j,if_pos ⟨l,rfl⟩];rfl
 by_cases p:k=[115]
 .subst p;cases e with
  | true=>
   rw[if_pos ⟨rfl,ef rfl⟩,bK,if_neg (by decide),if_neg (by decide),if_pos rfl,if_neg (by simp)]
  | false=>
   rw[if_neg (by simp),QK rfl,bK,if_neg (by decide),if_neg (by decide),if_pos rfl];cases r:made dm 16 v with
   | true=>rfl
   | false=>rfl
 rw[if_neg (by grind),bK,if_neg m,if_neg o,if_neg p];by_cases q:k=[109,115]\/k=[104]
 .rw[if_pos q,IU (q.elim ef te),signed];have g:sg [] v=[]:=vG v;rw[g];show _=(((num v).map _).map _).map _
  match v with
  | []=>rfl
  | b ::t=>
   by_cases a:b=45
   .subst a;have c:qC ((45:UInt8) ::t)=45:=rfl;rw[c,if_neg (by simp),rS t (by decide) (by decide)];rfl
   by_cases d:b=43
   .subst d;have c:qC ((43:UInt8) ::t)=43:=rfl;rw[c,if_neg (by simp),rS t (by decide) (by decide)];rfl
   have c:qC (b ::t)=0:=by simp[qC,a,d]
   have i:eB (b ::t)=b ::t:=by rw[eB,if_pos c]
   rw[c,i];cases f:num (b ::t) with
   | none=>
    rw[if_neg (λh=>getD_none f h.1)];rfl
   | some n=>
    obtain⟨j,l⟩:=getD_some f;rw[j,if_pos ⟨l,rfl⟩];rfl
 grind [rv]
end Same
end Go.Proofs.YtpndiccohnafbaaGreatDoor
