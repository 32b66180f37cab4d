/- The walk of the document's plain form. -/
import Derived.Deep.RegionWith
import Derived.BigRegion
import Derived.Deep.CutRange
import Derived.Test.YtpndiccohnafbaaGreatDoorPlainvy
import Derived.Test.YtpndiccohnafbaaGreatDoorRoy
import Derived.Test.YtpndiccohnafbaaGreatDoorShelgy
set_option maxHeartbeats 9000000
open Option renaming none->Y,some->Z,map_eq_some_iff->Ub
open Go.Value renaming string->L,slice->Q,int->I
open Go.IntKind renaming i64->O
open List renaming take_length->ca,getElem?_eq_getElem->Ua,mem_cons_self->Va,getD_eq_getElem?_getD->Ya,getElem?_eq_some_iff->Za,take_add_one->eb,foldl_append->qb,take_of_length_le->Vb,length_cons->Wb,flatMap_append->Yb,mem_map_of_mem->Zb,getElem?_map->Uc,length_map->Wc,append_nil->Xc,foldl_map->Yc
open Go renaming Value->C,World->N
open Go.Lib renaming itoa->Wa,decDigits_length->Xa
open Nat renaming le_trans->Xb
open Go.RowKit.Below renaming refl->Vc
open ByteArray renaming size_append->Zc
open Go.Proofs.Tryz renaming prog->ad
namespace Go.Proofs.YtpndiccohnafbaaGreatDoor
namespace Refp
open Go.RowKit Bytes Numw Mem Plain Tagw Bounds Refe Reft Refd
theorem aR {w:N}{b:Nat}{t:TypeId}{a c d e f g:C}(h:af w b t #[a,c,d,e,f,g]):
  w.cell? ⟨b,0,Y⟩=Z a/\w.cell? ⟨b,1,Y⟩=Z c/\w.cell? ⟨b,2,Y⟩=Z d/\w.cell? ⟨b,3,Y⟩=Z e/\w.cell? ⟨b,4,Y⟩=Z f/\w.cell? ⟨b,5,Y⟩=Z g:=
 ⟨h.Ri 0,h.Ri 1,h.Ri 2,h.Ri 3,h.Ri 4,h.Ri 5⟩
def Tm (K v:Int)(x:List UInt8):List UInt8:=if K=115 then x else (if v<0 then [45] else if K=100 then [43] else [])++ou v.natAbs
def FC (K v:Int)(d:ByteArray)(w:N)(b:Array C)(c:C)(a:N):Prop:=
 ∃y:ByteArray,c=L y/\y.size<=40/\B y=Tm K v (B d)/\Below w.heap.size w a/\af a w.heap.size 218 b
def FB (c:ByteArray)(p:List UInt8)(K:Int)(w:N)(b:Array C)(d:C)(a:N):Prop:=
 ∃y:ByteArray,d=L y/\y.size<=100/\B y=B c++[58]++p++[124]++B (ty K)/\Below w.heap.size w a/\af a w.heap.size 218 b
theorem aL {b y:ByteArray}{p:List UInt8}{K:Int}{w wc d:N}{f:Array C}(k:b.size<=16)(i:B y=p)(j:y.size<=40)(h:Below w.heap.size w wc)(g:af wc w.heap.size 218 f)
  (c:Below wc.drew.heap.size wc.drew d):FB b p K w f (L ((((b++⟨#[58]⟩)++y)++⟨#[124]⟩)++ty K)) d:=by
 have e:B ((((b++⟨#[58]⟩)++y)++⟨#[124]⟩)++ty K)=B b++[58]++p++[124]++B (ty K):=by
  rw[bp,bp,bp,bp,i];rfl
 have a:Below wc.heap.size wc d:=uQ c;refine⟨_,rfl,?_,e,h.trans (a.mono h.size),g.below a g.lt⟩;grind [aj,CW]
end Refp
namespace Plainp
open Go.RowKit Bytes Nums Numw Mem Tags Tagw Opts Plain Readw Plainw Plainv
def FB (c kb:ByteArray)(p:List UInt8)(w:N)(b:Array C)(d:C)(a:N):Prop:=
 ∃y:ByteArray,d=L y/\y.size<=140737488355400/\B y=B c++[58]++p++[124]++B kb/\Below w.heap.size w a/\af a w.heap.size 206 b
end Plainp
namespace Same
open Bytes Nums Refs Refl Vals Opts Tags Spl Sorts Bounds
theorem LW {k l:List UInt8}{x:List UInt8×Bool×Int×List UInt8}(h:rv k l=Z x):
  (x.1=[99]/\x.2.1=false)\/x.1=[103]\/(x.1=[115]/\x.2.1=false)\/(x.1=[109,115]/\x.2.1=false):=by grind [rv,Ub]
theorem Cx {l:List UInt8}{m:jv}(h:rd l=Z m):
  (m.kind=[99]/\m.signed=false)\/m.kind=[103]\/(m.kind=[115]/\m.signed=false)\/(m.kind=[109,115]/\m.signed=false):=by
 unfold rd fE at h;split at h
 .split at h
  .split at h
   .rw[Option.bind_eq_some_iff]at h;obtain⟨x,a,h⟩:=h;grind [LW,Ub]
   cases h
  cases h
 cases h
def PQ (m:Rs):Prop:=m.name.length<=16/\m.word.length<=16/\(-999999999<=m.value/\m.value<=999999999)/\(1<=m.cw/\m.cw<=1000)/\m.tags.length<=4/\∀x∈m.tags,x.length<=8
theorem yw {l:List UInt8}{m:Rs}(h:bZ l=Z m):PQ m:=by
 rw[sj,Ub]at h;obtain⟨n,g,rfl⟩:=h;obtain⟨a,i,b,c,d,e,f⟩:=jS g;exact⟨a,b,c,d,e,f⟩
end Same
namespace Ra
open Go.RowKit Mem Foot Bytes Wm Im Refi Tagw Reft Refs Refr Refl Refw
def er (x:Sx):Sx:=⟨x.nb,x.K,x.v,x.wb,x.r,Q Y 0 0⟩
def mB (s:ke):ke:=⟨s.ks,s.ss.map (·.map er),s.drp⟩
theorem kN (l:List Sx):aI (l.map er)=aI l:=by
 unfold aI;rw[Yc];rfl
theorem BV (a:List (List Sx))(i:Nat):(a.map (·.map er)).getD i []=(a.getD i []).map er:=by
 rw[Ya,Ya,Uc];cases a[i]? <;> rfl
theorem ON (a:Nat)(x:Sx)(i:Nat)(s:ke):mB (IF a x i s)=IF a (er x) i (mB s):=by
 unfold IF;simp only[mB,BV,kN];by_cases h:x.K=115/\B x.wb∉aI (s.ss.getD i [])/\a<=(aI (s.ss.getD i [])).length
 .rw[if_pos h,if_pos (show (er x).K=115/\¬B (er x).wb∈aI (s.ss.getD i [])/\a<=(aI (s.ss.getD i [])).length from h)]
 rw[if_neg h,if_neg (show ¬((er x).K=115/\¬B (er x).wb∈aI (s.ss.getD i [])/\a<=(aI (s.ss.getD i [])).length) from h)];simp only[List.map_set,List.map_append,List.map_cons,List.map_nil]
theorem ED (key:List UInt8)(s:ke):mB (dA key s)=dA key (mB s):=by
 unfold dA;have e:(mB s).ks=s.ks:=rfl;rw[e];by_cases h:pl key s.ks=s.ks.length
 .rw[if_pos h,if_pos h];simp[mB]
 rw[if_neg h,if_neg h]
theorem IP (a b:Nat)(key:List UInt8)(x:Sx)(s:ke):mB (kR a b key x s)=kR a b key (er x) (mB s):=by
 unfold kR;have e:(mB s).ks=s.ks:=rfl;rw[e];by_cases h:pl key s.ks=s.ks.length/\a<=s.ks.length
 .rw[if_pos h,if_pos h];rfl
 rw[if_neg h,if_neg h,ON,ED]
def kX (m:Rs):Sx:=⟨⟨m.name.toArray⟩,m.kind,m.value,⟨m.word.toArray⟩,m.cw,Q Y 0 0⟩
def yi (m:Rs):List UInt8:=m.name++[124]++B (ty m.kind)++Plain.pt m.tags
def eN (a b:Nat)(c:ke×Nat)(l:List UInt8):ke×Nat:=if l=[] then c else match bZ l with
 | none=>(c.1,c.2+1)
 | some m=>(kR a b (yi m) (kX m) c.1,c.2)
def zp (a:ke×Nat):Prop:=a.1.ks.length<=1000/\a.1.drp<=1000000000/\a.2<=1000000000/\∀(i:Nat) l,a.1.ss[i]? = Z l->l.length<=10000000/\∀k,k<=l.length->(aI (l.take k)).length<=1000
theorem Cn {s:ke}{b:Nat}(h:zp (mB s,b)):∀(i:Nat) l,s.ss[i]? = Z l->l.length<=10000000/\∀k,k<=l.length->(aI (l.take k)).length<=1000:=by
 intro i l e;have a:=h.2.2.2 i (l.map er) (by show (s.ss.map _)[i]? = _;rw[Uc,e];rfl);rw[Wc]at a;refine⟨a.1,λk d=>?_⟩;have c:=a.2 k d;rwa [<-List.map_take,kN]at c
theorem Ar (l:List UInt8):lines l=tw [10] l ::(if (tw [10] l).length<l.length then lines (l.drop ((tw [10] l).length+1)) else []):=by
 induction l with
 | nil=>rfl
 | cons c r b=>
  by_cases a:c=10
  .subst a;have e:tw [10] (10 ::r)=[]:=by simp[tw]
   rw[e,lines,if_pos rfl,if_pos (by simp)];rfl
  have e:tw [10] (c ::r)=c ::tw [10] r:=by
   unfold tw;rw[List.takeWhile_cons_of_pos (by simp[a])]
  rw[e,lines,if_neg a,b];simp only[Wb,List.drop_succ_cons];congr 1;by_cases h:(tw [10] r).length<r.length
  .rw[if_pos h,if_pos (by omega)]
  rw[if_neg h,if_neg (by omega)]
def LS (d:List UInt8)(p:Nat):List (List UInt8):=if p<=d.length then lines (d.drop p) else []
theorem Kl {d:List UInt8}{p:Nat}(h:p<=d.length):LS d p=tw [10] (d.drop p) ::LS d (p+(tw [10] (d.drop p)).length+1):=by
 unfold LS;rw[if_pos h,Ar];congr 1;rw[List.length_drop];by_cases a:(tw [10] (d.drop p)).length<d.length - p
 .rw[if_pos a,if_pos (by omega),List.drop_drop];congr 2
 rw[if_neg a,if_neg (by omega)]
theorem DI {series sets:Nat}{st0:ke×Nat}{a:List (List UInt8)}{k:Nat}{x:List UInt8}{r:List (List UInt8)}(h:a.drop k=x ::r):(a.take (k+1)).foldl (eN series sets) st0=eN series sets ((a.take k).foldl (eN series sets) st0) x/\a.drop (k+1)=r/\k<a.length:=by
 have b:k<a.length:=by
  rcases Nat.lt_or_ge k a.length with b|b
  .exact b
  rw[List.drop_eq_nil_of_le b]at h;cases h
 have c:a[k]? = Z x:=by
  have:=congrArg (λl=>l[0]?) h;simpa using this
 exact⟨by rw[eb,c,qb,Option.toList_some,List.foldl_cons,List.foldl_nil],by rw[<-List.drop_drop,h,List.drop_succ_cons,List.drop_zero],b⟩
set_option maxRecDepth 10000 in
theorem Ju (w0:N)(b:Nat)(c:Fin 6->Int)(s:ke)(t:Nat)(K S:C)(vs:List C)(d:ByteArray)(a g:Nat)(a0:c 1=(a:Int))(a1:c 2=(g:Int))(w:N)(h:Rw w0 w b c s.ks s.ss t s.drp K S vs)(J:w0.heap.size<=w.heap.size)(hd:d.size<=1000000000)
  (a9:∀k,zp (((lines (B d)).take k).foldl (eN a g) (mB s,t))):
  Calls ad 104 #[.pointer (Z ⟨b,0,Y⟩),L d] w λe w'=>e=.returned (.tuple #[])/\(∃W o K' S' a6,Rw w0 w' b c W.ks W.ss o W.drp K' S' a6/\(mB W,o)=(lines (B d)).foldl (eN a g) (mB s,t))/\Below w0.heap.size w w':=by
 change Hid _ at a9 a0 a1;have HH:=aa h;clear h;have e7:(B d).length=d.size:=(Bytes.aj d).symm;go_in;go_wp2_with fail;go_loopw [4] (λat_ wr=>∃(p k:Nat) (W:ke) (o:Nat) (K' S':C) (a6:List C),at_=I O (p:Int)/\p<=d.size+1/\Hid (Rw w0 wr b c W.ks W.ss o W.drp K' S' a6)/\Hid ((mB W,o)=((lines (B d)).take k).foldl (eN a g) (mB s,t))/\Hid ((lines (B d)).drop k=LS (B d) p)/\Hid (Below w0.heap.size w wr)) (λat_ _=>d.size+2 - (intOf at_).toNat)
 case atStart=>exact⟨0,0,s,t,K,S,vs,rfl,by omega,HH,rfl,by unfold LS;rw[if_pos (Nat.zero_le _)];rfl,Vc _ _⟩
 case round=>
  obtain⟨p,k,y,f,K1,S1,X,rfl,hp,HR,HE,HL,HB⟩:=hrel;by_cases d4:p<=d.size
  .have d5:(p:Int)<=(d.size:Int):=by omega
   have hst:=Kl (d:=B d) (p:=p) (by omega);rw[<-HL.out]at hst;have a7:=aa (DI (series:=a) (sets:=g) (st0:=(mB s,t)) hst);have d0:=Mv d ⟨#[10]⟩ p d4 (by omega) (by decide) wr;have j:=a9.out k;rw[<-HE.out]at j;have d6:=j.2.2.1;simp only at d6;change Hid _ at j;clear hst;go_wp2_with fail;refine d0.mono ?_;clear d0;rintro e w2 ⟨⟨z,rfl,hz,f0⟩,n,rfl⟩;have HZ:Hid (B z=tw [10] ((B d).drop p)):=hz;have e8:((p+z.size:Nat):Int)=(p:Int)+(z.size:Int):=by omega
   have f1:z.size<=1000000000:=by omega
   have b6:=aa (HR.keep (ax (n:=n) (Vc _ _)));have P:Hid (Below w0.heap.size w (wr.drewN n)):=ax HB;have a2:(tw [10] ((B d).drop p)).length=z.size:=by rw[<-HZ.out,<-Bytes.aj]
   have a4:=aa (show (lines (B d)).drop (k+1)=LS (B d) (p+z.size+1) by rw[a7.2.1,a2]);have a3:=aa (show ((lines (B d)).take (k+1)).foldl (eN a g) (mB s,t)=eN a g (mB y,f) (B z) by rw[a7.1,<-HE.out,HZ.out]);clear hz a2 HR HB HL;generalize wr.drewN n=w2 at *;by_cases u:B z=[]
   .have d7:z=⟨#[]⟩:=Bytes.bo u;subst d7;have A:=aa (show eN a g (mB y,f) (B ⟨#[]⟩)=(mB y,f) by unfold eN;rw[if_pos u]);go_wp2_with fail;go_roundw
    case rel=>exact⟨p+1,k+1,y,f,K1,S1,X,by go_num,by omega,b6,aa (by rw[a3.out,A.out]),a4,P⟩
    case measure=>simp only[intOf];omega
   have e9:(z.toList==[])=false:=Vals.bH u;have c3:=read z (by omega) w2;change Hid _ at u;go_wp2_with fail;refine c3.mono ?_;clear c3;rintro e w3 ⟨F,a5⟩;have b7:=aa (b6.keep F);have R:=aa (P.trans (F.mono (Xb J P.size)));have e4:=aa F.size;rcases a5 with ⟨H,x,KK,v,M,r,sa,sl,sc,rfl⟩|⟨m,x,M,tv,q,G,d1,hst,rfl⟩
   .have A:=aa (show eN a g (mB y,f) (B z)=(mB y,f+1) by unfold eN;rw[if_neg u.out,H]);unfold kU;have D:=aa (b7.keep (ai (w:=w3) (.cells #[L x,I .u8 KK,I O v,L M,I O r,Q sa sl sc] 218)));have T:=aa (R.alloc (Xb J R.size) (.cells #[L x,I .u8 KK,I O v,L M,I O r,Q sa sl sc] 218));clear H F;go_upto_region 7 with fail;generalize w3.alloc (.cells #[L x,I .u8 KK,I O v,L M,I O r,Q sa sl sc] 218)=w4 at *;obtain⟨c1,c2,c6,c7,c8,c9,f6,f7,f8,f9⟩:=iP D.head;have E:=aa (D.SC (f+1));have U:=aa (T.setCell (p:=⟨b,8,Y⟩) D.far (I O ((f+1:Nat):Int)));rw[show ((f+1:Nat):Int)=(f:Int)+1 by omega]at E U;clear c1 c2 c6 c7 c9 f6 f7 f9;go_wp2_with fail;go_roundw
    case rel=>exact⟨p+z.size+1,k+1,y,f+1,K1,S1,X,by go_num,by omega,E,aa (by rw[a3.out,A.out]),a4,U⟩
    case measure=>simp only[intOf];omega
   obtain⟨d8,f2,f3,f4,d9,e0⟩:=Same.yw q;obtain⟨ta,tc,rfl⟩:=fP hst;have A:=aa (show eN a g (mB y,f) (B z)=(mB (kR a g (yi m) ⟨x,m.kind,m.value,M,m.cw,Q ta m.tags.length tc⟩ y),f) by
    unfold eN;rw[if_neg u.out,q];simp only;rw[IP];have:kX m=er ⟨x,m.kind,m.value,M,m.cw,Q ta m.tags.length tc⟩:=by
     have e1:x=⟨m.name.toArray⟩:=Bytes.bo (by rw[G];rfl);have e2:M=⟨m.word.toArray⟩:=Bytes.bo (by rw[d1];rfl);unfold kX er;rw[e1,e2]
    rw[this])
   unfold kU;have V:=ai (w:=w3) (.cells #[L x,I .u8 m.kind,I O m.value,L M,I O m.cw,Q ta m.tags.length tc] 218);have D:=aa (b7.keep V);have T:=aa (R.trans (V.mono (Xb J R.size)));have b8:=aa (af.new w3 218 #[L x,I .u8 m.kind,I O m.value,L M,I O m.cw,Q ta m.tags.length tc]);have d3:=aa ((Strs.kept hst V).mono (lo':=w0.heap.size) (Xb J P.size));have e5:=aa G;have c0:x.size<=16:=by rw[Bytes.aj,G];exact d8
   have a8:=aa (show yi m=B x++[124]++B (ty m.kind)++Plain.pt m.tags by unfold yi;rw[G]);clear q F G d1 hst V;generalize e6:w3.heap.size=XX at b8;go_upto_region 7 with fail;generalize w3.alloc (.cells #[L x,I .u8 m.kind,I O m.value,L M,I O m.cw,Q ta m.tags.length tc] 218)=w4 at *;obtain⟨b0,b1,b2,b3,b4,b5⟩:=kn b8;have c5:y.ks.length<=1000:=j.1;have c4:y.drp<=1000000000:=j.2.1;have htk:=take w0 b c y f K1 S1 X ⟨x,m.kind,m.value,M,m.cw,Q ta m.tags.length tc⟩ ta m.tags.length tc rfl m.tags a g a0 a1 w4 D (Xb J T.size) d3 c0 d9 e0 c5 c4 (λi l hl=>⟨(Cn j i l hl).1,λ_=>(Cn j i l hl).2⟩) (yi m) a8;go_wp2_with fail;refine htk.mono ?_;clear htk;rintro e w5 ⟨rfl,⟨K5,S5,e3,E⟩,b9⟩;change Hid _ at E;have U:=aa (T.trans b9);clear b9 b0 b1 b2 b3 b4 b5;go_wp2_with fail;go_roundw
   case rel=>exact⟨p+z.size+1,k+1,_,f,K5,S5,e3,by go_num,by omega,E,aa (by rw[a3.out,A.out]),a4,U⟩
   case measure=>simp only[intOf];omega
  have d5:¬(p:Int)<=(d.size:Int):=by omega
  have d2:=aa (show (lines (B d)).take k=lines (B d) by
   have h1:(lines (B d)).drop k=[]:=by rw[HL.out];unfold LS;rw[if_neg (by omega)]
   rw[Vb];have:=congrArg List.length h1;rw[List.length_drop]at this;simp at this;omega)
  go_wp2_with fail;go_end0;exact⟨rfl,⟨y,f,⟨K1,S1,X,HR⟩,by rw[HE.out,d2.out]⟩,HB⟩
end Ra
namespace Ra
open Go.RowKit Mem Foot Bytes Wm Im Refi Tagw Cq
def eJ (ks:List (List UInt8)):List (List UInt8):=ks.foldl (λa k=>ins k a) []
variable {a b c:C}{d:Nat}
theorem AU {ks:List (List UInt8)}  {x:List UInt8}(a:ks[d]? = Z x):eJ (ks.take (d+1))=ins x (eJ (ks.take d)):=by
 unfold eJ;rw[eb,a,qb];rfl
noncomputable def jD (a:Nat)(s:ke)(k:List UInt8):List UInt8:=k++[61]++tell a (s.ss.getD (pl k s.ks) [])++[10]
noncomputable def mG (a:Nat)(number:Int)(b:Nat)(s:ke):List UInt8:=jY number b s.drp++(eJ s.ks).flatMap (jD a s)
structure Tok (s:ke)(rej:Nat):Prop where
 ks:s.ks.length<=1000
 kl:∀k∈s.ks,k.length<=100
 drp:s.drp<=1000000000
 rej:rej<=1000000000
 rows:∀(i:Nat) l,s.ss[i]? = Z l->l≠[]/\l.length<=10000000/\Same l
 sub:∀k,k<=s.ks.length->(eJ (s.ks.take k)).length<=1000
 mem:∀k∈eJ s.ks,k∈s.ks
theorem zX {w:N}  {t:TypeId}{  e f g i j k l:C}(h:af w d t #[a,b,c,e,f,g,i,j,k,l]):
  w.cell? ⟨d,0,Y⟩=Z a/\w.cell? ⟨d,1,Y⟩=Z b/\w.cell? ⟨d,2,Y⟩=Z c/\w.cell? ⟨d,3,Y⟩=Z e/\w.cell? ⟨d,4,Y⟩=Z f/\w.cell? ⟨d,5,Y⟩=Z g/\w.cell? ⟨d,6,Y⟩=Z i/\w.cell? ⟨d,7,Y⟩=Z j/\w.cell? ⟨d,8,Y⟩=Z k/\w.cell? ⟨d,9,Y⟩=Z l:=
 ⟨h.Ri 0,h.Ri 1,h.Ri 2,h.Ri 3,h.Ri 4,h.Ri 5,h.Ri 6,h.Ri 7,h.Ri 8,h.Ri 9⟩
theorem Rw.row {x w:N}  {p:Fin 6->Int}{ks:List (List UInt8)}{v:List (List Sx)}{m l:Nat}  {j:List C}(h:Rw x w d p ks v m l a b j){i:Nat}  (o:j[i]? = Z c):∃k e,b=Q (Z ⟨k,0,Y⟩) j.length e/\j.length<=e/\k<w.heap.size/\w.cell? ⟨k,i,Y⟩=Z c:=by
 have D:=(Za.1 o).1;rcases h.rows.2 with ⟨_,y⟩|⟨g,q,f,r,z,s,t,A,B,u⟩
 .omega
 have n:af w g 224 f:=s;refine⟨g,q,r,t,n.lt,n.cell i _ ?_⟩;have:(f.toList.take (j.length*1))[i]? = Z c:=by rw[u];exact o
 rw[List.getElem?_take]at this;split at this
 .simpa using this
 cases this
theorem AJ {k:List UInt8}{ks:List (List UInt8)}(h:k∈ks):pl k ks<ks.length:=by
 unfold pl;exact List.findIdx_lt_length_of_exists ⟨k,h,by simp⟩
theorem ek {v:Int}(a:-9223372036854775808<=v)(b:v<=9223372036854775807):(Wa v).length<=21:=by
 unfold Wa;split
 .have:=Plain.iW 18 v.natAbs (by omega);rw[Wb,Xa];omega
 have:=Plain.iW 18 v.toNat (by omega);rw[Xa];omega
theorem JL {b:List (Int×cL)}(h:∀c∈b,0<=c.2.aL/\c.2.aL<=2000000000)(q:Int):∀a,0<=upto q a b/\upto q a b<=2000000000:=by
 induction b with
 | nil=>intro a;simp[upto]
 | cons c r g=>
  intro a;have d:=h c (Va ..);have e:=g (λc f=>h c (List.mem_cons_of_mem _ f)) (a+c.2.weight);unfold upto;split
  .exact d
  exact e
theorem JB {l:List Sx}(f:2<=d)(e:l≠[])(P:l.length<=100000000)(j:Same l):(tell d l).length<=400:=by
 cases l with
 | nil=>exact absurd rfl e
 | cons x r=>
  rw[tell];split
  .have R:(aI (x ::r)).length<=1000:=by
    cases j with
    | set _ n=>
     have:=n (x ::r).length (Nat.le_refl _);rwa [ca]at this
    | tim h=>
     rename_i b;have:=(h x (Va ..)).1;omega
    | num h=>
     rename_i b;exact absurd b (h x (Va ..)).1
   have:=ek (v:=((aI (x ::r)).length:Int)) (by omega) (by omega);omega
  split
  .have o:∀y∈x ::r,Py y:=by
    cases j with
    | set h _=>
     have:=h x (Va ..);omega
    | tim h=>exact λy p=>(h y p).2
    | num h=>
     rename_i b;exact absurd b (h x (Va ..)).2.1
   have a:=(uC f (x ::r) o).1;generalize cy d (x ::r)=t at a;have g:=λq=>JL (λc i=>⟨(a.tJ c i).2.2.1,(a.tJ c i).2.2.2.1⟩) q 0
   have k:=a.count;have m:=a.sum;have K:=a.least;have M:=a.al;simp only[top]at k m;have s:=ek (v:=t.count) (by omega) (by omega);have u:=ek (v:=t.sum) (by omega) (by omega);have w:=ek (v:=t.least) (by omega) (by omega);have z:=ek (v:=t.al) (by omega) (by omega);have G:=g (50*(t.count - 1) / 100);have H:=g (90*(t.count - 1) / 100);have J:=g (99*(t.count - 1) / 100);have A:=ek (v:=dz t 50) (by unfold dz;omega) (by unfold dz;omega);have D:=ek (v:=dz t 90) (by unfold dz;omega) (by unfold dz;omega);have E:=ek (v:=dz t 99) (by unfold dz;omega) (by unfold dz;omega);have F:(B (flag t.folded)).length=1:=by cases t.folded<;>rfl
   rw[<-sO t _ _ _ _ _ _ _ rfl rfl rfl rfl rfl rfl rfl];simp only[List.length_append,Wb,List.length_nil];omega
  have h:=ui (x ::r);have:=ek (v:=numOf (x ::r)) (by omega) (by omega);omega
set_option maxRecDepth 10000 in
theorem Rb (w0:N)(b:Nat)(c:Fin 6->Int)(s:ke)(r:Nat)(K S:C)(vs:List C)(f:Nat)(H:c 3=(f:Int))(number:Int)(b9:-9223372036854775808<=number)(c0:number<=9223372036854775807)(w:N)(h:Rw w0 w b c s.ks s.ss r s.drp K S vs)(b8:2<=f)(hm:f<=64)(ht:Tok s r):
  Calls ad 105 #[.pointer (Z ⟨b,0,Y⟩),I O number] w λe w'=>(∃z,e=.returned (L z)/\B z=mG f number r s)/\Below w.heap.size w w':=by
 have HH:=aa h;have HM:=aa H;have HT:=aa ht;have d4:=ht.ks;have d9:=ht.rej;have d8:=ht.drp;obtain⟨d1,X⟩:∃d:ByteArray,B d=Wa number:=⟨⟨(Wa number).toArray⟩,rfl⟩;obtain⟨d2,a0⟩:∃d:ByteArray,B d=Wa (r:Int):=⟨⟨(Wa (r:Int)).toArray⟩,rfl⟩;obtain⟨d3,a1⟩:∃d:ByteArray,B d=Wa (s.drp:Int):=⟨⟨(Wa (s.drp:Int)).toArray⟩,rfl⟩;have dig:∀(v:Int) (d:ByteArray),B d=Wa v->-9223372036854775808<=v->v<=9223372036854775807->∀W:N,Calls ad 134 #[I O v] W λe w'=>e=.returned (L d)/\Below W.heap.size W w':=λv d hd h0 h1 W=>
  (gH v h0 h1 W).mono λe w' ⟨⟨z,U,V,_⟩,e3⟩=>⟨by
   have e4:z=d:=Bytes.bo (by rw[V,hd]);rw[U,e4],e3⟩
 have sz:∀(v:Int) (d:ByteArray),B d=Wa v->-9223372036854775808<=v->v<=9223372036854775807->d.size<=21:=λv d hd h0 h1=>by
  rw[Bytes.aj,hd];unfold Wa;split
  .have:=Plain.iW 18 v.natAbs (by omega);rw[Wb,Xa];omega
  have:=Plain.iW 18 v.toNat (by omega);rw[Xa];omega
 have f0:=sz _ d1 X b9 c0;have f1:=sz _ d2 a0 (by omega) (by omega);have f2:=sz _ d3 a1 (by omega) (by omega);have b1:=aa (λq:Bw w=>aT (dig _ d1 X b9 c0 q.val));have b2:=aa (λq:Bw w=>aT (dig _ d2 a0 (by omega) (by omega) q.val));have b3:=aa (λq:Bw w=>aT (dig _ d3 a1 (by omega) (by omega) q.val));have C8:∀q:Bw w,q.val.cell? ⟨b,8,Y⟩=Z (I O (r:Int)):=λq=>(h.keep q.is).head.Ri 8
 have C9:∀q:Bw w,q.val.cell? ⟨b,9,Y⟩=Z (I O (s.drp:Int)):=λq=>(h.keep q.is).head.Ri 9
 have HD:=aa (show B (⟨#[119,105,110,100,111,119,32]⟩++d1++⟨#[32,114,101,106,101,99,116,115,32]⟩++d2++⟨#[32,100,114,111,112,115,32]⟩++d3++⟨#[10]⟩)=jY number r s.drp by
  simp only[Bytes.bp,X,a0,a1];rfl)
 clear H ht X a0 a1 dig sz h;go_in;go_wp2_with fail;refine aU ?_;repeat go_big_quiet_step ((first|(go_at_call_of 134 (number);exact b1.out _)|(go_at_call_of 134 ((r:Nat):Int);exact b2.out _)|(go_at_call_of 134 ((s.drp:Nat):Int);exact b3.out _)))
 refine wpQuiet_nil ?_;rintro _ ⟨q,rfl⟩;have HR:=aa (HH.keep q.is);have HB:=aa q.is;generalize q.val=w1 at *;clear C8 C9 b1 b2 b3;obtain⟨hd,a4⟩:∃hd:ByteArray,⟨#[119,105,110,100,111,119,32]⟩++d1++⟨#[32,114,101,106,101,99,116,115,32]⟩++d2++⟨#[32,100,114,111,112,115,32]⟩++d3++⟨#[10]⟩=hd:=⟨_,rfl⟩;have e0:hd.size<=100:=by
  rw[<-a4];simp only[Zc];have U:(⟨#[119,105,110,100,111,119,32]⟩:ByteArray).size=7:=rfl;have V:(⟨#[32,114,101,106,101,99,116,115,32]⟩:ByteArray).size=9:=rfl;have e3:(⟨#[32,100,114,111,112,115,32]⟩:ByteArray).size=7:=rfl;have e4:(⟨#[10]⟩:ByteArray).size=1:=rfl;omega
 rw[a4]at HD ⊢;clear a4;obtain⟨ka,kc,M⟩:=cd HR.keys;change Hid _ at M;have c6:=(zX HR.head).2.2.2.2.2.2.1;rw[M.out]at c6;go_wp2_with fail;go_loopw [6,7] (λo i wr=>∃k:Nat,i=I O (k:Int)/\k<=s.ks.length/\(∃a n c',o=Q a n c')/\Hid (Strs 0 wr o (eJ (s.ks.take k)))/\Hid (Below w1.heap.size w1 wr)) (λ_ i _=>s.ks.length - (intOf i).toNat)
 case atStart=>exact⟨0,rfl,by omega,⟨_,_,_,rfl⟩,Or.inl ⟨rfl,rfl⟩,Vc _ _⟩
 case round=>
  clear c6;obtain⟨k,rfl,hk,⟨oa,on,oc,rfl⟩,HO,F⟩:=hrel;have a3:=aa (HR.keep F);have c6:=(zX a3.head).2.2.2.2.2.2.1;rw[M.out]at c6;by_cases a6:k<s.ks.length
  .have a7:(k:Int)<(s.ks.length:Int):=by omega
   obtain⟨x,HX⟩:∃x,s.ks[k]? = Z x:=⟨_,Ua a6⟩;obtain⟨g,cp,hv,_,hg,d0,m⟩:=mw (pb a3.keys) HX;rw[M.out]at hv;injection hv with U em V;clear em;subst U;subst V;have a2:=insert 0 _ _ ⟨x.toArray⟩ _ HO (HT.sub k hk);change Hid _ at HX;go_wp2_with fail;refine a2.mono ?_;clear a2;rintro e w2 ⟨⟨u,rfl,hu⟩,b7⟩;obtain⟨ua,uc,rfl⟩:=fP hu;have HU:=aa (show Strs 0 w2 (Q ua (ins (B ⟨x.toArray⟩) (eJ (s.ks.take k))).length uc) (eJ (s.ks.take (k+1))) by
    rw[AU HX];exact hu.mono (Nat.zero_le _))
   have c1:=aa (F.trans (b7.mono F.size));clear hu b7 c6 m;go_wp2_with fail;go_roundw
   case rel=>exact⟨k+1,by go_num,by omega,⟨_,_,_,rfl⟩,HU,c1⟩
   case measure=>simp only[intOf];omega
  have a7:¬(k:Int)<(s.ks.length:Int):=by omega
  have a5:k=s.ks.length:=by omega
  subst a5;have P:=HO.out;rw[ca]at P;obtain⟨f4,f5,d5⟩:=fP P;injection d5 with U V e3;subst U;subst e3;subst V;change Hid _ at P;have e6:(eJ s.ks).length<=1000:=by have:=HT.sub s.ks.length (Nat.le_refl _);rw[ca]at this;exact this
  clear HO;go_wp2_with fail;go_loopw [5,8] (λo i wq=>∃(k:Nat) (z:ByteArray),i=I O (k:Int)/\o=L z/\k<=(eJ s.ks).length/\z.size<=100+k*600/\Hid (B z=jY number r s.drp++((eJ s.ks).take k).flatMap (jD f s))/\Hid (Below wr.heap.size wr wq)) (λ_ i _=>(eJ s.ks).length - (intOf i).toNat)
  case atStart=>exact⟨0,hd,rfl,rfl,by omega,by omega,by rw[List.take_zero,List.flatMap_nil,Xc];exact HD,Vc _ _⟩
  case round=>
   clear c6;obtain⟨k,z,rfl,rfl,hk,f3,HZ,G⟩:=hrel;by_cases a6:k<(eJ s.ks).length
   .have a7:(k:Int)<((eJ s.ks).length:Int):=by omega
    obtain⟨x,HX⟩:∃x,(eJ s.ks)[k]? = Z x:=⟨_,Ua a6⟩;have b0:=HT.mem x (List.mem_of_getElem? HX);have d7:=HT.kl x b0;have hj:=AJ b0;have t:=aa (a3.keep G);obtain⟨v,hv⟩:∃v,vs[pl x s.ks]? = Z v:=⟨_,Ua (by rw[t.len];exact hj)⟩;obtain⟨l,hl,J⟩:=t.Gm hv;obtain⟨a8,e5,A⟩:=HT.rows _ l hl;obtain⟨va,vc,rfl⟩:=cd J;obtain⟨SB,b5,b6,c9,c8,E⟩:=t.row hv;obtain⟨g,cp,d6,_,hg,d0,m⟩:=mw (Strs.kept P G) HX;injection d6 with U em V;clear em;subst U;subst V;have e8:((pl x s.ks:Nat):Int)<(vs.length:Int):=by rw[t.len];omega
    obtain⟨tz,R⟩:∃tz:ByteArray,B tz=tell f l:=⟨⟨(tell f l).toArray⟩,rfl⟩;have e7:tz.size<=400:=by rw[Bytes.aj,R];exact JB b8 a8 (by omega) A
    obtain⟨xb,a9⟩:∃xb:ByteArray,(⟨x.toArray⟩:ByteArray)=xb:=⟨_,rfl⟩;have T:B xb=x:=by rw[<-a9];rfl
    have e9:xb.size<=100:=by rw[Bytes.aj,T];exact d7
    rw[a9]at m;have c3:=aa (show jD f s x=x++[61]++tell f l++[10] by
     unfold jD;rw[Ya,hl];rfl)
    have c5:=aa (show (eJ s.ks).take (k+1)=(eJ s.ks).take k++[x] by rw[eb,HX];rfl);have b4:=aa (λq:Bw wr=>aT ((place b K s.ks xb q.val (by exact(zX (t.keep q.is).head).2.2.2.2.2.2.1) (pb (t.keep q.is).keys) d4).mono λe w' ⟨h1,h2⟩=>⟨h1,by rw[h2];exact Vc _ _⟩));rw[T]at b4;have c4:=aa (λq:Bw wr=>aT (v:=L tz) ((told _ l c f HM q.val ((CM J).below q.is) a8 (by omega) b8 hm A).mono λe w' ⟨⟨y,h1,h2,_⟩,h3⟩=>⟨by
     have e4:y=tz:=Bytes.bo (by rw[h2,R]);rw[h1,e4],h3⟩))
    have D:∀q:Bw wr,af q.val b 169 _:=λq=>(t.keep q.is).head
    have C0:∀q:Bw wr,q.val.cell? ⟨b,0,Y⟩=Z (I O (c 0)):=λq=>(D q).Ri 0
    have C1:∀q:Bw wr,q.val.cell? ⟨b,1,Y⟩=Z (I O (c 1)):=λq=>(D q).Ri 1
    have C2:∀q:Bw wr,q.val.cell? ⟨b,2,Y⟩=Z (I O (c 2)):=λq=>(D q).Ri 2
    have C3:∀q:Bw wr,q.val.cell? ⟨b,3,Y⟩=Z (I O (c 3)):=λq=>(D q).Ri 3
    have C4:∀q:Bw wr,q.val.cell? ⟨b,4,Y⟩=Z (I O (c 4)):=λq=>(D q).Ri 4
    have C5:∀q:Bw wr,q.val.cell? ⟨b,5,Y⟩=Z (I O (c 5)):=λq=>(D q).Ri 5
    have C7:∀q:Bw wr,q.val.cell? ⟨b,7,Y⟩=Z (Q (Z ⟨SB,0,Y⟩) vs.length b5):=λq=>by rw[<-b6];exact(D q).Ri 7
    have CK:∀q:Bw wr,q.val.cell? ⟨g,k,Y⟩=Z (L xb):=λq=>by rw[q.is.cell (p:=⟨g,k,Y⟩) hg];exact m
    have CS:∀q:Bw wr,q.val.cell? ⟨SB,pl x s.ks,Y⟩=Z (Q va l.length vc):=λq=>by rw[q.is.cell (p:=⟨SB,pl x s.ks,Y⟩) c8];exact E
    change Hid _ at R T;clear D b0 hl J hv b6 m E a9 A a8;generalize pl x s.ks=j at *;go_wp2_with fail;refine aU ?_;repeat go_big_quiet_step ((first|(go_at_call 137;exact b4.out _)|(go_at_call 136;exact c4.out _)))
    refine wpQuiet_nil ?_;rintro _ ⟨q,rfl⟩;have c2:=aa (G.trans (q.is.mono G.size));clear C0 C1 C2 C3 C4 C5 C7 CK CS;go_wp2_with fail;go_roundw
    case rel=>
     refine⟨k+1,_,by go_num,rfl,by omega,?_,aa (by rw[c5.out,Yb,List.flatMap_cons,List.flatMap_nil,Xc,c3.out];simp only[Bytes.bp,HZ.out,R.out,T.out,List.append_assoc];rfl),c2⟩;simp only[Zc];have U:(⟨#[61]⟩:ByteArray).size=1:=rfl;have V:(⟨#[10]⟩:ByteArray).size=1:=rfl;omega
    case measure=>simp only[intOf];omega
   have a7:¬(k:Int)<((eJ s.ks).length:Int):=by omega
   have a5:k=(eJ s.ks).length:=by omega
   subst a5;have c7:=aa (show B z=mG f number r s by rw[HZ.out,ca];rfl);go_wp2_with fail;go_ret;exact⟨⟨z,rfl,c7⟩,HB.trans ((F.trans (G.mono F.size)).mono HB.size)⟩
end Ra
namespace Ra
open Go.RowKit Mem Foot Bytes Wm Im Refi Tagw
theorem JE (a:Nat)(l:List Sx):cy a (l.map er)=cy a l:=by
 unfold cy;rw[Yc];rfl
theorem Hw (l:List Sx):numOf (l.map er)=numOf l:=by
 unfold numOf;rw[Yc];rfl
theorem Mr (a:Nat)(l:List Sx):tell a (l.map er)=tell a l:=by
 cases l with
 | nil=>rfl
 | cons x r=>
  have b:=kN (x ::r);have c:=JE a (x ::r);have d:=Hw (x ::r);rw[List.map_cons]at b c d ⊢;rw[tell,tell,b,c,d];rfl
theorem IQ (a:Nat)(number:Int)(b:Nat)(s:ke):mG a number b (mB s)=mG a number b s:=by
 unfold mG;have h:jD a (mB s)=jD a s:=by
  funext k
  unfold jD;have:(mB s).ss.getD (pl k (mB s).ks) []=(s.ss.getD (pl k s.ks) []).map er:=BV _ _;rw[this,Mr]
 rw[h];rfl
variable {a:Nat}
theorem LX {l:List Sx}(h:Same (l.map er)):Same l:=by
 cases h with
 | set h b=>exact .set (λx a=>h (er x) (Zb a)) (λk c=>by
   have:=b k (by rw[Wc];exact c);rw[<-List.map_take,kN]at this;exact this)
 | tim h=>exact .tim (λx a=>h (er x) (Zb a))
 | num h=>exact .num (λx a=>h (er x) (Zb a))
theorem Po {s:ke}  (h:Tok (mB s) a):Tok s a:=
 ⟨h.ks,h.kl,h.drp,h.rej,λi l c=>by
  have b:=h.rows i (l.map er) (by show (s.ss.map _)[i]? = _;rw[Uc,c];rfl);rw[Wc]at b;exact⟨λe=>b.1 (by rw[e];rfl),b.2.1,LX b.2.2⟩,h.sub,h.mem⟩
theorem zr (a:Addr)(i:Nat):(a.add i).block=a.block:=by
 unfold Addr.add;split<;>rfl
def st0:ke×Nat:=(⟨[],[],0⟩,0)
def iJ (a:List (List UInt8)):List (List UInt8):=a.flatMap lines
def po (a b:Nat)(c:List (List UInt8)):ke×Nat:=(iJ c).foldl (eN a b) st0
theorem EE {series sets:Nat}{b:List (List UInt8)}  {d:List UInt8}(c:b[a]? = Z d):po series sets (b.take (a+1))=(lines d).foldl (eN series sets) (po series sets (b.take a)):=by
 unfold po iJ;rw[eb,c,Yb,qb];simp
theorem EF {c:Nat}{b:List (List UInt8)}{k:Nat}{d:List UInt8}(g:b[k]? = Z d)(f:∀n,zp (((iJ b).take n).foldl (eN a c) st0))(j:Nat):zp (((lines d).take j).foldl (eN a c) (po a c (b.take k))):=by
 have q:=(Za.1 g).1;have e:b.take k++d ::b.drop (k+1)=b:=by
  rw[<-(Za.1 g).2,<-List.drop_eq_getElem_cons q,List.take_append_drop]
 have h:=f ((iJ (b.take k)).length+min j (lines d).length);have i:iJ b=iJ (b.take k)++(lines d++iJ (b.drop (k+1))):=by
  have o:iJ (b.take k++d ::b.drop (k+1))=iJ (b.take k)++(lines d++iJ (b.drop (k+1))):=by
   unfold iJ;rw[Yb,List.flatMap_cons]
  rw[<-o,e]
 rw[i,List.take_append,Nat.add_sub_cancel_left,Vb (by omega),qb,List.take_append]at h;have l:(lines d).take (min j (lines d).length)=(lines d).take j:=by
  by_cases p:j<=(lines d).length
  .rw[Nat.min_eq_left p]
  rw[Nat.min_eq_right (by omega),ca,Vb (by omega)]
 have m:min j (lines d).length - (lines d).length=0:=by omega
 rwa [l,m,List.take_zero,Xc]at h
set_option maxRecDepth 10000 in
theorem SD (c:Fin 6->Int)(number:Int)(c0:-9223372036854775808<=number)(c1:number<=9223372036854775807)(ao:Option Addr)(a8:Nat)(q:List (List UInt8))(w:N)(f g o:Nat)(H1:c 1=(f:Int))(H2:c 2=(g:Int))(H3:c 3=(o:Int))(b9:2<=o)(hm:o<=64)(D:Check.aJ (c 0) (c 1) (c 2) (c 3) (c 4) (c 5)=true)
  (a2:∀(i:Nat) x,q[i]? = Z x->∃a,ao=Z a/\a.block<w.heap.size/\w.cell? (a.add i)=Z (L ⟨x.toArray⟩)) (c3:q.length<=100000000) (V:∀d∈q,d.length<=1000000000)
  (W:∀n,zp (((iJ q).take n).foldl (eN f g) st0)) (H:Tok (po f g q).1 (po f g q).2):
  Calls ad 69 #[.agg #[I O (c 0),I O (c 1),I O (c 2),I O (c 3),I O (c 4),I O (c 5)],I O number,Q ao q.length a8] w λe w'=>(∃z,e=.returned (.tuple #[L z,I O 0])/\B z=mG o number (po f g q).2 (po f g q).1)/\Below w.heap.size w w':=by
 change Hid _ at a2 W H V H1 H2 H3;have F:=Check.mr (c 0) (c 1) (c 2) (c 3) (c 4) (c 5);rw[D]at F;change Hid _ at F;have u:=aa (af.new w 23 #[I O (c 0),I O (c 1),I O (c 2),I O (c 3),I O (c 4),I O (c 5)]);have M:=aa (ai (w:=w) (.cells #[I O (c 0),I O (c 1),I O (c 2),I O (c 3),I O (c 4),I O (c 5)] 23));clear D;go_in;go_upto_region 1 with fail;generalize hX:w.heap.size=X at u ⊢;clear hX;generalize w.alloc (.cells #[I O (c 0),I O (c 1),I O (c 2),I O (c 3),I O (c 4),I O (c 5)] 23)=w1 at *;obtain⟨b0,b1,b2,b3,b4,b5⟩:=kn u;go_wp2_with fail;refine(F.out w1).mono ?_;rintro e w2 ⟨rfl,T⟩;have a1:=aa (Mem.af.below u T u.lt);have E:Hid (Below w.heap.size w w2):=M.trans (T.mono M.size);clear b0 b1 b2 b3 b4 b5 T u M F;obtain⟨b0,b1,b2,b3,b4,b5⟩:=kn a1;have R:=aa (af.new w2 169 #[I O (c 0),I O (c 1),I O (c 2),I O (c 3),I O (c 4),I O (c 5),Q Y 0 0,Q Y 0 0,I O 0,I O 0]);have a4:=aa (E.alloc E.size (.cells #[I O (c 0),I O (c 1),I O (c 2),I O (c 3),I O (c 4),I O (c 5),Q Y 0 0,Q Y 0 0,I O 0,I O 0] 169));have t:=aa E.size;go_upto_region 5 with fail;clear b0 b1 b2 b3 b4 b5 a1 E;generalize hb:w2.heap.size=b at R t ⊢;clear hb;generalize w2.alloc (.cells #[I O (c 0),I O (c 1),I O (c 2),I O (c 3),I O (c 4),I O (c 5),Q Y 0 0,Q Y 0 0,I O 0,I O 0] 169)=w3 at *;have a7:=aa (show Rw w w3 b c [] [] 0 0 (Q Y 0 0) (Q Y 0 0) [] from⟨t,R,World.ownsRow_nil _ _ _ _,World.ownsRow_nil _ _ _ _,rfl,rfl,λi v l h=>by simp at h,λi j v v' _ h=>by simp at h⟩);clear R t;go_wp2_with fail;go_loopw [10] (λi wr=>∃(k:Nat) (s:ke) (r:Nat) (K S:C) (vs:List C),i=I O (k:Int)/\k<=q.length/\Hid (Rw w wr b c s.ks s.ss r s.drp K S vs)/\Hid ((mB s,r)=po f g (q.take k))/\Hid (Below w.heap.size w wr)) (λi _=>q.length - (intOf i).toNat)
 case atStart=>exact⟨0,⟨[],[],0⟩,0,_,_,_,rfl,by omega,a7,rfl,a4⟩
 case round=>
  obtain⟨k,s,r,K,S,vs,rfl,hk,HR,HE,U⟩:=hrel;by_cases b7:k<q.length
  .have b8:(k:Int)<(q.length:Int):=by omega
   obtain⟨x,hx⟩:∃x,q[k]? = Z x:=⟨_,Ua b7⟩;obtain⟨a,rfl,a9,A⟩:=a2.out k x hx;have G:wr.cell? (a.add k)=Z (L ⟨x.toArray⟩):=by
    rw[U.cell (p:=a.add k) (by rw[zr];exact a9)];exact A
   have m:=Ju w b c s r K S vs ⟨x.toArray⟩ f g H1 H2 wr HR U.size (by rw[Bytes.aj];exact V.out x (List.mem_of_getElem? hx)) (λj=>by
    rw[HE.out];exact EF hx W j)
   have a6:=aa (EE (series:=f) (sets:=g) hx);clear hx A;go_wp2_with fail;refine m.mono ?_;clear m;rintro e w4 ⟨rfl,⟨s',J,K',S',c2,a0,a3⟩,y⟩;change Hid _ at a0;have a5:=aa (show (mB s',J)=po f g (q.take (k+1)) by
    rw[a6.out,a3,HE.out];rfl)
   have P:=aa (U.trans y);clear a3 y G;go_wp2_with fail;go_roundw
   case rel=>exact⟨k+1,s',J,K',S',c2,by go_num,by omega,a0,a5,P⟩
   case measure=>simp only[intOf];omega
  have b8:¬(k:Int)<(q.length:Int):=by omega
  have b6:k=q.length:=by omega
  subst b6;have hE:=HE.out;rw[ca]at hE;have htk:=H.out;rw[<-hE]at htk;have m:=Rb w b c s r K S vs o H3 number c0 c1 wr HR b9 hm (Po htk);have HT:=aa (show mG o number r s=mG o number (po f g q).2 (po f g q).1 by
   rw[<-hE];exact(IQ _ _ _ _).symm)
  clear hE htk;go_wp2_with fail;refine m.mono ?_;clear m;rintro e w4 ⟨⟨z,rfl,HZ⟩,y⟩;change Hid _ at HZ;have P:=aa (U.trans (y.mono U.size));clear y;go_wp2_with fail;go_ret2;exact⟨⟨z,rfl,by rw[HZ.out,HT.out]⟩,P⟩
end Ra
end Go.Proofs.YtpndiccohnafbaaGreatDoor
