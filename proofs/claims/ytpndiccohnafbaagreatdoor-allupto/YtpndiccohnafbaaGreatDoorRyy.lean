/- What the document keeps of a window, and what the program keeps: no Go in sight. -/
import Derived.Test.YtpndiccohnafbaaGreatDoorRefpy
import Derived.Test.YtpndiccohnafbaaGreatDoorEay
set_option maxHeartbeats 9000000
open Option renaming some->Z
open List renaming mem_map_of_mem->ca,mem_cons_self->Ua,getElem?_eq_getElem->Va,take_of_length_le->Wa,getElem?_eq_some_iff->Xa,pairwise_cons->Ya,mem_map->qb,mem_cons->Ub
open Nat renaming le_trans->Za
open Go.Proofs.Tryz renaming prog->eb
open List.Pairwise renaming nil->Vb
namespace Go.Proofs.YtpndiccohnafbaaGreatDoor
namespace Ra
open Bytes Wm Im Refl Opts
theorem pY (l:List Sx):aI l=Sorts.jy [] (l.map λx=>B x.wb):=by
 unfold aI Sorts.jy;rw[List.foldl_map]
theorem jg (l:List Sx):Sorts.SS (aI l):=by
 rw[pY];exact Sorts.oP _ _ Vb
theorem xj (t:List UInt8)(l:List (List UInt8))(x:List UInt8):x∈Refi.ins t l↔x=t\/x∈l:=by
 rw[Sorts.rC];exact Sorts.sy t l x
variable {a b:Nat}{c:cZ}{d e:Bs}{g:jh}{h:List Sx}{i:ke × Nat}{j:List UInt8}{k:jv}{m:Ser}
theorem BZ (t:List UInt8){l:List (List UInt8)}(h:Sorts.SS l):Sorts.SS (Refi.ins t l):=by
 rw[Sorts.rC];exact Sorts.CI t l h
theorem ow (l:List Sx)(x:Sx):aI (l++[x])=Refi.ins (B x.wb) (aI l):=by grind [aI]
theorem JK {β:Type}{a:List (Bs×β)}:Up cA a↔Sorts.SS (a.map (·.1)):=by grind [Up,Sorts.SS,cA]
theorem lP {β:Type}  {b:β}{l:List (Bs×β)}:e∈(put cA d b l).map (·.1)↔e=d\/e∈l.map (·.1):=by
 constructor
 .intro h;obtain⟨p,c,rfl⟩:=qb.1 h;rcases eT c with rfl|⟨f,_⟩
  .exact Or.inl rfl
  grind
 intro h;unfold put;by_cases a:e=d
 .subst a;exact qb.2 ⟨(e,b),(kA _ _ _).2 (Or.inl rfl),rfl⟩
 rcases h with h|h
 .exact absurd h a
 obtain⟨p,c,rfl⟩:=qb.1 h;exact qb.2 ⟨p,(kA _ _ _).2 (Or.inr (List.mem_filter.2 ⟨c,by simp[a]⟩)),rfl⟩
theorem jx {β:Type}  {b:β}{l:List (Bs×β)}(h:Up cA l):aS d (put cA d b l)=Z b:=by
 have j:Up cA (put cA d b l):=h.put dE fU d b;have g:(d,b)∈put cA d b l:=(kA _ _ _).2 (Or.inl rfl);cases a:aS d (put cA d b l) with
 | none=>exact absurd (ca (f:=(·.1)) g) (jL a)
 | some i=>
  have c:=dj a;rcases eT c with e|⟨_,e⟩
  .grind
  grind
theorem rq {β:Type}  {b:β}{l:List (Bs×β)}(h:Up cA l)(c:e≠d):aS e (put cA d b l)=aS e l:=by
 have t:Up cA (put cA d b l):=h.put dE fU d b;have uniq:∀{l:List (Bs×β)},Up cA l->∀{d:Bs} {b a:β},(d,b)∈l->(d,a)∈l->b=a:=by
  intro l
  induction l with
  | nil=>grind
  | cons p r u=>
   intro h d b a g o;have s:=Ya.1 h;rcases Ub.1 g with k|k
   .grind [dO]
   rcases Ub.1 o with m|m
   .grind [dO]
   exact u s.2 k m
 cases q:aS e l with
 | none=>
  cases i:aS e (put cA d b l) with
  | none=>rfl
  | some a=>
   rcases lP.1 (ca (f:=(·.1)) (dj i)) with j|j
   .exact absurd j c
   grind [jL]
 | some n=>
  have g:(e,n)∈put cA d b l:=(kA _ _ _).2 (Or.inr (List.mem_filter.2 ⟨dj q,by simp[c]⟩));cases i:aS e (put cA d b l) with
  | none=>exact absurd (ca (f:=(·.1)) g) (jL i)
  | some a=>rw[uniq t g (dj i)]
def SR (a:cZ)(l:List Sx):Ser->Prop
 | .num n=>(∀x∈l,SI x/\B x.wb=[])/\n=numOf l
 | .set b=>(∀x∈l,x.K=115)/\b.map (·.1)=aI l/\∀k,k<=l.length->(aI (l.take k)).length<=a.sets
 | .tim t=>(∀x∈l,(x.K=109/\Py x)/\B x.wb=[])/\t=cy a.buckets l
theorem Cy (h:rd d=Z k)(a:k.kind≠[115]):k.word=[]:=by grind [Vals.rv,rd,fE,Option.map_eq_some_iff,Option.bind_eq_some_iff]
theorem sY (f:∀x∈h,B x.wb=[]):(aI h).length<=1:=by
 have d:∀x∈aI h,x=[]:=by grind [pY,Sorts.mO]
 have c:=jg h;cases e:aI h with
 | nil=>exact Nat.zero_le _
 | cons a r=>
  cases r with
  | nil=>exact Nat.le_refl _
  | cons b r=>
   rw[e]at d c;have:=(Ya.1 c).1 b (Ua ..);simp_all
theorem SR.zero (L:cZ)(k:Bs):SR L [] (ik k):=by
 unfold ik;split
 .exact⟨(λx h=>by cases h),rfl,λk _=>by rw[List.take_nil];exact Nat.zero_le _⟩
 split
 .exact⟨(λx h=>by cases h),rfl⟩
 exact⟨(λx h=>by cases h),rfl⟩
def PI (a:Nat)(l:List Sx)(x:Sx):Prop:=x.K=115/\B x.wb∉aI l/\a<=(aI l).length
theorem oM {a:List (Bs×Unit)}  (b:a.map (·.1)=aI h):Im.has k.word a=true↔k.word∈aI h:=by
 rw[qq,b]
theorem nR {p:Sx->Prop}  {x:Sx}(a:∀y∈h,p y)(b:p x):∀y∈h++[x],p y:=by grind
theorem uz {x:Sx}  (b:a<=h.length):(h++[x]).take a=h.take a:=by
 rw[List.take_append,show a - h.length=0 by omega,List.take_zero,List.append_nil]
theorem SR.step (f:SR c h m)(s:fits k.kind m)(y:rd d=Z k):
  (PI c.sets h (kX (Same.cv k))->ch c k m=(m,false))/\(¬PI c.sets h (kX (Same.cv k))->∃J,ch c k m=(J,true)/\SR c (h++[kX (Same.cv k)]) J):=by
 have hsh:=Same.yw (l:=d) (m:=Same.cv k) (by rw[Same.sj,y];rfl);obtain⟨_,_,G,l,_,_⟩:=hsh;obtain⟨_,V⟩:=mq y;have W:=Same.Cx y;have X:B (kX (Same.cv k)).wb=k.word:=rfl;have u:(kX (Same.cv k)).K=Same.kb k.kind k.signed:=rfl;cases m with
 | num n=>
  obtain⟨r,g⟩:=f;have j:¬(kX (Same.cv k)).K=115:=by
   rw[u];rcases s with e|e<;>rw[e]<;>unfold Same.kb<;>simp<;>split<;>decide
  have v:¬(kX (Same.cv k)).K=109:=by
   rw[u];rcases s with e|e<;>rw[e]<;>unfold Same.kb<;>simp<;>split<;>decide
  refine⟨λf=>absurd f.1 j,λ_=>⟨_,rfl,nR r ⟨⟨j,v,G.1,G.2,l.1,l.2⟩,Cy y (by rcases s with e|e<;>rw[e]<;>decide)⟩,?_⟩⟩;unfold numOf;rw[List.foldl_append];show _=eU (numOf h) _;rw[<-g];unfold eU;rw[u];rcases s with e|e
  .rw[e,if_pos rfl,if_pos (show Same.kb [99] k.signed=99 from rfl),Int.add_comm];rfl
  rw[e,if_neg (by decide)];cases hs:k.signed with
  | true=>rw[if_pos rfl,if_neg (by decide),if_neg (by decide),Int.add_comm];rfl
  | false=>rw[if_neg (by decide),if_neg (by decide),if_pos (by decide)];rfl
 | tim t=>
  obtain⟨r,g⟩:=f;have i:k.kind=[109,115]:=s;have M:0<=k.value:=by grind
  have a:(kX (Same.cv k)).K=109:=by rw[u,i];rfl
  refine⟨λf=>by grind [PI],λ_=>⟨_,rfl,nR r ⟨⟨a,M,G.2,l.1,l.2⟩,Cy y (by rw[i];decide)⟩,?_⟩⟩;unfold cy;rw[List.foldl_append];show _=dq c.buckets (cy c.buckets h) _ _;rw[<-g];rfl
 | set q=>
  obtain⟨r,g,h3⟩:=f;have i:k.kind=[115]:=s;have a:(kX (Same.cv k)).K=115:=by rw[u,i];rfl
  have hlen:q.length=(aI h).length:=by grind
  have o:(aI h).length<=c.sets:=by grind [List.take_length]
  constructor
  .rintro⟨_,P,R⟩;grind [Im.has,ch]
  intro j;by_cases A:Im.has k.word q=true
  .have T:=(oM g).1 A;have b:aI (h++[kX (Same.cv k)])=aI h:=by grind [ow,Sorts.vI,jg,xj]
   refine⟨.set q,by simp only[ch,A,if_true],nR r a,by rw[b,g],λH U=>?_⟩;by_cases D:H<=h.length
   .grind
   rw[Wa (by grind),b];exact o
  have w:k.word∉aI h:=λf=>A ((oM g).2 f)
  have E:¬c.sets<=(aI h).length:=λf=>j ⟨a,w,f⟩
  have F:Up cA q:=JK.2 (by rw[g];exact jg h);have S:Im.has k.word q=false:=by grind
  have p:(put cA k.word () q).map (·.1)=aI (h++[kX (Same.cv k)]):=by
   rw[ow,X];refine Sorts.vI _ _ (JK.1 (F.put dE fU _ _)) (BZ _ (jg h)) λx=>?_
   rw[xj,lP,g]
  have z:(aI (h++[kX (Same.cv k)])).length<=c.sets:=by grind [gL,Up.nodup,dO]
  refine⟨.set (put cA k.word () q),by grind [ch],nR r a,p,λH U=>?_⟩;by_cases D:H<=h.length
  .grind
  rw[Wa (by grind)];exact z
theorem Iv {β:Type}  {b:β}{l:List (Bs×β)}(h:Up cA l)(a:aS d l=Z b):put cA d b l=l:=by
 induction l with
 | nil=>cases a
 | cons p r m=>
  have i:=Ya.1 h;by_cases e:p.1=d
  .rw[bc e]at a;injection a with a;have g:Im.has d r=false:=by grind [eE,dO]
   have c:del d (p ::r)=r:=by
    show (p ::r).filter _=r;rw[List.filter_cons_of_neg (by simp[e])];exact dZ d r g
   have k:(d,b)=p:=by grind
   unfold put;rw[c,k];cases r with
   | nil=>rfl
   | cons y o=>rw[Im.ins,if_pos (i.1 y (Ua ..))]
  rw[aV e]at a;have c:del d (p ::r)=p ::del d r:=by
   show (p ::r).filter _=_;rw[List.filter_cons_of_pos (by simp[e])];rfl
  have j:cA p.1 d=true:=i.1 (d,b) (dj a);have f:¬cA d p.1=true:=λn=>by grind [dE,dO]
  unfold put;rw[c,Im.ins,if_neg f];exact congrArg (p ::·) (m i.2 a)
structure Rl (L:cZ)(n:Nat)(st:ke×Nat)(W:jh):Prop where
 wf:eX L n W
 rej:st.2=W.dN
 drp:st.1.drp=W.iL
 nd:st.1.ks.Nodup
 sl:st.1.ss.length=st.1.ks.length
 mem:∀k,k∈st.1.ks↔k∈W.fO.map (·.1)
 each:∀(i:Nat) k,st.1.ks[i]? = Z k->∃l se,st.1.ss[i]? = Z l/\aS k W.fO=Z se/\l≠[]/\SR L l se/\l.length<=n
theorem Rl.zero (L:cZ):Rl L 0 st0 gC:=⟨eX.zero L,rfl,rfl,List.nodup_nil,rfl,λk=>Iff.rfl,λi k h=>by simp[st0]at h⟩
theorem Rl.len (h:Rl c a i g):i.1.ks.length=g.fO.length:=by
 have:=((List.perm_ext_iff_of_nodup h.nd (Up.nodup dO h.wf.up)).2 h.mem).length_eq;grind
theorem II (h:rd d=Z k):yi (Same.cv k)=Wm.key k:=by grind [Same.Cx,yi,Wm.key,B,Reft.ty,Same.cv,Same.kb]
theorem Nq {ks:List (List UInt8)}(h:j∈ks):ks[pl j ks]? = Z j:=by
 have a:=AJ h;rw[Va a];have:=List.findIdx_getElem (p:=λx=>x==j) (xs:=ks) (w:=a);exact congrArg Z (eq_of_beq this)
theorem LK {ks:List (List UInt8)}(h:j∉ks):pl j ks=ks.length:=by grind [pl]
theorem at_one {ks:List (List UInt8)}(e:ks.Nodup)   (c:ks[a]? = Z j)(d:ks[b]? = Z j):a=b:=by
 exact(List.getElem?_inj (Xa.1 c).1 e).1 (c.trans d.symm)
theorem Rl.put {s:ke}   {i:Nat}  {l:List Sx}{x:Sx}  {d:Nat}(n:eX c (a+1) ⟨g.dN,d,put cA j m g.fO⟩)(v:Up cA g.fO)
  (e:b=g.dN) (k:s.ks.Nodup) (t:s.ss.length=s.ks.length) (o:∀y,y∈s.ks↔y=j\/y∈g.fO.map (·.1))
  (p:s.ks[i]? = Z j) (z:s.ss.getD i []=l) (r:l.length<=a) (u:SR c (l++[x]) m)
  (h:∀(f:Nat) y,s.ks[f]? = Z y->f≠i->∃l m,s.ss[f]? = Z l/\aS y g.fO=Z m/\l≠[]/\SR c l m/\l.length<=a):
  Rl c (a+1) (⟨s.ks,s.ss.set i (s.ss.getD i []++[x]),d⟩,b) ⟨g.dN,d,Im.put cA j m g.fO⟩:=by
 have q:=(Xa.1 p).1;refine⟨n,e,rfl,k,by grind,λy=>?_,λf y w=>?_⟩
 .grind [lP]
 grind [jx,at_one,rq]
theorem Rl.take {s:ke}{rej:Nat}  (h:Rl c a (s,rej) g)(W:2<=c.buckets)(hs:1<=c.sets)   (w:rd d=Z k):
  Rl c (a+1) (kR c.series c.sets (yi (Same.cv k)) (kX (Same.cv k)) s,rej) (gu c g k):=by
 have b:=h.wf.take W w;have r:rej=g.dN:=h.rej;have n:s.drp=g.iL:=h.drp;have F:s.ks.Nodup:=h.nd;have x:s.ss.length=s.ks.length:=h.sl;have hlen:s.ks.length=g.fO.length:=h.len;have q:∀A,A∈s.ks↔A∈g.fO.map (·.1):=h.mem;have o:∀(i:Nat) A,s.ks[i]? = Z A->∃l P,s.ss[i]? = Z l/\aS A g.fO=Z P/\l≠[]/\SR c l P/\l.length<=a:=h.each;have H:∀D,eX c (a+1) D->D.dN=g.dN->D.iL=g.iL+1->D.fO=g.fO->Rl c (a+1) (⟨s.ks,s.ss,s.drp+1⟩,rej) D:=by
  intro D M h2 S h4;refine⟨M,by omega,by rw[S,<-n],F,x,λA=>by grind,λi A hk=>?_⟩;grind
 rw[II w];unfold gu at b ⊢;unfold kR;cases v:aS (Wm.key k) g.fO with
 | some P=>
  rw[v]at b;simp only at b ⊢;have E:Wm.key k∈s.ks:=(q _).2 (ca (f:=(·.1)) (dj v));have K:=Nq E;have a0:=AJ E;obtain⟨l,a6,a1,J,a3,U,V⟩:=o _ _ K;rw[v]at J;injection J with J;subst J;have hfit:=(h.wf.fO _ (dj v)).kind;simp only[eo w]at hfit;obtain⟨R,B⟩:=U.step hfit w;rw[if_neg (by omega)];have p:dA (Wm.key k) s=s:=by grind [dA]
  have m:s.ss.getD (pl (Wm.key k) s.ks) []=l:=by grind
  rw[p];unfold IF;by_cases t:PI c.sets l (kX (Same.cv k))
  .rw[if_pos (by rw[m];exact t)];have e:=R t;rw[e]at b ⊢;refine H _ b rfl rfl ?_;exact Iv h.wf.up v
  rw[if_neg (by rw[m];exact t)];obtain⟨s',e,z⟩:=B t;rw[e]at b ⊢;simp only[if_true]at b ⊢;rw[n];exact Rl.put b h.wf.up r F x (λy=>by grind) K m V z (λj y T _=>o j y T)
 | none=>
  rw[v]at b;simp only at b ⊢;have G:Wm.key k∉s.ks:=λM=>jL v ((q _).1 M)
  have K:=LK G;by_cases u:c.series<=g.fO.length
  .grind
  rw[if_neg u]at b ⊢;rw[if_neg (by omega)];have p:dA (Wm.key k) s=⟨s.ks++[Wm.key k],s.ss++[[]],s.drp⟩:=by grind [dA]
  rw[p,K];have hfit:fits k.kind (ik k.kind):=by
   have:=(kT.zero (L:=c) (n:=a) w).kind;rwa [eo w]at this
  obtain⟨_,B⟩:=(SR.zero c k.kind).step hfit w;have m:(s.ss++[[]]).getD s.ks.length []=[]:=by grind
  have t:¬PI c.sets [] (kX (Same.cv k)):=λ⟨_,_,S⟩=>by grind [aI]
  unfold IF;simp only;rw[if_neg (by rw[m];exact t)];obtain⟨s',e,z⟩:=B t;rw[e]at b ⊢;simp only[if_true]at b ⊢;rw[n];refine Rl.put (s:=⟨s.ks++[Wm.key k],s.ss++[[]],g.iL⟩) (l:=[]) b h.wf.up r ?_ ?_ (λy=>?_) ?_ m (Nat.zero_le _) z (λj y T X=>?_)
  .grind
  .simp only[List.length_append,List.length_singleton,x]
  .grind
  .exact List.getElem?_concat_length
  grind
theorem Rl.line (h:Rl c a i g)(n:2<=c.buckets)(v:1<=c.sets)(d:Bs):Rl c (a+1) (eN c.series c.sets i d) (fX c g d):=by
 have b:=h.wf.line n d;unfold eN;unfold fX at b ⊢;by_cases e:d=[]
 .rw[if_pos e]at b ⊢;rw[if_pos e];exact⟨b,h.rej,h.drp,h.nd,h.sl,h.mem,λj k f=>by
   obtain⟨l,w,p,q,r,t,u⟩:=h.each j k f;grind⟩
 rw[if_neg e]at b ⊢;rw[if_neg e,Same.sj];cases o:rd d with
 | none=>
  rw[o]at b;exact⟨b,by grind [rej],h.drp,h.nd,h.sl,h.mem,λj k f=>by
   obtain⟨l,w,p,q,r,t,u⟩:=h.each j k f;grind⟩
 | some m=>exact Rl.take (s:=i.1) (rej:=i.2) h n v o
theorem Rl.lines (d:2<=c.buckets)(e:1<=c.sets):∀(a:List Bs) {n:Nat} {b:ke×Nat} {W:jh},Rl c n b W->Rl c (n+a.length) (a.foldl (eN c.series c.sets) b) (a.foldl (fX c) W):=by
 intro a
 induction a with
 | nil=>grind
 | cons l r f=>
  intro n b W h;have:=f (h.line d e l);grind
theorem Ke (a:cZ)(b:List Bs):oy a b=(iJ b).foldl (fX a) gC:=by
 unfold oy iJ;rw[List.foldl_flatMap];rfl
theorem OO (b:2<=c.buckets)(d:1<=c.sets)(a:List Bs):Rl c (iJ a).length (po c.series c.sets a) (oy c a):=by
 rw[Ke];have:=Rl.lines b d (iJ a) (Rl.zero c);rwa [Nat.zero_add]at this
theorem Rl.row (e:Rl c a i g)   (j:i.1.ss[b]? = Z h):∃d,h≠[]/\SR c h d/\h.length<=a:=by
 have q:=(Xa.1 j).1;obtain⟨k,f⟩:∃k,i.1.ks[b]? = Z k:=⟨_,Va (by grind [sl])⟩;obtain⟨r,d,l,m,n,o,p⟩:=e.each b k f;grind
theorem Nr (h:Rl c a i g)(e:c.series<=1000)(f:c.sets<=1000)(q:a<=10000000):zp i:=by
 have p:=h.wf.cnt;refine⟨by rw[h.len];exact Za h.wf.len e,by rw[h.drp];omega,by rw[h.rej];omega,λr l m=>?_⟩;obtain⟨o,_,b,n⟩:=h.row m;refine⟨by omega,λk j=>?_⟩;cases o with
 | num x=>exact Za (sY λy d=>(b.1 y (List.mem_of_mem_take d)).2) (by omega)
 | tim t=>exact Za (sY λy d=>(b.1 y (List.mem_of_mem_take d)).2) (by omega)
 | set s=>exact Za (b.2.2 k j) f
theorem Mj (a:SR c h m)(d:c.sets<=1000):Same h:=by
 cases m with
 | num x=>exact .num λy b=>(a.1 y b).1
 | tim t=>exact .tim λy b=>(a.1 y b).1
 | set f=>exact .set a.1 λk e=>Za (a.2.2 k e) d
theorem Mk (a:SR c h m)(d:h≠[]):tell c.buckets h=gV m:=by
 cases h with
 | nil=>exact absurd rfl d
 | cons x r=>
  rw[tell];cases m with
  | num n=>
   have b:=(a.1 x (Ua ..)).1;rw[if_neg b.1,if_neg b.2.1,<-a.2];rfl
  | tim t=>
   have b:=(a.1 x (Ua ..)).1;rw[if_neg (λe=>by omega),if_pos b.1,<-a.2]
  | set f=>
   rw[if_pos (a.1 x (Ua ..)),<-a.2.1,List.length_map];rfl
theorem uw (ks:List (List UInt8)):eJ ks=Sorts.jy [] ks:=rfl
theorem nM (t:List UInt8)(l:List (List UInt8)):(Refi.ins t l).length<=l.length+1:=by
 rw[Sorts.rC]
 induction l with
 | nil=>exact Nat.le_refl _
 | cons x l a=>grind [Sorts.qg]
theorem EL (ks:List (List UInt8)):(eJ ks).length<=ks.length:=by
 have key:∀(r b:List (List UInt8)),(r.foldl (λa k=>Refi.ins k a) b).length<=b.length+r.length:=by
  intro r
  induction r with
  | nil=>intro b;grind
  | cons x r c=>
   intro b;grind [nM]
 have:=key ks [];rwa [List.length_nil,Nat.zero_add]at this
theorem ux {ks:List (List UInt8)} : j∈eJ ks↔j∈ks:=by
 rw[uw,Sorts.mO];simp
theorem OP (h:Rl c a i g)(e:c.series<=1000)(f:c.sets<=1000)(m:a<=10000000):Tok i.1 i.2:=by
 have b:=Nr h e f m;refine⟨b.1,λk d=>?_,b.2.1,b.2.2.1,λs l j=>?_,λk d=>by have:=EL (i.1.ks.take k);have:=b.1;grind,λk d=>ux.1 d⟩
 .obtain⟨p,n,rfl⟩:=qb.1 ((h.mem k).1 d);exact Za (h.wf.fO p n).DS (by omega)
 obtain⟨t,o,q,r⟩:=h.row j;grind [Mj]
theorem Ji (h:Rl c a i g):eJ i.1.ks=g.fO.map (·.1):=by
 refine Sorts.vI _ _ ?_ (JK.1 h.wf.up) λx=>by rw[ux];exact h.mem x
 rw[uw];exact Sorts.oP _ _ Vb
theorem jo {l:List (Bs×Ser)}(h:Up cA l){p:Bs×Ser}(d:p∈l):aS p.1 l=Z p.2:=by
 have m:aS p.1 (put cA p.1 p.2 l)=Z p.2:=jx h;have i:∃b,aS p.1 l=Z b:=by
  cases j:aS p.1 l with
  | none=>exact absurd (ca (f:=(·.1)) d) (jL j)
  | some b=>exact⟨b,rfl⟩
 obtain⟨b,a⟩:=i;rw[a];have n:=dj a
 induction l with
 | nil=>cases d
 | cons q r k=>
  have g:=Ya.1 h;by_cases e:q.1=p.1
  .grind [dO]
  rw[aV e]at a;rcases Ub.1 d with c|c
  .exact absurd (congrArg (·.1) c).symm e
  exact k g.2 c (jx g.2) a (dj a)
theorem LR (h:Rl c a i g)(number:Int):mG c.buckets number i.2 i.1=ir number g:=by
 unfold mG ir;rw[h.rej,h.drp,Ji h];congr 1;have key:∀r:List (Bs×Ser),(∀p∈r,p∈g.fO)->(r.map (·.1)).flatMap (jD c.buckets i.1)=ff r:=by
  intro r
  induction r with
  | nil=>intro _;rfl
  | cons p r m=>
   intro j;rw[List.map_cons,List.flatMap_cons,m λq k=>j q (List.mem_cons_of_mem _ k)];have f:=j p (Ua ..);have d:p.1∈i.1.ks:=(h.mem _).2 (ca f);obtain⟨l,t,n,b,o,s,_⟩:=h.each _ _ (Nq d);rw[jo h.wf.up f]at b;injection b with b;have e:jD c.buckets i.1 p.1=p.1++[61]++gV p.2++[10]:=by grind [Mk,jD]
   rw[e];rfl
 grind
theorem Pg (b:2<=c.buckets)(d:1<=c.sets)(e:c.series<=1000)(f:c.sets<=1000){a:List Bs}(g:(iJ a).length<=10000000)(n:Nat):zp (((iJ a).take n).foldl (eN c.series c.sets) st0):=by
 have:=Rl.lines b d ((iJ a).take n) (Rl.zero c);grind [Nr]
end Ra
namespace Lw
open Go.RowKit Go.Maps Mem Foot Bytes Im Wm Hi Plainw Cq Dm Dh Jr Wi Sk Hn Kr Dd Ra
theorem Km (a:List Bs):(iJ a).length=jE a:=by
 induction a with
 | nil=>rfl
 | cons d r b=>
  have e:iJ (d ::r)=lines d++iJ r:=rfl;rw[e,List.length_append,b,pN];rfl
theorem Gk (c:Fin 6->Int)(m:oz c)(num:Int)(v:-9223372036854775808<=num)(y:num<=9223372036854775807)(f:List ByteArray)(J:f.length<=100000000)(hz:∀s∈f,s.size<=1000000000)(D:jE (f.map B)<=10000000):
  Doc c num f ⟨(ir num (oy (bP c) (f.map B))).toArray⟩:=by
 intro a n w l;have E:=m.s;have F:=m.t;have G:=m.b;have o:2<=(bP c).buckets:=by show 2<=(c 3).toNat;omega
 have hst:1<=(bP c).sets:=by show 1<=(c 2).toNat;omega
 have j:(bP c).series<=1000:=by show (c 1).toNat<=1000;omega
 have k:(bP c).sets<=1000:=by show (c 2).toNat<=1000;omega
 have g:(iJ (f.map B)).length<=10000000:=by rw[Km];exact D
 have h:=OO o hst (f.map B);refine⟨0,?_⟩;have p:(f.map B).length=f.length:=List.length_map ..;have key:=SD c num v y a n (f.map B) w (bP c).series (bP c).sets (bP c).buckets (by show c 1=((c 1).toNat:Int);omega) (by show c 2=((c 2).toNat:Int);omega) (by show c 3=((c 3).toNat:Int);omega) o (by show (c 3).toNat<=64;omega) (nJ m)
  (λi x q=>by
   rw[List.getElem?_map]at q;cases u:f[i]? with
   | none=>grind
   | some s=>
    rw[u]at q;cases q;exact l i s u) (by omega) (λd H=>by grind [aj])
 rw[p]at key;refine(key (Pg o hst j k g) (OP h j k g)).mono ?_;rintro e K ⟨⟨z,rfl,r⟩,A⟩;have:z=⟨(ir num (oy (bP c) (f.map B))).toArray⟩:=Bytes.bo (by rw[r,LR h];rfl);grind
end Lw
namespace Lw
open Go.RowKit Go.Maps Go.Shelf Mem Foot Bytes Im Wm Hi Plainw Cq Dm Dh Jr Wi Sk Hn Kr Dd
set_option maxRecDepth 100000 in
theorem Oz (a b:Int)(s t:ByteArray)(h:¬(a=b/\s=t))(w:World):(binOp .neq 47 (.agg #[.int .i64 a,.string s]) (.agg #[.int .i64 b,.string t])).run eb w=.ok (.bool true) w:=by
 have d:eb.underlying 47=Z (.struct (eb.fieldsOf 47)):=by kernel_rfl
 have i:eb.stoodInHeld 47=false:=by kernel_rfl
 have c : (eb.fieldsOf 47).toList.map (fun f => (f.name, f.type, f.offset)) = [("Window", 3, 0), ("Text", 9, 1)] := by kernel_rfl
 rw[run_neq_struct,run_equalIn_agg w 9999 _ _ _ d i];generalize (eb.fieldsOf 47).toList=m at c;clear d i;rcases m with _|⟨f,_|⟨g,_|⟨x,r⟩⟩⟩
 .simp at c
 .simp at c
 .simp only[List.map_cons,List.map_nil,List.cons.injEq,Prod.mk.injEq,and_true]at c;obtain⟨⟨d,i,n⟩,o,p,q⟩:=c;simp only[Op.eqFields,d,i,n,o,p,q];by_cases j:a=b
  .have u:¬s=t:=λe=>h ⟨j,e⟩
   subst j;have l:¬s.toList=t.toList:=λe=>u (Bytes.bo (by unfold B;rw[<-Lib.toList_data,<-Lib.toList_data];exact e))
   go_simp
   try simp[l]
  have k:(a==b)=false:=by simpa using j
  go_simp
  try simp[j,k]
 simp at c
set_option maxRecDepth 10000 in
theorem QL (D E:Nat)(v u:Value)(l m:List Ms)(w:World)(b:w.ownsRow D 47 2 v l.length (aH l))(h:w.ownsRow E 47 2 u m.length (aH m))(V:l.length<=4000000000000)(hm:m.length<=4000000000000)(q:Bool)(z:q=true↔l=m):
  Calls eb 44 #[v,u] w λe H=>e=.returned (.bool q)/\Below w.heap.size w H:=by
 by_cases a:l=m
 .obtain rfl:q=true:=z.2 a;subst a;exact(same D E v u l w b h V).mono λe H ⟨b,n,h⟩=>⟨b,h▸ax (Below.refl _ _)⟩
 obtain rfl:q=false:=Bool.eq_false_iff.2 λe=>a (z.1 e)
 obtain⟨a2,a3,rfl⟩:=Own.shape b;obtain⟨a0,a1,rfl⟩:=Own.shape h;change Hid _ at b h a;clear z;by_cases f:l.length=m.length
 rotate_left
 .go_in;go_wp2_with fail;go_ret;exact⟨rfl,Below.refl _ _⟩
 have W:=Hl;rw[f];go_in;go_wp2_with fail;go_loopw [5] (λA wr=>∃k q:Nat,A=.int .i64 (k:Int)/\wr=w.drewN q/\k<=m.length/\Hid (l.take k=m.take k)) (λA _=>m.length - (intOf A).toNat)
 case atStart=>exact⟨0,0,rfl,rfl,by omega,rfl⟩
 case round=>
  obtain⟨k,q,rfl,rfl,hk,B⟩:=hrel;by_cases s:k<m.length
  .have U:(k:Int)<(m.length:Int):=by omega
   obtain⟨x,i⟩:∃x,l[k]? = Z x:=⟨_,Va (by omega)⟩;obtain⟨y,j⟩:∃y,m[k]? = Z y:=⟨_,Va s⟩;obtain⟨g,K,o,d,_,T,x0,x1,_,_⟩:=jz b i;obtain⟨g2,F,p,r,_,G,y0,y1,_,_⟩:=jz h j;injection o with o R M;injection p with p S P;subst o;subst p;subst M;subst P;clear R S;by_cases c:x.k=y.k/\x.t=y.t
   .obtain⟨xk,xt⟩:=x;obtain⟨yk,yt⟩:=y;simp only at c;obtain⟨rfl,rfl⟩:=c;have J:=aa (show l.take (k+1)=m.take (k+1) by rw[List.take_add_one,List.take_add_one,B.out,i,j]);clear i j;rw[f]at d;go_wp2_with fail;go_quiet (fail);go_wp2_with fail;go_roundw
    case rel=>exact⟨k+1,q+nq,by go_num,rfl,by omega,J⟩
    case measure=>simp[intOf];omega
   have X:=Oz x.k y.k x.t y.t c;rw[f]at d;clear i j c;go_wp2_with fail;go_quiet (fail);go_wp2_with fail;go_ret;exact⟨rfl,ax (ax (Below.refl _ _))⟩
  exact absurd (by have b:=B.out;rw[Wa (by omega),Wa (by omega)]at b;exact b) a
end Lw
end Go.Proofs.YtpndiccohnafbaaGreatDoor
