/- Regions whose operations only read, and whose callees lay new memory behind: one walk serves every order. -/
import Derived.Test.YtpndiccohnafbaaGreatDoorMemy
import Derived.BigQuiet
open Go.Region renaming ready->ca,Mode->Ua,binds->Va
open Bool renaming and_eq_true->Wa
open Go renaming World->N,Oper->Ya,mem_ready->Za
open Array renaming replicate->Xa
open List renaming length_cons->eb
namespace Go.Proofs.YtpndiccohnafbaaGreatDoor.Cq
open Go.RowKit
structure Bw (w:N) where
 val:N
 is:Below w.heap.size w val
instance (w:N):Nonempty (Bw w):=⟨⟨w,Below.refl _ _⟩⟩
theorem aU {P:Program}{g:Nat}{c:Exit->Act->N->Prop}{a:Act}{w:N}{l:List Ya}(h:wpQuiet P l.toArray (λb=>∃s:Bw w,b=s.val) (λd=>∀b,(∃s:Bw w,b=s.val)->c .normal d b) l a)
  (f:P.follows .mixedOrders=true:=by kernel_rfl) (e:Region.lexB .any l.toArray=true:=by kernel_rfl):(Code.region g l.toArray true).wp P c a w:=
 wp_region_quiet (C:=λb=>∃s:Bw w,b=s.val) f e ⟨⟨_,(Below.refl w.heap.size w).drew⟩,rfl⟩ (by simpa using h)
theorem aT {P:Program}{f:FuncId}{a:Array Value}{w:N}{v:Value}{s:Bw w}(h:Calls P f a s.val λe b=>e=.returned v/\Below s.val.heap.size s.val b):Calls P f a s.val λe b=>e=.returned v/\∃g:Bw w,b=g.val:=
 h.mono λ_ b ⟨d,c⟩=>⟨d,⟨b,s.is.trans (c.mono s.is.size)⟩,rfl⟩
section
variable {P : Program} {ops : Array Ya} {md : Ua} {C : N -> Prop}
def re (md:Ua)(ops:Array Ya)(k i:Nat):Bool:=match ops[k]? with
 | some o=>o.after.any λe=>Va md e&&e.on==i
 | none=>false
def oq (md:Ua)(ops:Array Ya)(m:Nat):Bool:=
 ((List.range m).all λi=>(List.range (m+1)).any λk=>decide (i<k)&&re md ops k i)&&((List.range ops.size).all λj=>decide (j<=m)||re md ops j (j - 1))
def DC (md:Ua)(ops:Array Ya)(a:Array Bool):Prop:=
 a.size=ops.size/\∀j b,ops[j]? = some b->a.getD j true=true->∀e∈b.after,Va md e=true->a.getD e.on false=true
variable {b c:Nat}{d:Array Bool}{e:Exit -> Act -> N -> Prop}
theorem wO (h:re md ops b c=true):∃o,ops[b]? = some o/\∃e∈o.after,Va md e=true/\e.on=c:=by grind [re]
theorem nI (h:d.getD b false=true):d.getD b true=true:=by grind
theorem si (e:b∈ca md ops d)(a:re md ops b c=true):d.getD c false=true:=by grind [Za,wO]
theorem DC.re (h:DC md ops d)  (i:d.getD b false=true)(a:Cq.re md ops b c=true):d.getD c false=true:=by
 obtain⟨o,j,e,g,f,rfl⟩:=wO a;exact h.2 b o j (nI i) e g f
theorem yP (p:oq md ops b=true)  (j:DC md ops d)  (y:c∈ca md ops d)(A:b<=c):∀i,i<b->d.getD i false=true:=by
 simp only[oq,Wa,List.all_eq_true,List.mem_range,List.any_eq_true,decide_eq_true_eq,Bool.or_eq_true]at p;obtain⟨q,r⟩:=p;have u:c<ops.size:=by grind [Za]
 have x:∀i,re md ops b i=true->d.getD i false=true:=by
  by_cases e:c=b
  .grind [si]
  have v:d.getD (c - 1) false=true:=by grind [si]
  have f:∀a,a<=c - 1 - b->d.getD (c - 1 - a) false=true:=by
   intro a
   induction a with
   | zero=>intro _;exact v
   | succ a o=>
    intro l;have s:=o (by omega);rcases r (c - 1 - a) (by omega) with h|h
    .omega
    have w:=j.re s h;omega
  have g:=f (c - 1 - b) (Nat.le_refl _);rw[show c - 1 - (c - 1 - b)=b by omega]at g;exact λi m=>j.re g m
 have key:∀a i,i<b->b - i<=a->d.getD i false=true:=by
  intro a
  induction a with
  | zero=>omega
  | succ a o=>
   intro i n l;obtain⟨k,z,t,m⟩:=q i n;by_cases e:k=b
   .grind
   exact j.re (o k (by omega) (by omega)) m
 exact λi n=>key (b - i) i n (Nat.le_refl _)
theorem DC.step (h:DC md ops d)  (l:b∈ca md ops d):DC md ops (d.setIfInBounds b true):=by
 refine⟨by simpa using h.1,λi f c g e k j=>?_⟩;by_cases a:b=i
 .grind [Za,getD_set_true]
 rw[getD_set_ne true a]at g;exact getD_set_true (h.2 i f c g e k j)
def zk (P:Program)(md:Ua)(ops:Array Ya)(C:N->Prop)(m:Nat)(R:Array Bool->Act->Prop):Nat->Array Bool->Act->Prop
 | 0,listed,a=>R listed a/\∀j∈ca md ops listed,m<=j
 | n+1,listed,a=>ca md ops listed≠[]/\∀i∈ca md ops listed,qOp P ops C i (zk P md ops C m R n (listed.setIfInBounds i true)) a
theorem ox {m n:Nat}{R:Array Bool->Act->Prop}  (g:∀d a w,C w->R d a->wpAny P md ops e n d a w):∀(b:Nat) (c:Array Bool) (a:Act) (w:N),C w->
  zk P md ops C m R b c a->wpAny P md ops e (b+n) c a w
 | 0,_,_,_,hw,h=>by
  rw[Nat.zero_add];exact g _ _ _ hw h.1
 | b+1,c,a,w,hw,h=>by
  rw[show b+1+n=(b+n)+1 by omega];exact⟨λk=>absurd k h.1,λi l=>wpOp_of_qOp hw (λj p f o=>ox g b _ j p f o) (h.2 i l)⟩
theorem Ew {R:Array Bool->Act->Prop}  {r:Ya}{v:Value}(hB:oq md ops b=true)(W:c<b)(B:ops[c]? = some r)(m:∀(j:Nat) (o:Ya) t s,ops[j]? = some o->o.op≠.select t s):
  ∀(f:Nat) (d:Array Bool) (a:Act),DC md ops d->
   (∀j p,ops[j]? = some p->j≠c->d.getD j true=false->(∀e∈p.after,Va md e=true->e.on≠c)->r.apart ops p=true)->
   c∈ca md ops d->YieldsIn P ops C r v a->
   zk P md ops C b R f (d.setIfInBounds c true) (a.put r.dst v)->zk P md ops C b R (f+1) d a:=by
 have z:∀(d:Array Bool) (j:Nat),DC md ops d->c∈ca md ops d->j∈ca md ops d->j<b:=by grind [yP,Za]
 intro f
 induction f with
 | zero=>
  intro d a A _ G y H;refine⟨λh=>(by grind),λj q=>?_⟩;by_cases g:j=c
  .subst g;exact y.qOp B H
  have K:=z d j A G q;have M:=H.2 j (ready_mono q g);omega
 | succ f ih=>
  intro d a A i G y H;refine⟨λh=>(by grind),λj q=>?_⟩;by_cases g:j=c
  .subst g;exact y.qOp B H
  have K:=H.2 j (ready_mono q g);obtain⟨u,p,n,T⟩:=Za.1 q;have w:∀e∈p.after,Va md e=true->e.on≠c:=λe he hb V=>by grind [Za]
  have M:=qOp_put n (i j p n g u w) (λt s=>m c r t s B) (λt s=>m j p t s n) y K;have l:∀k x,ops[k]? = some x->k≠c->(d.setIfInBounds j true).getD k true=false->
    (∀e∈x.after,Va md e=true->e.on≠c)->r.apart ops x=true:=λk x X E J F=>by
   refine i k x X E ?_ F;by_cases D:j=k
   .grind
   rwa [getD_set_ne true D]at J
  refine qOp_mono (λU S=>ih (d.setIfInBounds j true) U (A.step q) l (ready_mono G (Ne.symm g)) S.1 ?_) M;rw[Array.setIfInBounds_comm _ _ g];exact S.2
def Of:Nat->Nat->Array Bool->Array Bool
 | 0,_,l=>l
 | n+1,k,l=>Of n (k+1) (l.setIfInBounds k true)
def rK (md:Ua)(ops:Array Ya)(m:Nat):Nat->Nat->Array Bool->Bool
 | 0,_,listed=>(ca md ops listed).all λj=>decide (m<=j)
 | n+1,k,listed=>(ca md ops listed).contains k&&Region.free md ops listed k&&rK md ops m n (k+1) (listed.setIfInBounds k true)
theorem Ct {f:Act->Prop}(n:Region.noSelect ops=true)(m:oq md ops b=true):∀(l:List Ya) (k:Nat) (c:Array Bool) (a:Act),(∀j,j<l.length->l[j]? = ops[k+j]?)->k+l.length<=b->DC md ops c->
  rK md ops b l.length k c=true->wpQuiet P ops C f l a->zk P md ops C b (λi p=>i=Of l.length k c/\f p) l.length c a
 | [],_,_,_,_,_,_,hL,h=>⟨⟨rfl,h⟩,λj s=>by grind [rK]⟩
 | o ::l,k,c,a,hl,hkm,hd,hL,h=>by
  have e:ops[k]? = some o:=by simpa using (hl 0 (by simp)).symm
  simp only[eb,rK,Wa]at hL;obtain⟨⟨t,r⟩,g⟩:=hL;have hst:qOp P ops C k (wpQuiet P ops C f l) a:=by
   unfold qOp;simp only[e];exact h
  obtain⟨v,u,q⟩:=yieldsIn_of_qOp e hst;have d:k∈ca md ops c:=by simpa using t
  simp only[eb]at hkm;exact Ew m (by omega) e (Region.noSelect_spec n) l.length c a hd (Region.free_spec e r) d u
   (Ct n m l (k+1) _ _ (λj s=>by
    have:=hl (j+1) (by simp;omega);grind) (by omega) (hd.step d) g q)
def IY (md:Ua)(ops:Array Ya):Nat->Nat->Array Bool->Bool
 | 0,_,lst=>(ca md ops lst).isEmpty
 | n+1,k,lst=>(ca md ops lst==[k])&&IY md ops n (k+1) (lst.setIfInBounds k true)
theorem pB:∀(l:List Ya) (k:Nat) (b:Array Bool) (a:Act) (w:N),(∀j,l[j]? = ops[k+j]?)->IY md ops l.length k b=true->wpList P ops e l a w->wpAny P md ops e l.length b a w
 | [],_,_,_,_,_,hL,h=>⟨by simpa[IY] using hL,h⟩
 | o ::l,k,b,a,w,hl,hL,h=>by
  have g:ops[k]? = some o:=by simpa using (hl 0).symm
  simp only[eb,IY,Wa,beq_iff_eq]at hL;obtain⟨m,c⟩:=hL;have p:∀a w,wpList P ops e l a w->wpAny P md ops e l.length (b.setIfInBounds k true) a w:=λa w h=>
   pB l (k+1) _ a w (λj=>by
    have:=hl (j+1);grind) c h
  refine⟨λn=>(by grind),λi f=>?_⟩;rw[m]at f;have d:i=k:=by simpa using f
  subst d;unfold wpOp;simp only[g];grind [Oper.wp_mono,wpList]
def preB (ops:Array Ya)(m:Nat):Bool:=
 Region.noSelect ops&&(oq .any ops m&&(decide (m<=ops.size)&&(rK .any ops m m 0 (Xa ops.size false)&&IY .any ops (ops.size - m) m (Of m 0 (Xa ops.size false)))))
theorem bg {a:Act}{w:N}{l:List Ya}(m:Nat)(h:wpQuiet P l.toArray (λd=>∃s:Bw w,d=s.val) (λg=>∀s:Bw w,wpList P l.toArray e (l.drop m) g s.val) (l.take m) a)
  (y:P.follows .mixedOrders=true:=by kernel_rfl) (p:preB l.toArray m=true:=by kernel_rfl):(Code.region b l.toArray true).wp P e a w:=by
 simp only[preB,Wa,decide_eq_true_eq]at p;obtain⟨q,r,t,B,D⟩:=p;have i:m<=l.length:=by simpa using t
 have hlen:(l.take m).length=m:=by simp[i]
 have k:DC .any l.toArray (Xa l.toArray.size false):=by
  refine⟨by simp,λj F o E=>?_⟩;have x:=(Array.getElem?_eq_some_iff.1 o).1;simp_all
 refine wp_region_any y ?_;have c:=Ct (P:=P) (C:=λd=>∃s:Bw w,d=s.val) (md:=.any) q r (l.take m) 0 (Xa l.toArray.size false) a (λj x=>by grind) (by omega) k (by grind) h;rw[hlen]at c;have f:l.toArray.size=m+(l.drop m).length:=by simp;omega
 rw[f];refine ox (C:=λd=>∃s:Bw w,d=s.val) (n:=(l.drop m).length) (λA g d z v=>?_) m _ a _ ⟨⟨_,(Below.refl w.heap.size w).drew⟩,rfl⟩ (by rw[<-f];exact c);obtain⟨rfl,u⟩:=v;obtain⟨s,rfl⟩:=z;refine pB (l.drop m) m _ g s.val (λj=>by rw[List.getElem?_drop,List.getElem?_toArray]) ?_ (u s);grind
end
end Go.Proofs.YtpndiccohnafbaaGreatDoor.Cq
