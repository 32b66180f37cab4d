/- Regions with one call of its own among what only reads: an operation that yields the same in all worlds of a class is taken ahead. -/
import Derived.Test.YtpndiccohnafbaaGreatDoorCq
open Go.Region renaming ready->ca,wanted->Wa
open Go renaming World->N
open Go.Oper renaming upon->Ua
open Go.Act renaming put_comm->Va
open Array renaming getElem?_eq_some_iff->Xa
namespace Go.Proofs.YtpndiccohnafbaaGreatDoor.Cq
open Go.RowKit
variable {P : Program} {ops : Array Oper} {md : Region.Mode} {C : N -> Prop} {Q : Exit -> Act -> N -> Prop}
def pA (P:Program)(md:Region.Mode)(ops:Array Oper)(C:N->Prop)(m:Nat)(Q:Exit->Act->N->Prop):Nat->Array Bool->Act->N->Prop
 | 0,listed,a,w=>ca md ops listed=[]/\Q .normal a w
 | n+1,listed,a,w=>(ca md ops listed=[]->Q .normal a w)/\∀i∈ca md ops listed,wpOp P ops Q i (λc b=>(i<m->C b)/\pA P md ops C m Q n (listed.setIfInBounds i true) c b) a w
variable {b c:Nat}{d:Act}{e:N}{f:Oper}{g:Array Bool}{k:Value}
theorem na:∀(n:Nat) (c:Array Bool) (a:Act) (w:N),pA P md ops C b Q n c a w->wpAny P md ops Q n c a w
 | 0,_,_,_,h=>h
 | n+1,_,_,_,h=>⟨h.1,λi e=>wpOp_mono (λd g f=>na n _ d g f.2) (h.2 i e)⟩
def gF (P:Program)(ops:Array Oper)(C:N->Prop)(o:Oper)(v:Value)(a:Act):Prop:=
 (Wa o (yielded ops a.tmps)=true/\∀w,C w->(execOp a.eval o).run P w=.ok (.value v) w)\/(Wa o (yielded ops a.tmps)=false/\v=undef)
theorem gF.op (c:ops[b]? = some f)(g:gF P ops C f k d){K:Act->N->Prop}  (j:C e)(h:K (d.put f.dst k) e):wpOp P ops Q b K d e:=by
 unfold Go.wpOp;simp only[c];rcases g with ⟨a,i⟩|⟨a,rfl⟩
 .grind [Oper.wp,Ua]
 grind
theorem En {a:Oper}  (A:ops[b]? = some a)(n:f.apart ops a=true)(o:∀l g,f.op≠.select l g)(j:∀l g,a.op≠.select l g)
  (G:∀c d e,Q (.panic c) (d.put f.dst k) e->Q (.panic c) d e) {K:Act->N->Prop}   (D:gF P ops C f k d) (h:wpOp P ops Q b K (d.put f.dst k) e):
  wpOp P ops Q b (λs q=>gF P ops C f k s/\K (s.put f.dst k) q) d e:=by
 obtain⟨p,H,w⟩:=Oper.apart_spec n;have M:∀(g:Act),gF P ops C f k g->∀u,gF P ops C f k (g.put a.dst u):=λg z u=>by
  unfold gF at *;rw[execOp_put f o g a.dst u w,wanted_put f g a.dst u w];exact z
 have J:∀m,gF P ops C f k {d with defers:=m ::d.defers}:=λm=>D
 unfold wpOp at *;simp only[A]at *;rw[wanted_put a d f.dst k p]at h;by_cases B:Wa a (yielded ops d.tmps)=true
 .rw[if_pos B]at h ⊢;rcases h with h|⟨t,y⟩
  .refine .inl ?_;unfold Oper.wp at *;rw[execOp_put a j d f.dst k p]at h;cases v:(execOp d.eval a).run P e with
   | ok E q=>
    rw[v]at h;cases E with
    | value u=>grind [Va,Ua]
    | skip=>grind [Va,Ua]
    | defer m=>grind [Va,Act.put_defers,Ua]
    | enter F i=>grind [Calls.mono,Va,Ua]
    | row r i=>grind [Va,Ua]
    | _=>simp only[Ua]at h ⊢
   | halt x q=>
    rw[v]at h;cases x with
    | panic u=>grind [Ua]
    | _=>simp only[Ua]at h ⊢
  exact .inr ⟨by unfold Oper.asks at *;rw[execOp_put a j d f.dst k p]at t;exact t,y⟩
 grind [Va]
theorem KM (hm:c<b)(hT:oq md ops b=true)(z:ops[c]? = some f)(m:∀(j:Nat) (o:Oper) r q,ops[j]? = some o->o.op≠.select r q)(T:∀G a w,Q (.panic G) (a.put f.dst k) w->Q (.panic G) a w):
  ∀(g:Nat) (d:Array Bool) (a:Act) (w:N),C w->DC md ops d->(∀j p,ops[j]? = some p->j≠c->d.getD j true=false->(∀e∈p.after,Region.binds md e=true->e.on≠c)->f.apart ops p=true)->
   c∈ca md ops d->gF P ops C f k a->pA P md ops C b Q g (d.setIfInBounds c true) (a.put f.dst k) w->pA P md ops C b Q (g+1) d a w:=by
 intro g
 induction g with
 | zero=>
  intro d a w v _ _ M y H;refine⟨λh=>(by grind),λj s=>?_⟩;by_cases i:j=c
  .subst i;exact y.op z v ⟨λ_=>v,H⟩
  have J:=ready_mono s i;rw[H.1]at J;cases J
 | succ g X=>
  intro d a w v U l M y H;refine⟨λh=>(by grind),λj s=>?_⟩;by_cases i:j=c
  .subst i;exact y.op z v ⟨λ_=>v,H⟩
  obtain⟨t,p,n,K⟩:=mem_ready.1 s;have B:j<b:=by grind [yP,mem_ready]
  have u:∀e∈p.after,Region.binds md e=true->e.on≠c:=λe he hb V=>by grind [mem_ready]
  refine wpOp_mono (λS w' x=>⟨x.2.1,X (d.setIfInBounds j true) S w' (x.2.1 B) (U.step s) (λR ok W D F E=>l R ok W D ?_ E) (ready_mono M (Ne.symm i)) x.1 (by rw[Array.setIfInBounds_comm _ _ i];exact x.2.2)⟩) (En n (l j p n i t u) (λr q=>m c f r q z) (λr q=>m j p r q n) T y (H.2 j (ready_mono s i)));by_cases A:j=R
  .grind
  rwa [getD_set_ne true A]at F
def im (P:Program)(ops:Array Oper)(C:N->Prop)(m:Nat)(Q:Exit->Act->N->Prop)(n:Nat)(b:Array Bool)(a:Act)(w:N):Prop:=DC .any ops b->pA P .any ops C m Q n b a w
theorem ay {a:Nat}    (l:ops[c]? = some f)(q:c<b)(o:oq .any ops b=true)(r:Region.noSelect ops=true)(p:Region.free .any ops g c=true)(m:(ca .any ops g).contains c=true)
  (n:∀i d e,Q (.panic i) (d.put f.dst k) e->Q (.panic i) d e) (t:gF P ops C f k d) (s:C e) (h:im P ops C b Q a (g.setIfInBounds c true) (d.put f.dst k) e):im P ops C b Q (a+1) g d e:=λj=>
 KM q o l (Region.noSelect_spec r) n a g d e s j (Region.free_spec l p) (by simpa using m) t (h (j.step (by simpa using m)))
theorem Tu {m i:Nat}  {v:Value}     (n:ops[i]? = some f)(s:∀e,C e->(execOp d.eval f).run P e=.ok (.value v) e)(r:C e)
  (h:im P ops C m Q b (g.setIfInBounds i true) (d.put f.dst v) e) (o:i<m:=by decide) (j:oq .any ops m=true:=by kernel_rfl) (q:Region.noSelect ops=true:=by kernel_rfl) (k:Region.free .any ops g i=true:=by kernel_rfl)
  (p:(ca .any ops g).contains i=true:=by kernel_rfl) (a:∀c d e,Q (.panic c) (d.put f.dst v) e->Q (.panic c) d e:=by exact λ_ _ _ h=>h) (l:Wa f (yielded ops d.tmps)=true:=by rfl):im P ops C m Q (b+1) g d e:=
 ay n o j q k p a (Or.inl ⟨l,s⟩) r h
theorem aW {m j:Nat}      (h:∀K:Act->N->Prop,(∀c a,(j<m->C a)->im P ops C m Q b (g.setIfInBounds j true) c a->K c a)->if Wa f (yielded ops d.tmps)=true then f.wp P d e K Q else K (d.put f.dst undef) e)(r:ca .any ops g=[j]:=by kernel_rfl)(q:ops[j]? = some f:=by exact rfl):im P ops C m Q (b+1) g d e:=by
 intro o;have p:j∈ca .any ops g:=by grind
 refine⟨λs=>(by grind),λi k=>?_⟩;rw[r,List.mem_singleton]at k;subst k;have t:=h (λc a=>(i<m->C a)/\pA P .any ops C m Q b (g.setIfInBounds i true) c a) (λc a l n=>⟨l,n (o.step p)⟩);unfold wpOp;simp only[q];grind
theorem eY (f:ca .any ops g=[])(h:Q .normal d e):∀a,im P ops C b Q a g d e
 | 0=>λ_=>⟨f,h⟩
 | n+1=>λ_=>⟨λ_=>h,λi c=>by rw[f]at c;cases c⟩
theorem Tz (h:Q .normal d e)(a:ca .any ops g=[]:=by kernel_rfl):im P ops C b Q c g d e:=eY a h c
theorem yg {Q:Exit->Act->N->Prop}   {l:List Oper}(C:N->Prop)(m:Nat)(i:P.follows .mixedOrders=true)(f:C e)(g:∀a,C a->C a.drew)(h:∀a,C a->a.heap=e.heap->im P l.toArray C m Q l.toArray.size (Array.replicate l.toArray.size false) d a):(Code.region b l.toArray true).wp P Q d e:=by
 refine wp_region_any i ?_;exact na _ _ _ _ (h _ (g _ f) rfl ⟨by simp,λj o c n=>by
  have k:=(Xa.1 c).1;simp_all⟩)
theorem dS {Q:Exit->Act->N->Prop}   {l:List Oper}(C:N->Prop)(m:Nat)(c:P.follows .mixedOrders=true)(h:im P l.toArray C m Q l.toArray.size (Array.replicate l.toArray.size false) d e.drew):(Code.region b l.toArray true).wp P Q d e:=by
 refine wp_region_any c ?_;exact na _ _ _ _ (h ⟨by simp,λj i a g=>by
  have f:=(Xa.1 a).1;simp_all⟩)
end Go.Proofs.YtpndiccohnafbaaGreatDoor.Cq
