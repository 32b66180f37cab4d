/- Regions with one call of its own among what only reads: all that only reads, taken ahead in one walk. -/
import Derived.Test.YtpndiccohnafbaaGreatDoorCr
import Derived.BigQuiet
open Go renaming World->N
namespace Go.Proofs.YtpndiccohnafbaaGreatDoor.Cq
open Go.RowKit
variable {P : Program} {ops : Array Oper} {C : N -> Prop} {Q : Exit -> Act -> N -> Prop}
def Sw:Op->Bool
 | .move _|.assign _|.load _ _|.fieldAddr _ _ _|.indexAddr _ _ _|.extract _ _|.binOp _ _ _ _ _|.slice _ _ _ _ _|.nilCheck _|.unOp _ _ _=>true
 | _=>false
variable {a:N}{b:Act}
theorem Iz {o:Oper}   {v:Value}(k:Sw o.op=true)(h:o.quietAt P b C a v):(execOp b.eval o).run P a=.ok (.value v) a:=by
 have m:∀{α:Type} (s:Sem α) (f:α->Sem Next) (a:N) n c,(∀x l,(f x).run P l=.ok n c->∃u,n=.value u)->(s >>= f).run P a=.ok n c->∃u,n=.value u:=λs f a n c p g=>by
  rw[Sem.run_bind]at g;cases q:Sem.run P s a with
  | ok u t=>
   rw[q]at g;exact p _ _ g
  | halt x t=>simp_all
 have i:∀(u:Value) (a:N) n c,(pure (.value u):Sem Next).run P a=.ok n c->∃u,n=.value u:=λu a n c g=>by grind [Sem.run_pure]
 have key:∀n c,(execOp b.eval o).run P a=.ok n c->∃u,n=.value u:=λn c d=>by
  have r:∀s:Sem Value,(do pure (.value (<-s)):Sem Next).run P a=.ok n c->∃u,n=.value u:=λs g=>m s _ _ _ _ (λx l=>i _ _ _ _) g
  unfold execOp at d;split at d<;>rename_i e<;>rw[e]at k<;>first|(simp[Sw]at k;done)|exact r _ d|exact i _ _ _ _ d|skip
  dsimp only at d;split at d
  all_goals first|exact i _ _ _ _ d|(simp[go_sem]at d;done)|skip
  split at d
  all_goals first|exact i _ _ _ _ d|(simp[go_sem]at d;done)|skip
  grind
 unfold Oper.quietAt at h;cases j:(execOp b.eval o).run P a with
 | ok n c=>
  obtain⟨u,rfl⟩:=key n c j;rw[j]at h;obtain⟨rfl,rfl⟩:=h;rfl
 | halt x c=>
  rw[j]at h;cases h
def QA : Oper := ⟨none, .move (.const undef), 0, "", #[], none⟩
def LZ (ops:Array Oper)(m:Nat):List Nat->Array Bool->Bool
 | [],_=>true
 | i ::l,listed=>(match ops[i]? with|some o=>Sw o.op|none=>false)&&(decide (i<m)&&(Region.free .any ops listed i&&((Region.ready .any ops listed).contains i&&LZ ops m l (listed.setIfInBounds i true))))
theorem sM {m:Nat}  (p:oq .any ops m=true)(q:Region.noSelect ops=true)(r:∀c (g:Act) (i:Nat) v a,Q (.panic c) (g.put (some i) v) a->Q (.panic c) g a)(k:C a){f:Nat}:∀(e:List Nat) (b:Array Bool) (g:Act),LZ ops m e b=true->
  wpQuiet P ops C (λz=>im P ops C m Q f (e.foldl (λl i=>l.setIfInBounds i true) b) z a) (e.map λi=>(ops[i]?).getD QA) g->im P ops C m Q (f+e.length) b g a
 | [],_,_,_,h=>h
 | i ::e,b,g,hB,h=>by
  unfold LZ at hB;simp only[Bool.and_eq_true,decide_eq_true_eq]at hB;obtain⟨o,t,u,w,x⟩:=hB;have y:∀(d:Option Nat) v c (g:Act) a,Q (.panic c) (g.put d v) a->Q (.panic c) g a:=λd v c g a h=>by
   cases d with
   | none=>exact h
   | some i=>exact r c g i v a h
  cases n:ops[i]? with
  | none=>rw[n]at o;cases o
  | some s=>
   rw[n]at o;rw[List.map_cons,n,Option.getD_some]at h;rw[show f+(i ::e).length=(f+e.length)+1 from rfl];unfold wpQuiet at h;by_cases j:Region.wanted s (yielded ops g.tmps)=true
   .rw[if_pos j]at h;obtain⟨v,A,B⟩:=h;exact ay n t p q u w (y s.dst _) (.inl ⟨j,λa k=>Iz o (A a k)⟩) k (sM p q r k e _ _ x B)
   rw[if_neg j]at h;exact ay n t p q u w (y s.dst _) (.inr ⟨by simpa using j,rfl⟩) k (sM p q r k e _ _ x h)
theorem kL {m f F:Nat}{d:Array Bool}   (e:List Nat)(o:C a)(g:(oq .any ops m&&(Region.noSelect ops&&LZ ops m e d))=true)(n:∀c (b:Act) (i:Nat) v a,Q (.panic c) (b.put (some i) v) a->Q (.panic c) b a)(k:F=f+e.length)
  (h:wpQuiet P ops C (λj=>im P ops C m Q f (e.foldl (λl i=>l.setIfInBounds i true) d) j a) (e.map λi=>(ops[i]?).getD QA) b):im P ops C m Q F d b a:=by
 simp only[Bool.and_eq_true]at g;rw[k];exact sM g.1 g.2.1 n o e d b g.2.2 h
theorem yh {d:Nat}   {l:List Oper}(m:Nat)(c:P.follows .mixedOrders=true)(h:im P l.toArray (λe=>∃s:Bw a,e=s.val) m Q l.toArray.size (Array.replicate l.toArray.size false) b a.drew):(Code.region d l.toArray true).wp P Q b a:=dS _ m c h
structure In (C:N->Prop) where
 val:N
 is:C val
theorem In.has (h:C a):∃s:In C,a=s.val:=⟨⟨a,h⟩,rfl⟩
theorem Bw.has {b:N}(h:Below a.heap.size a b):∃s:Bw a,b=s.val:=⟨⟨b,h⟩,rfl⟩
end Go.Proofs.YtpndiccohnafbaaGreatDoor.Cq
