/- append onto a row that the caller holds: where the new row lies; a source that may be nil or empty. Rows that a call owns: shapes, growth. -/
import Derived.ArgAppend
import Derived.Laws.OwnMore
import Derived.Deep.RegionLaw
import Derived.Test.YtpndiccohnafbaaGreatDoorMemy
import Derived.Maps.AppendAt
open Option renaming some->Z,none->Y
open Go.Value renaming slice->Q
open Go renaming Value->C,TypeId->Ua,World->N,run_underlying->Xa,TypeInfo->Za
open Go.Builtin renaming append_->ca,lenOf->Ya,firstCells->qb
open Go.Region renaming wanted->Va
open List renaming eq_nil_of_length_eq_zero->Wa
open Go.Result renaming andThen->eb
open Go.Oper renaming wp->Ub
namespace Go.Proofs.YtpndiccohnafbaaGreatDoor
namespace Apn
open Go
def Src (w:N)(b:Nat)(d:Option Addr)(m:Nat)(a:List C):Prop:=
 a.length=m*b/\(∀u∈a,u.oneCell'=true)/\(m=0\/∃c,d=Z c/\∀(j:Nat) u,a[j]? = Z u->w.cell? (c.add j)=Z u)
def Same (w:N)(v a:C):Prop:=a.ownBlock=v.ownBlock\/∃g,a.ownBlock=Z g/\w.heap.size<=g
variable {a b c:Nat}{d:N}{e:Act}{f:Array Oper}{g:Exit -> Act -> N -> Prop}{h:Oper}{i:Program}
theorem yn {P:Program}(w:N)(t ty e:Ua)(i:Za)(z:C)(a f:Nat)(y:P.underlying t=Z (.slice e))(x:P.info? e=Z i)(hz:i.zero=Z z)
  (l:i.size=a) (F:i.bytes=f) (H:z.cells.size=a) (G:0<a)
  (v:C) (n:Nat) (M:List C) (b:w.ownsRow 0 e a v n M)
  (X:Option Addr) (m c:Nat) (d:List C) (T:Src w a X m d)
  (E:n+m<=maxLen) (k:(n+m)*f<=140737488355328):
  ∃q A,(ca #[t,t] ty #[v,Q X m c]).run P w=.ok q A/\A.ownsRow 0 e a q (n+m) (M++d)/\w.grownBy A v.ownBlock/\Same w v q/\(q=Q Y 0 0↔v=Q Y 0 0/\m=0)/\(q.ownBlock=v.ownBlock\/w.grownBy A Y):=by
 obtain⟨S,h1,hs⟩:=T;by_cases hm:m=0
 .subst hm;obtain rfl:d=[]:=Wa (by simpa using S);refine⟨v,w,?_,by simpa using b,⟨rfl,rfl,rfl,Nat.le_refl _,λ_ _ _=>rfl⟩,Or.inl rfl,by simp,Or.inl rfl⟩;cases X with
  | none=>
   rcases b.2 with ⟨rfl,rfl⟩|⟨g,o,D,rfl,_,_,r,_⟩
   .simp[ca,Xa y,sizeOf,typeInfo,x,Ya,qb]
   simp[ca,Xa y,sizeOf,typeInfo,x,Ya,qb,r,storeCells]
  | some B=>
   have R:=run_firstCells_some (P:=P) w i.size 0 B 0 c [] (by simp) (λj u h=>by simp at h);rcases b.2 with ⟨rfl,rfl⟩|⟨g,o,D,rfl,_,_,r,_⟩
   .simp[ca,Xa y,sizeOf,typeInfo,x,Ya,R]
   simp[ca,Xa y,sizeOf,typeInfo,x,Ya,R,r,storeCells]
 obtain⟨B,rfl,V⟩:=hs.resolve_left hm;obtain⟨q,A,hr,ho,hg,hv⟩:=run_append_own (P:=P) w 0 t ty e i z a f y x hz l F H G v n M b B m c d S V h1 E k (Nat.zero_le _)
 suffices hh:Same w v q/\(q.ownBlock=v.ownBlock\/w.grownBy A Y) from⟨q,A,hr,ho,hg,hh.1,hv,hh.2⟩
 have a0:∀K J,(ca #[t,t] ty #[v,Q (Z B) m c]).run P w=.ok K J->J.ownsRow w.heap.size e a K (n+m) (M++d)->w.grownBy J Y->Same w v q/\(q.ownBlock=v.ownBlock\/w.grownBy A Y):=by
  intro K J s W U;rw[hr]at s;injection s with e1 e2;subst e1;subst e2;rcases W.2 with ⟨_,h0⟩|⟨g,_,_,rfl,hb,_⟩
  .omega
  exact⟨Or.inr ⟨g,rfl,hb⟩,Or.inr U⟩
 have a3:=b.2;rcases a3 with ⟨rfl,rfl⟩|⟨g,o,D,rfl,_,a2,r,a4,a1,htk⟩
 .have hx:M=[]:=Wa (by simpa using b.1);subst hx;obtain⟨K,J,s,W,U,_⟩:=run_append_own (P:=P) w w.heap.size t ty e i z a f y x hz l F H G (Q Y 0 0) 0 [] (World.ownsRow_nil w _ e a) B m c d S V h1 E k (Nat.le_refl _);exact a0 K J s W U
 by_cases p:n+m<=o
 .have s:=run_append_room (P:=P) w t ty e i y x g n o D a2 B m c d (by grind) V h1 p (by rw[l,S,a1,<-Nat.add_mul];exact Nat.mul_le_mul_right _ p);rw[hr]at s;injection s with e1 e2;subst e1;exact⟨Or.inl rfl,Or.inl rfl⟩
 obtain⟨K,J,s,W,U⟩:=run_append_arg_grows (P:=P) w t ty e i z a f y x hz l F H G ⟨g,0,Y⟩ n o M b.1 (b.cells (g:=g) rfl) B m c d S V (by omega) E k;grind
theorem CD {P:Program}(w:N)(t ty e:Ua)(i:Za)(z:C)(a b:Nat)(y:P.underlying t=Z (.slice e))(x:P.info? e=Z i)(hz:i.zero=Z z)
  (g:i.size=a) (q:i.bytes=b) (s:z.cells.size=a) (r:0<a)
  (v:C) (n:Nat) (u:List C) (h:w.ownsRow 0 e a v n u)
  (o:Option Addr) (m c:Nat) (d:List C) (j:Src w a o m d)
  (p:n+m<=maxLen) (f:(n+m)*b<=140737488355328):
  ∃k l,(ca #[t,t] ty #[v,Q o m c]).run P w=.ok k l/\l.ownsRow 0 e a k (n+m) (u++d)/\w.grownBy l v.ownBlock/\Same w v k/\(k=Q Y 0 0↔v=Q Y 0 0/\m=0):=by
 obtain⟨k,l,A,B,D,E,F,_⟩:=yn (P:=P) w t ty e i z a b y x hz g q s r v n u h o m c d j p f;grind
theorem gD (w:N)  {rest:List Oper}    (D:h.guard=Y)(s x:Operand)(t:Ua)
  (U:h.op=.call {callee:=.builtin .append,args:=#[s,x],argTypes:=#[t,t]})
  (o:Ua) (r:Za) (z:C) (a b:Nat) (X:i.underlying t=Z (.slice o)) (T:i.info? o=Z r) (hz:r.zero=Z z)
  (k:r.size=a) (B:r.bytes=b) (F:z.cells.size=a) (E:0<a)
  (v:C) (n:Nat) (G:List C) (W:e.eval s=v) (p:w.ownsRow 0 o a v n G)
  (y:Option Addr) (m c:Nat) (d:List C) (hx:e.eval x=Q y m c) (q:Src w a y m d)
  (A:n+m<=maxLen) (j:(n+m)*b<=140737488355328)
  (H:∀l u,u.ownsRow 0 o a l (n+m) (G++d)->w.grownBy u v.ownBlock->Same w v l->(l=Q Y 0 0↔v=Q Y 0 0/\m=0)->wpList i f g rest (e.put h.dst l) u):wpList i f g (h ::rest) e w:=by
 refine wpList_plain D λK S=>?_
 obtain⟨l,u,V,J,M,P,R⟩:=CD (P:=i) w t h.type o r z a b X T hz k B F E v n G p y m c d q A j;unfold Ub;simp[execOp,U,resolve,invoke,builtin,W,hx,V,eb];exact S _ _ (H l u J M P R)
theorem yH {K:Act->N->Prop}  {E:Prop}
  (S:h.guard=Y) (s x:Operand) (t:Ua) (U:h.op=Op.call {callee:=Callee.builtin Builtin.append,args:=#[s,x],argTypes:=#[t,t]})
  (p:Ua) (u:Za) (z:C) (a b:Nat) (X:i.underlying t=Z (.slice p)) (T:i.info? p=Z u) (hz:u.zero=Z z)
  (l:u.size=a) (B:u.bytes=b) (F:z.cells.size=a) (D:0<a)
  (v:C) (n:Nat) (G:List C) (W:e.eval s=v) (q:d.ownsRow 0 p a v n G)
  (y:Option Addr) (m c:Nat) (j:List C) (hx:e.eval x=Q y m c) (r:Src d a y m j)
  (A:n+m<=maxLen) (k:(n+m)*b<=140737488355328)
  (R:∀o w,w.ownsRow 0 p a o (n+m) (G++j)->d.grownBy w v.ownBlock->Same d v o->(o=Q Y 0 0↔v=Q Y 0 0/\m=0)->K (e.put h.dst o) w):
  if Va h (yielded f e.tmps)=true then Ub i h e d K g else E:=by
 have hw:Va h (yielded f e.tmps)=true:=by simp[Va,S]
 rw[if_pos hw];obtain⟨o,w,V,H,J,M,P⟩:=CD (P:=i) d t h.type p u z a b X T hz l B F D v n G q y m c j r A k;unfold Ub;simp[execOp,U,resolve,invoke,builtin,W,hx,V,eb];exact R o w H J M P
theorem eG {K:Act->N->Prop}  {E:Prop}
  (S:h.guard=Y) (s x:Operand) (t:Ua) (U:h.op=Op.call {callee:=Callee.builtin Builtin.append,args:=#[s,x],argTypes:=#[t,t]})
  (q:Ua) (w:Za) (z:C) (a b:Nat) (X:i.underlying t=Z (.slice q)) (T:i.info? q=Z w) (hz:w.zero=Z z)
  (l:w.size=a) (B:w.bytes=b) (F:z.cells.size=a) (D:0<a)
  (v:C) (n:Nat) (G:List C) (W:e.eval s=v) (r:d.ownsRow 0 q a v n G)
  (y:Option Addr) (m c:Nat) (j:List C) (hx:e.eval x=Q y m c) (u:Src d a y m j)
  (A:n+m<=maxLen) (k:(n+m)*b<=140737488355328)
  (R:∀o p,p.ownsRow 0 q a o (n+m) (G++j)->d.grownBy p v.ownBlock->Same d v o->(o.ownBlock=v.ownBlock\/d.grownBy p Y)->K (e.put h.dst o) p):
  if Va h (yielded f e.tmps)=true then Ub i h e d K g else E:=by
 have hw:Va h (yielded f e.tmps)=true:=by simp[Va,S]
 rw[if_pos hw];obtain⟨o,p,V,H,J,M,_,P⟩:=yn (P:=i) d t h.type q w z a b X T hz l B F D v n G r y m c j u A k;unfold Ub;simp[execOp,U,resolve,invoke,builtin,W,hx,V,eb];exact R o p H J M P
theorem weaken {e:Ua}{v:C}{f:List C}(h:d.ownsRow a e c v b f):d.ownsRow 0 e c v b f:=by
 refine⟨h.1,?_⟩;rcases h.2 with h|⟨g,i,j,k,_,l⟩
 .exact Or.inl h
 grind
theorem sH {q:N}{  f:Nat}{e:Ua}{v l:C}{s r:List C}(h:d.ownsRow a e f v b s)(n:q.ownsRow 0 e f l c r)(p:Same d v l)(u:a<=d.heap.size):q.ownsRow a e f l c r:=by
 refine⟨n.1,?_⟩;rcases n.2 with k|⟨g,i,j,o,_,k⟩
 .exact Or.inl k
 refine Or.inr ⟨g,i,j,o,?_,k⟩;rw[o]at p;rcases p with m|⟨t,m,w⟩
 .exact(h.lt g m.symm).1
 grind [Value.ownBlock]
theorem gE (w:N)  {rest:List Oper}    (F:h.guard=Y)(s x:Operand)(t:Ua)
  (U:h.op=.call {callee:=.builtin .append,args:=#[s,x],argTypes:=#[t,t]})
  (d:Nat) (q:Ua) (u:Za) (z:C) (a b:Nat) (W:i.underlying t=Z (.slice q)) (T:i.info? q=Z u) (hz:u.zero=Z z)
  (p:u.size=a) (E:u.bytes=b) (H:z.cells.size=a) (G:0<a)
  (v:C) (n:Nat) (J:List C) (V:e.eval s=v) (l:w.ownsRow d q a v n J)
  (B:Option Addr) (m c:Nat) (j:List C) (X:e.eval x=Q B m c) (r:Src w a B m j)
  (D:n+m<=maxLen) (k:(n+m)*b<=140737488355328) (o:d<=w.heap.size)
  (K:∀y A,A.ownsRow d q a y (n+m) (J++j)->w.grownBy A v.ownBlock->(y=Q Y 0 0↔v=Q Y 0 0/\m=0)->wpList i f g rest (e.put h.dst y) A):wpList i f g (h ::rest) e w:=
 gD w F s x t U q u z a b W T hz p E H G v n J V (weaken l) B m c j X r D k λy A M P R S=>K y A (sH l M R o) P S
end Apn
namespace Own
open Go.RowKit Mem Foot
variable {a b c:Nat}{d:List C}{e:Ua}{f:C}{g:N}
theorem shape (h:g.ownsRow a e b f c d):∃j cv,f=Q j c cv:=by
 rcases h.2 with ⟨i,m⟩|⟨n,k,l,i,_⟩
 .exact⟨Y,0,by rw[i,m]⟩
 grind
theorem block (h:g.ownsRow a e b f c d):∀k,f.ownBlock=Z k->a<=k:=λk i=>(h.lt k i).1
theorem cz {w wr g:N}   {o:Obj}    (i:Below a w wr)(h:a<=wr.heap.size)(k:wr.ownsRow a e b f c d)(j:(wr.alloc o).grownBy g f.ownBlock):Below a w g:=
 (i.alloc h o).grown j (by simp;omega) (block k)
theorem lg {w wr g:N}      (i:Below a w wr)(h:a<=wr.heap.size)(k:wr.ownsRow a e b f c d)(j:wr.grownBy g f.ownBlock):Below a w g:=
 i.grown j h (block k)
theorem length (h:g.ownsRow a e 1 f b d):d.length=b:=by
 have:=h.1;omega
end Own
end Go.Proofs.YtpndiccohnafbaaGreatDoor
