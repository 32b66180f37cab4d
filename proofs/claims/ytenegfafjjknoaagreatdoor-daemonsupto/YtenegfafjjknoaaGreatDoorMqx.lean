/- What the operations on a map do, by the list of its entries. Footprints: the blocks that a call may write. append onto a row that the caller holds: where the new row lies; a source that may be nil or empty. Rows that a call owns: shapes, growth. The walk of the sketch's Bucket. The program's sketch in memory. The words of a set in memory; small walks. The words of a set: one more. -/
import Derived.Test.YtenegfafjjknoaaGreatDoorImx
import Derived.Maps.Own
import Derived.ArgAppend
import Derived.Laws.OwnMore
import Derived.Deep.RegionLaw
import Derived.Maps.AppendAt
import Derived.Test.YtenegfafjjknoaaGreatDoorProg
import Derived.WalkKit
import Derived.WalkLawsBesides
import Derived.Handy
import Derived.Deep.QuietTactic
import Derived.BigQuiet
import Derived.BigRegion
import Derived.StringKeys
set_option maxHeartbeats 100000000
namespace Go.Proofs.YtenegfafjjknoaaGreatDoor.Im
open Go
section
variable {P : Program} {k e t : TypeId} {κ β : Type} {lit : κ → Lit} {f : β → Value} {ok : Value → Bool} {w : World} {b n : Nat} {l : List (κ × β)}
theorem own_at {w':World}{R:Value→Option (DataW Value×List MemPlace)}{D:DataW Value}(h:w.ownsMap P k R b n D)(hb:w'.heap[b]? = w.heap[b]?):w'.ownsMap P k R b n D:=by
 obtain⟨es,clock,h1,h2⟩:=h;exact⟨es,clock,hb.trans h1,h2⟩
theorem len_run (h:w.ownsMap P k (exE ok) b n (mp lit f l))(ht:P.underlying t=some (.map k e))(ty:TypeId):∀w':World,w'.heap[b]? = w.heap[b]?→(Builtin.len_ #[t] ty #[.map (some b)]).run P w'=.ok (.int .i64 l.length) w':=by
 intro w' hb;have:=(own_at h hb).len ht ty;rw[mp_size]at this;exact this
def Owns (P:Program)(k:TypeId)(ok:Value→Bool)(lit:κ→Lit)(f:β→Value)(w:World)(b:Nat)(l:List (κ×β)):Prop:=w.ownsMap P k (exE ok) b l.length (mp lit f l)
theorem Owns.below (h:Owns P k ok lit f w b l):b<w.heap.size:=World.ownsMap.lt h
theorem Owns.at {w':World}(h:Owns P k ok lit f w b l)(hb:w'.heap[b]? = w.heap[b]?):Owns P k ok lit f w' b l:=own_at h hb
theorem Owns.of (h:w.ownsMap P k (exE ok) b n (mp lit f l)):Owns P k ok lit f w b l:=by
 have:=own_tight h;rw[mp_size]at this;exact this
theorem made_owns (w:World):Owns P k ok lit f (w.alloc (.map #[] 0)) w.heap.size ([]:List (κ×β)):=World.ownsMap_made w P k (exE ok)
end
section
variable {P : Program} {k e t : TypeId} {κ β : Type} [DecidableEq κ] {lit : κ → Lit} {lt : κ → κ → Bool} {f : β → Value} {ok : Value → Bool} {w : World} {b n : Nat} {l : List (κ × β)}
def elemOf (f:β→Value)(z:Value)(a:κ)(l:List (κ×β)):Value:=match getE a l with
 | some x=>f x
 | none=>z
theorem look_run (h:w.ownsMap P k (exE ok) b n (mp lit f l))(K:Maps.Keyed P k)(ht:P.underlying t=some (.map k e)){z:Value}(hz:∀w,(zeroValue e).run P w=.ok z w)(hok:ok z=true)(hs:∀a b,(lit a).sameKey (lit b)=decide (a=b)){key:Value}{a:κ}(hkey:keyOf P k key=some (lit a)):
  ∀w':World,w'.heap[b]? = w.heap[b]?→(Instr.lookup t (.map (some b)) key false).run P w'=.ok (elemOf f z a l) w':=by
 intro w' hb;obtain⟨v,ps,hrun,hv⟩:=(own_at h hb).lookup K ht (hz w') (exE_mk hok) hkey;obtain⟨_,e1⟩:=exE_inv hv;rw[mp_at hs]at e1;rw[hrun]
 congr 1
 unfold elemOf;cases hg:getE a l with
 | none=>
  rw[hg]at e1;simp at e1
  exact e1.1.symm
 | some x=>
  rw[hg]at e1;simp at e1
  exact e1.1.symm
theorem look_ok_run (h:w.ownsMap P k (exE ok) b n (mp lit f l))(K:Maps.Keyed P k)(ht:P.underlying t=some (.map k e)){z:Value}(hz:∀w,(zeroValue e).run P w=.ok z w)(hok:ok z=true)(hs:∀a b,(lit a).sameKey (lit b)=decide (a=b)){key:Value}{a:κ}(hkey:keyOf P k key=some (lit a)):
  ∀w':World,w'.heap[b]? = w.heap[b]?→(Instr.lookup t (.map (some b)) key true).run P w'=.ok (.tuple #[elemOf f z a l,.bool (has a l)]) w':=by
 intro w' hb;obtain⟨v,ps,hrun,hv⟩:=(own_at h hb).look_ok K ht (hz w') (exE_mk hok) hkey;obtain⟨_,e1⟩:=exE_inv hv;rw[mp_at hs]at e1;rw[hrun,mp_has hs]
 congr 3
 unfold elemOf;cases hg:getE a l with
 | none=>
  rw[hg]at e1;simp at e1
  exact congrArg (· ::_) e1.1.symm
 | some x=>
  rw[hg]at e1;simp at e1
  exact congrArg (· ::_) e1.1.symm
theorem upd_run (h:Owns P k ok lit f w b l)(K:Maps.Keyed P k)(ht:P.underlying t=some (.map k e))(hs:∀a b,(lit a).sameKey (lit b)=decide (a=b))(hb:∀a b,(lit a).before (lit b)=lt a b)(hl:l.length<maxLen){key:Value}{a:κ}(hkey:keyOf P k key=some (lit a))(x:β)(hx:ok (f x)=true):
  ∃w',(Instr.mapUpdate t (.map (some b)) key (f x)).run P w=.ok () w'∧Owns P k ok lit f w' b (put lt a x l)∧w.grownBy w' (some b):=by
 obtain⟨w',h1,h2,h3⟩:=World.ownsMap.update h K ht hl hkey (exE_mk hx);rw[mp_put hs hb]at h2;exact⟨w',h1,Owns.of h2,h3⟩
theorem del_run (h:Owns P k ok lit f w b l)(K:Maps.Keyed P k)(ht:P.underlying t=some (.map k e))(hs:∀a b,(lit a).sameKey (lit b)=decide (a=b)){key:Value}{a:κ}(hkey:keyOf P k key=some (lit a))(ty:TypeId):
  ∃w',(Builtin.delete_ #[t,k] ty #[.map (some b),key]).run P w=.ok (.tuple #[]) w'∧Owns P k ok lit f w' b (del a l)∧w.grownBy w' (some b):=by
 obtain⟨w',h1,h2,h3⟩:=World.ownsMap.drop h K ht hkey ty;rw[mp_del hs]at h2;exact⟨w',h1,Owns.of h2,h3.grown⟩
end
end Go.Proofs.YtenegfafjjknoaaGreatDoor.Im
namespace Go.Proofs.YtenegfafjjknoaaGreatDoor.Foot
open Go.RowKit Mem
theorem hide {p:Prop}(h:p):Hid p:=h
structure Off (F:List Nat)(w w':World):Prop where
 os:w'.os=w.os
 tape:w'.tape=w.tape
 output:w'.output=w.output
 size:w.heap.size≤w'.heap.size
 block:∀k,k<w.heap.size→k∉F→w'.heap[k]? = w.heap[k]?
theorem Off.refl (F:List Nat)(w:World):Off F w w:=⟨rfl,rfl,rfl,Nat.le_refl _,fun _ _ _=>rfl⟩
theorem Off.of_below {F:List Nat}{w w':World}(h:Below w.heap.size w w'):Off F w w':=⟨h.os,h.tape,h.output,h.size,fun k hk _=>h.block k hk⟩
theorem Off.of_but {b:Nat}{F:List Nat}{w w':World}(h:But b w w')(hb:b∈F):Off F w w':=⟨h.os,h.tape,h.output,h.size,fun k hk hF=>h.block k hk (fun e=>hF (e▸hb))⟩
theorem Off.mono {F G:List Nat}{w w':World}(h:Off F w w')(hs:∀k,k<w.heap.size→k∈F→k∈G):Off G w w':=
 ⟨h.os,h.tape,h.output,h.size,fun k hk hG=>h.block k hk (fun e=>hG (hs k hk e))⟩
theorem Off.trans {F:List Nat}{x y z:World}(h:Off F x y)(k:Off F y z):Off F x z:=
 ⟨k.os.trans h.os,k.tape.trans h.tape,k.output.trans h.output,Nat.le_trans h.size k.size,fun i hi hF=>(k.block i (Nat.lt_of_lt_of_le hi h.size) hF).trans (h.block i hi hF)⟩
theorem Off.drewN {F:List Nat}{w w':World}(h:Off F w w')(n:Nat):Off F w (w'.drewN n):=⟨h.os,h.tape,h.output,h.size,h.block⟩
theorem Off.set {F:List Nat}{w w':World}(h:Off F w w'){b:Nat}(hb:b∈F)(j:Nat)(v:Value):Off F w (w'.setCell ⟨b,j,none⟩ v):=
 h.trans (Off.of_but ((But.refl b w').set j v) hb)
theorem Sits.off {w w':World}{c:Nat}{F:List Nat}{t:TypeId}{cs:Array Value}(h:Sits w c t cs)(ho:Off F w w')(hc:c∉F):Sits w' c t cs:=by
 have hl:=h.lt;unfold Sits at h ⊢;rw[ho.block c hl hc,h]
theorem Off.below {B:Nat}{F:List Nat}{w w':World}(h:Off F w w')(hF:∀k∈F,B≤k)(hw:B≤w.heap.size):Below B w w':=
 ⟨h.os,h.tape,h.output,h.size,fun k hk=>h.block k (by omega) (fun e=>by have:=hF k e;omega)⟩
end Go.Proofs.YtenegfafjjknoaaGreatDoor.Foot
namespace Go.Proofs.YtenegfafjjknoaaGreatDoor.Apn
open Go
def Src (w:World)(size:Nat)(ao:Option Addr)(m:Nat)(news:List Value):Prop:=
 news.length=m*size∧(∀u∈news,u.oneCell'=true)∧(m=0∨∃ad,ao=some ad∧∀(j:Nat) u,news[j]? = some u→w.cell? (ad.add j)=some u)
def Same (w:World)(v v':Value):Prop:=v'.ownBlock=v.ownBlock∨∃g,v'.ownBlock=some g∧w.heap.size≤g
theorem run_any2 {P:Program}(w:World)(t ty e:TypeId)(i:TypeInfo)(z:Value)(size bytes:Nat)(ht:P.underlying t=some (.slice e))(hi:P.info? e=some i)(hz:i.zero=some z)
  (hsize:i.size=size) (hby:i.bytes=bytes) (hzs:z.cells.size=size) (hsz:0<size)
  (v:Value) (n:Nat) (xs:List Value) (hown:w.ownsRow 0 e size v n xs)
  (ao:Option Addr) (m c:Nat) (news:List Value) (hsrc:Src w size ao m news)
  (h63:n+m≤maxLen) (hbytes:(n+m)*bytes≤140737488355328):
  ∃v' w',(Builtin.append_ #[t,t] ty #[v,.slice ao m c]).run P w=.ok v' w'∧w'.ownsRow 0 e size v' (n+m) (xs++news)∧w.grownBy w' v.ownBlock∧Same w v v'∧(v'=.slice none 0 0↔v=.slice none 0 0∧m=0)∧(v'.ownBlock=v.ownBlock∨w.grownBy w' none):=by
 obtain⟨hl,h1,hs⟩:=hsrc;by_cases hm:m=0
 ·subst hm;obtain rfl:news=[]:=List.eq_nil_of_length_eq_zero (by simpa using hl);refine⟨v,w,?_,by simpa using hown,⟨rfl,rfl,rfl,Nat.le_refl _,fun _ _ _=>rfl⟩,Or.inl rfl,by simp,Or.inl rfl⟩;cases ao with
  | none=>
   rcases hown.2 with ⟨rfl,rfl⟩|⟨g,cap,cur,rfl,_,_,hnc,_⟩
   ·simp[Builtin.append_,run_underlying ht,sizeOf,typeInfo,hi,Builtin.lenOf,Builtin.firstCells]
   ·simp[Builtin.append_,run_underlying ht,sizeOf,typeInfo,hi,Builtin.lenOf,Builtin.firstCells,hnc,storeCells]
  | some ad=>
   have hfc:=run_firstCells_some (P:=P) w i.size 0 ad 0 c [] (by simp) (fun j u h=>by simp at h);rcases hown.2 with ⟨rfl,rfl⟩|⟨g,cap,cur,rfl,_,_,hnc,_⟩
   ·simp[Builtin.append_,run_underlying ht,sizeOf,typeInfo,hi,Builtin.lenOf,hfc]
   ·simp[Builtin.append_,run_underlying ht,sizeOf,typeInfo,hi,Builtin.lenOf,hfc,hnc,storeCells]
 ·obtain⟨ad,rfl,hc⟩:=hs.resolve_left hm;obtain⟨v',w',hr,ho,hg,hv⟩:=run_append_own (P:=P) w 0 t ty e i z size bytes ht hi hz hsize hby hzs hsz v n xs hown ad m c news hl hc h1 h63 hbytes (Nat.zero_le _)
  suffices hh:Same w v v'∧(v'.ownBlock=v.ownBlock∨w.grownBy w' none) from⟨v',w',hr,ho,hg,hh.1,hv,hh.2⟩
  have far:∀v2 w2,(Builtin.append_ #[t,t] ty #[v,.slice (some ad) m c]).run P w=.ok v2 w2→w2.ownsRow w.heap.size e size v2 (n+m) (xs++news)→w.grownBy w2 none→Same w v v'∧(v'.ownBlock=v.ownBlock∨w.grownBy w' none):=by
   intro v2 w2 h2 o2 g2;rw[hr]at h2;injection h2 with e1 e2;subst e1;subst e2;rcases o2.2 with ⟨_,h0⟩|⟨g,_,_,rfl,hb,_⟩
   ·omega
   ·exact⟨Or.inr ⟨g,rfl,hb⟩,Or.inr g2⟩
  have ho2:=hown.2;rcases ho2 with ⟨rfl,rfl⟩|⟨g,cap,cur,rfl,_,hgc,hnc,hcm,hcs,htk⟩
  ·have hx:xs=[]:=List.eq_nil_of_length_eq_zero (by simpa using hown.1);subst hx;obtain⟨v2,w2,h2,o2,g2,_⟩:=run_append_own (P:=P) w w.heap.size t ty e i z size bytes ht hi hz hsize hby hzs hsz (.slice none 0 0) 0 [] (World.ownsRow_nil w _ e size) ad m c news hl hc h1 h63 hbytes (Nat.le_refl _);exact far v2 w2 h2 o2 g2
  ·by_cases hroom:n+m≤cap
   ·have h2:=run_append_room (P:=P) w t ty e i ht hi g n cap cur hgc ad m c news (by rw[hsize];exact hl) hc h1 hroom (by rw[hsize,hl,hcs,←Nat.add_mul];exact Nat.mul_le_mul_right _ hroom);rw[hr]at h2;injection h2 with e1 e2;subst e1;exact⟨Or.inl rfl,Or.inl rfl⟩
   ·obtain⟨v2,w2,h2,o2,g2⟩:=run_append_arg_grows (P:=P) w t ty e i z size bytes ht hi hz hsize hby hzs hsz ⟨g,0,none⟩ n cap xs hown.1 (hown.cells (g:=g) rfl) ad m c news hl hc (by omega) h63 hbytes;exact far v2 w2 h2 o2 g2
theorem run_any {P:Program}(w:World)(t ty e:TypeId)(i:TypeInfo)(z:Value)(size bytes:Nat)(ht:P.underlying t=some (.slice e))(hi:P.info? e=some i)(hz:i.zero=some z)
  (hsize:i.size=size) (hby:i.bytes=bytes) (hzs:z.cells.size=size) (hsz:0<size)
  (v:Value) (n:Nat) (xs:List Value) (hown:w.ownsRow 0 e size v n xs)
  (ao:Option Addr) (m c:Nat) (news:List Value) (hsrc:Src w size ao m news)
  (h63:n+m≤maxLen) (hbytes:(n+m)*bytes≤140737488355328):
  ∃v' w',(Builtin.append_ #[t,t] ty #[v,.slice ao m c]).run P w=.ok v' w'∧w'.ownsRow 0 e size v' (n+m) (xs++news)∧w.grownBy w' v.ownBlock∧Same w v v'∧(v'=.slice none 0 0↔v=.slice none 0 0∧m=0):=by
 obtain⟨v',w',h1,h2,h3,h4,h5,_⟩:=run_any2 (P:=P) w t ty e i z size bytes ht hi hz hsize hby hzs hsz v n xs hown ao m c news hsrc h63 hbytes;exact⟨v',w',h1,h2,h3,h4,h5⟩
theorem wpList_any {P:Program}(w:World){ops:Array Oper}{rest:List Oper}{o:Oper}{a:Act}{Q:Exit→Act→World→Prop}(hgd:o.guard=none)(s x:Operand)(t:TypeId)
  (ho:o.op=.call {callee:=.builtin .append,args:=#[s,x],argTypes:=#[t,t]})
  (e:TypeId) (i:TypeInfo) (z:Value) (size bytes:Nat) (ht:P.underlying t=some (.slice e)) (hi:P.info? e=some i) (hz:i.zero=some z)
  (hsize:i.size=size) (hby:i.bytes=bytes) (hzs:z.cells.size=size) (hsz:0<size)
  (v:Value) (n:Nat) (xs:List Value) (hs:a.eval s=v) (hown:w.ownsRow 0 e size v n xs)
  (ao:Option Addr) (m c:Nat) (news:List Value) (hx:a.eval x=.slice ao m c) (hsrc:Src w size ao m news)
  (h63:n+m≤maxLen) (hbytes:(n+m)*bytes≤140737488355328)
  (h:∀v' w',w'.ownsRow 0 e size v' (n+m) (xs++news)→w.grownBy w' v.ownBlock→Same w v v'→(v'=.slice none 0 0↔v=.slice none 0 0∧m=0)→wpList P ops Q rest (a.put o.dst v') w'):wpList P ops Q (o ::rest) a w:=by
 refine wpList_plain hgd fun K hK=>?_
 obtain⟨v',w',hr,h2,h3,h4,h5⟩:=run_any (P:=P) w t o.type e i z size bytes ht hi hz hsize hby hzs hsz v n xs hown ao m c news hsrc h63 hbytes;unfold Oper.wp;simp[execOp,ho,resolve,invoke,builtin,hs,hx,hr,Result.andThen]
 exact hK _ _ (h v' w' h2 h3 h4 h5)
theorem step_any {P:Program}{ops:Array Oper}{o:Oper}{a:Act}{w:World}{K:Act→World→Prop}{Q:Exit→Act→World→Prop}{E:Prop}
  (hg:o.guard=none) (s x:Operand) (t:TypeId) (ho:o.op=Op.call {callee:=Callee.builtin Builtin.append,args:=#[s,x],argTypes:=#[t,t]})
  (e:TypeId) (i:TypeInfo) (z:Value) (size bytes:Nat) (ht:P.underlying t=some (.slice e)) (hi:P.info? e=some i) (hz:i.zero=some z)
  (hsize:i.size=size) (hby:i.bytes=bytes) (hzs:z.cells.size=size) (hsz:0<size)
  (v:Value) (n:Nat) (xs:List Value) (hs:a.eval s=v) (hown:w.ownsRow 0 e size v n xs)
  (ao:Option Addr) (m c:Nat) (news:List Value) (hx:a.eval x=.slice ao m c) (hsrc:Src w size ao m news)
  (h63:n+m≤maxLen) (hbytes:(n+m)*bytes≤140737488355328)
  (hK:∀v' w',w'.ownsRow 0 e size v' (n+m) (xs++news)→w.grownBy w' v.ownBlock→Same w v v'→(v'=.slice none 0 0↔v=.slice none 0 0∧m=0)→K (a.put o.dst v') w'):
  if Region.wanted o (yielded ops a.tmps)=true then Oper.wp P o a w K Q else E:=by
 have hw:Region.wanted o (yielded ops a.tmps)=true:=by simp[Region.wanted,hg]
 rw[if_pos hw];obtain⟨v',w',hr,h2,h3,h4,h5⟩:=run_any (P:=P) w t o.type e i z size bytes ht hi hz hsize hby hzs hsz v n xs hown ao m c news hsrc h63 hbytes;unfold Oper.wp;simp[execOp,ho,resolve,invoke,builtin,hs,hx,hr,Result.andThen]
 exact hK v' w' h2 h3 h4 h5
theorem step_any2 {P:Program}{ops:Array Oper}{o:Oper}{a:Act}{w:World}{K:Act→World→Prop}{Q:Exit→Act→World→Prop}{E:Prop}
  (hg:o.guard=none) (s x:Operand) (t:TypeId) (ho:o.op=Op.call {callee:=Callee.builtin Builtin.append,args:=#[s,x],argTypes:=#[t,t]})
  (e:TypeId) (i:TypeInfo) (z:Value) (size bytes:Nat) (ht:P.underlying t=some (.slice e)) (hi:P.info? e=some i) (hz:i.zero=some z)
  (hsize:i.size=size) (hby:i.bytes=bytes) (hzs:z.cells.size=size) (hsz:0<size)
  (v:Value) (n:Nat) (xs:List Value) (hs:a.eval s=v) (hown:w.ownsRow 0 e size v n xs)
  (ao:Option Addr) (m c:Nat) (news:List Value) (hx:a.eval x=.slice ao m c) (hsrc:Src w size ao m news)
  (h63:n+m≤maxLen) (hbytes:(n+m)*bytes≤140737488355328)
  (hK:∀v' w',w'.ownsRow 0 e size v' (n+m) (xs++news)→w.grownBy w' v.ownBlock→Same w v v'→(v'.ownBlock=v.ownBlock∨w.grownBy w' none)→K (a.put o.dst v') w'):
  if Region.wanted o (yielded ops a.tmps)=true then Oper.wp P o a w K Q else E:=by
 have hw:Region.wanted o (yielded ops a.tmps)=true:=by simp[Region.wanted,hg]
 rw[if_pos hw];obtain⟨v',w',hr,h2,h3,h4,_,h5⟩:=run_any2 (P:=P) w t o.type e i z size bytes ht hi hz hsize hby hzs hsz v n xs hown ao m c news hsrc h63 hbytes;unfold Oper.wp;simp[execOp,ho,resolve,invoke,builtin,hs,hx,hr,Result.andThen]
 exact hK v' w' h2 h3 h4 h5
theorem weaken {w:World}{base n size:Nat}{e:TypeId}{v:Value}{xs:List Value}(h:w.ownsRow base e size v n xs):w.ownsRow 0 e size v n xs:=by
 refine⟨h.1,?_⟩;rcases h.2 with h|⟨g,cap,cur,h1,_,h2⟩
 ·exact Or.inl h
 ·exact Or.inr ⟨g,cap,cur,h1,Nat.zero_le _,h2⟩
theorem stronger {w w':World}{base n m size:Nat}{e:TypeId}{v v':Value}{xs ys:List Value}(h:w.ownsRow base e size v n xs)(h':w'.ownsRow 0 e size v' m ys)(hs:Same w v v')(hb:base≤w.heap.size):w'.ownsRow base e size v' m ys:=by
 refine⟨h'.1,?_⟩;rcases h'.2 with h2|⟨g,cap,cur,h1,_,h2⟩
 ·exact Or.inl h2
 ·refine Or.inr ⟨g,cap,cur,h1,?_,h2⟩;rw[h1]at hs;rcases hs with e1|⟨g',e1,hg⟩
  ·exact(h.lt g e1.symm).1
  ·simp[Value.ownBlock]at e1
   omega
theorem wpList_own {P:Program}(w:World){ops:Array Oper}{rest:List Oper}{o:Oper}{a:Act}{Q:Exit→Act→World→Prop}(hgd:o.guard=none)(s x:Operand)(t:TypeId)
  (ho:o.op=.call {callee:=.builtin .append,args:=#[s,x],argTypes:=#[t,t]})
  (base:Nat) (e:TypeId) (i:TypeInfo) (z:Value) (size bytes:Nat) (ht:P.underlying t=some (.slice e)) (hi:P.info? e=some i) (hz:i.zero=some z)
  (hsize:i.size=size) (hby:i.bytes=bytes) (hzs:z.cells.size=size) (hsz:0<size)
  (v:Value) (n:Nat) (xs:List Value) (hs:a.eval s=v) (hown:w.ownsRow base e size v n xs)
  (ao:Option Addr) (m c:Nat) (news:List Value) (hx:a.eval x=.slice ao m c) (hsrc:Src w size ao m news)
  (h63:n+m≤maxLen) (hbytes:(n+m)*bytes≤140737488355328) (hbase:base≤w.heap.size)
  (h:∀v' w',w'.ownsRow base e size v' (n+m) (xs++news)→w.grownBy w' v.ownBlock→(v'=.slice none 0 0↔v=.slice none 0 0∧m=0)→wpList P ops Q rest (a.put o.dst v') w'):wpList P ops Q (o ::rest) a w:=
 wpList_any w hgd s x t ho e i z size bytes ht hi hz hsize hby hzs hsz v n xs hs (weaken hown) ao m c news hx hsrc h63 hbytes fun v' w' h1 h2 h3 h4=>h v' w' (stronger hown h1 h3 hbase) h2 h4
end Go.Proofs.YtenegfafjjknoaaGreatDoor.Apn
namespace Go.Proofs.YtenegfafjjknoaaGreatDoor.Own
open Go.RowKit Mem Foot
theorem shape {w:World}{base size:Nat}{e:TypeId}{v:Value}{n:Nat}{xs:List Value}(h:w.ownsRow base e size v n xs):∃ao cv,v=.slice ao n cv:=by
 rcases h.2 with ⟨h1,h2⟩|⟨g,cap,cur,h1,_⟩
 ·exact⟨none,0,by rw[h1,h2]⟩
 ·exact⟨_,_,h1⟩
theorem block {w:World}{base size:Nat}{e:TypeId}{v:Value}{n:Nat}{xs:List Value}(h:w.ownsRow base e size v n xs):∀k,v.ownBlock=some k→base≤k:=fun k hk=>(h.lt k hk).1
theorem below_more {w wr w2:World}{base size:Nat}{e:TypeId}{o:Obj}{v:Value}{n:Nat}{xs:List Value}(hb:Below base w wr)(hB:base≤wr.heap.size)(ho:wr.ownsRow base e size v n xs)(hg:(wr.alloc o).grownBy w2 v.ownBlock):Below base w w2:=
 (hb.alloc hB o).grown hg (by simp;omega) (block ho)
theorem below_grown {w wr w2:World}{base size:Nat}{e:TypeId}{v:Value}{n:Nat}{xs:List Value}(hb:Below base w wr)(hB:base≤wr.heap.size)(ho:wr.ownsRow base e size v n xs)(hg:wr.grownBy w2 v.ownBlock):Below base w w2:=
 hb.grown hg hB (block ho)
end Go.Proofs.YtenegfafjjknoaaGreatDoor.Own
namespace Go.Proofs.YtenegfafjjknoaaGreatDoor.Bkw
open Go.RowKit Bnd
theorem nextBound (b:Int)(w:World)(h1:0≤b)(h2:b≤1000000000):
  Calls Tryz.prog 340 #[.int .i64 b] w fun e w'=>e=.returned (.int .i64 (nxt b))∧w=w':=by
 go_enter Tryz.func340,Tryz.ntmps340
 go_wp2
 ·have hm:b+1=nxt b:=by
   unfold nxt;omega
  go_ret
  exact⟨congrArg (fun z=>Ending.returned (.int .i64 z)) hm,rfl⟩
 ·have hm:51*b / 49=nxt b:=by
   unfold nxt;omega
  go_ret
  exact⟨congrArg (fun z=>Ending.returned (.int .i64 z)) hm,rfl⟩
theorem standsFor (l h:Int)(w:World)(h1:0≤l)(h2:l≤1000000000)(h3:1≤h)(h4:h≤2000000000):
  Calls Tryz.prog 341 #[.int .i64 l,.int .i64 h] w fun e w'=>e=.returned (.int .i64 (stand l h))∧w=w':=by
 obtain⟨r1,r2⟩:=stand_room h1 h2 (by omega:0≤h) h4;go_enter Tryz.func341,Tryz.ntmps341
 go_wp2
 go_ret
 exact⟨rfl,rfl⟩
theorem skBucket (v:Int)(w:World):
  Calls Tryz.prog 327 #[.int .i64 v] w fun e w'=>(∃n s,e=.returned (.tuple #[.int .i64 n,.int .i64 s])∧IsB v n s)∧w=w':=by
 by_cases c0:v<0
 ·go_enter Tryz.func327,Tryz.ntmps327
  go_wp2
  go_ret2
  exact⟨⟨_,_,rfl,Or.inl ⟨Or.inl c0,rfl,rfl⟩⟩,rfl⟩
 ·by_cases c1:1000000000<v
  ·go_enter Tryz.func327,Tryz.ntmps327
   go_wp2
   go_ret2
   exact⟨⟨_,_,rfl,Or.inl ⟨Or.inr c1,rfl,rfl⟩⟩,rfl⟩
  ·go_enter Tryz.func327,Tryz.ntmps327
   go_wp2
   go_loop [4,5,6] (fun n lo hi=>∃(l h:Int) (k:Nat),lo=.int .i64 l∧hi=.int .i64 h∧n=.int .i64 k∧0≤l∧l≤v∧l<h∧h≤2000000000∧(k:Int)≤l∧Hid (l=bnd k∧h=bnd (k+1)))
    (fun _ _ hi=>(v+1 - intOf hi).toNat)
   case atStart=>exact⟨0,1,0,rfl,rfl,rfl,by omega,by omega,by omega,by omega,by omega,⟨rfl,rfl⟩⟩
   case round=>
    obtain⟨l,h,k,rfl,rfl,rfl,p1,p2,p3,p4,p5,HD⟩:=hrel;have r1:l≤1000000000:=by omega
    go_wp2_with (first
     | (go_at_call 340;refine(nextBound h _ (by omega) (by omega)).mono ?_;rintro e w' ⟨rfl,rfl⟩)
     | (go_at_call 341;refine(standsFor l h _ (by omega) (by omega) (by omega) (by omega)).mono ?_;rintro e w' ⟨rfl,rfl⟩))
    ·have t1:h≤v:=by assumption
     have hn:=nxt_gt h;have hr:=nxt_room (b:=h) (by omega) (by omega);go_round
     case rel=>exact⟨h,nxt h,k+1,rfl,rfl,by go_num,by omega,t1,by omega,by omega,by omega,⟨HD.out.2,by rw[HD.out.2];rfl⟩⟩
     case measure=>simp only[intOf];omega
    ·have t1:v<h:=by assumption
     go_ret2
     refine⟨⟨_,_,rfl,Or.inr ⟨by omega,by omega,k,rfl,?_,?_,?_⟩⟩,?_⟩
     ·rw[←HD.out.1];exact p2
     ·rw[←HD.out.2];exact t1
     ·rw[←HD.out.1,←HD.out.2]
     ·rfl
end Go.Proofs.YtenegfafjjknoaaGreatDoor.Bkw
namespace Go.Proofs.YtenegfafjjknoaaGreatDoor.Hk
open Go.RowKit Go.Maps Mem Foot Im Wm
def cv (c:Cel):Value:=.agg #[.int .i64 c.stands,.int .i64 c.weight]
def okC:Value→Bool
 | .agg cs=>match cs.toList with
  | [.int .i64 _,.int .i64 _]=>true
  | _=>false
 | _=>false
def zC:Value:=.agg #[.int .i64 0,.int .i64 0]
def Cells (w:World)(b:Nat)(l:List (Int×Cel)):Prop:=Owns Tryz.prog 3 okC iLit cv w b l
theorem zeroC (w:World):(zeroValue 370).run Tryz.prog w=.ok zC w:=Tryz.zeroValue370 w
structure SkAt (w:World)(S b:Nat)(mx:Nat)(l:List (Int×Cel))(folded:Bool):Prop where
 head:Sits w S 318 #[.int .i64 mx,.map (some b),.bool folded]
 map:Cells w b l
theorem grown_off' {F:List Nat}{w w':World}{b:Nat}(h:w.grownBy w' (some b))(hb:b∈F):Off F w w':=
 ⟨h.os,h.tape,h.output,h.size,fun k hk hF=>h.block k hk (fun e=>hF (by cases e;exact hb))⟩
theorem Cells.off {F:List Nat}{w w':World}{b:Nat}{l:List (Int×Cel)}(h:Cells w b l)(ho:Off F w w')(hb:b∉F):Cells w' b l:=Owns.at h (ho.block b h.below hb)
theorem SkAt.off {F:List Nat}{w w':World}{S b mx:Nat}{l:List (Int×Cel)}{f:Bool}(h:SkAt w S b mx l f)(ho:Off F w w')(hS:S∉F)(hb:b∉F):SkAt w' S b mx l f:=
 ⟨Foot.Sits.off h.head ho hS,h.map.off ho hb⟩
theorem skNew (mx:Nat)(w:World):Calls Tryz.prog 326 #[.int .i64 mx] w fun e w'=>e=.returned (.pointer (some ⟨w.heap.size+1,0,none⟩))∧SkAt w' (w.heap.size+1) w.heap.size mx [] false∧Below w.heap.size w w':=by
 have hmm:=@run_makeMap Tryz.prog;go_enter Tryz.func326,Tryz.ntmps326
 go_wp2_with fail
 go_ret
 refine⟨by simp,⟨?_,?_⟩,(below_new _).alloc (by simp) _⟩
 ·have:=Sits.new (w.alloc (.map #[] 0)) 318 #[.int .i64 mx,.map (some w.heap.size),.bool false];simpa using this
 ·exact Owns.at (made_owns w) (Below.heap_alloc _ _ _ (by simp))
end Go.Proofs.YtenegfafjjknoaaGreatDoor.Hk
namespace Go.Proofs.YtenegfafjjknoaaGreatDoor.Hk
open Go.RowKit Go.Maps Mem Foot Im Wm
theorem bounded (n:Int)(w:World):Calls Tryz.prog 249 #[.int .i64 n] w fun e w'=>e=.returned (.int .i64 (Wm.bnd n))∧w'=w:=by
 by_cases h1:n < -1000000000000000
 ·go_enter Tryz.func249,Tryz.ntmps249
  go_wp2
  go_ret
  refine⟨congrArg (fun z=>Ending.returned (.int .i64 z)) ?_,rfl⟩;simp only[Wm.bnd,top];omega
 ·by_cases h2:n≤1000000000000000
  ·go_enter Tryz.func249,Tryz.ntmps249
   go_wp2
   go_ret
   refine⟨congrArg (fun z=>Ending.returned (.int .i64 z)) ?_,rfl⟩;simp only[Wm.bnd,top];omega
  ·go_enter Tryz.func249,Tryz.ntmps249
   go_wp2
   go_ret
   refine⟨congrArg (fun z=>Ending.returned (.int .i64 z)) ?_,rfl⟩;simp only[Wm.bnd,top];omega
theorem folded (S b mx:Nat)(l:List (Int×Cel))(f:Bool)(w:World)(h:SkAt w S b mx l f):Calls Tryz.prog 193 #[.pointer (some ⟨S,0,none⟩)] w fun e w'=>e=.returned (.bool f)∧w'=w:=by
 have c2:=h.head.cell 2 _ rfl;go_enter Tryz.func193,Tryz.ntmps193
 go_wp2_with fail
 go_ret
 exact⟨rfl,rfl⟩
def okU:Value→Bool
 | .agg cs=>cs.size==0
 | _=>false
def uv (_:Unit):Value:=.agg #[]
def Words (w:World)(b:Nat)(l:List (Bs×Unit)):Prop:=Owns Tryz.prog 9 okU sLit uv w b l
theorem zeroU (w:World):(zeroValue 363).run Tryz.prog w=.ok (.agg #[]) w:=Tryz.zeroValue363 w
structure WoAt (w:World)(S b:Nat)(mx:Nat)(l:List (Bs×Unit)):Prop where
 head:Sits w S 258 #[.int .i64 mx,.map (some b)]
 map:Words w b l
theorem WoAt.off {F:List Nat}{w w':World}{S b mx:Nat}{l:List (Bs×Unit)}(h:WoAt w S b mx l)(ho:Off F w w')(hS:S∉F)(hb:b∉F):WoAt w' S b mx l:=
 ⟨Foot.Sits.off h.head ho hS,Owns.at h.map (ho.block b h.map.below hb)⟩
theorem woNew (mx:Nat)(w:World):Calls Tryz.prog 295 #[.int .i64 mx] w fun e w'=>e=.returned (.pointer (some ⟨w.heap.size+1,0,none⟩))∧WoAt w' (w.heap.size+1) w.heap.size mx []∧Below w.heap.size w w':=by
 have hmm:=@run_makeMap Tryz.prog;go_enter Tryz.func295,Tryz.ntmps295
 go_wp2_with fail
 go_ret
 refine⟨by simp,⟨?_,?_⟩,(below_new _).alloc (by simp) _⟩
 ·have:=Sits.new (w.alloc (.map #[] 0)) 258 #[.int .i64 mx,.map (some w.heap.size)];simpa using this
 ·exact Owns.at (made_owns w) (Below.heap_alloc _ _ _ (by simp))
theorem woLen (S b mx:Nat)(l:List (Bs×Unit))(w:World)(h:WoAt w S b mx l):Calls Tryz.prog 148 #[.pointer (some ⟨S,0,none⟩)] w fun e w'=>e=.returned (.int .i64 l.length)∧w'=w:=by
 have c1:=h.head.cell 1 _ rfl;have hl:=len_run h.map Tryz.underlying256;have hl1:=fun ty=>hl ty w rfl
 clear hl;go_enter Tryz.func148,Tryz.ntmps148
 go_wp2_with fail
 go_ret
 exact⟨rfl,rfl⟩
end Go.Proofs.YtenegfafjjknoaaGreatDoor.Hk
namespace Go.Proofs.YtenegfafjjknoaaGreatDoor.Hk
open Go.RowKit Go.Maps Mem Foot Im Wm
theorem WoAt.keep {w w':World}{S b mx:Nat}{l:List (Bs×Unit)}(h:WoAt w S b mx l)(hb:Below w.heap.size w w'):WoAt w' S b mx l:=
 h.off (F:=[]) (Off.of_below hb) (by simp) (by simp)
def wadd (mx:Nat)(x:Bs)(l:List (Bs×Unit)):List (Bs×Unit)×Bool:=if has x l then (l,true) else if mx≤l.length then (l,false) else (put sLt x () l,true)
theorem map_sits {w:World}{b k:Nat}{t:TypeId}{cs:Array Value}{κ β:Type}{K:TypeId}{ok:Value→Bool}{lit:κ→Lit}{f:β→Value}{l:List (κ×β)}(h:Owns Tryz.prog K ok lit f w b l)(hs:Sits w k t cs):k≠b:=by
 intro e;subst e;obtain⟨es,clock,h1,_⟩:=h;unfold Sits at hs;rw[h1]at hs;cases hs
set_option maxRecDepth 10000 in
theorem woAdd (S b mx:Nat)(l:List (Bs×Unit))(s:ByteArray)(w:World)(h:WoAt w S b mx l)(hl:l.length<1000)(hsz:s.size≤1000):Calls Tryz.prog 247 #[.pointer (some ⟨S,0,none⟩),.string s] w fun e w'=>
  e=.returned (.bool (wadd mx (Bytes.B s) l).2)∧Off [b] w w'∧WoAt w' S b mx (wadd mx (Bytes.B s) l).1:=by
 have hkey:keyOf Tryz.prog 9 (.string s)=some (sLit (Bytes.B s)):=Go.WideMaps.keyOf_string_mk Tryz.underlying9 (by unfold maxLen;omega);have hall:=look_ok_run h.map (string_keyed Tryz.underlying9) Tryz.underlying256 zeroU rfl sLit_same hkey;have HW:=hide h;have e0:Im.elemOf uv (.agg #[]) (Bytes.B s) l=.agg #[]:=by
  unfold Im.elemOf;split<;>rfl
 rw[e0]at hall;have hl1:=hall w rfl;have c1:=h.head.cell 1 _ rfl;cases hh:has (Bytes.B s) l with
 | true=>
  rw[hh]at hl1;have e1:wadd mx (Bytes.B s) l=(l,true):=by rw[wadd,if_pos hh]
  rw[e1];clear hall h;go_enter Tryz.func247,Tryz.ntmps247
  go_wp2_with fail
  go_ret
  have hb:Below w.heap.size w (w.alloc (.cells #[] 363)):=below_new _;exact⟨rfl,Off.of_below hb,HW.out.keep hb⟩
 | false=>
  rw[hh]at hl1;have hb:Below w.heap.size w (w.alloc (.cells #[] 363)):=below_new _;have HB:=hide hb;have HW1:=hide (h.keep hb);have HH:=hide hh;clear hall h hh hb;go_enter Tryz.func247,Tryz.ntmps247
  go_wp2_with fail
  clear hl1 c1;generalize w.alloc (.cells #[] 363)=W1 at *;have c0:=HW1.out.head.cell 0 _ rfl;have c1:=HW1.out.head.cell 1 _ rfl;have hlen:=fun ty=>len_run HW1.out.map Tryz.underlying256 ty W1.drew rfl
  by_cases hm:mx≤l.length
  ·have hz:(mx:Int)≤(l.length:Int):=by omega
   have e1:wadd mx (Bytes.B s) l=(l,false):=by rw[wadd,HH.out,if_neg (by simp),if_pos hm]
   have HE:=hide e1;clear e1;go_region
   all_goals
    go_wp2_with fail
    go_ret
    rw[HE.out];exact⟨rfl,(Off.of_below HB.out).drewN 1,HW1.out.keep (below_drewN' (n:=1) (Below.refl _ _))⟩
  ·have hz:(l.length:Int)<(mx:Int):=by omega
   have e1:wadd mx (Bytes.B s) l=(put sLt (Bytes.B s) () l,true):=by rw[wadd,HH.out,if_neg (by simp),if_neg hm]
   have HE:=hide e1;clear e1;go_region
   all_goals
    have HW2:=hide (show WoAt (W1.drew) S b mx l from HW1.out.keep (below_drewN' (n:=1) (Below.refl _ _)));have HB2:=hide (show Off [b] w (W1.drew) from(Off.of_below HB.out).drewN 1);clear c0 c1 hlen HB HW1;generalize W1.drew=W2 at *;have c0:=HW2.out.head.cell 0 _ rfl;have c1:=HW2.out.head.cell 1 _ rfl;obtain⟨w4,hu,ho4,hg4⟩:=upd_run (lt:=sLt) HW2.out.map (string_keyed Tryz.underlying9) Tryz.underlying256 sLit_same sLit_before (by unfold maxLen;omega) hkey () rfl;simp only[uv]at hu;have HU:=hide ho4;have HG:=hide hg4;clear ho4 hg4;go_wp2_with fail
    go_ret
    have ho:=grown_off' (F:=[b]) HG.out (by simp);rw[HE.out];refine⟨rfl,HB2.out.trans ho,Foot.Sits.off HW2.out.head ho ?_,HU.out⟩;simpa using map_sits HW2.out.map HW2.out.head
end Go.Proofs.YtenegfafjjknoaaGreatDoor.Hk
