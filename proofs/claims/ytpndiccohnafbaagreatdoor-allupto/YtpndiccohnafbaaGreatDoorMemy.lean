/- A struct of the call's own in memory: its block, written and read; all else stays. -/
import Derived.Test.YtpndiccohnafbaaGreatDoorProg
import Derived.WalkKit
import Derived.Below
import Derived.Laws.Rows
import Derived.Deep.Draws
import Derived.Handy
open Option renaming none->Y
open Int renaming lt_of_mul_lt_mul_right->ca,mul_nonneg->Ua
open Go renaming World->N,Value->C
namespace Go.Proofs.YtpndiccohnafbaaGreatDoor
namespace Mem
open Go.RowKit
def af (w:N)(b:Nat)(t:TypeId)(a:Array C):Prop:=w.heap[b]? = some (.cells a t (0,0))
variable {a c:N}{d:Nat}{e:Array C}{f:TypeId}
theorem af.lt (h:af a d f e):d<a.heap.size:=by grind [af]
theorem af.frozen (h:af a d f e)(j:Nat):a.frozen? ⟨d,j,Y⟩=false:=by grind [af,World.frozen?]
theorem af.cell (h:af a d f e)(j:Nat)(v:C)(b:e[j]? = some v):a.cell? ⟨d,j,Y⟩=some v:=by grind [af,World.cell?]
theorem af.Ri (h:af a d f e)(j:Nat){v:C}(b:e[j]? = some v:=by exact rfl):a.cell? ⟨d,j,Y⟩=some v:=h.cell j v b
theorem af.set {t:TypeId}{cs:Array C}(h:af a d t cs)(j:Nat)(v:C):af (a.setCell ⟨d,j,Y⟩ v) d t (cs.setIfInBounds j v):=by grind [heap_setCell_same,af]
theorem af.drewN (h:af a d f e)(n:Nat):af (a.drewN n) d f e:=h
theorem af.below {b B:Nat}   (h:af a b f e)(g:Below B a c)(d:b<B):af c b f e:=by
 unfold af at h ⊢;rw[g.block b d,h]
structure bS (b:Nat)(w w':N):Prop where
 os:w'.os=w.os
 tape:w'.tape=w.tape
 output:w'.output=w.output
 size:w.heap.size<=w'.heap.size
 block:∀k,k<w.heap.size->k≠b->w'.heap[k]? = w.heap[k]?
theorem bS.refl (b:Nat)(w:N):bS b w w:=⟨rfl,rfl,rfl,Nat.le_refl _,λ_ _ _=>rfl⟩
theorem bS.ag (h:Below a.heap.size a c):bS d a c:=⟨h.os,h.tape,h.output,h.size,λk b _=>h.block k b⟩
theorem bS.trans { z:N}(h:bS d a c)(k:bS d c z):bS d a z:=
 ⟨k.os.trans h.os,k.tape.trans h.tape,k.output.trans h.output,Nat.le_trans h.size k.size,λi e b=>(k.block i (Nat.lt_of_lt_of_le e h.size) b).trans (h.block i e b)⟩
theorem bS.drewN (h:bS d a c)(n:Nat):bS d a (c.drewN n):=⟨h.os,h.tape,h.output,h.size,h.block⟩
theorem bS.set (h:bS d a c)(j:Nat)(v:C):bS d a (c.setCell ⟨d,j,Y⟩ v):=
 h.trans ⟨rfl,rfl,rfl,by simp,λk _ b=>Below.heap_setCell _ _ _ _ b⟩
theorem bS.below {b B:Nat}  (h:bS b a c)(d:B<=b)(f:B<=a.heap.size):Below B a c:=
 ⟨h.os,h.tape,h.output,h.size,λk e=>h.block k (by omega) (by omega)⟩
theorem af.but {w a:N}{b c:Nat}   (h:af w c f e)(d:bS b w a)(g:c≠b):af a c f e:=by
 have i:=h.lt;unfold af at h ⊢;rw[d.block c i g,h]
theorem af.new (w:N)(t:TypeId)(a:Array C):af (w.alloc (.cells a t)) w.heap.size t a:=by
 unfold af;show (w.heap.push _)[w.heap.size]? = _;simp
theorem af.alloc (h:af a d f e)(o:Obj):af (a.alloc o) d f e:=by grind [Below.heap_alloc,af]
theorem bS.alloc (h:bS d a c)(o:Obj):bS d a (c.alloc o):=
 h.trans ⟨rfl,rfl,rfl,by simp,λk b _=>Below.heap_alloc _ _ _ b⟩
theorem lj (w:N){c:Nat}(i j:Nat)(v:C)(h:d≠c):(w.setCell ⟨d,i,Y⟩ v).cell? ⟨c,j,Y⟩=w.cell? ⟨c,j,Y⟩:=
 World.cell?_of_block (w:=w) (Below.heap_setCell _ _ _ _ (λe=>h e.symm))
theorem mK {B b:Nat}  (h:Below B a c)(d:B<=b)(e f g i j k l:C):
  Below B a (((((((c.setCell ⟨b,0,Y⟩ e).setCell ⟨b,1,Y⟩ f).setCell ⟨b,2,Y⟩ g).setCell ⟨b,3,Y⟩ i).setCell ⟨b,4,Y⟩ j).setCell ⟨b,5,Y⟩ k).setCell ⟨b,6,Y⟩ l):=
 ((((((h.setCell d _).setCell d _).setCell d _).setCell d _).setCell d _).setCell d _).setCell d _
theorem ax {B n:Nat}  (h:Below B a c):Below B a (c.drewN n):=⟨h.os,h.tape,h.output,h.size,h.block⟩
theorem ai {w:N}(o:Obj):Below w.heap.size w (w.alloc o):=(Below.refl _ _).alloc (Nat.le_refl _) o
end Mem
namespace mH
def vZ (b:Int):Int:=max (51*b / 49) (b+1)
def dW:Nat->Int
 | 0=>0
 | n+1=>vZ (dW n)
def yF (l h:Int):Int:=2*l*h / (l+h)
def Kh (v n s:Int):Prop:=
 ((v<0\/1000000000<v)/\n = -1/\s=0)\/
 (0<=v/\v<=1000000000/\∃k:Nat,n=(k:Int)/\dW k<=v/\v<dW (k+1)/\s=yF (dW k) (dW (k+1)))
theorem Hx (b:Int):b+1<=vZ b:=by
 unfold vZ;omega
theorem qR (k:Nat):dW k+1<=dW (k+1):=Hx _
theorem zy (k:Nat):(k:Int)<=dW k:=by
 induction k with
 | zero=>simp[dW]
 | succ k a=>
  have:=qR k;omega
theorem zA (k:Nat):0<=dW k:=by
 have:=zy k;omega
variable {a c d e:Int}
theorem wB {j k:Nat}(h:j<=k):dW j<=dW k:=by
 induction h with
 | refl=>exact Int.le_refl _
 | step _ a=>
  rename_i m _;have:dW m+1<=dW m.succ:=qR m;omega
theorem Ku {j k:Nat}(d:dW j<=a)(b:a<dW (j+1))(e:dW k<=a)(c:a<dW (k+1)):j=k:=by
 rcases Nat.lt_trichotomy j k with h|h|h
 .have:=wB (j:=j+1) (k:=k) h;omega
 .exact h
 have:=wB (j:=k+1) (k:=j) h;omega
theorem Le {   t:Int}(h:Kh a c d)(g:Kh a e t):c=e/\d=t:=by
 rcases h with ⟨f,rfl,rfl⟩|⟨f,n,k,rfl,o,p,rfl⟩<;>rcases g with ⟨b,rfl,rfl⟩|⟨b,i,j,rfl,l,m,rfl⟩
 .exact⟨rfl,rfl⟩
 .omega
 .omega
 grind [Ku]
theorem Jo (d:0<=a)(b:a<c):yF a c*(a+c)<=2*a*c:=
 Int.ediv_mul_le _ (by omega)
theorem Jm (e:0<=a)(d:a<c):2*a*c<(yF a c+1)*(a+c):=by
 have:=Int.lt_ediv_add_one_mul_self (2*a*c) (b:=a+c) (by omega);exact this
theorem vJ (d:0<=a)(b:a<c):0<=yF a c:=
 Int.ediv_nonneg (Ua (by omega) (by omega)) (by omega)
theorem Dp (k:Nat):dW (k+1)=dW k+1\/49*dW (k+1)<=51*dW k:=by grind [vZ,dW]
theorem Ec (g:0<=a)(m:a<=d)(i:d<c)(l:49*c<=51*a)(j:e*(a+c)<=2*a*c)(k:2*a*c<(e+1)*(a+c)):
  50*(e - d)<=d+50/\50*(d - e)<=d+50:=by
 have h:0<a+c:=by omega
 constructor
 ·-- 50 e<=51 a,since 100 a c<=51 a (a+c)
  have f:50*e<=51*a:=by
   refine Int.le_of_mul_le_mul_right (a:=a+c) ?_ h;have b:0<=a*(51*a - 49*c):=Ua g (by omega);grind
  omega
 -- 49 c<=50 (e+1),since 49 c (a+c)<=100 a c
 have f:49*c<50*(e+1):=by
  refine ca (a:=a+c) ?_ (by omega);have b:0<=c*(51*a - 49*c):=Ua (by omega) (by omega);grind
 omega
theorem Eb (h:0<=a)(f:c*(a+(a+1))<=2*a*(a+1))(g:2*a*(a+1)<(c+1)*(a+(a+1))):c=a:=by
 have i:0<a+(a+1):=by omega
 have e:2*a*(a+1)=a*(a+(a+1))+a:=by grind
 have d:c<a+1:=by
  refine ca (a:=a+(a+1)) ?_ (by omega);grind
 have b:a<c+1:=by
  refine ca (a:=a+(a+1)) ?_ (by omega);omega
 omega
theorem Sp (h:Kh a c d)(o:0<=a)(q:a<=1000000000):0<=c/\c<=a/\50*(d - a)<=a+50/\50*(a - d)<=a+50/\0<=d/\d<=2000000000:=by
 rcases h with ⟨l,rfl,rfl⟩|⟨l,p,k,rfl,m,f,rfl⟩
 .omega
 have g:=zy k;have b:=zA k;have r:=qR k;have i:=Jo b (by omega:dW k<dW (k+1));have j:=Jm b (by omega:dW k<dW (k+1));have n:=vJ b (by omega:dW k<dW (k+1));rcases Dp k with e|e
 .rw[e]at i j n f ⊢;grind [Eb]
 have d:=Ec b m f e i j;omega
theorem sG (g:0<=a)(e:a<=1000000000)(d:0<=c)(b:c<=2000000000):0<=2*a*c/\2*a*c<=4000000000000000000:=by
 constructor
 .exact Ua (by omega) d
 have f:2*a*c<=2000000000*2000000000:=Int.mul_le_mul (by omega) b d (by omega);omega
theorem Hy {b:Int}(a:0<=b)(c:b<=1000000000):vZ b<=2000000000:=by
 unfold vZ;omega
end mH
namespace Foot
open Go.RowKit Mem
variable {a b:N}{c:List Nat}{d:Nat}
theorem aa {p:Prop}(h:p):Hid p:=h
structure an (F:List Nat)(w w':N):Prop where
 os:w'.os=w.os
 tape:w'.tape=w.tape
 output:w'.output=w.output
 size:w.heap.size<=w'.heap.size
 block:∀k,k<w.heap.size->k∉F->w'.heap[k]? = w.heap[k]?
theorem an.refl (F:List Nat)(w:N):an F w w:=⟨rfl,rfl,rfl,Nat.le_refl _,λ_ _ _=>rfl⟩
theorem an.ag {F:List Nat}  (h:Below a.heap.size a b):an F a b:=⟨h.os,h.tape,h.output,h.size,λk c _=>h.block k c⟩
theorem an.cV (h:bS d a b)(g:d∈c):an c a b:=⟨h.os,h.tape,h.output,h.size,λk i f=>h.block k i (λe=>f (e▸g))⟩
theorem an.mono {F G:List Nat}  (h:an F a b)(f:∀k,k<a.heap.size->k∈F->k∈G):an G a b:=
 ⟨h.os,h.tape,h.output,h.size,λk c d=>h.block k c (λe=>d (f k c e))⟩
theorem an.trans { z:N}(h:an c a b)(k:an c b z):an c a z:=
 ⟨k.os.trans h.os,k.tape.trans h.tape,k.output.trans h.output,Nat.le_trans h.size k.size,λi e d=>(k.block i (Nat.lt_of_lt_of_le e h.size) d).trans (h.block i e d)⟩
theorem an.drewN (h:an c a b)(n:Nat):an c a (b.drewN n):=⟨h.os,h.tape,h.output,h.size,h.block⟩
theorem an.set {F:List Nat}  (h:an F a b)  (c:d∈F)(j:Nat)(v:C):an F a (b.setCell ⟨d,j,Y⟩ v):=
 h.trans (an.cV ((bS.refl d b).set j v) c)
theorem an.alloc (h:an c a b)(o:Obj):an c a (b.alloc o):=
 h.trans (an.ag (ai o))
theorem af.off {w b:N}  {F:List Nat}{t:TypeId}{a:Array C}(h:af w d t a)(f:an F w b)(c:d∉F):af b d t a:=by
 have e:=h.lt;unfold af at h ⊢;rw[f.block d e c,h]
theorem an.below {B:Nat}   (h:an c a b)(d:∀k∈c,B<=k)(g:B<=a.heap.size):Below B a b:=
 ⟨h.os,h.tape,h.output,h.size,λk f=>h.block k (by omega) (λe=>by grind)⟩
end Foot
end Go.Proofs.YtpndiccohnafbaaGreatDoor
