/- The window that some datagrams come to: all of it is new. -/
import Derived.Test.YtpndiccohnafbaaGreatDoorWzy
set_option maxHeartbeats 9000000
open Go.Value renaming int->I
open Go.IntKind renaming i64->O
namespace Go.Proofs.YtpndiccohnafbaaGreatDoor.Kr
open Go.RowKit Go.Maps Mem Foot Im Wm Hk Hb Hi Hn Plainw Cq Hs Sh Readw Wi Go.Sort Go.Shelf
set_option maxRecDepth 10000 in
theorem Mp (c:Fin 6->Int)(X:oz c)(v:Value)(b:List Bs)(w:World)(hr:Row w v b)(HZ:∀d∈b,d.length<=140737488355328)(hn:jE b<=1000000000000)(hl:b.length<=1000000000000):
  Calls Tryz.prog 53 #[cfg c,v] w λe w'=>∃(p:WI) (y t:Nat) (E:List fh),e=.returned (.pointer (some ⟨p.P,0,none⟩))/\dP w' p (bP c) y t E/\cE y t E=oy (bP c) b/\(∀x∈bj p E,w.heap.size<=x)/\Below w.heap.size w w':=by
 obtain⟨a,a6,rfl,a4,D⟩:=hr;have W:=af.new w 52 #[I O (c 0),I O (c 1),I O (c 2),I O (c 3),I O (c 4),I O (c 5)];have m:=aa (ai (w:=w) (.cells #[I O (c 0),I O (c 1),I O (c 2),I O (c 3),I O (c 4),I O (c 5)] 52));have HC:=aa X;change Hid _ at D HZ;have A:=aa (Qw c X);clear X;unfold cfg at A ⊢;go_in;go_wp2_with fail;generalize w.alloc (.cells #[I O (c 0),I O (c 1),I O (c 2),I O (c 3),I O (c 4),I O (c 5)] 52)=w1 at *;generalize V:w.heap.size=B at W ⊢;clear V;obtain⟨c0,c1,c2,c3,c4,c5⟩:=aR W;clear W;go_wp2_with fail;refine(A.out w1).mono ?_;rintro e w2 ⟨p,rfl,a3,G,o,J⟩;change Hid _ at G;have a5:=aa o;have f:Hid (Below w.heap.size w w2):=m.trans (J.mono m.size);have n:=aa (show ∀x∈bj p [],w.heap.size<=x from λx j=>Nat.le_trans m.size (o x j));clear a3 o J c0 c1 c2 c3 c4 c5;go_wp2_with fail;go_loopw [12] (λi wr=>∃k:Nat,i=I O (k:Int)/\k<=b.length/\Hid (ji w2 wr p (bP c) [] ((b.take k).foldl (ju (bP c)) gC))) (λi _=>b.length - (intOf i).toNat)
 case atStart=>exact⟨0,rfl,by omega,ji.refl G⟩
 case round=>
  obtain⟨k,rfl,hk,HI⟩:=hrel;by_cases a1:k<b.length
  .have a2:(k:Int)<(b.length:Int):=by omega
   obtain⟨x,j⟩:∃x,b[k]? = some x:=⟨_,List.getElem?_eq_getElem a1⟩;obtain⟨g,S,rfl,K,cg⟩:=D.out k x j;obtain⟨y,t,E,r,l,s,u⟩:=HI.out;have T:Hid (Below w.heap.size w wr):=iC f s n f.size;have U:wr.cell? ⟨g,S+k,none⟩=some (.string ⟨x.toArray⟩):=by
    rw[T.cell (p:=⟨g,S+k,none⟩) K];exact cg
   have F:=aa (show b.take (k+1)=b.take k++[x] by rw[List.take_add_one,j];rfl);have q:=mY HC.lim.b0 (b.take k) (eX.zero (bP c));rw[<-l,Nat.zero_add]at q;have M:jE (b.take k)+(Lib.countByte x 10+1)<=1000000000000:=by
    have h1:=lK (k+1) b;rw[F.out,iX]at h1;simp only[jE]at h1;omega
   have R:=yQ p (bP c) (jE (b.take k)) y t E ⟨x.toArray⟩ wr r q HC.lim (by
    rw[Bytes.aj];exact HZ.out x (List.mem_of_getElem? j)) M
   have HK:=aa (And.intro r (And.intro l (And.intro s u)));clear j cg q r l s u K M;generalize H:(⟨x.toArray⟩:ByteArray)=xb at *;change Hid _ at H;go_wp2_with fail;refine R.mono ?_;clear R;rintro e w4 ⟨rfl,z,_⟩;change Hid _ at z;clear U;go_wp2_with fail;go_roundw
   case rel=>
    obtain⟨r,l,s,u⟩:=HK.out;refine⟨k+1,by go_num,by omega,?_⟩;have h5:=ji.more r s u z;rw[l,<-H.out]at h5;show ji _ _ _ _ _ _;rw[F.out,List.foldl_append];exact h5
   case measure=>simp only[intOf];omega
  have a2:¬(k:Int)<(b.length:Int):=by omega
  have a0:k=b.length:=by omega
  subst a0;go_wp2_with fail;go_ret;obtain⟨y,t,E,r,l,s,u⟩:=HI.out;rw[List.take_length]at l;exact⟨p,rfl,y,t,E,r,l,λx j=>(u x j).elim (n.out x) λh=>Nat.le_trans f.size h,iC f s n f.size⟩
end Go.Proofs.YtpndiccohnafbaaGreatDoor.Kr
