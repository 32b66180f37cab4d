/- The walk of the program's tags. -/
import Derived.Test.YtpndiccohnafbaaGreatDoorTextsy
import Derived.Sort.OwnSorted
open Go.Value renaming slice->Q,string->L,pointer->Ua,bool->bO,int->I
open Option renaming none->Y,some->Z
open Go.Ending renaming returned->ca
open Go.IntKind renaming i64->O
open Or renaming inl->Va,inr->Za
open Go.Proofs.Tryz renaming prog->Wa,results127->Wb
open Go renaming World->Xa,Calls->Ub,Value->C,bodyPost_ret->Yb
open Nat renaming le_refl->Ya
open Go.Lib renaming hasPrefix->eb,cellsOf->qb,compact->Vb
open List renaming getElem?_eq_getElem->Xb,length_map->Zb
open Go.Proofs renaming encStr->Uc
open Go.Sort renaming ahead->Vc,Holds->Wc
namespace Go.Proofs.YtpndiccohnafbaaGreatDoor
namespace Tagw
open Go.RowKit Bytes Spl Mem Tags Numw
def Strs (c:Nat)(w:Xa)(v:C)(b:List (List UInt8)):Prop:=
 (b=[]/\v=Q Y 0 0)\/(∃(g a:Nat),v=Q (Z ⟨g,0,Y⟩) b.length a/\c<=g/\g<w.heap.size/\b.length<=a/\∀j x,b[j]? = Z x->w.cell? ⟨g,j,Y⟩=Z (L ⟨x.toArray⟩))
variable {a:Nat}{b:Xa}{c:List (List UInt8)}{d:C}{e:ByteArray}{f:List ByteArray}
theorem Strs.mono {e lo':Nat}    (h:Strs e b d c)(m:lo'<=e):Strs lo' b d c:=by
 rcases h with h|⟨g,a,f,i,j,k,l⟩
 .exact Va h
 exact Za ⟨g,a,f,Nat.le_trans m i,j,k,l⟩
theorem Strs.below {k:Xa}   (h:Strs a b d c)(i:Below b.heap.size b k):Strs a k d c:=by
 rcases h with h|⟨g,e,l,m,f,n,o⟩
 .exact Va h
 exact Za ⟨g,e,l,m,Nat.lt_of_lt_of_le f i.size,n,λj x q=>by rw[i.cell (p:=⟨g,j,Y⟩) f];exact o j x q⟩
theorem Strs.shape (h:Strs a b d c):∃e l f,d=Q e l f:=by
 rcases h with ⟨_,h⟩|⟨g,i,h,_⟩
 .exact⟨_,_,_,h⟩
 grind
theorem Strs.set {f:Nat}    (h:Strs a b d c)(p:f<a)(i:Nat)(u:C):Strs a (b.setCell ⟨f,i,Y⟩ u) d c:=by
 rcases h with h|⟨g,e,k,l,m,n,o⟩
 .exact Va h
 exact Za ⟨g,e,k,l,by simpa using m,n,λj x q=>by grind [lj]⟩
theorem BH (w:Xa)(g n:Nat)(b:Array Obj)(d:Array (List UInt8)):bS g w (Sort.grow (Sort.putRow Uc (Vc w n) g 0 d) b):=by
 refine⟨rfl,rfl,rfl,by simp,λk c a=>?_⟩;grind [Sort.heap_grow_old,Sort.putRow,Sort.mapBlock,Vc]
theorem FQ (w:Xa)(g n:Nat)(d:Array (List UInt8)):bS g w (Sort.putRow Uc (Vc w n) g 0 d):=by
 have:=BH w g n #[] d;simp_all
def RH (a:List (List UInt8)):List (List UInt8):=a.mergeSort λx y=>decide (x<=y)
theorem kK (a:List (List UInt8)):(RH a).length=a.length:=List.length_mergeSort ..
theorem Jj (g b:Nat)(a:List (List UInt8))(w:Xa)(d:Wc Uc w g 0 a.toArray)(f:g<w.heap.size)(j:a.length<=4):
  Ub Wa 205 #[Q (Z ⟨g,0,Y⟩) a.length b] w λe c=>e=ca (.tuple #[])/\bS g w c/\Wc Uc c g 0 (RH a).toArray:=by
 refine(Tryz.slices_Sort_string g 0 b a w d f (by omega)).mono λe c h=>?_
 obtain⟨i,n,k,rfl⟩:=h;refine⟨i,BH _ _ _ _ _,?_⟩;refine Sort.holds_grow _ _ _ _ _ _ (by simpa using f) ?_;exact Sort.holds_putRow _ _ _ _ a.toArray _ (Sort.holds_ahead _ _ _ _ _ _ d) (by simp)
theorem pD (a:List (List UInt8)):(Vb a).length<=a.length:=by grind [Vb,Lib.compactUpTo]
theorem wD (g b:Nat)(a:List (List UInt8))(w:Xa)(d:Wc Uc w g 0 a.toArray)(p:a.length<=4)(i:a.length<=b):
  Ub Wa 261 #[Q (Z ⟨g,0,Y⟩) a.length b] w λe c=>e=ca (Q (Z ⟨g,0,Y⟩) (Vb a).length b)/\bS g w c/\∀j x,(Vb a)[j]? = Z x->c.cell? ⟨g,j,Y⟩=Z (L ⟨x.toArray⟩):=by
 refine(Tryz.slices_Compact_string g 0 b a w d (by omega) i).mono λe c h=>?_
 obtain⟨k,q,rfl⟩:=h;refine⟨k,FQ _ _ _ _,λj x m=>?_⟩;have o:j<(Vb a).length:=(List.getElem?_eq_some_iff.1 m).1;have hlen:=pD a;have f:(Vb a++List.replicate (a.length - (Vb a).length) ([]:List UInt8)).toArray.size=a.toArray.size:=by
  simp;omega
 have l:=Sort.holds_putRow Uc (Vc w q) g 0 a.toArray _ (Sort.holds_ahead _ _ _ _ _ _ d) f;have n:=(l j (by rw[f];simp;omega)).1;grind
theorem pC {N k:Nat}  (h:f[k]? = Z e):(qb f N)[k]? = Z (L e):=by grind [qb]
theorem DP (w:Xa)(a:List ByteArray)(N:Nat):Wc Uc (w.alloc (.cells (qb a N) 9)) w.heap.size 0 (a.map B).toArray:=by
 intro j f;have c:=af.new w 9 (qb a N);have b:j<a.length:=by simpa using f
 have g:a[j]? = Z a[j]:=Xb b;rw[Nat.zero_add];refine⟨?_,c.frozen j⟩;rw[c.cell j _ (pC g)];have e:(a.map B).toArray[j]! = B a[j]:=by grind
 rw[e];show _=Z (Value.string ⟨(B a[j]).toArray⟩);have d:(⟨(B a[j]).toArray⟩:ByteArray)=a[j]:=Lib.mk_data a[j];rw[d]
theorem EW (b:Nat)(s:ByteArray)(w:Xa)(c:eb s.data.toList [35]=false):
  Ub Wa 223 #[Ua (Z ⟨b,0,Y⟩),L s] w λe d=>e=ca (bO false)/\w=d:=by
 change Hid _ at c;go_in;go_wp2_with (go_at_call 222;refine(uS s ⟨#[35]⟩ c _).mono ?_;rintro e d ⟨⟨a,rfl,f⟩,rfl⟩)
 go_ret;exact⟨rfl,rfl⟩
theorem Dl (h:f[a]? = Z e)(b:((f.take a).map B).all (made dm 8)=true)(c:made dm 8 (B e)=true):((f.take (a+1)).map B).all (made dm 8)=true:=by
 rw[List.take_add_one,h,List.map_append,List.all_append,b];simp[c]
theorem Eg (h:f[a]? = Z e)(b:made dm 8 (B e)=false):(f.map B).all (made dm 8)=false:=by grind
theorem EY (b:Nat)(s:ByteArray)(hs:s.size<=140737488355328)(w:Xa)(z:eb s.data.toList [35]=true)(G c1 c2 c3 H J W:C)
  (X:af w b 206 #[G,c1,c2,c3,H,J,W]):
  Ub Wa 223 #[Ua (Z ⟨b,0,Y⟩),L s] w λe r=>bS b w r/\
   ((cX (B s)=Y/\e=ca (bO false))\/(∃ls v,cX (B s)=Z ls/\e=ca (bO true)/\Strs w.heap.size r v ls/\af r b 206 #[G,c1,c2,c3,H,J,v])):=by
 change Hid _ at z;have V:=aa X;clear X;go_in;go_wp2_with (go_at_call 222;refine(ql s ⟨#[35]⟩ 1 rfl z _).mono ?_;rintro e r ⟨⟨a,rfl,ha,a3⟩,rfl⟩)
 go_at_call 260
 refine(Split.splitN a (by omega) _).mono ?_;rintro e r ⟨c,q,l,U,a1,o,rfl,rfl⟩;rw[ha]at l;change Hid _ at l o;by_cases h4:4<c.length
 .have K:(4:Int)<(c.length:Int):=by omega
  go_wp2_with fail;go_ret;refine⟨bS.ag ((Below.refl _ _).alloc (Ya _) _),Va ⟨?_,rfl⟩⟩;exact yO z (by grind [Hid])
 have K:(c.length:Int)<=4:=by omega
 go_wp2_with fail;go_loop [24] (λi=>∃k:Nat,i=I O k/\k<=c.length/\Hid (((c.take k).map B).all (made dm 8)=true))
  (λi=>c.length - (intOf i).toNat)
 case atStart=>exact⟨0,rfl,Nat.zero_le _,rfl⟩
 case round=>
  obtain⟨k,rfl,hk,HD⟩:=hrel;by_cases T:k<c.length
  .obtain⟨p,d⟩:∃p,c[k]? = Z p:=⟨_,Xb T⟩;have P:(qb c q)[k]? = Z (L p):=pC d;have o:p.size<=a.size:=o.out p (List.mem_of_getElem? d);change Hid _ at d;go_wp2_with (go_at_call 219;refine(Leaf.isWord p 8 (by omega) _).mono ?_;rintro e r ⟨rfl,rfl⟩)
   .have M:(!made dm 8 (B p))=true:=by assumption
    go_ret;refine⟨bS.ag ((Below.refl _ _).alloc (Ya _) _),Va ⟨?_,rfl⟩⟩;exact Bg z (by rw[<-l.out];exact Eg d (Hu M))
   have M:(!made dm 8 (B p))=false:=by assumption
   go_round
   case rel=>exact⟨k+1,by go_num,by omega,Dl d HD (rR M)⟩
   case measure=>simp[intOf];omega
  have S:k=c.length:=by omega
  subst S;go_wp2_with fail;have g:=Jj w.heap.size q (c.map B) (w.alloc (.cells (qb c q) 9)) (DP w c q) (by simp) (by grind);rw[Zb]at g;refine g.mono ?_;clear g;rintro e w2 ⟨rfl,E,y⟩;have h:=aa E;change Hid _ at y;clear E;go_wp2_with fail;have f:=wD w.heap.size q (RH (c.map B)) w2 y (by grind [kK]) (by grind [kK]);rw[kK,Zb]at f;refine f.mono ?_;clear f;rintro e w3 ⟨rfl,n,u⟩;have D:af (w.alloc (.cells (qb c q) 9)) b 206 #[G,c1,c2,c3,H,J,W]:=V.alloc _;have a2:=V.lt;have m:=(D.but h (by omega)).but n (by omega);have f6:=m.frozen 6;have a0:=m.Ri 6;have A:Below w.heap.size w (w.alloc (.cells (qb c q) 9)):=(Below.refl _ _).alloc (Ya _) _;have t:Below w.heap.size w w3:=(A.trans (h.below (Ya _) (by simp))).trans (n.below (Ya _) (by have:=h.size;simp at this;omega));have R:w.heap.size<w3.heap.size:=by
   have h1:=h.size;have h2:=n.size;simp at h1;omega
  have F:=aa m;change Hid _ at t u;clear D m A n;go_wp2_with fail;go_ret;exact⟨(bS.ag t).set 6 _,Za ⟨_,_,pW z (by grind [Hid]) (by grind [Hid]),rfl,by rw[<-l.out];exact Za ⟨_,_,rfl,Ya _,by simpa using R,by have:=pD (RH (c.map B));rw[kK,Zb]at this;exact Nat.le_trans this U,λj x hx=>by rw[lj _ _ _ _ (by omega)];exact u.out j x hx⟩,F.set 6 _⟩⟩
theorem yb (b:Nat)(s:ByteArray)(m:s.size<=140737488355328)(w:Xa)(c c1 c2 c3 d f i:C)
  (k:af w b 206 #[c,c1,c2,c3,d,f,i]):
  Ub Wa 223 #[Ua (Z ⟨b,0,Y⟩),L s] w λe a=>bS b w a/\
   ((cX (B s)=Y/\e=ca (bO false))\/(∃j v,cX (B s)=Z j/\e=ca (bO true)/\Strs w.heap.size a v j/\af a b 206 #[c,c1,c2,c3,d,f,v])):=by
 cases g:eb s.data.toList [35] with
 | true=>exact EY b s m w g c c1 c2 c3 d f i k
 | false=>
  refine(EW b s w g).mono λe a h=>?_
  obtain⟨l,rfl⟩:=h;exact⟨bS.refl _ _,Va ⟨sK g,l⟩⟩
end Tagw
namespace Valw
open Go.RowKit Bytes Nums Numw Mem Vals
def FC (b:Nat)(k l:List UInt8)(f h i:C)(w:Xa)(e:Ending)(c:Xa):Prop:=
 bS b w c/\((rv k l=Y/\e=ca (bO false))\/(∃a g v x,rv k l=Z (a,g,v,x)/\e=ca (bO true)/\∃kb d:ByteArray,B kb=a/\B d=x/\af c b 206 #[f,L kb,bO g,I O v,L d,h,i]))
theorem EA (b:Nat)(k g:ByteArray)(r:g.size<=9223372036854775807)(l m n:C)(w:Xa)
  (q:af w b 206 #[l,L ⟨#[]⟩,bO false,I O 0,L ⟨#[]⟩,m,n]):
  Ub Wa 173 #[Ua (Z ⟨b,0,Y⟩),L k,L g] w λe o=>FC b (B k) (B g) l m n w e o:=by
 by_cases x:B k=[115]
 .obtain rfl:k=⟨#[115]⟩:=bo x;refine(Fl b g r l m n w q).mono λe o h=>?_
  obtain⟨f,a,c⟩:=h;refine⟨f,?_⟩;grind [QK]
 by_cases s:B k=[99]
 .obtain rfl:k=⟨#[99]⟩:=bo s;rcases Ja (B g) with d|d
  .refine(tC b g r l m n w d q).mono λe o h=>?_
   obtain⟨f,⟨i,a⟩|⟨v,j,a,c⟩⟩:=h
   .exact⟨f,Va ⟨by rw[IT s,eQ d i];rfl,a⟩⟩
   exact⟨f,Za ⟨_,_,_,_,by rw[IT s,gi d rfl j];rfl,a,_,_,rfl,rfl,c⟩⟩
  refine(tB b g r l m n w d q).mono λe o h=>?_
  obtain⟨f,⟨i,a⟩|⟨v,j,a,c⟩⟩:=h
  .exact⟨f,Va ⟨by rw[IT s,eQ d i];rfl,a⟩⟩
  exact⟨f,Za ⟨_,_,_,_,by rw[IT s,oe d j];rfl,a,_,_,rfl,rfl,c⟩⟩
 by_cases p:B k=[103]
 .obtain rfl:k=⟨#[103]⟩:=bo p;rcases Mb (B g) with d|d|d
  .refine(tE b g r l m n w d q).mono λe o h=>?_
   obtain⟨f,⟨i,a⟩|⟨v,j,a,c⟩⟩:=h
   .exact⟨f,Va ⟨by rw[AS p,eQ d i];rfl,a⟩⟩
   exact⟨f,Za ⟨_,_,_,_,by rw[AS p,gi d rfl j];rfl,a,_,_,rfl,rfl,c⟩⟩
  .refine(vS b g r l m n w d q).mono λe o h=>?_
   obtain⟨f,⟨i,a⟩|⟨v,j,a,c⟩⟩:=h
   .exact⟨f,Va ⟨by rw[AS p,eQ d i];rfl,a⟩⟩
   exact⟨f,Za ⟨_,_,_,_,by rw[AS p,yy d j];rfl,a,_,_,rfl,rfl,c⟩⟩
  refine(tD b g r l m n w d q).mono λe o h=>?_
  obtain⟨f,⟨i,a⟩|⟨v,j,a,c⟩⟩:=h
  .exact⟨f,Va ⟨by rw[AS p,eQ d i];rfl,a⟩⟩
  exact⟨f,Za ⟨_,_,_,_,by rw[AS p,oe d j];rfl,a,_,_,rfl,rfl,c⟩⟩
 have d:sg [] (B g)=[]:=vG _;by_cases t:B k=[104]
 .obtain rfl:k=⟨#[104]⟩:=bo t;refine(tF b g r l m n w d q).mono λe o h=>?_
  obtain⟨f,⟨i,a⟩|⟨v,j,a,c⟩⟩:=h
  .exact⟨f,Va ⟨by rw[IU (Va t),eQ d i];rfl,a⟩⟩
  exact⟨f,Za ⟨_,_,_,_,by rw[IU (Va t),gi d rfl j];rfl,a,_,_,rfl,rfl,c⟩⟩
 by_cases u:B k=[109,115]
 .obtain rfl:k=⟨#[109,115]⟩:=bo u;refine(sU b g r l m n w d q).mono λe o h=>?_
  obtain⟨f,⟨i,a⟩|⟨v,j,a,c⟩⟩:=h
  .exact⟨f,Va ⟨by rw[IU (Za u),eQ d i];rfl,a⟩⟩
  exact⟨f,Za ⟨_,_,_,_,by rw[IU (Za u),gi d rfl j];rfl,a,_,_,rfl,rfl,c⟩⟩
 refine(Bq b k g w (bH x) (bH s) (bH p) (bH t) (bH u)).mono λe o h=>?_
 obtain⟨a,rfl⟩:=h;exact⟨bS.refl _ _,Va ⟨by simp[rv,x,s,p,t,u],a⟩⟩
end Valw
namespace Optw
open Go.RowKit Bytes Nums Numw Mem Tags Tagw Opts
theorem wG (s:ByteArray)(c:UInt8)(g:s.size<=9223372036854775807)(f:Bool)(d:has c (B s)=f)(w:Xa):
  Ub Wa 171 #[L s,L ⟨#[c]⟩] w λe h=>(∃a b,e=ca (.tuple #[L a,L b,bO f])/\B a=aM c (B s)/\B b=cO c (B s)/\a.size<=s.size/\b.size<=s.size)/\∃n,h=w.drewN n:=by
 rw[<-d];exact Texts.Kx s c g w
def BC (b:Nat)(k l:List UInt8)(f kb g v h:C)(w:Xa)(e:Ending)(a:Xa):Prop:=
 bS b w a/\((opts k l=Y/\e=ca (bO false))\/(∃r c d,opts k l=Z (r,c)/\e=ca (bO true)/\Strs w.heap.size a d c/\af a b 206 #[f,kb,g,v,h,I O r,d]))
theorem Ic (b:Nat)(s kb:ByteArray)(n:s.size<=140737488355328)(w:Xa)(k g v m:C)(c:eb s.data.toList [64]=false)
  (i:af w b 206 #[k,L kb,g,v,m,I O 1000,Q Y 0 0]):
  Ub Wa 174 #[Ua (Z ⟨b,0,Y⟩),L s] w λe h=>BC b (B kb) (B s) k (L kb) g v m w e h:=by
 change Hid _ at c i;go_in;go_wp2_with (first
  | (go_at_call 222;refine(uS s ⟨#[64]⟩ c _).mono ?_;rintro e h ⟨⟨a,rfl,o⟩,rfl⟩)
  | (go_at_call 223;refine(yb b s n _ _ _ _ _ _ _ _ i).mono ?_;rintro e h ⟨j,⟨f,rfl⟩|⟨p,q,f,rfl,hst,d⟩⟩))
 .go_ret;exact⟨j,Va ⟨by rw[oY (l:=B s) c,f];rfl,rfl⟩⟩
 go_ret;exact⟨j,Za ⟨1000,p,q,by rw[oY (l:=B s) c,f];rfl,rfl,hst,d⟩⟩
theorem LG (b:Nat)(s kb:ByteArray)(w:Xa)(j g v m:C)(c:eb s.data.toList [64]=true)(d:B kb=[103]\/B kb=[115])
  (i:af w b 206 #[j,L kb,g,v,m,I O 1000,Q Y 0 0]):
  Ub Wa 174 #[Ua (Z ⟨b,0,Y⟩),L s] w λe k=>BC b (B kb) (B s) j (L kb) g v m w e k:=by
 change Hid _ at c;have c1:=i.Ri 1;have n:=aa d;have f:kb=⟨#[103]⟩\/kb=⟨#[115]⟩:=d.imp (λh=>bo h) (λh=>bo h);clear d i;rcases f with rfl|rfl
 all_goals
  go_in;go_wp2_with (go_at_call 222;refine(ql s ⟨#[64]⟩ 1 rfl c _).mono ?_;rintro e k ⟨⟨a,rfl,p,o⟩,rfl⟩)
  go_ret;exact⟨bS.refl _ _,Va ⟨xV (l:=B s) c n,rfl⟩⟩
theorem Ib (b:Nat)(s kb:ByteArray)(hs:s.size<=140737488355328)(w:Xa)(R g v T:C)(F:eb s.data.toList [64]=true)(D:¬(B kb=[103]\/B kb=[115]))(f:Bool)(E:has 124 ((B s).drop 1)=f)
  (G:af w b 206 #[R,L kb,g,v,T,I O 1000,Q Y 0 0]):
  Ub Wa 174 #[Ua (Z ⟨b,0,Y⟩),L s] w λe K=>BC b (B kb) (B s) R (L kb) g v T w e K:=by
 change Hid _ at F;have A:=aa G;have c1:=G.Ri 1;have U:=aa D;change Hid _ at E;have k1:(kb.toList==[103])=false:=Vals.bH (λh=>D (Va h));have k2:(kb.toList==[115])=false:=Vals.bH (λh=>D (Za h));clear D G;go_in;go_wp2_with (go_at_call 222;refine(ql s ⟨#[64]⟩ 1 rfl F _).mono ?_;rintro e K ⟨⟨a,rfl,P,a0⟩,rfl⟩)
 refine(wG a 124 (by omega) f (by rw[P];exact E) _).mono ?_;rintro e K ⟨⟨r,t,rfl,H,J,a1,hst⟩,n,rfl⟩;go_wp2_with fail;refine(IB r (by omega) _).mono ?_;rw[P]at H J;have z:=uk (k:=B kb) (l:=B s) F U;rw[E.out]at z;change Hid _ at z;rintro e S ⟨⟨q,m,rfl⟩|⟨m,rfl⟩,i⟩
 .rw[H]at m;have c:Below w.heap.size w S:=bD i;have d:=A.below c A.lt;have X:=d.frozen 5;have W:=d.Ri 5;have x:=aa d;have p:=aa c;change Hid _ at m;clear d i c;cases f with
  | false=>
   go_wp2_with fail;go_ret;refine⟨(bS.ag p).set 5 _,Za ⟨q,[],_,?_,rfl,Va ⟨rfl,rfl⟩,x.set 5 _⟩⟩;rw[z.out,m.out];rfl
  | true=>
   go_wp2_with fail;have o:=x.set 5 (I O q);refine(yb b t (by omega) _ _ _ _ _ _ _ _ o).mono ?_;rintro e w3 ⟨y,⟨u,rfl⟩|⟨ls,tv,u,rfl,j,M⟩⟩
   .change Hid _ at y;rw[J]at u;change Hid _ at u;clear o;go_wp2_with fail;go_ret;refine⟨((bS.ag p).set 5 _).trans y,Va ⟨?_,rfl⟩⟩;grind [Hid]
   change Hid _ at y;rw[J]at u;change Hid _ at u;have V:=aa j;change Hid _ at M;clear o j;go_wp2_with fail;go_ret;refine⟨((bS.ag p).set 5 _).trans y,Za ⟨q,ls,tv,?_,rfl,V.mono (by simpa using p.size),M⟩⟩;grind [Hid]
 rw[H]at m;have c:Below w.heap.size w S:=bD i;have d:=A.below c A.lt;have X:=d.frozen 5;have W:=d.Ri 5;have p:=aa c;change Hid _ at m;clear d i c;go_wp2_with fail;go_ret;refine⟨(bS.ag p).set 5 _,Va ⟨?_,rfl⟩⟩;rw[z.out,m.out];rfl
theorem ya (b:Nat)(s kb:ByteArray)(i:s.size<=140737488355328)(w:Xa)(a g v c:C)
  (d:af w b 206 #[a,L kb,g,v,c,I O 1000,Q Y 0 0]):
  Ub Wa 174 #[Ua (Z ⟨b,0,Y⟩),L s] w λe j=>BC b (B kb) (B s) a (L kb) g v c w e j:=by
 cases f:eb s.data.toList [64] with
 | false=>exact Ic b s kb i w a g v c f d
 | true=>
  by_cases h:B kb=[103]\/B kb=[115]
  .exact LG b s kb w a g v c f h d
  exact Ib b s kb i w a g v c f h _ rfl d
end Optw
namespace Readw
open Go.RowKit Bytes Nums Numw Mem Tags Tagw Opts Optw
def sE (a kb:ByteArray)(g:Bool)(v:Int)(c:ByteArray)(r:Int)(b:C):Value:=
 .agg #[L a,L kb,bO g,I O v,L c,I O r,b]
def nothing:Value:=.agg #[L ⟨#[]⟩,L ⟨#[]⟩,bO false,I O 0,L ⟨#[]⟩,I O 0,Q Y 0 0]
def Reads (l:List UInt8)(w:Xa)(e:Ending)(c:Xa):Prop:=
 Below w.heap.size w c/\((rd l=Y/\e=ca (.tuple #[nothing,bO false]))\/
  (∃(m:jv) (a kb d:ByteArray) (b:C),rd l=Z m/\B a=m.name/\B kb=m.kind/\B d=m.word/\Strs w.heap.size c b m.tags/\e=ca (.tuple #[sE a kb m.signed m.value d m.cw b,bO true])))
theorem gw {w:Xa}{b:Nat}{t:TypeId}{a c d e f g i:C}(h:af w b t #[a,c,d,e,f,g,i]):
  w.cell? ⟨b,0,Y⟩=Z a/\w.cell? ⟨b,1,Y⟩=Z c/\w.cell? ⟨b,2,Y⟩=Z d/\w.cell? ⟨b,3,Y⟩=Z e/\w.cell? ⟨b,4,Y⟩=Z f/\w.cell? ⟨b,5,Y⟩=Z g/\w.cell? ⟨b,6,Y⟩=Z i:=
 ⟨h.Ri 0,h.Ri 1,h.Ri 2,h.Ri 3,h.Ri 4,h.Ri 5,h.Ri 6⟩
theorem qp {w:Xa}{b:Nat}{t:TypeId}{a:Array C}(h:af w b t a):
  w.frozen? ⟨b,0,Y⟩=false/\w.frozen? ⟨b,1,Y⟩=false/\w.frozen? ⟨b,2,Y⟩=false/\w.frozen? ⟨b,3,Y⟩=false/\w.frozen? ⟨b,4,Y⟩=false/\w.frozen? ⟨b,5,Y⟩=false/\w.frozen? ⟨b,6,Y⟩=false:=
 ⟨h.frozen 0,h.frozen 1,h.frozen 2,h.frozen 3,h.frozen 4,h.frozen 5,h.frozen 6⟩
def zl:Array Value:=#[L ⟨#[]⟩,L ⟨#[]⟩,bO false,I O 0,L ⟨#[]⟩,I O 0,Q Y 0 0]
theorem Ey {l:List UInt8}(h:has 58 l=true)(b:made oA 16 (aM 58 l)=true)(a:has 124 (cO 58 l)=true):rd l=(Vals.rv (aM 124 (cO 124 (cO 58 l))) (aM 124 (cO 58 l))).bind λx=>
   if has 124 (cO 124 (cO 58 l)) then (opts x.1 (cO 124 (cO 124 (cO 58 l)))).map λo=>⟨aM 58 l,x.1,x.2.1,x.2.2.1,x.2.2.2,o.1,o.2⟩
   else Z ⟨aM 58 l,x.1,x.2.1,x.2.2.1,x.2.2.2,1000,[]⟩:=by
 rw[rd,if_pos h,if_pos b,fE,if_pos a]
theorem vA (s:ByteArray)(g:s.size<=140737488355328)(w:Xa)(h:has 58 (B s)=false):
  Ub Wa 127 #[L s] w λe b=>Reads (B s) w e b:=by
 have H:=aa h;clear h;go_in;go_wp2_with (go_at_call 171;refine(wG s 58 (by omega) false H _).mono ?_;rintro e b ⟨⟨j,k,rfl,f,c,d,a⟩,i,rfl⟩)
 go_returns
 exact⟨mK (ax (ai _)) (Ya _) _ _ _ _ _ _ _,Va ⟨by simp[rd,H.out],rfl⟩⟩
theorem lQ (s:ByteArray)(j:s.size<=140737488355328)(w:Xa)(h:has 58 (B s)=true)(a:made oA 16 (aM 58 (B s))=false):
  Ub Wa 127 #[L s] w λe b=>Reads (B s) w e b:=by
 have H:=aa h;change Hid _ at a;clear h;go_in;go_wp2_with (first
  | (go_at_call 171;refine(wG s 58 (by omega) true H _).mono ?_;rintro e b ⟨⟨i,l,rfl,d,f,g,c⟩,k,rfl⟩)
  | (go_at_call 172;refine(Leaf.isName i (by omega) _).mono ?_;rintro e b ⟨rfl,rfl⟩;rw[d,a.out]))
 go_returns
 exact⟨mK (ax (ai _)) (Ya _) _ _ _ _ _ _ _,Va ⟨by simp[rd,H.out,a.out],rfl⟩⟩
theorem AN (s:ByteArray)(o:s.size<=140737488355328)(w:Xa)(h:has 58 (B s)=true)(c:made oA 16 (aM 58 (B s))=true)(b:has 124 (cO 58 (B s))=false):
  Ub Wa 127 #[L s] w λe a=>Reads (B s) w e a:=by
 have H:=aa h;change Hid _ at c b;clear h;go_in;go_wp2_with (go_at_call 171;refine(wG s 58 (by omega) true H _).mono ?_;rintro e a ⟨⟨m,n,rfl,i,d,k,f⟩,q,rfl⟩)
 refine(Leaf.isName m (by omega) _).mono ?_;rintro e a ⟨rfl,rfl⟩;rw[i,c.out];go_wp2_with fail;refine(wG n 124 (by omega) false (by rw[d];exact b) _).mono ?_;rintro e a ⟨⟨u,t,rfl,p,j,l,g⟩,r,rfl⟩;go_wp2_with fail;go_returns
 refine⟨mK (ax (ai _)) (Ya _) _ _ _ _ _ _ _,Va ⟨?_,rfl⟩⟩;simp[rd,H.out,c.out,fE,b.out]
theorem ye (s:ByteArray)(hs:s.size<=140737488355328)(w:Xa)(h:has 58 (B s)=true)(HM:made oA 16 (aM 58 (B s))=true)(H2:has 124 (cO 58 (B s))=true)(f:Bool)(H3:has 124 (cO 124 (cO 58 (B s)))=f):
  Ub Wa 127 #[L s] w λe w'=>Reads (B s) w e w':=by
 have H:=aa h;change Hid _ at HM H2 H3;clear h;go_in;go_wp2_with (go_at_call 171;refine(wG s 58 (by omega) true H _).mono ?_;rintro e w' ⟨⟨q,r1,rfl,hn,a7,b3,a9⟩,n1,rfl⟩)
 refine(Leaf.isName q (by omega) _).mono ?_;rintro e w' ⟨rfl,rfl⟩;rw[hn,HM.out];go_wp2_with fail;refine(wG r1 124 (by omega) true (by rw[a7];exact H2) _).mono ?_;rintro e w' ⟨⟨vb,r2,rfl,hv,P,b4,b0⟩,n2,rfl⟩;rw[a7]at hv P;go_wp2_with fail;refine(wG r2 124 (by omega) f (by rw[P];exact H3) _).mono ?_;rintro e w' ⟨⟨kd,r3,rfl,hk,R,b2,b1⟩,n3,rfl⟩;rw[P]at hk R;go_wp2_with fail;obtain⟨W,V⟩:∃W,W=(((w.alloc (.cells zl 206)).drewN (n1+n2+n3)).alloc (.cells #[L q,L ⟨#[]⟩,bO false,I O 0,L ⟨#[]⟩,I O 1000,Q Y 0 0] 206)):=⟨_,rfl⟩;have K:af W (w.heap.size+1) 206 #[L q,L ⟨#[]⟩,bO false,I O 0,L ⟨#[]⟩,I O 1000,Q Y 0 0]:=by
  have e:w.heap.size+1=((w.alloc (.cells zl 206)).drewN (n1+n2+n3)).heap.size:=by simp
  rw[V,e];exact af.new _ _ _
 have T:af W w.heap.size 206 zl:=by
  rw[V];exact((af.new w _ _).drewN _).alloc _
 have S:Below w.heap.size w W:=by
  rw[V];exact(ax (ai _)).alloc (by simp) _
 have p:=Ey H HM H2;rw[H3.out]at p;refine Eq.mp (congrArg (λX=>Ub Wa 173 #[Ua (Z ⟨w.heap.size+1,0,Y⟩),L kd,L vb] X _) V) ?_;change Hid _ at p;have m:=aa T;have c:=aa S;clear V T S;refine(Valw.EA (w.heap.size+1) kd vb (by omega) (L q) (I O 1000) (Q Y 0 0) W K).mono ?_;rintro e w2 ⟨a,⟨y,rfl⟩|⟨k',g,v,x,y,rfl,kb,wb,l,u,o⟩⟩
 .rw[hk,hv]at y;have d:=m.but a (by omega);have k:=c.trans (a.below (by omega) c.size);obtain⟨z,A,D,E,F,G,J⟩:=gw d;obtain⟨z0,z1,z2,z3,z4,z5,z6⟩:=qp d;change Hid _ at y k;clear d a K;go_wp2_with fail;refine Yb (v:=.tuple #[nothing,bO false]) (by simp[results,Wb,go_sem,z,A,D,E,F,G,J];rfl) rfl ?_;refine⟨mK k (Ya _) _ _ _ _ _ _ _,Va ⟨?_,rfl⟩⟩;rw[p.out,y.out];rfl
 rw[hk,hv]at y;change Hid _ at y l u;clear K;cases f with
 | false=>
  have d:=m.but a (by omega);have k:=c.trans (a.below (by omega) c.size);obtain⟨z,A,D,E,F,G,J⟩:=gw d;obtain⟨z0,z1,z2,z3,z4,z5,z6⟩:=qp d;obtain⟨c0,c1,c2,c3,c4,c5,c6⟩:=gw o;change Hid _ at k;clear d a o;go_wp2_with fail;refine Yb (v:=.tuple #[sE q kb g v wb 1000 (Q Y 0 0),bO true]) (by simp[results,Wb,go_sem,z,A,D,E,F,G,J];rfl) rfl ?_;refine⟨mK k (Ya _) _ _ _ _ _ _ _,Za ⟨⟨aM 58 (B s),k',g,v,x,1000,[]⟩,q,kb,wb,Q Y 0 0,?_,hn,l,u,Va ⟨rfl,rfl⟩,rfl⟩⟩;rw[p.out,y.out];rfl
 | true=>
  go_wp2_with fail;refine(ya (w.heap.size+1) r3 kb (by omega) w2 (L q) (bO g) (I O v) (L wb) o).mono ?_;rintro e w3 ⟨j,⟨M,rfl⟩|⟨r,ls,tv,M,rfl,hst,U⟩⟩
  .have i:=(m.but a (by omega)).but j (by omega);have n:=c.trans ((a.trans j).below (by omega) c.size);obtain⟨z,A,D,E,F,G,J⟩:=gw i;obtain⟨z0,z1,z2,z3,z4,z5,z6⟩:=qp i;rw[l.out,R]at M;have HO:=aa M;have t:=aa n;clear i n a j o M;go_wp2_with fail;refine Yb (v:=.tuple #[nothing,bO false]) (by simp[results,Wb,go_sem,z,A,D,E,F,G,J];rfl) rfl ?_;refine⟨mK t (Ya _) _ _ _ _ _ _ _,Va ⟨?_,rfl⟩⟩;grind [Hid]
  have i:=(m.but a (by omega)).but j (by omega);have n:=c.trans ((a.trans j).below (by omega) c.size);obtain⟨z,A,D,E,F,G,J⟩:=gw i;obtain⟨z0,z1,z2,z3,z4,z5,z6⟩:=qp i;obtain⟨c0,c1,c2,c3,c4,c5,c6⟩:=gw U;rw[l.out,R]at M;have HO:=aa M;have t:=aa n;have b:w.heap.size<w2.heap.size:=by
   have e1:=m.lt;have e2:=a.size;omega
  change Hid _ at b;obtain⟨sa,sl,sc,rfl⟩:=hst.shape;have a8:=aa hst;clear i n a j o U M hst;go_wp2_with fail;refine Yb (v:=.tuple #[sE q kb g v wb r (Q sa sl sc),bO true]) (by simp[results,Wb,go_sem,z,A,D,E,F,G,J];rfl) rfl ?_;exact⟨mK t (Ya _) _ _ _ _ _ _ _,Za ⟨⟨aM 58 (B s),k',g,v,x,r,ls⟩,q,kb,wb,Q sa sl sc,by grind [Hid],hn,l,u,(((((((a8.set b 0 _).set b 1 _).set b 2 _).set b 3 _).set b 4 _).set b 5 _).set b 6 _).mono (Nat.le_of_lt b),rfl⟩⟩
theorem read (s:ByteArray)(a:s.size<=140737488355328)(w:Xa):
  Ub Wa 127 #[L s] w λe d=>Reads (B s) w e d:=by
 cases h:has 58 (B s) with
 | false=>exact vA s a w h
 | true=>
  cases b:made oA 16 (aM 58 (B s)) with
  | false=>exact lQ s a w h b
  | true=>
   cases c:has 124 (cO 58 (B s)) with
   | false=>exact AN s a w h b c
   | true=>exact ye s a w h b c _ rfl
end Readw
end Go.Proofs.YtpndiccohnafbaaGreatDoor
