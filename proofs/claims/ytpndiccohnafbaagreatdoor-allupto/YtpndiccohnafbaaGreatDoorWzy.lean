/- The shards' keys in one rising order: the iterator. -/
import Derived.Test.YtpndiccohnafbaaGreatDoorHjy
import Derived.RangeFuncNested
import Derived.RangeFuncBound
import Derived.RangeFuncCalls
import Derived.RangeFuncLeaves
import Derived.Shelf.RegionOpen
import Derived.WalkKit
import Derived.LoopNIn
import Derived.LoopIn
set_option maxHeartbeats 9000000
open Option renaming some->Z,none->Y
open Go.Value renaming pointer->ca,slice->Q,string->L,ownBlock->Xc
open Go.Ending renaming returned->Ua
open Array renaming getElem?_eq_some_iff->Va,replicate_succ->Yc,replicate_zero->Zc
open Go renaming World->N,callsIn_wide->Ya,Value->C
open Go.Proofs.Tryz renaming prog->Wa
open Go.World renaming putObj_heap_other->Xa,freeze->Vb,putObj_heap_same->Wc,alloc_heap_new->ad
open Nat renaming le_refl->Za,le_of_lt->Wb
open List renaming mem_cons->eb,length_nil->Ub,cons_append->Yb,length_cons->Zb,nil_append->Vc,mem_map->vd
open Go.Fence renaming wide->qb
open Go.RowKit.Below renaming heap_setCell->Xb
open Go.Lib renaming join->Uc,countByte->ed
namespace Go.Proofs.YtpndiccohnafbaaGreatDoor
namespace Kr
open Go.RowKit Go.Maps Mem Foot Im Wm Hk Hb Hi Hn Plainw Cq Hs Sh Readw Wi Go.Sort Go.Shelf
attribute [local go_sem] Oper.semAt_some
def kV:C->Nat
 | .slice _ l _=>l
 | _=>0
def cR (w:N)(R:Nat):Nat:=
 match w.heap[R]? with
 | some (.cells cs _ _)=>(cs.toList.map kV).sum
 | _=>0
variable {a b:Nat}{c:List (Bs × Nat)}{d:Array C}{e:Bs × Nat}{f:N}
theorem gI {t:TypeId}  (h:af f a t d):cR f a=(d.toList.map kV).sum:=by
 unfold cR;have b:f.heap[a]? = _:=h;rw[b]
theorem Mo {l:List C}  {v b:C}(h:l[a]? = Z v)(c:kV b+1=kV v):((l.set a b).map kV).sum+1=(l.map kV).sum:=by
 induction l generalizing a with
 | nil=>cases h
 | cons x r d=>
  cases a with
  | zero=>grind
  | succ a=>grind
theorem Eu {n i:Nat}{x:Bs×Nat}{r:List (Bs×Nat)}(h:idx n x.1=i):Sh.part n i (x ::r)=x ::Sh.part n i r:=by rw[iF,if_pos h]
theorem AH (h:idx a e.1≠b):Sh.part a b (e ::c)=Sh.part a b c:=by rw[iF,if_neg h]
theorem fo.kp {A B:N}  {g:List Nat}  (h:fo A a b g c)(k:Kp A B):fo B a b g c:=
 ⟨k.il h.head (by decide),k.il h.row (by decide),λi e j=>fL.at (h.maps i e j) (by
  obtain⟨l,f,d,_⟩:=h.maps i e j;rw[d,k.2 e _ d rfl]),h.nodup,h.pos,h.most⟩
theorem KG {r:List (Bs×Nat)}(b:Up cA (c++e ::r)):Im.elemOf pv (ca Y) e.1 (c++e ::r)=ca (Z ⟨e.2,0,Y⟩):=by
 unfold Im.elemOf;have:aS e.1 (c++e ::r)=Z e.2:=by
  induction c with
  | nil=>exact bc rfl
  | cons y q d=>
   have a:=List.pairwise_cons.1 b;rw[Yb,aV,d a.2];intro f;have:=a.1 e (by simp);grind [dO]
 rw[this];rfl
theorem Qx {wr:N}{ g h f:Nat}{k:Option Addr}    (l:af wr a 32 d)(n:d.size=b)(s:∀i,i<b->∃v,d[i]? = Z v/\jG wr v ((Sh.part b i (e ::c)).map (·.1)))(u:idx b e.1<b)
  (q:d[idx b e.1]? = Z (Q (Z ⟨g,h,Y⟩) (((Sh.part b (idx b e.1) c).map (·.1)).length+1) f)) (r:jG wr (Q (Z ⟨g,h,Y⟩) (((Sh.part b (idx b e.1) c).map (·.1)).length+1) f) (e.1 ::(Sh.part b (idx b e.1) c).map (·.1)))
  (t:((Sh.part b (idx b e.1) c).map (·.1))≠[]->k=Z ⟨g,h+1,Y⟩):
  nt (wr.setCell ⟨a,idx b e.1,Y⟩ (Q k ((Sh.part b (idx b e.1) c).map (·.1)).length (f - 1))) a b c/\
  cR (wr.setCell ⟨a,idx b e.1,Y⟩ (Q k ((Sh.part b (idx b e.1) c).map (·.1)).length (f - 1))) a+1=cR wr a:=by
 have o:=l.set (idx b e.1) (Q k ((Sh.part b (idx b e.1) c).map (·.1)).length (f - 1));refine⟨⟨_,o,by simp[n],λj w=>?_⟩,by rw[gI o,gI l,Array.toList_setIfInBounds];exact Mo (v:=Q (Z ⟨g,h,Y⟩) (((Sh.part b (idx b e.1) c).map (·.1)).length+1) f) (by simpa using q) rfl⟩;by_cases m:idx b e.1=j
 .subst m;exact⟨_,by simp[n,u],(r.tail t).set l⟩
 obtain⟨v,x,p⟩:=s j w;rw[AH m]at p;refine⟨v,?_,p.set l⟩;grind
theorem fo.OV {M R b i:Nat}{g:List Nat}   (h:fo f M R g c)(e:af f b 32 d)(u:C):fo (f.setCell ⟨b,i,Y⟩ u) M R g c:=
 h.off (F:=[b]) ((an.refl _ _).set (by simp) _ _) (λy a k=>by
  simp only[List.mem_singleton]at k;subst k;simp only[qD,eb]at a;rcases a with rfl|rfl|a
  .exact cH h.head e (by decide) rfl
  .exact cH h.row e (by decide) rfl
  obtain⟨j,l⟩:=List.getElem?_of_mem a;exact dp (h.maps j y l) e rfl)
theorem af.OV {X t a i:Nat}{b:Array C}(h:af f X t d)(c:af f a 32 b)(e:t≠32)(u:C):af (f.setCell ⟨a,i,Y⟩ u) X t d:=
 (Xb _ _ _ _ (cH h c e)).trans h
theorem Kp.far {A B:N}(h:Kp A B)  {u:C}(f:A.heap.size<=a):Kp A (B.setCell ⟨a,b,Y⟩ u):=
 ⟨by simpa using h.1,λk o c e=>by
  have d:=(Va.1 c).1;exact(Xb B ⟨a,b,Y⟩ u k (by simp;omega)).trans (h.2 k o c e)⟩
theorem jr {A B:N}   (h:nt A a b c)(k:Kp A B):cR B a=cR A a:=by
 obtain⟨e,d,_⟩:=h;rw[gI d,gI (k.il d (by decide))]
structure PN (W W3:N)(m l X M R n i:Nat)(x:Bs×Nat)(pre r:List (Bs×Nat))(Rk lo:Nat)(J:List (Bs×Nat)->N->Prop):Prop where
 x3:W3.cell? ⟨X,0,Y⟩=Z (ca (Z ⟨M,0,Y⟩))
 m3:W3.cell? ⟨M,0,Y⟩=Z (Q (Z ⟨R,0,Y⟩) n n)
 l3:∃b,W3.cell? ⟨R,i,Y⟩=Z (.map (Z b))/\∀W4:N,W4.heap[b]? = W3.heap[b]?->(Instr.lookup 189 (.map (Z b)) (L ⟨x.1.toArray⟩) false).run Wa W4=.ok (ca (Z ⟨x.2,0,Y⟩)) W4
 y3:YieldAt qb (m+4) Wa l #[L ⟨x.1.toArray⟩,ca (Z ⟨x.2,0,Y⟩)] W3 λe W'=>e=Ua (.bool true)/\J (pre++[x]) W'/\Kp W3 W'
 kp:Kp W W3
 rest:nt W3 Rk n r
 left:cR W3 Rk+1=lo
set_option maxRecDepth 10000 in
theorem IH (m l X M R:Nat)(bs:List Nat)(c:List (Bs×Nat))(J:List (Bs×Nat)->N->Prop)(W:N)
  (hX:af W X 145 #[ca (Z ⟨M,0,Y⟩)]) (h:fo W M R bs c) (hu:Up cA c) (hl:c.length<=1000) (hk:∀x∈c,x.1.length<=1000)
  (hJ:∀s A B,J s A->Below A.heap.size A B->J s B)
  (b7:∀s A k i u cs,J s A->W.heap.size<=k->af A k 32 cs->J s (A.setCell ⟨k,i,Y⟩ u))
  (hY:∀d x c5 W1,J d W1->c=d++x ::c5->YieldAt qb (m+4) Wa l #[L ⟨x.1.toArray⟩,ca (Z ⟨x.2,0,Y⟩)] W1 λe W'=>e=Ua (.bool true)/\J (d++[x]) W'/\Kp W1 W')
  (h0:J [] W):
  CallsIn qb (m+5) Wa 118 #[.func (.yield l) #[] #[],ca (Z ⟨X,0,Y⟩)] W λe W'=>(∃v,e=Ua v)/\J c W':=by
 have c4:=AW M R bs c W h hu hl;have x0:W.cell? ⟨X,0,Y⟩=Z (ca (Z ⟨M,0,Y⟩)):=hX.Ri 0;have hm:=h.most;have hp:=h.pos;have HX:=aa hX;have HS:=aa h;have HU:=aa hu;have HJ:=aa hJ;have d2:=aa b7;have HY:=aa hY;have H0:=aa h0;have HK:=aa hk;clear hX h hu hJ b7 hY h0 hk;refine callsIn_of_wp Tryz.func118 rfl trivial ?_ rfl;simp only[Tryz.ntmps118,List.size_toArray,Zb,Ub,Nat.reduceAdd,Nat.reduceSub,Yc,Zc,List.push_toArray,List.append_toArray,Vc,Yb];gi_wp2_with fail;refine⟨trivial,(Ya.2 c4).mono ?_⟩;clear c4;rintro e W1 ⟨rfl,b0,a9⟩;have a7:=aa (oS _ _ _ W1 b0 HU hp hm hl);have b3:=aa b0;have c8:=aa a9;have d0:=aa (HJ.out _ _ _ H0 a9);clear b0 a9 x0;obtain⟨n,hn⟩:∃n,bs.length=n:=⟨_,rfl⟩;obtain⟨k,P⟩:∃k,W.heap.size=k:=⟨_,rfl⟩;rw[hn,P]at a7 b3;rw[hn,P];rw[hn]at hp hm;have HN:=aa hn;have b5:=aa P;generalize b8:leastOf n c=a0 at a7;have c7:=aa b8;clear hn P b8;gi_wp2_with fail;refine⟨trivial,(Ya.2 a7).mono ?_⟩;rintro e W2 ⟨rfl,S⟩;have d6:=aa (b3.kp (Kp.ag S));have d1:=aa (HJ.out _ _ _ d0 S);have d3:=aa ((Kp.ag c8).trans (Kp.ag S));clear S;gi_wp2_with fail;gi_loopw [4] (λa wr=>∃d r,a=.int .i64 (leastOf n r)/\Hid (c=d++r)/\Hid (nt wr k n r)/\Hid (J d wr)/\Hid (Kp W wr)) (λ_ wr=>cR wr k)
 case atStart=>exact⟨[],c,by rw[c7.out],rfl,d6,d1,d3⟩
 case round=>
  obtain⟨d,r,rfl,HE,HR,b2,a2⟩:=hrel;cases r with
  | nil=>
   simp only[leastOf];have c9:=aa (show c=d by rw[HE.out];simp);gi_wp2_with fail;go_end0;rw[c9.out];exact⟨⟨_,rfl⟩,b2⟩
  | cons x r=>
   simp only[leastOf];have hi:=rA hp x.1;obtain⟨cs,h1,h2,h3⟩:=HR.out;obtain⟨v,e1,e2⟩:=h3 _ hi;have HP:=aa (Eu (n:=n) (x:=x) (r:=r) rfl);rw[HP.out]at e2;simp only[List.map_cons]at e2;obtain⟨g,b1,t,rfl,e0,cg⟩:=e2.head;have ci:=h1.cell _ _ e1;have fi:=h1.frozen (idx n x.1);have e6:((Sh.part n (idx n x.1) r).map (·.1)).length<=1000:=by
    rw[List.length_map];have a1:(Sh.part n (idx n x.1) r).length<=r.length:=List.length_filter_le _ _;grind [Hid]
   have c2:∀a,(((Sh.part n (idx n x.1) r).map (·.1))≠[]->a=Z ⟨g,b1+1,Y⟩)->PN W (wr.setCell ⟨k,idx n x.1,Y⟩ (Q a ((Sh.part n (idx n x.1) r).map (·.1)).length (t - 1))) m l X M R n (idx n x.1) x d r k (cR wr k) J:=by
    intro a ha;obtain⟨k1,k2⟩:=Qx h1 h2 h3 hi e1 e2 ha;have k3:=fo.OV (i:=idx n x.1) (fo.kp HS a2) h1 (Q a ((Sh.part n (idx n x.1) r).map (·.1)).length (t - 1));have k4:=af.OV (i:=idx n x.1) (a2.il HX (by decide)) h1 (by decide) (Q a ((Sh.part n (idx n x.1) r).map (·.1)).length (t - 1));have k5:=d2.out d wr k (idx n x.1) (Q a ((Sh.part n (idx n x.1) r).map (·.1)).length (t - 1)) cs b2 (by rw[b5.out];exact Za _) h1;have k6:=HY.out d x r _ k5 HE;obtain⟨b,hb⟩:∃b,bs[idx n x.1]? = Z b:=⟨_,List.getElem?_eq_getElem (by rw[HN.out];exact hi)⟩;have c0:keyOf Wa 9 (L ⟨x.1.toArray⟩)=Z (jl x.1):=Go.WideMaps.keyOf_string_mk (s:=⟨x.1.toArray⟩) Tryz.underlying9 (by
     have:=HK.out x (by rw[HE.out];simp);unfold maxLen;show x.1.toArray.size<=_;simp;omega)
    have w:=iU (k3.maps _ b hb) (string_keyed Tryz.underlying9) Tryz.underlying189 NI rfl jT c0;have he:Im.elemOf pv (ca Y) x.1 (Sh.part bs.length (idx n x.1) c)=ca (Z ⟨x.2,0,Y⟩):=by
     have e3:Im.elemOf pv (ca Y) x.1 (Sh.part bs.length (idx n x.1) c)=Im.elemOf pv (ca Y) x.1 c:=by
      unfold Im.elemOf;rw[HN.out,me]
     grind [Hid,KG]
    rw[he]at w;exact⟨k4.Ri 0,by have:=k3.head.Ri 0;rw[HN.out]at this;exact this,⟨b,k3.cell hb,w⟩,k6,Kp.far a2 (by rw[b5.out];exact Za _),k1,k2⟩
   have e5:((idx n x.1:Nat):Int)<(n:Int):=by omega
   have e4:¬((idx n x.1:Nat):Int)<0:=by omega
   have b9:t=1->((Sh.part n (idx n x.1) r).map (·.1))=[]:=λh=>List.eq_nil_of_length_eq_zero (by omega)
   have d4:=aa b9;have b4:=aa c2;clear e1 e2 h1 h2 h3 c2 b9;generalize d9:(Sh.part n (idx n x.1) r).map (·.1)=ks at *;generalize d8:idx n x.1=i at *;clear d9 d8;have b6:Hid (Up cA r):=(List.pairwise_cons.1 (List.pairwise_append.1 (show Up cA (d++x ::r) by rw[<-HE.out];exact HU)).2.1).2;have c3:r.length<=1000:=by grind [Hid]
   by_cases d7:t=1
   .subst d7;have c1:=d4.out rfl;subst c1;obtain⟨x3,m3,⟨b,l3,lk⟩,y3,kW,q,f⟩:=b4.out (Z ⟨g,b1,Y⟩) (λh=>absurd rfl h);simp only[Nat.sub_self,Ub]at x3 m3 l3 lk y3 q f kW;have w:=lk _ rfl;obtain⟨fn,c6,assign,body,hy,G⟩:=y3;have E:=aa G;have D:=aa q;have a5:=aa f;have a4:=aa kW;clear G q f lk kW;gi_wp2_with fail;refine E.mono ?_;rintro e W5 ⟨rfl,F,o⟩;have p:=aa (D.kp o);have z:=aa (show cR W5 k+1=cR wr k by rw[jr D o];exact a5);have y:=aa (a4.trans o);have U:=aa F;have K:=oS _ _ _ W5 p b6 hp hm c3;clear F o x3 m3 l3 hy w ci fi cg;gi_wp2_with fail;refine⟨trivial,(Ya.2 K).mono ?_⟩;clear K;rintro e W6 ⟨rfl,j⟩;have a8:=aa (p.kp (Kp.ag j));have V:=aa (HJ.out _ _ _ U j);have a3:=aa (y.trans (Kp.ag j));have d5:=aa (show cR W6 k+1=cR wr k by rw[jr p (Kp.ag j)];exact z);generalize H:leastOf n r=a6;have T:=aa H;clear j H;gi_wp2_with fail;go_roundw
    case rel=>exact⟨d++[x],r,congrArg (Value.int IntKind.i64) T.symm,by simp[HE.out,Hid],a8,V,a3⟩
    grind [Hid]
   obtain⟨x3,m3,⟨b,l3,lk⟩,y3,kW,q,f⟩:=b4.out (Z ⟨g,b1+1,Y⟩) (λ_=>rfl);have w:=lk _ rfl;obtain⟨fn,c6,assign,body,hy,G⟩:=y3;have E:=aa G;have D:=aa q;have a5:=aa f;have a4:=aa kW;clear G q f lk kW;gi_wp2_with fail;refine E.mono ?_;rintro e W5 ⟨rfl,F,o⟩;have p:=aa (D.kp o);have z:=aa (show cR W5 k+1=cR wr k by rw[jr D o];exact a5);have y:=aa (a4.trans o);have U:=aa F;have K:=oS _ _ _ W5 p b6 hp hm c3;clear F o x3 m3 l3 hy w ci fi cg;gi_wp2_with fail;refine⟨trivial,(Ya.2 K).mono ?_⟩;clear K;rintro e W6 ⟨rfl,j⟩;have a8:=aa (p.kp (Kp.ag j));have V:=aa (HJ.out _ _ _ U j);have a3:=aa (y.trans (Kp.ag j));have d5:=aa (show cR W6 k+1=cR wr k by rw[jr p (Kp.ag j)];exact z);generalize H:leastOf n r=a6;have T:=aa H;clear j H;gi_wp2_with fail;go_roundw
   case rel=>exact⟨d++[x],r,congrArg (Value.int IntKind.i64) T.symm,by simp[HE.out,Hid],a8,V,a3⟩
   grind [Hid]
end Kr
namespace Wm
open Im Opts
def Live (w:jh):Prop:=∀p∈w.fO,∀t,p.2=Ser.tim t->1<=t.count
variable {a:cZ}{b:jh}
theorem rN {m:jv}{s:Ser}(e:1<=m.cw/\m.cw<=1000)(h:∀t,s=.tim t->0<=t.count):∀t,(ch a m s).1=.tim t->1<=t.count:=by
 intro t b;cases s with
 | num n=>simp[ch]at b
 | set f=>grind [ch]
 | tim u=>
  simp only[ch]at b;injection b with b;subst b;have c:=h u rfl;have d:1<=1000 / m.cw:=by
   rw[Int.le_ediv_iff_mul_le (by omega)];omega
  grind [dq,dW,top]
theorem DY {m:jv}  (f:1<=m.cw/\m.cw<=1000)(h:Live b):Live (gu a b m):=by
 intro p c t d;unfold gu at c;split at c
 .rename_i s i;rcases eT c with e|⟨e,_⟩
  .subst e;refine rN f (λu g=>?_) t d;have:=h _ (dj i) u g;omega
  exact h p e t d
 split at c
 .exact h p c t d
 rcases eT c with e|⟨e,_⟩
 .subst e;refine rN f (λu g=>?_) t d;grind [ik]
 exact h p e t d
theorem DX (l:Bs)(h:Live b):Live (fX a b l):=by
 unfold fX;split
 .exact h
 split
 .exact h
 rename_i m c;exact DY (Bounds.jS c).2.2.2.2.1 h
theorem As (c:List Bs)  (h:Live b):Live (c.foldl (fX a) b):=by
 induction c generalizing b with
 | nil=>exact h
 | cons l r d=>exact d (DX l h)
theorem DW (d:Bs)(h:Live b):Live (ju a b d):=As _ h
theorem rM (c:List Bs)  (h:Live b):Live (c.foldl (ju a) b):=by
 induction c generalizing b with
 | nil=>exact h
 | cons l r d=>exact d (DW l h)
theorem No:Live gC:=by
 intro p a;simp[gC]at a
theorem Ah (m:Nat)(a:List Bs)(h:∀x∈a,x.length<=m):(Uc a [32]).length<=(m+1)*a.length:=by
 induction a with
 | nil=>simp[Uc]
 | cons x l c=>
  have f:=h x (List.mem_cons_self ..);have d:=c λy b=>h y (List.mem_cons_of_mem _ b)
  cases l with
  | nil=>
   simp[Uc];omega
  | cons y l=>
   have e:Uc (x ::y ::l) [32]=x++[32]++Uc (y ::l) [32]:=by
    simp[Uc,List.intercalate,List.intersperse]
   grind [Nat.mul_add]
theorem uy {n:Nat}{k:Bs}{s:Ser}(h:kT a n k s)(i:a.sets<=1000):(gV s).length<=200:=by
 cases s with
 | num x=>
  have d:-top<=x/\x<=top:=h.ok;grind [Hi.eM,top,gV]
 | set f=>
  have d:f.length<=a.sets:=h.ok.2;grind [Hi.eM,gV]
 | tim t=>
  have b:iu a n t:=h.ok;have g:∀x∈jV t,-9223372036854775808<=x/\x<=9223372036854775807:=by
   intro x c;have q1:=b.count;have e:=b.sum;have j:=b.least;have l:=b.al;have m:=Hi.fS b 50;have o:=Hi.fS b 90;have p:=Hi.fS b 99;simp only[top]at q1 e;simp only[jV,eb,List.not_mem_nil,or_false]at c;omega
  have:=Ah 20 ((jV t).map Lib.itoa) (λx c=>by grind [Hi.eM]);simp only[gV];refine Nat.le_trans this ?_;simp[jV]
end Wm
namespace Kr
open Go.RowKit Go.Maps Mem Foot Im Wm Hk Hb Hi Hn Plainw Cq Hs Sh Readw Wi Go.Sort Go.Shelf
def Quiet (o:Obj):Bool:=
 match o with
 | .cells _ t _=>t != 5&&t != 142
 | _=>true
def qM (W a:N):Prop:=W.heap.size<=a.heap.size/\∀(k:Nat) (o:Obj),W.heap[k]? = Z o->Quiet o=true->a.heap[k]? = Z o
variable {a c e:N}{f h:List fh}{i j:Nat}{k:Bs}{l:List (Bs × Nat)}{m:Obj}{o:C}{q:List Nat}
theorem tu (h:Calm m=true):Quiet m=true:=by
 cases m<;>first|rfl|exact h
theorem qM.kp {A B:N}(h:qM A B):Kp A B:=⟨h.1,λk o a b=>h.2 k o a (tu b)⟩
theorem qM.ag {A B:N}(h:Below A.heap.size A B):qM A B:=⟨h.size,λi _ a _=>(h.block i (Va.1 a).1).trans a⟩
theorem qM.trans {A B a:N}(h:qM A B)(k:qM B a):qM A a:=⟨Nat.le_trans h.1 k.1,λi o c b=>k.2 i o (h.2 i o c b) b⟩
theorem xp {B b:Nat}    (j:iI a B b o k)(h:an (lh b o) a c):qM a c:=
 ⟨h.size,λi p f l=>(h.block i (Va.1 f).1 (λn=>by
  rcases eb.1 n with e|e
  .subst e;rcases j.head with g|g
   all_goals
    have d:a.heap[i]? = _:=g;rw[d]at f;cases f;cases l
  obtain⟨m,g⟩:=au j.row e;have d:a.heap[i]? = _:=g;rw[d]at f;cases f;cases l)).trans f⟩
theorem tY {b:Obj}(h:a.heap[i]? = Z m)(e:Calm m=false):Kp a (a.putObj i b):=
 ⟨by simp[World.putObj],λk f d c=>by grind [Xa]⟩
theorem OL {g:Operand}{S:Array Tmp}{assign body:Code}{a7:Exit->Act->N->Prop}{F:Act}  (m X M R:Nat)(bs:List Nat)(d:List (Bs×Nat))
  (hg:F.eval g=.func (.func 118) #[] #[ca (Z ⟨X,0,Y⟩)]) (b0:S.size=2)
  (hX:af a X 145 #[ca (Z ⟨M,0,Y⟩)]) (h:fo a M R bs d) (hu:Up cA d) (q:d.length<=1000) (J:∀x∈d,x.1.length<=1000)
  (j:List (Bs×Nat)->N->Prop) (G:∀s A B,j s A->Below A.heap.size A B->j s B) (a8:∀s A T i u cs,j s A->a.heap.size<=T->af A T 32 cs->j s (A.setCell ⟨T,i,Y⟩ u))
  (r:∀s A l o o',j s A->a.heap.size<=l->A.heap[l]? = Z o->o.isCells=false->j s (A.putObj l o')) (h0:j [] a) (a₁:Bs×Nat->Act)
  (hassign:∀(l:Nat) (x:Bs×Nat) (W:N) (K:Act->N->Prop),K (a₁ x) W->
   assign.wpIn (qb.inRound l) (m+4) Wa (Exit.then K (λ_ _ _=>False)) {tmps:=(S.zip #[L ⟨x.1.toArray⟩,ca (Z ⟨x.2,0,Y⟩)]).foldl (λt (p,v)=>t.setIfInBounds p v) F.tmps,defers:=[]} W)
  (hbody:∀(l:Nat) (f:List (Bs×Nat)) (x:Bs×Nat) (n:List (Bs×Nat)) (W:N),j f W->d=f++x ::n->body.wpIn (qb.inRound l) (m+4) Wa (λe _ W'=>e=.normal/\qM W W'/\j (f++[x]) W') (a₁ x) W)
  (hdone:∀(D:Nat) (W:N),a.heap.size<=D->j d W->W.heap[D]? = Z (.deferred (Z []))->a7 .normal {F with defers:={target:=.collected D,args:=#[]} ::F.defers} W):
  (Code.rangeFunc g S assign body).wpIn qb (m+6) Wa a7 F a:=by
 refine wpIn_rangeFunc ?_;intro fn a0;obtain⟨c,b⟩:∃c:LoopState->Option Code->Loop,c=λst pe=>{state:=st,pending:=pe,fn,tmps:=F.tmps,params:=S,assign,body,defers:=a.heap.size}:=⟨_,rfl⟩
 obtain⟨k,w⟩:∃k,(a.alloc (.deferred (Z []))).alloc (.loop (c .ready Y))=k:=⟨_,rfl⟩;have V:k.heap[a.heap.size+1]? = Z (.loop (c .ready Y)):=by grind [ad,World.size_alloc]
 have U:k.heap[a.heap.size]? = Z (.deferred (Z [])):=by grind [Below.heap_alloc,ad]
 have y:Below a.heap.size a k:=by
  rw[<-w];exact((Below.refl _ a).alloc (Za _) _).alloc (by simp) _
 have H:j [] k:=G _ _ _ h0 y;have b1:k.heap.size=a.heap.size+2:=by rw[<-w];simp
 refine⟨a.heap.size+1,[{target:=.collected a.heap.size,args:=#[]}],k,{target:=.fn (.func 118) #[ca (Z ⟨X,0,Y⟩)],args:=#[.func (.yield (a.heap.size+1)) #[] #[]]},k,118,
  #[.func (.yield (a.heap.size+1)) #[] #[]]++#[ca (Z ⟨X,0,Y⟩)],k,?_,?_,?_,?_,λ_=>by omega,?_⟩
 .rw[<-w,b];exact run_enterLoop_outer _ _ _ _ _
 .simp only[resolve,hg];simp[go_sem]
 .intro f' a9
  trivial
 .simp[invoke,go_sem]
 refine(IH m (a.heap.size+1) X M R bs d
  (λf W=>j f W/\W.heap[a.heap.size+1]? = Z (.loop (c .ready Y))/\W.heap[a.heap.size]? = Z (.deferred (Z [])))
  k (hX.below y hX.lt) (h.keep y) hu q J ?_ ?_ ?_ ⟨H,V,U⟩).mono ?_
 .rintro s A B ⟨i1,i2,i3⟩ hb;exact⟨G _ _ _ i1 hb,(hb.block _ (Va.1 i2).1).trans i2,(hb.block _ (Va.1 i3).1).trans i3⟩
 .grind [Xb]
 .rintro f x n W ⟨hi,q,J⟩ he;have a5:a.heap.size+1<W.heap.size:=(Va.1 q).1;have hy:=run_yield (P:=Wa) (args:=#[L ⟨x.1.toArray⟩,ca (Z ⟨x.2,0,Y⟩)]) q (by grind);rw[b]at hy;refine⟨fn,_,assign,body,hy,roundIn_of_wpIn a0 (hassign _ x W _ ⟨_,run_beginRound q (by rw[b]),?_⟩)⟩;have a4:(W.putObj (a.heap.size+1) (.loop {c .ready Y with state:=.busy})).heap[a.heap.size+1]? = Z (.loop {c .ready Y with state:=.busy}):=Wc a5;have a2:(W.putObj (a.heap.size+1) (.loop {c .ready Y with state:=.busy})).heap[a.heap.size]? = Z (.deferred (Z [])):=(Xa (by omega)).trans J;have a6:Kp W (W.putObj (a.heap.size+1) (.loop {c .ready Y with state:=.busy})):=tY q rfl;refine wpIn_mono (hbody _ f x n _ (r _ _ _ _ _ hi (by omega) q rfl) he) ?_;rintro e a3 W3 ⟨rfl,z,a1⟩;have E:=z.2 _ _ a4 rfl;have hr:=run_endRound (P:=Wa) Y E;rw[b]at hr;refine⟨_,_,hr,rfl,⟨r _ _ _ _ _ a1 (by omega) E rfl,?_,(Xa (by omega)).trans (z.2 _ _ a2 rfl)⟩,(a6.trans z.kp).trans (tY E rfl)⟩;grind [Wc]
 rintro e W2 ⟨⟨v,rfl⟩,hi,q,J⟩;exact⟨Y,_,by have:=run_endLoop (P:=Wa) q (by rw[b];simp);rw[b]at this;exact this,hdone _ _ (Za _) (r _ _ _ _ _ hi (by omega) q rfl) ((Xa (by omega)).trans J)⟩
theorem AD (h:an q a c){p:Addr}(f:p.block∈q)(n:Nat):an q a (c.freeze p n):=by
 have e:(c.freeze p n).heap.size=c.heap.size:=by
  unfold Vb;split<;>simp
 exact⟨by grind [an.os,Vb],by grind [an.tape,Vb],by grind [an.output,Vb],by rw[e];exact h.size,λk d b=>by rw[<-h.block k d b];grind [Vb]⟩
set_option maxRecDepth 100000 in
theorem ET (B b:Nat)(v:C)(l:Bs)(w:N)(h:iI w B b v l)(n:l≠[]):
  Calls Wa 83 #[ca (Z ⟨b,0,Y⟩)] w λe E=>e=Ua (L ⟨l.toArray⟩)/\an (lh b v) w E:=by
 have m:l.length≠0:=by simpa using n
 obtain⟨g,a,c,rfl,u,p,z,i,y,f⟩:∃g a c,v=Q (Z ⟨g,0,Y⟩) l.length a/\B<=g/\w.heap[g]? = Z (.cells c 5 (0,0))/\l.length<=a/\a<=maxLen/\c.size=a*1/\c.toList.take (l.length*1)=Lib.byteCells l:=by
  rcases h.row.2 with ⟨_,hz⟩|⟨g,a,c,A,r⟩
  .exact absurd hz m
  exact⟨g,a,c,A,r⟩
 have c1:w.drew.cell? ⟨b,1,Y⟩=Z (Q (Z ⟨g,0,Y⟩) l.length a):=by
  rcases h.head with o|o<;>exact(show af w.drew b _ _ from o).Ri 1
 have d:=h.row;have s:(Builtin.unsafeSliceData_ #[140] 198 #[Q (Z ⟨g,0,Y⟩) l.length a]).run Wa w.drew=.ok (ca (Z ⟨g,0,Y⟩)) w.drew:=
  Lib.run_unsafeSliceData_row _ _ _ _ _ _ (by omega)
 have t:(Builtin.unsafeString_ #[198,3] 9 #[ca (Z ⟨g,0,Y⟩),.int .i64 l.length]).run Wa w.drew=.ok (L ⟨l.toArray⟩) (w.drew.freeze ⟨g,0,Y⟩ l.length):=by
  refine Lib.run_unsafeString_row w.drew 198 3 9 5 Tryz.underlying198 Tryz.ns.cellsByte g c.size (by have k:w.drew.heap[g]? = Z (.cells c 5 (0,0)):=p;simp[World.shape?,k]) l n (by omega) (by unfold maxLen at i;omega) ?_;intro j x D;have:=d.cells (g:=g) rfl j (.int .u8 x.toNat) (by simp[Lib.byteCells,D]);exact this
 have q:=aa (show g∈lh b (Q (Z ⟨g,0,Y⟩) l.length a) by simp[lh,Xc]);clear f p d h;go_in;go_wp2_with fail;go_region
 all_goals
  go_wp2_with fail;go_ret;exact⟨rfl,AD ((an.refl _ _).drewN 1) q _⟩
attribute [local go_sem] Oper.semAt_some
theorem LQ (M:Nat)(w:N):Calls Wa 81 #[ca (Z ⟨M,0,Y⟩)] w λe a=>e=Ua (.func (.func 118) #[] #[ca (Z ⟨w.heap.size,0,Y⟩)])/\a=w.alloc (.cells #[ca (Z ⟨M,0,Y⟩)] 145):=by
 go_in;go_wp2_with fail;go_ret;exact⟨rfl,rfl⟩
theorem yI (l:List (Bs×Ser))(p:Bs×Ser):ff (l++[p])=ff l++(p.1++[61]++gV p.2++[10]):=by
 induction l with
 | nil=>simp[ff]
 | cons x r a=>simp[ff,a]
theorem ES {l:List (Bs×Ser)}(h:∀p∈l,p.1.length+(gV p.2).length<=300):(ff l).length<=400*l.length:=by
 induction l with
 | nil=>simp[ff]
 | cons x r a=>grind [ff]
theorem qS {B b:Nat}   (h:iI a B b o k):∀c∈lh b o,B<=c:=by
 intro c j;rcases eb.1 j with e|e
 .subst e;exact h.base
 rcases h.row.2 with ⟨i,_⟩|⟨g,d,f,rfl,l,_⟩
 .subst i;simp[Xc]at e
 grind [Xc]
theorem iC {B:Nat}   (h:Below B a c)(b:an q c e)(d:∀k∈q,B<=k)(g:B<=c.heap.size):Below B a e:=
 h.trans ⟨b.os,b.tape,b.output,b.size,λk i=>b.block k (by omega) (λf=>by have:=d k f;omega)⟩
theorem AE:an [i] a (a.putObj i m):=
 ⟨rfl,rfl,rfl,by simp[World.putObj],λk _ b=>Xa (by simpa using b)⟩
theorem wC {B b f:Nat}    (h:iI a B b o k)(j:a.heap[f]? = Z m)(n:m.isCells=false):f∉lh b o:=by
 intro l;have:∀t g,¬af a f t g:=λt g d=>by
  unfold af at d;rw[j]at d;cases d;cases n
 rcases eb.1 l with e|e
 .subst e;rcases h.head with c|c<;>exact this _ _ c
 obtain⟨i,c⟩:=au h.row e;exact this _ _ c
theorem NR {B b:Nat}    (h:iI a B b o k)(g:an q a c)(e:∀d∈lh b o,d∉q):iI c B b o k:=
 h.off g (e b (List.mem_cons_self ..)) (λd f=>e d (List.mem_cons_of_mem _ f))
theorem NQ (w:N):iI (w.alloc (.cells #[ca Y,Q Y 0 0] 142)) w.heap.size w.heap.size (Q Y 0 0) []:=
 ⟨Or.inl (af.new _ _ _),World.ownsRow_nil _ _ _ _,Za _⟩
def Inv (w:N)(b:Nat)(e:Bs)(E:List fh)(c:List (Bs×Nat))(W:N):Prop:=
 (∃v a d,E=a++d/\c=dw a/\iI W b b v (e++ff (dK a)))/\Below b w W
theorem Inv.keep {w A B:N}     (h:Inv w i k f l A)(a:Below A.heap.size A B)(hz:i<=A.heap.size):Inv w i k f l B:=by
 obtain⟨⟨v,b,c,d,e,g⟩,j⟩:=h;exact⟨⟨v,b,c,d,e,g.keep a⟩,j.trans (a.mono hz)⟩
theorem Inv.size (h:Inv a i k f l c):i<c.heap.size:=by
 obtain⟨⟨v,d,e,g,j,b⟩,m⟩:=h;rcases b.head with h|h<;>exact h.lt
theorem Inv.QD {w A B:N}     (h:Inv w i k f l A)(a:an [j] A B)(o:i<=j)(r:∀v d,iI A i i v d->j∉lh i v):Inv w i k f l B:=by
 have hz:=h.size;obtain⟨⟨v,b,c,e,g,m⟩,n⟩:=h;refine⟨⟨v,b,c,e,g,NR m a (λs q p=>?_)⟩,iC n a (by simpa using o) (by omega)⟩;grind
theorem rY (a b:List fh):dw (a++b)=dw a++dw b:=by simp[dw]
theorem sx (a b:List fh):dK (a++b)=dK a++dK b:=by simp[dK]
theorem Hr { b:List fh}{x:Bs×Nat}{a:List (Bs×Nat)}(g:f=h++b)(i:l=dw h)(d:dw f=l++x ::a):∃e c,b=e ::c/\x=(e.1,e.2.1.X):=by
 subst g;subst i;rw[rY,List.append_cancel_left_eq]at d;cases b with
 | nil=>simp[dw]at d
 | cons e c=>grind [dw]
set_option maxRecDepth 10000 in
theorem NA (num:Int)(p:WI)(d7:cZ)(n f d:Nat)(E:List fh)(w:N)(h:dP w p d7 f d E)(hf:eX d7 n (cE f d E))(hL:PJ d7)(c3:Live (cE f d E))(ht:gp w)(hn:n<=1000000000000000)(f1:-9223372036854775808<=num)(f2:num<=9223372036854775807):
  Calls Wa 54 #[ca (Z ⟨p.P,0,Y⟩),.int .i64 num] w λe w'=>(∃z,e=Ua (L z)/\Bytes.B z=ir num (cE f d E))/\Below w.heap.size w w':=by
 refine(Ya (n:=12)).1 ?_;have HW:=aa h;have HF:=aa hf;change Hid _ at c3;have HT:=aa ht;have g1:f+d<=n:=hf.cnt;have U:=aa (ai (w:=w) (.cells #[ca Y,Q Y 0 0] 142));have a8:=aa (NQ w);clear h hf ht;refine callsIn_of_wp_marks Tryz.func54 rfl trivial ?_ rfl;simp only[Tryz.ntmps54,List.size_toArray,Zb,Ub,Nat.reduceAdd,Nat.reduceSub,Yc,Zc,List.push_toArray,List.append_toArray,Vc,Yb];gi_wp2_with fail;obtain⟨b,hb⟩:∃b,w.heap.size=b:=⟨_,rfl⟩;have k:=aa hb;rw[hb]at a8;rw[hb];clear hb;generalize w.alloc (.cells #[ca Y,Q Y 0 0] 142)=w1 at *;have c4:=aa (HW.keep U);have C7:∀s:Bw w1,s.val.cell? ⟨p.P,7,Y⟩=Z (.int .i64 (f:Int)):=λs=>(c4.keep s.is).head.Ri 7
 have C8:∀s:Bw w1,s.val.cell? ⟨p.P,8,Y⟩=Z (.int .i64 (d:Int)):=λs=>(c4.keep s.is).head.Ri 8
 have a0:∀(x:Int) (h0:-9223372036854775808<=x) (r:x<=9223372036854775807),∃z:ByteArray,Bytes.B z=Lib.itoa x/\z.size<=20/\∀s:Bw w1,Calls Wa 80 #[.int .i64 x] s.val λe w'=>e=Ua (L z)/\Below s.val.heap.size s.val w':=λx h0 r=>⟨⟨(Lib.itoa x).toArray⟩,rfl,by rw[Bytes.aj];exact eM h0 r,λs=>(tR x h0 r s.val ((HT.below U).below s.is)).mono λe w' ⟨⟨z,r,h2,_⟩,h3⟩=>⟨by
  have:z=⟨(Lib.itoa x).toArray⟩:=Bytes.bo (by rw[h2];rfl);rw[r,this],h3⟩⟩
 obtain⟨z0,d5,L0,c7⟩:=a0 num f1 f2;obtain⟨z1,d6,L1,c8⟩:=a0 (f:Int) (by omega) (by omega);obtain⟨z2,a1,L2,c9⟩:=a0 (d:Int) (by omega) (by omega);have d8:=aa λs=>aT (c7 s)
 have d9:=aa λs=>aT (c8 s)
 have e0:=aa λs=>aT (c9 s)
 have HZ:=aa (And.intro d5 (And.intro d6 a1));clear a0 c7 c8 c9 d5 d6 a1;gi_wp2_with fail;rename_i hK;have e6:=aa hK;clear hK;refine wpIn_wide.2 (bg 18 ?_);simp only[List.take_succ_cons,List.take_zero,List.drop_succ_cons,List.drop_zero];repeat go_big_quiet_step ((first|exact d8.out _|exact d9.out _|exact e0.out _))
 refine wpQuiet_nil ?_;intro s;generalize d1:((((((⟨#[119,105,110,100,111,119,32]⟩:ByteArray)++z0)++⟨#[32,114,101,106,101,99,116,115,32]⟩)++z1)++⟨#[32,100,114,111,112,115,32]⟩)++z2)++⟨#[10]⟩=hs;have b0:Bytes.B hs=jY num f d:=by
  obtain⟨r,h2,h3⟩:=HZ.out;rw[<-d1,fJ,fJ,fJ,fJ,fJ,fJ,r,h2,h3];rfl
 have g2:hs.size<=1000:=by
  obtain⟨r,h2,h3⟩:=HZ.out;have g:=Bytes.aj z0;have m:=Bytes.aj z1;have e3:=Bytes.aj z2;rw[r]at g;rw[h2]at m;rw[h3]at e3;rw[Bytes.aj,b0];simp only[jY,List.length_append,Zb,Ub];omega
 have H:=writeString b b (Q Y 0 0) [] hs s.val (a8.keep s.is) (by simp;omega);have e2:=aa (show Below b w s.val by rw[<-k.out];exact U.trans (s.is.mono U.size));have a5:=aa (a8.keep s.is);change Hid _ at b0;clear d1 C7 C8;go_wp2_with fail;refine H.mono ?_;clear H;rintro e T ⟨rfl,HO,v',a⟩;rw[b0.out,Vc]at a;have b6:Hid (Below b w T):=iC e2 HO (qS a5) (by
  have:=a5.head;rcases this with h|h<;>exact Wb h.lt)
 have a2:=aa a;clear a;have c5:=aa (HW.keep (by rw[k.out];exact b6));have c6:T.cell? ⟨p.P,6,Y⟩=Z (ca (Z ⟨p.M,0,Y⟩)):=c5.head.Ri 6;go_wp2_with fail;refine e6.out _ _ ?_;gi_wp2_with fail;refine⟨trivial,(Ya.2 (LQ p.M T)).mono ?_⟩;rintro e w3 ⟨rfl,rfl⟩;have HX:=aa (af.new T 145 #[ca (Z ⟨p.M,0,Y⟩)]);have b7:=aa (ai (w:=T) (.cells #[ca (Z ⟨p.M,0,Y⟩)] 145));have d0:b<T.heap.size:=by
  rcases a2.head with h|h<;>exact h.lt
 have e4:=aa (show Inv w b (jY num f d) E [] (T.alloc (.cells #[ca (Z ⟨p.M,0,Y⟩)] 145)) from
  Inv.keep ⟨⟨v',[],E,rfl,rfl,by simpa[dK,ff] using a2.out⟩,b6⟩ b7 (Wb d0))
 have e8:=aa (c5.sh.keep b7);have f9:E.length<=32:=by
  have r:=HF.len;have h2:=hL.s;have h3:=jd E;have h4:(cE f d E).fO=dK E:=rfl;rw[h4]at r;omega
 generalize hX:T.heap.size=X at HX d0 ⊢;have f8:=aa hX;have g5:(T.alloc (.cells #[ca (Z ⟨p.M,0,Y⟩)] 145)).heap.size=X+1:=by simp[hX]
 clear hX c6;generalize T.alloc (.cells #[ca (Z ⟨p.M,0,Y⟩)] 145)=w3 at *;gi_wp2_with fail;have hent:(dw E).length<=1000:=by rw[iZ];omega
 have e7:=aa (show ∀x∈dw E,x.1.length<=1000 from λx hx=>by
  simp only[dw,vd]at hx;obtain⟨y,hy,rfl⟩:=hx;have:=(HF.fO (y.1,y.2.2) (vd.2 ⟨y,hy,rfl⟩)).DS;grind)
 apply OL 6 X p.M p.R p.bs (dw E) rfl rfl HX e8 (vQ.2 (Bo.1 HF.up)) hent e7 (Inv w b (jY num f d) E)
  (λs A B S hb=>Inv.keep S hb (Wb S.size))
  (λs A Rk i u cs S hR hs=>Inv.QD S ((an.refl _ _).set (F:=[Rk]) (by simp) _ _) (by omega) (λv bs a=>a.Tj _ (by decide) (by decide) _ _ hs))
  (λs A l o o' S hl f0 HO=>Inv.QD S AE (by omega) (λv bs a=>wC a f0 HO)) e4
 case hassign=>
  intro l x W K hK;gi_wp2_with fail;exact hK
 case hbody=>
  intro l g6 x f7 W S he;obtain⟨⟨v,J,E2,g,m,a⟩,c⟩:=S;obtain⟨j,E3,rfl,rfl⟩:=Hr g m he;have e9:=aa (HW.keep (by rw[k.out];exact c));have a6:j∈E:=by rw[g];simp
  have b4:(j.1,j.2.2)∈(cE f d E).fO:=vd.2 ⟨j,a6,rfl⟩;have hfit:=HF.fO _ b4;have d4:=OU d7 n j.1 j.2.1 j.2.2 W (e9.fO j a6) hfit (HT.below (by rw[k.out];exact c)) hn hL.b1 (by have:=hL.t;omega) (λt ht=>c3.out _ b4 t ht);have f4:=uy hfit (by have:=hL.t;omega);have d2:=hfit.DS;have V:(hs.size:Int)=hs.size:=rfl;have hlen:(jY num f d++ff (dK J)).length<=1000+400*32:=by
   have r:(ff (dK J)).length<=400*(dK J).length:=ES λq hq=>by
    have f3:q∈(cE f d E).fO:=by
     show q∈dK E;grind [sx]
    have g0:=HF.fO _ f3;grind [uy,PJ.t,kT.DS]
   grind [jd,Bytes.aj,Hid]
  change Hid _ at g m;have c0:=aa a;have a7:=aa c;have kz:(⟨j.1.toArray⟩:ByteArray).size<=64:=by
   rw[Bytes.aj];exact d2
  have c2:Hid (Bytes.B ⟨j.1.toArray⟩=j.1):=rfl;clear a c b4 hfit d2 he;generalize e5:(⟨j.1.toArray⟩:ByteArray)=kb at *;change Hid _ at e5;gi_wp2_with fail;refine⟨trivial,(CallsIn.inRound l (Ya.2 d4)).mono ?_⟩;clear d4;rintro e W2 ⟨⟨z,rfl,V⟩,b3⟩;have g4:z.size<=200:=by rw[Bytes.aj,V];exact f4
  change Hid _ at V;have a9:=aa b3;have G:=aa (c0.keep b3);clear b3;gi_wp2_with fail;generalize d3:((kb++⟨#[61]⟩)++z)++⟨#[10]⟩=ss;have b9:Bytes.B ss=j.1++[61]++gV j.2.2++[10]:=by
   rw[<-d3,fJ,fJ,fJ,V.out,c2.out];rfl
  have f6:ss.size<=1000:=by grind [Bytes.aj,Hid]
  have H:=writeString b b v _ ss W2 G (by omega);refine⟨trivial,(CallsIn.inRound l (Ya.2 H)).mono ?_⟩;clear H;rintro e W3 ⟨rfl,HO,v3,a3⟩;change Hid _ at HO a3 b9;clear d3;gi_wp2_with fail;refine⟨(qM.ag a9).trans (xp G HO),⟨⟨v3,J++[j],E3,by rw[g.out];simp,by rw[m.out,rY];rfl,?_⟩,?_⟩⟩
  .have h5:=a3.out;rw[b9.out]at h5;rw[sx];show iI W3 b b v3 (jY num f d++ff (dK J++[(j.1,j.2.2)]));grind [yI]
  have a1:b<W.heap.size:=by
   rcases c0.head with h|h<;>exact h.lt
  have g3:=a9.size;exact iC (a7.trans (a9.mono (Wb a1))) HO (qS G) (by omega)
 case hdone=>
  intro D W hD S hK;obtain⟨⟨v,J,E2,g,m,a⟩,c⟩:=S;have hE:J=E:=by
   have r:(dw E).length=(dw J).length:=by rw[m]
   rw[iZ,iZ,g,List.length_append]at r;grind
  subst hE;have hst:=ET b b v _ W a (by
   have r:=Fp num f d;intro h2;rw[List.append_eq_nil_iff]at h2;grind)
  have b2:=aa hK;have a7:=aa c;have a4:=aa a;have f5:b<W.heap.size:=by grind
  clear hK c a;gi_wp2_with fail;refine⟨trivial,(Ya.2 hst).mono ?_⟩;clear hst;rintro e W6 ⟨rfl,b5⟩;have c1:Hid (W6.heap[D]? = Z (.deferred (Z []))):=(b5.block D (Va.1 b2).1 (wC a4 b2 rfl)).trans b2;have e1:=aa (iC a7 b5 (qS a4) (Wb f5));clear b5;generalize hrs:(⟨(jY num f d++ff (dK J)).toArray⟩:ByteArray)=rs;have b8:Bytes.B rs=ir num (cE f d J):=by
   rw[<-hrs];rfl
  change Hid _ at b8;clear hrs;gi_wp2_with fail;refine⟨by simp,.inl ⟨_,_,rfl,run_takeDeferred c1,?_⟩⟩;refine⟨_,results_tmp rfl _ _ _,⟨rs,rfl,b8⟩,?_⟩;rw[k.out];exact e1.trans (belowK_b (w:=w) (by rw[k.out];exact Za _) W6 D _ _ (by rw[k.out];omega) c1 rfl rfl)
def jE:List Bs->Nat
 | []=>0
 | d ::r=>(ed d 10+1)+jE r
theorem iX (a b:List Bs):jE (a++b)=jE a+jE b:=by
 induction a with
 | nil=>simp[jE]
 | cons d r c=>grind [jE]
theorem lK (k:Nat)(l:List Bs):jE (l.take k)<=jE l:=by grind [iX,List.take_append_drop]
theorem pN (d:Bs):(lines d).length=ed d 10+1:=by
 induction d with
 | nil=>rfl
 | cons c r a=>grind [lines,ed]
theorem mY {a:cZ}(f:2<=a.buckets)(b:List Bs):∀{n:Nat} {w:jh},eX a n w->eX a (n+jE b) (b.foldl (ju a) w):=by
 induction b with
 | nil=>intro n w h;exact h
 | cons d r g=>
  intro n w h;have c:=rp f (lines d) n w h;rw[pN]at c;have e:=g c;simp only[jE];rw[<-Nat.add_assoc];exact e
theorem ji.more {p:WI}{b:cZ}   {W:jh}(_:dP c p b i j h)(l:an (bj p f) a c)(m:∀x,x∈bj p h->x∈bj p f\/a.heap.size<=x)(o:ji c e p b h W):ji a e p b f W:=by
 obtain⟨g,d,n,r,s,t,u⟩:=o;refine⟨g,d,n,r,s,rU l t m,λy q=>?_⟩;rcases u y q with k|k
 .exact m y k
 have:=l.size;exact Or.inr (by omega)
def Row (w:N)(v:C)(d:List Bs):Prop:=∃a b,v=Q a d.length b/\d.length<=b/\∀(j:Nat) x,d[j]? = Z x->∃g c,a=Z ⟨g,c,Y⟩/\g<w.heap.size/\w.cell? ⟨g,c+j,Y⟩=Z (L ⟨x.toArray⟩)
theorem Row.below {e:List Bs}(h:Row a o e)(i:Below a.heap.size a c):Row c o e:=by
 obtain⟨k,d,n,q,r⟩:=h;refine⟨k,d,n,q,λj x s=>?_⟩;obtain⟨g,b,l,f,m⟩:=r j x s;exact⟨g,b,l,Nat.lt_of_lt_of_le f i.size,by rw[i.cell (p:=⟨g,b+j,Y⟩) f];exact m⟩
theorem nJ {c:Fin 6->Int}(h:oz c):Check.aJ (c 0) (c 1) (c 2) (c 3) (c 4) (c 5)=true:=by grind [oz.w,oz.s,oz.t,oz.b,oz.n,oz.g,Check.aJ,Check.zZ]
end Kr
end Go.Proofs.YtpndiccohnafbaaGreatDoor
