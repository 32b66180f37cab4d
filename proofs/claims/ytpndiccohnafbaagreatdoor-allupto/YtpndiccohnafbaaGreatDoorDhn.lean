/- The program's disk: used, List. The program's disk: Delete. -/
import Derived.Test.YtpndiccohnafbaaGreatDoorDmmy
import Derived.Test.YtpndiccohnafbaaGreatDoorApo
open Option renaming some->Z,none->Y
open Go.Value renaming pointer->ca,int->I,slice->Q,ownBlock->Va,int->qb,slice->Wb
open Go.IntKind renaming i64->O
open List renaming getElem?_eq_getElem->Ua,mem_cons_self->Wa,eq_nil_of_length_eq_zero->Xa,nodup_cons->Za
open Go.World renaming ownsRow_nil->Ya,cell?_of_block->Ub
open Go.Proofs.Tryz renaming prog->eb
open Nat renaming le_trans->Vb
namespace Go.Proofs.YtpndiccohnafbaaGreatDoor.Dh
open Go.RowKit Mem Foot Dm
variable {b:Nat}{c:World}
theorem PD.keep {n:World}{f a:Nat}{g:List Nat}{S:Dk}(h:PD c b S f a g)(d:Below c.heap.size c n):PD n b S f a g:=
 ⟨h.head.below d h.head.lt,h.len,λe=>by
  obtain⟨o,k,p⟩:=h.arr e;exact⟨o,k.below d k.lt,p⟩,λi j s m l=>(h.seg i j s m l).below d (h.seg i j s m l).lt,h.apart,h.zF⟩
theorem jW {l:List bM}  {s:bM}(h:l[b]? = Z s):Dm.used (l.take (b+1))=Dm.used (l.take b)+s.text.size:=by grind [used,List.take_add_one]
theorem Mx (l:List bM)(k:Nat):Dm.used (l.take k)<=Dm.used l:=by grind [used,List.take_append_drop]
theorem used (v D m:Nat)(c:List Nat)(S:Dk)(w:World)(o:PD w v S D m c)(hl:c.length<=1000000000)(B:Dm.used S.ah<=1000000000000):
  Calls eb 86 #[ca (Z ⟨v,0,Y⟩)] w λe F=>w=F/\e=.returned (I O (Dm.used S.ah:Int)):=by
 obtain⟨l,c1,c2,R,T,U⟩:=eA o.head;have i:=aa o;clear o;unfold sl at l;by_cases f:c.length=0
 .rw[if_pos f]at l;have h:S.ah=[]:=Xa (i.len▸f);have j:=aa (show Dm.used S.ah=0 by rw[h];rfl);clear f h;go_in;go_wp2_with fail;go_loopw [3,11] (λu a wr=>u=I O 0/\a=I O 0/\wr=w) (λ_ _ _=>0)
  case atStart=>exact⟨rfl,rfl,rfl⟩
  case round=>
   obtain⟨rfl,rfl,rfl⟩:=hrel;go_wp2_with fail;go_ret;exact⟨rfl,congrArg (λz:Nat=>Ending.returned (I O (z:Int))) j.symm⟩
 rw[if_neg f]at l;obtain⟨P,x,q,y,d⟩:=i.arr (λe=>f (by rw[e];rfl));have HA:=aa x;change Hid _ at d B;clear x q;go_in;go_wp2_with fail;go_loopw [3,11] (λu a wr=>∃k n:Nat,u=I O (n:Int)/\a=I O (k:Int)/\wr=w/\k<=c.length/\Hid (n=Dm.used (S.ah.take k))) (λ_ a _=>c.length - (intOf a).toNat)
 case atStart=>exact⟨0,0,rfl,rfl,rfl,by omega,rfl⟩
 case round=>
  obtain⟨k,n,rfl,rfl,rfl,hk,A⟩:=hrel;by_cases g:k<c.length
  .have r:(k:Int)<(c.length:Int):=by omega
   obtain⟨b,p⟩:∃b,c[k]? = Z b:=⟨_,Ua g⟩;obtain⟨s,t⟩:∃s,S.ah[k]? = Z s:=⟨_,Ua (by rw[<-i.len];exact g)⟩;have H:=HA.cell k _ (d.out k b p);obtain⟨J,K,M,V,W,X⟩:=eA (i.seg k b s p t);have G:=aa (show n+s.text.size=Dm.used (S.ah.take (k+1)) by rw[jW t,A.out]);have E:n+s.text.size<=1000000000000:=by grind [Mx,Hid]
   clear p t;go_wp2_with fail;grind [intOf]
  have r:¬(k:Int)<(c.length:Int):=by omega
  have j:=aa (show n=Dm.used S.ah by grind [Hid,PD.len]);go_wp2_with fail;go_ret;exact⟨rfl,congrArg (λz:Nat=>Ending.returned (I O (z:Int))) j⟩
theorem Qf:(eb.info? 3).map (λi=>(i.zero,i.size,i.bytes))=Z (Z (I O 0),1,8):=by kernel_rfl
theorem list (R ba u:Nat)(d:List Nat)(S:Dk)(w:World)(z:PD w R S ba u d)(hl:d.length<=1000000000):
  Calls eb 28 #[ca (Z ⟨R,0,Y⟩)] w λe w'=>∃v,e=.returned (.tuple #[v,I O (fM S).2])/\w'.ownsRow w.heap.size 3 1 v (fM S).1.length ((fM S).1.map (qb O))/\Below w.heap.size w w':=by
 obtain⟨l,c1,c2,T,U,V⟩:=eA z.head;have q:=aa z;clear z;by_cases n:S.left=0
 .have D:(S.left==0)=true:=by simpa using n
  have o:Hid (fM S=([],8)):=if_pos n;go_in;go_wp2_with fail;go_ret2;rw[o.out];exact⟨_,rfl,Ya _ _ _ _,Below.refl _ _⟩
 have D:(S.left==0)=false:=by simpa using n
 have o:Hid (fM S=(S.ah.map (·.num),0)):=if_neg n;clear n;unfold sl at l;by_cases m:d.length=0
 .rw[if_pos m]at l;have j:S.ah=[]:=Xa (q.len▸m);change Hid _ at j;clear m;go_in;go_wp2_with fail;go_loopw [4,17] (λP c wr=>P=Q Y 0 0/\c=I O 0/\wr=w) (λ_ _ _=>0)
  case atStart=>exact⟨rfl,rfl,rfl⟩
  case round=>
   obtain⟨rfl,rfl,rfl⟩:=hrel;go_wp2_with fail;go_ret2;rw[o.out,j.out];exact⟨_,rfl,Ya _ _ _ _,Below.refl _ _⟩
 rw[if_neg m]at l;obtain⟨i0,hi,J,K,M⟩:=info_parts Qf;go_in;go_wp2_with fail;go_loopw [4,17] (λP c wr=>∃(k:Nat) (r:Option Addr) (cv:Nat),P=Q r k cv/\c=I O (k:Int)/\k<=d.length/\wr.ownsRow w.heap.size 3 1 (Q r k cv) k ((S.ah.take k).map λs=>qb O s.num)/\Below w.heap.size w wr) (λ_ c _=>d.length - (intOf c).toNat)
 case atStart=>exact⟨0,Y,0,rfl,rfl,by omega,Ya _ _ _ _,Below.refl _ _⟩
 case round=>
  clear l c1 c2 T U V;obtain⟨k,r,cv,rfl,rfl,hk,p,i⟩:=hrel;have h:=i.size;have a:=q.keep i;obtain⟨l,c1,c2,T,U,V⟩:=eA a.head;by_cases F:k<d.length
  .have G:(k:Int)<(d.length:Int):=by omega
   obtain⟨b,A⟩:∃b,d[k]? = Z b:=⟨_,Ua F⟩;obtain⟨s,H⟩:∃s,S.ah[k]? = Z s:=⟨_,Ua (by grind [PD.len])⟩;obtain⟨cs,W,B,X,f⟩:=a.arr (λe=>m (by rw[e];rfl));have a0:=W.cell k _ (f k b A);obtain⟨b0,b1,b2,g0,g1,g2⟩:=eA (a.seg k b s A H);have HT:=aa (show (S.ah.take k).map (λs=>qb O s.num)++[I O s.num]=(S.ah.take (k+1)).map (λs=>qb O s.num) by rw[List.take_add_one,H,List.map_append];rfl);clear A H W f B a;go_wp2_with (at_builtin;refine wpList_append_own _ rfl _ _ 35 rfl w.heap.size 3 i0 (I O 0) 1 8 Tryz.underlying35 hi J K M rfl (by decide) _ _ _ rfl (p.alloc _) ⟨wr.heap.size,0,Y⟩ 1 1 [I O s.num] rfl rfl (cell_one_new _ _ _) (λx hx=>by simp at hx;subst hx;rfl) (by unfold maxLen;omega) (by omega) (by simp;omega) ?_;intro v2 w2 g E a1)
   obtain⟨t,y,rfl⟩:=Own.shape g;go_roundw
   case rel=>exact⟨k+1,t,y,rfl,by go_num,by omega,by grind [Hid],Own.cz i h p E⟩
   grind [intOf]
  have G:¬(k:Int)<(d.length:Int):=by omega
  obtain rfl:k=S.ah.length:=by have:=q.len;omega
  change Hid _ at p i;clear a;go_wp2_with fail;go_ret2;rw[o.out];refine⟨_,rfl,?_,i⟩;have:=p.out;rw[List.take_length]at this;show wr.ownsRow w.heap.size 3 1 _ (S.ah.map (·.num)).length ((S.ah.map (·.num)).map (qb O));rw[List.map_map,List.length_map];exact this
def fD (a:List Nat):List Value:=a.map λb=>Value.pointer (Z ⟨b,0,Y⟩)
theorem vz (a:List Nat):∀u∈fD a,u.oneCell'=true:=by
 intro u c;obtain⟨b,_,rfl⟩:=List.mem_map.1 c;rfl
theorem GI:(eb.info? 102).map (λi=>(i.zero,i.size,i.bytes))=Z (Z (ca Y),1,8):=by kernel_rfl
theorem add_lit (b i j:Nat):(⟨b,i,Y⟩:Addr).add j=⟨b,i+j,Y⟩:=by grind [Addr.add]
theorem yE {e o:Nat}{part:List Nat}{a:Option Addr}  (f:part.length=b)(h:∀(j d:Nat),part[j]? = Z d->c.cell? ⟨e,o+j,Y⟩=Z (ca (Z ⟨d,0,Y⟩)))(g:b=0\/a=Z ⟨e,o,Y⟩):Apn.Src c 1 a b (fD part):=by
 refine⟨by simp[fD,f],vz _,?_⟩;grind [add_lit,fD]
theorem CE {v:Value}  (h:Apn.Same c (Q Y 0 0) v)(a:b<c.heap.size):Z b≠v.ownBlock:=by
 rcases h with h|⟨k,h,d⟩
 .rw[h];simp[Va]
 grind
theorem KD {wr x1 m:World}{l G v k N d:Nat}{a:List Nat}{S:Dk}{F:Value}{c:Option Addr}(h:PD wr l S G v a)(hN:N=k+(a.length - (k+1)))
  (f:wr.drew.grownBy x1 (Wb Y 0 0).ownBlock) (D:Apn.Same wr.drew (Q Y 0 0) F) (a4:F=Q Y 0 0↔Wb Y 0 0=Q Y 0 0/\k=0)
  (o:x1.grownBy m F.ownBlock) (X:m.ownsRow 0 102 1 (Q c N d) N (fD (a.take k)++fD (a.drop (k+1)))) (E:Apn.Same x1 F (Q c N d)) (a5:Wb c N d=Q Y 0 0↔F=Q Y 0 0/\a.length - (k+1)=0):
  an [l] wr (m.setCell ⟨l,0,Y⟩ (Q c N d))/\∃u n x,PD (m.setCell ⟨l,0,Y⟩ (Q c N d)) l ⟨S.ah.eraseIdx k,S.left,S.room⟩ u n x/\(∀b∈x,b∈a)/\(u=G\/wr.heap.size<=u):=by
 have K:=h.head.lt;have t:∀j,j<wr.heap.size->m.heap[j]? = wr.heap[j]? :=λj r=>(o.block j (Nat.lt_of_lt_of_le r f.size) (CE D r)).trans (f.block j r (by simp[Va]))
 have z:an [l] wr m:=⟨o.os.trans f.os,o.tape.trans f.tape,o.output.trans f.output,Vb f.size o.size,λj r _=>t j r⟩;have hE:a.eraseIdx k=a.take k++a.drop (k+1):=List.eraseIdx_eq_take_drop_succ ..;have hP:fD (a.take k)++fD (a.drop (k+1))=fD (a.eraseIdx k):=by grind [fD]
 rw[hP]at X;have hlen:(a.eraseIdx k).length=N:=by have:=X.1;simpa[fD] using this
 have hX:af m l 62 #[sl G a.length v,I O S.left,I O S.room]:=by
  unfold af;rw[t l K];exact h.head
 have B:∀(i b:Nat) (s:bM),(a.eraseIdx k)[i]? = Z b->(S.ah.eraseIdx k)[i]? = Z s->af (m.setCell ⟨l,0,Y⟩ (Q c N d)) b 104 (od s):=by
  intro i b s q A;rw[List.getElem?_eraseIdx]at q A;obtain⟨j,r,V⟩:∃j,a[j]? = Z b/\S.ah[j]? = Z s:=by
   split at q
   .rw[if_pos (by assumption)]at A;exact⟨i,q,A⟩
   grind
  have hS:=h.seg j b s r V;have hl:=hS.lt;refine af.but (b:=l) (w:=m) ?_ ((bS.refl l m).set _ _) (h.mS (List.mem_of_getElem? r)).1;grind [af]
 have J:=h.apart;rw[Za,Za]at J;refine⟨z.set (Wa ..) _ _,?_⟩;rcases X.2 with ⟨W,h0⟩|⟨g,n,H,W,_,hg,a3,M,P,htk⟩
 .refine⟨G,v,[],⟨?_,?_,λp=>absurd rfl p,λi b s q=>by simp at q,?_,λp=>absurd rfl p⟩,λb y=>(by cases y),Or.inl rfl⟩
  .rw[W];exact hX.set 0 _
  .grind [PD.len]
  grind
 have a0:N≠0:=by
  intro e;grind
 have T:wr.heap.size<=g:=by
  rw[W]at E;rcases E with e|⟨g',e,R⟩
  .rcases D with e1|⟨g1,e1,a1⟩
   .grind [Va]
   rw[e1]at e;simp[Va]at e;simp_all
  simp[Va]at e;subst e;exact Vb f.size R
 have U:g≠l:=by omega
 refine⟨g,n,a.eraseIdx k,⟨by have:=hX.set 0 (Q c N d);grind [sl],by rw[List.length_eraseIdx,List.length_eraseIdx,h.len],λp=>⟨H,af.but (b:=l) (w:=m) hg ((bS.refl l m).set _ _) U,by simpa using P,by omega,λi b q=>?_⟩,B,?_,λ_=>M⟩,λb y=>List.mem_of_mem_eraseIdx y,Or.inr T⟩
 .have h1:(fD (a.eraseIdx k))[i]? = Z (ca (Z ⟨b,0,Y⟩)):=by grind [fD]
  grind
 rw[Za,Za];have a2:∀b∈a,b<wr.heap.size:=λb y=>by
  obtain⟨i,q⟩:=List.getElem?_of_mem y;obtain⟨s,A⟩:∃s,S.ah[i]? = Z s:=⟨_,Ua (by grind [PD.len])⟩;exact(h.seg i b s q A).lt
 grind
set_option maxRecDepth 10000 in
theorem delete (m p f:Nat)(c:List Nat)(S:Dk)(n:Int)(w:World)(hP:PD w m S p f c)(hG:Dm.Good S)(hl:c.length<=1000000000):
  Calls eb 103 #[ca (Z ⟨m,0,Y⟩),I O n] w λe w'=>e=.returned (I O (aF S n).2)/\an [m] w w'/\∃q r A,PD w' m (aF S n).1 q r A/\(∀b∈A,b∈c)/\(q=p\/w.heap.size<=q):=by
 have T:=aa hP;have HG:=aa hG;clear hP hG;go_in;go_wp2_with fail;refine(operation m S _ w T.head HG.left).mono ?_;rintro e w1 ⟨rfl,i,l⟩;by_cases v:S.left=0
 .have hd:decide (S.left=0)=true:=decide_eq_true v;have F:Hid (aF S n=(S,8)):=if_pos v;rw[if_pos v]at l;have z:=aa (T.fQ i l);have R:=aa i;clear i l;rw[hd];go_wp2_with fail;go_ret;rw[F.out];exact⟨rfl,an.cV R (Wa ..),p,f,c,z,λ_ h=>h,Or.inl rfl⟩
 have hd:decide (S.left=0)=false:=decide_eq_false v;rw[qz v]at l;have z:=aa (T.fQ i l);have R:=aa i;change Hid _ at v;clear i l;rw[hd];obtain⟨W,c1,c2,f0,f1,f2⟩:=eA z.head;unfold sl at W;by_cases hz:c.length=0
 .rw[if_pos hz]at W;have d:S.ah=[]:=Xa (T.len▸hz);have F:=aa (show aF S n=(op S,9) by rw[aF,if_neg v.out,d];rfl);clear hz d;go_wp2_with fail;go_loopw [15] (λu wr=>u=I O 0/\wr=w1) (λ_ _=>0)
  case atStart=>exact⟨rfl,rfl⟩
  case round=>
   obtain⟨rfl,rfl⟩:=hrel;go_wp2_with fail;go_ret;rw[F.out];exact⟨rfl,an.cV R (Wa ..),p,f,c,z,λ_ h=>h,Or.inl rfl⟩
 rw[if_neg hz]at W;obtain⟨cs,hA,a7,b3,y⟩:=z.arr (λe=>hz (by rw[e];rfl));have HA:=aa hA;change Hid _ at y;clear hA a7;go_wp2_with fail;go_loopw [15] (λu wr=>∃k:Nat,u=I O (k:Int)/\wr=w1/\k<=c.length/\Hid (∀j t,j<k->S.ah[j]? = Z t->t.num≠n)) (λu _=>c.length - (intOf u).toNat)
 case atStart=>exact⟨0,rfl,rfl,by omega,λj t h=>by omega⟩
 case round=>
  obtain⟨k,rfl,rfl,hk,U⟩:=hrel;by_cases X:k<c.length
  .have a8:(k:Int)<(c.length:Int):=by omega
   obtain⟨b,hb⟩:∃b,c[k]? = Z b:=⟨_,Ua X⟩;obtain⟨s,HS⟩:∃s,S.ah[k]? = Z s:=⟨_,Ua (by rw[<-T.len];exact X)⟩;have a0:=HA.cell k _ (y.out k b hb);obtain⟨b0,b1,b2,g0,g1,g2⟩:=eA (z.seg k b s hb HS);change Hid _ at HS;clear hb;by_cases d:s.num=n
   .have a9:(s.num==n)=true:=by simpa using d
    have G:Hid (Apn.Src wr.drew 1 (Z ⟨p,0,Y⟩) k (fD (c.take k))):=yE (o:=0) (by simp;omega) (λj b B=>by
     rw[List.getElem?_take]at B;split at B
     .rw[Nat.zero_add];exact HA.cell j _ (y.out j b B)
     cases B) (Or.inr rfl)
    have H:=aa (show ∀x:World,x.heap[p]? = wr.heap[p]?->Apn.Src x 1 (if f=k+1 then Z ⟨p,0,Y⟩ else Z ⟨p,k+1,Y⟩) (c.length - (k+1)) (fD (c.drop (k+1))) from λx hx=>yE (o:=k+1) (by simp) (λj b B=>by
     rw[List.getElem?_drop]at B;rw[Ub (w:=wr) hx];exact HA.cell (k+1+j) _ (y.out (k+1+j) b B)) (by grind))
    obtain⟨i0,hi,a1,a2,a3⟩:=info_parts GI;have c5:k<=f:=by omega
    have c6:IntKind.i64.wrap ((k:Int)+1)=((k+1:Nat):Int):=by grind [IntKind.wrap,IntKind.bits]
    have b9:k+1<=c.length:=by omega
    have c3:0<=(k:Int)+1:=by omega
    have c4:(k:Int)+1<=(c.length:Int):=by omega
    have E:=aa z.head.lt;have a5:=aa HA.lt;go_wp2_with fail;go_region_law (first|(refine Apn.yH rfl (.const (Q Y 0 0)) (.tmp 32) 60 rfl 102 i0 (ca Y) 1 8 Tryz.underlying60 hi a1 a2 a3 rfl (by decide) (Q Y 0 0) 0 [] rfl (Ya _ _ _ _) _ _ _ (fD (c.take k)) rfl G (by unfold maxLen;omega) (by omega) ?_;intro v1 x1 o1 g M a4;have b5:=g.cell (a:=⟨m,0,Y⟩) W (by simp[Va]) )|(refine Apn.yH rfl (.tmp 33) (.tmp 40) 60 rfl 102 i0 (ca Y) 1 8 Tryz.underlying60 hi a1 a2 a3 rfl (by decide) v1 _ _ rfl o1 _ _ _ (fD (c.drop (k+1))) rfl (H.out _ (g.block p a5 (by simp[Va]))) (by unfold maxLen;omega) (by omega) ?_;intro v2 x2 o2 J P K;obtain⟨b4,b7,rfl⟩:=Own.shape o2;have D:x2.heap[m]? = wr.heap[m]? :=(J.block m (Nat.lt_of_lt_of_le E g.size) (CE M E)).trans (g.block m E (by simp[Va]));have b6:=(Ub (w:=wr) (w':=x2) (a:=⟨m,0,Y⟩) D).trans W;have b8:=(World.frozen?_of_block (w:=wr) (w':=x2) (a:=⟨m,0,Y⟩) D).trans f0;change Hid _ at D))
    all_goals
     simp only[Nat.zero_add,List.nil_append]at o2 P K;have V:=aa (KD z rfl g M a4 J o2 P K);have F:=aa (show aF S n=(⟨S.ah.eraseIdx k,(op S).left,S.room⟩,0) by rw[aF,if_neg v.out,lN U HS d];rfl);clear g M a4 J o2 P K o1;go_wp2_with fail;all_goals
      go_ret;rw[F.out];obtain⟨ho,q,r,A,hp,hm,a6⟩:=V.out;exact⟨rfl,(an.cV R (Wa ..)).trans ho,q,r,A,hp,hm,a6.imp id (Vb R.size)⟩
   have a9:(s.num==n)=false:=by simpa using d
   have HF:=aa (show ∀j t,j<k+1->S.ah[j]? = Z t->t.num≠n from λj t B ht=>by grind [Hid]);clear d;go_wp2_with fail;go_roundw
   case rel=>exact⟨k+1,by go_num,trivial,by omega,HF⟩
   grind [intOf]
  have a8:¬(k:Int)<(c.length:Int):=by omega
  have F:=aa (show aF S n=(op S,9) by rw[aF,if_neg v.out,um (λj t ht=>U.out j t (by have:=(List.getElem?_eq_some_iff.1 ht).1;have:=T.len;omega) ht)]);go_wp2_with fail;go_ret;rw[F.out];exact⟨rfl,an.cV R (Wa ..),p,f,c,z,λ_ h=>h,Or.inl rfl⟩
end Go.Proofs.YtpndiccohnafbaaGreatDoor.Dh
