/- The records of all segments, one by one: the iterator. -/
import Derived.Test.YtpndiccohnafbaaGreatDoorOdy
import Derived.Test.YtpndiccohnafbaaGreatDoorJoy
set_option maxHeartbeats 9000000
open Go.Value renaming int->I,string->L
open Go.IntKind renaming i64->O
open List renaming length_append->ca,append_assoc->Ua
open Nat renaming zero_add->Va
open Go renaming Value->C
namespace Go.Proofs.YtpndiccohnafbaaGreatDoor.Jr
open Go.RowKit Go.Maps Mem Foot Bytes Im Wm Hi Plainw Cq
attribute [local go_sem] Oper.semAt_some
def Told:List (Int×ByteArray)->List (Int×List Rc)->Prop
 | [],[]=>True
 | (n,t) ::l,(m,rs) ::ss=>n=m/\(∀r∈rs,r.Ok)/\t.size<=140737488355328/\((B t=stx rs/\Told l ss)\/∃y,y≠[]/\(nX y).2=false/\B t=stx rs++y/\ss=[])
 | _,_=>False
def ct (x:Int×ByteArray):List Value:=[I O x.1,L x.2]
def zm (c:Nat)(A a:World):Prop:=Below c A a/\∀(k:Nat) (b:Array C) (t:TypeId),af A k t b->t=176\/t=125->af a k t b
variable {a b c:Nat}{d e:World}
theorem zm.trans {A c D:World}(h:zm a A c)(k:zm a c D):zm a A D:=⟨h.1.trans k.1,λb d t f e=>k.2 b d t (h.2 b d t f e) e⟩
theorem zm.ag (h:Below d.heap.size d e)(c:a<=d.heap.size):zm a d e:=⟨h.mono c,λ_ _ _ b _=>Mem.af.below b h b.lt⟩
abbrev Yr:={x:Et // x.2.Ok}
def Ob (x:Yr):Array Value:=#[.agg #[I O x.1.1.1,I O (x.1.1.2:Int)],x.1.2.val]
def oB (l:List Yr):List Et:=l.map (·.1)
theorem mX (a b:List Yr):oB (a++b)=oB a++oB b:=List.map_append ..
theorem lD (h:Below d.heap.size d e):d.grownBy e none:=⟨h.os,h.tape,h.output,h.size,λk a _=>h.block k a⟩
theorem cW {e:TypeId}{v:C}{m:List C}(h:d.ownsRow a e b v c m){i:Nat}{u:C}(j:m[i]? = some u):∃g f,v=.slice (some ⟨g,0,none⟩) c f/\c<=f/\(∃n,af d g e n)/\d.cell? ⟨g,i,none⟩=some u:=by
 rcases h.2 with ⟨_,r⟩|⟨g,f,k,rfl,t,o,p,_,_,q⟩
 .have s:=h.1;grind
 have l:af d g e k:=o;refine⟨g,f,rfl,p,⟨_,l⟩,?_⟩;rw[<-q,List.getElem?_take]at j;split at j
 .exact l.cell i u (by simpa using j)
 cases j
theorem uo:∀{l:List (Int×ByteArray)} {i:Nat} {x:Int×ByteArray},l[i]? = some x->(l.flatMap ct)[i*2]? = some (I O x.1)/\(l.flatMap ct)[i*2+1]? = some (L x.2):=by
 intro l
 induction l with
 | nil=>intro i x h;cases h
 | cons y l a=>
  intro i x h;cases i with
  | zero=>
   simp only[List.getElem?_cons_zero,Option.some.injEq]at h;subst h;exact⟨rfl,rfl⟩
  | succ i=>grind [ct]
theorem IL {v:C}{j:List C}(h:d.ownsRow b 176 2 v c j)(o:zm a d e):e.ownsRow b 176 2 v c j:=by
 refine⟨h.1,?_⟩;rcases h.2 with k|⟨g,i,f,rfl,l,n,m⟩
 .exact Or.inl k
 exact Or.inr ⟨g,i,f,rfl,l,o.2 g f _ n (Or.inl rfl),m⟩
theorem Mu {t:ByteArray}{a x:Bs}(h:B t=a++x):B (t.extract a.length t.size)=x:=by
 rw[bu,aj,h,List.drop_left,ca,Nat.add_sub_cancel_left,List.take_length]
theorem Rd.whole {e:Ending}{r:Rc}(h:Rd e (([r.k],r.n,B r.t),true)):e=.returned (.tuple #[.agg #[L ⟨#[r.k]⟩,I O r.n,L r.t],.bool true]):=by
 obtain⟨k,t,c,a,d⟩:=h;have b:k=⟨#[r.k]⟩:=bo (by rw[a];rfl);grind [bo]
theorem Rc.Ok.read {r:Rc}(h:r.Ok)(x:Bs):nX (r.tx++x)=(([r.k],r.n,B r.t),true):=by
 refine Ez ?_ h.n0 h.n1 ?_ x
 .intro e;grind [k]
 grind [aj,t]
theorem oo (a:List Rc)(r:Rc):stx (a++[r])=stx a++r.tx:=by simp[stx]
theorem Pr (r:Rc):0<r.tx.length:=by grind [Rc.tx,bC]
set_option maxRecDepth 10000 in
theorem OM (H w:World)(hT:gp H)(hE:oC H)(hw:Below H.heap.size H w)(m:Nat)(hm:1<=m)(Bx:Nat)(sv:C)(l:List (Int×ByteArray))(G:List (Int×List Rc))(D:af w Bx 125 #[sv])(E:w.ownsRow 0 176 2 sv l.length (l.flatMap ct))(ht:Told l G)(hl:l.length<=1000000000):
  SeqStopsK Fence.wide m Tryz.prog 148 #[.pointer (some ⟨Bx,0,none⟩)] Ob (zm H.heap.size) (λxs=>oB xs=aG G) (λc=>∃d9,oB c++d9=aG G) (aG G).length w:=by
 intro lp J Jx W hb hJ f6 hY h0;obtain⟨va,vc,rfl⟩:=ak E;have A:Hid (Below H.heap.size H W):=hw.trans (hb.mono hw.size);have e0:=aa (Mem.af.below D hb D.lt);have b8:=aa (aE E hb);have HY:=aa hY;have a5:=aa hJ;have H0:=aa h0;have HT:=aa hT;have HE:=aa hE;have f5:=aa ht;have c0:=e0.Ri 0;clear D E hY h0 hb hJ f6 hT hE ht hw;refine callsIn_of_wp Tryz.func148 rfl trivial ?_ rfl;simp only[Tryz.ntmps148,List.size_toArray,List.length_cons,List.length_nil,Nat.reduceAdd,Nat.reduceSub,Array.replicate_succ,Array.replicate_zero,List.push_toArray,List.append_toArray,List.nil_append,List.cons_append];gi_wp2_with fail;clear c0;gi_loopw [10] (λa wr=>∃(k:Nat) (c:List Yr) (rest:List (Int×List Rc)),a=I O (k:Int)/\k<=l.length/\Hid (Told (l.drop k) rest)/\Hid (oB c++aG rest=aG G)/\Hid (J c wr)/\Hid (zm H.heap.size W wr)) (λa _=>l.length - (intOf a).toNat)
 case atStart=>exact⟨0,[],G,rfl,Nat.zero_le _,f5,by simp[oB,Hid],H0,zm.ag (Below.refl _ _) A.size⟩
 case round=>
  obtain⟨k,c,rest,rfl,h7,v,b5,HJ,HK⟩:=hrel;rcases Nat.lt_or_ge k l.length with hk|hk
  .obtain⟨⟨num,t⟩,hx⟩:∃x,l[k]? = some x:=⟨_,List.getElem?_eq_getElem hk⟩;have S:l.drop k=(num,t) ::l.drop (k+1):=by
    rw[List.drop_eq_getElem_cons hk];grind
   rw[S]at v;have T:=v.out;cases rest with
   | nil=>exact T.elim
   | cons p rest=>
    obtain⟨g7,rs⟩:=p;obtain⟨rfl,c9,i1,d0⟩:=T;obtain⟨r1,r2⟩:=uo hx;obtain⟨g,h5,hv,g6,⟨cs,h9⟩,d1⟩:=cW (IL b8 HK) r1;obtain⟨g',g5,g2,_,_,d2⟩:=cW (IL b8 HK) r2;injection hv with e1 _ e3;injection g2 with c5 _ _;rw[e1]at c5;have eg:g=g':=by grind
    rw[<-eg]at d2;subst e1;subst e3;clear c5 eg r1 r2 S hx v;have e9:=aa c9;have f0:=aa d0;have d5:=af.new wr 176 #[I O num,L t];have a9:=ai (w:=wr) (.cells #[I O num,L t] 176);have g3:H.heap.size<=wr.heap.size:=Nat.le_trans A.size HK.1.size;have e6:=aa (HK.trans (zm.ag a9 g3));have e4:=aa (a5.out c _ _ none HJ (lD a9) (λ_ e=>by cases e));have b9:=aa d5;clear d5 a9 c9 d0 HJ HK;gi_wp2_with fail;generalize g1:wr.heap.size=sb at b9 ⊢;clear g1 d1 d2;generalize wr.alloc (.cells #[I O num,L t] 176)=i3 at *;have s:Hid (oB c++(br num 0 rs++aG rest)=aG G):=b5;gi_loopw [5] (λa wq=>∃(d lf:List Rc) (b:List Yr),a=I O ((stx d).length:Int)/\Hid (rs=d++lf)/\Hid (oB b=oB c++br num 0 d)/\Hid (J b wq)/\Hid (zm H.heap.size W wq)/\Hid (af wq sb 176 #[I O num,L t])) (λa _=>t.size - (intOf a).toNat)
    case atStart=>exact⟨[],rs,c,rfl,rfl,by simp[br,Hid],e4,e6,b9⟩
    case round=>
     obtain⟨d,lf,b,rfl,u,M,a6,K,P⟩:=hrel;obtain⟨y,hy,d7⟩:∃y,B t=stx rs++y/\((y=[]/\Told (l.drop (k+1)) rest)\/(y≠[]/\(nX y).2=false/\rest=[])):=by
      rcases f0.out with ⟨X,h2⟩|⟨y,X,h2,h3,h4⟩
      .exact⟨[],by rw[X,List.append_nil],Or.inl ⟨rfl,h2⟩⟩
      exact⟨y,h3,Or.inr ⟨X,h2,h4⟩⟩
     have R:B t=stx d++(stx lf++y):=by rw[hy,u.out,mT,Ua]
     have j:t.size=(stx d).length+((stx lf).length+y.length):=by rw[aj,R,ca,ca]
     have b2:=Mu R;have c8:(t.extract (stx d).length t.size).size<=140737488355328:=by
      rw[aj,b2,ca];omega
     have q0:wr.cell? ⟨sb,0,none⟩=some (I O num):=P.Ri 0;have q1:wr.cell? ⟨sb,1,none⟩=some (L t):=P.Ri 1;have c3:=aa (HT.below (A.trans K.1));have e2:=aa (HE.keep (A.trans K.1));have g4:H.heap.size<=wr.heap.size:=Nat.le_trans A.size K.1.size;have i:=AL (t.extract (stx d).length t.size) c8 wr c3 e2;rw[b2]at i;have a8:=aa d7;have g9:=aa R;clear hy d7 R b2 c8;cases lf with
     | nil=>
      have hrs:rs=d:=by rw[u.out,List.append_nil]
      by_cases o:y=[]
      .have h6:¬((stx d).length:Int)<(t.size:Int):=by
        rw[j,o];simp[stx]
       have f4:Hid (Told (l.drop (k+1)) rest):=a8.elim (λh=>h.2) λh=>absurd o h.1
       have a3:=aa (show oB b++aG rest=aG G by rw[M.out,<-hrs,Ua];exact s);clear i hrs o j;gi_wp2_with fail;go_roundw
       case rel=>exact⟨_,_,_,_,_,⟨k+1,by go_num,by omega,b,rest,f4,a3,a6⟩,rfl,rfl,rfl,rfl,rfl⟩
       case measure=>simp only[intOf];omega
      have f9:((stx d).length:Int)<(t.size:Int):=by
       have:=List.length_pos_iff.2 o;rw[j];omega
      have f2:Hid ((nX ([]++y)).2=false):=a8.elim (λh=>absurd h.1 o) λh=>h.2.1
      have a3:=aa (show oB b=aG G by
       have X:rest=[]:=a8.elim (λh=>absurd h.1 o) λh=>h.2.2
       have h2:=s.out;rw[X,hrs]at h2;rw[M.out,<-h2];simp[aG])
      rw[show stx ([]:List Rc)=[] from rfl]at i;clear hrs o j;gi_wp2_with fail;refine⟨trivial,(callsIn_wide.2 i).mono ?_⟩;clear i;rintro e wz ⟨⟨kk,tt,rfl,_,_⟩,q⟩;rw[f2.out];generalize (nX ([]++y)).1.2.1=nn;have b4:=aa q;clear q;gi_wp2_with fail;refine bodyPost_ret (results_none rfl _ _ _) rfl ?_;exact⟨⟨_,rfl⟩,.inl ⟨b,a3,a5.out b _ _ none a6 (lD (b4.trans ((ai _).mono b4.size))) (λ_ e=>by cases e)⟩⟩
     | cons r lf=>
      have f:r.Ok:=e9.out r (by rw[u.out];simp);have hst:stx (r ::lf)=r.tx++stx lf:=rfl;have i0:=Pr r;rw[hst,ca]at j;have f9:((stx d).length:Int)<(t.size:Int):=by
       rw[j];omega
      rw[hst,Ua,f.read]at i;have f7:r.n<=9223372036854775807:=by have:=f.n1;omega
      have f8:-9223372036854775808<=r.n:=by have:=f.n0;omega
      have g0:r.t.size<=140737488355328:=by have:=f.t;omega
      have U:=aa f;have c2:=aa j;clear hst f j;gi_wp2_with fail;refine⟨trivial,(callsIn_wide.2 i).mono ?_⟩;clear i;rintro e wz ⟨d4,q⟩;have he:=d4.whole;subst he;have F:=af.new wz 158 #[L ⟨#[r.k]⟩,I O r.n,L r.t];have c7:=ai (w:=wz) (.cells #[L ⟨#[r.k]⟩,I O r.n,L r.t] 158);have a1:=aa (q.trans (c7.mono q.size));have d6:=written ⟨#[r.k]⟩ r.n r.t (wz.alloc (.cells #[L ⟨#[r.k]⟩,I O r.n,L r.t] 158)) (c3.below a1) (show 1<=1000 by decide) f8 f7 g0;have x0:=F.Ri 0;have x1:=F.Ri 1;have x2:=F.Ri 2;have c1:=aa F;clear d4 q F c7;gi_wp2_with fail;refine⟨trivial,(callsIn_wide.2 d6).mono ?_⟩;clear d6 x0 x1 x2;rintro e w5 ⟨⟨z,rfl,hz⟩,b0⟩;have b3:z.size=r.tx.length:=by rw[aj,hz];rfl
      have a7:=aa (Mem.af.below c1 b0 c1.lt);have a2:=aa (a1.trans (b0.mono a1.size));have V:=aa (Mem.af.below P a2 P.lt);have e5:=aa (a5.out b _ _ none a6 (lD a2) (λ_ e=>by cases e));have e8:=aa (K.trans (zm.ag a2 g4));have x0:=a7.Ri 0;have x1:=a7.Ri 1;have x2:=a7.Ri 2;have y0:=V.Ri 0;have b6:=aa (show oB c++(br num 0 d++(((num,(stx d).length+r.tx.length),r) ::br num ((stx d).length+r.tx.length) lf)++aG rest)=aG G by
       rw[<-s.out,u.out,ee,Va];rfl)
      have d3:b.length<(aG G).length:=by
       have X:b.length=(oB b).length:=(List.length_map ..).symm;rw[X,M.out,<-b6.out];simp only[ca,List.length_cons];omega
      obtain⟨fn,g8,assign,body,d8,hR⟩:=HY.out b ⟨((num,(stx d).length+r.tx.length),r),U⟩ w5 e5 d3;have f1:=aa hR;simp only[Ob,Rc.val,Int.natCast_add]at d8;rw[<-b3]at d8;have i2:IntKind.i64.wrap (((stx d).length:Int)+(z.size:Int))=((stx d).length:Int)+(z.size:Int):=IntWalk.i64_in _ (by
       have:=c2.out;omega)
      have c4:=aa b3;clear hR b0 d3 b3 hz;gi_wp2_with fail;refine f1.mono ?_;have b7:=aa (show oB (b++[(⟨((num,(stx d).length+r.tx.length),r),U⟩:Yr)])=oB c++br num 0 (d++[r]) by
       rw[mX,M.out,ee,Va,Ua];rfl)
      rintro e W4 (⟨rfl,c6,b1⟩|⟨rfl,a0⟩)
      .have a4:=aa c6;have e7:=aa (e8.trans b1);have f3:=aa (b1.2 _ _ _ V (Or.inl rfl));clear c6 b1;gi_wp2_with fail;go_roundw
       case rel=>
        refine⟨d++[r],lf,_,?_,by rw[u.out,Ua];rfl,b7,a4,e7,f3⟩;rw[oo,ca,<-c4.out];simp
       case measure=>
        have X:=c2.out;have h2:=c4.out;simp only[intOf];omega
      have a4:=aa a0;clear a0;gi_wp2_with fail;refine bodyPost_ret (results_none rfl _ _ _) rfl ?_;refine⟨⟨_,rfl⟩,.inr ⟨_,⟨br num ((stx d).length+r.tx.length) lf++aG rest,?_⟩,a4⟩⟩;rw[b7.out,ee,Va,<-b6.out];simp[br]
  have S:l.drop k=[]:=List.drop_of_length_le hk;have h8:¬(k:Int)<(l.length:Int):=by omega
  rw[S]at v;have T:=v.out;cases rest with
  | cons p rest=>exact T.elim
  | nil=>
   gi_wp2_with fail;go_end0;exact⟨⟨_,rfl⟩,.inl ⟨c,by rw[<-b5.out];simp[aG],HJ⟩⟩
end Go.Proofs.YtpndiccohnafbaaGreatDoor.Jr
