/- The law of daemons on disks that fail: what a new daemon finds is one of the worlds that may be. -/
import Derived.Test.YtpndiccohnafbaaGreatDoorUqy
import Derived.Test.YtpndiccohnafbaaGreatDoorGf
set_option maxHeartbeats 9000000
open Go.Value renaming slice->Q,pointer->ca,tuple->Va,int->I,bool->bO,slice->te
open Option renaming some->Z,none->Y,getD_some->Xd
open Go.Ending renaming returned->Ua
open Go.IntKind renaming i64->O
open List renaming mem_singleton->Wa,mem_append_left->qb,mem_cons_of_mem->Ub,mem_cons_self->Xb,mem_append->Zb,mem_append_right->Uc,getElem?_cons_zero->Xc,getElem?_cons_succ->Yc,getElem?_toArray->ed,length_take->vd,mem_of_getElem?->zd,getElem?_eq_getElem->Ud,map_cons->Ve,map_nil->Xe
open Or renaming inl->Xa,inr->eb
open Nat renaming le_trans->Ya,le_refl->Vb,lt_of_lt_of_le->Vc,zero_le->Zc,le_succ->Ue,lt_irrefl->Ye
open Go.Proofs.Tryz renaming prog->Za
open Go renaming World->Wb,Calls->Yb,wpQuiet_nil->ad
open And renaming intro->Wc
open Int renaming le_refl->Vd
open Go.RowKit.Below renaming refl->Zd
namespace Go.Proofs.YtpndiccohnafbaaGreatDoor.Lw
open Go.RowKit Go.Maps Go.Shelf Mem Foot Bytes Im Wm Hi Plainw Cq Dm Dh Jr Wi Sk Hn Kr Dd
variable {w0 w w' w1 W W1 W2 : Wb} {r n m n0 X ba cap B : Nat} {bs : List Nat} {R R' : Rn} {p p' : Rp} {F F' G : List Nat} {S S' : Dk} {V : Wd} {dv hv v v' : Value} {e : We} {l : List We} {D : Dn} {q : Pl} {K : List (Int × List Rc)} {b : List Rc} {H : Hs}
theorem Fits.PY (h:Fits R.c V H):zo R.c V (bI R.c H.ae) (eK H).onum H.ar.length (qF R.c (eK H).onum H.ar):=by
 obtain⟨k,b,i,j⟩:=h.k;have f:H.ar.length=k:=by rw[b,vd];omega
 have d:(eK H).onum=BS V H.ar.length:=by
  unfold eK BS;by_cases a:H.ar=[]
  .rw[if_pos a,if_pos (by rw[a];rfl)];show H.g+1=_;rw[h.tp]
  rw[if_neg a,if_neg λe=>a (List.length_eq_zero_iff.1 e),h.num a]
 refine⟨h.due,by omega,by omega,d,?_⟩;rw[<-d,f,<-b]
theorem Ka (R:Rn):(dV R).length<=2*(R.W.hs.length+2):=by
 have b:=sZ R;have a:(qh R (R.W ::cY R)).length<=(R.W ::cY R).length:=by
  unfold qh;rw[List.length_map];exact List.length_filter_le ..
 rw[List.length_cons]at a;unfold dV;repeat' split
 all_goals simp only[List.length_append,List.length_cons,List.length_nil]
 all_goals omega
theorem Ij {b k c:Nat}{a:Option Addr}{t:TypeId}{l:List Value}(h:w.ownsRow b t 1 (Q a n c) n l)(s:k<=n):w.ownsRow b t 1 (Q a k c) k (l.take k):=by
 have v:=h.1;refine⟨by rw[vd];omega,?_⟩;rcases h.2 with ⟨i,j⟩|⟨g,cap,d,i,j,o,u,p,q,r⟩
 .injection i with e m f;exact Xa ⟨by rw[e,f,show k=0 by omega],by omega⟩
 injection i with e m f;refine eb ⟨g,cap,d,by rw[e,f],j,o,by omega,p,q,?_⟩;rw[<-r,List.take_take,Nat.mul_one,Nat.mul_one,Nat.min_eq_left s]
theorem RA.SG {c:Wd}(h:RA w r R p F)(m:an [r] w w')(n:af w' r 40 (fe {R with W:=c} {p with dv:=dv,hv:=hv}))(i:oF w dv hv c)(f:∀k∈dv.ownBlock.toList,k∈p.dv.ownBlock.toList\/k∉rf r p F)(j:∀k∈hv.ownBlock.toList,k∈p.hv.ownBlock.toList\/k∉rf r p F):
  RA w' r {R with W:=c} {p with dv:=dv,hv:=hv} F/\∀k∈lf r {p with dv:=dv,hv:=hv},k∈lf r p\/k∈dv.ownBlock.toList/\k∉rf r p F\/k∈hv.ownBlock.toList/\k∉rf r p F:=by
 have g:∀k∈lf r {p with dv:=dv,hv:=hv},k∈lf r p\/k∈dv.ownBlock.toList/\k∉rf r p F\/k∈hv.ownBlock.toList/\k∉rf r p F:=λk b=>by
  rcases lF b with e|e|e|e|e|e|e|e
  .exact Xa (e▸mA r p)
  .exact(f k e).imp xF λh=>Xa ⟨e,h⟩
  .exact(j k e).imp Am λh=>eb ⟨e,h⟩
  .exact Xa (tr e)
  .exact Xa (DU e)
  .exact Xa (An e)
  .exact Xa (xG e)
  exact Xa (Ao e)
 have a:=h.rows;refine⟨h.put m n ⟨i,a.ever,a.gone,a.lists,a.grown,a.aG,a.ml,λk b=>⟨λl=>?_,(a.e1 k b).2⟩,a.e2⟩ h.rm λk b d=>?_,g⟩
 .rcases f k l with e|e
  .exact(a.e1 k b).1 e
  exact e (qb _ (tr b))
 rcases g k (Ub _ b) with e|⟨_,e⟩|⟨_,e⟩
 .exact h.ap k e d
 .exact e (Uc _ d)
 exact e (Uc _ d)
def SX (c:Fin 6->Int)(l:List We)(b:List Ms)(op:Int)(k:Nat)(z:ByteArray)(i:Nat)(a:Int):Prop:=
 (a = -1/\∀(j:Nat) e,j<i->l[j]? = Z e->¬zo c e.V b op k z)\/∃(j:Nat) (e:We),a=(j:Int)/\l[j]? = Z e/\zo c e.V b op k z
set_option maxRecDepth 10000 in
theorem Oi (ra:RA w r R p (df X q))(hx:p.xv=ca (Z ⟨X,0,Y⟩))(da:DA w X (Dg R.c S' H) q)(dl:DL (Dg R.c S' H) K [] H H.ar.length n)(ht:gp w)(dr:Dr R S n)(hn:n<=7000000)(hV:V∈dV R)(hf:Fits R.c V H)(i3:p.ls.length<=100000000):
  Yb Za 35 #[ca (Z ⟨r,0,Y⟩)] w λe w'=>e=Ua (Va #[])/\∃E p' V',V'∈dV R/\V'.due=bI R.c H.ae/\H.ar.length<=V'.hs.length/\ia E R.gone R.sl V'.due V'.tp n/\
   RA w' r {R with ever:=E,W:=⟨V'.due,(eK H).onum,V'.hs.take H.ar.length,(H.ar.length:Int),V'.tp⟩} p' (df X q)/\p'.ls.length=p.ls.length+1/\(p'.xv=p.xv/\p'.bx=p.bx)/\(∀k∈lf r p',k∈lf r p\/w.heap.size<=k)/\an (lf r p) w w':=by
 have B:=dl.bn;have e5:(bI R.c H.ae).length<=n:=B.dues;have i2:H.ar.length<=n:=B.cnt;have b5:=Oa w X _ q da (by show (bI R.c H.ae).length<=_;omega);have b2:=aa (λ(W:Wb) (B:Below w.heap.size w W)=>xR (da.keep B) dl (by omega) (ht.below B));have h7:=aa (λ(W:Wb) (B:Below w.heap.size w W)=>MW (ra.keep B) dr hn);have d5:Hid (kh (bI R.c H.ae)):=dl.dk.ok.bQ;have d6:=aa (show ∀x∈bI R.c H.ae,x.k<=H.g from λx hx=>by
  obtain⟨s,hs,rfl⟩:=List.mem_map.1 hx;exact(dl.dk.dW.sn s hs).2)
 have b3:=aa ra;have b9:=aa dr;have a8:=aa hf.PY;have HV:=aa hV;have g8:=aa hf;have e0:=aa (λk (f:k∈df X q)=>da.lt k f);have c6:w.cell? ⟨r,6,Y⟩=Z (ca (Z ⟨X,0,Y⟩)):=hx▸ra.head.Ri 6;have g6:=aa c6;clear ra hx da dl ht dr hV hf B;have d7:Hid (fq (Dg R.c S' H)=qF R.c (eK H).onum H.ar):=rfl;rw[d7.out]at b2;change Yb _ _ _ _ (λe w'=>∃v,e=Ua v/\w'.ownsRow w.heap.size 47 2 v (bI R.c H.ae).length (aH (bI R.c H.ae))/\Below w.heap.size w w') at b5;obtain⟨A,D⟩:∃A,bI R.c H.ae=A:=⟨_,rfl⟩;obtain⟨op,y⟩:∃op,(eK H).onum=op:=⟨_,rfl⟩;obtain⟨z,hz⟩:∃z,qF R.c op H.ar=z:=⟨_,rfl⟩;obtain⟨k,f⟩:∃k,H.ar.length=k:=⟨_,rfl⟩;have b2:=aa (show ∀W:Wb,Below w.heap.size w W->Yb Za 46 #[ca (Z ⟨X,0,Y⟩)] W λe w'=>e=Ua (Va #[I O op,I O (k:Int),.string z])/\Below W.heap.size W w' from λW B=>by
  have o:=b2.out W B;rw[show (Dg R.c S' H).num=op from y,show (Dg R.c S' H).count=k from f,y,hz]at o;exact o)
 rw[y,hz,f,D]at a8;rw[D]at d5 d6 b5 e5 ⊢;rw[y,f] at⊢;rw[f]at i2;have i7:=aa D;have i8:=aa f;clear D y hz f d7;go_in;go_wp2_with fail;refine b5.mono ?_;clear b5 c6;rintro e w1 ⟨v,rfl,ho,B⟩;obtain⟨va,vc,rfl⟩:=ak ho;have HO:=aa ho;have a7:=aa B;have c6:=(a7.cell (p:=⟨r,6,Y⟩) b3.head.lt).trans g6;have y:=b2.out w1 B;clear ho B;go_wp2_with fail;refine y.mono ?_;clear y c6;rintro e w2 ⟨rfl,c4⟩;have t:=aa (a7.trans (c4.mono a7.size));have b1:=aa (aE HO c4);have f0:=h7.out w2 t;clear c4 HO a7;go_wp2_with fail;refine f0.mono ?_;clear f0;rintro e w3 ⟨lv,l,rfl,hl,e8⟩;obtain⟨la,lc,rfl⟩:=ak hl.row;have HL:=aa hl;have c1:=aa e8;have c2:=aa (aE b1 hl.b);clear hl e8;go_wp2_with fail;have d8:=aa (λ(j:Nat) e (G:l[j]? = Z e)=>show e.V∈dV R by
  rw[<-c1.out];exact List.mem_map_of_mem (zd G))
 have j9:l.length<=1000000000:=by
  have o:=Ka R;have h2:=b9.len;rw[<-c1.out,List.length_map]at o;omega
 go_loopw [7,8] (λs7 s8 W=>∃(i:Nat) (a:Int),s7=I O a/\s8=I O (i:Int)/\i<=l.length/\Hid (Below w3.heap.size w3 W)/\Hid (SX R.c l A op k z i a)) (λ_ s8 _=>l.length - (intOf s8).toNat)
 case atStart=>exact⟨0,-1,rfl,rfl,Zc _,Zd _ _,Xa ⟨rfl,λj e h=>absurd h (Nat.not_lt_zero _)⟩⟩
 case round=>
  obtain⟨i,a,rfl,rfl,j7,HB,b8⟩:=hrel;have u:=aa (HL.keep HB);by_cases hi:i<l.length
  .have i0:(i:Int)<(l.length:Int):=by omega
   obtain⟨e,G⟩:∃e,l[i]? = Z e:=⟨_,Ud hi⟩;have hw:=b9.Ts hn (d8.out i e G);have d0:=b3.keep (t.trans (u.b.mono t.size));have m:=(u.PV e (zd G)).at d0.rows;have b6:=Qa d0.cfg m (aE c2 HB) op k z (λ_=>hw.doc k) (by omega) (by have:=hw.due;omega) (by have:=hw.hs;omega) (by omega) hw.tp;unfold Ki wv at b6;obtain⟨g,gc,hv,e7,c5,g0,g1,g2,g3,g4⟩:=AP u.row G;injection hv with e1 e2 e3;subst e1;subst e3;have HE:=aa G;obtain⟨ev,eh,V'⟩:=e;obtain⟨ea,ec,rfl⟩:=ak (show wr.ownsRow 0 _ _ ev V'.due.length _ from m.due);obtain⟨U,fc,rfl⟩:=ak (show wr.ownsRow 0 _ _ eh V'.hs.length _ from m.held);simp only at g0 g1 g2 g3 g4 b6;clear e2 G hw d0 m c5;go_wp2_with fail;refine b6.mono ?_;clear b6 g0 g1 g2 g3 g4;rintro e w4 ⟨q,rfl,hq,e4⟩;have d1:=aa (HB.trans (e4.mono HB.size));have HQ:=aa hq;clear e4 hq;cases q with
   | false=>
    go_wp2_with fail;go_roundw
    case rel=>exact⟨i+1,a,rfl,by go_num,by omega,d1,b8.imp (λh=>⟨h.1,λj e hj G hf=>by
     rcases Nat.lt_or_ge j i with o|o
     .exact h.2 j e o G hf
     obtain rfl:j=i:=by omega
     rw[HE.out]at G;cases G;exact absurd (HQ.2 hf) (by decide)⟩) id⟩
    case measure=>simp only[intOf];omega
   | true=>
    go_wp2_with fail;go_roundw
    case rel=>exact⟨i+1,i,rfl,by go_num,by omega,d1,eb ⟨i,_,rfl,HE,HQ.1 trivial⟩⟩
    case measure=>simp only[intOf];omega
  have i0:¬(i:Int)<(l.length:Int):=by omega
  obtain⟨j,e,rfl,G,e6⟩:∃(j:Nat) (e:We),a=(j:Int)/\l[j]? = Z e/\zo R.c e.V A op k z:=by
   rcases b8.out with ⟨_,h2⟩|h
   .have o:=HV.out;rw[<-c1.out]at o;obtain⟨e,h3,h4⟩:=List.mem_map.1 o;obtain⟨j,hj,h5⟩:=List.mem_iff_getElem.1 h3;exact absurd (h4▸a8.out) (h2 j e (by omega) (by rw[Ud hj,h5]))
   exact h
  have j8:(0:Int)<=(j:Int):=by omega
  have HE:=aa G;have J:=aa e6;clear G e6 b8;go_wp2_with (go_at_call 11;refine(dX r _).mono ?_;rintro e' w' ⟨rfl,rfl⟩)
  have c3:=aa (d8.out j e HE);have h0:=aa (zi HV c3 (J.1.symm.trans a8.1) a8.2.2.1 J.2.2.1);have T:=aa (t.trans (u.b.mono t.size));have c8:∀k∈(te va A.length vc).ownBlock.toList,w.heap.size<=k/\k<w2.heap.size:=λk f=>⟨kD b1 f,kE b1 f⟩
  have b0:=aa c8;have c0:=aa (show ∀k∈lf r p++df X q,k<w.heap.size from λk f=>(Zb.1 f).elim (b3.lt k) (e0.out k));have g9:=aa (show ia R.ever R.gone R.sl A e.V.tp n by
   have o:=b9.eZ e.V c3;rw[<-J.1]at o;exact o)
  have e9:=NB (b3.keep T) (λk f=>Vc (e0.out k f) T.size) g9 d5 e5 (λx hx=>by rw[h0.1,<-g8.tp];exact d6.out x hx) (by omega) (Apn.weaken (aE c2 HB)) (λk f e=>by
   have o:=c8 k f;have h2:=c0.out k e;omega) i3
  clear c8;refine e9.mono ?_;clear e9;rintro e' P ⟨rfl,E,p5,f1,f2,f3,⟨f4,f5,f6,f7⟩,f8,f9⟩;have HF:=aa (Wc f1 (Wc f2 (Wc f3 (Wc f4 (Wc f5 (Wc f8 f9))))));have b7:∀k:Nat,w2.heap.size<=k->k∉lf r p++(te va A.length vc).ownBlock.toList:=λk o h2=>by
   have h3:=t.size;rcases Zb.1 h2 with h|h
   .have:=c0.out k (qb _ h);omega
   have:=(b0.out k h).2;omega
  have a5:=u.PV e (zd HE);have g7:=aa (show El P {R with ever:=E} p5 w2.heap.size e from⟨a5.d.imp (λh=>⟨h.1.trans f6.symm,h.2⟩) λh=>aq h f9 λk f=>b7 k (kD h f),a5.h.imp (λh=>⟨h.1.trans f7.symm,h.2⟩) λh=>aq h f9 λk f=>b7 k (kD h f)⟩);have i4:=aq u.row f9 λk f=>b7 k (kD u.row f)
  have m:=g7.at f1.rows;have a9:Hid (k<=e.V.hs.length):=J.2.2.1;obtain⟨g,gc,hv,e7,c5,g0,g1,g2,g3,g4⟩:=AP i4 HE;injection hv with e1 e2 e3;subst e1;subst e3;obtain⟨ev,eh,V'⟩:=e;obtain⟨ea,ec,rfl⟩:=ak (show P.ownsRow 0 _ _ ev V'.due.length _ from m.due);obtain⟨U,fc,rfl⟩:=ak (show P.ownsRow 0 _ _ eh V'.hs.length _ from m.held);have h9:k<=fc:=Ya a9 (zE (show P.ownsRow 0 _ _ (Q U V'.hs.length fc) V'.hs.length _ from m.held));have h8:P.cell? ⟨r,25,Y⟩=Z (bO true):=f1.head.Ri 25;simp only at g0 g1 g2 g3 g4;have i1:(j:Int)<(l.length:Int):=by
   have:=(List.getElem?_eq_some_iff.1 HE).1;omega
  have i5:=T.size;have i6:=u.b.size;have a6:∀k,w2.heap.size<=k->k<w'.heap.size->k∉rf r p5 (df X q):=λk o h2 h3=>by
   have h4:=t.size;rcases f8 k h3 with h|h|h
   .have:=c0.out k h;omega
   .have:=(b0.out k h).2;omega
   omega
  have d2:=aa (show ∀k∈(te ea V'.due.length ec).ownBlock.toList,k∈p5.dv.ownBlock.toList\/w2.heap.size<=k/\k∉rf r p5 (df X q) from λk f=>a5.d.elim (λh=>Xa (by rw[f6,<-h.1];exact f)) λh=>eb ⟨kD h f,a6 k (kD h f) (kE h f)⟩);have d3:=aa (show ∀x∈(te U k fc).ownBlock.toList,x∈p5.hv.ownBlock.toList\/w2.heap.size<=x/\x∉rf r p5 (df X q) from λx hx=>
   have f:x∈(te U V'.hs.length fc).ownBlock.toList:=by cases U<;>exact hx
   a5.h.elim (λh=>Xa (by rw[f7,<-h.1];exact f)) λh=>eb ⟨kD h f,a6 x (kD h f) (kE h f)⟩)
  have h6:=aa (show oF P (Q ea V'.due.length ec) (Q U k fc) ⟨V'.due,op,V'.hs.take k,(k:Int),V'.tp⟩ from⟨m.due,by
   have o:=Ij (show P.ownsRow 0 _ _ (Q U V'.hs.length fc) V'.hs.length _ from m.held) a9;rw[<-List.map_take]at o;show P.ownsRow 0 _ _ _ (V'.hs.take k).length _;rw[vd,Nat.min_eq_left a9];exact o⟩)
  have b4:=ai (w:=P) (.cells #[Q ea V'.due.length ec,I O op,Q U k fc,I O (k:Int),I O V'.tp] 34);have M:=af.new P 34 #[Q ea V'.due.length ec,I O op,Q U k fc,I O (k:Int),I O V'.tp];have g5:=aa (an.ag (F:=lf r p) b4);clear e2 c5 b7 a5 m f1 f2 f3 f4 f5 f6 f7 f8 f9 c2 b1 i5 i6 a6;go_upto_region 17 with fail;clear g0 g1 g2 g3 g4 h8 e7 h9 i1;have a0:=M.Ri 0;have a1:=M.Ri 1;have a2:=M.Ri 2;have a3:=M.Ri 3;have a4:=M.Ri 4;have c9:=HF.1.keep b4;obtain⟨d9,f9,i9,j3,j0,j4,j1,j5,j2,j6,hs,ho⟩:=c9.sW (Q ea V'.due.length ec) (Q U k fc) ⟨V'.due,op,V'.hs.take k,(k:Int),V'.tp⟩;have HX:=aa (c9.SG ho hs (h6.keep b4) (λk f=>(d2.out k f).imp id And.right) λk f=>(d3.out k f).imp id And.right);have d4:=aa ho;unfold W5 at HX d4;clear M b4 c9 hs ho;generalize P.alloc (.cells #[Q ea V'.due.length ec,I O op,Q U k fc,I O (k:Int),I O V'.tp] 34)=w6 at *;generalize P.heap.size=gb at *;go_wp2_with fail;go_end0;obtain⟨f1,f2,f3,f4,f5,f8,f9⟩:=HF.out;have h2:=t.size;have c7:∀k∈lf r p5,k∈lf r p\/w.heap.size<=k:=λk f=>by
   rcases f8 k (qb _ f) with h|h|h
   .rcases Zb.1 h with h|h
    .exact Xa h
    exact absurd h (f1.ap k f)
   .exact eb (b0.out k (by simpa using h)).1
   exact eb (Ya T.size h)
  refine⟨rfl,E,_,V',c3,J.1.symm,a9,J.1▸f2,HX.1,f3,⟨f4,f5⟩,λk f=>?_,by have h3:=aP (an.ag (F:=lf r p) T) (λk f=>(Zb.1 f).imp id λh=>(b0.out k (by simpa using h)).1) f9;exact(h3.trans g5).trans (d4.mono λk _ f=>by rw[Wa.1 f];exact mA r p)⟩;rcases HX.2 k f with h|⟨h,_⟩|⟨h,_⟩
  .exact c7 k h
  .exact(d2.out k h).elim (λh=>c7 k (xF h)) λh=>eb (by omega)
  exact(d3.out k h).elim (λh=>c7 k (Am h)) λh=>eb (by omega)
variable {w0 w w' w1 W W1 W2 : Wb} {r n m n0 X ba cap B : Nat} {bs : List Nat} {R R' : Rn} {p p' : Rp} {F F' G : List Nat} {S S' : Dk} {V : Wd} {dv hv v v' : Value} {D : Dn} {q : Pl} {K : List (Int × List Rc)} {b : List Rc} {H : Hs} {o : Ac}
def Sr (w w':Wb)(r:Nat)(p:Rp)(F:List Nat)(n:Nat):Prop:=
 ∃R' p' F',RA w' r R' p' F'/\Body w' R' p' F' n/\p'.ls.length<=p.ls.length+1/\(∀k∈(r ::lb p')++F',k∈(r ::lb p)++F\/w.heap.size<=k)/\an ((r ::lb p)++F) w w'
theorem Sq.sr (h:Sq w w' r R o p F n):Sr w w' r p F n:=
 have ⟨R',p',F',a,b,c,d,e,_⟩:=h
 ⟨R',p',F',a,b,c.1,d,e⟩
theorem Body.dr (h:Body w R p F n):∃S ba cap bs,PD w p.bx S ba cap bs/\Dr R S n/\(∀k∈pf p.bx ba bs,k∈F)/\∀k∈F,k<w.heap.size:=by
 have f:∀X q,F=df X q->p.bx=q.bx->∀k∈pf p.bx q.ba q.bs,k∈F:=λX q a g k e=>by
  rw[a,g]at *;exact Ub _ (Ub _ (qb _ (gq e)))
 rcases h with ⟨X,D,q,K,b,H,a,_,c,d,i⟩|⟨X,D,q,a,_,c,d,_,_,j⟩|⟨S,ba,cap,bs,a,_,c,d⟩
 .exact⟨D.S,q.ba,q.cap,q.bs,c▸d.pd,i.dr,f X q a c,a▸d.lt⟩
 .exact⟨D.S,q.ba,q.cap,q.bs,c▸d.pd,j,f X q a c,a▸d.lt⟩
 exact⟨S,ba,cap,bs,c,d,λk e=>a▸e,a▸Iq c⟩
theorem yG (c:Fin 6->Int)(j:Check.aJ (c 0) (c 1) (c 2) (c 3) (c 4) (c 5)=false)(bx:Nat)(w:Wb):
  Yb Za 26 #[.agg #[I O (c 0),I O (c 1),I O (c 2),I O (c 3),I O (c 4),I O (c 5)],ca (Z ⟨bx,0,Y⟩)] w λe w'=>e=Ua (Va #[ca Y,I O 1])/\Below w.heap.size w w':=by
 have f:=af.new w 52 #[I O (c 0),I O (c 1),I O (c 2),I O (c 3),I O (c 4),I O (c 5)];have a:=aa (ai (w:=w) (.cells #[I O (c 0),I O (c 1),I O (c 2),I O (c 3),I O (c 4),I O (c 5)] 52));have i:=aa (λw=>by
  have h:=Check.check (c 0) (c 1) (c 2) (c 3) (c 4) (c 5) w;rw[if_neg (by rw[j];decide)]at h;exact h)
 clear j;go_in;go_wp2_with fail;generalize w.alloc (.cells #[I O (c 0),I O (c 1),I O (c 2),I O (c 3),I O (c 4),I O (c 5)] 52)=w1 at *;generalize b:w.heap.size=B at f a ⊢;change Hid _ at b;have k:=aa f;obtain⟨l,c1,c2,c3,m,n⟩:=aR f;clear f;go_wp2_with fail;refine(i.out w1).mono ?_;rintro e o ⟨rfl,d⟩;have g:Hid (Below B w o):=a.trans (d.mono (Nat.le_of_lt k.lt));clear d l c1 c2 c3 m n;go_wp2_with fail;go_ret2;exact⟨rfl,by rw[b.out];exact g⟩
set_option maxRecDepth 10000 in
theorem Pe (a:RA w r R p F)(l:Check.aJ (R.c 0) (R.c 1) (R.c 2) (R.c 3) (R.c 4) (R.c 5)=false):
  Yb Za 16 #[ca (Z ⟨r,0,Y⟩)] w λe w'=>e=Ua (Va #[])/\Below w.heap.size w w':=by
 have k:=aa a;have x:=aa l;have m:∀s:Bw w,s.val.cell? ⟨r,0,Y⟩=Z (I O (R.c 0)):=λs=>(a.keep s.is).head.Ri 0
 have n:∀s:Bw w,s.val.cell? ⟨r,1,Y⟩=Z (I O (R.c 1)):=λs=>(a.keep s.is).head.Ri 1
 have o:∀s:Bw w,s.val.cell? ⟨r,2,Y⟩=Z (I O (R.c 2)):=λs=>(a.keep s.is).head.Ri 2
 have q:∀s:Bw w,s.val.cell? ⟨r,3,Y⟩=Z (I O (R.c 3)):=λs=>(a.keep s.is).head.Ri 3
 have t:∀s:Bw w,s.val.cell? ⟨r,4,Y⟩=Z (I O (R.c 4)):=λs=>(a.keep s.is).head.Ri 4
 have u:∀s:Bw w,s.val.cell? ⟨r,5,Y⟩=Z (I O (R.c 5)):=λs=>(a.keep s.is).head.Ri 5
 have v:∀s:Bw w,s.val.cell? ⟨r,7,Y⟩=Z (ca (Z ⟨p.bx,0,Y⟩)):=λs=>(a.keep s.is).head.Ri 7
 have f:=aa (λs:Bw w=>aT (s:=s) (Check.FY (R.c 0) (R.c 1) (R.c 2) (R.c 3) (R.c 4) (R.c 5) s.val));have g:=aa (λs:Bw w=>aT (s:=s) (yG R.c l p.bx s.val));clear a l;go_in;go_upto_region 0 with fail;refine aU ?_;repeat go_big_quiet_step ((first|(go_at_call 27;exact f.out _)|(go_at_call 26;exact g.out _)))
 refine ad ?_;rintro _ ⟨s,rfl⟩;have i:=aa s.is;clear m n o q t u v f g;generalize s.val=w1 at *;have d:=(k.keep i).head;have y:=d.Ri 0;have c1:=d.Ri 1;have c2:=d.Ri 2;have c3:=d.Ri 3;have z:=d.Ri 4;have A:=d.Ri 5;have b:=Check.mr (R.c 0) (R.c 1) (R.c 2) (R.c 3) (R.c 4) (R.c 5) w1;rw[x.out]at b;clear d;go_wp2_with fail;refine b.mono ?_;clear b y c1 c2 c3 z A;rintro e B ⟨rfl,h⟩;have j:=aa (i.trans (h.mono i.size));clear h;go_wp2_with (first|(go_at_call 29;refine(Check.num _ _).mono ?_;rintro e w' ⟨rfl,rfl⟩)|(go_at_call 11;refine(dX r _).mono ?_;rintro e w' ⟨rfl,rfl⟩))
 refine bodyPost_ret (results_none rfl _ _ _) rfl ?_;exact⟨rfl,j⟩
theorem RA.swap {N:Nat}(h:RA w r R p F)(c:∀k∈lf r p,k<N)(b:∀k∈F',k∈F\/N<=k):RA w r R p F':=
 {h with ap:=λk a d=>(b k d).elim (h.ap k a) λe=>Ye _ (Vc (c k a) e)}
def Tc (w w':Wb)(R:Rn)(bx ba:Nat)(bs:List Nat)(n:Nat)(e:Ending):Prop:=
 (e=Ua (Va #[ca Y,I O 6])/\R.lim=true/\∃S' a f d,PD w' bx S' a f d/\Dr R S' n/\(∀b∈pf bx a d,b∈pf bx ba bs\/w.heap.size<=b)/\an (pf bx ba bs) w w')\/
 (∃X q S' H K V,e=Ua (Va #[ca (Z ⟨X,0,Y⟩),I O 0])/\DA w' X (Dg R.c S' H) q/\q.bx=bx/\(∀b∈df X q,b∈pf bx ba bs\/w.heap.size<=b)/\an (pf bx ba bs) w w'/\DL (Dg R.c S' H) K [] H H.ar.length n/\V∈dV R/\Fits R.c V H/\Dm.Good S'/\(R.lim=false->Qt S'))
theorem Be {bx:Nat}(E:gp w0)(B:oC w0)(A:Below w0.heap.size w0 w)(j:PD w bx S ba cap bs)(i:∀b∈pf bx ba bs,w0.heap.size<=b)(a:Dr R S n)(M:n<=7000000):
  Yb Za 26 #[cfg R.c,ca (Z ⟨bx,0,Y⟩)] w λe w'=>Tc w w' R bx ba bs n e:=by
 have hlen:=j.len;have z:Fit S n (500*n):=⟨a.gd,a.bd.ah,a.bd.used⟩;have P:=z.len;by_cases k:S.left=0
 .refine(Pc w R.c a.ll bx ba cap bs S j k (by omega)).mono λe w' ⟨o,f⟩=>Xa ⟨o,?_,S,ba,cap,bs,j.keep f,a,λb G=>Xa G,an.ag f⟩
  exact Classical.byContradiction λh=>by
   have:=(a.lim (Bool.eq_false_iff.2 h)).1;omega
 obtain⟨U,H,o,f,y⟩:=a.start M;refine(Pf w0 w E B A R.c a.ll bx ba cap bs S j i k _ _ z (by omega) U H o ⟨λd p=>by have:=f.short d p;omega,by have:=f.lines;omega,by have:=f.len;omega⟩ f.dg (by have:=f.dues;omega)).mono λe w' h=>?_
 rcases h with ⟨v,r,l,g,m,s,t,u⟩|⟨v,X,q,r,s,t,u,T⟩
 .rcases y with ⟨x,_⟩|⟨_,k,p⟩
  .exact absurd x v
  exact Xa ⟨r,k,_,l,g,m,s,p,t,u⟩
 rcases y with ⟨_,K,D,V,F,J⟩|⟨x,_⟩
 .exact eb ⟨X,q,_,H,K,V,r,s,t,u,T,D,F,J,uB a.gd ..,λe=>(Qt.dG (a.lim e) ..).1⟩
 exact absurd v x
set_option maxRecDepth 10000 in
theorem Pd (hT:gp w0)(hE:oC w0)(h0:Below w0.heap.size w0 w)(ra:RA w r R p F)(hP:PD w p.bx S ba cap bs)(t:∀k∈pf p.bx ba bs,k∈F)(HF:∀k∈F,k<w.heap.size)(m:∀k∈lf r p++F,w0.heap.size<=k)(dr:Dr R S n)(hn:n<=7000000)(e8:p.ls.length<=100000000):
  Yb Za 16 #[ca (Z ⟨r,0,Y⟩)] w λe w'=>e=Ua (Va #[])/\Sr w w' r p F n:=by
 have HG:=nJ dr.ll;have i:=aa ra;change Hid _ at HG;haveI:Nonempty (In (λW=>af W r 40 (fe R p))):=⟨⟨w,ra.head⟩⟩
 have C0:∀s:In (λW=>af W r 40 (fe R p)),s.val.cell? ⟨r,0,Y⟩=Z (I O (R.c 0)):=λs=>s.is.Ri 0
 have C1:∀s:In (λW=>af W r 40 (fe R p)),s.val.cell? ⟨r,1,Y⟩=Z (I O (R.c 1)):=λs=>s.is.Ri 1
 have C2:∀s:In (λW=>af W r 40 (fe R p)),s.val.cell? ⟨r,2,Y⟩=Z (I O (R.c 2)):=λs=>s.is.Ri 2
 have C3:∀s:In (λW=>af W r 40 (fe R p)),s.val.cell? ⟨r,3,Y⟩=Z (I O (R.c 3)):=λs=>s.is.Ri 3
 have C4:∀s:In (λW=>af W r 40 (fe R p)),s.val.cell? ⟨r,4,Y⟩=Z (I O (R.c 4)):=λs=>s.is.Ri 4
 have C5:∀s:In (λW=>af W r 40 (fe R p)),s.val.cell? ⟨r,5,Y⟩=Z (I O (R.c 5)):=λs=>s.is.Ri 5
 have C7:∀s:In (λW=>af W r 40 (fe R p)),s.val.cell? ⟨r,7,Y⟩=Z (ca (Z ⟨p.bx,0,Y⟩)):=λs=>s.is.Ri 7
 have d0:=aa (λ(W:Wb) (hb:Below w.heap.size w W)=>Be hT hE (h0.trans (hb.mono h0.size)) (hP.keep hb) (λb hb=>m b (Uc _ (t b hb))) dr hn);have HT:=aa (λ(W:Wb) (hb:Below w0.heap.size w0 W)=>hT.below hb);have b5:=aa h0;change Hid _ at t HF m;have b9:=aa dr;clear ra hT hE h0 hP dr;go_in;go_upto_region 0 with fail;have J:Hid (Below w.heap.size w w.drew):=(Zd _ _).drew;refine dS (λW=>∃s:In (λW=>af W r 40 (fe R p)),W=s.val) 14 (by kernel_rfl) ?_;refine kL (f:=7) [0,1,2,3,5,6,7,8] (In.has (i.keep J).head) (by kernel_rfl) (λ_ _ _ _ _ h=>h) rfl ?_;simp only[Ve,Xe,ed,Xc,Yc,Xd];repeat (first|go_big_quiet_skip|(go_big_quiet_want;go_big_quiet_op;go_big_quiet_on))
 refine ad ?_;clear C0 C1 C2 C3 C4 C5 C7;generalize w.drew=wd at *;refine aW (j:=4) (λK hK=>?_);go_simp;refine(Check.FY _ _ _ _ _ _ _).mono ?_;rintro e w1 ⟨rfl,d1⟩;have HB:=aa (J.trans (d1.mono J.size));refine hK _ _ (λ_=>In.has (i.keep HB).head) ?_;clear hK K d1 J;have hst:=d0.out w1 HB;unfold cfg at hst;refine aW (j:=9) (λK hK=>?_);go_simp;refine hst.mono ?_;clear hst d0;rintro e w2 h;have b2:an F w1 w2:=by
  rcases h with ⟨_,_,_,_,_,_,_,_,_,h⟩|⟨_,_,_,_,_,_,_,_,_,_,h,_⟩
  all_goals exact h.mono λk _ d=>t.out k d
 have a8:=aa ((i.keep HB).off b2 i.ap);have c9:=aa ((an.ag (F:=F) HB).trans b2);have c6:=aa (In.has (C:=λW=>af W r 40 (fe R p)) a8.head);have HH:=aa h;clear b2;rcases h with ⟨rfl,-⟩|⟨X,-,-,-,-,-,rfl,-⟩
 all_goals
  refine hK _ _ (λ_=>c6) ?_;clear hK K;refine kL (f:=1) [10,11,12,13] c6 (by kernel_rfl) (λ_ _ _ _ _ h=>h) rfl ?_;simp only[Ve,Xe,ed,Xc,Yc,Xd];repeat (first|go_big_quiet_skip|(go_big_quiet_want;go_big_quiet_op;go_big_quiet_on))
  refine ad ?_;refine aW (j:=14) (λK hK=>?_);go_simp;refine hK _ _ (λh=>absurd h (by decide)) ?_;clear hK K;refine Tz ?_;have a:=a8.head;have c0:w2.cell? ⟨r,0,Y⟩=Z (I O (R.c 0)):=a.Ri 0;have c1:w2.cell? ⟨r,1,Y⟩=Z (I O (R.c 1)):=a.Ri 1;have c2:w2.cell? ⟨r,2,Y⟩=Z (I O (R.c 2)):=a.Ri 2;have c3:w2.cell? ⟨r,3,Y⟩=Z (I O (R.c 3)):=a.Ri 3;have c4:w2.cell? ⟨r,4,Y⟩=Z (I O (R.c 4)):=a.Ri 4;have c5:w2.cell? ⟨r,5,Y⟩=Z (I O (R.c 5)):=a.Ri 5;have l:=Check.mr (R.c 0) (R.c 1) (R.c 2) (R.c 3) (R.c 4) (R.c 5) w2;rw[HG.out]at l;clear a;go_wp2_with fail;refine l.mono ?_;clear c0 c1 c2 c3 c4 c5;rintro e w3 ⟨rfl,b1⟩;have y:=aa b1;have D:=aa (a8.keep b1);clear b1
 .rcases HH.out with ⟨-,hl,S',M,a3,P,k1,k2,k3,-⟩|⟨_,_,_,_,_,_,h,_⟩
  rotate_left
  .cases h
  have f0:w3.cell? ⟨r,16,Y⟩=Z (bO true):=hl▸D.head.Ri 16;have a:=D.head;unfold fe at a;have d6:=a.Ri 6;have f6:=a.frozen 6;have u:=a.set 6 (ca Y);have g:an [r] w3 (w3.setCell ⟨r,6,Y⟩ (ca Y)):=(an.refl _ _).set (Wa.2 rfl) _ _;have G:Hid (RA (w3.setCell ⟨r,6,Y⟩ (ca Y)) r R {p with xv:=ca Y} F):=D.set g u ⟨rfl,rfl⟩ rfl rfl ⟨rfl,rfl,rfl⟩;have v:=HB.size;have B:∀b∈pf p.bx M P,b∈F\/w1.heap.size<=b:=λb hb=>(k3 b hb).imp (t.out b) id
  have e3:Hid (PD (w3.setCell ⟨r,6,Y⟩ (ca Y)) p.bx S' M a3 P):=cm (k1.keep y) g λk d e=>by
   rw[Wa.1 e]at d;rcases B r d with h|h
   .exact i.ap r (Xb ..) h
   have:=i.head.lt;omega
  have z:=aa k2;change Hid _ at B;have o:=aa g;clear a u g hl k1 k2 k3;go_wp2_with (first|(go_at_call 29;refine(Check.num _ _).mono ?_;rintro e w' ⟨rfl,rfl⟩)|(go_at_call 11;refine(dX r _).mono ?_;rintro e w' ⟨rfl,rfl⟩))
  refine bodyPost_ret (results_none rfl _ _ _) rfl ?_;refine⟨rfl,R,_,pf p.bx M P,G.swap (N:=w1.heap.size) (λk d=>Vc (i.lt k d) v) B,eb (eb ⟨S',M,a3,P,rfl,rfl,e3,z⟩),Ue _,λk d=>?_,pQ (c9.trans (an.ag y)) o⟩;rcases Zb.1 d with h|h
  .exact Xa (qb _ h)
  exact(B.out k h).imp (Uc _) λh=>Ya v h
 rcases HH.out with ⟨h,_⟩|⟨X',q,S',H,K,V,he,d5,d3,d7,-,d9,b0,a7,l,c7⟩
 .cases h
 cases he;have v:=HB.size;have e1:∀k∈lf r p,k<w1.heap.size:=λk d=>Vc (i.lt k d) v
 have a5:∀k∈df X q,k∈F\/w1.heap.size<=k:=λk d=>(d7 k d).imp (t.out k) id
 have a2:=D.swap (N:=w1.heap.size) e1 a5;have a:=a2.head;unfold fe at a;have d6:=a.Ri 6;have f6:=a.frozen 6;have e6:=a.Ri 25;have u:=a.set 6 (ca (Z ⟨X,0,Y⟩));have g:an [r] w3 (w3.setCell ⟨r,6,Y⟩ (ca (Z ⟨X,0,Y⟩))):=(an.refl _ _).set (Wa.2 rfl) _ _;have G:Hid (RA (w3.setCell ⟨r,6,Y⟩ (ca (Z ⟨X,0,Y⟩))) r R {p with xv:=ca (Z ⟨X,0,Y⟩)} (df X q)):=a2.set g u ⟨rfl,rfl⟩ rfl rfl ⟨rfl,rfl,rfl⟩;have z:=aa (a2.lq (d5.keep y) g);have o:=aa (pQ (A:=lb p) (c9.trans (an.ag y)) g);change Hid _ at a5;have a6:=aa d9;change Hid _ at b0 a7 l c7;have b7:=aa d3;clear a u g a2 d5 d7 e1 d9 d3;go_wp2_with (first|(go_at_call 29;refine(Check.num _ _).mono ?_;rintro e w' ⟨rfl,rfl⟩)|(go_at_call 11;refine(dX r _).mono ?_;rintro e w' ⟨rfl,rfl⟩))
 clear d6 f6 e6;generalize w'.setCell ⟨r,6,Y⟩ (ca (Z ⟨X,0,Y⟩))=w4 at *;have e2:=aa (b5.trans (o.below m b5.size));refine(Oi G rfl z a6 (HT.out w4 e2) b9 hn b0 a7 e8).mono ?_;rintro e w5 ⟨rfl,E,p5,V',v1,v2,v3,v4,v5,v6,⟨v7,v8⟩,v9,x⟩;have a:=v5.head;unfold fe at a;have e5:=a.Ri 17;have e7:=a.frozen 17;have T:=a.set 17 (bO false);have d8:=T.Ri 8;have f8:=T.frozen 8;have h8:=T.set 8 (I O 0);have a1:an [r] w5 ((w5.setCell ⟨r,17,Y⟩ (bO false)).setCell ⟨r,8,Y⟩ (I O 0)):=((an.refl _ _).set (Wa.2 rfl) _ _).set (Wa.2 rfl) _ _;have a9:Hid (RA ((w5.setCell ⟨r,17,Y⟩ (bO false)).setCell ⟨r,8,Y⟩ (I O 0)) r {R with ever:=E,W:=⟨V'.due,(eK H).onum,V'.hs.take H.ar.length,(H.ar.length:Int),V'.tp⟩,sp:=false,now:=0} p5 (df X q)):=v5.set a1 h8 ⟨rfl,rfl⟩ rfl rfl ⟨rfl,rfl,rfl⟩;have d4:=z.off x λk d e=>G.ap k e d
 have b8:=aa (v5.lq d4 a1);have c8:Hid (Lr {R with ever:=E,W:=⟨V'.due,(eK H).onum,V'.hs.take H.ar.length,(H.ar.length:Int),V'.tp⟩,sp:=false,now:=0} (Dg R.c S' H) K [] H n):={b9.found l c7 a6 b0 a7 v1 v2 v3 with eZ:=v4};have HF:=aa (Wc v6 (Wc v7 (Wc v8 (Wc v9 (x.trans (a1.mono λk _ d=>by rw[Wa.1 d];exact mA r _))))));clear v1 v2 v3 v4 v5 v6 v7 v8 v9 x a T h8 a1 d4;go_wp2_with fail;generalize (w5.setCell ⟨r,17,Y⟩ (bO false)).setCell ⟨r,8,Y⟩ (I O 0)=w7 at *;clear e5 e7 d8 f8;have b3:PD w7 p5.bx S' q.ba q.cap q.bs:=by rw[HF.2.2.1];exact b7.out▸b8.pd
 have a0:Bd (bm S') n:=a6.bd;have b4:=sJ a0 (by omega);have e4:=aa b3;refine(uq a9 b3 l a0 (by omega)).mono ?_;rintro e w8 ⟨rfl,U⟩;have b6:=aa U;have e0:=xf (a9.keep U) (e4.keep U) l a0 (by omega) (pr S') 0 b4.1 b4.2 (Zc _) (eb (eb (Int.le_of_eq (Int.add_zero _).symm))) λh1 h2=>c8.small h1 h2
 clear U b3 a0 b4;go_wp2_with fail;refine e0.mono ?_;clear e0;rintro e w9 ⟨rfl,d2⟩;have a4:=aa (b6.trans (d2.mono b6.size));clear d2;go_wp2_with fail;go_end0;obtain⟨v6,v7,v8,v9,x⟩:=HF.out;have e9:=o.size;refine⟨rfl,_,p5,df X q,a9.keep a4,Xa ⟨X,_,q,K,[],H,rfl,v7,v8.trans b7.symm,b8.keep a4,c8⟩,Nat.le_of_eq v6,λk d=>?_,(o.trans (x.mono λk _ d=>qb _ d)).trans (an.ag a4)⟩;rcases Zb.1 d with h|h
 .exact(v9 k h).imp (qb _) λh=>Ya e9 h
 exact(a5.out k h).imp (Uc _) λh=>Ya v h
variable {w0 w w' w1 W W1 W2 : Wb} {r n m n0 X ba cap B : Nat} {bs : List Nat} {R R' : Rn} {p p' : Rp} {F F' G : List Nat} {S S' : Dk} {V : Wd} {D D' : Dn} {q q' : Pl} {K K' : List (Int × List Rc)} {b b' : List Rc} {H H' : Hs} {o : Ac}
structure Tr (w0 w W:Wb)(X:Nat)(R:Rn)(D:Dn)(q:Pl)(K:List (Int×List Rc))(b:List Rc)(H:Hs)(n:Nat):Prop where
 T:gp w0
 b0:Below w0.heap.size w0 w
 bw:Below w.heap.size w W
 da:DA W X D q
 far:∀k∈df X q,w.heap.size<=k
 lr:Lr R D K b H n
 lim:R.lim=false
theorem Tr.gx (h:Tr w0 w W X R D q K b H n):Gx w0 W X D q K b H R.W.sr.toNat n:=⟨h.T,h.b0.trans (h.bw.mono h.b0.size),h.da,λk a=>Ya h.b0.size (h.far k a),h.lr.dl,h.lr.gd⟩
theorem Tr.call (h:Tr w0 w W X R D q K b H n)(a:Dq W W1 X D' (df X q) q.bx)(g:Lr R' D' K' b' H' m)(i:R'.lim=false):∃q',Tr w0 w W1 X R' D' q' K' b' H' m:=by
 obtain⟨q',c,_,d⟩:=a.ex;exact⟨q',h.T,h.b0,h.bw.trans (a.off.below h.far h.bw.size),c,λk f=>(d k f).elim (h.far k) λe=>Ya h.bw.size e,g,i⟩
theorem Tr.vv (h:Tr w0 w W X R D q K b H n)(i:n<=8000000)(s:ByteArray)(c:s.size<=256):
  Yb Za 32 #[ca (Z ⟨X,0,Y⟩),.string s] W λe w'=>∃v R' D' q' K' b' H',e=Ua v/\Tr w0 w w' X R' D' q' K' b' H' (n+300):=by
 refine(Cs h.gx (by omega) h.lr.tM s c).mono λe w' ⟨d,f⟩=>?_
 rcases h.lr.vv (o:=⟨0,1,0,0,s⟩) (by omega) rfl c with ⟨_,⟨K',b',H',a⟩,_⟩|⟨a,_⟩|⟨a,_⟩
 .obtain⟨q',g⟩:=h.call f (a.mono (show n+s.size+2<=n+300 by omega)) h.lim;exact⟨_,_,_,q',K',b',H',d,g⟩
 .exact absurd (a.symm.trans h.lim) (by decide)
 exact absurd (a.symm.trans h.lim) (by decide)
theorem Tr.sync (h:Tr w0 w W X R D q K b H n)(g:n<=8000000):
  Yb Za 33 #[ca (Z ⟨X,0,Y⟩)] W λe w'=>∃v R' D' q' K' b' H',e=Ua v/\Tr w0 w w' X R' D' q' K' b' H' n:=by
 refine(Ny h.gx (by omega) h.lr.tM).mono λe w' ⟨c,d⟩=>?_
 rcases h.lr.sync (o:=⟨0,3,0,0,⟨#[]⟩⟩) rfl with ⟨_,a,_⟩|⟨a,_⟩
 .obtain⟨q',f⟩:=h.call d a h.lim;exact⟨_,_,_,q',_,_,_,c,f⟩
 exact absurd (a.symm.trans h.lim) (by decide)
theorem Tr.clock (h:Tr w0 w W X R D q K b H n)(d:n<=8000000)(t:Int):
  Yb Za 34 #[ca (Z ⟨X,0,Y⟩),I O t] W λe w'=>∃v,e=Ua v/\Below w.heap.size w w':=
 (FW h.gx (by omega) h.lr.tM t).mono λe w' ⟨a,c⟩=>⟨_,a,h.bw.trans (c.off.below h.far h.bw.size)⟩
set_option maxRecDepth 10000 in
theorem Kw (HT:gp w0)(HE:oC w0)(h0:Below w0.heap.size w0 w)(ra:RA w r R p F)(hP:PD w p.bx S ba cap bs)(M:∀k∈pf p.bx ba bs,k∈F)(e8:∀k∈F,k<w.heap.size)(b2:∀k∈lf r p++F,w0.heap.size<=k)(m:Fit S n (500*n))(hn:n<=7000000)(hd:Check.aJ (R.c 0) (R.c 1) (R.c 2) (R.c 3) (R.c 4) (R.c 5)=true->Dr R S n)(t:Int):
  Yb Za 15 #[ca (Z ⟨r,0,Y⟩),I O t] w λe w'=>e=Ua (Va #[])/\∃x T c6 U,RA w' r {R with lim:=false} {p with bx:=x} (pf x T U)/\PD w' x (eH S t) T c6 U/\(∀k∈pf x T U,w.heap.size<=k)/\an (lf r p++F) w w':=by
 have hlen:=hP.len;have g2:=m.len;have g3:=m.use;have a3:=pG p.bx ba cap bs S t w hP m.aJ (by omega) λs hs=>by
  have:=gn hs;omega
 have b3:=aa (jI m t);have b4:=aa (zH m.aJ t);have HD:=aa (λh=>(hd h).pG t);have G:=aa (show (eH S t).left = -1/\(eH S t).room = -1 from⟨rfl,rfl⟩);generalize hC:eH S t=g8 at a3 b3 b4 HD G ⊢;change Hid _ at HT HE;have a9:=aa h0;have P:=aa ra;change Hid _ at M b2 e8;have c7:w.cell? ⟨r,7,Y⟩=Z (ca (Z ⟨p.bx,0,Y⟩)):=ra.head.Ri 7;clear hlen g2 g3 hC h0 ra hP m hd;go_in;go_wp2_with fail;refine a3.mono ?_;clear a3 c7;rintro e w1 ⟨rfl,d5,d8⟩;have u:an F w w1:=d5.mono λk _ f=>M.out k (gg f)
 have a6:=P.off u P.ap;have a:=a6.head;unfold fe at a;have g0:=a.Ri 16;have g1:=a.frozen 16;have e2:=a.set 16 (bO false);have D:an [r] w1 (w1.setCell ⟨r,16,Y⟩ (bO false)):=(an.refl _ _).set (Wa.2 rfl) _ _;have d:Hid (RA (w1.setCell ⟨r,16,Y⟩ (bO false)) r {R with lim:=false} p F):=a6.set D e2 ⟨rfl,rfl⟩ rfl rfl ⟨rfl,rfl,rfl⟩;have f0:=aa (cm d8 D λk f e=>P.ap r (Xb ..) (Wa.1 e▸M.out k f));have J:=aa (pQ (A:=lb p) u D);clear d5 d8 u a6 a e2 D;go_wp2_with fail;clear g0 g1;generalize w1.setCell ⟨r,16,Y⟩ (bO false)=w2 at *;have b5:=aa (λ(W:Wb) (hb:Below w2.heap.size w2 W)=>Rj (d.keep hb) (f0.keep hb) b3 (by omega) (by omega) b4 G.1 G.2);have g7:=J.size;refine(b5.out w2 (Zd _ _)).mono ?_;rintro e w3 ⟨tb,g5,g4,g6,rfl,d9,z,a1⟩;have f1:=aa d9;change Hid _ at z;have b0:=aa a1;have a:=(d.keep a1).head;have c0:w3.cell? ⟨r,0,Y⟩=Z (I O (R.c 0)):=a.Ri 0;have c1:w3.cell? ⟨r,1,Y⟩=Z (I O (R.c 1)):=a.Ri 1;have c2:w3.cell? ⟨r,2,Y⟩=Z (I O (R.c 2)):=a.Ri 2;have c3:w3.cell? ⟨r,3,Y⟩=Z (I O (R.c 3)):=a.Ri 3;have c4:w3.cell? ⟨r,4,Y⟩=Z (I O (R.c 4)):=a.Ri 4;have c5:w3.cell? ⟨r,5,Y⟩=Z (I O (R.c 5)):=a.Ri 5;have a4:=Check.mr (R.c 0) (R.c 1) (R.c 2) (R.c 3) (R.c 4) (R.c 5) w3;generalize hg:Check.aJ (R.c 0) (R.c 1) (R.c 2) (R.c 3) (R.c 4) (R.c 5)=g at a4 HD;clear a d9 a1 hg;go_wp2_with fail;refine a4.mono ?_;clear a4 c0 c1 c2 c3 c4 c5;rintro e w4 ⟨rfl,a2⟩;have o:=aa (b0.trans (a2.mono b0.size));have f2:=aa (f1.keep a2);have a0:w4.cell? ⟨r,25,Y⟩=Z (bO true):=(d.keep o).head.Ri 25;clear a2;go_upto_if 30 with fail
 clear a0;go_cut [] (λwx=>Hid (Below w2.heap.size w2 wx))
 case first=>
  cases g with
  | false=>
   go_wp2_with fail;go_meet;exact o
  | true=>
   have a:=(d.keep o).head;have c0:w4.cell? ⟨r,0,Y⟩=Z (I O (R.c 0)):=a.Ri 0;have c1:w4.cell? ⟨r,1,Y⟩=Z (I O (R.c 1)):=a.Ri 1;have c2:w4.cell? ⟨r,2,Y⟩=Z (I O (R.c 2)):=a.Ri 2;have c3:w4.cell? ⟨r,3,Y⟩=Z (I O (R.c 3)):=a.Ri 3;have c4:w4.cell? ⟨r,4,Y⟩=Z (I O (R.c 4)):=a.Ri 4;have c5:w4.cell? ⟨r,5,Y⟩=Z (I O (R.c 5)):=a.Ri 5;clear a;go_wp2_with fail;refine(Check.FY _ _ _ _ _ _ _).mono ?_;clear c0 c1 c2 c3 c4 c5;rintro e w5 ⟨rfl,l⟩;have j:=aa (o.trans (l.mono o.size));have i:=aa (a9.trans (J.below b2 a9.size));have hst:=Be HT HE (i.trans (j.mono i.size)) (f2.keep l) (λb hb=>Ya i.size (z.out b hb)) (HD.out trivial) hn;unfold cfg at hst;clear l;go_wp2_with fail;refine hst.mono ?_;clear hst;rintro e w6 h;rcases h with ⟨-,hl,-⟩|⟨X,q,S',H,K,V,rfl,c9,-,d0,d6,d1,hV,hf,d2,d3⟩
   .exact absurd hl Bool.false_ne_true
   obtain⟨k,e1,_,e3⟩:=hf.k;have d4:=(HD.out trivial).found d2 d3 d1 hV hf hV hf.due.symm (by rw[e1,vd];omega);have e5:=j.size;have a8:Tr w0 w2 w6 X _ _ q K [] H n:=⟨HT,i,j.trans (d6.below z e5),c9,λk f=>(d0 k f).elim (z.out k) λh=>Ya e5 h,d4,rfl⟩;have f9:=aa a8;have a0:w6.cell? ⟨r,25,Y⟩=Z (bO true):=(d.keep a8.bw).head.Ri 25;clear c9 d0 d6 d1 hV hf d2 d3 d4 a8 e1 e3;go_wp2_with (first|(go_at_call 29;refine(Check.num _ _).mono ?_;rintro e w' ⟨rfl,rfl⟩)|(go_at_call 11;refine(dX r _).mono ?_;rintro e w' ⟨rfl,rfl⟩))
   clear a0;refine(f9.vv (by omega) _ (by decide)).mono ?_;rintro e w7 ⟨v,R7,D7,q7,K7,b7,H7,rfl,h7⟩;have f6:=aa h7;clear h7;go_wp2_with fail;refine(f6.sync (by omega)).mono ?_;rintro e w8 ⟨v,R8,D8,q8,K8,b8,H8,rfl,h8⟩;have f8:=aa h8;clear h8;go_wp2_with fail;refine(f8.clock (by omega) _).mono ?_;rintro e w9 ⟨v,rfl,b1⟩;change Hid _ at b1;go_wp2_with fail;go_meet;exact b1
 case rest=>
  have y:=aa hcut.out;clear hcut;go_wp2_with fail;refine(b5.out _ y).mono ?_;rintro e w5 ⟨x,b6,c8,b9,rfl,e0,B,l⟩;have j:=aa (y.trans (l.mono y.size));have a7:=d.keep j;have a:=a7.head;unfold fe at a;have d7:=a.Ri 7;have f7:=a.frozen 7;have e4:=a.set 7 (ca (Z ⟨x,0,Y⟩));have E:an [r] w5 (w5.setCell ⟨r,7,Y⟩ (ca (Z ⟨x,0,Y⟩))):=(an.refl _ _).set (Wa.2 rfl) _ _;have e6:=y.size;have a5:∀k∈lf r p,k<wc.heap.size:=λk f=>Vc (d.lt k f) e6
  have f4:Hid (RA (w5.setCell ⟨r,7,Y⟩ (ca (Z ⟨x,0,Y⟩))) r {R with lim:=false} {p with bx:=x} F):=a7.set E e4 ⟨rfl,rfl⟩ rfl rfl ⟨rfl,rfl,rfl⟩;have f3:=aa (cm e0 E λk f e=>by
   have h1:=B k f;rw[Wa.1 e]at h1;have h2:=a5 r (mA r p);omega)
  have f5:=aa (f4.swap (N:=wc.heap.size) a5 λk f=>eb (B k f));have e7:=aa (show ∀k∈pf x b6 b9,w.heap.size<=k from λk f=>by have:=B k f;omega);have e9:=aa ((J.trans (an.ag j)).trans (E.mono λk _ f=>by rw[Wa.1 f];exact qb _ (mA r p)));clear a e4 E a7 a5 e0 B l e6;go_wp2_with fail;go_end0;exact⟨rfl,x,b6,c8,b9,f5,f3,e7,e9⟩
variable {w0 w w' w1 W W1 W2 : Wb} {r n m n' m' n0 X ba cap B : Nat} {bs : List Nat} {R R' : Rn} {p p' : Rp} {F F' G G' : List Nat} {S S' : Dk} {V : Wd} {D D' : Dn} {q q' : Pl} {K K' : List (Int × List Rc)} {b b' : List Rc} {H H' : Hs} {o : Ac}
def RI (w:Wb)(R:Rn)(p:Rp)(F:List Nat):Prop:=
 Check.aJ (R.c 0) (R.c 1) (R.c 2) (R.c 3) (R.c 4) (R.c 5)=false/\p.xv=ca Y/\∃S ba cap bs,F=pf p.bx ba bs/\PD w p.bx S ba cap bs/\S.ah=[]/\Dm.Good S
def Slot (w:Wb)(r n m:Nat)(G:List Nat):Prop:=∃R p F,RA w r R p F/\p.ls.length<=m/\G=lf r p++F/\(Body w R p F n\/RI w R p F)
def Sd (w:Wb)(r n m:Nat)(G:List Nat):Prop:=∃R p F S ba cap bs,RA w r R p F/\p.ls.length<=m/\G=lf r p++F/\PD w p.bx S ba cap bs/\(∀k∈pf p.bx ba bs,k∈F)/\(∀k∈F,k<w.heap.size)/\Fit S n (500*n)/\
 (Dr R S n\/(Check.aJ (R.c 0) (R.c 1) (R.c 2) (R.c 3) (R.c 4) (R.c 5)=false/\p.xv=ca Y/\F=pf p.bx ba bs/\S.ah=[]))
theorem Body.off (h:Body w R p F n)(g:an G w w')(f:∀k∈F,k∉G):Body w' R p F n:=by
 rcases h with ⟨X,D,q,K,b,H,rfl,a,c,d,e⟩|⟨X,D,q,rfl,a,c,d,e⟩|⟨S,ba,cap,bs,rfl,a,c,d⟩
 .exact Xa ⟨X,D,q,K,b,H,rfl,a,c,d.off g f,e⟩
 .exact eb (Xa ⟨X,D,q,rfl,a,c,d.off g f,e⟩)
 exact eb (eb ⟨S,ba,cap,bs,rfl,a,cm c g f,d⟩)
theorem Body.mono (h:Body w R p F n)(g:n<=m):Body w R p F m:=by
 rcases h with ⟨X,D,q,K,b,H,a,c,d,e,f⟩|⟨X,D,q,a,c,d,e,f,i,j⟩|⟨S,ba,cap,bs,a,c,d,e⟩
 .exact Xa ⟨X,D,q,K,b,H,a,c,d,e,f.mono g⟩
 .exact eb (Xa ⟨X,D,q,a,c,d,e,f,i,j.mono g⟩)
 exact eb (eb ⟨S,ba,cap,bs,a,c,d,e.mono g⟩)
theorem Slot.off (h:Slot w r n m G)(b:an G' w w')(d:∀k∈G,k∉G'):Slot w' r n m G:=by
 obtain⟨R,p,F,j,l,rfl,o⟩:=h;have c:∀k∈F,k∉G':=λk a=>d k (Uc _ a)
 refine⟨R,p,F,j.off b λk a=>d k (qb _ a),l,rfl,o.imp (λh=>h.off b c) ?_⟩;rintro⟨e,f,S,ba,cap,bs,rfl,g,i⟩;exact⟨e,f,S,ba,cap,bs,rfl,cm g b c,i⟩
theorem Slot.keep (h:Slot w r n m G)(a:Below w.heap.size w w'):Slot w' r n m G:=h.off (G':=[]) (an.ag a) λ_ _=>by simp
theorem Slot.mono (h:Slot w r n m G)(f:n<=n')(e:m<=m'):Slot w r n' m' G:=by
 obtain⟨R,p,F,a,b,c,d⟩:=h;exact⟨R,p,F,a,Ya b e,c,d.imp (λh=>h.mono f) id⟩
theorem RV (h:Dm.Good S)(a:S.ah=[]):Fit S n (500*n):=⟨h,by grind,by rw[a];exact Zc _⟩
theorem Slot.sd (h:Slot w r n m G):Sd w r n m G:=by
 obtain⟨R,p,F,f,g,i,c⟩:=h;rcases c with c|⟨j,l,S,ba,cap,bs,b,d,e,o⟩
 .obtain⟨S,ba,cap,bs,s,a,t,u⟩:=c.dr;exact⟨R,p,F,S,ba,cap,bs,f,g,i,s,t,u,⟨a.gd,a.bd.ah,a.bd.used⟩,Xa a⟩
 exact⟨R,p,F,S,ba,cap,bs,f,g,i,d,λk q=>b▸q,b▸Iq d,RV o e,eb ⟨j,l,b,e⟩⟩
theorem Slot.lt (h:Slot w r n m G):∀k∈G,k<w.heap.size:=by
 obtain⟨R,p,F,S,ba,cap,bs,a,d,rfl,e,f,b,_⟩:=h.sd;exact λk c=>(Zb.1 c).elim (a.lt k) (b k)
theorem Slot.ok (h:Slot w r n m G):w.cell? ⟨r,25,Y⟩=Z (bO true):=by
 obtain⟨R,p,F,a,_⟩:=h;exact a.head.Ri 25
theorem Slot.whole (h:Slot w r n m G)(c:m<=1000000000):Yb Za 8 #[ca (Z ⟨r,0,Y⟩)] w λe w'=>e=Ua (Va #[])/\w'=w:=by
 obtain⟨R,p,F,a,b,_⟩:=h;exact Ps ⟨a.head.Ri 23,a.head.Ri 24,a.rows.lists,a.rows.grown,a.rows.aG⟩ (by omega)
def Sn (w w':Wb)(r n m:Nat)(G:List Nat):Prop:=∃G',Slot w' r n m G'/\(∀k∈G',k∈G\/w.heap.size<=k)/\an G w w'
theorem Sr.sn (h:Sr w w' r p F n)(f:p.ls.length<=m):Sn w w' r n (m+1) (lf r p++F):=by
 obtain⟨R',p',F',a,b,e,c,d⟩:=h;exact⟨_,⟨R',p',F',a,by omega,rfl,Xa b⟩,c,d⟩
theorem Sn.mono (h:Sn w w' r n m G)(d:n<=n')(c:m<=m'):Sn w w' r n' m' G:=
 have ⟨G',a,b⟩:=h
 ⟨G',a.mono d c,b⟩
theorem Sn.from (h:Sn w1 w' r n m G)(a:Below w.heap.size w w1):Sn w w' r n m G:=
 have ⟨G',b,c,d⟩:=h
 ⟨G',b,λk f=>(c k f).imp id λe=>Ya a.size e,(an.ag a).trans d⟩
theorem Slot.stay (h:Slot w r n m G)(a:Below w.heap.size w w'):Sn w w' r n m G:=⟨G,h.keep a,λ_ b=>Xa b,an.ag a⟩
theorem Sd.start (h:Sd w r n m G)(y:gp w0)(x:oC w0)(s:Below w0.heap.size w0 w)(a:∀k∈G,w0.heap.size<=k)(z:n<=7000000)(A:m<=100000000):
  Yb Za 16 #[ca (Z ⟨r,0,Y⟩)] w λe w'=>e=Ua (Va #[])/\Sn w w' r n (m+1) G:=by
 obtain⟨R,p,F,S,ba,cap,bs,b,i,rfl,j,t,u,v,c⟩:=h;rcases c with c|⟨g,l,o,q⟩
 .exact(Pd y x s b j t u a c z (by omega)).mono λe w' ⟨d,f⟩=>⟨d,f.sn i⟩
 refine(Pe b g).mono λe w' ⟨d,f⟩=>⟨d,(Slot.stay ?_ f).mono (Vb _) (Ue _)⟩
 exact⟨R,p,F,b,i,rfl,eb ⟨g,l,S,ba,cap,bs,o,j,q,v.aJ⟩⟩
theorem Sd.copied (h:Sd w r n m G)(A:gp w0)(z:oC w0)(q:Below w0.heap.size w0 w)(d:∀k∈G,w0.heap.size<=k)(D:n<=7000000)(t:Int):
  Yb Za 15 #[ca (Z ⟨r,0,Y⟩),I O t] w λe w'=>e=Ua (Va #[])/\∃G',Sd w' r n m G'/\w'.cell? ⟨r,25,Y⟩=Z (bO true)/\(∀k∈G',k∈G\/w.heap.size<=k)/\an G w w':=by
 obtain⟨R,p,F,S,ba,cap,bs,s,u,rfl,v,x,y,f,g⟩:=h;refine(Kw A z q s v x y d f D (λB=>g.elim id λh=>absurd (B.symm.trans h.1) (by decide)) t).mono λe w' ⟨E,o,a,c,b,j,l,J,H⟩=>⟨E,lf r p++pf o a b,?_,j.head.Ri 25,λk i=>?_,H⟩
 .refine⟨{R with lim:=false},{p with bx:=o},_,eH S t,a,c,b,j,u,rfl,l,λk i=>i,Iq l,jI f t,g.imp (λh=>h.pG t) λh=>⟨h.1,h.2.1,rfl,?_⟩⟩;show S.ah.map _=[];grind
 grind
theorem _root_.Go.Proofs.YtpndiccohnafbaaGreatDoor.Dd.DA.limited (h:DA w X D q)(d:bS q.bx w w')(j:PD w' q.bx S' q.ba q.cap q.bs):∃q',DA w' X {D with S:=S'} q'/\q'.bx=q.bx/\∀k∈df X q',k∈df X q\/w.heap.size<=k:=by
 have f:an [q.bx] w w':=an.cV d (Wa.2 rfl);have i:=h.pd.head;have l:∀{k:Nat} {t:TypeId} {c:Array Value},af w k t c->t≠62->k∉[q.bx]:=λg m e=>aA g i m (Wa.1 e)
 have a:Kq w w' q.jb q.bx q.mb D.J S' q.kf:=⟨⟨q.sv,q.ov,q.ba,q.cap,q.bs,⟨h.jw.ja.OH f (l h.jw.ja.head (by decide)) λk a=>by
  obtain⟨c,g⟩:=au h.jw.ja.aN a;grind,h.jw.sm.off f (λe=>dD h.jw.sm.own i (Wa.1 e)) λk a=>by
  obtain⟨c,g⟩:=h.jw.sm.il a;grind,h.jw.eq,h.jw.apart⟩,j,λb d=>Xa d⟩,f.mono λk _ a=>by rw[Wa.1 a];exact gq (gg (Xb ..))⟩
 obtain⟨q',n,o,_,_,_,_,_,_,_,p,_⟩:=h.GV a;grind
theorem Slot.lG (h:Slot w r n m G){u v:Int}(A:u<=9223372036854775807)(hv:v<=9223372036854775807):∃bx S ba cap bs,w.cell? ⟨r,7,Y⟩=Z (ca (Z ⟨bx,0,Y⟩))/\PD w bx S ba cap bs/\
  ∀w',bS bx w w'->PD w' bx (fH S u v) ba cap bs->∃x,w'.cell? ⟨r,16,Y⟩=Z x/\w'.frozen? ⟨r,16,Y⟩=false/\Sn w (w'.setCell ⟨r,16,Y⟩ (bO (decide (0<=u\/0<=v)))) r n m G:=by
 obtain⟨R,p,F,y,h2,rfl,h4⟩:=h;have key:∀S ba cap bs,PD w p.bx S ba cap bs->(∀k∈pf p.bx ba bs,k∈F)->(∀w',bS p.bx w w'->PD w' p.bx (fH S u v) ba cap bs->∃F',(Body w' {R with lim:=decide (0<=u\/0<=v)} p F' n\/RI w' {R with lim:=decide (0<=u\/0<=v)} p F')/\∀k∈F',k∈F\/w.heap.size<=k)->
   ∃bx S ba cap bs,w.cell? ⟨r,7,Y⟩=Z (ca (Z ⟨bx,0,Y⟩))/\PD w bx S ba cap bs/\∀w',bS bx w w'->PD w' bx (fH S u v) ba cap bs->∃x,w'.cell? ⟨r,16,Y⟩=Z x/\w'.frozen? ⟨r,16,Y⟩=false/\Sn w (w'.setCell ⟨r,16,Y⟩ (bO (decide (0<=u\/0<=v)))) r n m (lf r p++F):=λS ba cap bs hP W d=>by
  refine⟨p.bx,S,ba,cap,bs,y.head.Ri 7,hP,λw' l V=>?_⟩;obtain⟨F',i,c⟩:=d w' l V;have ho:an [p.bx] w w':=an.cV l (Wa.2 rfl);have U:p.bx∈F:=W _ (gg (Xb ..));have hr:=y.off ho λk a e=>y.ap k a (Wa.1 e▸U)
  have z:=hr.head;unfold fe at z;have f:an [r] w' (w'.setCell ⟨r,16,Y⟩ (bO (decide (0<=u\/0<=v)))):=(an.refl _ _).set (Wa.2 rfl) _ _;have a0:RA (w'.setCell ⟨r,16,Y⟩ (bO (decide (0<=u\/0<=v)))) r {R with lim:=decide (0<=u\/0<=v)} p F:=hr.set f (z.set 16 _) ⟨rfl,rfl⟩ rfl rfl ⟨rfl,rfl,rfl⟩;have s:=a0.swap (N:=w.heap.size) y.lt c;have t:∀k∈F',k∉[r]:=λk a e=>s.ap r (mA r p) (Wa.1 e▸a)
  refine⟨_,z.Ri 16,z.frozen 16,lf r p++F',⟨_,p,F',s,h2,rfl,i.imp (λh=>h.off f t) ?_⟩,λk a=>?_,(ho.mono λk _ a=>by grind).trans (f.mono λk _ a=>by grind [mA])⟩
  .rintro⟨B,E,S,ba,cap,bs,rfl,J,M⟩;exact⟨B,E,S,ba,cap,bs,rfl,cm J f t,M⟩
  grind
 have o:∀(X:Nat) (q:Pl),∀k∈pf q.bx q.ba q.bs,k∈df X q:=λX q k a=>Ub _ (Ub _ (qb _ (gq a)))
 rcases h4 with (⟨X,D,q,K,b,H,rfl,i,c,j,T⟩|⟨X,D,q,rfl,i,c,j,T,h9,P⟩|⟨S,ba,cap,bs,rfl,i,c,j⟩)|⟨B,E,S,ba,cap,bs,rfl,J,M,a6⟩
 .refine key D.S q.ba q.cap q.bs (c▸j.pd) (c▸o X q) λw' d g=>?_
  rw[c]at d g;obtain⟨q',k1,k2,k3⟩:=j.limited d g;exact⟨df X q',Xa (Xa ⟨X,_,q',K,b,H,rfl,i,c.trans k2.symm,k1,T.lG A hv⟩),k3⟩
 .refine key D.S q.ba q.cap q.bs (c▸j.pd) (c▸o X q) λw' d g=>?_
  rw[c]at d g;obtain⟨q',k1,k2,k3⟩:=j.limited d g;exact⟨df X q',Xa (eb (Xa ⟨X,_,q',rfl,i,c.trans k2.symm,k1,T,h9,P.lG A hv⟩)),k3⟩
 .exact key S ba cap bs c (λk a=>a) λw' d g=>⟨_,Xa (eb (eb ⟨_,ba,cap,bs,rfl,i,g,j.lG A hv⟩)),λk a=>Xa a⟩
 exact key S ba cap bs J (λk a=>a) λw' d g=>⟨_,eb ⟨B,E,_,ba,cap,bs,rfl,g,M,(jJ (dC a6) u v A hv).aJ⟩,λk a=>Xa a⟩
theorem Slot.act (h:Slot w r n m G)(J:gp w0)(B:Below w0.heap.size w0 w)(c:∀k∈G,w0.heap.size<=k)(M:n<=7000000)(P:m<=100000000)(t:o.s.size<=1000000000)(u:-9223372036854775808<=o.a2)(v:o.a2<=9223372036854775807):
  w.cell? ⟨r,6,Y⟩=Z (ca Y)\/(∃X,w.cell? ⟨r,6,Y⟩=Z (ca (Z ⟨X,0,Y⟩))/\Yb Za 9 #[ca (Z ⟨r,0,Y⟩),.agg o.cs] w λe w'=>e=Ua (Va #[])/\Sn w w' r (n+o.s.size+2) (m+1) G):=by
 obtain⟨R,p,F,f,z,rfl,E⟩:=h;have d:w.cell? ⟨r,6,Y⟩=Z p.xv:=f.head.Ri 6;rcases E with (⟨X,D,q,K,b,H,rfl,a,g,i,j⟩|⟨X,D,q,rfl,a,g,i,j,A,l⟩|⟨S,ba,cap,bs,rfl,a,g⟩)|⟨_,a,_⟩
 .rw[a]at d;refine eb ⟨X,d,(PS ⟨J,B,f,a,g,i,c,j⟩ M (by omega) t u v).mono λe w' ⟨x,y⟩=>⟨x,y.sr.sn z⟩⟩
 .rw[a]at d;refine eb ⟨X,d,(RO f a i j A).mono λe w' ⟨x,y⟩=>⟨x,(Slot.stay ⟨R,p,_,f,z,rfl,Xa (eb (Xa ⟨X,D,q,rfl,a,g,i,j,A,l⟩))⟩ y).mono (by omega) (Ue _)⟩⟩
 .grind
 grind
variable {w0 w w' w1 W W1 W2 : Wb} {r n m n' m' n0 X ba cap B : Nat} {bs : List Nat} {R R' : Rn} {p p' : Rp} {F F' G G' : List Nat} {S S' : Dk} {o : Ac}
set_option maxRecDepth 10000 in
theorem wA (h:Slot w r n m G)(E:gp w0)(V:oC w0)(h0:Below w0.heap.size w0 w)(b:∀k∈G,w0.heap.size<=k)(z:n<=7000000)(K:m<=100000000)(a7:o.s.size<=1000000000)(a8:-9223372036854775808<=o.a2)(v:o.a2<=9223372036854775807)(R:o.a3<=9223372036854775807):
  Yb Za 7 #[ca (Z ⟨r,0,Y⟩),.agg o.cs] w λe w'=>e=Ua (Va #[])/\Sn w w' r (n+o.s.size+2) (m+1) G:=by
 have f:=Ac.new o w;have q:=aa (ai (w:=w) (.cells o.cs 37));have g:=aa (h.keep q);have a:=aa (h0.trans (q.mono h0.size));have x0:=f.Ri 0;have A:=f.Ri 1;have T:=f.Ri 2;have U:=f.Ri 3;have x4:=f.Ri 4;have HA:=aa f;have i:=aa (λ(w2:Wb) n' m' (z:n'<=n+o.s.size+2) (K:m'<=m+1) (hq:Sn (w.alloc (.cells o.cs 37)) w2 r n' m' G)=>(hq.mono z K).from q.out);change Hid _ at E V b;clear f h h0;unfold Ac.cs at *;go_in;go_upto_region 1 with fail;generalize w.alloc (.cells #[I O o.a0,I O o.a1,I O o.a2,I O o.a3,.string o.s] 37)=w1 at *;generalize a6:w.heap.size=ab at x0 A T U x4 HA ⊢;clear a6;by_cases k7:o.a1=7
 .rw[k7]at A;clear k7;go_upto_region 5 with fail;obtain⟨bx,-,-,-,-,F,-,-⟩:=g.lG v R;have C7:∀s:Bw w1,s.val.cell? ⟨r,7,Y⟩=Z (ca (Z ⟨bx,0,Y⟩)):=λs=>cF F s.is
  have X2:∀s:Bw w1,s.val.cell? ⟨ab,2,Y⟩=Z (I O o.a2):=λs=>cF T s.is
  have X3:∀s:Bw w1,s.val.cell? ⟨ab,3,Y⟩=Z (I O o.a3):=λs=>cF U s.is
  clear x0 A T U x4 F;refine bg 8 ?_;simp only[List.take_succ_cons,List.take_zero,List.drop_succ_cons,List.drop_zero];repeat (first|go_big_quiet_skip|(go_big_quiet_want;go_big_quiet_op;go_big_quiet_on))
  refine ad ?_;intro s;obtain⟨a5,S,ba,cap,bs,F,hP,D⟩:=(g.keep s.is).lG v R;obtain rfl:bx=a5:=by
   have h1:=(C7 s).symm.trans F;simpa using h1
  have HB:=aa s.is;change Hid _ at D;have J:=lG bx ba cap bs S o.a2 o.a3 s.val hP;have B:=aa (Mem.af.below HA s.is HA.lt);clear C7 X2 X3 F;generalize s.val=w2 at *;have a4:Hid (ab≠bx):=aA B hP.head (by decide);clear hP;go_wp2_with fail;refine J.mono ?_;clear J;rintro e y ⟨rfl,u,M⟩;obtain⟨x,a9,b0,P⟩:=D.out y u M;have d:=aa (i.out _ n m (by omega) (Ue _) (P.from HB.out));have t:=Mem.af.but B u a4;have T:=t.Ri 2;have U:=t.Ri 3;clear u M P t;by_cases h2:0<=o.a2
  .have l:decide (0<=o.a2\/0<=o.a3)=true:=decide_eq_true (Xa h2);rw[l]at d;clear l;go_wp2_with fail;go_end0;exact⟨rfl,d⟩
  have l:decide (0<=o.a2\/0<=o.a3)=decide (0<=o.a3):=by simp[h2]
  rw[l]at d;clear l;by_cases h3:0<=o.a3
  .rw[decide_eq_true h3]at d;go_wp2_with fail;go_end0;exact⟨rfl,d⟩
  rw[decide_eq_false h3]at d;go_wp2_with fail;go_end0;rw[show (decide (0<=o.a2)||decide (0<=o.a3))=false by simp[h2,h3]];exact⟨rfl,d⟩
 by_cases k8:o.a1=8
 .rw[k8]at A;have b1:¬(8:Int)=7:=by decide
  clear k7 k8;have H:=g.sd.copied E V a b z o.a2;go_wp2_with fail;refine H.mono ?_;clear H;rintro e w2 ⟨rfl,G2,g1,g2,g3,g4⟩;have W:=aa (Wc g1 (Wc g3 g4));have hst:=g1.start E V (a.trans (g4.below b a.size)) (λk hk=>(g3 k hk).elim (b.out k) λh=>Ya a.size h) z K;clear g1 g3 g4 x0 A T U x4;go_wp2_with fail;refine hst.mono ?_;clear hst g2;rintro e y ⟨rfl,G3,p,t2,t3⟩;have c:=aa (i.out y n (m+1) (by omega) (Vb _) ⟨G3,p,λk hk=>(t2 k hk).elim (W.2.1 k) λh=>eb (Ya W.2.2.size h),aP W.2.2 W.2.1 t3⟩);clear p t2 t3;go_wp2_with fail;go_end0;exact⟨rfl,c⟩
 by_cases k9:o.a1=9
 .rw[k9]at A;clear k7 k8 k9;have hst:=g.sd.start E V a b z K;go_wp2_with fail;refine hst.mono ?_;clear hst;rintro e y ⟨rfl,p⟩;have c:=aa (i.out y n (m+1) (by omega) (Vb _) p);clear p;go_wp2_with fail;go_end0;exact⟨rfl,c⟩
 have j:=g.act (o:=o) E a b z K a7 a8 v;rcases j with c6|⟨X,c6,j⟩
 .have c:=aa (i.out w1 n m (by omega) (Ue _) (g.stay (Zd _ _)));go_wp2_with fail;go_end0;exact⟨rfl,c⟩
 unfold Ac.cs at j;go_wp2_with fail;refine j.mono ?_;clear j;rintro e y ⟨rfl,p⟩;have c:=aa (i.out y _ _ (Vb _) (Vb _) p);clear p;go_wp2_with fail;go_end0;exact⟨rfl,c⟩
variable {w0 w w' w1 W W1 W2 : Wb} {r n m X ba cap bx : Nat} {bs : List Nat} {R R' : Rn} {p p' : Rp} {F F' G G' : List Nat} {S S' : Dk} {c : Fin 6 -> Int}
def R0 (c:Fin 6->Int):Rn:=⟨c,0,⟨[],0,[],0,-1⟩,[],[],[],false,false,⟨0,0,0,0,⟨#[]⟩⟩⟩
def P0 (bx:Nat):Rp:=⟨ca Y,bx,Q Y 0 0,Q Y 0 0,Q Y 0 0,Q Y 0 0,Q Y 0 0,Q Y 0 0,[],[]⟩
theorem Tn (f:af w r 40 (fe (R0 c) (P0 bx)))(g:r∉F):RA w r (R0 c) (P0 bx) F:=
 have b:∀t s,w.ownsRow 0 t s (Q Y 0 0) 0 []:=λt s=>World.ownsRow_nil w 0 t s
 ⟨f,⟨⟨b _ _,b _ _⟩,b _ _,b _ _,b _ _,b _ _,λi e d=>(by simp[P0]at d),λk a=>(by cases a),λk a=>(by cases a),λk a=>(by cases a)⟩,λh=>(by cases h),λk a=>by
  rw[Wa.1 (show k∈[r] from a)];exact g⟩
theorem SL (f:oz c):Dr (R0 c) Dm.fresh 0 where
 all:=Xa ⟨rfl,rfl,rfl,⟨Vb _,Vb _,Vb _,λd i=>(by cases i),by decide,λs b=>(by cases b)⟩,(R0 c).W,gX _,rfl,⟨0,rfl,Vd _,Vb _⟩,λh=>absurd rfl h,rfl⟩
 gd:=rr
 bd:=⟨Vb _,Vb _,λk l=>(by cases l)⟩
 ll:=f
 lim:=λ_=>⟨rfl,rfl⟩
 now:=⟨Vd _,by show (0:Int)<=1000000000;decide⟩
 o:=⟨Vd _,by show (0:Int)<=1000000000;decide⟩
 len:=Vb _
 lines:=Vb _
 short:=λs b=>(by cases b)
 sr:=⟨Vd _,Vd _⟩
 tp:=⟨Vd _,by show (-1:Int)<=1000000000;decide⟩
 dues:=Vb _
 ds:=eb (eb rfl)
 eZ:=λV e=>by
  rw[show dV (R0 c)=[(R0 c).W] from if_pos rfl]at e;rw[Wa.1 e];exact⟨λm a=>(by cases a),λg j=>(by cases j),Vb _,List.Pairwise.nil,λm a=>(by cases a),λm a=>(by cases a),Vb _⟩
def Fq (w w':Wb)(r:Nat)(c:Fin 6->Int)(A:List Nat):Prop:=∃R p F,RA w' r R p F/\p.ls.length<=1/\(∀k∈lf r p++F,k∈A\/w.heap.size<=k)/\an A w w'/\R.c=c/\
 ((Body w' R p F 0/\(∃X,p.xv=ca (Z ⟨X,0,Y⟩))/\R.lim=false/\R.sp=false/\R.W=⟨[],0,[],0,-1⟩/\R.now=0)\/RI w' R p F)
set_option maxRecDepth 10000 in
theorem Og (E:Check.aJ (c 0) (c 1) (c 2) (c 3) (c 4) (c 5)=false)(G:RA w r (R0 c) (P0 bx) (pf bx ba []))(U:PD w bx Dm.fresh ba cap []):
  Yb Za 13 #[ca (Z ⟨r,0,Y⟩)] w λe w'=>e=Ua (Va #[])/\Fq w w' r c (r ::pf bx ba []):=by
 have m:=Check.mr (c 0) (c 1) (c 2) (c 3) (c 4) (c 5) w;rw[E]at m;change Hid _ at E;have HR:=aa G;have HP:=aa U;have l:bx∈pf bx ba []:=gg (Xb ..);have x:=aa (show ∀k∈r ::lb (P0 bx),k∉[bx] from λk A e=>G.ap k A (Wa.1 e▸l));change Hid _ at l;have n:=G.head;have c0:w.cell? ⟨r,0,Y⟩=Z (I O (c 0)):=n.Ri 0;have c1:w.cell? ⟨r,1,Y⟩=Z (I O (c 1)):=n.Ri 1;have c2:w.cell? ⟨r,2,Y⟩=Z (I O (c 2)):=n.Ri 2;have c3:w.cell? ⟨r,3,Y⟩=Z (I O (c 3)):=n.Ri 3;have c4:w.cell? ⟨r,4,Y⟩=Z (I O (c 4)):=n.Ri 4;have c5:w.cell? ⟨r,5,Y⟩=Z (I O (c 5)):=n.Ri 5;clear n G U;go_in;go_wp2_with fail;refine m.mono ?_;clear m c0 c1 c2 c3 c4 c5;rintro e w1 ⟨rfl,g⟩;have q:=aa (HR.keep g);have H:=aa (an.ag (F:=[bx]) g);have f:=lG bx ba cap [] Dm.fresh 0 0 w1 (HP.keep g);have z:w1.cell? ⟨r,7,Y⟩=Z (ca (Z ⟨bx,0,Y⟩)):=q.head.Ri 7;clear g;go_wp2_with fail;refine f.mono ?_;clear f z;rintro e i ⟨rfl,d,D⟩;have b:=an.cV d (Wa.2 rfl);have J:=aa (H.trans b);have a:=aa (q.off b x);have P:=aa D;clear d D b;go_upto_region 3 with fail;have X:∀s:Bw i,s.val.cell? ⟨r,0,Y⟩=Z (I O (c 0)):=λs=>(a.keep s.is).head.Ri 0
 have C1:∀s:Bw i,s.val.cell? ⟨r,1,Y⟩=Z (I O (c 1)):=λs=>(a.keep s.is).head.Ri 1
 have C2:∀s:Bw i,s.val.cell? ⟨r,2,Y⟩=Z (I O (c 2)):=λs=>(a.keep s.is).head.Ri 2
 have C3:∀s:Bw i,s.val.cell? ⟨r,3,Y⟩=Z (I O (c 3)):=λs=>(a.keep s.is).head.Ri 3
 have C4:∀s:Bw i,s.val.cell? ⟨r,4,Y⟩=Z (I O (c 4)):=λs=>(a.keep s.is).head.Ri 4
 have C5:∀s:Bw i,s.val.cell? ⟨r,5,Y⟩=Z (I O (c 5)):=λs=>(a.keep s.is).head.Ri 5
 have C7:∀s:Bw i,s.val.cell? ⟨r,7,Y⟩=Z (ca (Z ⟨bx,0,Y⟩)):=λs=>(a.keep s.is).head.Ri 7
 have p:=aa (λs:Bw i=>aT (s:=s) (Check.FY (c 0) (c 1) (c 2) (c 3) (c 4) (c 5) s.val));have y:=aa (λs:Bw i=>aT (s:=s) (yG c E bx s.val));refine aU ?_;repeat go_big_quiet_step ((first|(go_at_call 27;exact p.out _)|(go_at_call 26;exact y.out _)))
 refine ad ?_;rintro _ ⟨s,rfl⟩;have t:=aa (a.keep s.is);have R:=aa (P.keep s.is);have K:=aa (J.trans (an.ag s.is));clear X C1 C2 C3 C4 C5 C7 p y;generalize s.val=V at *;have f:=lG bx ba cap [] (fH Dm.fresh 0 0) (-1) (-1) V R;have z:V.cell? ⟨r,7,Y⟩=Z (ca (Z ⟨bx,0,Y⟩)):=t.head.Ri 7;go_wp2_with fail;refine f.mono ?_;clear f z;rintro e W ⟨rfl,d,o⟩;have b:=an.cV d (Wa.2 rfl);have M:=aa (K.trans b);have u:=aa (t.off b x);have S:=aa o;have B:=list bx ba cap [] (fH (fH Dm.fresh 0 0) (-1) (-1)) W o (by simp);have z:W.cell? ⟨r,7,Y⟩=Z (ca (Z ⟨bx,0,Y⟩)):=u.head.Ri 7;clear d o b;go_wp2_with fail;refine B.mono ?_;clear B z;rintro e w5 ⟨v,hv,j,h⟩;obtain⟨va,vc,rfl⟩:=ak j;have T:e=Ua (Va #[Q va 0 vc,I O 0]):=hv;subst T;have HF:=aa (show Fq w w5 r c (r ::pf bx ba []) from⟨R0 c,P0 bx,pf bx ba [],u.keep h,Zc _,λk A=>Xa A,(M.trans (an.ag h)).mono λk _ A=>by rw[Wa.1 A];exact Ub _ l,rfl,eb ⟨E,rfl,_,ba,cap,[],rfl,S.keep h,rfl,(jJ (jJ (dC rr) 0 0 (by decide) (by decide)) (-1) (-1) (by decide) (by decide)).aJ⟩⟩);clear hv j h;go_wp2_with (first|(go_at_call 29;refine(Check.num _ _).mono ?_;rintro e w' ⟨rfl,rfl⟩)|(go_at_call 11;refine(dX r _).mono ?_;rintro e w' ⟨rfl,rfl⟩))
 refine bodyPost_ret (results_none rfl _ _ _) rfl ?_;exact⟨rfl,HF⟩
set_option maxRecDepth 10000 in
theorem Oh (HT:gp w0)(hE:oC w0)(h0:Below w0.heap.size w0 w)(HC:oz c)(ra:RA w r (R0 c) (P0 bx) (pf bx ba []))(hP:PD w bx Dm.fresh ba cap [])(a:∀k∈r ::pf bx ba [],w0.heap.size<=k):
  Yb Za 13 #[ca (Z ⟨r,0,Y⟩)] w λe w'=>e=Ua (Va #[])/\Fq w w' r c (r ::pf bx ba []):=by
 have z:=Check.mr (c 0) (c 1) (c 2) (c 3) (c 4) (c 5) w;rw[nJ HC]at z;have i:=aa ra;have a1:=aa (λ(W:Wb) (hb:Below w.heap.size w W)=>Be (R:=R0 c) HT hE (h0.trans (hb.mono h0.size)) (hP.keep hb) (λb hb=>a b (Ub _ hb)) (SL HC) (Zc _));change Hid _ at HT;have G:=aa h0;change Hid _ at a HC;have d:=ra.head;have c0:w.cell? ⟨r,0,Y⟩=Z (I O (c 0)):=d.Ri 0;have c1:w.cell? ⟨r,1,Y⟩=Z (I O (c 1)):=d.Ri 1;have c2:w.cell? ⟨r,2,Y⟩=Z (I O (c 2)):=d.Ri 2;have c3:w.cell? ⟨r,3,Y⟩=Z (I O (c 3)):=d.Ri 3;have c4:w.cell? ⟨r,4,Y⟩=Z (I O (c 4)):=d.Ri 4;have c5:w.cell? ⟨r,5,Y⟩=Z (I O (c 5)):=d.Ri 5;haveI:Nonempty (In (λW=>af W r 40 (fe (R0 c) (P0 bx)))):=⟨⟨w,ra.head⟩⟩
 have C0:∀s:In (λW=>af W r 40 (fe (R0 c) (P0 bx))),s.val.cell? ⟨r,0,Y⟩=Z (I O (c 0)):=λs=>s.is.Ri 0
 have C1:∀s:In (λW=>af W r 40 (fe (R0 c) (P0 bx))),s.val.cell? ⟨r,1,Y⟩=Z (I O (c 1)):=λs=>s.is.Ri 1
 have C2:∀s:In (λW=>af W r 40 (fe (R0 c) (P0 bx))),s.val.cell? ⟨r,2,Y⟩=Z (I O (c 2)):=λs=>s.is.Ri 2
 have C3:∀s:In (λW=>af W r 40 (fe (R0 c) (P0 bx))),s.val.cell? ⟨r,3,Y⟩=Z (I O (c 3)):=λs=>s.is.Ri 3
 have C4:∀s:In (λW=>af W r 40 (fe (R0 c) (P0 bx))),s.val.cell? ⟨r,4,Y⟩=Z (I O (c 4)):=λs=>s.is.Ri 4
 have C5:∀s:In (λW=>af W r 40 (fe (R0 c) (P0 bx))),s.val.cell? ⟨r,5,Y⟩=Z (I O (c 5)):=λs=>s.is.Ri 5
 have C7:∀s:In (λW=>af W r 40 (fe (R0 c) (P0 bx))),s.val.cell? ⟨r,7,Y⟩=Z (ca (Z ⟨bx,0,Y⟩)):=λs=>s.is.Ri 7
 clear d ra hP hE h0;go_in;go_wp2_with fail;refine z.mono ?_;clear z c0 c1 c2 c3 c4 c5;rintro e w1 ⟨rfl,a2⟩;have b3:=aa a2;clear a2;go_upto_region 3 with fail;have m:Hid (Below w.heap.size w w1.drew):=b3.drew;refine dS (λW=>∃s:In (λW=>af W r 40 (fe (R0 c) (P0 bx))),W=s.val) 14 (by kernel_rfl) ?_;refine kL (f:=7) [0,1,2,3,5,6,7,8] (In.has (i.keep m).head) (by kernel_rfl) (λ_ _ _ _ _ h=>h) rfl ?_;simp only[Ve,Xe,ed,Xc,Yc,Xd];repeat (first|go_big_quiet_skip|(go_big_quiet_want;go_big_quiet_op;go_big_quiet_on))
 refine ad ?_;clear C0 C1 C2 C3 C4 C5 C7;generalize w1.drew=wd at *;refine aW (j:=4) (λK p=>?_);go_simp;refine(Check.FY _ _ _ _ _ _ _).mono ?_;rintro e w2 ⟨rfl,a3⟩;have E:=aa (m.trans (a3.mono m.size));refine p _ _ (λ_=>In.has (i.keep E).head) ?_;clear p K a3 m;have hst:=a1.out w2 E;unfold cfg at hst;refine aW (j:=9) (λK p=>?_);go_simp;refine hst.mono ?_;clear hst a1;rintro e w3 h;rcases h with ⟨-,hl,-⟩|⟨X,q,S',H,K',V,rfl,M,a4,x,A,a5,hV,hf,a7,a8⟩
 .exact absurd hl Bool.false_ne_true
 have B:=(i.keep E).off A i.ap;have S:=aa (In.has (C:=λW=>af W r 40 (fe (R0 c) (P0 bx))) B.head);have hz:=E.size;have t:=B.swap (N:=w2.heap.size) (λk g=>Vc (i.lt k g) hz) x;have a9:=(SL HC).found a7 a8 a5 hV hf (gX _) (by
  have D:V=(R0 c).W:=Wa.1 (show V∈[(R0 c).W] from(show dV (R0 c)=[(R0 c).W] from if_pos rfl)▸hV);rw[<-D];exact hf.due.symm) (by
  have D:V=(R0 c).W:=Wa.1 (show V∈[(R0 c).W] from(show dV (R0 c)=[(R0 c).W] from if_pos rfl)▸hV);obtain⟨k,e1,_,e3⟩:=hf.k;rw[<-D,e1,vd];omega)
 have U:Lr (R0 c) (Dg c S' H) K' [] H 0:=by
  have D:V=(R0 c).W:=Wa.1 (show V∈[(R0 c).W] from(show dV (R0 c)=[(R0 c).W] from if_pos rfl)▸hV);have h2:=hf.PY;have h3:H.ar.length=0:=by
   have h4:=h2.2.2.1;rw[D]at h4;exact Nat.le_zero.1 h4
  have h4:(eK H).onum=0:=by
   rw[h2.2.2.2.1,BS,if_pos h3,D];rfl
  rwa [h3,h4]at a9
 have u:=aa t;change Hid _ at M U;have b4:=aa a4;have P:=aa (show ∀k∈df X q,k∈pf bx ba []\/w.heap.size<=k from λk g=>(x k g).imp id λh=>Ya hz h);have b5:=aa ((an.ag (F:=pf bx ba []) E).trans A);refine p _ _ (λ_=>S) ?_;clear p K B t a4 x A a5 hV hf a7 a8 a9;refine kL (f:=1) [10,11,12,13] S (by kernel_rfl) (λ_ _ _ _ _ h=>h) rfl ?_;simp only[Ve,Xe,ed,Xc,Yc,Xd];repeat (first|go_big_quiet_skip|(go_big_quiet_want;go_big_quiet_op;go_big_quiet_on))
 refine ad ?_;refine aW (j:=14) (λK p=>?_);go_simp;refine p _ _ (λh=>absurd h (by decide)) ?_;clear p K;refine Tz ?_;have d:=u.head;unfold fe at d;have d6:=d.Ri 6;have f6:=d.frozen 6;have b6:=d.Ri 25;have b1:=d.set 6 (ca (Z ⟨X,0,Y⟩));have n:an [r] w3 (w3.setCell ⟨r,6,Y⟩ (ca (Z ⟨X,0,Y⟩))):=(an.refl _ _).set (Wa.2 rfl) _ _;have b0:RA (w3.setCell ⟨r,6,Y⟩ (ca (Z ⟨X,0,Y⟩))) r (R0 c) {P0 bx with xv:=ca (Z ⟨X,0,Y⟩)} (df X q):=u.set n b1 ⟨rfl,rfl⟩ rfl rfl ⟨rfl,rfl,rfl⟩;have l:an (r ::pf bx ba []) w (w3.setCell ⟨r,6,Y⟩ (ca (Z ⟨X,0,Y⟩))):=(b5.mono λk _ g=>Ub _ g).trans (n.mono λk _ g=>by rw[Wa.1 g];exact Xb ..);have b2:=G.size;have T:=aa (show LM w0 (w3.setCell ⟨r,6,Y⟩ (ca (Z ⟨X,0,Y⟩))) r (R0 c) {P0 bx with xv:=ca (Z ⟨X,0,Y⟩)} X (Dg c S' H) q K' [] H 0 from⟨HT,G.trans (l.below a b2),b0,rfl,b4.symm,u.lq M n,λk g=>by
  rcases Zb.1 g with h|h
  .rw[Wa.1 (show k∈[r] from h)];exact a.out r (Xb ..)
  exact(P.out k h).elim (λh=>a.out k (Ub _ h)) λh=>Ya b2 h,U⟩)
 have a0:=aa l;clear d b1 n b0 l;go_wp2_with (first|(go_at_call 29;refine(Check.num _ _).mono ?_;rintro e w' ⟨rfl,rfl⟩)|(go_at_call 11;refine(dX r _).mono ?_;rintro e w' ⟨rfl,rfl⟩))
 clear d6 f6 b6;generalize w'.setCell ⟨r,6,Y⟩ (ca (Z ⟨X,0,Y⟩))=w4 at *;refine(Co T (Zc _)).mono ?_;rintro e w5 ⟨rfl,v⟩;have J:=aa v;have a6:=Nc (o:=⟨0,5,0,0,⟨#[]⟩⟩) (T.keep v) (Zc _) (Zc _) (jX (by decide)) (by decide);clear v;go_wp2_with fail;refine a6.mono ?_;clear a6;rintro e w6 ⟨rfl,R',p',F',f1,f2,f3,f4,f5,f6⟩;obtain⟨g1,g2,g3,g4,g5⟩:=f6 rfl;have b7:=a0.size;have b8:=J.size;have y:∀k∈(r ::lb ({P0 bx with xv:=ca (Z ⟨X,0,Y⟩)}:Rp))++df X q,k∈r ::pf bx ba []\/w.heap.size<=k:=λk g=>by
  rcases Zb.1 g with h|h
  .rw[Wa.1 (show k∈[r] from h)];exact Xa (Xb ..)
  exact(P.out k h).imp (Ub _) id
 have HF:=aa (show Fq w w6 r c (r ::pf bx ba []) from⟨R',p',F',f1,f3.1,λk g=>(f4 k g).elim (y k) λh=>eb (by omega),aP (a0.trans (an.ag J)) y f5,g3,Xa ⟨f2,⟨X,f3.2⟩,g1,g2,g4.trans (jX (by decide)),g5⟩⟩);clear f1 f2 f3 f4 f5 f6 g1 g2 g3 g4 g5 y;go_wp2_with fail;go_end0;exact⟨rfl,HF⟩
variable {w0 w w' w1 W W1 W2 : Wb} {r n m X ba cap bx : Nat} {bs : List Nat} {R R' : Rn} {p p' : Rp} {F F' G G' : List Nat} {S S' : Dk} {c : Fin 6 -> Int} {V V' : Wd} {nw : Int} {o : Ac}
theorem QF (h:Check.aJ (c 0) (c 1) (c 2) (c 3) (c 4) (c 5)=true):oz c:=by
 simp only[Check.aJ,Bool.and_eq_true,Check.KW]at h;obtain⟨a,b,d,e,f,g⟩:=h;exact⟨a,b,d,e,f,g⟩
set_option maxRecDepth 10000 in
theorem FN (P:gp w0)(K:oC w0)(z:Below w0.heap.size w0 w)(c:Fin 6->Int):
  Yb Za 5 #[.agg #[I O (c 0),I O (c 1),I O (c 2),I O (c 3),I O (c 4),I O (c 5)]] w λe w'=>∃r,e=Ua (ca (Z ⟨r,0,Y⟩))/\Fq w w' r c []:=by
 have A:=aa (λ(W:Wb) (r bx ba cap:Nat) (V:Below w.heap.size w W) (T:RA W r (R0 c) (P0 bx) (pf bx ba [])) (M:PD W bx Dm.fresh ba cap []) (X:∀k∈r ::pf bx ba [],w.heap.size<=k)=>show Yb Za 13 #[ca (Z ⟨r,0,Y⟩)] W λe w'=>e=Ua (Va #[])/\Fq W w' r c (r ::pf bx ba []) from by
  rcases S:Check.aJ (c 0) (c 1) (c 2) (c 3) (c 4) (c 5) with _|_
  .exact Og S T M
  exact Oh P K (z.trans (V.mono z.size)) (QF S) T M λk u=>Ya z.size (X k u))
 have n:=aa (ai (w:=w) (.cells #[I O (c 0),I O (c 1),I O (c 2),I O (c 3),I O (c 4),I O (c 5)] 23));have v:=aa (af.new w 23 #[I O (c 0),I O (c 1),I O (c 2),I O (c 3),I O (c 4),I O (c 5)]);clear P K z;go_in;go_upto_region 1 with fail;generalize w.alloc (.cells #[I O (c 0),I O (c 1),I O (c 2),I O (c 3),I O (c 4),I O (c 5)] 23)=w1 at *;go_wp2_with fail;refine(Dh.new w1).mono ?_;rintro e m ⟨rfl,x⟩;have j:=ai (w:=w1) (.cells #[Q Y 0 0,I O (-1),I O (-1)] 62);have g:=aa (af.new w1 62 #[Q Y 0 0,I O (-1),I O (-1)]);rw[<-x]at j g;have d:=aa (n.trans (j.mono n.size));have a:=Mem.af.below v j v.lt;have x0:=a.Ri 0;have x1:=a.Ri 1;have x2:=a.Ri 2;have x3:=a.Ri 3;have x4:=a.Ri 4;have x5:=a.Ri 5;clear x j a;have t:=af.new m 40 (fe (R0 c) (P0 w1.heap.size));have l:=ai (w:=m) (.cells (fe (R0 c) (P0 w1.heap.size)) 40);have a0:=n.size;have a1:=d.size;have a2:=g.lt;have f:∀k∈m.heap.size ::pf w1.heap.size (m.heap.size+1) [],w.heap.size<=k:=λk u=>by
  unfold pf at u;simp at u;omega
 have q:=A.out _ m.heap.size w1.heap.size (m.heap.size+1) 0 (d.trans (l.mono d.size)) (Tn t (by unfold pf;simp;omega)) ⟨Mem.af.below g l g.lt,rfl,λh=>absurd rfl h,λi b s h=>by simp at h,by simp;omega,λh=>absurd rfl h⟩ f;have o:=aa (d.trans (l.mono d.size));change Hid _ at f;have B:(m.alloc (.cells (fe (R0 c) (P0 w1.heap.size)) 40)).cell? ⟨m.heap.size,25,Y⟩=Z (bO true):=t.Ri 25;unfold fe R0 P0 at B q o;clear t l;go_upto_region 3 with fail;go_wp2_with fail;refine q.mono ?_;clear q;rintro e w6 ⟨rfl,R,p,F,D,E,G,H,J⟩;have y:=o.size;have U:=aa (show Fq w w6 m.heap.size c [] from⟨R,p,F,D,E,λk u=>eb ((G k u).elim (f.out k) λh=>Ya y h),an.ag (o.trans (H.below f y)),J⟩);clear D E G H J;go_wp2_with fail;go_ret;exact⟨_,rfl,U⟩
variable {w0 w w' w1 W W1 W2 : Wb} {r n m X : Nat} {R R' : Rn} {p p' : Rp} {F F' G G' : List Nat} {c : Fin 6 -> Int} {V V' : Wd} {nw nw' : Int} {o : Ac}
def St (w W:Wb)(r:Nat)(c:Fin 6->Int)(V:Wd)(nw:Int)(n m:Nat):Prop:=∃R p F,RA W r R p F/\Body W R p F n/\p.ls.length<=m/\(∀k∈lf r p++F,w.heap.size<=k)/\Below w.heap.size w W/\(∃X,p.xv=ca (Z ⟨X,0,Y⟩))/\R.lim=false/\R.sp=false/\R.c=c/\R.W=V/\R.now=nw
theorem St.lm (h:St w W r c V nw n m)(s:gp w):∃R p X D q K b H,LM w W r R p X D q K b H n/\p.ls.length<=m/\R.lim=false/\R.c=c/\R.W=V/\R.now=nw:=by
 obtain⟨R,p,F,a,d,e,f,g,⟨X,i⟩,j,l,o⟩:=h;rcases d with ⟨X,D,q,K,b,H,rfl,t,u,v,x⟩|⟨_,_,_,_,_,_,_,_,k,_⟩|⟨_,_,_,_,_,k,_⟩
 .exact⟨R,p,X,D,q,K,b,H,⟨s,g,a,t,u,v,f,x⟩,e,j,o⟩
 .exact absurd (k.symm.trans l) (by decide)
 rw[i]at k;cases k
theorem St.keep (h:St w W r c V nw n m)(a:Below W.heap.size W W1):St w W1 r c V nw n m:=by
 obtain⟨R,p,F,d,e,f,g,b,i⟩:=h;exact⟨R,p,F,d.keep a,e.off (G:=[]) (an.ag a) (λ_ _=>by simp),f,g,b.trans (a.mono b.size),i⟩
theorem St.below (h:St w W r c V nw n m):Below w.heap.size w W:=
 have ⟨_,_,_,_,_,_,_,a,_⟩:=h
 a
noncomputable def NH (c:Fin 6->Int)(nw:Int)(V:Wd)(o:Ac):Wd:=lT ⟨c,nw,V,[],[],[],false,false,o⟩ o
theorem St.act (h:St w W r c V nw n m)(J:gp w)(S:n<=7000000)(hm:m<=100000000)(T:o.s.size<=1000000000)(d:-9223372036854775808<=o.a2)(f:o.a2<=9223372036854775807)(M:NH c nw V o=V')(U:(if o.a1=2/\¬(o.a2<=nw\/1000000000<o.a2) then o.a2 else nw)=nw'):
  Yb Za 9 #[ca (Z ⟨r,0,Y⟩),.agg o.cs] W λe w'=>e=Ua (Va #[])/\St w w' r c V' nw' (n+o.s.size+2) (m+1):=by
 obtain⟨R,p,X,D,q,K,b,H,a,h2,F,g,G,i⟩:=h.lm J;refine(PS a S (by omega) T d f).mono λe w' ⟨k1,R',p',F',j,l,t,u,v,x⟩=>⟨k1,R',p',F',j,l,by omega,λk P=>(u k P).elim (a.far k) λe=>Ya a.b0.size e,a.b0.trans (v.below a.far a.b0.size),⟨X,t.2.trans a.xv⟩,?_⟩
 obtain⟨y,z,A,B,E⟩:=x F;exact⟨y,z,A.trans g,by rw[B,<-M,<-g,<-G,<-i];rfl,by rw[E,<-U,i]⟩
theorem St.x (h:St w W r c V nw n m)(i:gp w)(u:n<=8000000):∃X,W.cell? ⟨r,6,Y⟩=Z (ca (Z ⟨X,0,Y⟩))/\W.cell? ⟨r,25,Y⟩=Z (bO true)/\(∃a cap,W.cell? ⟨r,9,Y⟩=Z (Q a V.due.length cap))/\Yb Za 10 #[ca (Z ⟨X,0,Y⟩)] W λe w'=>∃v,e=Ua v/\w'.ownsRow W.heap.size 47 2 v V.due.length (aH V.due)/\Below W.heap.size W w':=by
 obtain⟨R,p,X,D,q,K,b,H,d,l,o,s,f,t⟩:=h.lm i;obtain⟨a,cap,k⟩:=ak d.ra.rows.wd.due;have j:V.due=D.due:=by rw[<-f];exact d.lr.due
 exact⟨X,d.c6,d.ra.head.Ri 25,⟨a,cap,by have g:W.cell? ⟨r,9,Y⟩=Z p.dv:=d.ra.head.Ri 9;rw[g,k,f]⟩,by rw[j];exact Oa W X D q d.da (by have:=d.lr.dl.bn.dues;omega)⟩
def kc:Fin 6->Int
 | 0=>10
 | 1=>2
 | 2=>1
 | 3=>2
 | 4=>1
 | 5=>64
def ks:ByteArray:=⟨#[99,58,49,124,99]⟩
def kt:ByteArray:=⟨#[119,105,110,100,111,119,32,48,32,114,101,106,101,99,116,115,32,48,32,100,114,111,112,115,32,48,10,99,124,99,61,49,48,48,48,10]⟩
theorem Oq:ir 0 (ju (bP kc) gC [99,58,49,124,99])=[119,105,110,100,111,119,32,48,32,114,101,106,101,99,116,115,32,48,32,100,114,111,112,115,32,48,10,99,124,99,61,49,48,48,48,10]:=by decide +kernel
def Sf:Wd:=⟨[],0,[ks],0,-1⟩
def SP:Wd:=⟨[⟨0,kt⟩],1,[],0,0⟩
def Sg:Wd:=⟨[],1,[],0,0⟩
theorem Ql:NH kc 0 ⟨[],0,[],0,-1⟩ ⟨0,1,0,0,ks⟩=Sf:=by
 unfold NH lT;rw[if_pos ⟨rfl,by decide⟩];show th (dL _ (0 / 10) _) ks=_;unfold dL;rw[if_pos (by decide)];rfl
theorem Qm:NH kc 0 Sf ⟨0,2,10,0,⟨#[]⟩⟩=SP:=by
 unfold NH lT;rw[if_neg (by decide),if_pos (by decide)];show dL _ (10 / 10) Sf=_;unfold dL;rw[if_neg (by decide),if_pos (by decide)];show (⟨[⟨0,⟨(ir 0 (ju (bP kc) gC (B ks))).toArray⟩⟩],10 / 10,[],0,0⟩:Wd)=_;rw[show B ks=[99,58,49,124,99] from rfl,Oq];rfl
theorem Qn:NH kc 10 SP ⟨0,4,0,0,⟨#[]⟩⟩=Sg:=by
 unfold NH lT;rw[if_neg (by decide),if_neg (by decide),if_neg (by decide),if_pos rfl];rfl
theorem Ni (a:Int)(h:a=5\/a=6):NH kc 10 Sg ⟨0,a,0,0,⟨#[]⟩⟩=Sg:=jX (by show a≠1/\a≠2/\a≠3/\a≠4;omega)
set_option maxRecDepth 10000 in
theorem Ov (w:Wb)(a:gp w)(S:oC w):Yb Za 4 #[] w λe w'=>e=Ua (bO true)/\Below w.heap.size w w':=by
 have m:=FN a S (Zd _ w) kc;rw[show kc 0=10 from rfl,show kc 1=2 from rfl,show kc 2=1 from rfl,show kc 3=2 from rfl,show kc 4=1 from rfl,show kc 5=64 from rfl]at m;change Hid _ at a;clear S;go_in;go_wp2_with fail;refine m.mono ?_;clear m;rintro e w1 ⟨r,rfl,R,p,F,H,J,K,M,y,P⟩;have E:=aa (show St w w1 r kc ⟨[],0,[],0,-1⟩ 0 0 1 from by
  rcases P with ⟨g1,g2,g3,g4,g5,g6⟩|⟨g,_⟩
  .exact⟨R,p,F,H,g1,J,λk A=>(K k A).elim (λh=>by cases h) id,M.below (λk A=>by cases A) (Vb _),g2,g3,g4,y,g5,g6⟩
  rw[y]at g;exact absurd g (by decide))
 clear H J K M y P;obtain⟨X,u,n,-,-⟩:=E.x a (by omega);have c:=E.act (o:=⟨0,1,0,0,ks⟩) a (by omega) (by omega) (by decide) (by decide) (by decide) Ql rfl;unfold Ac.cs ks at c;go_wp2_with fail;refine c.mono ?_;clear c u n;rintro e w2 ⟨rfl,c⟩;have H2:=aa c;have d:=c.act (o:=⟨0,2,10,0,⟨#[]⟩⟩) a (by decide) (by omega) (by decide) (by decide) (by decide) Qm rfl;unfold Ac.cs at d;clear c;go_wp2_with fail;refine d.mono ?_;clear d;rintro e w3 ⟨rfl,d⟩;have W:=aa d;obtain⟨X3,u,-,-,t⟩:=d.x a (by decide);clear d;go_wp2_with fail;refine t.mono ?_;clear t u;rintro e V ⟨v,rfl,b,q⟩;have H4:=aa (W.keep q);obtain⟨g,cap,hv,s,-,-,T,U,-,-⟩:=jz (i:=0) b rfl;have D:v=Q (Z ⟨g,0,Y⟩) 1 cap:=hv;subst D;have n0:V.cell? ⟨g,0,Y⟩=Z (I O 0):=T;have n1:V.cell? ⟨g,1,Y⟩=Z (.string kt):=U;have z:1<=cap:=s;have B:kt.toList=[119,105,110,100,111,119,32,48,32,114,101,106,101,99,116,115,32,48,32,100,114,111,112,115,32,48,10,99,124,99,61,49,48,48,48,10]:=by
  rw[Lib.toList_data];rfl
 clear b q hv T U s;go_wp2_with (go_at_call 11;refine(dX r _).mono ?_;rintro e w' ⟨rfl,rfl⟩)
 clear n0 n1 B z;have f:=H4.act (o:=⟨0,4,0,0,⟨#[]⟩⟩) a (by decide) (by omega) (by decide) (by decide) (by decide) Qn rfl;unfold Ac.cs at f;refine f.mono ?_;clear f;rintro e w5 ⟨rfl,f⟩;have H5:=aa f;have j:=f.act (o:=⟨0,5,0,0,⟨#[]⟩⟩) a (by decide) (by omega) (by decide) (by decide) (by decide) (Ni 5 (Xa rfl)) rfl;unfold Ac.cs at j;clear f;go_wp2_with fail;refine j.mono ?_;clear j;rintro e w6 ⟨rfl,j⟩;have H6:=aa j;have l:=j.act (o:=⟨0,6,0,0,⟨#[]⟩⟩) a (by decide) (by omega) (by decide) (by decide) (by decide) (Ni 6 (eb rfl)) rfl;unfold Ac.cs at l;clear j;go_wp2_with fail;refine l.mono ?_;clear l;rintro e w7 ⟨rfl,l⟩;have H7:=aa l;obtain⟨X7,-,n,⟨da,dc,G⟩,-⟩:=l.x a (by decide);have a0:w7.cell? ⟨r,9,Y⟩=Z (Q da 0 dc):=G;clear G l;go_wp2_with fail;go_ret;exact⟨rfl,H7.below⟩
structure mI (w0 w:Wb)(r0 r1 lb n m:Nat)(F G:List Nat):Prop where
 a:Slot w r0 n m F
 b:Slot w r1 n m G
 ap:∀k∈F,k∉G
 fa:∀k∈F,w0.heap.size<=k
 fb:∀k∈G,w0.heap.size<=k
 row:af w lb 26 #[ca (Z ⟨r0,0,Y⟩),ca (Z ⟨r1,0,Y⟩)]
 la:lb∉F
 Qq:lb∉G
 below:Below w0.heap.size w0 w
theorem mI.keep {w0 w w':Wb}{d e lb n m:Nat}{F G:List Nat}(h:mI w0 w d e lb n m F G)(c:Below w.heap.size w w'):mI w0 w' d e lb n m F G:=
 ⟨h.a.keep c,h.b.keep c,h.ap,h.fa,h.fb,Mem.af.below h.row c h.row.lt,h.la,h.Qq,h.below.trans (c.mono h.below.size)⟩
theorem mI.mono {w0 w:Wb}{e f lb n m n' m':Nat}{F G:List Nat}(h:mI w0 w e f lb n m F G)(d:n<=n')(c:m<=m'):mI w0 w e f lb n' m' F G:=
 ⟨h.a.mono d c,h.b.mono d c,h.ap,h.fa,h.fb,h.row,h.la,h.Qq,h.below⟩
theorem mI.one {w0 w w':Wb}{g i lb n m n' m':Nat}{F G F':List Nat}(h:mI w0 w g i lb n m F G)(o:n<=n')(l:m<=m')(j:Slot w' g n' m' F')(d:∀k∈F',k∈F\/w.heap.size<=k)(f:an F w w'):mI w0 w' g i lb n' m' F' G:=by
 have hz:=h.below.size;refine⟨j,(h.b.off f λk c e=>h.ap k e c).mono o l,λk c e=>?_,λk c=>?_,h.fb,Foot.af.off h.row f h.la,λe=>?_,h.Qq,h.below.trans (f.below h.fa hz)⟩
 .rcases d k c with a|a
  .exact h.ap k a e
  have:=h.b.lt k e;omega
 .rcases d k c with a|a
  .exact h.fa k a
  omega
 rcases d lb e with a|a
 .exact h.la a
 have:=h.row.lt;omega
theorem mI.two {w0 w w':Wb}{i g lb n m n' m':Nat}{F G F':List Nat}(h:mI w0 w i g lb n m F G)(o:n<=n')(l:m<=m')(j:Slot w' g n' m' F')(d:∀k∈F',k∈G\/w.heap.size<=k)(f:an G w w'):mI w0 w' i g lb n' m' F F':=by
 have hz:=h.below.size;refine⟨(h.a.off f h.ap).mono o l,j,λk c e=>?_,h.fa,λk c=>?_,Foot.af.off h.row f h.Qq,h.la,λe=>?_,h.below.trans (f.below h.fb hz)⟩
 .rcases d k e with b|b
  .exact h.ap k c b
  have:=h.a.lt k c;omega
 .rcases d k c with b|b
  .exact h.fb k b
  omega
 rcases d lb e with b|b
 .exact h.Qq b
 have:=h.row.lt;omega
def pk (c:Int):Nat:=((if c<0 then -(c+1) else c) % 2).toNat
theorem QH (c:Int):pk c<2:=by
 unfold pk;omega
theorem pick (c:Int)(i:-9223372036854775808<=c/\c<=9223372036854775807)(w:Wb):
  Yb Za 6 #[I O c,I O 2] w λe w'=>e=Ua (I O (pk c:Int))/\w'=w:=by
 by_cases h:c<0
 .obtain⟨d,b⟩:∃d:Nat,-(c+1)=(d:Int):=⟨(-(c+1)).toNat,by omega⟩;have f:IntKind.i64.wrap (c+1)=c+1:=IntWalk.i64_in _ (by omega);have g:IntKind.i64.wrap (-(c+1))=(d:Int):=by rw[IntWalk.i64_in _ (by omega)];exact b
  have a:=aa (show (pk c:Int)=(d:Int) % 2 by rw[pk,if_pos h,b];omega);clear b;go_in;go_wp2_with fail;go_ret;rw[a.out];exact⟨rfl,rfl⟩
 obtain⟨d,rfl⟩:∃d:Nat,c=(d:Int):=⟨c.toNat,by omega⟩;have a:=aa (show (pk (d:Int):Int)=(d:Int) % 2 by rw[pk,if_neg h];omega);go_in;go_wp2_with fail;go_ret;rw[a.out];exact⟨rfl,rfl⟩
def Ac.ok (d:Ac):Prop:=(-9223372036854775808<=d.a0/\d.a0<=9223372036854775807)/\(-9223372036854775808<=d.a2/\d.a2<=9223372036854775807)/\d.a3<=9223372036854775807
def lets (l:List Ac)(i:Nat):Nat:=((l.take i).map λd=>d.s.size).sum
theorem DT {l:List Ac}{i:Nat}{d:Ac}(h:l[i]? = Z d):lets l (i+1)=lets l i+d.s.size:=by
 rw[lets,List.take_add_one,h,List.map_append,List.sum_append];simp[lets]
theorem Lt (l:List Ac)(i:Nat):lets l i<=lets l l.length:=by
 rw[lets,lets,List.take_length]
 conv=>rhs;rw[<-List.take_append_drop i l,List.map_append,List.sum_append]
 omega
def SJ (w:Wb)(b:Option Addr)(l:List Ac):Prop:=∀(i:Nat) d,l[i]? = Z d->∃g a,b=Z ⟨g,a,Y⟩/\g<w.heap.size/\w.cell? ⟨g,a+i*5,Y⟩=Z (I O d.a0)/\w.cell? ⟨g,a+i*5+1,Y⟩=Z (I O d.a1)/\w.cell? ⟨g,a+i*5+2,Y⟩=Z (I O d.a2)/\w.cell? ⟨g,a+i*5+3,Y⟩=Z (I O d.a3)/\w.cell? ⟨g,a+i*5+4,Y⟩=Z (.string d.s)
theorem FM {w0 w:Wb}(n:gp w0)(m:oC w0)(j:Below w0.heap.size w0 w)(c:Fin 6->Int):
  Yb Za 5 #[.agg #[I O (c 0),I O (c 1),I O (c 2),I O (c 3),I O (c 4),I O (c 5)]] w λe w'=>∃r G,e=Ua (ca (Z ⟨r,0,Y⟩))/\Slot w' r 0 1 G/\(∀k∈G,w.heap.size<=k)/\Below w.heap.size w w':=
 (FN n m j c).mono λe w' ⟨r,l,R,p,F,b,d,f,g,_,i⟩=>⟨r,_,l,⟨R,p,F,b,d,rfl,i.imp And.left id⟩,λk a=>(f k a).elim (λh=>by cases h) id,g.below (λk a=>by cases a) (Vb _)⟩
set_option maxRecDepth 10000 in
theorem RQ (w:Wb)(hT:gp w)(hE:oC w)(c f:Fin 6->Int)(ao:Option Addr)(cap:Nat)(l:List Ac)(b7:SJ w ao l)(hn:l.length<=200000)(hl:lets l l.length<=2000000)(m:∀d∈l,d.ok):
  Yb Za 3 #[.agg #[I O (c 0),I O (c 1),I O (c 2),I O (c 3),I O (c 4),I O (c 5)],.agg #[I O (f 0),I O (f 1),I O (f 2),I O (f 3),I O (f 4),I O (f 5)],Q ao l.length cap] w λe w'=>e=Ua (bO true)/\Below w.heap.size w w':=by
 have HT:=aa hT;have HE:=aa hE;have c2:=aa b7;have c0:=aa m;have HL:=aa hl;clear hT hE b7 m hl;have a8:=af.new w 23 #[I O (c 0),I O (c 1),I O (c 2),I O (c 3),I O (c 4),I O (c 5)];have X:=ai (w:=w) (.cells #[I O (c 0),I O (c 1),I O (c 2),I O (c 3),I O (c 4),I O (c 5)] 23);have a9:=af.new (w.alloc (.cells #[I O (c 0),I O (c 1),I O (c 2),I O (c 3),I O (c 4),I O (c 5)] 23)) 23 #[I O (f 0),I O (f 1),I O (f 2),I O (f 3),I O (f 4),I O (f 5)];have a4:=ai (w:=w.alloc (.cells #[I O (c 0),I O (c 1),I O (c 2),I O (c 3),I O (c 4),I O (c 5)] 23)) (.cells #[I O (f 0),I O (f 1),I O (f 2),I O (f 3),I O (f 4),I O (f 5)] 23);have U:=aa (Mem.af.below a8 a4 a8.lt);have b9:(w.alloc (.cells #[I O (c 0),I O (c 1),I O (c 2),I O (c 3),I O (c 4),I O (c 5)] 23)).heap.size=w.heap.size+1:=by simp
 rw[b9]at a9;have V:=aa a9;have A:=aa (X.trans (a4.mono X.size));clear a8 X a9 a4 b9;go_in;go_upto_region 1 with fail;generalize (w.alloc (.cells #[I O (c 0),I O (c 1),I O (c 2),I O (c 3),I O (c 4),I O (c 5)] 23)).alloc (.cells #[I O (f 0),I O (f 1),I O (f 2),I O (f 3),I O (f 4),I O (f 5)] 23)=w2 at *;generalize b5:w.heap.size=ab at U V ⊢;have d4:=aa b5;clear b5;go_wp2_with fail;refine(Ov w2 (HT.below A) (HE.keep A)).mono ?_;rintro e w3 ⟨rfl,B⟩;have n:=aa (A.trans (B.mono A.size));have P:=aa (Mem.af.below U B U.lt);have R:=aa (Mem.af.below V B V.lt);clear B;go_upto_region 2 with fail;have r:Hid (Below w3.heap.size w3 w3.drew):=(Zd _ _).drew;refine dS (λW=>Below w3.heap.size w3 W) 4 (by kernel_rfl) ?_;generalize w3.drew=wd at *;refine Tu (i:=0) (v:=.agg #[I O (c 0),I O (c 1),I O (c 2),I O (c 3),I O (c 4),I O (c 5)]) rfl (by intro W hW;have o:=Mem.af.below P hW P.lt;have k0:=o.Ri 0;have k1:=o.Ri 1;have k2:=o.Ri 2;have k3:=o.Ri 3;have k4:=o.Ri 4;have k5:=o.Ri 5;clear o;go_simp) r ?_;refine Tu (i:=2) (v:=.agg #[I O (f 0),I O (f 1),I O (f 2),I O (f 3),I O (f 4),I O (f 5)]) rfl (by intro W hW;have o:=Mem.af.below R hW R.lt;have k0:=o.Ri 0;have k1:=o.Ri 1;have k2:=o.Ri 2;have k3:=o.Ri 3;have k4:=o.Ri 4;have k5:=o.Ri 5;clear o;go_simp) r ?_;refine aW (j:=1) (λK x=>?_);go_simp;refine(FM HT HE (n.trans (r.mono n.size)) c).mono ?_;rintro e w4 ⟨H,F,rfl,s1,s2,s3⟩;have u:=aa (r.trans (s3.mono r.size));have T:=aa s1;have b4:=aa (show ∀k∈F,w.heap.size<=k from λk hk=>Ya (Ya n.size r.size) (s2 k hk));refine x _ _ (λ_=>u) ?_;clear x K s1 s2 s3;have b6:=FM HT HE (n.trans (u.mono n.size)) f;refine aW (j:=3) (λK x=>?_);go_simp;refine b6.mono ?_;clear b6;rintro e M ⟨J,G,rfl,s1,s2,s3⟩;have b0:=aa (u.trans (s3.mono u.size));have b2:=aa (show Slot M H 0 1 F/\Slot M J 0 1 G/\(∀k∈F,k∉G)/\(∀k∈F,w.heap.size<=k)/\(∀k∈G,w.heap.size<=k)/\Below w.heap.size w M from⟨T.keep s3,s1,λk hk e=>by
  have h1:=T.lt k hk;have h2:=s2 k e;omega,b4,λk hk=>by
  have h1:=s2 k hk;have h2:=u.size;have h3:=n.size;omega,n.trans (b0.mono n.size)⟩)
 refine x _ _ (λ_=>b0) ?_;clear x K s1 s2 s3 T b4;have b8:=af.new M 26 #[ca (Z ⟨H,0,Y⟩),ca (Z ⟨J,0,Y⟩)];have D:=ai (w:=M) (.cells #[ca (Z ⟨H,0,Y⟩),ca (Z ⟨J,0,Y⟩)] 26);have p:=aa (show mI w (M.alloc (.cells #[ca (Z ⟨H,0,Y⟩),ca (Z ⟨J,0,Y⟩)] 26)) H J M.heap.size 0 1 F G from by
  obtain⟨t1,t2,t3,t4,t5,t6⟩:=b2.out;exact⟨t1.keep D,t2.keep D,t3,t4,t5,b8,λe=>Ye _ (t1.lt _ e),λe=>Ye _ (t2.lt _ e),t6.trans (D.mono t6.size)⟩)
 clear b8 D b2;refine aW (j:=4) (λK x=>?_);go_simp;refine x _ _ (λh=>absurd h (by decide)) ?_;clear x K;refine aW (j:=5) (λK x=>?_);go_simp;refine x _ _ (λh=>absurd h (by decide)) ?_;clear x K;refine Tz ?_;generalize M.alloc (.cells #[ca (Z ⟨H,0,Y⟩),ca (Z ⟨J,0,Y⟩)] 26)=w6 at *;generalize M.heap.size=lb at *;have p0:=p.row.Ri 0;have p1:=p.row.Ri 1;have o0:=p.a.ok;have o1:=p.b.ok;go_wp2_with fail;clear p0 p1 o0 o1;go_loopw [7,9] (λs7 s9 wr=>∃(i:Nat) (F' G':List Nat),s7=bO true/\s9=I O (i:Int)/\i<=l.length/\Hid (mI w wr H J lb (lets l i+2*i) (1+i) F' G')) (λ_ s9 _=>l.length - (intOf s9).toNat)
 case atStart=>exact⟨0,F,G,rfl,rfl,by omega,p⟩
 case round=>
  clear p;obtain⟨i,F',G',rfl,rfl,hi,HR⟩:=hrel;by_cases c7:i<l.length
  .have c8:(i:Int)<(l.length:Int):=by omega
   obtain⟨d,hd⟩:∃d,l[i]? = Z d:=⟨_,Ud c7⟩;have m:=c0.out d (zd hd);have d0:=DT hd;have c9:=Lt l (i+1);have c5:=HL.out;have a5:d.s.size<=1000000000:=by omega
   have a6:lets l i+2*i<=7000000:=by omega
   obtain⟨g,z,rfl,c6,x0,x1,x2,x3,x4⟩:=c2.out i d hd;have d3:=QH d.a0;obtain⟨rx,C0,t⟩:∃rx,(∀s:Bw wr,s.val.cell? ⟨lb,pk d.a0,Y⟩=Z (ca (Z ⟨rx,0,Y⟩)))/\∀W,Below wr.heap.size wr W->Yb Za 7 #[ca (Z ⟨rx,0,Y⟩),.agg d.cs] W λe w'=>e=Ua (Va #[])/\∃S G2,mI w w' H J lb (lets l (i+1)+2*(i+1)) (1+(i+1)) S G2:=by
    rcases (show pk d.a0=0\/pk d.a0=1 by omega) with h|h<;>rw[h]
    .refine⟨H,λs=>(HR.keep s.is).row.Ri 0,λW hb=>?_⟩;have E:=HR.keep hb;exact(wA E.a HT HE E.below E.fa a6 (by omega) a5 m.2.1.1 m.2.1.2 m.2.2).mono λe w' ⟨h1,S,y1,y2,y3⟩=>⟨h1,S,_,E.one (by omega) (by omega) (y1.mono (by omega) (by omega)) y2 y3⟩
    refine⟨J,λs=>(HR.keep s.is).row.Ri 1,λW hb=>?_⟩;have E:=HR.keep hb;exact(wA E.b HT HE E.below E.fb a6 (by omega) a5 m.2.1.1 m.2.1.2 m.2.2).mono λe w' ⟨h1,S,y1,y2,y3⟩=>⟨h1,_,S,E.two (by omega) (by omega) (y1.mono (by omega) (by omega)) y2 y3⟩
   have b1:=aa t;have b3:=aa (λs:Bw wr=>aT (s:=s) (nv (pick d.a0 m.1 s.val)));have a7:(0:Int)<=(pk d.a0:Int)/\(pk d.a0:Int)<2:=by omega
   have d1:=a7.1;have d2:=a7.2;have q:=aa (λ(s:Bw wr) (j:Nat) v (h:w.cell? ⟨g,j,Y⟩=Z v)=>show s.val.cell? ⟨g,j,Y⟩=Z v from cF (cF h HR.below) s.is);have E0:∀s:Bw wr,s.val.cell? ⟨g,z+i*5,Y⟩=Z (I O d.a0):=λs=>q.out s _ _ x0
   have E1:∀s:Bw wr,s.val.cell? ⟨g,z+i*5+1,Y⟩=Z (I O d.a1):=λs=>q.out s _ _ x1
   have E2:∀s:Bw wr,s.val.cell? ⟨g,z+i*5+2,Y⟩=Z (I O d.a2):=λs=>q.out s _ _ x2
   have E3:∀s:Bw wr,s.val.cell? ⟨g,z+i*5+3,Y⟩=Z (I O d.a3):=λs=>q.out s _ _ x3
   have E4:∀s:Bw wr,s.val.cell? ⟨g,z+i*5+4,Y⟩=Z (.string d.s):=λs=>q.out s _ _ x4
   clear x0 x1 x2 x3 x4 hd d0 c9 c5 c6 m a5 a6 t a7 d3 q;go_upto_region 7 with fail;refine bg 13 ?_;simp only[List.take_succ_cons,List.take_zero,List.drop_succ_cons,List.drop_zero];repeat go_big_quiet_step ((go_at_call 6;exact b3.out _))
   refine ad ?_;intro s;have t:=b1.out s.val s.is;unfold Ac.cs at t;clear C0 E0 E1 E2 E3 E4 b3 d1 d2 b1;generalize s.val=w6 at *;go_wp2_with fail;refine t.mono ?_;clear t;rintro e w7 ⟨rfl,S,G2,y⟩;have c1:=aa y;have p0:=y.row.Ri 0;have p1:=y.row.Ri 1;have o0:=y.a.ok;have o1:=y.b.ok;have c3:=aa (y.a.whole (by omega));have c4:=aa (y.b.whole (by omega));clear y;go_wp2_with fail;refine c3.mono ?_;rintro e wx ⟨rfl,rfl⟩;go_wp2_with fail;refine c4.mono ?_;rintro e wx ⟨rfl,rfl⟩;go_wp2_with fail;exact⟨⟨i+1,S,G2,rfl,by go_num,by omega,c1⟩,by simp[intOf];omega⟩
  have c8:¬(i:Int)<(l.length:Int):=by omega
  go_wp2_with fail;go_ret;exact⟨rfl,HR.below⟩
end Go.Proofs.YtpndiccohnafbaaGreatDoor.Lw
