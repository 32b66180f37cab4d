/- Bounds of a disk with no daemon on it, and of what it tells: no Go in sight. -/
import Derived.Test.YtpndiccohnafbaaGreatDoorFny
import Derived.Test.YtpndiccohnafbaaGreatDoorGa
set_option maxHeartbeats 9000000
open Go.Value renaming pointer->ca,int->I,string->L
open Option renaming some->Z,none->Y
open Go.Ending renaming returned->Ua
open Go.IntKind renaming i64->O,i64->ef
open List renaming mem_singleton->Va,mem_cons_of_mem->Wb,mem_map->Xb,length_map->Yb,map_map->Wc,mem_append->Xc,take_succ_cons->Yc,drop_succ_cons->Zc,mem_map_of_mem->ad,mem_cons_self->vd,length_append->zd,length_eq_zero_iff->Xd,map_append->Zd,mem_filter->te,length->Ue,take_zero->Xe,drop_zero->Ye
open Or renaming inl->Wa,inr->Xa
open Go.Proofs.Tryz renaming prog->Ya,underlying3->Uc,underlying57->Ud
open Nat renaming le_trans->Za,le_succ->eb,le_succ_of_le->Ub,succ_le_succ->Vc
open Classical renaming byContradiction->qb
open Go renaming Calls->Vb,World->N,wpQuiet_nil->ed
open Bool renaming eq_false_iff->Zb
open Go.RowKit.Below renaming refl->Vd
open Go.IntWalk renaming i64_in->Ve
open Decidable renaming not_not->Ze
namespace Go.Proofs.YtpndiccohnafbaaGreatDoor
namespace Jr
open Bytes Im Dm
variable {S S' : Dk}
structure Bd (S:Dk)(n:Nat):Prop where
 ah:S.ah.length<=n
 used:Dm.used S.ah<=500*n
 cI:∀m∈S.ah.map (·.num),m+1<=(n:Int)
theorem Bd.mono {n m:Nat}(h:Bd S n)(b:n<=m):Bd S m:=⟨by have:=h.ah;omega,by have:=h.used;omega,λk a=>by have:=h.cI k a;omega⟩
theorem Px.bd {d n:Nat}{m:Int}(a:Px S' S d m)(b:Bd S n)(g:d<=500)(h:m<=n+1):Bd S' (n+1):=
 ⟨by have:=a.1;have:=b.ah;omega,by have:=a.2.1;have:=b.used;omega,λk c=>by
  obtain⟨s,f,e⟩:=Xb.1 c;have:=a.2.2 s f;omega⟩
theorem NC (k:Int)(f:bM->bM)(a:∀s,(f s).num=s.num)(l:List bM):(bT k f l).map (·.num)=l.map (·.num):=by grind [bT,List.map_congr_left]
theorem EU (S:Dk)(k:Int):∀m∈(bz S k).1.ah.map (·.num),m∈S.ah.map (·.num):=λm a=>by
 unfold bz at a;split at a
 .exact a
 split at a
 .exact a
 simp only at a;rwa [NC k (λs=>{s with cJ:=s.text.size}) (λ_=>rfl)]at a
theorem Fb (S:Dk)(x:Int×ByteArray)(d:List Int)(c b:Int):∀m∈(du S x d c b).1.ah.map (·.num),m∈S.ah.map (·.num):=λm a=>by
 unfold du at a;split at a
 .unfold aF at a;split at a
  .exact a
  split at a
  .exact a
  grind [List.eraseIdx_sublist]
 split at a
 .unfold cx at a;split at a
  .exact a
  split at a
  .exact a
  split at a
  .simp only at a;rwa [NC x.1 (λs=>{s with text:=s.text.extract 0 b.toNat,cJ:=min s.cJ b.toNat}) (λ_=>rfl)]at a
  exact a
 exact a
theorem vM {us:List Int}{es ez:Int}:∀(l:List (Int×ByteArray)) {S:Dk} {k u:Nat},Fit S k u->Fit (eD us es ez l S).1 k u/\∀m∈(eD us es ez l S).1.ah.map (·.num),m∈S.ah.map (·.num)
 | [],_,_,_,h=>⟨h,λ_ a=>a⟩
 | x ::l,S,k,u,h=>by
  have b:=yR h x us es ez;have c:=Fb S x us es ez;show Fit (if (du S x us es ez).2≠0 then du S x us es ez else eD us es ez l (du S x us es ez).1).1 k u/\∀m∈(if (du S x us es ez).2≠0 then du S x us es ez else eD us es ez l (du S x us es ez).1).1.ah.map (·.num),_;split
  .exact⟨b,c⟩
  obtain⟨d,e⟩:=vM l b;exact⟨d,λm a=>c m (e m a)⟩
theorem Bd.dG {n:Nat}(h:Bd S n)(g:Dm.Good S)(c:List Int)(d e:Int)(l:List (Int×ByteArray)):Bd (dG c d e l S).1 n:=by
 have a:=vM (us:=c) (es:=d) (ez:=e) l (⟨g,h.ah,h.used⟩:Fit S n (500*n));unfold Jr.dG;split
 .exact⟨a.1.len,a.1.use,λm b=>h.cI m (a.2 m b)⟩
 have f:=jK a.1 (c.getLast?.getD 0);exact⟨f.len,f.use,λm b=>h.cI m (a.2 m (EU _ _ m b))⟩
end Jr
namespace Dd
open Go.RowKit Bytes Im Wm Dm Jr Sk Mem Foot Wi Kr
variable {D : Dn} {R K : List (Int × List Rc)} {b : List Rc} {H : Hs} {sure n : Nat} {S : Dk}
theorem DL.bd (h:DL D R b H sure n):Bd (bm D.S) n:=
 ⟨h.dk.ok.ah,h.dk.ok.used,λm a=>by
  have c:=h.lv.kd.seg.calm.below m a;have d:D.J.next<=n:=h.dk.ok.next;omega⟩
structure Tb (H:Hs)(n:Nat):Prop where
 dues:H.ae.length<=n
 len:H.ar.length<=n
 lines:jE (H.ar.map B)<=n
 short:∀d∈H.ar,d.size<=256
 top:H.g<1000000000
 dg:∀s∈H.ae,wj s.2.1
theorem Tb.mono {m:Nat}(h:Tb H n)(a:n<=m):Tb H m:={h with dues:=by have:=h.dues;omega,len:=by have:=h.len;omega,lines:=by have:=h.lines;omega}
theorem KL (h:wk (bm S) K H)(b:Bd (bm S) n)(a:Tb H n):Sz K H n:=by
 have c:=h.tid.view;have g:=congrArg Ue c;have i:(bm S).ah.map (·.num)=K.map (·.1):=by
  have d:=congrArg (List.map Prod.fst) c;unfold tg at d;rwa [Wc,Wc]at d
 refine⟨?_,?_,by rw[<-yZ c];exact b.used,a.dues,a.len,a.lines,a.short,a.top,a.dg⟩
 .have f:=zL h.ne;rw[h.is]at f;rcases f with ⟨e,_⟩|⟨p,j,e,_⟩
  .omega
  have:=b.cI p.1 (by grind);omega
 unfold tg at g;rw[Yb,Yb]at g;have:=b.ah;omega
theorem Tb.pre {K:Hs}(h:Tb H n)(c:ng K H sure):Tb K n:=by
 obtain⟨a,e,k,b,_,g,_⟩:=c;refine⟨by rw[a];exact h.dues,?_,?_,λd f=>h.short d ?_,by rw[e];exact h.top,by rw[a];exact h.dg⟩
 .rw[b,List.length_take];have:=h.len;omega
 .rw[b,List.map_take];exact Za (lK _ _) h.lines
 grind
end Dd
namespace Jr
open Bytes Im Dm
variable {J : Jn} {S : Dk}
theorem EJ (h:Dm.Good S)(d:aC J<=9223372036854775807)(a:Int):Dm.Good (bE J S a).2.1:=by
 have b:=(uP (J:=J) (t:=bytesOf (bC [115] a [])) (dC h) d).1;have c:=jU (J:=(cM J S (bytesOf (bC [115] a []))).1) b (by unfold aC;rw[(mJ J S _).2.1];exact d);unfold bE;split
 .exact b.aJ
 split
 .exact c.aJ
 exact c.aJ
theorem Bu (h:Dm.Good S)(d:aC J<=9223372036854775807)(b:J.next<=9223372036854775807)(a:Int)(t:ByteArray):Dm.Good (aY J S a t).2.1:=by
 have c:=jU (J:=J) (dC h) d;unfold aY;split
 .exact(jH (dC h) b).aJ
 split
 .exact(uP (dC h) d).1.aJ
 split
 .exact c.aJ
 refine(jH c ?_).aJ;unfold aQ;repeat' split
 all_goals exact b
theorem wV (h:Dm.Good S)(e:aC J<=9223372036854775807)(d:J.next<=9223372036854775806)(a:Int):Dm.Good (aO J S a).2.1:=by
 have b:∀{J:Jn} {S:Dk},Dm.Good S->Dm.Good (fY J S a).2.1:=λ{J S} h=>by
  have:=(oQ (dC h) ((aS a J.ae).getD []).reverse).aJ;unfold fY;split<;>exact this
 have c:=(xo (J:=J) (dC h) d e).aJ;unfold aO;repeat' split
 .exact c
 .exact b c
 exact b h
end Jr
namespace Dd
open Go.RowKit Go.Maps Mem Foot Bytes Im Wm Hi Plainw Cq Dm Dh Jr Wi Sk Hn Kr
variable {w0 w w' : N} {X : Nat} {D D' : Dn} {q : Pl} {R R' : List (Int × List Rc)} {b b' : List Rc} {H H' : Hs} {sure sure' n n' : Nat}
structure Gx (w0 w:N)(X:Nat)(D:Dn)(q:Pl)(R:List (Int×List Rc))(b:List Rc)(H:Hs)(sure n:Nat):Prop where
 T:gp w0
 b0:Below w0.heap.size w0 w
 da:DA w X D q
 far:∀b∈df X q,w0.heap.size<=b
 dl:DL D R b H sure n
 gd:Dm.Good D.S
theorem Gx.keep (h:Gx w0 w X D q R b H sure n)(a:Below w.heap.size w w'):Gx w0 w' X D q R b H sure n:={h with b0:=h.b0.trans (a.mono h.b0.size),da:=h.da.keep a}
theorem Gx.next (h:Gx w0 w X D q R b H sure n){B:Nat}(d:Dq w w' X D' (df X q) B)(f:DL D' R' b' H' sure' n')(g:Dm.Good D'.S):
  ∃a,Gx w0 w' X D' a R' b' H' sure' n'/\a.bx=B/\(∀b∈df X a,b∈df X q\/w.heap.size<=b):=by
 obtain⟨a,i,j,c⟩:=d.ex;exact⟨a,⟨h.T,h.b0.trans (d.off.below h.far h.b0.size),i,λb k=>(c b k).elim (h.far b) λe=>Za h.b0.size e,f,g⟩,j,c⟩
theorem DL.fits (h:DL D R b H sure n)(a:Dm.Good D.S):Fit D.S n (500*n):=⟨a,h.dk.ok.ah,h.dk.ok.used⟩
structure Bn (D:Dn)(n:Nat):Prop where
 last:0<=aC D.J/\aC D.J<=9223372036854775807
 sz:D.J.synced+D.J.bU.size<=500*n
 num:0<=D.num/\D.num<=1000000000
 Tl:D.J.aN.length<=n
 next:0<=D.J.next/\D.J.next<=n
 fZ:-1<=D.J.al/\D.J.al<D.num
 zn:0<=D.clock/\D.clock<=1000000000
 dues:D.due.length<=n
 keys:D.J.ae.length=D.due.length
 c0:0<D.c 0
 cnt:D.count<=n
theorem DL.bn (h:DL D R b H sure n):Bn D n:=
 have a:=h.dk.ok;have c:=congrArg Ue a.keys
 ⟨a.calm.Nl,a.sz,a.num,Za a.calm.len a.ah,⟨a.calm.mE,a.next⟩,a.fZ,a.zn,a.dues,by simpa using c,oz.pos a.ll,Za (Nat.le_of_eq a.cnt) a.len⟩
theorem Gx.Tp (h:Gx w0 w X D q R b H sure n):q.sv.length<=n:=by
 have a:=congrArg Ue h.da.jw.eq;have c:=h.dl.bn.dues;have d:=h.dl.bn.keys;simp only[Yb]at a;omega
def vY (D:Dn)(e:Int):Dn×Int:=if e=0 then (D,0) else if e=7 then (D,7) else ({D with cD:=true},6)
theorem Jk (w:N)(h:DA w X D q):Vb Ya 63 #[ca (Z ⟨X,0,Y⟩)] w λe w'=>e=Ua (I O 6)/\Dq w w' X {D with cD:=true} (df X q) q.bx:=by
 have a:=h.head;have f:=a.Ri 12;have g:=a.frozen 12;have c:an [X] w (w.setCell ⟨X,12,Y⟩ (.bool true)):=(an.refl _ _).set (Va.2 rfl) _ _;have d:=aa (show Dq w (w.setCell ⟨X,12,Y⟩ (.bool true)) X {D with cD:=true} (df X q) q.bx from⟨⟨q,h.put c (a.set 12 _) rfl rfl rfl rfl rfl,rfl,λb i=>Wa i⟩,c.mono λk _ j=>Va.1 j▸vd ..⟩);clear h a c;go_in;go_wp2_with fail;go_ret;exact⟨rfl,d⟩
theorem qi (w:N)(h:DA w X D q){v:Value}{m:Int}(k:fj w v m):Vb Ya 59 #[ca (Z ⟨X,0,Y⟩),v] w λe w'=>e=Ua (I O (vY D m).2)/\Dq w w' X (vY D m).1 (df X q) q.bx:=by
 have l:=aa h;have d:=aa (Dq.of h (Vd _ w));unfold vY;rcases k with ⟨rfl,rfl⟩|⟨i,f,z,rfl,j⟩
 .clear h;go_in;go_wp2_with fail;go_ret;exact⟨rfl,d⟩
 have b:=isFull f z m w j;have c:=Jk w h;rw[if_neg i];clear h j i;by_cases a:m=7
 .rw[if_pos a];rw[decide_eq_true a]at b;clear a;go_in;go_wp2_with fail;refine b.mono ?_;rintro e w' ⟨rfl,rfl⟩;go_wp2_with fail;go_ret;exact⟨rfl,d⟩
 rw[if_neg a];rw[decide_eq_false a]at b;clear a;go_in;go_wp2_with fail;refine b.mono ?_;rintro e w' ⟨rfl,rfl⟩;go_wp2_with fail;refine c.mono ?_;rintro e w' ⟨rfl,g⟩;change Hid _ at g;go_wp2_with fail;go_ret;exact⟨rfl,g⟩
theorem QN (h:Gx w0 w X D q R b H sure n)(c:n<=10000000)(d:0<D.count):
  Vb Ya 89 #[ca (Z ⟨q.jb,0,Y⟩),I O D.num] w λe w'=>∃v,e=Ua v/\fj w' v (bE D.J D.S D.num).2.2/\Kq w w' q.jb q.bx q.mb (bE D.J D.S D.num).1 (bE D.J D.S D.num).2.1 q.kf:=by
 obtain⟨g,k,i,j,_⟩:=h.dl.bn;have f:=h.Tp;exact QM w0 w h.T h.b0 q.jb q.bx q.mb D.J q.sv q.ov D.S q.ba q.cap q.bs D.num n (500*n) h.da.jw h.da.pd (λb a=>h.far b (KE a)) (h.dl.fits h.gd) c (by omega) (h.dl.dk.ok.aN d) (by omega) (by omega) (by omega) (by omega) (by omega) (by omega) (by omega)
noncomputable def bB (D:Dn):Dn×Int:=
 if D.clock / D.c 0<=D.num then (D,0)
 else if 0<D.count/\(bE D.J D.S D.num).2.2≠0 then (iw D (bE D.J D.S D.num),(bE D.J D.S D.num).2.2)
 else (bA D,0)
set_option maxRecDepth 10000 in
theorem ND (h:Gx w0 w X D q R b H sure n)(hn:n<=10000000):
  Vb Ya 58 #[ca (Z ⟨X,0,Y⟩)] w λe w'=>∃v,e=Ua v/\fj w' v (bB D).2/\Dq w w' X (bB D).1 (df X q) q.bx:=by
 have g8:=h.dl.bn.c0;have E:=h.dl.bn.zn;have d2:=h.dl.bn.num;have C0:∀s:Bw w,s.val.cell? ⟨X,0,Y⟩=Z (I O (D.c 0)):=λs=>(h.da.keep s.is).head.Ri 0
 have C7:∀s:Bw w,s.val.cell? ⟨X,7,Y⟩=Z (I O D.clock):=λs=>(h.da.keep s.is).head.Ri 7
 have h2:¬D.c 0=0:=by omega
 obtain⟨a,d⟩:∃a,D.clock / D.c 0=a:=⟨_,rfl⟩;have g2:D.clock.tdiv (D.c 0)=a:=by rw[Int.tdiv_eq_ediv_of_nonneg E.1,d]
 have g9:0<=a:=by rw[<-d];exact Int.ediv_nonneg E.1 (by omega)
 have h0:a<=1000000000:=by rw[<-d];exact Int.le_trans (Int.ediv_le_self _ E.1) E.2
 have g4:ef.wrap a=a:=Ve _ (by omega);have j:=aa d;have o:=aa h;clear h d;go_in;go_wp2_with fail;refine aU ?_;repeat go_big_quiet_step (fail)
 refine ed ?_;rintro _ ⟨s,rfl⟩;have y:=aa s.is;have r:=aa (o.out.keep s.is);clear C0 C7 g2 g4;generalize s.val=w1 at *;have c8:=r.out.da.head.Ri 8;have c9:=r.out.da.head.Ri 9;by_cases x:a<=D.num
 .have i:=aa (show bB D=(D,0) by unfold bB;rw[j.out,if_pos x]);go_wp2_with fail;go_ret;rw[i.out];exact⟨_,rfl,Wa ⟨rfl,rfl⟩,Dq.of o.out.da y.out⟩
 by_cases hp:0<D.count
 case' pos=>
  have d5:(0:Int)<(D.count:Int):=by omega
  have M:=aa x;have V:=aa hp;go_wp2_with fail;have C6:∀s:Bw w1,s.val.cell? ⟨X,6,Y⟩=Z (ca (Z ⟨q.jb,0,Y⟩)):=λs=>(r.out.da.keep s.is).head.Ri 6
  have C8:∀s:Bw w1,s.val.cell? ⟨X,8,Y⟩=Z (I O D.num):=λs=>(r.out.da.keep s.is).head.Ri 8
  clear c8 c9 x hp d5;refine bg 9 ?_;simp only[Yc,Xe,Zc,Ye];repeat go_big_quiet_step (fail)
  refine ed ?_;intro s;have a3:=aa (y.out.trans (s.is.mono y.out.size));have a6:=aa (r.out.keep s.is);clear C6 C8;generalize s.val=ws at *;have d6:=QN a6.out hn V.out;go_wp2_with fail;refine d6.mono ?_;clear d6;rintro e w4 ⟨v,rfl,hv,b9⟩;obtain⟨q4,b3,b5,d3,e1,e2,e3,e4,e5,e6,e7,e8⟩:=a6.out.da.GV b9;have g:=aa b3;have U:=aa ((an.ag a3.out).trans d3);have K:=aa (show ∀b∈df X q4,b∈df X q\/w.heap.size<=b from λb hb=>(b5 b hb).imp id λh=>Za a3.out.size h);have f3:=aa (o.out.T.below (o.out.b0.trans (U.out.below o.out.far o.out.b0.size)));have G:=aa e7;have HV:=aa hv;clear b9 b3 b5 d3 e1 e2 e3 e4 e5 e6 e7 e8 hv;rcases HV.out with ⟨hz,rfl⟩|⟨hz,f,z,rfl,_⟩
  rotate_left
  .have i:=aa (show bB D=(iw D (bE D.J D.S D.num),(bE D.J D.S D.num).2.2) by unfold bB;rw[j.out,if_neg (Int.not_le.2 M.out),if_pos ⟨V.out,hz⟩]);clear hz;go_wp2_with fail;go_ret;rw[i.out];exact⟨_,rfl,HV.out,⟨q4,g.out,G.out,K.out⟩,U.out⟩
  have i:=aa (show bB D=({D with J:=(bE D.J D.S D.num).1,S:=(bE D.J D.S D.num).2.1,due:=iR ⟨D.num,fq D⟩ D.due,num:=a,count:=0,W:=gC},0) by unfold bB bA;rw[j.out,if_neg (Int.not_le.2 M.out),if_neg (λh=>h.2 hz),if_neg (Int.not_le.2 M.out),if_pos V.out]);clear hz HV;have d0:Live D.W:=Cf (D:=dx D) o.out.dl.dk.ok;have b7:eX (bP D.c) (jE (H.ar.map B)) D.W:=o.out.dl.dk.ok.fit;have A:=aa (λs:Bw w4=>aT (pH (m:=jE (H.ar.map B)) (g.out.keep s.is) b7 d0 o.out.dl.dk.ok.ll (by have:=o.out.dl.dk.ok.lines;omega) d2 (f3.out.below s.is)));have C8:∀s:Bw w4,s.val.cell? ⟨X,8,Y⟩=Z (I O D.num):=λs=>(g.out.keep s.is).head.Ri 8
  have C9:∀s:Bw w4,s.val.cell? ⟨X,9,Y⟩=Z (I O (D.count:Int)):=λs=>(g.out.keep s.is).head.Ri 9
  have e0:∀s:Bw w4,s.val.cell? ⟨X,10,Y⟩=Z (ca (Z ⟨q4.p.P,0,Y⟩)):=λs=>(g.out.keep s.is).head.Ri 10
  have e9:∀s:Bw w4,s.val.cell? ⟨X,11,Y⟩=Z (.map (Z q4.db)):=λs=>(g.out.keep s.is).head.Ri 11
  clear d0 b7;generalize f6:(bE D.J D.S D.num).1=J2 at *;generalize f7:(bE D.J D.S D.num).2.1=S2 at *;clear f6 f7;have f5:Hid (fq {D with J:=J2,S:=S2}=fq D):=rfl;rw[f5.out]at A;generalize g5:fq D=zt at A i;have a7:=aa (show (⟨D.num,zt⟩:Ms).k∉D.due.map (·.k) from λhm=>by
   obtain⟨m,hm,e⟩:=Xb.1 hm;have h1:m.k<D.num:=o.out.dl.dk.ok.lt m hm;have e:m.k=D.num:=e;omega)
  clear g5;go_wp2_with fail;refine bg 20 ?_;simp only[Yc,Xe,Zc,Ye];repeat go_big_quiet_step ((go_at_call 68;exact A.out _))
  refine ed ?_;intro s;have f1:=aa s.is;have a4:=aa (g.out.keep s.is);clear C8 C9 e0 e9 A;generalize s.val=w5 at *;obtain⟨w2,g3,d1,b8⟩:=a4.out.due.tight.update (t:=57) (int_keyed Uc) Ud (Nat.lt_of_le_of_lt (show D.due.length<=10000000 from by have:=o.out.dl.bn.dues;omega) (by decide)) (Maps.keyOf_int_mk (P:=Ya) (k:=3) Uc (pz (n:=D.num) (by omega) (by omega))) (kr (Ia ⟨D.num,zt⟩));have a1:w2.ownsMap Ya 3 (kg wa) q4.db (D.due.length+1) ((Sk.D D.due).put (Lit.int O (⟨D.num,zt⟩:Ms).k) (.held (mv ⟨D.num,zt⟩))):=d1;rw[MZ a7.out]at a1;obtain⟨b4,d4⟩:=a4.out.more a1 b8 a7.out;have u:=aa b4;have a8:Hid (an (df X q) w w2):=aP (U.out.trans (an.ag f1.out)) K.out d4;have a5:=aa K.out;simp only[mv]at g3;clear d1 a1 b8 b4 d4;obtain⟨c0,c1,c2,c3,c4,c5,c6,c7,c8,c9,a9,b1,b2⟩:=BJ u.out.head
 case' neg=>
  have d5:¬(0:Int)<(D.count:Int):=by omega
  have g0:(D.count:Int)=0:=by omega
  have i:=aa (show bB D=({D with num:=a,count:=0,W:=gC},0) by unfold bB bA;rw[j.out,if_neg x,if_neg (λh=>hp h.1),if_neg x,if_neg hp]);have u:=aa r.out.da;have a8:Hid (an (df X q) w w1):=an.ag y.out;have a5:=aa (show ∀b∈df X q,b∈df X q\/w.heap.size<=b from λb hb=>Wa hb);have G:Hid (q.bx=q.bx):=rfl;clear c8 c9 g0;generalize w1=w2 at *;obtain⟨c0,c1,c2,c3,c4,c5,c6,c7,c8,c9,a9,b1,b2⟩:=BJ u.out.head
 all_goals
  have a2:=Qw D.c o.out.dl.dk.ok.ll w2;unfold cfg at a2;go_wp2_with fail;refine a2.mono ?_;clear a2 c0 c1 c2 c3 c4 c5 c6 c7 c8 c9 a9 b1 b2;rintro e w3 ⟨p',rfl,g1,d7,b6,a0⟩;have f4:=aa d7;have f2:=aa b6;have f0:=aa a0;have hh:=(u.out.keep a0).head;have d8:=hh.Ri 8;have f8:=hh.frozen 8;have F:=hh.set 8 (I O a);have d9:=F.Ri 9;have f9:=F.frozen 9;have l:=F.set 9 (I O 0);have g6:=l.Ri 10;have g7:=l.frozen 10;have HH:=aa (l.set 10 (ca (Z ⟨p'.P,0,Y⟩)));clear hh F l d7 b6 a0 g1;go_wp2_with fail;go_ret;have hq:=u.out.fresh f0.out f4.out f2.out (((((an.refl _ _).set (Va.2 rfl) _ _).set (Va.2 rfl) _ _).set (Va.2 rfl) _ _)) HH.out;rw[i.out]
  try rw[G.out]at hq
  exact⟨_,rfl,Wa ⟨rfl,rfl⟩,Dq.trans a8.out a5.out hq⟩
variable {w0 w w' : N} {X : Nat} {D D' : Dn} {q : Pl} {R R' : List (Int × List Rc)} {b b' : List Rc} {H H' : Hs} {sure sure' n n' : Nat}
theorem Pv (h:Gx w0 w X D q R b H sure n)(d:n<=10000000)(s:ByteArray)(o:s.size<=256):
  Vb Ya 60 #[ca (Z ⟨q.jb,0,Y⟩),I O D.num,L s] w λe w'=>∃v,e=Ua v/\fj w' v (aY D.J D.S D.num s).2.2/\Kq w w' q.jb q.bx q.mb (aY D.J D.S D.num s).1 (aY D.J D.S D.num s).2.1 q.kf:=by
 obtain⟨k,f,l,m,i,j,_⟩:=h.dl.bn;refine(write w0 w h.T h.b0 q.jb q.bx D.J (.map (Z q.mb)) q.ov D.S q.ba q.cap q.bs D.num s n (500*n) h.da.jw.ja h.da.pd (λb a=>h.far b (KE (dy a))) (h.dl.fits h.gd) d (by omega) (by omega) (by omega) i.1 (by omega) (by omega) (by omega) (by omega) (by omega) (by omega) (by omega)).mono ?_;rintro e w' ⟨v,rfl,g,c⟩;exact⟨v,rfl,g,h.da.jw.kq h.da.pd c (vX ..)⟩
theorem QU (h:Gx w0 w X D q R b H sure n)(j:n<=10000000):
  Vb Ya 62 #[ca (Z ⟨q.jb,0,Y⟩)] w λe w'=>∃v,e=Ua v/\fj w' v (aQ D.J D.S).2.2/\Kq w w' q.jb q.bx q.mb (aQ D.J D.S).1 (aQ D.J D.S).2.1 q.kf:=by
 obtain⟨g,d,i,k,_⟩:=h.dl.bn;refine(yL w0 w h.T h.b0 q.jb q.bx D.J (.map (Z q.mb)) q.ov D.S q.ba q.cap q.bs n (500*n) h.da.jw.ja h.da.pd (λb a=>h.far b (KE (dy a))) (h.dl.fits h.gd) (by omega) (by omega) (by omega) (by omega) (by omega) (by omega)).mono ?_;rintro e w' ⟨v,rfl,f,c⟩;exact⟨v,rfl,f,h.da.jw.kq h.da.pd c (fV ..).1⟩
theorem KQ (h:Gx w0 w X D q R b H sure n)(i:n<=10000000)(a:Int)(o:a∈D.due.map (·.k)):
  Vb Ya 66 #[ca (Z ⟨q.jb,0,Y⟩),I O a] w λe w'=>∃v,e=Ua v/\fj w' v (aO D.J D.S a).2.2/\Kq w w' q.jb q.bx q.mb (aO D.J D.S a).1 (aO D.J D.S a).2.1 q.kf:=by
 have d:=h.dl.dk.ok;obtain⟨y,l,z,A,f,u,_⟩:=h.dl.bn;have r:0<=a/\a<D.num:=by
  obtain⟨m,c,rfl⟩:=Xb.1 o;exact⟨d.low m c,d.lt m c⟩
 refine KP w0 w h.T h.b0 q.jb q.bx q.mb D.J q.sv q.ov D.S q.ba q.cap q.bs a n (500*n) h.da.jw h.da.pd (λb g=>h.far b (KE g)) (h.dl.fits h.gd) i (by omega) (by omega) (by omega) f.1 (by omega) (by omega) (by omega) (by omega) (by omega) (by omega) (by omega) (λp j=>?_);obtain⟨s,t⟩:=d.calm.rows p j;have B:=Za s d.ah;exact⟨by omega,λx f=>by have:=t x f;omega⟩
theorem DL.mono (h:DL D R b H sure n)(a:n<=n'):DL D R b H sure n':=⟨{h.dk with ok:=h.dk.ok.mono a},h.lv⟩
theorem DL.bT (h:DL D R b H sure n)(l:n<=100000000):
  ((bB D).2=0/\dx (bB D).1=bA (dx D)/\∃R' b' H' sure',DL (bB D).1 R' b' H' sure' (n+1)/\
   (((D.clock / D.c 0<=D.num\/H.ar=[])/\H'=H/\sure'=sure)\/(D.num<D.clock / D.c 0/\H.ar≠[]/\kY H' H D.J.aN/\sure'=0)))\/
  (D.num<D.clock / D.c 0/\H.ar≠[]/\(bB D).1=Dd.iw D (bE D.J D.S D.num)/\(bB D).2=(bE D.J D.S D.num).2.2/\
   ((Er (bB D).2/\DL (bB D).1 R b H sure n)\/((bB D).2=8/\For (bm (bB D).1.S) λK=>ng K H sure\/kY K H D.J.aN))):=by
 unfold bB;by_cases e:D.clock / D.c 0<=D.num
 .rw[if_pos e];refine Wa ⟨rfl,?_,R,b,H,sure,h.mono (eb _),Wa ⟨Wa e,rfl,rfl⟩⟩;unfold bA;rw[if_pos e]
 rw[if_neg e];by_cases a:H.ar=[]
 .obtain⟨d,i,g⟩:=h.Np (by omega) a;rw[if_neg λf=>by have:=f.1;rw[h.cnt,a]at this;simp at this];exact Wa ⟨rfl,g,R,b,H,sure,d,Wa ⟨Xa a,rfl,rfl⟩⟩
 have k:0<D.count:=by
  rw[h.cnt];exact List.length_pos_iff.2 a
 rcases h.Ns l (by omega) a with ⟨d,⟨R',H',i,g⟩,m,o,j⟩|d
 .rw[if_neg λf=>f.2 d];exact Wa ⟨rfl,j,R',[],H',0,i,Xa ⟨by omega,a,g,rfl⟩⟩
 have hz:(bE D.J D.S D.num).2.2≠0:=by
  rcases d with ⟨d,_⟩|⟨d,_⟩
  .rcases d with d|d<;>rw[d]<;>decide
  rw[d];decide
 rw[if_pos ⟨k,hz⟩];exact Xa ⟨by omega,a,rfl,rfl,d⟩
theorem DL.fQ (h:DL D R b H sure n)(c:n<=100000000)(hz:(bB D).2=0):∃R' b' H' sure',DL (bB D).1 R' b' H' sure' (n+1):=by
 rcases h.bT c with ⟨_,_,R',b',H',d,a,_⟩|⟨_,_,_,_,⟨a,_⟩|⟨a,_⟩⟩
 .exact⟨R',b',H',d,a⟩
 .rw[hz]at a;exact absurd a (by unfold Er;omega)
 rw[hz]at a;exact absurd a (by decide)
theorem kO (h:DL D R b H sure n)(a:Dm.Good D.S):Dm.Good (bB D).1.S:=by
 unfold bB bA;have:=EJ a h.bn.last.2 D.num;repeat' split
 all_goals first|exact a|exact this
noncomputable def BA (D:Dn)(s:ByteArray):Dn×Int:=
 if (aY D.J D.S D.num s).2.2≠0 then vY (iw D (aY D.J D.S D.num s)) (aY D.J D.S D.num s).2.2 else (ig D s,0)
noncomputable def ew (D:Dn)(s:ByteArray):Dn×Int:=
 if (bB D).2≠0 then vY (bB D).1 (bB D).2 else BA (bB D).1 s
noncomputable def fg (D:Dn)(t:Int):Dn×Int:=if t<=D.clock\/1000000000<t then (D,0) else vY (bB {D with clock:=t}).1 (bB {D with clock:=t}).2
def kS (D:Dn):Dn×Int:=if (aQ D.J D.S).2.2≠0 then ({iw D (aQ D.J D.S) with cD:=true},6) else (jm D,0)
def nf (D:Dn)(a:Int):Dn×Int:=if a∉D.due.map (·.k) then (D,4) else if (aO D.J D.S a).2.2≠0 then vY (iw D (aO D.J D.S a)) (aO D.J D.S a).2.2 else (qY D a,0)
theorem Dq.then {a:N}{F:List Nat}{b:Dn}{B:Nat}(h:Dq w a X b F B)(d:∀q,DA a X b q->q.bx=B->Dq a w' X D' (df X q) q.bx):Dq w w' X D' F B:=by
 obtain⟨q,e,c,f⟩:=h.ex;have:=Dq.trans h.off f (d q e c);rwa [c]at this
set_option maxRecDepth 10000 in
theorem Cs (h:Gx w0 w X D q R b H sure n)(hn:n<=9000000)(b4:D.cD=false)(s:ByteArray)(hs:s.size<=256):
  Vb Ya 32 #[ca (Z ⟨X,0,Y⟩),L s] w λe w'=>e=Ua (I O (ew D s).2)/\Dq w w' X (ew D s).1 (df X q) q.bx:=by
 have T:=h.da.head.Ri 12;rw[b4]at T;have c6:¬(256:Int)<(s.size:Int):=by omega
 have b5:=ND h (by omega);have HG:=aa h;have M:=aa (λhz=>h.dl.fQ (by omega) hz);have b8:=aa (kO h.dl h.gd);clear h b4;go_in;go_wp2_with fail;refine b5.mono ?_;clear b5 T;rintro e w1 ⟨v,rfl,o,b0⟩;have j:=aa b0;clear b0;rcases o with ⟨hz,rfl⟩|⟨hz,o⟩
 rotate_left
 .obtain⟨q1,V,k,a⟩:=j.ex;have m:=qi w1 V (Xa ⟨hz,o⟩);obtain⟨f,z,rfl,_⟩:=o;have l:Hid (ew D s=vY (bB D).1 (bB D).2):=if_pos hz;change Hid _ at a k;clear V hz;go_wp2_with fail;refine m.mono ?_;clear m;rintro e w2 ⟨rfl,b2⟩;have K:=aa (Dq.trans j.off a b2);rw[k.out]at K;clear b2;go_wp2_with fail;go_ret;rw[l.out];exact⟨rfl,K⟩
 have S:Hid (ew D s=BA (bB D).1 s):=if_neg λh=>h hz
 obtain⟨R1,b1,H1,s1,a7⟩:=M.out hz;clear hz M;generalize (bB D).1=d at *;obtain⟨q1,a5,k,a⟩:=HG.next j a7 b8;have i:=aa a5;change Hid _ at k a;clear a7 a5;have C6:∀s:Bw w1,s.val.cell? ⟨X,6,Y⟩=Z (ca (Z ⟨q1.jb,0,Y⟩)):=λs=>(i.da.keep s.is).head.Ri 6
 have C8:∀s:Bw w1,s.val.cell? ⟨X,8,Y⟩=Z (I O d.num):=λs=>(i.da.keep s.is).head.Ri 8
 go_wp2_with fail;refine bg 10 ?_;simp only[Yc,Xe,Zc,Ye];repeat go_big_quiet_step (fail)
 refine ed ?_;intro st;have A:=aa st.is;have J:=aa (i.keep st.is);clear C6 C8;generalize st.val=w2 at *;have b6:=Pv J (by omega) s hs;go_wp2_with fail;refine b6.mono ?_;clear b6;rintro e w3 ⟨v,rfl,o,a6⟩;obtain⟨t,a0,a2,a8,e1,e2,e3,e4,e5,e6,e7,e8⟩:=J.da.GV a6;have g:=aa a0;have x:=aa (aP j.off a ((an.ag A).trans a8));have u:=aa (show ∀b∈df X t,b∈df X q\/w.heap.size<=b from λb U=>(a2 b U).elim (a.out b) λh=>Xa (Za j.off.size (Za A.size h)));have P:=aa (e7.trans k);clear a6 a0 a2 a8 e1 e2 e3 e4 e5 e6 e7 e8;rcases o with ⟨hz,rfl⟩|⟨hz,o⟩
 rotate_left
 .have m:=qi w3 g (Xa ⟨hz,o⟩);obtain⟨f,z,rfl,_⟩:=o;have l:=aa (S.trans (if_pos hz));clear hz;go_wp2_with fail;refine m.mono ?_;clear m;rintro e w4 ⟨rfl,b3⟩;have K:=aa (Dq.trans x u b3);rw[P.out]at K;clear b3;go_wp2_with fail;go_ret;rw[l.out];exact⟨rfl,K⟩
 have l:=aa (S.trans (if_neg λh=>h hz));clear hz;have ok:=i.dl.dk.ok;have a4:eX (bP d.c) (jE (H1.ar.map B)) d.W:=ok.fit;have c3:Lib.countByte (B s) 10<=(B s).length:=List.countP_le_length;have c2:(B s).length=s.size:=(Bytes.aj s).symm;have c4:=ok.lines;have y:cE t.rj t.dr t.E=d.W:=g.win;have htk:=yQ t.p (bP d.c) (jE (H1.ar.map B)) t.rj t.dr t.E s w3 g.wi (by rw[y];exact a4) ok.ll.lim (by omega) (by omega);rw[y]at htk;have c1:=g.head.Ri 10;have c5:d.count<=10000000:=by
  have:=i.dl.bn.cnt;omega
 clear a4 c3 c2 c4 y ok;go_wp2_with fail;refine htk.mono ?_;clear htk c1;rintro e w4 ⟨rfl,hg,_⟩;obtain⟨q4,a1,a3,a9,e1,e2,e3⟩:=g.RZ hg;have G:=aa a1;have b9:=aa (aP x u a9);have b7:=aa (show ∀b∈df X q4,b∈df X q\/w.heap.size<=b from λb U=>(a3 b U).elim (u.out b) λh=>Xa (Za x.size h));have c0:=aa (e3.trans P);clear hg a1 a3 a9 e1 e2 e3;have hh:=G.head;have c9:=hh.Ri 9;have f9:=hh.frozen 9;have HH:=aa (hh.set 9 (I O ((d.count:Int)+1)));have F:=aa (show (d.count:Int)+1=((d.count+1:Nat):Int) by omega);clear hh;go_wp2_with fail;go_ret;rw[l.out];refine⟨rfl,?_⟩;have r:an [X] w4 (w4.setCell ⟨X,9,Y⟩ (I O ((d.count:Int)+1))):=(an.refl _ _).set (Va.2 rfl) _ _;refine⟨⟨q4,G.put (D':=ig d s) r ?_ rfl rfl rfl rfl rfl,c0,b7⟩,aP b9 (λb U=>Wa (Va.1 U▸vd ..)) r⟩;have:=HH.out;rw[F.out]at this;rw[F.out];exact this
variable {w0 w w' : N} {X : Nat} {D D' : Dn} {q : Pl} {R R' : List (Int × List Rc)} {b b' : List Rc} {H H' : Hs} {sure sure' n n' : Nat}
theorem DL.tick (h:DL D R b H sure n){t:Int}(a:0<=t)(c:t<=1000000000):DL {D with clock:=t} R b H sure n:=
 ⟨⟨{h.dk.ok with zn:=⟨a,c⟩},h.dk.kd,h.dk.num,h.dk.due,h.dk.dg,h.dk.most⟩,h.lv⟩
set_option maxRecDepth 10000 in
theorem FW (h:Gx w0 w X D q R b H sure n)(hn:n<=9000000)(r:D.cD=false)(t:Int):
  Vb Ya 34 #[ca (Z ⟨X,0,Y⟩),I O t] w λe w'=>e=Ua (I O (fg D t).2)/\Dq w w' X (fg D t).1 (df X q) q.bx:=by
 have A:=h.da.head.Ri 12;rw[r]at A;clear r;have U:=h.da.head.Ri 7;by_cases d:t<=D.clock\/1000000000<t
 .have F:=aa h;have c:Hid (fg D t=(D,0)):=if_pos d;clear h;rcases d with d|d
  .go_in;go_wp2_with fail;go_ret;rw[c.out];exact⟨rfl,Dq.of F.da (Vd _ _)⟩
  by_cases M:t<=D.clock
  all_goals
   go_in;go_wp2_with fail;go_ret;rw[c.out];exact⟨rfl,Dq.of F.da (Vd _ _)⟩
 have c:Hid (fg D t=vY (bB {D with clock:=t}).1 (bB {D with clock:=t}).2):=if_neg d;have hc:0<=D.clock/\D.clock<=1000000000:=h.dl.dk.ok.zn;have M:¬t<=D.clock:=λe=>d (Wa e)
 have W:¬1000000000<t:=λe=>d (Xa e)
 have V:=h.da.head.frozen 7;have a:an [X] w (w.setCell ⟨X,7,Y⟩ (I O t)):=(an.refl _ _).set (Va.2 rfl) _ _;have E:Dq w (w.setCell ⟨X,7,Y⟩ (I O t)) X {D with clock:=t} (df X q) q.bx:=⟨⟨q,h.da.put a (h.da.head.set 7 (I O t)) rfl rfl rfl rfl rfl,rfl,λb B=>Wa B⟩,a.mono λk _ P=>Va.1 P▸vd ..⟩;obtain⟨q1,o,i,f⟩:=h.next E (h.dl.tick (by omega) (by omega)) h.gd;have s:=ND o (by omega);have G:=aa E;change Hid _ at f i;clear h a E o d;go_in;go_wp2_with fail;refine s.mono ?_;clear s;rintro e T ⟨v,rfl,K,g⟩;obtain⟨S,l,u,m⟩:=g.ex;have j:=qi T l K;have y:=aa (Dq.trans G.off f g);have z:=aa (u.trans i);have x:=aa (show ∀b∈df X S,b∈df X q\/w.heap.size<=b from λb B=>(m b B).elim (f.out b) λe=>Xa (Za G.off.size e));clear g l m u K;go_wp2_with fail;refine j.mono ?_;clear j;rintro e w2 ⟨rfl,p⟩;have J:=aa (Dq.trans y.off x p);rw[z.out]at J;clear p;go_wp2_with fail;go_ret;rw[c.out];exact⟨rfl,J⟩
set_option maxRecDepth 10000 in
theorem Ny (h:Gx w0 w X D q R b H sure n)(y:n<=9000000)(c:D.cD=false):
  Vb Ya 33 #[ca (Z ⟨X,0,Y⟩)] w λe w'=>e=Ua (I O (kS D).2)/\Dq w w' X (kS D).1 (df X q) q.bx:=by
 have l:=h.da.head.Ri 12;rw[c]at l;clear c;have t:=h.da.head.Ri 6;have o:=QU h (by omega);have s:=aa h.da;clear h;go_in;go_wp2_with fail;refine o.mono ?_;clear o l t;rintro e x ⟨v,rfl,u,r⟩;obtain⟨q1,d,g,i,a⟩:=s.GV r;have k:=aa a.2.2.2.2.2.2.1;change Hid _ at d g i;clear a r;rcases u with ⟨hz,rfl⟩|⟨hz,f,z,rfl,_⟩
 .have j:Hid (kS D=(jm D,0)):=if_neg λh=>h hz
  clear hz;go_wp2_with fail;go_ret;rw[j.out];exact⟨rfl,⟨q1,d,k,g⟩,i⟩
 have j:Hid (kS D=({iw D (aQ D.J D.S) with cD:=true},6)):=if_pos hz;clear hz;have c:=Jk x d;go_wp2_with fail;refine c.mono ?_;clear c;rintro e A ⟨rfl,m⟩;have p:=aa (Dq.trans i g m);rw[k.out]at p;clear m;go_wp2_with fail;go_ret;rw[j.out];exact⟨rfl,p⟩
set_option maxRecDepth 10000 in
theorem RM (h:Gx w0 w X D q R b H sure n)(hn:n<=9000000)(V:D.cD=false)(a:Int)(a0:-9223372036854775808<=a)(a1:a<=9223372036854775807):
  Vb Ya 38 #[ca (Z ⟨X,0,Y⟩),I O a] w λe w'=>e=Ua (I O (nf D a).2)/\Dq w w' X (nf D a).1 (df X q) q.bx:=by
 have E:=h.da.head.Ri 12;rw[V]at E;clear V;have B:=h.da.head.Ri 11;have d:=Maps.keyOf_int_mk (P:=Ya) (k:=3) Uc (pz a0 a1);obtain⟨v,u,_,m⟩:=Hc 57 3 47 (int_keyed Uc) Ud Qj rfl h.da.due.tight d;obtain⟨W,rfl⟩:=Cm u;have i:=m w rfl;rw[PH]at i;simp only[mv]at i;change Hid _ at d;have HG:=aa h;clear m u h;by_cases c:a∈D.due.map (·.k)
 .rw[decide_eq_true c]at i;have A:Hid (nf D a=_):=if_neg λh=>h c
  change Hid _ at c;go_in;have o:=aa (ai (w:=w) (.cells #[I O W.k,L W.t] 47));have r:=aa (HG.keep o);have c6:=r.da.head.Ri 6;go_wp2_with fail;clear E B i c6;generalize w.alloc (.cells #[I O W.k,L W.t] 47)=w1 at *;refine(KQ r (by omega) a c).mono ?_;rintro e w2 ⟨v,rfl,u,hk⟩;obtain⟨q2,G,K,S,j⟩:=r.da.GV hk;have x:=aa j.2.2.2.2.2.2.1;have l:=aa G;have y:=aa ((an.ag o).trans S);have p:=aa (show ∀b∈df X q2,b∈df X q\/w.heap.size<=b from λb hb=>(K b hb).imp id λh=>Za o.size h);clear j hk K S G;rcases u with ⟨hz,rfl⟩|⟨hz,u⟩
  rotate_left
  .have F:=qi w2 l (Xa ⟨hz,u⟩);obtain⟨f,z,rfl,_⟩:=u;have g:=aa (A.trans (if_pos hz));clear hz;go_wp2_with fail;refine F.mono ?_;clear F;rintro e w4 ⟨rfl,U⟩;have HZ:=aa (Dq.trans y p U);rw[x.out]at HZ;clear U;go_wp2_with fail;go_ret;rw[g.out];exact⟨rfl,HZ⟩
  have g:=aa (A.trans (if_neg λh=>h hz));clear hz;have B:=l.head.Ri 11;obtain⟨w3,a2,s,M⟩:=l.due.tight.drop (t:=57) (int_keyed Uc) Ud d 0;rw[PG]at s;obtain⟨J,T⟩:=l.less s M.grown;have HQ:=aa (show Dq w w3 X (qY D a) (df X q) q.bx from⟨⟨q2,J,x,p⟩,aP y p T⟩);clear s M J T;go_wp2_with fail;go_ret;rw[g.out];exact⟨rfl,HQ⟩
 rw[decide_eq_false c]at i;have g:Hid (nf D a=(D,4)):=if_pos c;go_in;go_wp2_with fail;go_ret;rw[g.out];exact⟨rfl,Dq.of HG.da (ai _)⟩
theorem Pb (h:DA w X D q)(a:D.cD=true)(t:Int)(s:ByteArray):
  Vb Ya 32 #[ca (Z ⟨X,0,Y⟩),L s] w (λe w'=>e=Ua (I O 5)/\w'=w)/\
  Vb Ya 34 #[ca (Z ⟨X,0,Y⟩),I O t] w (λe w'=>e=Ua (I O 5)/\w'=w)/\
  Vb Ya 33 #[ca (Z ⟨X,0,Y⟩)] w (λe w'=>e=Ua (I O 5)/\w'=w)/\
  Vb Ya 38 #[ca (Z ⟨X,0,Y⟩),I O t] w (λe w'=>e=Ua (I O 5)/\w'=w):=by
 have b:=h.head.Ri 12;rw[a]at b;clear h a;refine⟨?_,?_,?_,?_⟩
 .go_in;go_wp2_with fail;go_ret;exact⟨rfl,rfl⟩
 .go_in;go_wp2_with fail;go_ret;exact⟨rfl,rfl⟩
 .go_in;go_wp2_with fail;go_ret;exact⟨rfl,rfl⟩
 go_in;go_wp2_with fail;go_ret;exact⟨rfl,rfl⟩
end Dd
namespace Jr
open Bytes Im Dm
variable {S : Dk} {R R0 K : List (Int × List Rc)} {n : Int} {m : Nat}
theorem Jp (a:List Rc):4*a.length<=(stx a).length:=by
 induction a with
 | nil=>exact Nat.le_refl _
 | cons r a b=>grind [stx,Rc.tx,bC,zd,List.length_cons]
theorem DE (R:List (Int×List Rc)):4*(aG R).length<=tf R:=by
 induction R with
 | nil=>exact Nat.le_refl _
 | cons p R a=>grind [iD,Jp,aG,tf]
theorem Has.tf (h:Has S R):tf R<=Dm.used S.ah:=by
 rcases h with ⟨a,rfl⟩|⟨R0,n,c,y,rfl,b,_⟩
 .exact Nat.zero_le _
 have a:=congrArg (List.map λx:Int×Bs=>x.2.length) b;grind [aj,view,used,tg,Jr.tf,List.map_congr_left,Function.comp_def]
theorem Has.told (h:Has S R)(f:∀x∈aG R,x.2.Ok)(m:Dm.used S.ah<=140737488355328):Told (gZ S) R:=by
 have c:∀p∈R,∀r∈p.2,r.Ok:=λp b r g=>by
  obtain⟨x,a,d⟩:=oW (n:=p.1) (z:=0) g;rw[<-d];exact f x (List.mem_flatMap.2 ⟨p,b,a⟩)
 have hz:∀x∈gZ S,x.2.size<=140737488355328:=λx k=>by
  obtain⟨s,i,rfl⟩:=Xb.1 k;have:s.text.size<=Dm.used S.ah:=gn i;grind
 have e:(gZ S).map (λx=>(x.1,B x.2))=S.ah.map view:=by
  unfold gZ;rw[Wc];rfl
 rcases h with ⟨a,rfl⟩|⟨R0,n,o,y,rfl,j,l⟩
 .unfold gZ;rw[a]
  trivial
 exact uD l (c _ (List.mem_append_right _ (Va.2 rfl))) R0 _ (e.trans j) (λp b=>c p (List.mem_append_left _ b)) hz
theorem KH (R:List (Int×List Rc)):((av hs0 (aG R)).es = -1/\(av hs0 (aG R)).ez=0)\/∃p∈R,(av hs0 (aG R)).es=p.1/\(av hs0 (aG R)).ez=((stx p.2).length:Int):=by
 have a:aG (R.filter λp=>!p.2.isEmpty)=aG R:=by
  induction R with
  | nil=>rfl
  | cons p R b=>grind [br,aG]
 grind [zL]
theorem Has.cI (h:Has S R):S.ah.map (·.num)=R.map (·.1):=by
 rcases h with ⟨a,rfl⟩|⟨R0,n,c,y,rfl,b,_⟩
 .rw[a];rfl
 have a:=congrArg (List.map Prod.fst) b;unfold tg at a;rw[Wc,Zd,Wc]at a;rw[Zd];exact a
theorem JI:∀{l s:List Int},l.Pairwise (·<·)->(∀x∈l,x∈s)->l.length<=s.length
 | [],_,_,_=>Nat.zero_le _
 | x ::l,s,hp,hs=>by
  have b:=JI (l:=l) (s:=s.erase x) (List.pairwise_cons.1 hp).2 λy a=>(List.mem_erase_of_ne (by grind [List.pairwise_cons])).2 (hs y (Wb _ a))
  grind
theorem For.aN {c:Hs->Prop}(h:For (bm S) c)(n:Dm.Good S)(i:Bd (bm S) m)(A:m<=7000000):
  ∃R H,RC S R H/\c H/\
   (((dG (bF H) H.es H.ez (gZ S) S).2=0/\∃K,wk (bm (dG (bF H) H.es H.ez (gZ S) S).1) K H)\/((dG (bF H) H.es H.ez (gZ S) S).2=8/\For (bm (dG (bF H) H.es H.ez (gZ S) S).1) c)):=by
 obtain⟨R,H,d,k,t,u,v,a,l,w,y⟩:=h.tidy;have E:Dm.used S.ah<=500*m:=i.used;have b:S.ah.length<=m:=i.ah;have D:=d.tf;have j:=KH R;rw[k]at j;have B:∀x∈S.ah.map (·.num),0<=x/\x<=9223372036854775807:=λx q=>by
  obtain⟨s,b,rfl⟩:=Xb.1 q;exact n.num s b
 have z:(bF H).length<=S.ah.length:=by
  have:=JI l w;grind
 refine⟨R,H,⟨k,d.told v (by omega),u,by have:=DE R;omega,⟨a.g.2,a.g.1⟩,?_,?_,Jd n,by omega,λx q=>by grind,l,a.up,λs b=>by have:=a.sn s b;have:=a.g;omega⟩,t,y⟩
 .rcases j with ⟨e,_⟩|⟨p,o,e,_⟩
  .omega
  have f:p.1∈S.ah.map (·.num):=by rw[d.cI];grind
  have r:=i.cI p.1 f;grind
 rcases j with ⟨_,e⟩|⟨p,o,_,e⟩
 .omega
 have:=CV o;omega
end Jr
namespace Lw
open Go.RowKit Mem Foot Bytes Im Wm Dm Jr Wi Sk Kr Dd
variable {R R' : Rn} {D D' : Dn} {K : List (Int × List Rc)} {b : List Rc} {H H' : Hs} {n m : Nat} {V V' : Wd} {S : Dk}
noncomputable def qF (c:Fin 6->Int)(num:Int)(a:List ByteArray):ByteArray:=⟨(ir num (oy (bP c) (a.map B))).toArray⟩
noncomputable def lU (c:Fin 6->Int)(W:Wd)(k:Nat)(a:Int):Wd:=⟨W.due++[⟨W.o,qF c W.o (W.hs.take k)⟩],a,[],0,W.o⟩
noncomputable def wt (c:Fin 6->Int)(a:Int)(W:Wd):Wd:=dL (qF c W.o W.hs) a W
def th (W:Wd)(s:ByteArray):Wd:={W with hs:=W.hs++[s]}
def Rn.tt (R:Rn):Int:=R.now / R.c 0
noncomputable def cY (R:Rn):List Wd:=if R.W.o<R.tt/\R.W.hs≠[] then (List.range' R.W.sr.toNat (R.W.hs.length+1 - R.W.sr.toNat)).map λk=>lU R.c R.W k R.tt else []
noncomputable def qh (R:Rn)(l:List Wd):List Wd:=(l.filter λV=>!(decide (V.o<R.tt)&&decide (V.hs≠[]))).map λV=>th (wt R.c R.tt V) R.d.s
noncomputable def dV (R:Rn):List Wd:=
 if R.sp=false then [R.W]
 else if R.d.a1=4 then [R.W,{R.W with due:=wo R.d.a2 R.W.due}]
 else if R.d.a1=3 then [R.W]
 else if R.d.a1=1 then (R.W ::cY R)++qh R (R.W ::cY R)
 else R.W ::cY R
structure Fits (c:Fin 6->Int)(V:Wd)(K:Hs):Prop where
 due:bI c K.ae=V.due
 k:∃k,K.ar=V.hs.take k/\V.sr<=k/\k<=V.hs.length
 num:K.ar≠[]->K.onum=V.o
 tp:K.g=V.tp
theorem qJ (h:V∈dV R):(V.tp=R.W.tp/\V.due.Sublist R.W.due/\V.hs <+:R.W.hs++[R.d.s])\/(V.tp=R.W.o/\(∃z,V.due=R.W.due++[⟨R.W.o,z⟩])/\V.hs <+:[R.d.s]):=by
 have e:(R.W.tp=R.W.tp/\R.W.due.Sublist R.W.due/\R.W.hs <+:R.W.hs++[R.d.s]):=⟨rfl,List.Sublist.refl _,List.prefix_append ..⟩;have i:∀V∈cY R,∃k,V=lU R.c R.W k R.tt:=λV b=>by grind [cY]
 have f:∀V∈cY R,V.tp=R.W.o/\(∃z,V.due=R.W.due++[⟨R.W.o,z⟩])/\V.hs=[]/\V.o=R.tt:=λV b=>by
  obtain⟨k,rfl⟩:=i V b;exact⟨rfl,⟨_,rfl⟩,rfl,rfl⟩
 unfold dV at h;have p:V∈cY R->(V.tp=R.W.o/\(∃z,V.due=R.W.due++[⟨R.W.o,z⟩])/\V.hs <+:[R.d.s]):=λb=>by simp_all
 split at h
 .grind
 split at h
 .simp only[List.mem_cons,List.not_mem_nil,or_false]at h;rcases h with rfl|rfl
  .exact Wa e
  exact Wa ⟨rfl,List.filter_sublist,e.2.2⟩
 split at h
 .grind
 split at h
 .rcases Xc.1 h with h|h
  .grind
  obtain⟨U,a,rfl⟩:=Xb.1 h;obtain⟨a,g⟩:=te.1 a;simp only[Bool.not_eq_true',Bool.and_eq_false_iff,decide_eq_false_iff_not,Int.not_lt,Ze]at g;rcases List.mem_cons.1 a with rfl|a
  .refine Wa ?_;unfold wt dL th;grind
  obtain⟨j,l,m,n⟩:=f U a;refine Xa ?_;unfold wt dL th;simp_all
 grind
theorem nW {α:Type}{a c:List α}(h:a <+:c){k:Nat}(b:k<=a.length):a.take k=c.take k:=by
 obtain⟨x,rfl⟩:=h;grind
theorem zi (h:V∈dV R)(j:V'∈dV R)(l:V'.due=V.due){k:Nat}(f:k<=V.hs.length)(a:k<=V'.hs.length):V'.tp=V.tp/\V'.hs.take k=V.hs.take k:=by
 have m:=congrArg Ue l;rcases qJ h with ⟨b,g,c⟩|⟨b,g,c⟩<;>rcases qJ j with ⟨d,i,e⟩|⟨d,i,e⟩
 .exact⟨d.trans b.symm,(nW e a).trans (nW c f).symm⟩
 .grind
 .grind
 exact⟨d.trans b.symm,(nW e a).trans (nW c f).symm⟩
structure ia (ever:List Ms)(gone sl:List Int)(due:List Ms)(tp:Int)(n:Nat):Prop where
 Oe:∀m∈ever,m.k<=tp/\∀m'∈due,m.k=m'.k->m=m'
 KT:∀g∈gone,g<=tp/\∀m∈due,g≠m.k
 GG:gone.length<=n
 PB:(ever.map (·.k)).Nodup
 PE:∀m∈ever,m.k∈sl
 PA:∀m∈due,m.k∈sl
 Nu:sl.length<=n
structure Lr (R:Rn)(D:Dn)(K:List (Int×List Rc))(b:List Rc)(H:Hs)(n:Nat):Prop where
 dl:DL D K b H R.W.sr.toNat n
 gd:Dm.Good D.S
 c:R.c=D.c
 now:R.now=D.clock
 o:R.W.o=D.num
 due:R.W.due=D.due
 hs:R.W.hs=H.ar
 sr:0<=R.W.sr
 tp:R.W.tp=H.g
 sp:R.sp=false
 tM:D.cD=false
 lim:R.lim=false->D.S.left = -1/\D.S.room = -1
 eZ:ia R.ever R.gone R.sl R.W.due R.W.tp n
structure Dr (R:Rn)(S:Dk)(n:Nat):Prop where
 all:For (bm S) λK=>Tb K n/\∃V∈dV R,Fits R.c V K
 gd:Dm.Good S
 bd:Bd (bm S) n
 ll:oz R.c
 lim:R.lim=false->S.left = -1/\S.room = -1
 now:0<=R.now/\R.now<=1000000000
 o:0<=R.W.o/\R.W.o<=1000000000
 len:R.W.hs.length<=n
 lines:jE (R.W.hs.map B)<=n
 short:∀s∈R.W.hs,s.size<=256
 sr:0<=R.W.sr/\R.W.sr<=R.W.hs.length
 tp:-1<=R.W.tp/\R.W.tp<=1000000000
 dues:R.W.due.length<=n
 ds:R.d.s.size<=256\/R.d.a1≠1\/R.sp=false
 eZ:∀V∈dV R,ia R.ever R.gone R.sl V.due V.tp n
theorem ia.mono {ever due:List Ms}{gone sl:List Int}{tp:Int}(h:ia ever gone sl due tp n)(a:n<=m):ia ever gone sl due tp m:={h with GG:=Za h.GG a,Nu:=Za h.Nu a}
theorem _root_.Go.Proofs.YtpndiccohnafbaaGreatDoor.Dd.DL.tb (h:DL D K b H m n):Tb H n where
 dues:=by
  have a:=h.bn.dues;rwa [show D.due=bI D.c H.ae from h.dk.due,bI,Yb]at a
 len:=by simpa using h.dk.ok.len
 lines:=h.dk.ok.lines
 short:=λd e=>by
  have:=h.dk.ok.short (B d) (ad e);rwa [<-aj]at this
 top:=by
  have a:=h.bn.fZ;have f:=h.bn.num;rw[h.lv.kd.g];omega
 dg:=h.dk.dg
theorem Lr.fits (h:Lr R D K b H n)(l:ng H' H R.W.sr.toNat):Fits R.c R.W H':=by
 obtain⟨f,g,k,a,m,i,j⟩:=l;exact⟨by rw[f,h.due,h.c];exact h.dl.dk.due.symm,⟨k,by rw[h.hs];exact a,by omega,by rw[h.hs];exact i⟩,λe=>by rw[j e,h.o];exact h.dl.dk.num λd=>e (by rw[a,d,List.take_nil]),by rw[g,h.tp]⟩
theorem Lr.wd (h:Lr R D K b H n):dV R=[R.W]:=by grind [sp,dV]
theorem Lr.dr (h:Lr R D K b H n):Dr R D.S n where
 all:=h.dl.lv.for.imp λK' a=>⟨h.dl.tb.pre a,R.W,by grind [wd],h.fits a⟩
 gd:=h.gd
 bd:=h.dl.bd
 ll:=h.c▸h.dl.dk.ok.ll
 lim:=h.lim
 now:=h.now▸h.dl.bn.zn
 o:=h.o▸h.dl.bn.num
 len:=h.hs▸h.dl.tb.len
 lines:=h.hs▸h.dl.tb.lines
 short:=h.hs▸h.dl.tb.short
 sr:=⟨h.sr,by have d:=h.dl.lv.sure;grind [hs]⟩
 tp:=by
  have d:=h.dl.bn.fZ;have e:=h.dl.bn.num;rw[h.tp,show H.g=D.J.al from h.dl.lv.kd.g];omega
 dues:=h.due▸h.dl.bn.dues
 ds:=Xa (Xa h.sp)
 eZ:=λV f=>by grind [wd,eZ]
theorem Dr.pG (h:Dr R S n)(t:Int):Dr {R with lim:=false} (eH S t) n where
 all:=by
  have:=h.all.pG t;exact this
 gd:=(jI (dC h.gd) t).aJ
 bd:=by
  have a:=jI (⟨h.gd,h.bd.ah,h.bd.used⟩:Fit S n (500*n)) t;refine⟨a.len,a.use,λk b=>h.bd.cI k ?_⟩;obtain⟨s,d,rfl⟩:=Xb.1 b;obtain⟨q,c,rfl⟩:=Xb.1 (show s∈S.ah.map _ from d);have:(dT (if t<0 then 0 else t) q).num=q.num:=by grind [dT]
  rw[this];exact ad c
 ll:=h.ll
 lim:=λ_=>⟨rfl,rfl⟩
 now:=h.now
 o:=h.o
 len:=h.len
 lines:=h.lines
 short:=h.short
 sr:=h.sr
 tp:=h.tp
 dues:=h.dues
 ds:=h.ds
 eZ:=h.eZ
variable {R R' : Rn} {D D' : Dn} {K K' : List (Int × List Rc)} {b b' : List Rc} {H H' : Hs} {n m : Nat} {V V' : Wd} {S : Dk} {ever due : List Ms} {gone sl : List Int} {tp o : Int} {z s : ByteArray}
theorem ia.more (h:ia ever gone sl due tp n):ia ever gone (o ::sl) due tp (n+1):=
 ⟨h.Oe,h.KT,Ub h.GG,h.PB,λm a=>Wb _ (h.PE m a),λm a=>Wb _ (h.PA m a),Vc h.Nu⟩
theorem ia.sw (h:ia ever gone sl due tp n)(e:tp<o):ia ever gone (o ::sl) (due++[⟨o,z⟩]) o (n+1) where
 Oe:=λm a=>by
  obtain⟨b,c⟩:=h.Oe m a;grind
 KT:=λg d=>by
  obtain⟨b,c⟩:=h.KT g d;grind
 GG:=Ub h.GG
 PB:=h.PB
 PE:=λm a=>Wb _ (h.PE m a)
 PA:=λm a=>by
  rcases Xc.1 a with a|a
  .exact Wb _ (h.PA m a)
  grind
 Nu:=Vc h.Nu
theorem Lr.tt (h:Lr R D K b H n):R.tt=D.clock / D.c 0:=by
 unfold Rn.tt;rw[h.now,h.c]
theorem Lr.qF (h:Lr R D K b H n):Lw.qF R.c R.W.o R.W.hs=fq D:=by
 unfold Lw.qF fq;rw[h.hs,h.c,h.o,show D.W=(H.ar.map B).foldl (ju (bP D.c)) gC from h.dl.dk.ok.win];rfl
theorem Lr.calm (h:Lr R D K b H n)(d:R.lim=false):dx D=D:=by
 obtain⟨a,c⟩:=h.lim d;unfold dx;rw[NS a c]
theorem Lr.top (h:Lr R D K b H n):R.W.tp<R.W.o:=by
 have a:=h.dl.bn.fZ;rw[h.tp,h.o,h.dl.lv.kd.g];exact a.2
theorem Bz (hz:(bB D).2=0):(bB D).1=bA D:=by grind [bB,bA]
theorem zK (D:Dn):(bA D).clock=D.clock/\(bA D).c=D.c/\(bA D).cD=D.cD:=by grind [bA]
noncomputable def eV (R:Rn):Rn:={R with W:=wt R.c R.tt R.W,sl:=R.W.o ::R.sl}
theorem Lr.bT (h:Lr R D K b H n)(y:n<=100000000)(hz:(bB D).2=0):∃K' b' H',Lr (eV R) (bA D) K' b' H' (n+1)/\
  ((¬(R.W.o<R.tt/\R.W.hs≠[])/\H'=H/\(eV R).W.sr=R.W.sr)\/(R.W.o<R.tt/\R.W.hs≠[]/\kY H' H D.J.aN/\(eV R).W.sr=0))/\dx (bA D)=bA (dx D):=by
 obtain⟨p,q,r⟩:=zK D;have j:Dm.Good (bA D).S:=Bz hz▸kO h.dl h.gd;have g:R.lim=false->(bA D).S.left = -1/\(bA D).S.room = -1:=λx=>by
  have f:=h.dl.dk.ok.bT.1;rw[h.calm x]at f;exact⟨f.calm.left,f.calm.room⟩
 have E:=h.tt;have B:=h.o;by_cases i:D.clock / D.c 0<=D.num
 .have e:bA D=D:=if_pos i;have a:(eV R).W=R.W:=by grind [eV,wt,dL]
  exact⟨K,b,H,by rw[e];exact⟨by rw[a];exact h.dl.mono (eb _),h.gd,h.c,h.now,by grind,by rw[a];exact h.due,by rw[a];exact h.hs,by rw[a];exact h.sr,by rw[a];exact h.tp,h.sp,h.tM,h.lim,by rw[a];exact h.eZ.more⟩,Wa ⟨λs=>by omega,rfl,by rw[a]⟩,by rw[e];exact(if_pos i).symm⟩
 by_cases d:H.ar=[]
 .obtain⟨t,k,m⟩:=h.dl.Np (by omega) d;have l:R.W.hs=[]:=h.hs.trans d;have a:(eV R).W={R.W with o:=R.tt}:=by grind [eV,wt,dL]
  have w:(bA D).due=D.due:=by
   unfold bA;rw[if_neg i,if_neg (by rw[h.dl.cnt,d];simp)]
  refine⟨K,b,H,⟨by grind,j,h.c.trans q.symm,h.now.trans p.symm,by grind,by grind [due],by grind,by rw[a];exact h.sr,by rw[a];exact h.tp,h.sp,r.trans h.tM,g,by rw[a];exact h.eZ.more⟩,Wa ⟨λs=>s.2 l,rfl,by rw[a]⟩,m⟩
 have l:R.W.hs≠[]:=h.hs▸d;have A:0<D.count:=by
  rw[h.dl.cnt];grind
 rcases h.dl.Ns y (by omega) d with ⟨_,⟨K',H',t,k⟩,m,u,v⟩|f
 .have a:(eV R).W=⟨R.W.due++[⟨R.W.o,Lw.qF R.c R.W.o R.W.hs⟩],R.tt,[],0,R.W.o⟩:=by grind [eV,wt,dL]
  refine⟨K',[],H',⟨by grind,j,h.c.trans q.symm,h.now.trans p.symm,by grind,by rw[a,u,h.qF,h.due,h.o],by rw[a];exact k.2.1.symm,by grind,?_,h.sp,r.trans h.tM,g,by rw[a];exact h.eZ.sw h.top⟩,Xa ⟨by omega,l,k,by rw[a]⟩,v⟩;rw[a,k.2.2,h.dl.dk.num d];exact h.o
 have z:(bE D.J D.S D.num).2.2≠0:=by
  rcases f with ⟨f|f,_⟩|⟨f,_⟩<;>rw[f]<;>decide
 grind [bB]
theorem Lr.stuck (h:Lr R D K b H n)(w:n<=100000000)(hz:(bB D).2≠0):R.lim=true/\R.W.o<R.tt/\R.W.hs≠[]/\(bB D).1.num=D.num/\(bB D).1.cD=false/\
  ((Er (bB D).2/\Lr R (bB D).1 K b H n)\/((bB D).2=8/\For (bm (bB D).1.S) λK'=>Tb K' (n+1)/\(Fits R.c R.W K'\/Fits R.c (lU R.c R.W R.W.hs.length R.tt) K'))):=by
 rcases h.dl.bT w with ⟨r,_⟩|⟨r,u,k,A,g⟩
 .exact absurd r hz
 have y:0<D.count:=by
  rw[h.dl.cnt];grind
 have a:R.lim=true:=qb λa=>by
  have a:=Zb.2 a;have i:=h.dl.dk.ok.bT.2.2.1 y;rw[h.calm a]at i;omega
 have m:R.W.o<R.tt:=by grind [o,tt]
 refine⟨a,m,by rw[h.hs];exact u,by rw[k];rfl,by rw[k];exact h.tM,?_⟩;rcases g with ⟨g,i⟩|⟨g,i⟩
 .refine Wa ⟨g,⟨i,kO h.dl h.gd,?_,?_,?_,?_,h.hs,h.sr,h.tp,h.sp,by rw[k];exact h.tM,λe=>absurd (a.symm.trans e) (by decide),h.eZ⟩⟩<;>rw[k]
  .exact h.c
  .exact h.now
  .exact h.o
  exact h.due
 refine Xa ⟨g,i.imp λK' l=>?_⟩;rcases l with l|⟨p,q,z⟩
 .exact⟨(h.dl.tb.pre l).mono (eb _),Wa (h.fits l)⟩
 have t:=h.dl.tb;have j:H.onum=D.num:=h.dl.dk.num u;refine⟨⟨?_,by grind,by rw[q];exact Nat.zero_le _,λd v=>(by grind),?_,λs f=>?_⟩,Xa ⟨?_,⟨0,q,Int.le_refl _,Nat.le_refl _⟩,λe=>absurd q e,?_⟩⟩
 .rw[p,zd];exact Vc t.dues
 .have x:=h.dl.bn.zn;have B:=h.dl.bn.c0;have E:=Int.ediv_le_self (D.c 0) x.1;omega
 .rw[p]at f;rcases Xc.1 f with f|f
  .exact t.dg s f
  rw[Va.1 f];exact h.dl.dk.PU w
 .have v:R.W.due=bI R.c H.ae:=by
   rw[h.due,h.c];exact h.dl.dk.due
  rw[p];unfold lU bI;rw[Zd,List.take_length,v,h.hs,h.o,<-j];rfl
 rw[z,j];exact h.o.symm
variable {R R' : Rn} {D D' : Dn} {K K' : List (Int × List Rc)} {b b' : List Rc} {H H' : Hs} {n m : Nat} {V V' : Wd} {S : Dk} {ever due due' : List Ms} {gone sl : List Int} {tp t : Int} {z s : ByteArray} {o : Ac}
theorem ia.sub (h:ia ever gone sl due tp n)(c:∀m∈due',m∈due):ia ever gone sl due' tp n:=
 ⟨λm a=>⟨(h.Oe m a).1,λe b=>(h.Oe m a).2 e (c e b)⟩,λg d=>⟨(h.KT g d).1,λm a=>(h.KT g d).2 m (c m a)⟩,h.GG,h.PB,h.PE,λm a=>h.PA m (c m a),h.Nu⟩
def tG (R:Rn)(o:Ac):Rn:={R with sp:=true,d:=o,sl:=R.W.o ::R.sl}
theorem Lr.fail (h:Lr R D K b H n)(l:R.lim=true)(m:o.s.size<=256\/o.a1≠1)(k:Dm.Good S)(i:Bd (bm S) (n+1))(j:For (bm S) λK'=>Tb K' (n+1)/\∃V∈dV (tG R o),Fits R.c V K'):Dr (tG R o) S (n+1):=
 have d:=h.dr
 {all:=j,gd:=k,bd:=i,ll:=d.ll,lim:=λe=>absurd (l.symm.trans e) (by decide),now:=d.now,o:=d.o,len:=Ub d.len,lines:=Ub d.lines,short:=d.short,sr:=d.sr,tp:=d.tp,dues:=Ub d.dues
  ds:=m.elim Wa λe=>Xa (Wa e)
  eZ:=λV g=>by
   rcases qJ g with ⟨a,f,_⟩|⟨a,⟨z,f⟩,_⟩
   .rw[a];exact h.eZ.more.sub f.subset
   rw[a,f];exact h.eZ.sw h.top}
theorem gX (R:Rn):R.W∈dV R:=by grind [dV]
theorem zj (h:Lr R D K b H n)(e:o.a1=1\/o.a1=2)(a:R.W.o<R.tt)(d:R.W.hs≠[]):lU R.c R.W R.W.hs.length R.tt∈dV (tG R o):=by
 have f:lU R.c R.W R.W.hs.length R.tt∈cY (tG R o):=by
  unfold cY;rw[if_pos ⟨a,d⟩];refine ad (List.mem_range'_1.2 ?_);have:=h.dr.sr;show R.W.sr.toNat<=R.W.hs.length/\_<R.W.sr.toNat+(R.W.hs.length+1 - R.W.sr.toNat);omega
 grind [dV,tG]
theorem NL:vY D 7=(D,7):=rfl
theorem FG:vY D 8=({D with cD:=true},6):=rfl
theorem Lr.halt (h:Lr R D K b H n)(w:n<=10000000)(v:o.a1=1\/o.a1=2)(i:o.s.size<=256\/o.a1≠1)(hz:(bB D).2≠0):R.lim=true/\R.W.o<R.tt/\R.W.hs≠[]/\
  (((vY (bB D).1 (bB D).2).2=7/\(vY (bB D).1 (bB D).2).1.num=R.W.o/\Lr R (vY (bB D).1 (bB D).2).1 K b H n)\/
  ((vY (bB D).1 (bB D).2).2=6/\(vY (bB D).1 (bB D).2).1.cD=true/\Dr (tG R o) (vY (bB D).1 (bB D).2).1.S (n+1))):=by
 obtain⟨g,l,m,p,_,c⟩:=h.stuck (by omega) hz;refine⟨g,l,m,?_⟩;rcases c with ⟨c|c,a⟩|⟨c,a⟩
 .rw[c,NL];exact Wa ⟨rfl,p.trans h.o.symm,a⟩
 .rw[c,FG];refine Xa ⟨rfl,rfl,h.fail g i a.gd (a.dl.bd.mono (eb _)) (a.dl.lv.for.imp λK' d=>?_)⟩;exact⟨(a.dl.tb.pre d).mono (eb _),R.W,gX (tG R o),a.fits d⟩
 have q:Bd (bm (bB D).1.S) (n+1):=by
  rcases h.dl.bT (by omega) with ⟨e,_⟩|⟨_,u,j,k,_⟩
  .exact absurd e hz
  have r:0<D.count:=by
   rw[h.dl.cnt];grind
  have f:=h.dl.bn;have t:=IX (win:=D.num) h.dl.lv.kd.seg.calm (h.dl.dk.ok.aN r) (k▸hz);rw[j];exact t.bd (show Bd D.S n from⟨h.dl.bd.ah,h.dl.bd.used,h.dl.bd.cI⟩) (by have:=nY [115] f.num.1 f.num.2;grind) (by have:=f.next;omega)
 rw[c,FG];refine Xa ⟨rfl,rfl,h.fail g i (kO h.dl h.gd) q (a.imp λK' d=>⟨d.1,?_⟩)⟩;grind [gX,zj,tG]
theorem Lr.vv (h:Lr R D K b H n)(B:n<=10000000)(x:o.a1=1)(r:o.s.size<=256):
  ((ew D o.s).2=0/\(∃K' b' H',Lr {eV R with W:=th (eV R).W o.s} (ew D o.s).1 K' b' H' (n+o.s.size+2))/\Dm.used (ew D o.s).1.S.ah<=Dm.used D.S.ah+(if R.W.o<R.tt/\R.W.hs≠[] then 15 else 0)+o.s.size+32)\/
  (R.lim=true/\(ew D o.s).2=7/\∃sl K' b' H',Lr {R with W:=if (ew D o.s).1.num=R.W.o then R.W else wt R.c R.tt R.W,sl:=sl} (ew D o.s).1 K' b' H' (n+1))\/
  (R.lim=true/\(ew D o.s).2=6/\(ew D o.s).1.cD=true/\Dr (tG R o) (ew D o.s).1.S (n+1)):=by
 unfold ew;by_cases hz:(bB D).2≠0
 .rw[if_pos hz];obtain⟨g,_,_,a⟩:=h.halt B (Wa x) (Wa r) hz;rcases a with ⟨m,l,i⟩|⟨m,l,i⟩
  .refine Xa (Wa ⟨g,m,R.sl,K,b,H,?_⟩);rw[if_pos l];exact {i with dl:=i.dl.mono (eb _),eZ:=i.eZ.mono (eb _)}
  grind
 rw[if_neg hz];have hz:=Ze.1 hz;rw[Bz hz];obtain⟨w,P,v,a,z,A⟩:=h.bT (by omega) hz;have k:=(a.dl.dk.ok.write (s:=o.s) (by omega) r);have j:Dm.Good (aY (bA D).J (bA D).S (bA D).num o.s).2.1:=Bu a.gd a.dl.bn.last.2 (by have:=a.dl.bn.next;omega) _ _;unfold BA;rcases a.dl.writes (by omega) r with ⟨f,u,K',b',H',F,G,X,M⟩|⟨f,b',u⟩
 .rw[if_neg (λe=>e f)];refine Wa ⟨rfl,⟨K',b',H',⟨by rw[show n+o.s.size+2=n+1+o.s.size+1 by omega];exact F,j,a.c,a.now,a.o,a.due,by show (eV R).W.hs++[o.s]=H'.ar;rw[a.hs,G],a.sr,a.tp.trans M.symm,a.sp,a.tM,λg=>by have d:=k.1;rw[a.calm g]at d;exact⟨d.calm.left,d.calm.room⟩,a.eZ.mono (by omega)⟩⟩,?_⟩;have d:=k.2.1;rw[<-u,A]at d;have t:=h.dl.dk.ok.bT.2.1;have T:Dm.used (ig (bA D) o.s).S.ah<=Dm.used (bA (dx D)).S.ah+o.s.size+32:=d;have U:Dm.used (bA (dx D)).S.ah<=Dm.used D.S.ah+(if D.num<D.clock / D.c 0/\0<D.count then 15 else 0):=t;have V:(R.W.o<R.tt/\R.W.hs≠[])↔(D.num<D.clock / D.c 0/\0<D.count):=by
   rw[h.o,h.tt,h.hs,h.dl.cnt];grind
  grind
 have p:(aY (bA D).J (bA D).S (bA D).num o.s).2.2≠0:=by rcases f with f|f<;>rw[f]<;>decide
 have g:R.lim=true:=qb λg=>by
  have d:=k.2.2;rw[a.calm (Zb.2 g)]at d;exact p d
 rw[if_pos p];have d:Lr (eV R) (iw (bA D) (aY (bA D).J (bA D).S (bA D).num o.s)) w b' v (n+1):=⟨u,j,a.c,a.now,a.o,a.due,a.hs,a.sr,a.tp,a.sp,a.tM,λe=>absurd (g.symm.trans e) (by decide),a.eZ⟩;rcases f with f|f
 .rw[f,NL];refine Xa (Wa ⟨g,rfl,R.W.o ::R.sl,w,b',v,?_⟩);have E:(if (iw (bA D) (aY (bA D).J (bA D).S (bA D).num o.s)).num=R.W.o then R.W else wt R.c R.tt R.W)=(eV R).W:=by
   split
   .rename_i e;have t:(eV R).W.o=R.W.o:=a.o.trans e;grind [eV,wt,dL]
   rfl
  rw[E];exact d
 rw[f,FG];refine Xa (Xa ⟨g,rfl,rfl,h.fail g (Wa r) j d.dl.bd (d.dl.lv.for.imp λK' q=>⟨d.dl.tb.pre q,?_⟩)⟩);rcases z with ⟨m,l,i⟩|⟨m,l,i,y⟩
 .subst l;rw[i]at q;exact⟨R.W,gX (tG R o),h.fits q⟩
 refine⟨_,zj h (Wa x) m l,?_⟩;rw[y]at q;have t:=d.fits (H':=K') (by grind);grind [eV,lU,wt,dL]
end Lw
namespace Jr
open Bytes Im Dm
variable {S : Dk}
def Qt (S:Dk):Prop:=S.left = -1/\S.room = -1
theorem Qv:(9:Int)≠8:=by decide
theorem Qt.ops (h:Qt S):S.left≠0/\Qt (Dm.op S):=by
 obtain⟨a,b⟩:=h;refine⟨by omega,?_⟩;unfold Dm.op;rw[if_neg (by omega)];exact⟨a,b⟩
theorem Qt.sync (h:Qt S)(n:Int):Qt (bz S n).1/\(bz S n).2≠8:=by
 obtain⟨b,a⟩:=h.ops;unfold bz;rw[if_neg b];split
 .exact⟨a,Qv⟩
 exact⟨a,show (0:Int)≠8 by decide⟩
theorem Qt.tid (h:Qt S)(x:Int×ByteArray)(e:List Int)(a b:Int):Qt (du S x e a b).1/\(du S x e a b).2≠8:=by
 obtain⟨c,d⟩:=h.ops;unfold du aF cx;rw[if_neg c,if_neg c];repeat' split
 all_goals first|exact⟨d,Qv⟩|exact⟨d,show (0:Int)≠8 by decide⟩|exact⟨h,show (0:Int)≠8 by decide⟩
theorem Qt.eD {us:List Int}{es ez:Int}:∀(l:List (Int×ByteArray)) {S:Dk},Qt S->Qt (eD us es ez l S).1/\(Jr.eD us es ez l S).2≠8
 | [],_,h=>⟨h,show (0:Int)≠8 by decide⟩
 | x ::l,S,h=>by
  have a:=h.tid x us es ez;unfold Jr.eD;split
  .exact a
  exact Qt.eD l a.1
theorem Qt.dG (h:Qt S)(c:List Int)(a b:Int)(l:List (Int×ByteArray)):Qt (dG c a b l S).1/\(Jr.dG c a b l S).2≠8:=by
 have d:=Qt.eD (us:=c) (es:=a) (ez:=b) l h;unfold Jr.dG;split
 .exact d
 exact d.1.sync _
theorem uB (h:Dm.Good S)(d:List Int)(a b:Int)(l:List (Int×ByteArray)):Dm.Good (dG d a b l S).1:=by
 have c:=(vM (us:=d) (es:=a) (ez:=b) l (dC h)).1;unfold dG;split
 .exact c.aJ
 exact(jK c _).aJ
end Jr
namespace Lw
open Go.RowKit Mem Foot Bytes Im Wm Dm Jr Wi Sk Kr Dd
variable {R R' : Rn} {D D' : Dn} {K K' : List (Int × List Rc)} {b b' : List Rc} {H H' : Hs} {n m : Nat} {V V' : Wd} {S : Dk} {t : Int} {o : Ac}
theorem RS:vY D 0=(D,0):=rfl
theorem Lr.clock (h:Lr R D K b H n)(p:n<=10000000)(k:o.a1=2)(s:¬(o.a2<=R.now\/1000000000<o.a2)):
  ((fg D o.a2).2=0/\(∃K' b' H',Lr (eV {R with now:=o.a2}) (fg D o.a2).1 K' b' H' (n+1))/\Dm.used (fg D o.a2).1.S.ah<=Dm.used D.S.ah+15)\/
  (R.lim=true/\R.W.o<o.a2 / R.c 0/\R.W.hs≠[]/\(fg D o.a2).2=7/\(fg D o.a2).1.num=R.W.o/\Lr {R with now:=o.a2} (fg D o.a2).1 K b H n)\/
  (R.lim=true/\(fg D o.a2).2=6/\(fg D o.a2).1.cD=true/\Dr (tG {R with now:=o.a2} o) (fg D o.a2).1.S (n+1)):=by
 have r:=h.dl.bn.zn;have e:Lr {R with now:=o.a2} {D with clock:=o.a2} K b H n:=⟨h.dl.tick (by grind [now]) (by omega),h.gd,h.c,rfl,h.o,h.due,h.hs,h.sr,h.tp,h.sp,h.tM,h.lim,h.eZ⟩;unfold fg;rw[if_neg (by grind [now])];by_cases hz:(bB {D with clock:=o.a2}).2=0
 .obtain⟨K',b',H',a,_,d⟩:=e.bT (by omega) hz;rw[hz,RS,Bz hz];refine Wa ⟨rfl,⟨K',b',H',a⟩,?_⟩;have j:=e.dl.dk.ok.bT.2.1;rw[<-d]at j;have q:Dm.used (bA {D with clock:=o.a2}).S.ah<=Dm.used D.S.ah+_:=j;grind
 obtain⟨m,a,l,d⟩:=e.halt p (Xa k) (Xa (by omega)) hz;rcases d with ⟨f,g,i⟩|⟨f,g,i⟩
 .exact Xa (Wa ⟨m,a,l,f,g,i⟩)
 grind
theorem Lr.sync (h:Lr R D K b H n)(p:o.a1=3):
  ((kS D).2=0/\Lr {R with W:={R.W with sr:=R.W.hs.length}} (kS D).1 K [] H n/\Dm.used (kS D).1.S.ah=Dm.used D.S.ah)\/
  (R.lim=true/\(kS D).2=6/\(kS D).1.cD=true/\Dr (tG R o) (kS D).1.S (n+1)):=by
 have d:=h.dl.dk.ok.sync;have g:=(jU (dC h.gd) h.dl.bn.last.2).aJ;unfold kS;rcases h.dl.QV with ⟨k,j,m⟩|⟨k,j⟩
 .rw[if_neg (λe=>e k)];exact Wa ⟨rfl,⟨by show DL _ _ _ _ (R.W.hs.length:Int).toNat n;rw[Int.toNat_natCast,h.hs];exact m,g,h.c,h.now,h.o,h.due,h.hs,Int.natCast_nonneg _,h.tp,h.sp,h.tM,λf=>by have a:=d.1;rw[h.calm f]at a;exact⟨a.calm.left,a.calm.room⟩,h.eZ⟩,by have a:=d.2.1;rwa [<-j]at a⟩
 have i:(aQ D.J D.S).2.2≠0:=by rw[k];decide
 have f:R.lim=true:=qb λf=>by
  have a:=d.2.2;rw[h.calm (Zb.2 f)]at a;exact i a
 rw[if_pos i];exact Xa ⟨f,rfl,rfl,h.fail f (Xa (by omega)) g (j.bd.mono (eb _)) (j.lv.for.imp λK' l=>⟨(h.dl.tb.pre l).mono (eb _),R.W,gX (tG R o),h.fits l⟩)⟩
theorem Lr.RD (h:Lr R D K b H n)(hn:n<=10000000)(h1:o.a1=4)(z:o.a2∈R.W.due.map (·.k)):
  ((nf D o.a2).2=0/\(∃K' b' H',Lr {R with W:={R.W with due:=wo o.a2 R.W.due},gone:=R.gone++[o.a2]} (nf D o.a2).1 K' b' H' (n+1))/\Dm.used (nf D o.a2).1.S.ah<=Dm.used D.S.ah+15)\/
  (R.lim=true/\(nf D o.a2).2=7/\Lr R (nf D o.a2).1 K b H n)\/
  (R.lim=true/\(nf D o.a2).2=6/\(nf D o.a2).1.cD=true/\Dr (tG R o) (nf D o.a2).1.S (n+1)):=by
 have z:o.a2∈D.due.map (·.k):=h.due▸z;have v:=h.dl.dk.ok.RD (by omega) z;have p:=h.dl.bn;have q:=wV h.gd p.last.2 (by have:=p.next;omega) o.a2;have x:=h.dl.dk.dW;obtain⟨U,V,B,y,T,G,w⟩:=h.dl.RN (by omega) z;unfold nf;rw[if_neg (λe=>e z)];have u:(aO D.J D.S o.a2).2.2≠0->R.lim=true:=λd=>qb λj=>by
  have a:=v.2.2;rw[h.calm (Zb.2 j)]at a;exact d a
 rcases w with ⟨f,A,K',b',H',k3,k4,k5,k6⟩|⟨f,A⟩|⟨f,A⟩
 .rw[if_neg (λe=>e f)];refine Wa ⟨rfl,⟨K',b',H',⟨k3,q,h.c,h.now,h.o,by show wo o.a2 R.W.due=_;rw[h.due];rfl,h.hs.trans k5.symm,h.sr,h.tp.trans k6.symm,h.sp,h.tM,λj=>by have a:=v.1;rw[h.calm j]at a;exact⟨a.calm.left,a.calm.room⟩,?_⟩⟩,by have a:=v.2.1;rwa [<-A]at a⟩;have a:=(h.eZ.mono (eb n)).sub (due':=wo o.a2 R.W.due) λm M=>(te.1 M).1
  refine {a with KT:=λg r=>?_,GG:=by rw[zd,List.length_singleton];exact Vc h.eZ.GG};rcases Xc.1 r with r|r
  .exact a.KT g r
  rw[Va.1 r];refine⟨?_,λm M e=>by have:=(te.1 M).2;simp[e]at this⟩;have:=(x.sn V (by rw[y];simp)).2;grind [tp]
 .have d:(aO D.J D.S o.a2).2.2≠0:=by rcases f with f|f<;>rw[f]<;>decide
  have j:=u d;have a:Lr R (iw D (aO D.J D.S o.a2)) K b H n:=⟨A,q,h.c,h.now,h.o,h.due,h.hs,h.sr,h.tp,h.sp,h.tM,λe=>absurd (j.symm.trans e) (by decide),h.eZ⟩;rw[if_pos d];rcases f with f|f
  .grind [NL]
  rw[f,FG];exact Xa (Xa ⟨j,rfl,rfl,h.fail j (Xa (by omega)) q (a.dl.bd.mono (eb _)) (a.dl.lv.for.imp λK' i=>⟨(a.dl.tb.pre i).mono (eb _),R.W,gX (tG R o),a.fits i⟩)⟩)
 have d:(aO D.J D.S o.a2).2.2≠0:=by rw[f];decide
 have j:=u d;rw[if_pos d,f,FG];have E:Bd (bm (aO D.J D.S o.a2).2.1) (n+1):=by
  have F:0<=D.J.al:=by
   have h6:=x.sn V (by rw[y];simp);have h7:H.g=D.J.al:=h.dl.lv.kd.g;omega
  have P:V.2.2≠[]:=by
   have:=ym (l:=aG K) (h:=Jr.hs0) (λs y=>by cases y);rw[h.dl.lv.kd.is]at this;grind
  have r:=zU h.dl.lv (by have:=p.next;omega) ⟨F,by have:=p.fZ;have:=p.num;omega⟩ y P;rw[T]at r;exact r.bd (show Bd D.S n from⟨h.dl.bd.ah,h.dl.bd.used,h.dl.bd.cI⟩) (by have:=ru (J:=D.J) p.fZ.1 (by have:=p.fZ;have:=p.num;omega);omega) (by have:=p.next;omega)
 refine Xa (Xa ⟨j,rfl,rfl,h.fail j (Xa (by omega)) q E (A.imp λK' i=>?_)⟩);rcases i with i|i
 .exact⟨(h.dl.tb.pre i).mono (eb _),R.W,gX (tG R o),h.fits i⟩
 have t:=h.dl.tb;have t2:Tb {H with ae:=U++B} (n+1):=⟨by have:=t.dues;grind,Ub t.len,Ub t.lines,t.short,t.top,λs a0=>t.dg s (by grind)⟩;refine⟨t2.pre i,{R.W with due:=wo o.a2 R.W.due},by grind [dV,tG],?_⟩;obtain⟨c1,c2,k,c3,c4,X,c6⟩:=i;exact⟨by rw[c1,h.c,<-G,<-h.due];rfl,⟨k,by rw[c3];exact congrArg _ h.hs.symm,by grind,by show k<=R.W.hs.length;rw[h.hs];exact X⟩,λe=>(c6 e).trans ((h.dl.dk.num λe'=>e (by rw[c3,e',List.take_nil])).trans h.o.symm),c2.trans h.tp.symm⟩
variable {a d:Int}
theorem Lr.lG (h:Lr R D K b H n)  (f:a<=9223372036854775807)(g:d<=9223372036854775807):Lr {R with lim:=decide (0<=a\/0<=d)} {D with S:=fH D.S a d} K b H n:=
 ⟨⟨h.dl.dk,h.dl.lv⟩,(jJ (dC h.gd) a d f g).aJ,h.c,h.now,h.o,h.due,h.hs,h.sr,h.tp,h.sp,h.tM,λe=>by
  have e:=of_decide_eq_false e;exact⟨if_pos (by omega),if_pos (by omega)⟩,h.eZ⟩
theorem Dr.lG (h:Dr R S n)  (b:a<=9223372036854775807)(c:d<=9223372036854775807):Dr {R with lim:=decide (0<=a\/0<=d)} (fH S a d) n:=
 {h with
  gd:=(jJ (dC h.gd) a d b c).aJ
  lim:=λe=>by
   have e:=of_decide_eq_false e;exact⟨if_pos (by omega),if_pos (by omega)⟩}
theorem Dr.start (h:Dr R S n)(m:n<=7000000):∃i H,RC S i H/\Tb H n/\
  (((dG (bF H) H.es H.ez (gZ S) S).2=0/\∃K,DL (Dg R.c (dG (bF H) H.es H.ez (gZ S) S).1 H) K [] H H.ar.length n/\∃V∈dV R,Fits R.c V H)\/
  ((dG (bF H) H.es H.ez (gZ S) S).2≠0/\R.lim=true/\Dr R (dG (bF H) H.es H.ez (gZ S) S).1 n)):=by
 obtain⟨i,H,k,⟨j,l⟩,b⟩:=h.all.aN h.gd h.bd m;refine⟨i,H,k,j,?_⟩;have a:=(show Bd S n from⟨h.bd.ah,h.bd.used,h.bd.cI⟩).dG h.gd (bF H) H.es H.ez (gZ S);have d:Bd (bm (dG (bF H) H.es H.ez (gZ S) S).1) n:=⟨a.ah,a.used,a.cI⟩;rcases b with ⟨b,K,f⟩|⟨b,f⟩
 .exact Wa ⟨b,K,zT f h.ll (KL f d j),l⟩
 have g:R.lim=true:=qb λg=>(Qt.dG (h.lim (Zb.2 g)) ..).2 b
 exact Xa ⟨by rw[b];decide,g,{h with all:=f,gd:=uB h.gd ..,bd:=d,lim:=λe=>absurd (g.symm.trans e) (by decide)}⟩
theorem Dr.found (h:Dr R S n){S':Dk}(i:Dm.Good S')(l:R.lim=false->Qt S')(p:DL (Dg R.c S' H) K [] H H.ar.length n)(g:V∈dV R)(b:Fits R.c V H)(a:V'∈dV R)(d:V'.due=bI R.c H.ae)(q:H.ar.length<=V'.hs.length):
  Lr {R with W:=⟨V'.due,(eK H).onum,V'.hs.take H.ar.length,H.ar.length,V'.tp⟩,sp:=false,now:=0} (Dg R.c S' H) K [] H n:=by
 obtain⟨k,m,_,e⟩:=b.k;have j:H.ar.length=k:=by grind
 obtain⟨f,o⟩:=zi (k:=k) g a (d.trans b.due) e (by omega);refine⟨by grind,i,rfl,rfl,rfl,d,?_,Int.natCast_nonneg _,f.trans b.tp.symm,rfl,rfl,l,h.eZ V' a⟩;grind
end Lw
namespace Lw
open Go.RowKit Go.Maps Go.Shelf Mem Foot Bytes Im Wm Hi Plainw Cq Dm Dh Jr Wi Sk Hn Kr Dd
variable {w w' : N} {r n ba cap : Nat} {bs : List Nat} {R R' : Rn} {p p' : Rp} {F F' : List Nat} {S : Dk} {o : Ac}
set_option maxRecDepth 10000 in
theorem QR (r x ba cap:Nat)(bs:List Nat)(S:Dk)(w:N)(hr:r<w.heap.size)(hc:w.cell? ⟨r,7,Y⟩=Z (ca (Z ⟨x,0,Y⟩)))(D:PD w x S ba cap bs)(hG:Dm.Good S)(T:S.left≠0)(hs:S.ah.length<=1000000000)(hu:Dm.used S.ah<=1000000000000):
  Vb Ya 37 #[ca (Z ⟨r,0,Y⟩)] w λe w'=>e=Ua (I O (Dm.used S.ah:Int))/\Below w.heap.size w w':=by
 have hlen:=D.len;have hd:fM S=(S.ah.map (·.num),0):=by unfold fM;rw[if_neg T]
 have f:=list x ba cap bs S w D (by omega);rw[hd]at f;have X:=aa D;have HC:=aa (λ(w':N) (hb:Below w.heap.size w w')=>(hb.cell (p:=⟨r,7,Y⟩) hr).trans hc);have F:=aa (λ(s:bM) (h:s∈S.ah)=>Cz T hG h);have l:(S.ah.map (·.num)).length=S.ah.length:=Yb ..;rw[l]at f;have o:=aa (show ∀(k:Nat) (s:bM),S.ah[k]? = Z s->(S.ah.map (·.num))[k]? = Z s.num from λk s h=>by rw[List.getElem?_map,h];rfl);clear D hG T hd;go_in;go_wp2_with fail;refine f.mono ?_;clear f hc;rintro e W ⟨v,rfl,U,y⟩;have d:=aa y;have HV:=aa (show W.ownsRow 0 3 1 v (S.ah.map (·.num)).length ((S.ah.map (·.num)).map (Value.int O)) from by rw[l];exact Apn.weaken U);obtain⟨va,vc,m⟩:=ak U;have t:=aa m;clear U y l;rw[m];clear m;go_wp2_with (go_at_call 29;refine(Check.num _ _).mono ?_;rintro e w' ⟨rfl,rfl⟩)
 go_loopw [5,6] (λs5 V wr=>∃k:Nat,s5=I O (Dm.used (S.ah.take k):Int)/\V=I O (k:Int)/\k<=S.ah.length/\Hid (Below W.heap.size W wr)) (λ_ V _=>S.ah.length - (intOf V).toNat)
 case atStart=>exact⟨0,rfl,rfl,by omega,Vd _ _⟩
 case round=>
  obtain⟨k,rfl,rfl,hk,n⟩:=hrel;by_cases P:k<S.ah.length
  .have R:(k:Int)<(S.ah.length:Int):=by omega
   obtain⟨s,c⟩:∃s,S.ah[k]? = Z s:=⟨_,List.getElem?_eq_getElem P⟩;have i:=aa (d.trans (n.mono d.size));obtain⟨g,gc,z,J,K,_⟩:=eO HV (o.out k s c);rw[t.out]at z;injection z with a A B;have HG:=aa a;rw[a];have C7:∀q:Bw wr,q.val.cell? ⟨r,7,Y⟩=Z (ca (Z ⟨x,0,Y⟩)):=λq=>HC.out q.val (i.trans (q.is.mono i.size))
   have CG:∀q:Bw wr,q.val.cell? ⟨g,k,Y⟩=Z (I O s.num):=λq=>by
    obtain⟨g',a1,he,_,_,H⟩:=eO (aE (aE HV n) q.is) (o.out k s c);rw[t.out]at he;injection he with b _ _;rw[a]at b;injection b with b;injection b with b;rw[b];exact H
   have j:=aa (λq:Bw wr=>aT ((read x ba cap bs S s.num q.val ((X.keep i).keep q.is) (by have:=X.len;omega)).mono λe w' ⟨h1,h2⟩=>⟨h1,by rw[<-h2];exact Vd _ _⟩));rw[F.out s (List.mem_of_getElem? c)]at j;have hst:s.text.size<=1000000000000:=Za (Dm.gn (List.mem_of_getElem? c)) hu;have a2:=vR S.ah k;have G:=aa (jW c);have a0:S.ah.length<=vc:=by
    have:(S.ah.map (·.num)).length=S.ah.length:=Yb ..;omega
   clear a A B c J K;go_wp2_with fail;refine aU ?_;repeat go_big_quiet_step ((go_at_call 55;exact j.out _))
   refine ed ?_;rintro _ ⟨q,rfl⟩;have E:=aa (n.trans (q.is.mono n.size));clear C7 CG j;generalize q.val=w2 at *;generalize Dm.used (S.ah.take k)=u at *;have a3:ef.wrap ((u:Int)+(s.text.size:Int))=(u:Int)+(s.text.size:Int):=Ve _ (by omega);go_wp2_with fail;go_roundw
   case rel=>exact⟨k+1,by rw[G.out];push_cast;rfl,by go_num,by omega,E⟩
   case measure=>simp[intOf];omega
  have R:¬(k:Int)<(S.ah.length:Int):=by omega
  have M:k=S.ah.length:=by omega
  subst M;rw[List.take_length];go_wp2_with fail;go_ret;exact⟨rfl,d.trans (n.mono d.size)⟩
def pr (S:Dk):Int:=if S.left=0 then -1 else (Dm.used S.ah:Int)
theorem uq (h:RA w r R p F)(d:PD w p.bx S ba cap bs)(i:Dm.Good S)(f:Bd (bm S) n)(m:n<=10000000):
  Vb Ya 37 #[ca (Z ⟨r,0,Y⟩)] w λe w'=>e=Ua (I O (pr S))/\Below w.heap.size w w':=by
 have g:w.cell? ⟨r,7,Y⟩=Z (ca (Z ⟨p.bx,0,Y⟩)):=h.head.Ri 7;have k:S.ah.length<=n:=f.ah;have l:Dm.used S.ah<=500*n:=f.used;unfold pr;by_cases c:S.left=0
 .rw[if_pos c];have hlen:=d.len;have a:=list p.bx ba cap bs S w d (by omega);rw[show fM S=([],8) by unfold fM;rw[if_pos c]]at a;clear h d i f c;go_in;go_wp2_with fail;refine a.mono ?_;clear a g;rintro e s ⟨v,rfl,j,b⟩;obtain⟨o,q,rfl⟩:=ak j;change Hid _ at b;clear j;go_wp2_with (go_at_call 29;refine(Check.num _ _).mono ?_;rintro e w' ⟨rfl,rfl⟩)
  go_ret;exact⟨rfl,b⟩
 rw[if_neg c];exact QR r p.bx ba cap bs S w h.head.lt g d i c (by omega) (by omega)
theorem Ac.new (o:Ac)(w:N):af (w.alloc (.cells o.cs 37)) w.heap.size 37 o.cs:=af.new w _ _
set_option maxRecDepth 10000 in
theorem qo (h:RA w r R p F)(A:R.lim=true):
  Vb Ya 39 #[ca (Z ⟨r,0,Y⟩),I O 6,.agg o.cs] w λe w'=>e=Ua (.bool true)/\RA w' r {R with sp:=true,d:=o} p F/\an [r] w w':=by
 have l:=ai (w:=w) (.cells o.cs 37);have n:=h.keep l;have z:=n.head;have m:(w.alloc (.cells o.cs 37)).cell? ⟨r,16,Y⟩=Z (.bool R.lim):=z.Ri 16;rw[A]at m;have u:=aa (Ac.new o w);have t:=aa n;change Hid _ at l;have v:=aa h.head.lt;clear h n z A;unfold Ac.cs at *;go_in;go_upto_region 1 with fail;generalize w.alloc (.cells #[I O o.a0,I O o.a1,I O o.a2,I O o.a3,L o.s] 37)=D at *;generalize q:w.heap.size=ab at u v ⊢;clear q;have hz:=v.out;have B:=u.out;have b:=t.head;unfold fe at b;have y:=aa (λx:N=>show an [r] x ((((((x.setCell ⟨r,17,Y⟩ (.bool true)).setCell ⟨r,18,Y⟩ (I O o.a0)).setCell ⟨r,19,Y⟩ (I O o.a1)).setCell ⟨r,20,Y⟩ (I O o.a2)).setCell ⟨r,21,Y⟩ (I O o.a3)).setCell ⟨r,22,Y⟩ (L o.s)) from((((((an.refl _ _).set (Va.2 rfl) _ _).set (Va.2 rfl) _ _).set (Va.2 rfl) _ _).set (Va.2 rfl) _ _).set (Va.2 rfl) _ _).set (Va.2 rfl) _ _);have S:=b.frozen 17;have G:=b.Ri 17;have f:=b.set 17 (.bool true);have T:=f.frozen 18;have H:=f.Ri 18;have g:=f.set 18 (I O o.a0);have U:=g.frozen 19;have J:=g.Ri 19;have i:=g.set 19 (I O o.a1);have V:=i.frozen 20;have K:=i.Ri 20;have j:=i.set 20 (I O o.a2);have W:=j.frozen 21;have M:=j.Ri 21;have k:=j.set 21 (I O o.a3);have X:=k.frozen 22;have P:=k.Ri 22;have E:=aa (k.set 22 (L o.s));have c:an [r] D (D.setCell ⟨r,17,Y⟩ (.bool true)):=(an.refl _ _).set (Va.2 rfl) _ _;have a:=Foot.af.off B c (by simp;omega);have a0:=a.Ri 0;have a1:=a.Ri 1;have a2:=a.Ri 2;have a3:=a.Ri 3;have a4:=a.Ri 4;clear b f g i j k B a c hz;go_wp2_with (first|(go_at_call 29;refine(Check.num _ _).mono ?_;rintro e w' ⟨rfl,rfl⟩)|(go_at_call 11;refine(dX r _).mono ?_;rintro e w' ⟨rfl,rfl⟩))
 go_ret;exact⟨rfl,t.set (y.out _) E ⟨rfl,rfl⟩ rfl rfl ⟨rfl,rfl,rfl⟩,(an.ag l).trans (y.out _)⟩
set_option maxRecDepth 10000 in
theorem uV (h:RA w r R p F)(c:R.lim=true)(d:o.a1≠3):
  Vb Ya 39 #[ca (Z ⟨r,0,Y⟩),I O 7,.agg o.cs] w λe w'=>e=Ua (.bool true)/\Below w.heap.size w w':=by
 have a:=ai (w:=w) (.cells o.cs 37);have b:(w.alloc (.cells o.cs 37)).cell? ⟨r,16,Y⟩=Z (.bool R.lim):=(h.keep a).head.Ri 16;rw[c]at b;have g:(w.alloc (.cells o.cs 37)).cell? ⟨w.heap.size,1,Y⟩=Z (I O o.a1):=(Ac.new o w).Ri 1;change Hid _ at a;have f:(o.a1 != 3)=true:=by simpa using d
 clear h c;unfold Ac.cs at *;go_in;go_wp2_with (first|(go_at_call 29;refine(Check.num _ _).mono ?_;rintro e w' ⟨rfl,rfl⟩)|(go_at_call 11;refine(dX r _).mono ?_;rintro e w' ⟨rfl,rfl⟩))
 go_ret;exact⟨rfl,a⟩
set_option maxRecDepth 10000 in
theorem xf (h:RA w r R p F)(D:PD w p.bx S ba cap bs)(B:Dm.Good S)(i:Bd (bm S) n)(hn:n<=10000000)(f:Int)(c:Nat)(V:-1<=f)(X:f<=10000000000)(hm:c<=1000000)(hu:pr S<0\/f<0\/pr S<=f+c)(o:R.W.due=[]->R.W.hs=[]->pr S<=64):
  Vb Ya 36 #[ca (Z ⟨r,0,Y⟩),I O f,I O (c:Int)] w λe w'=>e=Ua (.tuple #[])/\Below w.heap.size w w':=by
 have q:=uq h D B i hn;have hs0:-1<=pr S/\pr S<=10000000000:=by
  have A:Dm.used S.ah<=500*n:=i.used;unfold pr;split<;>omega
 obtain⟨J,K,l⟩:=ak h.rows.wd.due;obtain⟨U,x,m⟩:=ak h.rows.wd.held;have G:=aa (λ(w':N) (v:Below w.heap.size w w')=>show w'.cell? ⟨r,9,Y⟩=Z (.slice J R.W.due.length K)/\w'.cell? ⟨r,11,Y⟩=Z (.slice U R.W.hs.length x) from by
  have E:=(h.keep v).head;exact⟨l▸E.Ri 9,m▸E.Ri 11⟩)
 have s:=aa (show R.W.due.length=0->R.W.hs.length=0->pr S<=64 from λa b=>o (Xd.1 a) (Xd.1 b));have a0:ef.wrap (f+(c:Int))=f+(c:Int):=Ve _ (by omega);generalize pr S=u at *;clear h D B i l m o;go_in;go_wp2_with fail;refine q.mono ?_;clear q;rintro e y ⟨rfl,d⟩;obtain⟨H,t⟩:=G.out y d;change Hid _ at d;generalize R.W.due.length=M at *;generalize R.W.hs.length=hl at *;have j:u<0\/(¬u<0/\0<=u/\f<0)\/(¬u<0/\0<=u/\¬f<0/\u<=f+(c:Int)):=by omega
 clear hu;rcases j with z|⟨z,A,P⟩|⟨z,A,P,h4⟩
 .have h0:¬0<=u:=by omega
  go_wp2_with fail;refine(dX r y).mono ?_;rintro e wm ⟨rfl,rfl⟩;go_wp2_with fail;go_end0;exact⟨rfl,d⟩
 all_goals
  go_wp2_with fail;refine(dX r y).mono ?_;rintro e wm ⟨rfl,rfl⟩;by_cases g:M=0
  .rw[g]at H;by_cases k:hl=0
   .rw[k]at t;have T:u<=64:=s.out g k;clear g k;go_wp2_with fail;refine(dX r _).mono ?_;rintro e w2 ⟨rfl,rfl⟩;go_wp2_with fail;go_end0;exact⟨rfl,d⟩
   clear g;go_wp2_with fail;go_end0;exact⟨rfl,d⟩
  go_wp2_with fail;go_end0;exact⟨rfl,d⟩
end Lw
end Go.Proofs.YtpndiccohnafbaaGreatDoor
