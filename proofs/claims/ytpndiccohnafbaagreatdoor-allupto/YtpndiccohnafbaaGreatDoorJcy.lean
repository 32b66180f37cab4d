/- The journal mends its last segment. -/
import Derived.Test.YtpndiccohnafbaaGreatDoorHiy
import Derived.Test.YtpndiccohnafbaaGreatDoorSortly
import Derived.Lib.MinMax
import Derived.Orders
import Derived.Deep.RegionLaw
import Derived.WalkSpells
set_option maxHeartbeats 9000000
open Option renaming some->Z,none->Y
open Go.Value renaming pointer->ca,int->I,string->L,slice->Q,ownBlock->ed
open Go.Ending renaming returned->Ua
open Go.IntKind renaming i64->O,i64->Ue
open List renaming mem_cons_of_mem->Va,mem_singleton->Wa,mem_cons_self->Xa,mem_cons->Za,mem_append_left->eb,mem_append_right->Ub,mem_append->Wb,take_succ_cons->Vc,drop_succ_cons->Wc,dropLast_concat_getLast->Yc,mem_flatMap->Zc,take_zero->vd,drop_zero->zd,getElem?_eq_some_iff->Vd,getElem?_eq_getElem->Xd,length_eq_zero_iff->te
open Go renaming Value->C,World->N,wpAny_ready->Yb,wpQuiet_nil->Xc,wpAny_take->Ud
open Nat renaming le_trans->Ya,le_add_right->Zd
open Or renaming inl->qb,inr->ad
open Go.AllReady renaming cons->Vb,nil->Xb
open Go.Proofs.Tryz renaming prog->Zb
open Go.RowKit.Below renaming refl->Uc
namespace Go.Proofs.YtpndiccohnafbaaGreatDoor
namespace Jr
open Go.RowKit Mem Foot Bytes Im Wm Hi Plainw Cq Dm Dh
variable {a b c d:Nat}{e f g:N}{h j:List Nat}{l:Dk}{m o:Jn}{p q:TypeId}{r:C}{s u:Array C}{v:List C}
theorem mm (h:a∈r.ownBlock.toList):r.ownBlock=Z a:=by simpa using h
theorem au (h:e.ownsRow a p b r c v){k:Nat}(m:k∈r.ownBlock.toList):∃j,af e k p j:=by
 have d:=mm m;rcases h.2 with ⟨rfl,_⟩|⟨g,i,f,rfl,_,l,_⟩
 .simp[ed]at d
 simp[ed]at d;subst d;exact⟨f,l⟩
theorem aq {F:List Nat}       (h:e.ownsRow b p c r a v)(q:an F e f)(o:∀k∈r.ownBlock.toList,k∉F):f.ownsRow b p c r a v:=by
 refine⟨h.1,?_⟩;rcases h.2 with l|⟨g,d,i,rfl,m,j,n⟩
 .exact qb l
 refine ad ⟨g,d,i,rfl,m,?_,n⟩;rw[q.block g (Array.getElem?_eq_some_iff.1 j).1 (o g (by simp[ed]))];exact j
theorem aE (h:e.ownsRow a p b r c v)(d:Below e.heap.size e f):f.ownsRow a p b r c v:=
 aq (F:=[]) h (an.ag d) (λ_ _=>by simp)
theorem PD.not (j:PD e a l b c h)    (B:af e d p s)(o:p≠62)(u:p≠102)(v:p≠104):d∉pf a b h:=by
 have k:∀{m:Nat} {n:TypeId} {g:Array C},af e m n g->p≠n->d≠m:=λ{m n g} A y f=>by grind [af]
 intro t;cases h with
 | nil=>
  rcases Za.1 t with f|f
  .exact k j.head o f
  cases f
 | cons z r=>
  rcases Za.1 t with f|f
  .exact k j.head o f
  rcases Za.1 f with f|f
  .obtain⟨g,w,_⟩:=j.arr (by simp);exact k w u f
  obtain⟨i,q⟩:=List.getElem?_of_mem f;have x:=(Vd.1 q).1;have hlen:=j.len;exact k (j.seg i d _ q (Xd (by omega))) v rfl
theorem JA.off {w f:N}{d a ba b:Nat}{bs:List Nat}   {mv e:C}(h:JA w d a m mv e)(g:PD w a l ba b bs)(c:an (pf a ba bs) w f):JA f d a m mv e:=by
 refine⟨Foot.af.off h.head c (PD.not g h.head (by decide) (by decide) (by decide)),aq h.aN c λk i=>?_⟩;obtain⟨j,n⟩:=au h.aN i;grind [PD.not]
theorem JA.keep {mv d:C}(h:JA e a b m mv d)(c:Below e.heap.size e f):JA f a b m mv d:=
 ⟨Mem.af.below h.head c h.head.lt,aE h.aN c⟩
def aC (J:Jn):Int:=J.aN.getLast?.getD 0
theorem EB (S:Dk)(n:Int):(dt S n).1.size<=Dm.used S.ah:=by
 unfold dt;split
 .exact Nat.zero_le _
 split
 .exact Nat.zero_le _
 rename_i i _;cases a:S.ah[i]? with
 | none=>exact Nat.zero_le _
 | some s=>exact gn (List.mem_of_getElem? a)
def mD (J:Jn)(S:Dk):Nat:=min ((dt S (aC J)).1.size - J.synced) J.bU.size
def cQ (J:Jn)(S:Dk):Dk×Int:=
 if (dt S (aC J)).2≠0 then (S,(dt S (aC J)).2)
 else if mD J S=J.bU.size then (S,0)
 else aB S (aC J) (J.bU.extract (mD J S) J.bU.size)
structure JR (w w':N)(jb bx:Nat)(J:Jn)(mv ov:C)(S:Dk)(ba:Nat)(bs:List Nat):Prop where
 ja:JA w' jb bx J mv ov
 pd:∃ba' cap' bs',PD w' bx S ba' cap' bs'/\∀b∈pf bx ba' bs',b∈pf bx ba bs\/w.heap.size<=b
 off:an (pf bx ba bs) w w'
set_option maxRecDepth 10000 in
theorem rQ (w:N)(i d:Nat)(J:Jn)(mv ov:C)(S:Dk)(E r:Nat)(t:List Nat)(h:JA w i d J mv ov)(hP:PD w d S E r t)(hT:gp w)(hG:Dm.Good S)(hl:t.length<=1000000000)(hu:Dm.used S.ah+J.bU.size<=1000000000000)(R:J.aN≠[])(c8:J.aN.length<=1000000000)(d5:J.synced<=1000000000000)(V:-9223372036854775808<=aC J)(W:aC J<=9223372036854775807):
  Calls Zb 97 #[ca (Z ⟨i,0,Y⟩)] w λe j=>∃v,e=Ua v/\fj j v (cQ J S).2/\JR w j i d J mv ov (cQ J S).1 E t:=by
 obtain⟨l,x,P⟩:∃l x,J.aN=l++[x]:=⟨J.aN.dropLast,J.aN.getLast R,(Yc R).symm⟩;have p:aC J=x:=by unfold aC;rw[P];simp
 have D:=aa (λ(u:N) (F:JA u i d J mv ov)=>last u i d J mv ov F l x P c8);have HA:=aa h;have HP:=aa hP;have HT:=aa hT;have HM:=aa (show cQ J S=if (dt S x).2≠0 then (S,(dt S x).2) else if mD J S=J.bU.size then (S,0) else aB S x (J.bU.extract (mD J S) J.bU.size) by unfold cQ;rw[p]);rw[p]at V W;change Hid _ at p;have a0:=aa (λq:Bw w=>aT ((D.out q.val (HA.keep q.is)).mono λe j ⟨F,n,h2⟩=>⟨F,by rw[h2];exact ax (Uc _ _)⟩));have a3:=aa (λq:Bw w=>aT ((read d E r t S x q.val (HP.keep q.is) hl).mono λe j ⟨F,h2⟩=>⟨F,by rw[<-h2];exact Uc _ _⟩));have C0:∀q:Bw w,q.val.cell? ⟨i,0,Y⟩=Z (ca (Z ⟨d,0,Y⟩)):=λq=>(HA.keep q.is).head.Ri 0
 clear h hP hT P R;go_in;go_wp2_with fail;refine aU ?_;repeat go_big_quiet_step ((first|(go_at_call 98;exact a0.out _)|(go_at_call 55;exact a3.out _)))
 refine Xc ?_;rintro _ ⟨q,rfl⟩;have f:=aa q.is;clear C0 a0 a3;generalize q.val=u at *;have A:=aa (HA.keep f);have d0:=aa (HP.keep f);obtain⟨T,er,G⟩:∃T er,dt S x=(T,er):=⟨_,_,rfl⟩;have d2:T.size<=1000000000000:=by grind [EB]
 have b9:=aa G;rw[G]at HM ⊢;clear G;have z:∀j v,Below w.heap.size w j->fj j v (cQ J S).2->(cQ J S).1=S->∃v',Ending.returned v=Ua v'/\fj j v' (cQ J S).2/\JR w j i d J mv ov (cQ J S).1 E t:=λj v H he hs=>
  ⟨v,rfl,he,HA.keep H,⟨E,r,t,by rw[hs];exact HP.keep H,λb H=>qb H⟩,an.ag H⟩
 change Hid _ at z;by_cases b2:er=0
 .subst b2;have C4:∀q:Bw u,q.val.cell? ⟨i,4,Y⟩=Z (I O (J.synced:Int)):=λq=>(A.keep q.is).head.Ri 4
  have C5:∀q:Bw u,q.val.cell? ⟨i,5,Y⟩=Z (L J.bU):=λq=>(A.keep q.is).head.Ri 5
  have d6:J.bU.size<=1000000000000:=by omega
  have c9:Ue.wrap ((T.size:Int) - (J.synced:Int))=(T.size:Int) - (J.synced:Int):=IntWalk.i64_in _ (by omega);go_wp2_with fail;refine aU ?_;repeat go_big_quiet_step (fail)
  refine Xc ?_;rintro _ ⟨q,rfl⟩;have a:=aa (f.trans (q.is.mono f.size));clear C4 C5 c9;generalize q.val=X at *;have m:=aa (HA.keep a);have d1:=aa (HP.keep a);obtain⟨k,HK⟩:∃k,mD J S=k:=⟨_,rfl⟩;have M:min (max ((T.size:Int) - (J.synced:Int)) 0) (J.bU.size:Int)=(k:Int):=by
   rw[<-HK,mD,p.out,b9.out];grind
  have d4:k<=J.bU.size:=by omega
  rw[M];clear M;change Hid _ at HK;obtain⟨c0,c1,c2,c3,c4,c5,c6,c7⟩:=iK m.head;by_cases K:k=J.bU.size
  .have s:=aa (show cQ J S=(S,0) by rw[HM.out,if_neg (by simp),if_pos (by rw[HK.out,K])]);subst K;go_wp2_with fail;go_ret;exact z.out _ _ a (by rw[s.out];exact qb ⟨rfl,rfl⟩) (by rw[s.out])
  have s:=aa (show cQ J S=aB S x (J.bU.extract k J.bU.size) by rw[HM.out,if_neg (by simp),if_neg (by rw[HK.out];exact K),HK.out]);have M:¬(k:Int)=(J.bU.size:Int):=by omega
  go_wp2_with fail;have a1:=aa (λq:Bw X=>aT ((D.out q.val (m.keep q.is)).mono λe j ⟨F,n,h2⟩=>⟨F,by rw[h2];exact ax (Uc _ _)⟩));have B:=aa (λq:Bw X=>aT (about ⟨#[109,101,110,100,105,110,103]⟩ (by decide) x V W q.val ((HT.below a).below q.is)));generalize ie ⟨#[109,101,110,100,105,110,103]⟩ x=y at B;have C0:∀q:Bw X,q.val.cell? ⟨i,0,Y⟩=Z (ca (Z ⟨d,0,Y⟩)):=λq=>(m.keep q.is).head.Ri 0
  have C5:∀q:Bw X,q.val.cell? ⟨i,5,Y⟩=Z (L J.bU):=λq=>(m.keep q.is).head.Ri 5
  clear c0 c1 c2 c3 c4 c5 c6 c7;refine bg 15 ?_;simp only[Vc,vd,Wc,zd];repeat go_big_quiet_step ((first|(go_at_call 98;exact a1.out _)|(go_at_call 100;exact B.out _)))
  refine Xc ?_;intro q;have c:=aa (a.trans (q.is.mono a.size));clear C0 C5 a1 B;generalize q.val=w3 at *;have a2:=aa (HP.keep c);have d3:(J.bU.extract k J.bU.size).size<=J.bU.size:=by simp[ByteArray.size_extract]
  have a9:=append d E r t S x (J.bU.extract k J.bU.size) w3 a2 hG hl (by omega);go_wp2_with fail;refine a9.mono ?_;clear a9;rintro e w4 ⟨rfl,U,a4,a6,a5,a7,b3⟩;have b7:=aa ((an.ag c).trans U);have b4:=aa ((HA.keep c).off a2 U);have b8:=aa a7;have b6:=aa (show ∀b∈pf d a4 a5,b∈pf d E t\/w.heap.size<=b from λb H=>(b3 b H).imp id λh=>Ya c.size h);have g:=iM y (aB S x (J.bU.extract k J.bU.size)).2 w4;clear U a7 b3;go_wp2_with fail;refine g.mono ?_;clear g;rintro e w5 ⟨⟨v,rfl,hv⟩,o⟩;have HV:=aa hv;change Hid _ at o;clear hv;go_wp2_with fail;go_ret;refine⟨_,rfl,by rw[s.out];exact HV,b4.keep o,⟨a4,a6,a5,by rw[s.out];exact b8.keep o,b6⟩,b7.trans (an.ag o)⟩
 have s:=aa (show cQ J S=(S,er) by rw[HM.out,if_pos b2]);go_wp2_with fail;refine(D.out u A).mono ?_;rintro e X ⟨rfl,n,rfl⟩;have a:Hid (Below w.heap.size w (u.drewN n)):=ax f;generalize u.drewN n=X at *;have a8:=about ⟨#[114,101,97,100,105,110,103]⟩ (by decide) x V W X (HT.below a);go_wp2_with fail;refine a8.mono ?_;clear a8;rintro e w3 ⟨rfl,b0⟩;generalize ie ⟨#[114,101,97,100,105,110,103]⟩ x=y;have c:=aa (a.trans (b0.mono a.size));have g:=iM y er w3;clear b0;go_wp2_with fail;refine g.mono ?_;clear g;rintro e w4 ⟨⟨v,rfl,hv⟩,b1⟩;have HV:=aa hv;have b5:=aa (c.trans (b1.mono c.size));clear hv b1;go_wp2_with fail;go_ret;exact z.out _ _ b5 (by rw[s.out];exact HV) (by rw[s.out])
theorem cm (d:PD e a l b c j)(q:an h e f)(o:∀k∈pf a b j,k∉h):PD f a l b c j:=by
 have p:a∈pf a b j:=by cases j<;>exact Xa ..
 refine⟨Foot.af.off d.head q (o a p),d.len,λt=>?_,λi m s g n=>?_,d.apart,d.zF⟩
 .obtain⟨v,g,n⟩:=d.arr t;refine⟨v,Foot.af.off g q (o b ?_),n⟩;cases j with
  | nil=>exact absurd rfl t
  | cons m r=>exact Va _ (Xa ..)
 refine Foot.af.off (d.seg i m s g n) q (o m ?_);have u:=List.mem_of_getElem? g;cases j with
 | nil=>cases u
 | cons w r=>exact Va _ (Va _ u)
def jf (d:Nat)(e:C)(c a:Nat)(b:List Nat):List Nat:=d ::(e.ownBlock.toList++pf c a b)
structure Jq (w w':N)(jb bx:Nat)(J:Jn)(mv:C)(S:Dk)(F:List Nat):Prop where
 ex:∃ov ba cap bs,JA w' jb bx J mv ov/\PD w' bx S ba cap bs/\∀b∈jf jb ov bx ba bs,b∈F\/w.heap.size<=b
 off:an F w w'
theorem JR.jq {mv o:C}    (i:JR e f a b m mv o l c h):Jq e f a b m mv l (jf a o b c h):=by
 obtain⟨j,g,n,q,r⟩:=i.pd;refine⟨⟨o,j,g,n,i.ja,q,λp s=>?_⟩,i.off.mono λk _ t=>Va _ (Ub _ t)⟩;rcases Za.1 s with d|d
 .exact qb (d▸Xa ..)
 rcases Wb.1 d with d|d
 .exact qb (Va _ (eb _ d))
 exact(r p d).imp (λi=>Va _ (Ub _ i)) id
theorem Jq.keep {mv:C}   (i:Jq e f a b m mv l h)(d:Below f.heap.size f g):Jq e g a b m mv l h:=by
 obtain⟨q,j,c,k,n,o,p⟩:=i.ex;exact⟨⟨q,j,c,k,n.keep d,o.keep d,p⟩,i.off.trans (an.ag d)⟩
theorem Jq.trans {mv u:C}     (d:an h e f)(A:∀n∈jf a u b c j,n∈h\/e.heap.size<=n)(i:Jq f g a b m mv l (jf a u b c j)):Jq e g a b m mv l h:=by
 obtain⟨s,p,o,q,v,w,x⟩:=i.ex;refine⟨⟨s,p,o,q,v,w,λn z=>?_⟩,?_⟩
 .rcases x n z with r|r
  .exact A n r
  exact ad (Ya d.size r)
 refine⟨i.off.os.trans d.os,i.off.tape.trans d.tape,i.off.output.trans d.output,Ya d.size i.off.size,λk t y=>?_⟩;rw[i.off.block k (Nat.lt_of_lt_of_le t d.size) λB=>?_]
 .exact d.block k t y
 grind
theorem JA.set {mv d:C}(h:JA e a b m mv d)(t:ByteArray):JA (e.setCell ⟨a,5,Y⟩ (L t)) a b {m with bU:=t} mv d:=by
 have g:an [a] e (e.setCell ⟨a,5,Y⟩ (L t)):=(an.refl _ _).set (Wa.2 rfl) _ _;refine⟨h.head.set 5 (L t),aq h.aN g λk f c=>?_⟩;rw[Wa]at c;subst c;obtain⟨cs,j⟩:=au h.aN f;have i:=h.head;grind [af]
theorem qu {jb:Nat}{ov:C}    (g:∀f∈pf a c j,f∈pf a b h\/d<=f):∀f∈jf jb ov a c j,f∈jf jb ov a b h\/d<=f:=λf i=>by
 rcases Za.1 i with e|e
 .exact qb (e▸Xa ..)
 rcases Wb.1 e with e|e
 .exact qb (Va _ (eb _ e))
 exact(g f e).imp (λg=>Va _ (Ub _ g)) id
theorem Oo {mv n:C}    (t:ByteArray)(g:JR e f a b m mv n l c h):Jq e (f.setCell ⟨a,5,Y⟩ (L t)) a b {m with bU:=t} mv l (jf a n b c h):=by
 obtain⟨i,d,j,o,q⟩:=g.pd;have u:an [a] f (f.setCell ⟨a,5,Y⟩ (L t)):=(an.refl _ _).set (Wa.2 rfl) _ _;have s:=PD.not o g.ja.head (by decide) (by decide) (by decide);exact⟨⟨n,i,d,j,g.ja.set t,cm o u λk r p=>s (Wa.1 p▸r),qu q⟩,(g.jq.off).set (Xa ..) _ _⟩
def cM (J:Jn)(S:Dk)(t:ByteArray):Jn×Dk×Int:=
 if (cQ J S).2≠0 then (J,(cQ J S).1,(cQ J S).2)
 else if (aB (cQ J S).1 (aC J) t).2≠0 then (J,(aB (cQ J S).1 (aC J) t).1,(aB (cQ J S).1 (aC J) t).2)
 else ({J with bU:=J.bU++t},(aB (cQ J S).1 (aC J) t).1,0)
theorem nS {J:Jn}   (h:Fit l a b)(e:aC J<=9223372036854775807):Fit (cQ J l).1 (a+1) (b+J.bU.size):=by
 have d:Fit l (a+1) (b+J.bU.size):=⟨h.aJ,Ya h.len (Nat.le_succ _),Ya h.use (Zd _ _)⟩;unfold cQ;split
 .exact d
 split
 .exact d
 have c:=gz h (aC J) (J.bU.extract (mD J l) J.bU.size) e;have f:(J.bU.extract (mD J l) J.bU.size).size<=J.bU.size:=by simp_all
 exact⟨c.aJ,c.len,Ya c.use (by omega)⟩
set_option maxRecDepth 10000 in
theorem add (w0 w:N)(hT:gp w0)(h0:Below w0.heap.size w0 w)(i g:Nat)(J:Jn)(mv r:C)(S:Dk)(ba a3:Nat)(bs:List Nat)(t:ByteArray)(k u:Nat)(h:JA w i g J mv r)(hP:PD w g S ba a3 bs)(p:∀b∈jf i r g ba bs,w0.heap.size<=b)(hF:Fit S k u)(hk:k<=100000000)(hu:u+J.bU.size+t.size<=1000000000000)(c:J.aN≠[])(b6:J.aN.length<=1000000000)(d4:J.synced<=1000000000000)(M:-9223372036854775808<=aC J)(o:aC J<=9223372036854775807):
  Calls Zb 94 #[ca (Z ⟨i,0,Y⟩),L t] w λe w'=>∃v,e=Ua v/\fj w' v (cM J S t).2.2/\Jq w w' i g (cM J S t).1 mv (cM J S t).2.1 (jf i r g ba bs):=by
 obtain⟨l,x,F⟩:∃l x,J.aN=l++[x]:=⟨J.aN.dropLast,J.aN.getLast c,(Yc c).symm⟩;have E:aC J=x:=by unfold aC;rw[F];simp
 have X:=aa (λ(P:N) (h1:JA P i g J mv r)=>last P i g J mv r h1 l x F b6);have hlen:=hP.len;have d1:=hF.len;have d2:=hF.use;have H:=rQ w i g J mv r S ba a3 bs h hP (hT.below h0) hF.aJ (by omega) (by omega) c b6 d4 M o;have j:=aa (nS (J:=J) hF o);obtain⟨a,R,G⟩:∃a R,cQ J S=(a,R):=⟨_,_,rfl⟩;have HM:=aa (show cM J S t=if R≠0 then (J,a,R) else if (aB a x t).2≠0 then (J,(aB a x t).1,(aB a x t).2) else ({J with bU:=J.bU++t},(aB a x t).1,0) by unfold cM;rw[G,E]);rw[G]at H j;rw[E]at M o;have HT:=aa hT;have U:=aa h0;change Hid _ at p;clear h hP hT hF G E F c hlen d1 d2 h0;go_in;go_wp2_with fail;refine H.mono ?_;clear H;rintro e P ⟨v,rfl,hv,b5⟩;have m:=aa b5;clear b5;rcases hv with ⟨rfl,rfl⟩|⟨c,fb,fz,rfl,b4⟩
 .obtain⟨a1,a4,a2,B,b2⟩:=m.pd;have a0:=aa B;have HF:=aa (qu (jb:=i) (ov:=r) b2);have s:=aa m.ja;have d3:=B.len;have d5:a.ah.length<=k+1:=j.len;have d6:Dm.used a.ah<=u+J.bU.size:=j.use;have b8:Hid (Dm.Good a):=j.aJ;have b9:=aa m.jq.off;have W:=aa (λq:Bw P=>aT ((X.out q.val (s.keep q.is)).mono λe w' ⟨h1,n,h2⟩=>⟨h1,by rw[h2];exact ax (Uc _ _)⟩));have C0:∀q:Bw P,q.val.cell? ⟨i,0,Y⟩=Z (ca (Z ⟨g,0,Y⟩)):=λq=>(s.keep q.is).head.Ri 0
  clear B b2;go_wp2_with fail;refine bg 7 ?_;simp only[Vc,vd,Wc,zd];repeat go_big_quiet_step ((go_at_call 98;exact W.out _))
  refine Xc ?_;intro q;have d:=aa q.is;clear C0 W;generalize q.val=w2 at *;have a8:=append g a1 a4 a2 a x t w2 (a0.keep d) b8 (by omega) (by omega);go_wp2_with fail;refine a8.mono ?_;clear a8;rintro e T ⟨rfl,K,c9,a5,d0,a6,b3⟩;have f:=aa (show JR P T i g J mv r (aB a x t).1 a1 a2 from⟨(s.keep d).off (a0.keep d) K,⟨c9,a5,d0,a6,λb hb=>(b3 b hb).imp id λh=>Ya d.size h⟩,(an.ag d).trans K⟩);clear K a6 b3;by_cases D:(aB a x t).2=0
  .have A:=aa (show cM J S t=({J with bU:=J.bU++t},(aB a x t).1,0) by rw[HM.out,if_neg (by simp),if_neg (by simpa using D)]);rw[D];obtain⟨c0,c1,c2,c3,c4,c5,c6,c7⟩:=iK f.ja.head;have f5:=f.ja.head.frozen 5;have HQ:=aa (Oo (J.bU++t) f);go_wp2_with fail;go_ret;exact⟨_,rfl,by rw[A.out];exact qb ⟨rfl,rfl⟩,by grind [Hid,Jq.trans]⟩
  have A:=aa (show cM J S t=(J,(aB a x t).1,(aB a x t).2) by rw[HM.out,if_neg (by simp),if_pos D]);have HQ:=aa (Jq.trans b9 HF f.jq);have c8:=aa (HT.below (U.trans (HQ.off.below p U.size)));generalize (aB a x t).2=er at *;go_wp2_with fail;refine(X.out T f.ja).mono ?_;rintro e w4 ⟨rfl,n,rfl⟩;have z:Hid (Below T.heap.size T (T.drewN n)):=ax (Uc _ _);generalize T.drewN n=w4 at *;have a7:=about ⟨#[119,114,105,116,105,110,103,32,116,111]⟩ (by decide) x M o w4 (c8.below z);go_wp2_with fail;refine a7.mono ?_;clear a7;rintro e w5 ⟨rfl,a9⟩;generalize ie ⟨#[119,114,105,116,105,110,103,32,116,111]⟩ x=y;have V:=aa (z.trans (a9.mono z.size));have b1:=iM y er w5;clear a9;go_wp2_with fail;refine b1.mono ?_;clear b1;rintro e w6 ⟨⟨v,rfl,hv⟩,b0⟩;have HV:=aa hv;have b7:=aa (V.trans (b0.mono V.size));clear hv b0;go_wp2_with fail;go_ret;exact⟨_,rfl,by rw[A.out];exact HV,by rw[A.out];exact HQ.keep b7⟩
 have A:=aa (show cM J S t=(J,a,R) by rw[HM.out,if_pos c]);have HV:Hid (fj P (.iface 212 (ca (Z ⟨fb,0,Y⟩))) R):=ad ⟨c,fb,fz,rfl,b4⟩;clear b4;go_wp2_with fail;go_ret;refine⟨_,rfl,by rw[A.out];exact HV,by rw[A.out];exact m.jq⟩
theorem JA.SA {mv d:C}(h:JA e a b m mv d)(n:Nat):JA (e.setCell ⟨a,4,Y⟩ (I O (n:Int))) a b {m with synced:=n} mv d:=by
 have g:an [a] e (e.setCell ⟨a,4,Y⟩ (I O (n:Int))):=(an.refl _ _).set (Wa.2 rfl) _ _;refine⟨h.head.set 4 (I O (n:Int)),aq h.aN g λk f c=>?_⟩;rw[Wa]at c;subst c;obtain⟨i,l⟩:=au h.aN f;have j:=h.head;grind [af]
theorem On {mv i:C}    (p:JR e f a b m mv i l c h)(s:an [a] f g)(v:JA g a b o mv i):Jq e g a b o mv l (jf a i b c h):=by
 obtain⟨j,d,n,r,u⟩:=p.pd;have w:=PD.not r p.ja.head (by decide) (by decide) (by decide);exact⟨⟨i,j,d,n,v,cm r s λk q t=>w (Wa.1 t▸q),qu u⟩,(p.jq.off).trans (s.mono λk _ q=>Wa.1 q▸Xa ..)⟩
def aQ (J:Jn)(S:Dk):Jn×Dk×Int:=
 if J.aN=[] then (J,S,0)
 else if (cQ J S).2≠0 then (J,(cQ J S).1,(cQ J S).2)
 else if (bz (cQ J S).1 (aC J)).2≠0 then (J,(bz (cQ J S).1 (aC J)).1,(bz (cQ J S).1 (aC J)).2)
 else ({J with synced:=J.synced+J.bU.size,bU:=⟨#[]⟩},(bz (cQ J S).1 (aC J)).1,0)
theorem gg (d:c∈a ::h):c∈pf a b h:=by
 cases h with
 | nil=>exact d
 | cons f r=>
  rcases Za.1 d with e|e
  .exact e▸Xa ..
  exact Va _ (Va _ e)
set_option maxRecDepth 10000 in
theorem yL (w0 w:N)(hT:gp w0)(h0:Below w0.heap.size w0 w)(f m:Nat)(J:Jn)(mv s:C)(S:Dk)(ba V:Nat)(bs:List Nat)(k u:Nat)(h:JA w f m J mv s)(hP:PD w m S ba V bs)(H:∀b∈jf f s m ba bs,w0.heap.size<=b)(hF:Fit S k u)(hk:k<=100000000)(hu:u+J.bU.size<=1000000000000)(c9:J.aN.length<=1000000000)(e0:J.synced<=1000000000000)(a2:-9223372036854775808<=aC J)(F:aC J<=9223372036854775807):
  Calls Zb 62 #[ca (Z ⟨f,0,Y⟩)] w λe w'=>∃v,e=Ua v/\fj w' v (aQ J S).2.2/\Jq w w' f m (aQ J S).1 mv (aQ J S).2.1 (jf f s m ba bs):=by
 by_cases i:J.aN=[]
 .have t:=aa (show aQ J S=(J,S,0) by unfold aQ;rw[if_pos i]);have HQ:=aa (JR.jq (show JR w w f m J mv s S ba bs from⟨h,⟨ba,V,bs,hP,λb hb=>qb hb⟩,an.refl _ _⟩));obtain⟨c0,c1,c2,c3,c4,c5,c6,c7⟩:=iK h.head;have D:∃a c,s=Q a 0 c:=by
   have hs:=h.aN;rw[i]at hs;rcases hs.2 with ⟨e,_⟩|⟨g,cp,e7,e,_⟩
   .exact⟨_,_,e⟩
   exact⟨_,_,e⟩
  obtain⟨oa,oc,rfl⟩:=D;clear h hP hF;go_in;go_wp2_with fail;go_ret;exact⟨_,rfl,by rw[t.out];exact qb ⟨rfl,rfl⟩,by rw[t.out];exact HQ⟩
 obtain⟨l,x,a0⟩:∃l x,J.aN=l++[x]:=⟨J.aN.dropLast,J.aN.getLast i,(Yc i).symm⟩;have b8:aC J=x:=by unfold aC;rw[a0];simp
 have a6:=aa (λ(M:N) (h1:JA M f m J mv s)=>last M f m J mv s h1 l x a0 c9);have hlen:=hP.len;have d7:=hF.len;have d8:=hF.use;have a1:=rQ w f m J mv s S ba V bs h hP (hT.below h0) hF.aJ (by omega) (by omega) i c9 e0 a2 F;have T:=aa (nS (J:=J) hF F);obtain⟨d,e1,b9⟩:∃d e1,cQ J S=(d,e1):=⟨_,_,rfl⟩;have HM:=aa (show aQ J S=if e1≠0 then (J,d,e1) else if (bz d x).2≠0 then (J,(bz d x).1,(bz d x).2) else ({J with synced:=J.synced+J.bU.size,bU:=⟨#[]⟩},(bz d x).1,0) by grind [aQ]);rw[b9]at a1 T;rw[b8]at a2 F;have HT:=aa hT;have a3:=aa h0;change Hid _ at H;obtain⟨g,e2,D,e8,hg,E⟩:=eO h.aN (show J.aN[l.length]? = Z x by grind);have e4:¬(J.aN.length:Int)=0:=by grind
 obtain⟨c0,c1,c2,c3,c4,c5,c6,c7⟩:=iK h.head;rw[D]at c3;change Hid _ at D;clear h hP hT hF b9 b8 a0 hlen d7 d8 h0 E;go_in;go_wp2_with fail;refine a1.mono ?_;clear a1 c0 c1 c2 c3 c4 c5 c6 c7;rintro e M ⟨v,rfl,hv,b7⟩;have B:=aa b7;clear b7;rcases hv with ⟨rfl,rfl⟩|⟨i,fb,fz,rfl,b6⟩
 .obtain⟨o,K,p,W,b5⟩:=B.pd;have a7:=aa W;have HF:=aa (qu (jb:=f) (ov:=s) b5);have P:=aa B.ja;have d9:=W.len;have e3:d.ah.length<=k+1:=T.len;have d1:Hid (Dm.Good d):=T.aJ;have d2:=aa B.jq.off;have a5:=aa (λq:Bw M=>aT ((a6.out q.val (P.keep q.is)).mono λe w' ⟨h1,n,h2⟩=>⟨h1,by rw[h2];exact ax (Uc _ _)⟩));have C0:∀q:Bw M,q.val.cell? ⟨f,0,Y⟩=Z (ca (Z ⟨m,0,Y⟩)):=λq=>(P.keep q.is).head.Ri 0
  clear W b5;go_wp2_with fail;refine bg 6 ?_;simp only[Vc,vd,Wc,zd];repeat go_big_quiet_step ((go_at_call 98;exact a5.out _))
  refine Xc ?_;intro q;have A:=aa q.is;clear C0 a5;generalize q.val=w2 at *;have b1:=sync m o K p d x w2 (a7.keep A) d1 (by omega);go_wp2_with fail;refine b1.mono ?_;clear b1;rintro e G ⟨rfl,c8,a9⟩;have r:an (pf m o p) w2 G:=c8.mono λk _ hk=>gg hk
  have j:=aa (show JR M G f m J mv s (bz d x).1 o p from⟨(P.keep A).off (a7.keep A) r,⟨o,K,p,a9,λb hb=>qb hb⟩,(an.ag A).trans r⟩);clear c8 r a9;by_cases X:(bz d x).2=0
  .have t:=aa (show aQ J S=({J with synced:=J.synced+J.bU.size,bU:=⟨#[]⟩},(bz d x).1,0) by rw[HM.out,if_neg (by simp),if_neg (by simpa using X)]);rw[X];have C4:∀q:Bw G,q.val.cell? ⟨f,4,Y⟩=Z (I O (J.synced:Int)):=λq=>(j.ja.keep q.is).head.Ri 4
   have C5:∀q:Bw G,q.val.cell? ⟨f,5,Y⟩=Z (L J.bU):=λq=>(j.ja.keep q.is).head.Ri 5
   have d3:=aa (show (J.synced:Int)+(J.bU.size:Int)=((J.synced+J.bU.size:Nat):Int) by omega);have e9:J.bU.size<=1000000000000:=by omega
   go_wp2_with fail;refine bg 12 ?_;simp only[Vc,vd,Wc,zd];repeat go_big_quiet_step (fail)
   refine Xc ?_;intro q;have U:=aa (show JR M q.val f m J mv s (bz d x).1 o p from⟨j.ja.keep q.is,by
    obtain⟨d5,a8,d6,h1,h2⟩:=j.pd;exact⟨d5,a8,d6,h1.keep q.is,h2⟩,j.off.trans (an.ag q.is)⟩)
   clear C4 C5;generalize q.val=w4 at *;have z:=aa (U.ja.SA (J.synced+J.bU.size));rw[<-d3.out]at z;have e5:=aa (z.set ⟨#[]⟩);have e6:Hid (an [f] w4 ((w4.setCell ⟨f,4,Y⟩ (I O ((J.synced:Int)+(J.bU.size:Int)))).setCell ⟨f,5,Y⟩ (L ⟨#[]⟩))):=((an.refl _ _).set (Wa.2 rfl) _ _).set (Wa.2 rfl) _ _;have c4:=U.ja.head.Ri 4;have f4:=U.ja.head.frozen 4;have c5:=z.head.Ri 5;have f5:=z.head.frozen 5;go_wp2_with fail;go_ret;exact⟨_,rfl,by rw[t.out];exact qb ⟨rfl,rfl⟩,by grind [Hid,Jq.trans,On]⟩
  have t:=aa (show aQ J S=(J,(bz d x).1,(bz d x).2) by rw[HM.out,if_neg (by simp),if_pos X]);have HQ:=aa (Jq.trans d2 HF j.jq);have d4:=aa (HT.below (a3.trans (HQ.off.below H a3.size)));generalize (bz d x).2=er at *;go_wp2_with fail;refine(a6.out G j.ja).mono ?_;rintro e w4 ⟨rfl,n,rfl⟩;have R:Hid (Below G.heap.size G (G.drewN n)):=ax (Uc _ _);generalize G.drewN n=w4 at *;have b0:=about ⟨#[115,121,110,99,105,110,103]⟩ (by decide) x a2 F w4 (d4.below R);go_wp2_with fail;refine b0.mono ?_;clear b0;rintro e w5 ⟨rfl,b2⟩;generalize ie ⟨#[115,121,110,99,105,110,103]⟩ x=y;have a4:=aa (R.trans (b2.mono R.size));have b4:=iM y er w5;clear b2;go_wp2_with fail;refine b4.mono ?_;clear b4;rintro e w6 ⟨⟨v,rfl,hv⟩,b3⟩;have HV:=aa hv;have d0:=aa (a4.trans (b3.mono a4.size));clear hv b3;go_wp2_with fail;go_ret;exact⟨_,rfl,by rw[t.out];exact HV,by rw[t.out];exact HQ.keep d0⟩
 have t:=aa (show aQ J S=(J,d,e1) by rw[HM.out,if_pos i]);have HV:Hid (fj M (.iface 212 (ca (Z ⟨fb,0,Y⟩))) e1):=ad ⟨i,fb,fz,rfl,b6⟩;clear b6;go_wp2_with fail;go_ret;refine⟨_,rfl,by rw[t.out];exact HV,by rw[t.out];exact B.jq⟩
theorem BY:(Zb.info? 3).map (λi=>(i.zero,i.size,i.bytes))=Z (Z (I O 0),1,8):=by kernel_rfl
theorem kJ (w:N)(x:C)(t:TypeId)(b:Nat)(a:b=w.heap.size)(d:x.oneCell'=true):Apn.Src (w.alloc (.cells #[x] t)) 1 (Z ⟨b,0,Y⟩) 1 [x]:=by
 subst a;exact⟨rfl,λu c=>by grind,ad ⟨_,rfl,cell_one_new w _ t⟩⟩
def bf (J:Jn)(S:Dk)(t:ByteArray):Jn×Dk×Int:=
 if (aB S J.next t).2≠0 then (J,(aB S J.next t).1,(aB S J.next t).2)
 else ({J with aN:=J.aN++[J.next],next:=J.next+1,synced:=0,bU:=t},(aB S J.next t).1,0)
theorem ak (h:e.ownsRow a p b r c v):∃d f,r=Q d c f:=by
 rcases h.2 with ⟨p,j⟩|⟨g,k,i,p,_⟩
 .exact⟨Y,0,by rw[p,j]⟩
 exact⟨_,_,p⟩
theorem ku {w x:N}{o:Obj}  (h:(w.alloc o).grownBy x r.ownBlock):an r.ownBlock.toList w x:=
 ⟨h.os,h.tape,h.output,by have:=h.size;simp at this;omega,λk b a=>by
  rw[h.block k (by simp;omega) (λe=>a (by rw[<-e];simp)),Below.heap_alloc _ _ _ b]⟩
theorem aA (h:af e a p s)(d:af e b q u)(f:p≠q):a≠b:=by
 intro c;grind [af]
theorem Ty (h:af e a p s)(d:af e b q u)(c:a=b)(f:p≠q:=by decide):False:=aA h d f c
theorem Lf {  z:N}   {mv j p:C}    (n:JR e f a b m mv j l c h)(E:an j.ownBlock.toList f g)(y:an [a] g z)(D:g.ownsRow 0 3 1 p o.aN.length (o.aN.map (Value.int O)))(u:p.ownBlock=j.ownBlock\/∃t,p.ownBlock=Z t/\f.heap.size<=t)
  (P:af z a 137 #[ca (Z ⟨b,0,Y⟩),I O o.most,mv,p,I O (o.synced:Int),L o.bU,I O o.next,I O o.al]) (w:∃v,af g a 137 v):Jq e z a b o mv l (jf a j b c h):=by
 obtain⟨q,s,r,H,J⟩:=n.pd;obtain⟨G,w⟩:=w;have S:∀k∈pf b q r,k∉j.ownBlock.toList:=λk i B=>by
  obtain⟨v,R⟩:=au n.ja.aN B;grind [PD.not]
 have F:=cm H E S;have T:=PD.not F w (by decide) (by decide) (by decide);have U:∀k∈p.ownBlock.toList,k∉[a]:=λk i B=>by
  obtain⟨v,R⟩:=au D i;grind [aA]
 have x:∀k,k∈j.ownBlock.toList->k∈jf a j b c h:=λk i=>Va _ (eb _ i)
 refine⟨⟨p,q,s,r,⟨P,aq D y U⟩,cm F y λk i d=>T (Wa.1 d▸i),λA K=>?_⟩,(n.jq.off.trans (E.mono λk _ i=>x k i)).trans (y.mono λk _ i=>Wa.1 i▸Xa ..)⟩;rcases Za.1 K with d|d
 .exact qb (d▸Xa ..)
 rcases Wb.1 d with d|d
 .rcases u with u|⟨t,u,M⟩
  .grind
  rw[u]at d;have:A=t:=by simpa using d
  exact ad (by rw[this];exact Ya n.off.size M)
 exact(J A d).imp (λn=>Va _ (Ub _ n)) id
set_option maxRecDepth 10000 in
theorem zu (w0 w:N)(hT:gp w0)(h0:Below w0.heap.size w0 w)(c o:Nat)(J:Jn)(mv ov:C)(S:Dk)(R U:Nat)(T:List Nat)(t:ByteArray)(k u:Nat)(h:JA w c o J mv ov)(hP:PD w o S R U T)(n:∀b∈jf c ov o R T,w0.heap.size<=b)(hF:Fit S k u)(hk:k<=100000000)(hu:u+t.size<=1000000000000)(d9:J.aN.length<=1000000000)(e2:0<=J.next)(e3:J.next<=1000000000000):
  Calls Zb 92 #[ca (Z ⟨c,0,Y⟩),L t] w λe w'=>∃v,e=Ua v/\fj w' v (bf J S t).2.2/\Jq w w' c o (bf J S t).1 mv (bf J S t).2.1 (jf c ov o R T):=by
 have hlen:=hP.len;have d7:=hF.len;have d8:=hF.use;have HG:=aa hF.aJ;have HT:=aa hT;have D:=aa h0;change Hid _ at n;have HA:=aa h;have HP:=aa hP;have C0:∀q:Bw w,q.val.cell? ⟨c,0,Y⟩=Z (ca (Z ⟨o,0,Y⟩)):=λq=>(HA.keep q.is).head.Ri 0
 have C6:∀q:Bw w,q.val.cell? ⟨c,6,Y⟩=Z (I O J.next):=λq=>(HA.keep q.is).head.Ri 6
 clear h hP hT hF h0;go_in;go_wp2_with fail;refine bg 9 ?_;simp only[Vc,vd,Wc,zd];repeat go_big_quiet_step (fail)
 refine Xc ?_;intro q;have j:=aa q.is;clear C0 C6;generalize q.val=w2 at *;have a2:=append o R U T S J.next t w2 (HP.keep j) HG (by omega) (by omega);go_wp2_with fail;refine a2.mono ?_;clear a2;rintro e l ⟨rfl,r,b7,V,b8,a0,a7⟩;have d:=aa (show JR w l c o J mv ov (aB S J.next t).1 R T from⟨(HA.keep j).off (HP.keep j) r,⟨b7,V,b8,a0,λb hb=>(a7 b hb).imp id λh=>Ya j.size h⟩,(an.ag j).trans r⟩);clear r a0 a7;obtain⟨c0,c1,c2,c3,c4,c5,c6,c7⟩:=iK d.ja.head;by_cases a6:(aB S J.next t).2=0
 .have G:=aa (show bf J S t=({J with aN:=J.aN++[J.next],next:=J.next+1,synced:=0,bU:=t},(aB S J.next t).1,0) by unfold bf;grind);rw[a6];have c9:∃x A,ov=Q x J.aN.length A:=by
   rcases d.ja.aN.2 with ⟨e,e0⟩|⟨g,cp,d3,e,_⟩
   .exact⟨Y,0,by rw[e,e0]⟩
   exact⟨_,_,e⟩
  obtain⟨x,A,rfl⟩:=c9;obtain⟨i0,hi,d0,d1,d2⟩:=info_parts BY;have H:Hid ((l.alloc (.cells #[I O J.next] 3)).drew.ownsRow 0 3 1 (Q x J.aN.length A) J.aN.length (J.aN.map (Value.int O))):=aE (aE d.ja.aN (ai _)) ((Uc _ _).drew);have b0:=aa (show c∉(Value.slice x J.aN.length A).ownBlock.toList from λhm=>by
   obtain⟨cs,hs⟩:=au d.ja.aN hm;exact Ty hs d.ja.head rfl)
  have P:Hid (Apn.Src (l.alloc (.cells #[I O J.next] 3)).drew 1 (Z ⟨l.heap.size,0,Y⟩) 1 [I O J.next]):=kJ l.drew _ _ _ rfl rfl;go_wp2_with fail;refine wp_region_any (by kernel_rfl) ?_;refine Ud (i:=0) (v:=ca (Z ⟨c,0,Y⟩)) rfl (by kernel_rfl) (by kernel_rfl) (by kernel_rfl) (λ_ _ _ h=>h) (qb ⟨by rfl,by intro W;go_simp⟩) ?_;refine Ud (i:=1) (v:=ca (Z ⟨c,0,Y⟩)) rfl (by kernel_rfl) (by kernel_rfl) (by kernel_rfl) (λ_ _ _ h=>h) (qb ⟨by rfl,by intro W;go_simp⟩) ?_;refine Ud (i:=5) (v:=ca (Z ⟨c,0,Y⟩)) rfl (by kernel_rfl) (by kernel_rfl) (by kernel_rfl) (λ_ _ _ h=>h) (qb ⟨by rfl,by intro W;go_simp⟩) ?_;refine Ud (i:=2) (v:=ca (Z ⟨c,0,Y⟩)) rfl (by kernel_rfl) (by kernel_rfl) (by kernel_rfl) (λ_ _ _ h=>h) (qb ⟨by rfl,by intro W;go_simp⟩) ?_;refine Ud (i:=6) (v:=ca (Z ⟨c,0,Y⟩)) rfl (by kernel_rfl) (by kernel_rfl) (by kernel_rfl) (λ_ _ _ h=>h) (qb ⟨by rfl,by intro W;go_simp⟩) ?_;refine Ud (i:=3) (v:=ca (Z ⟨c,3,Y⟩)) rfl (by kernel_rfl) (by kernel_rfl) (by kernel_rfl) (λ_ _ _ h=>h) (qb ⟨by rfl,by intro W;go_simp⟩) ?_;refine Ud (i:=7) (v:=ca (Z ⟨c,6,Y⟩)) rfl (by kernel_rfl) (by kernel_rfl) (by kernel_rfl) (λ_ _ _ h=>h) (qb ⟨by rfl,by intro W;go_simp⟩) ?_;refine Yb (rs:=[4,8]) (by kernel_rfl) (by simp) ?_;refine Vb rfl (λK a=>?_) (Vb rfl (λK a=>?_) Xb);go_simp;refine a _ _ ?_;clear a K;refine Yb (rs:=[8]) (by kernel_rfl) (by simp) (Vb rfl (λK a=>?_) Xb);go_simp;refine a _ _ ?_;clear a K;refine Yb (rs:=[9]) (by kernel_rfl) (by simp) (Vb rfl (λK a=>?_) Xb);go_simp;refine a _ _ ?_;clear a K;rotate_left 1;go_simp;refine a _ _ ?_;clear a K;refine Yb (rs:=[4,9]) (by kernel_rfl) (by simp) ?_;refine Vb rfl (λK a=>?_) (Vb rfl (λK a=>?_) Xb);go_simp;refine a _ _ ?_;clear a K;refine Yb (rs:=[9]) (by kernel_rfl) (by simp) (Vb rfl (λK a=>?_) Xb);go_simp;refine a _ _ ?_;clear a K;rotate_left 1;go_simp;refine a _ _ ?_;clear a K;have b9:(l.alloc (.cells #[I O J.next] 3)).drew.cell? ⟨c,3,Y⟩=Z (Q x J.aN.length A):=((d.ja.keep (ai _)).keep ((Uc _ _).drew)).head.Ri 3;refine Yb (rs:=[4]) (by kernel_rfl) (by simp) (Vb rfl (λK a=>?_) Xb);go_simp;refine a _ _ ?_;clear a K b9;all_goals
   refine Yb (rs:=[10]) (by kernel_rfl) (by simp) (Vb rfl (λK a=>?_) Xb);refine Apn.eG rfl (.tmp 29) (.tmp 34) 35 rfl 3 i0 (I O 0) 1 8 Tryz.underlying35 hi d0 d1 d2 rfl (by decide) (Q x J.aN.length A) _ _ rfl H _ 1 1 [I O J.next] rfl P (by unfold maxLen;omega) (by omega) ?_;intro v4 w4 p X a8 _;obtain⟨z,B,rfl⟩:=ak p;have s:=ku (w:=l.drew) X;have m:=Foot.af.off (w:=l.drew) d.ja.head s (b0.out);change Hid _ at p;have b3:=aa ((an.ag (F:=(Value.slice x J.aN.length A).ownBlock.toList) ((Uc l.heap.size l).drew)).trans s);have b5:=aa a8;have M:=aa m;have g3:=m.frozen 3;have c8:=m.Ri 3;refine a _ _ ?_;clear a K X a8 s m c0 c1 c2 c3 c4 c5 c6 c7;go_simp;refine Yb (rs:=[11]) (by kernel_rfl) (by simp) (Vb rfl (λK a=>?_) Xb);go_simp;refine a _ _ ?_;clear a K;refine Yb (rs:=[12]) (by kernel_rfl) (by simp) (Vb rfl (λK a=>?_) Xb);go_simp;refine a _ _ ?_;clear a K;refine Yb (rs:=[13]) (by kernel_rfl) (by simp) (Vb rfl (λK a=>?_) Xb);go_simp;refine a _ _ ?_;clear a K;refine wpAny_done (by kernel_rfl) ?_ _;have f:=M.set 3 (Q z (J.aN.length+1) B);have b1:Hid (an [c] w4 (w4.setCell ⟨c,3,Y⟩ (Q z (J.aN.length+1) B))):=(an.refl _ _).set (Wa.2 rfl) _ _;clear g3 c8;generalize w4.setCell ⟨c,3,Y⟩ (Q z (J.aN.length+1) B)=w5 at *;have b4:=aa (((f.set 6 (I O (J.next+1))).set 4 (I O 0)).set 5 (L t));have b2:Hid (an [c] w4 (((w5.setCell ⟨c,6,Y⟩ (I O (J.next+1))).setCell ⟨c,4,Y⟩ (I O 0)).setCell ⟨c,5,Y⟩ (L t))):=((b1.set (Wa.2 rfl) _ _).set (Wa.2 rfl) _ _).set (Wa.2 rfl) _ _;have d6:=f.Ri 6;have f6:=f.frozen 6;have d4:=(f.set 6 (I O (J.next+1))).Ri 4;have f4:=(f.set 6 (I O (J.next+1))).frozen 4;have d5:=((f.set 6 (I O (J.next+1))).set 4 (I O 0)).Ri 5;have f5:=((f.set 6 (I O (J.next+1))).set 4 (I O 0)).frozen 5;have e1:Ue.wrap (J.next+1)=J.next+1:=IntWalk.i64_in _ (by omega);clear f;go_wp2_with fail;go_ret;refine⟨_,rfl,by rw[G.out];exact qb ⟨rfl,rfl⟩,?_⟩;rw[G.out];exact Lf d b3 b2 (by rw[List.length_append,List.map_append];exact p) (b5.imp id λ⟨g,h1,h2⟩=>⟨g,h1,by simp at h2;omega⟩) b4 ⟨_,M⟩
 have G:=aa (show bf J S t=(J,(aB S J.next t).1,(aB S J.next t).2) by unfold bf;rw[if_pos a6]);have HQ:=aa d.jq;have b6:=aa (HT.below (D.trans (HQ.off.below n D.size)));generalize (aB S J.next t).2=er at *;have a1:=about ⟨#[98,101,103,105,110,110,105,110,103]⟩ (by decide) J.next (by omega) (by omega) l b6;go_wp2_with fail;refine a1.mono ?_;clear a1;rintro e w5 ⟨rfl,a3⟩;generalize ie ⟨#[98,101,103,105,110,110,105,110,103]⟩ J.next=y;have E:=aa a3;have a5:=iM y er w5;clear a3;go_wp2_with fail;refine a5.mono ?_;clear a5;rintro e w6 ⟨⟨v,rfl,hv⟩,a4⟩;have HV:=aa hv;have a9:=aa (E.trans (a4.mono E.size));clear hv a4;go_wp2_with fail;go_ret;exact⟨_,rfl,by rw[G.out];exact HV,by rw[G.out];exact HQ.keep a9⟩
def bytesOf (l:List UInt8):ByteArray:=⟨l.toArray⟩
theorem jZ (k:List UInt8){n:Int}(a:-9223372036854775808<=n)(b:n<=9223372036854775807){t:List UInt8}(c:t.length<=9223372036854775807):(bC k n t).length<=k.length+t.length+43:=by grind [eM,bC]
def aY (J:Jn)(S:Dk)(a:Int)(t:ByteArray):Jn×Dk×Int:=
 if J.aN=[] then bf J S (bytesOf (aZ J)++bytesOf (bC [100] a (B t)))
 else if (J.synced:Int)+(J.bU.size:Int)<J.most then cM J S (bytesOf (bC [100] a (B t)))
 else if (aQ J S).2.2≠0 then aQ J S
 else bf (aQ J S).1 (aQ J S).2.1 (bytesOf (bC [100] a (B t)))
theorem jU {J:Jn}   (h:Fit l a b)(c:aC J<=9223372036854775807):Fit (aQ J l).2.1 (a+1) (b+J.bU.size):=by
 have d:=nS (J:=J) h c;unfold aQ;split
 .exact⟨h.aJ,Ya h.len (Nat.le_succ _),Ya h.use (Zd _ _)⟩
 grind [jK]
theorem sI (J:Jn)(S:Dk):(aQ J S).1.aN=J.aN/\(aQ J S).1.next=J.next:=by grind [aQ]
set_option maxRecDepth 10000 in
theorem write (T w:N)(hT:gp T)(h0:Below T.heap.size T w)(c f:Nat)(J:Jn)(mv o:C)(S:Dk)(r M:Nat)(x:List Nat)(a:Int)(t:ByteArray)(k u:Nat)(h:JA w c f J mv o)(hP:PD w f S r M x)(g:∀b∈jf c o f r x,T.heap.size<=b)(HF:Fit S k u)(hk:k<=10000000)(hu:u+J.bU.size+t.size<=100000000000)(R:J.aN.length<=1000000000)(d1:J.synced<=1000000000000)(d6:0<=J.next)(d7:J.next<=1000000000000)(d8:-9223372036854775808<=aC J)(a5:aC J<=9223372036854775807)(d3:-9223372036854775808<=a)(d4:a<=9223372036854775807)(b9:-9223372036854775808<=J.al)(c8:J.al<=9223372036854775807):
  Calls Zb 60 #[ca (Z ⟨c,0,Y⟩),I O a,L t] w λe G=>∃v,e=Ua v/\fj G v (aY J S a t).2.2/\Jq w G c f (aY J S a t).1 mv (aY J S a t).2.1 (jf c o f r x):=by
 have d5:=written ⟨#[100]⟩ a t w (hT.below h0) (by decide) d3 d4 (by omega);have d2:(B t).length=t.size:=(Bytes.aj t).symm;have e9:(bytesOf (bC [100] a (B t))).size<=t.size+44:=by
  have:=jZ [100] d3 d4 (t:=B t) (by omega);rw[List.length_singleton,d2]at this;show (bC [100] a (B t)).toArray.size<=_;grind
 have e4:(bytesOf (aZ J)).size<=44:=by
  have:=jZ [98] b9 c8 (t:=[]) (by simp);show (aZ J).toArray.size<=_;grind [aZ]
 have HW:Hid (aY J S a t=if J.aN=[] then bf J S (bytesOf (aZ J)++bytesOf (bC [100] a (B t))) else if (J.synced:Int)+(J.bU.size:Int)<J.most then cM J S (bytesOf (bC [100] a (B t))) else if (aQ J S).2.2≠0 then aQ J S else bf (aQ J S).1 (aQ J S).2.1 (bytesOf (bC [100] a (B t)))):=rfl;have b3:=aa (show ∀z,B z=bC (B ⟨#[100]⟩) a (B t)->z=bytesOf (bC [100] a (B t)) from λz hz=>Bytes.bo (by rw[hz];rfl));generalize bytesOf (bC [100] a (B t))=zb at *;have HA:=aa h;have HP:=aa hP;have HT:=aa hT;have a8:=aa h0;change Hid _ at g HF;obtain⟨oa,oc,a9⟩:=ak h.aN;change Hid _ at a9;clear h hP hT h0 d2;go_in;go_wp2_with fail;refine d5.mono ?_;clear d5;rintro e w1 ⟨⟨z,rfl,hz⟩,A⟩;obtain rfl:=b3.out z hz;have d9:=aa A;have j:=aa (HA.keep A);have b0:=aa (HP.keep A);have i:=aa (a8.trans (A.mono a8.size));clear hz A b3;obtain⟨c0,c1,c2,c3,c4,c5,c6,c7⟩:=iK j.head;rw[a9.out]at c3;have s:∀{G:N} {V:Jn} {W:Dk},Jq w1 G c f V mv W (jf c o f r x)->Jq w G c f V mv W (jf c o f r x):=λh=>Jq.trans (an.ag d9) (λb hb=>qb hb) h
 by_cases n:J.aN=[]
 .have U:=aa (show aY J S a t=bf J S (bytesOf (aZ J)++z) by rw[HW.out,if_pos n]);have e3:J.aN.length=0:=by rw[n];rfl
  have e8:(J.aN.length:Int)=0:=by omega
  have c9:=head w1 c f J mv o j (HT.below i) b9 c8;rw[e3]at c3;go_wp2_with fail;refine c9.mono ?_;clear c9;rintro e w2 ⟨⟨y,rfl,hy⟩,D⟩;have e2:y=bytesOf (aZ J):=Bytes.bo (by rw[hy];rfl);subst e2;have e6:(bytesOf (aZ J)++z).size<=t.size+100:=by grind
  have E:=zu T w2 HT (i.trans (D.mono i.size)) c f J mv o S r M x (bytesOf (aZ J)++z) k u (j.keep D) (b0.keep D) g HF (by omega) (by omega) R d6 d7;have l:=aa D;clear D hy;go_wp2_with fail;refine E.mono ?_;clear E;rintro e w3 ⟨v,rfl,H,m⟩;have HV:=aa H;have HQ:=aa (s (Jq.trans (an.ag l) (λb hb=>qb hb) m));clear H m;go_wp2_with fail;go_ret;exact⟨_,rfl,by rw[U.out];exact HV,by rw[U.out];exact HQ⟩
 have e5:¬(J.aN.length:Int)=0:=by
  have:J.aN.length≠0:=λe=>n (te.1 e)
  omega
 have C1:∀q:Bw w1,q.val.cell? ⟨c,1,Y⟩=Z (I O J.most):=λq=>(j.keep q.is).head.Ri 1
 have C4:∀q:Bw w1,q.val.cell? ⟨c,4,Y⟩=Z (I O (J.synced:Int)):=λq=>(j.keep q.is).head.Ri 4
 have C5:∀q:Bw w1,q.val.cell? ⟨c,5,Y⟩=Z (L J.bU):=λq=>(j.keep q.is).head.Ri 5
 have e7:J.bU.size<=1000000000000:=by omega
 go_wp2_with fail;refine aU ?_;repeat go_big_quiet_step (fail)
 refine Xc ?_;rintro _ ⟨q,rfl⟩;have l:=aa (i.trans (q.is.mono i.size));have a7:=aa (j.keep q.is);have b1:=aa (b0.keep q.is);have d:∀{G:N} {V:Jn} {W:Dk},Jq q.val G c f V mv W (jf c o f r x)->Jq w G c f V mv W (jf c o f r x):=λh=>s (Jq.trans (an.ag q.is) (λb hb=>qb hb) h)
 clear C1 C4 C5 s c0 c1 c2 c3 c4 c5 c6 c7;generalize q.val=w2 at *;by_cases d0:(J.synced:Int)+(J.bU.size:Int)<J.most
 .have U:=aa (show aY J S a t=cM J S z by rw[HW.out,if_neg n,if_pos d0]);have b7:=add T w2 HT l c f J mv o S r M x z k u a7 b1 g HF (by omega) (by omega) n R d1 d8 a5;go_wp2_with fail;refine b7.mono ?_;clear b7;rintro e w3 ⟨v,rfl,H,m⟩;have HV:=aa H;have HQ:=aa (d m);clear H m;go_wp2_with fail;go_ret;exact⟨_,rfl,by rw[U.out];exact HV,by rw[U.out];exact HQ⟩
 have a4:=yL T w2 HT l c f J mv o S r M x k u a7 b1 g HF (by omega) (by omega) R d1 d8 a5;have b2:=aa (jU (J:=J) HF a5);have K:=aa (sI J S);obtain⟨J1,S1,X,a3⟩:∃J1 S1 X,aQ J S=(J1,S1,X):=⟨_,_,_,rfl⟩;have U:=aa (show aY J S a t=if X≠0 then (J1,S1,X) else bf J1 S1 z by rw[HW.out,if_neg n,if_neg d0,a3]);rw[a3]at a4 b2 K;clear a3;go_wp2_with fail;refine a4.mono ?_;clear a4;rintro e w3 ⟨v,rfl,H,m⟩;rcases H with ⟨he,rfl⟩|⟨P,fb,fz,rfl,b8⟩
 .have he:X=0:=he;subst he;obtain⟨a6,a0,b4,a1,b5,b6,a2⟩:=m.ex;have F:∀b∈jf c a6 f a0 a1,T.heap.size<=b:=λb hb=>(a2 b hb).elim (g.out b) λh=>Ya l.size h
  have E:=zu T w3 HT (l.trans (m.off.below g l.size)) c f J1 mv a6 S1 a0 b4 a1 z (k+1) (u+J.bU.size) b5 b6 F b2 (by omega) (by omega) (by rw[K.1];exact R) (by rw[K.2];exact d6) (by rw[K.2];exact d7);have e0:=aa (show ∀(G:N) (V:Jn) (W:Dk),Jq w3 G c f V mv W (jf c a6 f a0 a1)->Jq w G c f V mv W (jf c o f r x) from λ_ _ _ h=>d (Jq.trans m.off a2 h));have p:=aa (show aY J S a t=bf J1 S1 z by rw[U.out,if_neg (by simp)]);clear b5 b6 a2 m F d;go_wp2_with fail;refine E.mono ?_;clear E;rintro e w4 ⟨v,rfl,H,m⟩;have HV:=aa H;have HQ:=aa (e0.out _ _ _ m);clear H m;go_wp2_with fail;go_ret;exact⟨_,rfl,by rw[p.out];exact HV,by rw[p.out];exact HQ⟩
 have P:X≠0:=P;have p:=aa (show aY J S a t=(J1,S1,X) by rw[U.out,if_pos P]);have HV:Hid (fj w3 (.iface 212 (ca (Z ⟨fb,0,Y⟩))) X):=ad ⟨P,fb,fz,rfl,b8⟩;have HQ:=aa (d m);clear b8 m d;go_wp2_with fail;go_ret;exact⟨_,rfl,by rw[p.out];exact HV,by rw[p.out];exact HQ⟩
def bR (J:Jn)(S:Dk):Jn×Dk×Int:=
 if J.aN=[] then (if (bf J S (bytesOf (aZ J))).2.2≠0 then bf J S (bytesOf (aZ J)) else aQ (bf J S (bytesOf (aZ J))).1 (bf J S (bytesOf (aZ J))).2.1)
 else aQ J S
theorem jH {J:Jn}   {t:ByteArray}(h:Fit l a b)(c:J.next<=9223372036854775807):Fit (bf J l t).2.1 (a+1) (b+t.size):=by grind [gz,bf]
theorem qQ {J:Jn}{S:Dk}{t:ByteArray}(h:(bf J S t).2.2=0):(bf J S t).1={J with aN:=J.aN++[J.next],next:=J.next+1,synced:=0,bU:=t}:=by grind [bf]
set_option maxRecDepth 10000 in
theorem vg (r w:N)(hT:gp r)(h0:Below r.heap.size r w)(i g:Nat)(J:Jn)(mv F:C)(S:Dk)(K z:Nat)(M:List Nat)(k u:Nat)(h:JA w i g J mv F)(hP:PD w g S K z M)(a:∀b∈jf i F g K M,r.heap.size<=b)(HF:Fit S k u)(hk:k<=10000000)(hu:u+J.bU.size<=100000000000)(b8:J.aN.length<=100000000)(a9:J.synced<=1000000000000)(b1:0<=J.next)(b2:J.next<=1000000000000)(b3:-9223372036854775808<=aC J)(b4:aC J<=9223372036854775807)(a2:-9223372036854775808<=J.al)(a3:J.al<=9223372036854775807):
  Calls Zb 101 #[ca (Z ⟨i,0,Y⟩)] w λe w'=>∃v,e=Ua v/\fj w' v (bR J S).2.2/\Jq w w' i g (bR J S).1 mv (bR J S).2.1 (jf i F g K M):=by
 have a8:(bytesOf (aZ J)).size<=44:=by
  have:=jZ [98] a2 a3 (t:=[]) (by simp);show (aZ J).toArray.size<=_;grind [aZ]
 have HA:=aa h;have HP:=aa hP;have HT:=aa hT;have c:=aa h0;change Hid _ at a HF;obtain⟨oa,oc,a6⟩:=ak h.aN;obtain⟨c0,c1,c2,c3,c4,c5,c6,c7⟩:=iK h.head;rw[a6]at c3;clear h hP hT h0 a6;by_cases p:J.aN=[]
 .have H:=aa (show bR J S=if (bf J S (bytesOf (aZ J))).2.2≠0 then bf J S (bytesOf (aZ J)) else aQ (bf J S (bytesOf (aZ J))).1 (bf J S (bytesOf (aZ J))).2.1 by unfold bR;rw[if_pos p]);have b6:J.aN.length=0:=by rw[p];rfl
  rw[b6]at c3;have a4:=head w i g J mv F HA (HT.below c) a2 a3;go_in;go_wp2_with fail;refine a4.mono ?_;clear a4 c0 c1 c2 c3 c4 c5 c6 c7;rintro e w2 ⟨⟨y,rfl,hy⟩,j⟩;have b5:y=bytesOf (aZ J):=Bytes.bo (by rw[hy];rfl);subst b5;have B:=zu r w2 HT (c.trans (j.mono c.size)) i g J mv F S K z M (bytesOf (aZ J)) k u (HA.keep j) (HP.keep j) a HF (by omega) (by omega) (by omega) b1 b2;have R:=aa (jH (J:=J) (t:=bytesOf (aZ J)) HF (by omega));have T:Hid ((bf J S (bytesOf (aZ J))).2.2=0->(bf J S (bytesOf (aZ J))).1=_):=qQ;change Hid _ at j;clear hy;obtain⟨q,V,P,a5⟩:∃q V P,bf J S (bytesOf (aZ J))=(q,V,P):=⟨_,_,_,rfl⟩;rw[a5]at H R T B;clear a5;go_wp2_with fail;refine B.mono ?_;clear B;rintro e w3 ⟨v,rfl,E,f⟩;have f:=Jq.trans (an.ag j) (λb hb=>qb hb) f;rcases E with ⟨he,rfl⟩|⟨o,fb,fz,rfl,a1⟩
  .have he:P=0:=he;subst he;have A:q={J with aN:=J.aN++[J.next],next:=J.next+1,synced:=0,bU:=bytesOf (aZ J)}:=T.out rfl;obtain⟨G,s,W,x,X,a0,D⟩:=f.ex;have m:∀b∈jf i G g s x,r.heap.size<=b:=λb hb=>(D b hb).elim (a.out b) λh=>Ya c.size h
   have d:aC q=J.next:=by rw[A];simp[aC]
   have b0:q.bU.size<=44:=by rw[A];exact a8
   have n:=yL r w3 HT (c.trans (f.off.below a c.size)) i g q mv G V s W x (k+1) (u+(bytesOf (aZ J)).size) X a0 m R (by omega) (by omega) (by grind) (by grind) (by rw[d];omega) (by rw[d];omega);have a7:=aa (show ∀(w':N) (J':Jn) (S':Dk),Jq w3 w' i g J' mv S' (jf i G g s x)->Jq w w' i g J' mv S' (jf i F g K M) from λ_ _ _ h=>Jq.trans f.off D h);have l:=aa (show bR J S=aQ q V by rw[H.out,if_neg (by simp)]);clear X a0 D m A d b0;go_wp2_with fail;refine n.mono ?_;clear n;rintro e w4 ⟨v,rfl,E,f⟩;have U:=aa E;have f:=aa (a7.out _ _ _ f);clear E;go_wp2_with fail;go_ret;exact⟨_,rfl,by rw[l.out];exact U,by rw[l.out];exact f⟩
  have o:P≠0:=o;have l:=aa (show bR J S=(q,V,P) by rw[H.out,if_pos o]);have U:Hid (fj w3 (.iface 212 (ca (Z ⟨fb,0,Y⟩))) P):=ad ⟨o,fb,fz,rfl,a1⟩;change Hid _ at f;clear a1;go_wp2_with fail;go_ret;exact⟨_,rfl,by rw[l.out];exact U,by rw[l.out];exact f⟩
 have H:=aa (show bR J S=aQ J S by unfold bR;rw[if_neg p]);have b7:¬(J.aN.length:Int)=0:=by
  have:J.aN.length≠0:=λe=>p (te.1 e)
  omega
 have n:=yL r w HT c i g J mv F S K z M k u HA HP a HF (by omega) (by omega) (by omega) a9 b3 b4;go_in;go_wp2_with fail;refine n.mono ?_;clear n c0 c1 c2 c3 c4 c5 c6 c7;rintro e w3 ⟨v,rfl,E,f⟩;have U:=aa E;change Hid _ at f;clear E;go_wp2_with fail;go_ret;exact⟨_,rfl,by rw[H.out];exact U,by rw[H.out];exact f⟩
end Jr
namespace Jr
open Go.RowKit Go.Maps Mem Foot Bytes Im Wm Hi Plainw Cq Dm Dh
def Em:C->Bool
 | .slice _ _ _=>true
 | _=>false
abbrev my:=List (Int×C×List Int)
def sD (a:my):DataW Value:=mp jk (λp:C×List Int=>p.1) a
structure SM (w:N)(mb:Nat)(sv:my):Prop where
 own:w.ownsMap Zb 3 (kg Em) mb sv.length (sD sv)
 up:Up dJ sv
 rows:∀p∈sv,w.ownsRow 0 3 1 p.2.1 p.2.2.length (p.2.2.map (Value.int O))
def gh (a:my):List Nat:=a.flatMap λp=>p.2.1.ownBlock.toList
variable {a b c d e f:Nat}{g h i:N}{j:my}{k:List Nat}{l m:Jn}{o p:Dk}{q:C}
theorem gJ {P:Program}{e:TypeId}{R:C->Option (DataW C×List MemPlace)}  {D:DataW C}(d:g.ownsMap P e R a b D)(n:an k g h)(l:a∉k):h.ownsMap P e R a b D:=by
 have m:=d.lt;obtain⟨f,c,i,j⟩:=d;exact⟨f,c,by rw[n.block a m l];exact i,j⟩
theorem dD {P:Program}{k:TypeId}{R:C->Option (DataW C×List MemPlace)}  {D:DataW C}(h:g.ownsMap P k R a b D)  {t:TypeId}{f:Array C}(l:af g c t f):a≠c:=by
 intro e;subst e;obtain⟨i,d,j,_⟩:=h;grind [af]
theorem SM.off {F:List Nat}{w d:N}   (h:SM w a j)(b:an F w d)(f:a∉F)(g:∀k∈gh j,k∉F):SM d a j:=
 ⟨gJ h.own b f,h.up,λp c=>aq (h.rows p c) b λk e=>g k (Zc.2 ⟨p,c,e⟩)⟩
theorem SM.keep (b:SM g a j)(c:Below g.heap.size g h):SM h a j:=
 b.off (F:=[]) (an.ag c) (by simp) (λ_ _=>by simp)
theorem SM.il (h:SM g a j)  (c:b∈gh j):∃d,af g b 3 d:=by
 obtain⟨p,e,c⟩:=Zc.1 c;exact au (h.rows p e) c
structure JW (w:N)(jb bx mb:Nat)(J:Jn)(sv:my)(ov:C):Prop where
 ja:JA w jb bx J (.map (Z mb)) ov
 sm:SM w mb sv
 eq:J.ae=sv.map λp=>(p.1,p.2.2)
 apart:∀k∈gh sv,k∉ov.ownBlock.toList
def kf (d c e:Nat)(g:my)(f:C)(a:Nat)(b:List Nat):List Nat:=e ::(gh g++jf d f c a b)
theorem JW.keep (d:JW g a b c l j q)(e:Below g.heap.size g h):JW h a b c l j q:=
 ⟨d.ja.keep e,d.sm.keep e,d.eq,d.apart⟩
theorem JA.OH {mv c:C}(d:JA g a b l mv c)(e:an k g h)(f:a∉k)(i:∀j∈c.ownBlock.toList,j∉k):JA h a b l mv c:=
 ⟨Foot.af.off d.head e f,aq d.aN e i⟩
theorem JW.off {F:List Nat}{w g:N}     {ba:Nat}{bs:List Nat}(h:JW w a b c l j q)(f:an F w g)(d:∀k∈kf a b c j q ba bs,k∉F):JW g a b c l j q:=by
 exact⟨h.ja.OH f (d _ (Va _ (Ub _ (Xa ..)))) λk e=>d _ (Va _ (Ub _ (Va _ (eb _ e)))),h.sm.off f (d _ (Xa ..)) λk e=>d _ (Va _ (eb _ e)),h.eq,h.apart⟩
theorem gq (h:e∈pf b d k):e∈kf a b c j q d k:=
 Va _ (Ub _ (Va _ (Ub _ h)))
theorem dy (h:e∈jf a q b d k):e∈kf a b c j q d k:=
 Va _ (Ub _ h)
structure Kq (w w':N)(jb bx mb:Nat)(J:Jn)(S:Dk)(F:List Nat):Prop where
 ex:∃sv ov ba cap bs,JW w' jb bx mb J sv ov/\PD w' bx S ba cap bs/\∀b∈kf jb bx mb sv ov ba bs,b∈F\/w.heap.size<=b
 off:an F w w'
theorem aP {F G:List Nat}  (a:an F g h)(f:∀b∈G,b∈F\/g.heap.size<=b)(c:an G h i):an F g i:=by
 refine⟨c.os.trans a.os,c.tape.trans a.tape,c.output.trans a.output,Ya a.size c.size,λk d e=>?_⟩;rw[c.block k (Nat.lt_of_lt_of_le d a.size) λj=>?_]
 .exact a.block k d e
 grind
theorem Kq.trans {G:List Nat}(r:an k g h)(q:∀d∈G,d∈k\/g.heap.size<=d)(p:Kq h i a b c l o G):Kq g i a b c l o k:=by
 obtain⟨w,n,j,f,m,s,t,u⟩:=p.ex;refine⟨⟨w,n,j,f,m,s,t,λd v=>?_⟩,aP r q p.off⟩;rcases u d v with e|e
 .exact q d e
 exact ad (Ya r.size e)
theorem su (h:SM g a j)  (c:b∈gh j):b<g.heap.size:=by
 obtain⟨e,d⟩:=h.il c;exact d.lt
theorem JW.not (h:JW g a b c l j q)(s:PD g b o d e k)  (m:f∈gh j):f∉jf a q b d k:=by
 obtain⟨r,p⟩:=h.sm.il m;intro n;rcases Za.1 n with i|i
 .exact Ty p h.ja.head i
 rcases Wb.1 i with i|i
 .exact h.apart f m i
 grind [PD.not]
theorem fx (h:PD g a o b c k)  (j:d∈pf a b k):∃t l,af g d t l:=by
 cases k with
 | nil=>
  rcases Za.1 j with e|e
  .exact⟨_,_,e▸h.head⟩
  cases e
 | cons p r=>
  rcases Za.1 j with e|e
  .exact⟨_,_,e▸h.head⟩
  rcases Za.1 e with e|e
  .obtain⟨m,q,_⟩:=h.arr (by simp);grind
  obtain⟨i,f⟩:=List.getElem?_of_mem e;have n:=(Vd.1 f).1;have hlen:=h.len;exact⟨_,_,h.seg i d _ f (Xd (by omega))⟩
theorem iS {mv j:C}    (h:JA g a b l mv j)(m:PD g b o c d k)  (n:e∈jf a j b c k):∃t i,af g e t i:=by
 rcases Za.1 n with f|f
 .exact⟨_,_,f▸h.head⟩
 rcases Wb.1 f with f|f
 .obtain⟨i,p⟩:=au h.aN f;grind
 exact fx m f
theorem JW.Sm (h:JW g a b c l j q)(f:PD g b o d e k):c∉jf a q b d k:=λi=>by
 obtain⟨t,n,m⟩:=iS h.ja f i;exact dD h.sm.own m rfl
theorem JW.jq (s:JW g a b c l j q)(v:PD g b o d e k)(w:Jq g h a b m (.map (Z c)) p (jf a q b d k))(D:m.ae=l.ae):
  ∃r i f n,JW h a b c m j r/\PD h b p i f n/\(∀x∈jf a r b i n,x∈jf a q b d k\/g.heap.size<=x)/\an (jf a q b d k) g h:=by
 obtain⟨r,i,f,n,A,B,y⟩:=w.ex;refine⟨r,i,f,n,⟨A,s.sm.off w.off (s.Sm v) (λz u=>s.not v u),D.trans s.eq,λz u t=>?_⟩,B,y,w.off⟩;rcases y z (Va _ (eb _ t)) with t|t
 .exact s.not v u t
 have:=su s.sm u;omega
theorem JW.kq (t:JW g a b c l j q)(x:PD g b o d e k)(A:Jq g h a b m (.map (Z c)) p (jf a q b d k))(B:m.ae=l.ae):
  Kq g h a b c m p (kf a b c j q d k):=by
 obtain⟨s,n,i,r,u,v,E,w⟩:=t.jq x A B;refine⟨⟨j,s,n,i,r,u,v,λD y=>?_⟩,w.mono λF _ z=>dy z⟩;rcases Za.1 y with f|f
 .exact qb (f▸Xa ..)
 rcases Wb.1 f with f|f
 .exact qb (Va _ (eb _ f))
 grind [dy]
theorem mJ (J:Jn)(S:Dk)(t:ByteArray):(cM J S t).1.ae=J.ae/\(cM J S t).1.aN=J.aN/\(cM J S t).1.next=J.next/\(cM J S t).1.synced=J.synced/\(cM J S t).1.al=J.al/\(cM J S t).1.most=J.most:=by grind [cM]
theorem fV (J:Jn)(S:Dk):(aQ J S).1.ae=J.ae/\(aQ J S).1.al=J.al/\(aQ J S).1.most=J.most:=by grind [aQ]
theorem iv (J:Jn)(S:Dk)(t:ByteArray):(bf J S t).1.ae=J.ae:=by grind [bf]
theorem vX (J:Jn)(S:Dk)(a:Int)(t:ByteArray):(aY J S a t).1.ae=J.ae:=by grind [iv,mJ,fV,aY]
theorem xq (J:Jn)(S:Dk):(bR J S).1.ae=J.ae:=by grind [iv,fV,bR]
def bE (J:Jn)(S:Dk)(a:Int):Jn×Dk×Int:=
 if (cM J S (bytesOf (bC [115] a []))).2.2≠0 then cM J S (bytesOf (bC [115] a []))
 else if (aQ (cM J S (bytesOf (bC [115] a []))).1 (cM J S (bytesOf (bC [115] a []))).2.1).2.2≠0 then aQ (cM J S (bytesOf (bC [115] a []))).1 (cM J S (bytesOf (bC [115] a []))).2.1
 else ({(aQ (cM J S (bytesOf (bC [115] a []))).1 (cM J S (bytesOf (bC [115] a []))).2.1).1 with
     ae:=put dJ a J.aN J.ae,aN:=[],al:=a},(aQ (cM J S (bytesOf (bC [115] a []))).1 (cM J S (bytesOf (bC [115] a []))).2.1).2.1,0)
theorem pz {n:Int}(c:-9223372036854775808<=n)(d:n<=9223372036854775807):(Lit.int O n).wf=true:=by
 have a:Ue.min = -9223372036854775808:=rfl;have b:Ue.max=9223372036854775807:=rfl;grind [Lit.wf]
def sl (p:Int×C×List Int):Int×List Int:=(p.1,p.2.2)
theorem OW (x:Int×C×List Int)(l:my):(ins dJ x l).map sl=ins dJ (sl x) (l.map sl):=by
 induction l with
 | nil=>rfl
 | cons y l a=>grind [sl,ins]
theorem Jh (k:Int)(l:my):(del k l).map sl=del k (l.map sl):=by
 unfold del;rw[List.filter_map];rfl
theorem OX (k:Int)(b:C×List Int)(l:my):(put dJ k b l).map sl=put dJ k b.2 (l.map sl):=by
 unfold put;rw[OW,Jh];rfl
theorem eT {k:Int}{b:C×List Int}  {p:Int×C×List Int}(h:p∈put dJ k b j):p=(k,b)\/p∈j:=by
 unfold put at h;rcases (kA _ _ _).1 h with e|e
 .exact qb e
 exact ad (List.mem_filter.1 e).1
theorem JW.ae (s:JW g a b c l j q)(G:PD g b o d e k)(u:Int)
  (P:h.ownsMap Zb 3 (kg Em) c f (sD (put dJ u (q,l.aN) j))) (x:g.grownBy h (Z c)) (K:i=(h.setCell ⟨a,3,Y⟩ (Q Y 0 0)).setCell ⟨a,7,Y⟩ (I O u)):
  Kq g i a b c {l with ae:=put dJ u l.aN l.ae,aN:=[],al:=u} o (kf a b c j q d k):=by
 have D:an [c] g h:=⟨x.os,x.tape,x.output,x.size,λm n M=>x.block m n (λr=>M (by grind))⟩;have E:an [a] h i:=by rw[K];exact((an.refl _ _).set (Wa.2 rfl) _ _).set (Wa.2 rfl) _ _
 have y:a≠c:=λr=>dD s.sm.own s.ja.head r.symm
 have H:=Foot.af.off s.ja.head D (by simpa using y);have z:∀m∈q.ownBlock.toList,m∉[c]/\m∉[a]:=λm n=>by
  obtain⟨J,w⟩:=au s.ja.aN n;exact⟨λr=>dD s.sm.own w (Wa.1 r).symm,λr=>Ty w s.ja.head (Wa.1 r)⟩
 have B:∀m∈gh j,m∉[c]/\m∉[a]:=λm n=>by
  obtain⟨J,w⟩:=s.sm.il n;exact⟨λr=>dD s.sm.own w (Wa.1 r).symm,λr=>Ty w s.ja.head (Wa.1 r)⟩
 have A:∀m∈pf b d k,m∉[c]/\m∉[a]:=λm n=>by
  obtain⟨t,J,w⟩:=fx G n;exact⟨λr=>dD s.sm.own w (Wa.1 r).symm,λr=>PD.not G s.ja.head (by decide) (by decide) (by decide) (Wa.1 r▸n)⟩
 refine⟨⟨put dJ u (q,l.aN) j,Q Y 0 0,d,e,k,⟨⟨by rw[K];exact(H.set 3 _).set 7 _,⟨rfl,qb ⟨rfl,rfl⟩⟩⟩,⟨by have:=gJ (jR P) E (by simpa using y.symm);grind [gK,sD],Up.put oO oN s.sm.up _ _,?_⟩,by show put dJ u l.aN l.ae=(put dJ u (q,l.aN) j).map sl;rw[OX,s.eq];rfl,by grind [ed]⟩,cm (cm G D λm n=>(A m n).1) E λm n=>(A m n).2,?_⟩,(D.mono λm _ n=>Wa.1 n▸Xa ..).trans (E.mono λm _ n=>Wa.1 n▸dy (Xa ..))⟩
 .intro p v;rcases eT v with rfl|v
  .exact aq (aq s.ja.aN D λm n=>(z m n).1) E λm n=>(z m n).2
  have F:∀m∈p.2.1.ownBlock.toList,m∈gh j:=λm n=>Zc.2 ⟨p,v,n⟩
  exact aq (aq (s.sm.rows p v) D λm n=>(B m (F m n)).1) E λm n=>(B m (F m n)).2
 intro R F;refine qb ?_;rcases Za.1 F with r|r
 .exact r▸Xa ..
 rcases Wb.1 r with r|r
 .obtain⟨p,v,n⟩:=Zc.1 r;rcases eT v with rfl|v
  .exact dy (Va _ (eb _ n))
  exact Va _ (eb _ (Zc.2 ⟨p,v,n⟩))
 rcases Za.1 r with r|r
 .exact dy (r▸Xa ..)
 grind [gq,ed]
theorem uP {J:Jn}   {t:ByteArray}(h:Fit o a b)(d:aC J<=9223372036854775807):Fit (cM J o t).2.1 (a+2) (b+J.bU.size+t.size)/\(cM J o t).1.bU.size<=J.bU.size+t.size:=by
 have c:=nS (J:=J) h d;have e:=gz c (aC J) t d;unfold cM;split
 .exact⟨⟨c.aJ,Ya c.len (by omega),Ya c.use (by omega)⟩,Zd _ _⟩
 grind
set_option maxRecDepth 10000 in
theorem QM (w0 w:N)(HT:gp w0)(h0:Below w0.heap.size w0 w)(j i p:Nat)(J:Jn)(A:my)(X:C)(S:Dk)(V d2:Nat)(W:List Nat)(d:Int)(k u:Nat)(h:JW w j i p J A X)(hP:PD w i S V d2 W)(a5:∀b∈kf j i p A X V W,w0.heap.size<=b)(HF:Fit S k u)(hk:k<=10000000)(hu:u+2*J.bU.size<=100000000000)(c6:J.aN≠[])(f8:J.aN.length<=100000000)(f0:A.length<=1000000000)(e3:J.synced<=1000000000000)(e5:-9223372036854775808<=aC J)(b8:aC J<=9223372036854775807)(b6:-9223372036854775808<=d)(b7:d<=9223372036854775807):
  Calls Zb 89 #[ca (Z ⟨j,0,Y⟩),I O d] w λe w'=>∃v,e=Ua v/\fj w' v (bE J S d).2.2/\Kq w w' j i p (bE J S d).1 (bE J S d).2.1 (kf j i p A X V W):=by
 have f9:(bytesOf (bC [115] d [])).size<=44:=by
  have:=jZ [115] b6 b7 (t:=[]) (by simp);show (bC [115] d []).toArray.size<=_;omega
 have e4:=written ⟨#[115]⟩ d ⟨#[]⟩ w (HT.below h0) (by decide) b6 b7 (by decide);have d1:=aa (show ∀z,B z=bC (B ⟨#[115]⟩) d (B ⟨#[]⟩)->z=bytesOf (bC [115] d []) from λz hz=>Bytes.bo (by rw[hz];rfl));obtain⟨g,S1,e1,q⟩:∃g S1 e1,cM J S (bytesOf (bC [115] d []))=(g,S1,e1):=⟨_,_,_,rfl⟩;obtain⟨n,S2,e2,r⟩:∃n S2 e2,aQ g S1=(n,S2,e2):=⟨_,_,_,rfl⟩;have HE:=aa (show bE J S d=if e1≠0 then (g,S1,e1) else if e2≠0 then (n,S2,e2) else ({n with ae:=put dJ d J.aN J.ae,aN:=[],al:=d},S2,0) by unfold bE;rw[q,r]);have a6:=aa (uP (t:=bytesOf (bC [115] d [])) HF b8);have b9:=aa (mJ J S (bytesOf (bC [115] d [])));have c9:=aa (fV g S1);have c8:=aa (sI g S1);rw[q]at a6 b9;rw[r]at c9 c8;have s:∀b∈jf j X i V W,w0.heap.size<=b:=λb G=>a5 b (dy G)
 have HA:=aa h;have HP:=aa hP;change Hid _ at HT;have D:=aa h0;change Hid _ at s HF c6;have c4:=aa (Maps.keyOf_int_mk (P:=Zb) (k:=3) Tryz.underlying3 (pz b6 b7));change Hid _ at q r;clear h hP h0 a5;go_in;go_wp2_with fail;refine e4.mono ?_;clear e4;rintro e w1 ⟨⟨z,rfl,hz⟩,H⟩;obtain rfl:=d1.out z hz;have a7:=aa H;have b2:=aa (HA.keep H);have b0:=aa (HP.keep H);have c0:=aa (D.trans (H.mono D.size));clear hz H d1;have b4:=add w0 w1 HT c0 j i J (.map (Z p)) X S V d2 W (bytesOf (bC [115] d [])) k u b2.ja b0 s HF (by omega) (by omega) c6 (by omega) e3 e5 b8;rw[q.out]at b4;generalize bytesOf (bC [115] d [])=zb at *;go_wp2_with fail;refine b4.mono ?_;clear b4;rintro e w2 ⟨v,rfl,hv,hq⟩;have m:Hid (g.ae=J.ae/\g.aN=J.aN/\g.next=J.next/\g.synced=J.synced/\_):=b9;have e9:Hid (Kq w w2 j i p g S1 (kf j i p A X V W)):=Kq.trans (an.ag a7) (λb G=>qb G) (b2.kq b0 hq m.1);rcases hv with ⟨he,rfl⟩|⟨f,fb,fz,rfl,M⟩
 .have he:e1=0:=he;subst he;obtain⟨a3,a1,d4,a2,b3,a0,d8,d9⟩:=b2.jq b0 hq m.1;have T:an (jf j X i V W) w w2:=(an.ag a7).trans d9;have a8:∀b∈jf j a3 i a1 a2,b∈jf j X i V W\/w.heap.size<=b:=λb G=>(d8 b G).imp id λh=>Ya a7.size h
  have K:∀b∈jf j a3 i a1 a2,w0.heap.size<=b:=λb G=>(a8 b G).elim (s.out b) λh=>Ya D.size h
  have d6:Below w0.heap.size w0 w2:=D.trans (T.below s D.size);have o:aC g=aC J:=by unfold aC;rw[m.2.1]
  have f2:g.bU.size<=J.bU.size+zb.size:=a6.2;have b5:=yL w0 w2 HT d6 j i g (.map (Z p)) a3 S1 a1 d4 a2 (k+2) (u+J.bU.size+zb.size) b3.ja a0 K a6.1 (by omega) (by omega) (by rw[m.2.1];omega) (by rw[m.2.2.2.1];exact e3) (by rw[o];exact e5) (by rw[o];exact b8);rw[r.out]at b5;have d0:=aa b3;change Hid _ at a0;have e7:=aa T;change Hid _ at a8;clear b3 d8 d9 T K d6 o f2 hq;go_wp2_with fail;refine b5.mono ?_;clear b5;rintro e w3 ⟨v,rfl,hv,hq⟩;have b1:Hid (n.ae=g.ae/\_):=c9;have e6:Hid (n.aN=g.aN/\n.next=g.next):=c8;have c5:=aa (show ∀b∈kf j i p A a3 a1 a2,b∈kf j i p A X V W\/w.heap.size<=b from λb G=>by
   rcases Za.1 G with e|e
   .exact qb (e▸Xa ..)
   rcases Wb.1 e with e|e
   .exact qb (Va _ (eb _ e))
   exact(a8.out b e).imp dy id)
  have a4:Hid (an (kf j i p A X V W) w w2):=e7.mono λk _ hk=>dy hk
  rcases hv with ⟨he,rfl⟩|⟨f,fb,fz,rfl,M⟩
  .have he:e2=0:=he;subst he;obtain⟨U,f5,f4,f6,d5,c7,c1,e0⟩:=d0.jq a0 hq b1.1;have l:=aa d5;change Hid _ at c7 c1;have e8:=aa e0;clear d5 e0 hq;have c2:=l.ja.head.Ri 2;have c3:=l.ja.head.Ri 3;obtain⟨w4,f1,a9,y⟩:=(show w3.drew.ownsMap Zb 3 (kg Em) p A.length (sD A) from l.sm.own).update (t:=131) (val:=U) (int_keyed Tryz.underlying3) Tryz.underlying131 (Nat.lt_of_le_of_lt f0 (by decide)) c4 (kr (ok:=Em) (by obtain⟨a,c,h⟩:=ak l.ja.aN;rw[h];rfl));rw[show (sD A).put (Lit.int O d) (.held U)=sD (put dJ d (U,n.aN) A) from vq cB gS d (U,n.aN) A]at a9;change Hid _ at a9;have x:=aa (show w3.grownBy w4 (Z p) from⟨y.os,y.tape,y.output,y.size,y.block⟩);clear y;have R:af w4 j 137 #[ca (Z ⟨i,0,Y⟩),I O n.most,.map (Z p),U,I O (n.synced:Int),L n.bU,I O n.next,I O n.al]:=
    Foot.af.off (F:=[p]) l.ja.head ⟨x.os,x.tape,x.output,x.size,λk hk HF=>x.block k hk (λe=>HF (by grind))⟩ (λe=>dD l.sm.own l.ja.head (Wa.1 e).symm)
   have d3:=R.Ri 3;have f3:=R.frozen 3;have d7:=(R.set 3 (Q Y 0 0)).Ri 7;have f7:=(R.set 3 (Q Y 0 0)).frozen 7;clear R;go_wp2_with fail;go_region
   all_goals
    clear f1 c2 c3;go_wp2_with fail;go_ret;have hr:=l.ae c7 d a9 x rfl;rw[e6.1,m.2.1,b1.1,m.1]at hr;refine⟨_,rfl,by rw[HE.out,if_neg (by simp),if_neg (by simp)];exact qb ⟨rfl,rfl⟩,?_⟩;rw[HE.out,if_neg (by simp),if_neg (by simp)];refine Kq.trans a4 c5 (Kq.trans (e8.mono λk _ hk=>dy hk) (λb G=>?_) hr);rcases Za.1 G with e|e
    .exact qb (e▸Xa ..)
    rcases Wb.1 e with e|e
    .exact qb (Va _ (eb _ e))
    exact(c1.out b e).imp dy id
  have f:e2≠0:=f;have E:=aa (show bE J S d=(n,S2,e2) by rw[HE.out,if_neg (by simp),if_pos f]);have HV:Hid (fj w3 (.iface 212 (ca (Z ⟨fb,0,Y⟩))) e2):=ad ⟨f,fb,fz,rfl,M⟩;have HQ:=aa (Kq.trans a4 c5 (d0.kq a0 hq b1.1));clear M hq;go_wp2_with fail;go_ret;exact⟨_,rfl,by rw[E.out];exact HV,by rw[E.out];exact HQ⟩
 have f:e1≠0:=f;have E:=aa (show bE J S d=(g,S1,e1) by rw[HE.out,if_pos f]);have HV:Hid (fj w2 (.iface 212 (ca (Z ⟨fb,0,Y⟩))) e1):=ad ⟨f,fb,fz,rfl,M⟩;clear M hq;go_wp2_with fail;go_ret;exact⟨_,rfl,by rw[E.out];exact HV,by rw[E.out];exact e9⟩
end Jr
end Go.Proofs.YtpndiccohnafbaaGreatDoor
