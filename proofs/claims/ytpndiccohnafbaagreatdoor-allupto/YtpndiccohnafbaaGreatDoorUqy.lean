/- The law of daemons on disks that fail: a list that came out is told. -/
import Derived.Test.YtpndiccohnafbaaGreatDoorCr
import Derived.BigQuiet
import Derived.Test.YtpndiccohnafbaaGreatDoorUhy
section
open Go renaming World->N
namespace Go.Proofs.YtpndiccohnafbaaGreatDoor.Cq
open Go.RowKit
variable {P : Program} {ops : Array Oper} {C : N -> Prop} {Q : Exit -> Act -> N -> Prop}
def Sw:Op->Bool
 | .move _|.assign _|.load _ _|.fieldAddr _ _ _|.indexAddr _ _ _|.extract _ _|.binOp _ _ _ _ _|.slice _ _ _ _ _|.nilCheck _|.unOp _ _ _=>true
 | _=>false
variable {a:N}{b:Act}
theorem Iz {o:Oper}   {v:Value}(k:Sw o.op=true)(h:o.quietAt P b C a v):(execOp b.eval o).run P a=.ok (.value v) a:=by
 have m:∀{α:Type} (s:Sem α) (f:α->Sem Next) (a:N) n c,(∀x l,(f x).run P l=.ok n c->∃u,n=.value u)->(s >>= f).run P a=.ok n c->∃u,n=.value u:=λs f a n c p g=>by
  rw[Sem.run_bind]at g;cases q:Sem.run P s a with
  | ok u t=>
   rw[q]at g;exact p _ _ g
  | halt x t=>simp_all
 have i:∀(u:Value) (a:N) n c,(pure (.value u):Sem Next).run P a=.ok n c->∃u,n=.value u:=λu a n c g=>by grind [Sem.run_pure]
 have key:∀n c,(execOp b.eval o).run P a=.ok n c->∃u,n=.value u:=λn c d=>by
  have r:∀s:Sem Value,(do pure (.value (<-s)):Sem Next).run P a=.ok n c->∃u,n=.value u:=λs g=>m s _ _ _ _ (λx l=>i _ _ _ _) g
  unfold execOp at d;split at d<;>rename_i e<;>rw[e]at k<;>first|(simp[Sw]at k;done)|exact r _ d|exact i _ _ _ _ d|skip
  dsimp only at d;split at d
  all_goals first|exact i _ _ _ _ d|(simp[go_sem]at d;done)|skip
  split at d
  all_goals first|exact i _ _ _ _ d|(simp[go_sem]at d;done)|skip
  grind
 unfold Oper.quietAt at h;cases j:(execOp b.eval o).run P a with
 | ok n c=>
  obtain⟨u,rfl⟩:=key n c j;rw[j]at h;obtain⟨rfl,rfl⟩:=h;rfl
 | halt x c=>
  rw[j]at h;cases h
def QA : Oper := ⟨none, .move (.const undef), 0, "", #[], none⟩
def LZ (ops:Array Oper)(m:Nat):List Nat->Array Bool->Bool
 | [],_=>true
 | i ::l,listed=>(match ops[i]? with|some o=>Sw o.op|none=>false)&&(decide (i<m)&&(Region.free .any ops listed i&&((Region.ready .any ops listed).contains i&&LZ ops m l (listed.setIfInBounds i true))))
theorem sM {m:Nat}  (p:oq .any ops m=true)(q:Region.noSelect ops=true)(r:∀c (g:Act) (i:Nat) v a,Q (.panic c) (g.put (some i) v) a->Q (.panic c) g a)(k:C a){f:Nat}:∀(e:List Nat) (b:Array Bool) (g:Act),LZ ops m e b=true->
  wpQuiet P ops C (λz=>im P ops C m Q f (e.foldl (λl i=>l.setIfInBounds i true) b) z a) (e.map λi=>(ops[i]?).getD QA) g->im P ops C m Q (f+e.length) b g a
 | [],_,_,_,h=>h
 | i ::e,b,g,hB,h=>by
  unfold LZ at hB;simp only[Bool.and_eq_true,decide_eq_true_eq]at hB;obtain⟨o,t,u,w,x⟩:=hB;have y:∀(d:Option Nat) v c (g:Act) a,Q (.panic c) (g.put d v) a->Q (.panic c) g a:=λd v c g a h=>by
   cases d with
   | none=>exact h
   | some i=>exact r c g i v a h
  cases n:ops[i]? with
  | none=>rw[n]at o;cases o
  | some s=>
   rw[n]at o;rw[List.map_cons,n,Option.getD_some]at h;rw[show f+(i ::e).length=(f+e.length)+1 from rfl];unfold wpQuiet at h;by_cases j:Region.wanted s (yielded ops g.tmps)=true
   .rw[if_pos j]at h;obtain⟨v,A,B⟩:=h;exact ay n t p q u w (y s.dst _) (.inl ⟨j,λa k=>Iz o (A a k)⟩) k (sM p q r k e _ _ x B)
   rw[if_neg j]at h;exact ay n t p q u w (y s.dst _) (.inr ⟨by simpa using j,rfl⟩) k (sM p q r k e _ _ x h)
theorem kL {m f F:Nat}{d:Array Bool}   (e:List Nat)(o:C a)(g:(oq .any ops m&&(Region.noSelect ops&&LZ ops m e d))=true)(n:∀c (b:Act) (i:Nat) v a,Q (.panic c) (b.put (some i) v) a->Q (.panic c) b a)(k:F=f+e.length)
  (h:wpQuiet P ops C (λj=>im P ops C m Q f (e.foldl (λl i=>l.setIfInBounds i true) d) j a) (e.map λi=>(ops[i]?).getD QA) b):im P ops C m Q F d b a:=by
 simp only[Bool.and_eq_true]at g;rw[k];exact sM g.1 g.2.1 n o e d b g.2.2 h
theorem yh {d:Nat}   {l:List Oper}(m:Nat)(c:P.follows .mixedOrders=true)(h:im P l.toArray (λe=>∃s:Bw a,e=s.val) m Q l.toArray.size (Array.replicate l.toArray.size false) b a.drew):(Code.region d l.toArray true).wp P Q b a:=dS _ m c h
structure In (C:N->Prop) where
 val:N
 is:C val
theorem In.has (h:C a):∃s:In C,a=s.val:=⟨⟨a,h⟩,rfl⟩
theorem Bw.has {b:N}(h:Below a.heap.size a b):∃s:Bw a,b=s.val:=⟨⟨b,h⟩,rfl⟩
end Go.Proofs.YtpndiccohnafbaaGreatDoor.Cq
end
set_option maxHeartbeats 9000000
open Go.Value renaming int->I,string->L,pointer->ca,slice->Q,slice->eb
open Go.IntKind renaming i64->O,i64->Ue
open Option renaming some->Z,none->Y,getD_some->Zd
open Go.Ending renaming returned->Ua
open Or renaming inr->Va,inl->Wa
open List renaming length_append->Xa,mem_append_left->Ya,mem_singleton->qb,mem_append->Ub,length_singleton->Vb,mem_of_getElem?->Wb,getElem?_eq_getElem->Xb,mem_cons->Yb,map_append->Vc,getElem?_cons_zero->Xc,getElem?_cons_succ->Yc,getElem?_toArray->ad,map_cons->vd,map_nil->Ud,mem_map->Vd,length_take->Xd,length_map->te
open Go.Proofs.Tryz renaming prog->Za
open Go renaming World->N,Value->C,info_parts->zd,wpQuiet_nil->Ve
open Go.RowKit.Below renaming refl->Zb
open Nat renaming zero_le->Uc,le_trans->Wc,lt_of_lt_of_le->ed,le_of_eq->Ye
open And renaming intro->Zc
open Go.IntWalk renaming i64_in->Xe
namespace Go.Proofs.YtpndiccohnafbaaGreatDoor.Lw
open Go.RowKit Go.Maps Go.Shelf Mem Foot Bytes Im Wm Hi Plainw Cq Dm Dh Jr Wi Sk Hn Kr Dd
set_option maxRecDepth 100000 in
theorem Oy (a:Int)(s:ByteArray)(w:N):(binOp .eql 47 (.agg #[I O a,L s]) (.agg #[I O a,L s])).run Za w=.ok (.bool true) w:=by
 have c:Za.underlying 47=Z (.struct (Za.fieldsOf 47)):=by kernel_rfl
 have d:Za.stoodInHeld 47=false:=by kernel_rfl
 have b : (Za.fieldsOf 47).toList.map (fun f => (f.name, f.type, f.offset)) = [("Window", 3, 0), ("Text", 9, 1)] := by kernel_rfl
 rw[run_eql_struct,run_equalIn_agg w 9999 _ _ _ c d];generalize (Za.fieldsOf 47).toList=e at b;clear c d;rcases e with _|⟨f,_|⟨g,_|⟨x,r⟩⟩⟩
 .simp at b
 .simp at b
 .simp only[vd,Ud,List.cons.injEq,Prod.mk.injEq,and_true]at b;obtain⟨⟨c,d,h⟩,i,j,k⟩:=b;simp only[Op.eqFields,c,d,h,i,j,k];go_simp
 simp at b
variable {a:List Ms}{g:Nat}{u:C}
theorem IG {l:List Ms}(h:kh l):∀x∈l,∀y∈l,x.k=y.k->x=y:=by
 induction l with
 | nil=>intro x d;cases d
 | cons a l g=>
  have h:=List.pairwise_cons.1 h;intro x d y f e;rcases Yb.1 d with c|c
  .rcases Yb.1 f with b|b
   .rw[c,b]
   have:=h.1 y b;rw[c]at e;omega
  rcases Yb.1 f with b|b
  .have:=h.1 x c;rw[b]at e;omega
  exact g h.2 x c y b e
theorem Hm (r:Nat)(w:N)(a n:Nat):Calls Za 11 #[ca (Z ⟨r,0,Y⟩),.bool true] (w.drewN (a+n)) λe w'=>e=Ua (.tuple #[])/\∃m,w'=w.drewN (a+m):=
 (dX r _).mono λ_ _ h=>⟨h.1,n,h.2⟩
theorem cF {w w':N}{a:Addr}{v:C}(h:w.cell? a=Z v)(b:Below w.heap.size w w'):w'.cell? a=Z v:=(b.cell (World.block_lt_of_cell? w a h)).trans h
structure Tq (w W:N)(r:Nat)(R:Rn)(l0:List Ms)(tp:Int)(p:Rp)(F:List Nat)(n:Nat)(l:C)(E:List Ms)(ev:C):Prop where
 ra:RA W r {R with ever:=E} {p with ev:=ev} F
 fl:∀k∈F,k<W.heap.size
 rel:ia E R.gone R.sl l0 tp n
 row:W.ownsRow 0 47 2 l l0.length (aH l0)
 out:∀k∈l.ownBlock.toList,k∉rf r {p with ev:=ev} F
 fp:∀k∈rf r {p with ev:=ev} F,k∈rf r p F\/w.heap.size<=k
 off:an (lf r p) w W
theorem Tq.keep {w W W':N}{r:Nat}{R:Rn}  {c:Int}{p:Rp}{F:List Nat}{n:Nat}{l:C}{E:List Ms}  (h:Tq w W r R a c p F n l E u)(b:Below W.heap.size W W'):Tq w W' r R a c p F n l E u:=
 ⟨h.ra.keep b,λk d=>ed (h.fl k d) b.size,h.rel,aE h.row b,h.out,h.fp,h.off.trans (an.ag b)⟩
theorem Nf {w:N}{r n0:Nat}{R:Rn}{p p':Rp}{F:List Nat}(b:RA w r R p' F)(a:∀k∈rf r p' F,k∈rf r p F\/n0<=k):∀k∈lf r p',k∈lf r p\/n0<=k:=λk c=>(a k (Ya _ c)).elim (λe=>(Ub.1 e).elim Wa λe=>absurd e (b.ap k c)) Va
set_option maxRecDepth 10000 in
theorem NB {w:N}{r:Nat}{R:Rn}  {tp:Int}{p:Rp}{F:List Nat}{n:Nat}  (h:RA w r R p F)(hF:∀k∈F,k<w.heap.size)(hr:ia R.ever R.gone R.sl a tp n)(k4:kh a)(q9:a.length<=n)(i5:∀x∈a,x.k<=tp)(hn:n<=9000000)(c0:w.ownsRow 0 47 2 u a.length (aH a))(h9:∀k∈u.ownBlock.toList,k∉rf r p F)(r5:p.ls.length<=100000000):
  Calls Za 45 #[ca (Z ⟨r,0,Y⟩),u] w λe w'=>e=Ua (.tuple #[])/\∃E p',RA w' r {R with ever:=E} p' F/\ia E R.gone R.sl a tp n/\p'.ls.length=p.ls.length+1/\(p'.xv=p.xv/\p'.bx=p.bx/\p'.dv=p.dv/\p'.hv=p.hv)/\(∀k∈rf r p' F,k∈rf r p F\/k∈u.ownBlock.toList\/w.heap.size<=k)/\an (lf r p++u.ownBlock.toList) w w':=by
 obtain⟨la,T,p5⟩:=ak c0;obtain⟨i0,hi,l1,l2,l3⟩:=zd Aa;subst p5;have HT:=aa (show Tq w w r R a tp p F n (Q la a.length T) R.ever p.ev from⟨h,hF,hr,c0,h9,λk c=>Wa c,an.refl _ _⟩);have HU:=aa (IG k4);change Hid _ at i5;have hq:=Oy;change Hid _ at h9;clear h hr c0 k4 hF;go_in;go_wp2_with fail;go_loopw [4] (λs4 W=>∃(i:Nat) (E:List Ms) (ev:C),s4=I O (i:Int)/\i<=a.length/\Hid (Tq w W r R a tp p F n (Q la a.length T) E ev)) (λs4 _=>a.length - (intOf s4).toNat)
 case atStart=>exact⟨0,_,_,rfl,by omega,HT⟩
 case round=>
  obtain⟨i,E,ev,rfl,q6,o⟩:=hrel;clear HT;by_cases p1:i<a.length
  .have j7:(i:Int)<(a.length:Int):=by omega
   have r4:¬(i:Int)<0:=by omega
   obtain⟨m,s⟩:∃m,a[i]? = Z m:=⟨_,Xb p1⟩;obtain⟨g,gc,p0,r2,_,r3,x0,x1,_,_⟩:=jz o.row s;injection p0 with o6 r1 o7;subst o6;subst o7;have U:=aa (Wb s);change Hid _ at s;obtain⟨ea,ec,D⟩:=ak o.ra.rows.ever;have D:ev=Q ea E.length ec:=D;have i7:wr.cell? ⟨r,14,Y⟩=Z (Q ea E.length ec):=by
    have hh:=o.ra.head;unfold fe at hh;exact D▸hh.Ri 14
   obtain⟨ga,o1,e8⟩:=ak o.ra.rows.gone;have n3:wr.cell? ⟨r,15,Y⟩=Z (Q ga R.gone.length o1):=by
    have hh:=o.ra.head;unfold fe at hh;exact e8▸hh.Ri 15
   change Hid _ at D e8;have r0:E.length<=n:=o.rel.Th;have q5:R.gone.length<=n:=o.rel.GG;go_wp2_with fail;go_loopw [5,6] (λs5 s6 W=>∃(k q:Nat),s5=.bool ((E.take k).any λx=>decide (x.k=m.k))/\s6=I O (k:Int)/\k<=E.length/\W=wr.drewN q) (λ_ s6 _=>E.length - (intOf s6).toNat)
   case atStart=>exact⟨0,0,rfl,rfl,by omega,rfl⟩
   case round=>
    obtain⟨k,q,rfl,rfl,c,rfl⟩:=hrel;by_cases a4:k<E.length
    .have d5:(k:Int)<(E.length:Int):=by omega
     have p3:¬(k:Int)<0:=by omega
     obtain⟨x,hx⟩:∃x,E[k]? = Z x:=⟨_,Xb a4⟩;obtain⟨f,fc,a0,o4,_,o5,y0,y1,_,_⟩:=jz o.ra.rows.ever hx;have a0:=D.out▸a0;injection a0 with g7 _ g8;subst g7;subst g8;have f8:E.take (k+1)=E.take k++[x]:=by rw[List.take_add_one,hx];rfl
     change Hid _ at f8;have h2:=aa (wy m.k (E.take k) x);have c1:x.k=m.k->x=m:=(o.rel.Oe x (Wb hx)).2 m U;clear hx;generalize d2:(E.take k).any (λx=>decide (x.k=m.k))=bq at *;by_cases h1:x.k=m.k
     .have q1:=c1 h1;subst q1;clear c1 h1;go_wp2_with fail;go_quiet (fail);go_wp2_with fail;go_quiet (exact Hm r _ _ _);go_wp2_with fail;refine⟨⟨k+1,_,by rw[f8.out,h2.out];simp,by rfl,by omega,rfl⟩,by simp only[intOf];omega⟩
     clear c1;go_wp2_with fail;go_quiet (fail);go_wp2_with fail;refine⟨⟨k+1,_,by rw[f8.out,h2.out,decide_eq_false h1,Bool.or_false],by rfl,by omega,rfl⟩,by simp only[intOf];omega⟩
    have d5:¬(k:Int)<(E.length:Int):=by omega
    have p4:k=E.length:=by omega
    subst p4;rw[List.take_length];clear d5 c a4;go_wp2_with fail;go_loopw [7] (λs7 W=>∃(k q:Nat),s7=I O (k:Int)/\k<=R.gone.length/\W=wr.drewN q) (λs7 _=>R.gone.length - (intOf s7).toNat)
    case atStart=>exact⟨0,q,rfl,by omega,rfl⟩
    case round=>
     obtain⟨k,q,rfl,c,rfl⟩:=hrel;by_cases a4:k<R.gone.length
     .have d5:(k:Int)<(R.gone.length:Int):=by omega
      have p3:¬(k:Int)<0:=by omega
      obtain⟨x,hx⟩:∃x,R.gone[k]? = Z x:=⟨_,Xb a4⟩;obtain⟨f,fc,a0,o4,_,o5,hf⟩:=so o.ra.rows.gone a4;have y0:=(hf k (I O x) (by rw[List.getElem?_map,hx];rfl)).1;have a0:=e8.out▸a0;injection a0 with g7 _ g8;subst g7;subst g8;have c1:¬x=m.k:=(o.rel.KT x (Wb hx)).2 m U;clear hx hf;go_upto_region 13 with fail;have q2:(x != m.k)=true:=by simpa using c1
      go_quiet (first|(rw[q2];exact Hm r _ _ _)|exact Hm r _ _ _);go_wp2_with fail;refine⟨⟨k+1,_,by rfl,by omega,rfl⟩,by simp only[intOf];omega⟩
     have d5:¬(k:Int)<(R.gone.length:Int):=by omega
     clear c a4;have M:Below wr.heap.size wr (wr.drewN q):=ax (Zb _ _);have y:=aa (o.keep M);have e4:(wr.drewN q).cell? ⟨r,14,Y⟩=Z (Q ea E.length ec):=i7;have l5:(wr.drewN q).cell? ⟨g,i*2,Y⟩=Z (I O m.k):=x0;have l6:(wr.drewN q).cell? ⟨g,i*2+1,Y⟩=Z (L m.t):=x1;clear M;generalize d2:E.any (λx=>decide (x.k=m.k))=bq at *;cases bq with
     | true=>
      go_wp2_with fail;refine⟨⟨i+1,E,ev,by rfl,by omega,y⟩,by simp only[intOf];omega⟩
     | false=>
      have b9:∀x∈E,x.k≠m.k:=λx hx e=>by
       rw[List.any_eq_false]at d2;exact d2 x hx (decide_eq_true e)
      have n0:=aa (y.rel.seen HU i5 U b9);clear d2 b9;go_upto_region 15 with fail;clear i7 n3 x0 x1;generalize wr.drewN q=w6 at *;clear o;have b5:Hid (Below w6.heap.size w6 w6.drew):=(Zb _ _).drew;have b:=aa (show (λW:N=>W.cell? ⟨r,14,Y⟩=Z (Q ea E.length ec)/\W.cell? ⟨g,i*2,Y⟩=Z (I O m.k)/\W.cell? ⟨g,i*2+1,Y⟩=Z (L m.t)) w6.drew from⟨e4,l5,l6⟩);refine dS (λW=>W.cell? ⟨r,14,Y⟩=Z (Q ea E.length ec)/\W.cell? ⟨g,i*2,Y⟩=Z (I O m.k)/\W.cell? ⟨g,i*2+1,Y⟩=Z (L m.t)) 11 (by kernel_rfl) ?_;clear e4 l5 l6;generalize w6.drew=wd at *;refine Tu (i:=0) (v:=ca (Z ⟨r,0,Y⟩)) rfl (by intro W l;obtain⟨P,H,J⟩:=l;go_simp) b ?_;refine Tu (i:=1) (v:=ca (Z ⟨r,0,Y⟩)) rfl (by intro W l;obtain⟨P,H,J⟩:=l;go_simp) b ?_;refine Tu (i:=2) (v:=ca (Z ⟨r,0,Y⟩)) rfl (by intro W l;obtain⟨P,H,J⟩:=l;go_simp) b ?_;refine Tu (i:=3) (v:=ca (Z ⟨r,14,Y⟩)) rfl (by intro W l;obtain⟨P,H,J⟩:=l;go_simp) b ?_;refine Tu (i:=4) (v:=Q ea E.length ec) rfl (by intro W l;obtain⟨P,H,J⟩:=l;go_simp) b ?_;refine Tu (i:=5) (v:=Q (Z ⟨g,0,Y⟩) a.length T) rfl (by intro W l;obtain⟨P,H,J⟩:=l;go_simp) b ?_;refine Tu (i:=6) (v:=I O (i:Int)) rfl (by intro W l;obtain⟨P,H,J⟩:=l;go_simp) b ?_;refine Tu (i:=7) (v:=ca (Z ⟨g,i*2,Y⟩)) rfl (by intro W l;obtain⟨P,H,J⟩:=l;go_simp) b ?_;refine Tu (i:=8) (v:=.agg #[I O m.k,L m.t]) rfl (by intro W l;obtain⟨P,H,J⟩:=l;go_simp) b ?_;refine aW (j:=9) (λK d=>?_);go_simp;have G:=ai (w:=wd) (.cells #[I O m.k,L m.t] 47);have e7:=aa (b5.trans (G.mono b5.size));have b4:=aa (y.keep e7);have f7:=aa (show Apn.Src (wd.alloc (.cells #[I O m.k,L m.t] 47)) 2 (Z ⟨wd.heap.size,0,Y⟩) 1 [I O m.k,L m.t] from⟨rfl,by simp[Value.oneCell'],Va ⟨_,rfl,cell_two_new _ _ _ _⟩⟩);refine d _ _ (λ_=>⟨cF b.1 G,cF b.2.1 G,cF b.2.2 G⟩) ?_;clear d K G;generalize wd.alloc (.cells #[I O m.k,L m.t] 47)=w7 at *;refine aW (j:=10) (λK d=>?_);refine Apn.eG rfl (.tmp 83) (.tmp 88) 31 rfl 47 i0 (.agg #[I O 0,L ⟨#[]⟩]) 2 24 Tryz.underlying31 hi l1 l2 l3 rfl (by decide) (Q ea E.length ec) E.length (aH E) rfl (D.out▸b4.ra.rows.ever) _ 1 1 [I O m.k,L m.t] rfl f7 (by unfold maxLen;omega) (by omega) ?_;intro v8 w8 V j0 i3 _;obtain⟨g3,g4,rfl⟩:=ak V;have c9:an ev.ownBlock.toList w7 w8:=D.out▸cu j0;have p8:r∉ev.ownBlock.toList:=b4.ra.Kj.2.2.2.1;have a6:=Foot.af.off b4.ra.head c9 p8;unfold fe at a6;have n5:=a6.Ri 14;have n8:=a6.frozen 14;have j9:=aq b4.row c9 (λk c e=>b4.out.out k c (Ya _ (tr e)));obtain⟨g',_,j6,_,_,_,z0,z1,_,_⟩:=jz j9 s;injection j6 with j3 o8 o9;clear o8 o9;injection j3 with j4;injection j4 with j5;subst j5;have h6:=aa (a6.set 14 (Q g3 (E.length+1) g4));change Hid _ at V c9 i3;refine d _ _ (λ_=>⟨D.out▸a6.Ri 14,z0,z1⟩) ?_;clear d K j0 a6 j9 z0 z1;go_simp;refine aW (j:=11) (λK d=>?_);go_simp;refine d _ _ (λh=>absurd h (by decide)) ?_;clear d K;refine aW (j:=12) (λK d=>?_);go_simp;refine d _ _ (λh=>absurd h (by decide)) ?_;clear d K;refine aW (j:=13) (λK d=>?_);go_simp;refine d _ _ (λh=>absurd h (by decide)) ?_;clear d K;refine Tz ?_;clear n5 n8;obtain⟨e5,b8,a1⟩:=y.ra.PW y.fl (m:=m) e7 (ev':=Q g3 (E.length+1) g4) c9 (by
       have:=V.out;rw[fu,Xa];exact this) (λk c=>by
       rcases i3.out with e|⟨g,e1,e2⟩
       .rw[e]at c;exact Wa (D.out▸c)
       rw[e1]at c;have:=e7.size;exact Va (by simp at c;omega)) ((an.refl _ _).set (qb.2 rfl) _ _) h6
      have p6:=y.off.size;have m9:=aa (show Tq w _ r R a tp p F n (Q (Z ⟨g,0,Y⟩) a.length T) (E++[m]) (Q g3 (E.length+1) g4) from⟨e5,λk c=>ed (y.fl k c) a1.size,n0,aq y.row a1 (λk c e=>y.out.out k c (Ya _ e)),λk c s=>by
       rcases b8 k s with e|e
       .exact y.out.out k c e
       have:=kE y.row c;omega,λk c=>(b8 k c).elim (y.fp k) λh=>Va (Wc p6 h),aP y.off (Nf y.ra y.fp) a1⟩)
      clear e5 b8 a1 h6;go_wp2_with fail;go_roundw
      case rel=>exact⟨i+1,_,_,by go_num,by omega,m9⟩
      case measure=>simp[intOf];omega
  have j7:¬(i:Int)<(a.length:Int):=by omega
  obtain⟨f9,b6,g5⟩:=ak o.ra.rows.lists;have a8:=aa g5;have g2:wr.cell? ⟨r,23,Y⟩=Z (Q f9 p.ls.length b6):=by
   have hh:=o.ra.head;unfold fe at hh;exact g5▸hh.Ri 23
  have r8:Ue.wrap (-1 - (p.ls.length:Int)) = -1 - (p.ls.length:Int):=Xe _ (by omega);obtain⟨z,HZ⟩:∃z:Ms,z=⟨-1 - (p.ls.length:Int),⟨#[]⟩⟩:=⟨_,rfl⟩;have i1:Hid (af (wr.alloc (.cells #[I O (-1 - (p.ls.length:Int)),L ⟨#[]⟩] 47)) wr.heap.size 47 #[I O z.k,L z.t]):=HZ▸af.new wr 47 #[I O (-1 - (p.ls.length:Int)),L ⟨#[]⟩];have e6:=aa (ai (w:=wr) (.cells #[I O (-1 - (p.ls.length:Int)),L ⟨#[]⟩] 47));have e9:=aa (show ∀k∈(eb la a.length T).ownBlock.toList,k<wr.heap.size from λk c=>kE o.row c);have f6:=aa (aE o.row e6);change Hid _ at HZ;generalize l8:wr.heap.size=B at i1 e9;go_upto_region 17 with fail;change Hid _ at l8;clear g5 g2 j7;generalize wr.alloc (.cells #[I O (-1 - (p.ls.length:Int)),L ⟨#[]⟩] 47)=w3 at *;go_wp2_with fail;generalize wr=wq at *;go_loopw [9] (λs9 W=>∃i:Nat,s9=I O (i:Int)/\i<=a.length/\Hid (W.ownsRow 0 47 2 (Q la a.length T) a.length (aH (filled i z a))/\an (eb la a.length T).ownBlock.toList wq W/\af W B 47 #[I O z.k,L z.t]/\wq.heap.size<=W.heap.size)) (λs9 _=>a.length - (intOf s9).toNat)
  case atStart=>exact⟨0,rfl,by omega,by rw[wR];exact f6,an.ag e6,i1,e6.size⟩
  case round=>
   obtain⟨j,rfl,hj,HR⟩:=hrel;have b0:=HR.2.2.1.Ri 0;have b1:=HR.2.2.1.Ri 1;by_cases g9:j<a.length
   .have p2:(j:Int)<(a.length:Int):=by omega
    obtain⟨vb,q8,q0,p9,r6,r7,H,J,g0,g1⟩:=jz HR.1 (zQ g9);injection q0 with e1 em e2;clear em;subst e1;subst e2;have k3:vb≠B:=by
     have:=e9.out vb (by simp[Value.ownBlock]);omega
    have n2:=aa (Ih z (i:=j) (by rw[tm hj];exact g9) HR.1);have m2:=aa (zR (z:=z) g9);have k2:vb∈(eb (Z ⟨vb,0,Y⟩) a.length T).ownBlock.toList:=by simp[Value.ownBlock]
    have m8:=aa ((HR.2.1.set k2 (j*2) (I O z.k)).set k2 (j*2+1) (L z.t));have n1:Hid (af ((wr.setCell ⟨vb,j*2,Y⟩ (I O z.k)).setCell ⟨vb,j*2+1,Y⟩ (L z.t)) B 47 #[I O z.k,L z.t]):=(Below.heap_setCell _ _ _ _ (Ne.symm k3)).trans ((Below.heap_setCell _ _ _ _ (Ne.symm k3)).trans HR.2.2.1);go_wp2_with fail;go_roundw
    case rel=>exact⟨j+1,by go_num,by omega,by rw[<-m2.out];exact n2,m8,n1,by simpa using HR.2.2.2⟩
    case measure=>simp[intOf];omega
   have p2:¬(j:Int)<(a.length:Int):=by omega
   obtain rfl:j=a.length:=by omega
   have V:=HR.1;rw[zP]at V;change Hid _ at V;have d6:∀k∈lf r {p with ev:=ev},k∉(eb la a.length T).ownBlock.toList:=λk c e=>o.out.out k e (Ya _ c)
   have d4:=Foot.af.off o.ra.head HR.2.1 (d6 r (mA _ _));have c6:wr.ownsRow 0 31 1 p.lv p.ls.length (p.ls.map (·.1)):=aq o.ra.rows.lists HR.2.1 (λk c=>d6 k (An c));have m7:Hid (wr.ownsRow 0 31 1 (Q f9 p.ls.length b6) p.ls.length (p.ls.map (·.1))):=a8.out▸c6;change Hid _ at c6;have m6:=aa (aq o.ra.rows.grown HR.2.1 (λk c=>d6 k (xG c)));have h7:=aa d4;unfold fe at d4;have g2:wr.cell? ⟨r,23,Y⟩=Z (Q f9 p.ls.length b6):=a8.out▸d4.Ri 23;obtain⟨m0,s,k7,k8,k9⟩:=zd KY;clear d4 d6;go_upto_region 22 with (at_builtin;refine Apn.gD _ rfl (.tmp 113) (.tmp 115) 38 rfl 31 m0 (Q Y 0 0) 1 24 Tryz.underlying38 s k7 k8 k9 rfl (by decide) _ _ (p.ls.map (·.1)) rfl (m7.alloc _) _ 1 1 [Q la a.length T] rfl (kJ _ _ _ _ (by simp) rfl) (by unfold maxLen;omega) (by omega) ?_;intro v3 x3 o3 d0 d9 q4;obtain⟨a3,n4,rfl⟩:=ak o3;have d7:=xM h7 c6 (a8.out▸d0);unfold fe at d7;have n6:=d7.Ri 23;have n9:=d7.frozen 23;have U:=aa (Sl h7 c6 m6 o.ra.rows.e2 V HR.2.2.1 (a8.out▸d0) o3);change Hid _ at d9;have q7:=d0;clear d7 d0 o3 q4);clear n6 n9 g2 b0 b1;generalize x3.setCell ⟨r,23,Y⟩ (Q a3 (p.ls.length+1) n4)=x4 at *;obtain⟨X,A,g6⟩:=ak U.grown;have a9:Hid (p.kv=Q X p.ls.length A):=g6;have h4:=aa (show x4.cell? ⟨r,24,Y⟩=Z (Q X p.ls.length A)/\x4.cell? ⟨B,0,Y⟩=Z (I O z.k)/\x4.cell? ⟨B,1,Y⟩=Z (L z.t) from by
    have hh:=U.head;unfold fe at hh;exact⟨g6▸hh.Ri 24,U.box.Ri 0,U.box.Ri 1⟩)
   have b5:Hid (Below x4.heap.size x4 x4.drew):=(Zb _ _).drew;have b:Hid ((λW:N=>W.cell? ⟨r,24,Y⟩=Z (Q X p.ls.length A)/\W.cell? ⟨B,0,Y⟩=Z (I O z.k)/\W.cell? ⟨B,1,Y⟩=Z (L z.t)) x4.drew):=h4;refine dS (λW=>W.cell? ⟨r,24,Y⟩=Z (Q X p.ls.length A)/\W.cell? ⟨B,0,Y⟩=Z (I O z.k)/\W.cell? ⟨B,1,Y⟩=Z (L z.t)) 13 (by kernel_rfl) ?_;clear g6 h4;generalize x4.drew=wd at *;refine Tu (i:=0) (v:=ca (Z ⟨r,0,Y⟩)) rfl (by intro W l;obtain⟨S,H,J⟩:=l;go_simp) b ?_;refine Tu (i:=1) (v:=ca (Z ⟨r,0,Y⟩)) rfl (by intro W l;obtain⟨S,H,J⟩:=l;go_simp) b ?_;refine Tu (i:=2) (v:=ca (Z ⟨r,0,Y⟩)) rfl (by intro W l;obtain⟨S,H,J⟩:=l;go_simp) b ?_;refine Tu (i:=3) (v:=ca (Z ⟨r,24,Y⟩)) rfl (by intro W l;obtain⟨S,H,J⟩:=l;go_simp) b ?_;refine Tu (i:=4) (v:=Q X p.ls.length A) rfl (by intro W l;obtain⟨S,H,J⟩:=l;go_simp) b ?_;refine Tu (i:=5) (v:=Q la a.length T) rfl (by intro W l;obtain⟨S,H,J⟩:=l;go_simp) b ?_;refine Tu (i:=6) (v:=.agg #[I O z.k,L z.t]) rfl (by intro W l;obtain⟨S,H,J⟩:=l;go_simp) b ?_;refine Tu (i:=7) (v:=.agg #[I O z.k,L z.t]) rfl (by intro W l;obtain⟨S,H,J⟩:=l;go_simp) b ?_;refine Tu (i:=8) (v:=.agg #[I O z.k,L z.t]) rfl (by intro W l;obtain⟨S,H,J⟩:=l;go_simp) b ?_;refine aW (j:=9) (λK d=>?_);go_simp;have b7:=ai (w:=wd) (.cells #[I O z.k,L z.t,I O z.k,L z.t,I O z.k,L z.t] 47);have b2:=aa (b5.trans (b7.mono b5.size));have f7:=aa (pq wd z 47 wd.heap.size rfl);have m1:=aa (Zc (cF b.1 b7) (Zc (cF b.2.1 b7) (cF b.2.2 b7)));refine d _ _ (λ_=>m1) ?_;clear d K b7;generalize wd.alloc (.cells #[I O z.k,L z.t,I O z.k,L z.t,I O z.k,L z.t] 47)=xa at *;have i6:=aa (aE U.row b2);have m5:=aa (Mem.af.below U.head b2 U.head.lt);have l7:=aa (Mem.af.below U.box b2 U.box.lt);refine aW (j:=10) (λK d=>?_);refine Apn.eG rfl (.tmp 124) (.tmp 128) 31 rfl 47 i0 (.agg #[I O 0,L ⟨#[]⟩]) 2 24 Tryz.underlying31 hi l1 l2 l3 rfl (by decide) (Q la a.length T) a.length (aH (List.replicate a.length z)) rfl i6 _ 3 3 (aH (List.replicate 3 z)) rfl f7 (by unfold maxLen;omega) (by omega) ?_;intro v5 x5 c8 i8 e0 l4;obtain⟨a5,c5,rfl⟩:=ak c8;rw[IE]at c8;have b3:an (eb la a.length T).ownBlock.toList xa x5:=cu i8;have p7:r∉(eb la a.length T).ownBlock.toList:=λs=>o.out.out r s (Ya _ (mA _ _))
   have o2:B∉(eb la a.length T).ownBlock.toList:=λs=>by
    have:=e9.out B s;omega
   have d3:=Foot.af.off m5 b3 p7;have d1:=Foot.af.off l7 b3 o2;change Hid _ at b3 c8;have h5:=aa d3;have h3:=aa d1;change Hid _ at e0;have i4:=aa l4;unfold fe at d3;have c3:=aa (Zc (show x5.cell? ⟨r,24,Y⟩=Z (Q X p.ls.length A) from a9.out▸d3.Ri 24) (Zc (d1.Ri 0) (d1.Ri 1)));refine d _ _ (λ_=>c3) ?_;clear d K i8 l4 d3 d1;go_simp;refine aW (j:=11) (λK d=>?_);go_simp;have M:=ai (w:=x5) (.cells #[Q a5 (a.length+3) c5] 31);have c2:=aa M;have i2:=aa (kJ x5 (Q a5 (a.length+3) c5) 31 x5.heap.size rfl rfl);have l9:=aa (Zc (cF c3.1 M) (Zc (cF c3.2.1 M) (cF c3.2.2 M)));refine d _ _ (λ_=>l9) ?_;clear d K M;generalize x5.alloc (.cells #[Q a5 (a.length+3) c5] 31)=x6 at *;have m3:=aa (Mem.af.below h5 c2 h5.lt);have d8:=aa (Mem.af.below h3 c2 h3.lt);have h0:=aE U.grown b2;have j8:=aq h0 b3 (dM h0 i6 (by decide));have h8:=aa (aE j8 c2);clear h0 j8;refine aW (j:=12) (λK d=>?_);refine Apn.eG rfl (.tmp 123) (.tmp 130) 38 rfl 31 m0 (Q Y 0 0) 1 24 Tryz.underlying38 s k7 k8 k9 rfl (by decide) (Q X p.ls.length A) p.ls.length (p.ls.map (·.2)) rfl (a9.out▸h8.out) _ 1 1 [Q a5 (a.length+3) c5] rfl i2 (by unfold maxLen;omega) (by omega) ?_;intro v7 x7 f0 i9 e3 _;obtain⟨a7,c7,rfl⟩:=ak f0;have c4:an p.kv.ownBlock.toList x6 x7:=a9.out▸cu i9;have k5:r∉p.kv.ownBlock.toList:=o.ra.Kj.2.2.2.2.2.2;have j1:B∉p.kv.ownBlock.toList:=λs=>by
    obtain⟨cs,hs⟩:=au h8 s;exact Ty hs d8 rfl
   have a2:=Foot.af.off m3 c4 k5;have G:=Foot.af.off d8 c4 j1;have m4:=aa a2;change Hid _ at c4 f0 e3;unfold fe at a2;have n7:=a2.Ri 24;have o0:=a2.frozen 24;refine d _ _ (λ_=>⟨a9.out▸a2.Ri 24,G.Ri 0,G.Ri 1⟩) ?_;clear d K i9 a2 G k5 j1;go_simp;refine aW (j:=13) (λK d=>?_);go_simp;refine d _ _ (λh=>absurd h (by decide)) ?_;clear d K;refine aW (j:=14) (λK d=>?_);go_simp;refine d _ _ (λh=>absurd h (by decide)) ?_;clear d K;refine aW (j:=15) (λK d=>?_);go_simp;refine d _ _ (λh=>absurd h (by decide)) ?_;clear d K;refine Tz ?_;clear n7 o0;have q3:=HZ.out;subst q3;have j2:=Mt (p:={p with ev:=ev}) (R:={R with ever:=E}) o.ra o.fl o.out.out (by omega) HR.2.1 U (λk c=>by
    rcases d9.out with e|⟨g,e1,e2⟩
    .rw[e]at c;exact Wa (a8.out▸c)
    .rw[e1]at c;exact Va (by simp at c e2;omega)) b2 c8 b3 (λk c=>by
    rcases e0.out with e|⟨g,e1,e2⟩
    .rw[e]at c;exact Wa c
    .rw[e1]at c;exact Va (by simp at c;omega)) (i4.imp id λh=>(show an (Y:Option Nat).toList xa x5 from cu h)) c2 f0 c4 (λk c=>by
    rcases e3.out with e|⟨g,e1,e2⟩
    .rw[e]at c;exact Wa (a9.out▸c)
    rw[e1]at c;exact Va (by simp at c;omega)) m4
   obtain⟨p',f1,f2,f5,f3,f4⟩:=j2;have k6:=o.off.size;have HF:=aa (show RA _ r {R with ever:=E} p' F/\ia E R.gone R.sl a tp n/\p'.ls.length=p.ls.length+1/\(p'.xv=p.xv/\p'.bx=p.bx/\p'.dv=p.dv/\p'.hv=p.hv)/\(∀k∈rf r p' F,k∈rf r p F\/k∈(eb la a.length T).ownBlock.toList\/w.heap.size<=k)/\an (lf r p++(eb la a.length T).ownBlock.toList) w _ from⟨f1,o.rel,f2,f5,λk c=>by
    rcases f3 k c with h|h|h
    .exact(o.fp k h).imp id Va
    .exact Va (Wa h)
    .exact Va (Va (Wc k6 h)),aP (o.off.mono λk _ h=>Ya _ h) (λk c=>by
    rcases Ub.1 c with h|h
    .exact(Nf o.ra o.fp k h).imp (λh=>Ya _ h) id
    exact Wa (List.mem_append_right _ h)) f4⟩)
   clear f1 f2 f3 f4 f5 k6;go_wp2_with fail;go_end0;exact⟨rfl,E,p',HF.1,HF.2.1,HF.2.2.1,HF.2.2.2.1,λk c=>(HF.2.2.2.2.1 k c).imp id (Or.imp (λh=>by simpa using h) id),HF.2.2.2.2.2⟩
variable {w0 w w' w1 : N} {r n m n0 X ba cap : Nat} {bs : List Nat} {R R' : Rn} {p p' : Rp} {F F' : List Nat} {S S' : Dk} {o : Ac} {D D' : Dn} {q q' : Pl} {K K' : List (Int × List Rc)} {b b' : List Rc} {H H' : Hs} {W' : Wd} {dv hv : C}
theorem Lr.told (h:Lr R D K b H n):kh D.due/\∀x∈D.due,x.k<=R.W.tp:=by
 refine⟨h.dl.dk.ok.bQ,λx a=>?_⟩;have d:D.due=bI D.c H.ae:=h.dl.dk.due;rw[d]at a;obtain⟨s,e,rfl⟩:=Vd.1 a;rw[h.tp];exact(h.dl.dk.dW.sn s e).2
theorem kD {a b n:Nat}{e:TypeId}{v:C}{d:List C}(h:w.ownsRow a e b v n d)  (c:g∈v.ownBlock.toList):a<=g:=nU h g c
set_option maxRecDepth 10000 in
theorem Nc (h:LM w0 w r R p X D q K b H n)(hn:n<=7000000)(B:p.ls.length<=100000000)(hw:lT R o=R.W)(J:o.a1≠2):
  Calls Za 22 #[ca (Z ⟨r,0,Y⟩)] w λe w'=>e=Ua (.tuple #[])/\Sq w w' r R o p (df X q) n:=by
 have A:=h.lr.dl.bn.dues;have l:=Oa w X D q h.da (by omega);have c6:=h.c6;obtain⟨P,S,g⟩:=ak h.ra.rows.wd.due;change Hid _ at g;have a:=aa h;have HW:=aa hw;change Hid _ at J;clear h hw;go_in;go_wp2_with fail;refine l.mono ?_;clear l c6;rintro e w1 ⟨v,rfl,F,z⟩;have x:=aa F;have M:=aa z;have i:=aa (a.ra.keep z);have c9:w1.cell? ⟨r,9,Y⟩=Z (Q P R.W.due.length S):=g.out▸i.head.Ri 9;have m:=same _ _ v (Q P R.W.due.length S) D.due w1 F (by
  have u:=i.rows.wd.due;rw[g.out,a.lr.due]at u;rw[a.lr.due];exact u) (by omega)
 clear F z;obtain⟨va,vc,rfl⟩:=ak x;go_wp2_with fail;refine m.mono ?_;clear m;rintro e w2 ⟨rfl,G,rfl⟩;have d:Hid (Below w.heap.size w (w1.drewN G)):=ax M;have j:Hid ((w1.drewN G).ownsRow w.heap.size 47 2 (Q va D.due.length vc) D.due.length (aH D.due)):=x;clear c9 M x i;generalize w1.drewN G=w2 at *;go_wp2_with fail;refine(dX r _).mono ?_;rintro e w3 ⟨rfl,rfl⟩;have f:=aa (show ∀k∈(eb va D.due.length vc).ownBlock.toList,w.heap.size<=k from λk c=>kD j c);have s:=NB (a.ra.keep d) (λk c=>ed (a.da.lt k c) d.size) (a.lr.due▸a.lr.eZ) a.lr.told.1 A a.lr.told.2 (by omega) (Apn.weaken j) (λk c e=>by
  have u:=f.out k c;have h2:=a.lt k e;omega) B
 go_wp2_with fail;refine s.mono ?_;clear s;rintro e w4 ⟨rfl,E,p',T,U,V,t,f5,y⟩;have HF:=aa (show Sq w w4 r R o p (df X q) n from⟨{R with ever:=E},p',df X q,T,Wa ⟨X,D,q,K,b,H,rfl,t.1.trans a.xv,t.2.1.trans a.bx,(a.da.keep d).off y λk c e=>by
   rcases Ub.1 e with e|e
   .exact a.ra.ap k e c
   .have u:=f.out k e;have h2:=a.da.lt k c;omega,{a.lr with eZ:=a.lr.due▸U}⟩,⟨Ye V,t.1⟩,λk c=>by
   rcases f5 k c with h|h|h
   .exact Wa h
   .exact Va (f.out k h)
   .exact Va (Wc d.size h),aP (an.ag d) (λk c=>by
   rcases Ub.1 c with h|h
   .exact Wa (Ya _ h)
   exact Va (f.out k h)) y,λhl=>⟨hl,a.lr.sp,rfl,HW.symm,by rw[if_neg λe=>J.out e.1]⟩⟩)
 clear T U V t f5 y;go_wp2_with fail;go_end0;exact⟨rfl,HF⟩
theorem Sq.mono (h:Sq w w' r R o p F n)(g:n<=m):Sq w w' r R o p F m:=by
 obtain⟨R',p',F',k,l,s⟩:=h;refine⟨R',p',F',k,?_,s⟩;rcases l with ⟨X,D,q,K,b,H,a,c,d,e,f⟩|⟨X,D,q,a,c,d,e,f,i,j⟩|⟨S,ba,cap,bs,a,c,d,e⟩
 .exact Wa ⟨X,D,q,K,b,H,a,c,d,e,f.mono g⟩
 .exact Va (Wa ⟨X,D,q,a,c,d,e,f,i,j.mono g⟩)
 exact Va (Va ⟨S,ba,cap,bs,a,c,d,e.mono g⟩)
theorem jX (h:o.a1≠1/\o.a1≠2/\o.a1≠3/\o.a1≠4):lT R o=R.W:=by
 unfold lT;rw[if_neg (λe=>h.1 e.1),if_neg (λe=>h.2.1 e.1),if_neg h.2.2.1,if_neg h.2.2.2]
set_option maxRecDepth 10000 in
theorem PS (h:LM w0 w r R p X D q K b H n)(E:n<=7000000)(M:p.ls.length<=100000000)(P:o.s.size<=1000000000)(F:-9223372036854775808<=o.a2)(G:o.a2<=9223372036854775807):
  Calls Za 9 #[ca (Z ⟨r,0,Y⟩),.agg o.cs] w λe w'=>e=Ua (.tuple #[])/\Sq w w' r R o p (df X q) (n+o.s.size+2):=by
 have g:=Ac.new o w;have B:=aa (ai (w:=w) (.cells o.cs 37));have c:=aa (h.keep B);have J:(w.alloc (.cells o.cs 37)).cell? ⟨r,17,Y⟩=Z (.bool R.sp):=c.ra.head.Ri 17;rw[h.lr.sp]at J;have x0:=g.Ri 0;have A:=g.Ri 1;have x2:=g.Ri 2;have x3:=g.Ri 3;have x4:=g.Ri 4;have HL:=aa h;have f:=aa (λ(i:N) (m:Nat) (V:Sq (w.alloc (.cells o.cs 37)) i r R o p (df X q) m)=>V.from B.out);have l:=aa (λe=>LJ (o:=o) c E e P);have t:=aa (λe=>NW (o:=o) c E e);have u:=aa (λe=>QT (o:=o) c E e);have v:=aa (λe=>RL (o:=o) c E e F G);have x:=aa (λe S=>Nc (o:=o) c E M e S);have y:=aa (Co c (by omega));clear g h F G;unfold Ac.cs at *;go_in;go_upto_region 2 with fail;generalize w.alloc (.cells #[I O o.a0,I O o.a1,I O o.a2,I O o.a3,L o.s] 37)=w1 at *;generalize w.heap.size=ab at *;have k:=aa (show (o.a1≠1/\o.a1≠2/\o.a1≠3/\o.a1≠4)->∀i,Below w1.heap.size w1 i->Sq w i r R o p (df X q) (n+o.s.size+2) from λe i T=>(c.same T (by omega) (jX e) (λz=>e.2.1 z.1)) |> f.out i _);by_cases W:o.a1<1
 .go_wp2_with fail;go_end0;exact⟨rfl,k.out (by omega) _ (Zb _ _)⟩
 by_cases k6:6<o.a1
 .go_wp2_with fail;go_end0;exact⟨rfl,k.out (by omega) _ (Zb _ _)⟩
 have U:o.a1=1\/o.a1=2\/o.a1=3\/o.a1=4\/o.a1=5\/o.a1=6:=by omega
 clear W k6;rcases U with e|e|e|e|e|e
 .have a:=l.out e;rw[e]at A
  try unfold Ac.cs at a
  try rw[e]at a
  clear l t u v x y;go_wp2_with fail;refine a.mono ?_;clear a;rintro z i ⟨rfl,d⟩;have j:=aa (f.out _ _ (d.mono (show _<=n+o.s.size+2 by omega)));clear d;go_wp2_with fail;go_end0;exact⟨rfl,j⟩
 .have a:=t.out e;rw[e]at A
  try unfold Ac.cs at a
  try rw[e]at a
  clear l t u v x y;go_wp2_with fail;refine a.mono ?_;clear a;rintro z i ⟨rfl,d⟩;have j:=aa (f.out _ _ (d.mono (show _<=n+o.s.size+2 by omega)));clear d;go_wp2_with fail;go_end0;exact⟨rfl,j⟩
 .have a:=u.out e;rw[e]at A
  try unfold Ac.cs at a
  try rw[e]at a
  clear l t u v x y;go_wp2_with fail;refine a.mono ?_;clear a;rintro z i ⟨rfl,d⟩;have j:=aa (f.out _ _ (d.mono (show _<=n+o.s.size+2 by omega)));clear d;go_wp2_with fail;go_end0;exact⟨rfl,j⟩
 .have a:=v.out e;rw[e]at A
  try unfold Ac.cs at a
  try rw[e]at a
  clear l t u v x y;go_wp2_with fail;refine a.mono ?_;clear a;rintro z i ⟨rfl,d⟩;have j:=aa (f.out _ _ (d.mono (show _<=n+o.s.size+2 by omega)));clear d;go_wp2_with fail;go_end0;exact⟨rfl,j⟩
 .have a:=x.out (jX (by omega)) (by omega);rw[e]at A
  try unfold Ac.cs at a
  try rw[e]at a
  clear l t u v x y;go_wp2_with fail;refine a.mono ?_;clear a;rintro z i ⟨rfl,d⟩;have j:=aa (f.out _ _ (d.mono (show _<=n+o.s.size+2 by omega)));clear d;go_wp2_with fail;go_end0;exact⟨rfl,j⟩
 have a:=y.out;rw[e]at A;clear l t u v x y;go_wp2_with fail;refine a.mono ?_;clear a;rintro z i ⟨rfl,d⟩;have j:=aa (k.out (by omega) _ d);clear d;go_wp2_with fail;go_end0;exact⟨rfl,j⟩
set_option maxRecDepth 10000 in
theorem RO (h:RA w r R p F)(m:p.xv=ca (Z ⟨X,0,Y⟩))(k:DA w X D q)(c:D.cD=true)(j:R.sp=true):
  Calls Za 9 #[ca (Z ⟨r,0,Y⟩),.agg o.cs] w λe w'=>e=Ua (.tuple #[])/\Below w.heap.size w w':=by
 have b:=Ac.new o w;have a:=aa (ai (w:=w) (.cells o.cs 37));have f:(w.alloc (.cells o.cs 37)).cell? ⟨r,17,Y⟩=Z (.bool R.sp):=(h.keep a).head.Ri 17;rw[j]at f;have v:=b.Ri 0;have x:=b.Ri 1;have y:=b.Ri 2;have z:=b.Ri 3;have A:=b.Ri 4;have l:=Oc (o:=o) (h.keep a) m (k.keep a) c;have d:=aa (λ(n:N) (u:Below (w.alloc (.cells o.cs 37)).heap.size (w.alloc (.cells o.cs 37)) n)=>a.trans (u.mono a.size));clear b h m k c j;unfold Ac.cs at *;go_in;go_upto_region 2 with fail;generalize w.alloc (.cells #[I O o.a0,I O o.a1,I O o.a2,I O o.a3,L o.s] 37)=w1 at *;generalize g:w.heap.size=B at v x y z A ⊢;clear g;by_cases G:o.a1<1
 .go_wp2_with fail;go_end0;exact⟨rfl,a⟩
 by_cases J:6<o.a1
 .go_wp2_with fail;go_end0;exact⟨rfl,a⟩
 by_cases H:o.a1<=4
 .go_wp2_with fail;refine l.mono ?_;clear l;rintro E n ⟨rfl,i⟩;have t:=aa (d.out _ i);clear i;go_wp2_with fail;go_end0;exact⟨rfl,t⟩
 go_wp2_with fail;go_end0;exact⟨rfl,a⟩
variable {w0 w w' w1 W W1 W2 : N} {r n m n0 X ba cap B : Nat} {bs : List Nat} {R R' : Rn} {p p' : Rp} {F F' G : List Nat} {S S' : Dk} {V : Wd} {dv hv v v' : C}
structure We where
 dv:C
 hv:C
 V:Wd
def we (e:We):List Value:=[e.dv,I O e.V.o,e.hv,I O e.V.sr,I O e.V.tp]
def zf (l:List We):List Value:=l.flatMap we
variable {e : We} {l : List We}
theorem JY:zf (l++[e])=zf l++we e:=by simp[zf]
theorem JX:∀{l:List We} {i:Nat},l[i]? = Z e->(zf l)[i*5]? = Z e.dv/\(zf l)[i*5+1]? = Z (I O e.V.o)/\(zf l)[i*5+2]? = Z e.hv/\(zf l)[i*5+3]? = Z (I O e.V.sr)/\(zf l)[i*5+4]? = Z (I O e.V.tp)
 | x ::l,0,h=>by
  obtain rfl:x=e:=by simpa using h
  exact⟨rfl,rfl,rfl,rfl,rfl⟩
 | x ::l,i+1,h=>by
  have a:=JX (l:=l) (i:=i) (by simpa using h);have b:∀k,(zf (x ::l))[(i+1)*5+k]? = (zf l)[i*5+k]? :=λk=>by
   rw[show (i+1)*5+k=(we x).length+(i*5+k) by simp[we];omega,zf,List.flatMap_cons,List.getElem?_append_right (by omega),Nat.add_sub_cancel_left];rfl
  exact⟨(b 0).trans a.1,(b 1).trans a.2.1,(b 2).trans a.2.2.1,(b 3).trans a.2.2.2.1,(b 4).trans a.2.2.2.2⟩
structure El (w:N)(R:Rn)(p:Rp)(B:Nat)(e:We):Prop where
 d:(e.dv=p.dv/\e.V.due=R.W.due)\/w.ownsRow B 47 2 e.dv e.V.due.length (aH e.V.due)
 h:(e.hv=p.hv/\e.V.hs=R.W.hs)\/w.ownsRow B 9 1 e.hv e.V.hs.length (e.V.hs.map Value.string)
theorem El.keep (h:El W R p B e)(a:Below W.heap.size W W1):El W1 R p B e:=⟨h.d.imp id λh=>aE h a,h.h.imp id λh=>aE h a⟩
theorem El.at (h:El W R p B e)(a:Rows W R p):oF W e.dv e.hv e.V:=
 ⟨h.d.elim (λh=>by rw[h.1,h.2];exact a.wd.due) Apn.weaken,h.h.elim (λh=>by rw[h.1,h.2];exact a.wd.held) Apn.weaken⟩
structure Wl (w W:N)(R:Rn)(p:Rp)(v:C)(l:List We):Prop where
 b:Below w.heap.size w W
 row:W.ownsRow w.heap.size 34 5 v l.length (zf l)
 PV:∀e∈l,El W R p w.heap.size e
theorem Wl.keep (h:Wl w W R p v l)(a:Below W.heap.size W W1):Wl w W1 R p v l:=⟨h.b.trans (a.mono h.b.size),aE h.row a,λe c=>(h.PV e c).keep a⟩
theorem Wl.app (h:Wl w W R p v l)(k:El W R p w.heap.size e)(j:W.grownBy W1 v.ownBlock)(m:W1.ownsRow w.heap.size 34 5 v' (l.length+1) (zf l++we e)):Wl w W1 R p v' (l++[e]):=by
 have i:=cu j;refine⟨Own.lg h.b h.b.size h.row j,by grind [JY],λg f=>?_⟩;have a:El W R p w.heap.size g:=by
  rcases Ub.1 f with a|a
  .exact h.PV g a
  grind
 exact⟨a.d.imp id λc=>aq c i (dM c h.row (by decide)),a.h.imp id λc=>aq c i (dM c h.row (by decide))⟩
theorem AP (c:W.ownsRow B 34 5 v l.length (zf l))  (d:l[g]? = Z e):∃b cap,v=Q (Z ⟨b,0,Y⟩) l.length cap/\l.length<=cap/\b<W.heap.size/\W.cell? ⟨b,g*5,Y⟩=Z e.dv/\W.cell? ⟨b,g*5+1,Y⟩=Z (I O e.V.o)/\W.cell? ⟨b,g*5+2,Y⟩=Z e.hv/\W.cell? ⟨b,g*5+3,Y⟩=Z (I O e.V.sr)/\W.cell? ⟨b,g*5+4,Y⟩=Z (I O e.V.tp):=by
 have k:=(List.getElem?_eq_some_iff.1 d).1;rcases c.2 with ⟨_,j⟩|⟨b,cap,f,rfl,_,i,h,_⟩
 .omega
 have a:=JX d;exact⟨b,cap,rfl,h,af.lt i,(c.cellAt _ (by omega)).trans a.1,(c.cellAt _ (by omega)).trans a.2.1,(c.cellAt _ (by omega)).trans a.2.2.1,(c.cellAt _ (by omega)).trans a.2.2.2.1,(c.cellAt _ (by omega)).trans a.2.2.2.2⟩
theorem Ml (w:N)(c:List C)(t:TypeId)(a m b:Nat)(h:b=w.heap.size)(e:c.length=m*a)(d:∀u∈c,u.oneCell'=true):Apn.Src (w.alloc (.cells c.toArray t)) a (Z ⟨b,0,Y⟩) m c:=
 ⟨e,d,Va ⟨_,rfl,λj u f=>by
  have g:=(af.new w t c.toArray).cell j u (by simpa using f);grind [Addr.add]⟩⟩
theorem Ab:(Za.info? 34).map (λi=>(i.zero,i.size,i.bytes))=Z (Z (.agg #[Q Y 0 0,I O 0,Q Y 0 0,I O 0,I O 0]),5,72):=by kernel_rfl
theorem El.src (h:El W R p B e)(j:Rows W R p)(t:TypeId){cs:Array C}(b:(we e).toArray=cs):Apn.Src (W.alloc (.cells cs t)) 5 (Z ⟨W.heap.size,0,Y⟩) 1 (we e):=by
 have d:=h.at j;obtain⟨a,c,g⟩:=ak d.due;obtain⟨k,l,i⟩:=ak d.held;subst b;refine Ml W (we e) t 5 1 _ rfl rfl λu f=>?_
 simp only[we,g,i,Yb,List.not_mem_nil,or_false]at f;rcases f with rfl|rfl|rfl|rfl|rfl<;>rfl
theorem JZ {c:Array Oper}{rest:List Oper}{o:Oper}{a:Act}{k:Exit->Act->N->Prop}(f:o.guard=Y)(s x:Operand)(z:o.op=.call {callee:=.builtin .append,args:=#[s,x],argTypes:=#[112,112]})
  (h:Wl w W R p v l) (A:a.eval s=v) {b:Nat} (B:a.eval x=Q (Z ⟨b,0,Y⟩) 1 1) (u:El W R p w.heap.size e) (t:Apn.Src W 5 (Z ⟨b,0,Y⟩) 1 (we e)) (E:l.length<=1000000000)
  (r:∀d cv W1,Wl w W1 R p (Q d (l++[e]).length cv) (l++[e])->an v.ownBlock.toList W W1->wpList Za c k rest (a.put o.dst (Q d (l++[e]).length cv)) W1):wpList Za c k (o ::rest) a W:=by
 obtain⟨D,y,g,i,j⟩:=zd Ab;refine Apn.gE W f s x 112 z w.heap.size 34 D (.agg #[Q Y 0 0,I O 0,Q Y 0 0,I O 0,I O 0]) 5 72 Tryz.underlying112 y g i j rfl (by decide) v l.length (zf l) A h.row (Z ⟨b,0,Y⟩) 1 1 (we e) B t (by unfold maxLen;omega) (by omega) h.b.size λv' W1 q m _=>?_
 have n:=h.app u m q;obtain⟨d,cv,rfl⟩:=ak n.row;exact r d cv W1 n (cu m)
theorem MT {j:Array Oper}{o:Oper}{a:Act}{K:Act->N->Prop}{k:Exit->Act->N->Prop}{E:Prop}(d:o.guard=Y)(s x:Operand)(z:o.op=.call {callee:=.builtin .append,args:=#[s,x],argTypes:=#[112,112]})
  (h:Wl w W R p v l) (A:a.eval s=v) {b:Nat} (B:a.eval x=Q (Z ⟨b,0,Y⟩) 1 1) (u:El W R p w.heap.size e) (t:Apn.Src W 5 (Z ⟨b,0,Y⟩) 1 (we e)) (G:l.length<=1000000000)
  (F:∀c cv W1,Wl w W1 R p (Q c (l++[e]).length cv) (l++[e])->an v.ownBlock.toList W W1->K (a.put o.dst (Q c (l++[e]).length cv)) W1):if Region.wanted o (yielded j a.tmps)=true then Oper.wp Za o a W K k else E:=by
 obtain⟨D,y,f,g,i⟩:=zd Ab;refine Apn.eG d s x 112 z 34 D (.agg #[Q Y 0 0,I O 0,Q Y 0 0,I O 0,I O 0]) 5 72 Tryz.underlying112 y f g i rfl (by decide) v l.length (zf l) A (Apn.weaken h.row) (Z ⟨b,0,Y⟩) 1 1 (we e) B t (by unfold maxLen;omega) (by omega) λv' W1 m n r _=>?_
 have q:=h.app u n (Apn.sH h.row m r h.b.size);obtain⟨c,cv,rfl⟩:=ak q.row;grind [cu]
variable {w0 w w' w1 : N} {r n m n0 X ba cap : Nat} {bs : List Nat} {R R' : Rn} {p p' : Rp} {F F' : List Nat} {S S' : Dk} {o : Ac} {D D' : Dn} {q q' : Pl} {H H' : Hs} {V W' : Wd} {dv hv : C}
def BS (V:Wd)(k:Nat):Int:=if k=0 then V.tp+1 else V.o
def zo (c:Fin 6->Int)(V:Wd)(a:List Ms)(op:Int)(k:Nat)(z:ByteArray):Prop:=
 a=V.due/\V.sr<=k/\k<=V.hs.length/\op=BS V k/\z=qF c (BS V k) (V.hs.take k)
set_option maxRecDepth 10000 in
theorem Qa (hc:Kk w r R.c)(S:oF w dv hv V)    (hl:w.ownsRow g 47 2 u a.length (aH a))(op:Int)(k:Nat)(z:ByteArray)(HD:k<=V.hs.length->Doc R.c (BS V k) (V.hs.take k) (qF R.c (BS V k) (V.hs.take k)))(a9:a.length<=10000000)(a5:V.due.length<=10000000)(a6:V.hs.length<=10000000)(hk:k<=10000000)(ht:-1<=V.tp/\V.tp<=1000000000):
  Calls Za 65 #[ca (Z ⟨r,0,Y⟩),Ki dv hv V,u,I O op,I O (k:Int),L z] w λe w'=>∃q,e=Ua (.bool q)/\(q=true↔zo R.c V a op k z)/\Below w.heap.size w w':=by
 obtain⟨da,dc,rfl⟩:=ak S.due;obtain⟨ha,f,rfl⟩:=ak S.held;obtain⟨la,lc,rfl⟩:=ak hl;obtain⟨m,v,h,t,n⟩:=V;unfold Ki wv;simp only at a5 a6 ht HD ⊢;have y:=aa (ai (w:=w) (.cells #[Q da m.length dc,I O v,Q ha h.length f,I O t,I O n] 34));have A:=aa (af.new w 34 #[Q da m.length dc,I O v,Q ha h.length f,I O t,I O n]);have U:¬f<k\/h.length<k:=by
  have h1:h.length<=f:=zE S.held;omega
 have HC:=aa hc;have HW:=aa S;have HL:=aa hl;change Hid _ at HD;clear hc S hl;go_in;go_upto_region 1 with fail;generalize w.alloc (.cells #[Q da m.length dc,I O v,Q ha h.length f,I O t,I O n] 34)=w1 at *;generalize a0:w.heap.size=ab at A ⊢;change Hid _ at a0;have x0:=A.Ri 0;obtain⟨q1,o⟩:∃q1:Bool,q1=true↔a=m:=by
  by_cases e:a=m
  .exact⟨true,λ_=>e,λ_=>rfl⟩
  exact⟨false,λe'=>absurd e' (by decide),λe'=>absurd e' e⟩
 have W:=QL g 0 (Q la a.length lc) (Q da m.length dc) a m w1 (aE HL y) (aE HW.due y) (by omega) (by omega) q1 o;change Hid _ at o;go_wp2_with fail;refine W.mono ?_;clear W x0;rintro e w2 ⟨rfl,F⟩;have d:=aa (y.trans (F.mono y.size));have s:=Mem.af.below A F A.lt;have x1:=s.Ri 1;have x2:=s.Ri 2;have x3:=s.Ri 3;have x4:=s.Ri 4;have j:=aa (show ∀w3 q,(q=true↔zo R.c ⟨m,v,h,t,n⟩ a op k z)->Below w.heap.size w w3->∃q',Ending.returned (.bool q)=Ua (.bool q')/\(q'=true↔zo R.c ⟨m,v,h,t,n⟩ a op k z)/\Below w.heap.size w w3 from λw3 q h1 h2=>⟨q,rfl,h1,h2⟩);clear F s;cases q1 with
 | false=>
  go_wp2_with fail;go_ret;exact j.out _ false ⟨λe=>absurd e (by decide),λe=>absurd (o.2 e.1) (by decide)⟩ d
 | true=>
  by_cases h3:(k:Int)<t
  .go_wp2_with fail;go_ret;exact j.out _ false ⟨λe=>absurd e (by decide),λe=>by have:=e.2.1;simp only at this;omega⟩ d
  by_cases h4:(h.length:Int)<(k:Int)
  .go_wp2_with fail;go_ret;exact j.out _ false ⟨λe=>absurd e (by decide),λe=>by have:=e.2.2.1;simp only at this;omega⟩ d
  have p:k<=h.length:=by omega
  have a7:¬f<k:=by omega
  have l:=JC r R.c (BS ⟨m,v,h,t,n⟩ k) ha f (h.take k) _ w2 (HC.keep d) (HD.out p) λi x hx=>ry (aE HW.held d) i x (by
   rw[List.getElem?_take]at hx;split at hx
   .exact hx
   cases hx)
  rw[Xd,Nat.min_eq_left p]at l;obtain⟨X,J⟩:∃X,qF R.c (BS ⟨m,v,h,t,n⟩ k) (h.take k)=X:=⟨_,rfl⟩;have P:=aa J;rw[J]at l;have a1:=aa (o.1 rfl);have a2:=aa p;have a3:=aa (show t<=(k:Int) by omega);have D:Ue.wrap (n+1)=n+1:=Xe _ (by omega);clear J o U;by_cases G:k=0
  case' pos=>
   subst G;obtain⟨num,b⟩:∃num,n+1=num:=⟨_,rfl⟩;have M:Hid (BS ⟨m,v,h,t,n⟩ 0=num):=b;rw[M.out]at l;replace D:Ue.wrap (n+1)=num:=D.trans b;clear b;go_upto_region 6 with fail;clear h3 h4 p D
  case' neg=>
   have a8:¬(k:Int)=0:=by omega
   obtain⟨num,b⟩:∃num,v=num:=⟨_,rfl⟩;have M:Hid (BS ⟨m,v,h,t,n⟩ k=num):=(if_neg G).trans b;rw[M.out]at l;rw[b]at x1;clear b G;go_upto_region 6 with fail;clear h3 h4 p D
  all_goals
   by_cases H:op=num
   .have E:=aa (H.trans M.symm);subst H;go_wp2_with fail;refine l.mono ?_;clear l;rintro e w3 ⟨rfl,T⟩;have K:=aa (d.trans (T.mono d.size));clear T;by_cases hz:z=X
    .have HZ:=aa (hz.trans P.symm);subst hz;go_wp2_with fail;go_ret;exact j.out _ true ⟨λ_=>⟨a1,a3,a2,E,HZ⟩,λ_=>rfl⟩ K
    have HZ:=aa hz;have a4:Hid (¬z.toList=X.toList):=aa λe=>hz (Bytes.bo (by unfold B;rw[<-Lib.toList_data,<-Lib.toList_data];exact e))
    go_wp2_with fail;go_ret;exact j.out _ (z.toList==X.toList) ⟨λe=>absurd (eq_of_beq e) a4,λe=>absurd (e.2.2.2.2.trans P) HZ⟩ K
   have E:=aa H;go_wp2_with fail;go_ret;exact j.out _ false ⟨λe=>absurd e (by decide),λe=>absurd (e.2.2.2.1.trans M) E⟩ d
variable {w0 w w' w1 W W1 W2 : N} {r n m n0 X ba cap B : Nat} {bs : List Nat} {R R' : Rn} {p p' : Rp} {F F' G : List Nat} {S S' : Dk} {V : Wd} {dv hv v v' : C} {e : We} {l : List We}
theorem Dr.tt (h:Dr R S n):0<R.c 0/\0<=R.tt/\R.tt<=1000000000/\R.now.tdiv (R.c 0)=R.tt:=by
 have b:=Dd.oz.pos h.ll;have a:=h.now;refine⟨b,Int.ediv_nonneg a.1 (by omega),Int.le_trans (Int.ediv_le_self _ a.1) a.2,?_⟩;rw[Int.tdiv_eq_ediv_of_nonneg a.1];rfl
structure Te (R:Rn)(n:Nat)(V:Wd):Prop where
 doc:Doc R.c V.o V.hs (qF R.c V.o V.hs)
 due:V.due.length<=n+1
 hs:V.hs.length<=n
theorem Dr.take (h:Dr R S n)(e:n<=9000000)(k:Nat):Doc R.c R.W.o (R.W.hs.take k) (qF R.c R.W.o (R.W.hs.take k)):=
 uU h.ll h.o (by have:=h.len;rw[Xd];omega) (λs a=>h.short s (List.mem_of_mem_take a)) (by
  have b:=h.lines;have d:=Kr.lK k (R.W.hs.map B);rw[List.map_take];omega)
theorem Dr.Tt (h:Dr R S n)(d:n<=9000000)(a:V∈R.W ::cY R):Te R n V:=by
 rcases Yb.1 a with rfl|a
 .exact⟨h.doc (by omega),Nat.le_succ_of_le h.dues,h.len⟩
 unfold cY at a;split at a
 .obtain⟨k,_,rfl⟩:=Vd.1 a;have b:=h.tt;exact⟨uU h.ll ⟨b.2.1,b.2.2.1⟩ (Uc _) (λs c=>by cases c) (Uc _),by show (R.W.due++[_]).length<=_;rw[Xa];exact Nat.succ_le_succ h.dues,Uc _⟩
 cases a
theorem Pt (h:V∈dV R):(V.o=R.W.o\/V.o=R.tt)/\((V.hs=R.W.hs\/V.hs=[])\/(R.sp=true/\R.d.a1=1/\(V.hs=R.W.hs++[R.d.s]\/V.hs=[R.d.s]))):=by
 have b:∀U∈R.W ::cY R,(U.o=R.W.o\/U.o=R.tt)/\(U.hs=R.W.hs\/U.hs=[]):=λU a=>by
  rcases Yb.1 a with rfl|a
  .exact⟨Wa rfl,Wa rfl⟩
  unfold cY at a;split at a
  .obtain⟨k,_,rfl⟩:=Vd.1 a;exact⟨Va rfl,Va rfl⟩
  cases a
 have f:=b R.W (List.mem_cons_self ..);unfold dV at h;split at h
 .rw[qb.1 h];exact⟨f.1,Wa f.2⟩
 rename_i g;split at h
 .simp only[Yb,List.not_mem_nil,or_false]at h;rcases h with rfl|rfl<;>exact⟨f.1,Wa f.2⟩
 split at h
 .rw[qb.1 h];exact⟨f.1,Wa f.2⟩
 split at h
 .rename_i m;rcases Ub.1 h with h|h
  .exact⟨(b V h).1,Wa (b V h).2⟩
  obtain⟨U,a,rfl⟩:=Vd.1 h;obtain⟨j,l⟩:=b U (List.mem_filter.1 a).1;have i:((wt R.c R.tt U).o=U.o\/(wt R.c R.tt U).o=R.tt)/\((wt R.c R.tt U).hs=U.hs\/(wt R.c R.tt U).hs=[]):=by
   unfold wt dL;repeat' split
   .exact⟨Wa rfl,Wa rfl⟩
   .exact⟨Va rfl,Va rfl⟩
   exact⟨Va rfl,Wa rfl⟩
  refine⟨i.1.elim (λe=>j.imp e.trans e.trans) Va,Va ⟨by simpa using g,m,?_⟩⟩;show (wt R.c R.tt U).hs++[R.d.s]=_\/(wt R.c R.tt U).hs++[R.d.s]=_;rcases i.2 with e|e<;>rw[e]
  .rcases l with e|e<;>rw[e]
   .exact Wa rfl
   exact Va rfl
  exact Va rfl
 exact⟨(b V h).1,Wa (b V h).2⟩
structure Td (R:Rn)(n:Nat)(V:Wd):Prop where
 hs:V.hs.length<=n+1
 due:V.due.length<=n+1
 tp:-1<=V.tp/\V.tp<=1000000000
 doc:∀k,Doc R.c (BS V k) (V.hs.take k) (qF R.c (BS V k) (V.hs.take k))
theorem Dr.Ts (h:Dr R S n)(y:n<=7000000)(l:V∈dV R):Td R n V:=by
 have D:=h.tt;have A:=h.o;have t:=h.tp;have i:=Pt l;have j:=qJ l;have x:=h.len;have w:=h.dues;have g:-1<=V.tp/\V.tp<=1000000000:=by rcases j with ⟨e,_⟩|⟨e,_⟩<;>rw[e]<;>omega
 have a:V.hs.length<=n+1/\(∀s∈V.hs,s.size<=256)/\jE (V.hs.map B)<=n+300:=by
  have r:=h.lines;rcases i.2 with (e|e)|⟨m,p,q⟩
  .rw[e];exact⟨by omega,h.short,by omega⟩
  .rw[e];exact⟨Uc _,λs f=>(by cases f),Uc _⟩
  have f:R.d.s.size<=256:=h.ds.elim id λe=>absurd (e.resolve_left λe=>e p) (by rw[m];decide)
  have u:=Ck (B R.d.s);have v:(B R.d.s).length=R.d.s.size:=(aj _).symm;rcases q with e|e<;>rw[e]
  .refine⟨by rw[Xa,Vb];omega,λs b=>?_,by rw[Vc,iX];have:jE ([R.d.s].map B)=jE [B R.d.s]:=rfl;omega⟩;rcases Ub.1 b with b|b
   .exact h.short s b
   rw[qb.1 b];exact f
  refine⟨by simp,λs b=>by rw[qb.1 b];exact f,?_⟩;have:jE ([R.d.s].map B)=jE [B R.d.s]:=rfl;omega
 refine⟨a.1,?_,g,λk=>Gk R.c h.ll _ ?_ ?_ _ (by rw[Xd];omega) (λs f=>by have:=a.2.1 s (List.mem_of_mem_take f);omega) ?_⟩
 .rcases j with ⟨_,e,_⟩|⟨_,⟨z,e⟩,_⟩
  .have:=e.length_le;omega
  rw[e,Xa,Vb];omega
 iterate 2
  unfold BS;split
  .omega
  rcases i.1 with e|e<;>rw[e]<;>omega
 have:=Kr.lK k (V.hs.map B);rw[List.map_take];omega
theorem Fx (R:Rn)(l:List Wd)(V:Wd):qh R (l++[V])=qh R l++if V.o<R.tt/\V.hs≠[] then [] else [th (wt R.c R.tt V) R.d.s]:=by
 unfold qh;rw[List.filter_append,Vc];congr 1;by_cases a:V.o<R.tt<;>by_cases b:V.hs=[]<;>simp[a,b]
theorem Pw (h:¬(V.o<R.tt/\V.hs≠[])):(wt R.c R.tt V).due=V.due/\(wt R.c R.tt V).hs=V.hs:=by
 unfold wt dL;split
 .exact⟨rfl,rfl⟩
 rw[if_neg λe=>h ⟨by omega,e⟩];exact⟨rfl,rfl⟩
theorem sZ (R:Rn):(cY R).length<=R.W.hs.length+1:=by
 unfold cY;split
 .rw[te,List.length_range'];omega
 exact Uc _
set_option maxRecDepth 10000 in
theorem MW (h:RA w r R p F)(hd:Dr R S n)(hn:n<=7000000):
  Calls Za 64 #[ca (Z ⟨r,0,Y⟩)] w λe w'=>∃v l,e=Ua v/\Wl w w' R p v l/\l.map (·.V)=dV R:=by
 obtain⟨da,dc,b4⟩:=ak h.rows.wd.due;obtain⟨ha,y,b6⟩:=ak h.rows.wd.held;obtain⟨i0,hi,l4,l5,l6⟩:=zd Ab;have HR:=aa (λ(W:N) (hb:Below w.heap.size w W)=>h.keep hb);have a7:=aa (λ(W:N) (hb:Below w.heap.size w W)=>show W.cell? ⟨r,9,Y⟩=Z (Q da R.W.due.length dc)/\W.cell? ⟨r,10,Y⟩=Z (I O R.W.o)/\W.cell? ⟨r,11,Y⟩=Z (Q ha R.W.hs.length y)/\W.cell? ⟨r,12,Y⟩=Z (I O R.W.sr)/\W.cell? ⟨r,13,Y⟩=Z (I O R.W.tp) from
  have hh:=(h.keep hb).head
  ⟨b4▸hh.Ri 9,hh.Ri 10,b6▸hh.Ri 11,hh.Ri 12,hh.Ri 13⟩)
 have f4:=aa (show zf [(⟨p.dv,p.hv,R.W⟩:We)]=[Q da R.W.due.length dc,I O R.W.o,Q ha R.W.hs.length y,I O R.W.sr,I O R.W.tp] by rw[<-b4,<-b6];rfl);change Hid _ at b4 b6;have HD:=aa hd;have k3:R.W.due.length<=7000000:=Wc hd.dues hn;have k5:R.W.hs.length<=7000000:=Wc hd.len hn;obtain⟨c9,M,G,P,T⟩:=a7.out w (Zb _ _);clear h hd;go_in;go_upto_region 2 with fail;have b9:=aa (show Wl w (w.alloc (.cells #[Q da R.W.due.length dc,I O R.W.o,Q ha R.W.hs.length y,I O R.W.sr,I O R.W.tp] 34)) R p (Q (Z ⟨w.heap.size,0,Y⟩) 1 1) [⟨p.dv,p.hv,R.W⟩] from⟨ai _,by
  rw[f4.out];exact World.ownsRow_lit w #[Q da R.W.due.length dc,I O R.W.o,Q ha R.W.hs.length y,I O R.W.sr,I O R.W.tp] 1 (Nat.le_refl _) (by decide) rfl,λe he=>by
  rw[qb.1 he];exact⟨Wa ⟨rfl,rfl⟩,Wa ⟨rfl,rfl⟩⟩⟩)
 clear c9 M G P T f4;generalize w.alloc (.cells #[Q da R.W.due.length dc,I O R.W.o,Q ha R.W.hs.length y,I O R.W.sr,I O R.W.tp] 34)=w1 at *;have d7:w1.cell? ⟨r,17,Y⟩=Z (.bool R.sp):=(HR.out w1 b9.b).head.Ri 17;rcases A:R.sp with _|_
 .rw[A]at d7;change Hid _ at A;go_wp2_with fail;go_ret;exact⟨_,_,rfl,b9,by unfold dV;rw[if_pos A.out];rfl⟩
 rw[A]at d7;have A:=aa (show ¬R.sp=false by rw[A];decide);obtain⟨i1,i2,i3,i4,i5⟩:w1.cell? ⟨r,18,Y⟩=Z (I O R.d.a0)/\w1.cell? ⟨r,19,Y⟩=Z (I O R.d.a1)/\w1.cell? ⟨r,20,Y⟩=Z (I O R.d.a2)/\w1.cell? ⟨r,21,Y⟩=Z (I O R.d.a3)/\w1.cell? ⟨r,22,Y⟩=Z (L R.d.s):=
  have hh:=(HR.out w1 b9.b).head
  ⟨hh.Ri 18,hh.Ri 19,hh.Ri 20,hh.Ri 21,hh.Ri 22⟩
 go_upto_region 5 with fail;have g5:=ai (w:=w1) (.cells #[I O R.d.a0,I O R.d.a1,I O R.d.a2,I O R.d.a3,L R.d.s] 37);have HA:=aa (Ac.new R.d w1);have m:=aa (b9.keep g5);unfold Ac.cs at HA;clear d7 i1 i2 i3 i4 i5 g5;generalize w1.alloc (.cells #[I O R.d.a0,I O R.d.a1,I O R.d.a2,I O R.d.a3,L R.d.s] 37)=w2 at *;generalize i6:w1.heap.size=ab at HA ⊢;clear i6 b9;have x1:=HA.Ri 1;by_cases h4:R.d.a1=4
 .rw[h4]at x1;have HE:=aa (show dV R=[R.W,{R.W with due:=wo R.d.a2 R.W.due}] by unfold dV;rw[if_neg A.out,if_pos h4]);clear h4;go_upto_region 6 with fail;have C9:∀s:Bw w2,s.val.cell? ⟨r,9,Y⟩=Z (Q da R.W.due.length dc):=λs=>(a7.out _ (m.b.trans (s.is.mono m.b.size))).1
  have A2:∀s:Bw w2,s.val.cell? ⟨ab,2,Y⟩=Z (I O R.d.a2):=λs=>(Mem.af.below HA s.is HA.lt).Ri 2
  clear x1;have u:Hid (Below w2.heap.size w2 w2.drew):=(Zb _ _).drew;refine yh 12 (by kernel_rfl) ?_;refine kL (f:=6) [0,1,2,3,4,5,6] (Bw.has u) (by kernel_rfl) (λ_ _ _ _ _ h=>h) rfl ?_;simp only[vd,Ud,ad,Xc,Yc,Zd];repeat (first|go_big_quiet_skip|(go_big_quiet_want;go_big_quiet_op;go_big_quiet_on))
  refine Ve ?_;clear C9 A2;generalize w2.drew=wd at *;have h5:=zh (Q da R.W.due.length dc) R.W.due R.d.a2 wd (by
   have x:=(HR.out wd (m.b.trans (u.mono m.b.size))).rows.wd.due;rw[b4.out]at x;exact x) (by omega)
  refine aW (j:=7) (λK B=>?_);go_simp;refine h5.mono ?_;clear h5;rintro e w3 ⟨v3,rfl,e6,g6⟩;obtain⟨va,vc,rfl⟩:=ak e6;have c4:=aa (u.trans (g6.mono u.size));have f6:=aa (fw e6 (show w.heap.size<=wd.heap.size from Wc m.b.size u.size));refine B _ _ (λ_=>Bw.has c4) ?_;clear B K g6 e6;refine kL (f:=1) [8,9,10,11] (Bw.has c4) (by kernel_rfl) (λ_ _ _ _ _ h=>h) rfl ?_;simp only[vd,Ud,ad,Xc,Yc,Zd];repeat (first|go_big_quiet_skip|(go_big_quiet_want;go_big_quiet_op;go_big_quiet_on))
  refine Ve ?_;refine aW (j:=12) (λK B=>?_);go_simp;refine B _ _ (λh=>absurd h (by decide)) ?_;clear B K;refine Tz ?_;have D:=aa (m.keep c4);obtain⟨c9,M,G,P,T⟩:=a7.out w3 D.b;go_upto_region 9 with fail;clear c9 M G P T;have X:=ai (w:=w3) (.cells #[Q va (wo R.d.a2 R.W.due).length vc,I O R.W.o,Q ha R.W.hs.length y,I O R.W.sr,I O R.W.tp] 34);have a9:=aa (D.keep X);have b2:=af.new w3 34 #[Q va (wo R.d.a2 R.W.due).length vc,I O R.W.o,Q ha R.W.hs.length y,I O R.W.sr,I O R.W.tp];have b7:=aa (show El _ R p w.heap.size ⟨Q va (wo R.d.a2 R.W.due).length vc,p.hv,{R.W with due:=wo R.d.a2 R.W.due}⟩ from⟨Va (aE f6 X),Wa ⟨rfl,rfl⟩⟩);have a0:=b2.Ri 0;have a1:=b2.Ri 1;have a2:=b2.Ri 2;have a3:=b2.Ri 3;have a4:=b2.Ri 4;clear X b2 D f6 c4;generalize w3.alloc (.cells #[Q va (wo R.d.a2 R.W.due).length vc,I O R.W.o,Q ha R.W.hs.length y,I O R.W.sr,I O R.W.tp] 34)=w4 at *;generalize w3.heap.size=gb at *;have b8:=aa (b7.src (HR.out w4 a9.b).rows 34 (cs:=#[Q va (wo R.d.a2 R.W.due).length vc,I O R.W.o,Q ha R.W.hs.length y,I O R.W.sr,I O R.W.tp]) (by unfold we;rw[b6.out]));have t:=aa (ai (w:=w4) (.cells #[Q va (wo R.d.a2 R.W.due).length vc,I O R.W.o,Q ha R.W.hs.length y,I O R.W.sr,I O R.W.tp] 34));go_wp2_with (at_builtin;refine JZ rfl _ _ rfl (a9.keep t) rfl rfl (b7.keep t) b8 (by simp) ?_;intro ao cv w5 c1 d5;have J:=aa c1;clear c1)
  go_ret;exact⟨_,rfl,_,J,by rw[HE.out];rfl⟩
 by_cases h3:R.d.a1=3
 .rw[h3]at x1;have HE:=aa (show dV R=[R.W] by unfold dV;rw[if_neg A.out,if_neg h4,if_pos h3]);clear h3 h4;go_wp2_with fail;go_ret;exact⟨_,_,rfl,m,by rw[HE.out];rfl⟩
 have c6:=aa (Zc h4 h3);obtain⟨i7,j2,j3,j4⟩:=HD.tt;have j1:¬R.c 0=0:=by omega
 have a5:Ue.wrap R.tt=R.tt:=Xe _ (by omega);have C8:∀s:Bw w2,s.val.cell? ⟨r,8,Y⟩=Z (I O R.now):=λs=>(HR.out _ (m.b.trans (s.is.mono m.b.size))).head.Ri 8
 have C0:∀s:Bw w2,s.val.cell? ⟨r,0,Y⟩=Z (I O (R.c 0)):=λs=>(HR.out _ (m.b.trans (s.is.mono m.b.size))).head.Ri 0
 go_upto_region 12 with fail;refine aU ?_;repeat (first|go_big_quiet_skip|(go_big_quiet_want;go_big_quiet_op;go_big_quiet_on))
 refine Ve ?_;rintro _ ⟨s,rfl⟩;have D:=aa (m.keep s.is);have d2:=aa (Mem.af.below HA s.is HA.lt);clear C8 C0 j1 a5 j4 x1 h4 h3 m HA i7;generalize s.val=w3 at *;obtain⟨E,f1⟩:∃E,R.tt=E:=⟨_,rfl⟩;have a8:=aa f1;rw[f1]at j2 j3 ⊢;clear f1;obtain⟨c9,M,G,P,T⟩:=a7.out w3 D.b;go_upto_region 13 with fail;obtain⟨q,HQ⟩:∃q:Bool,q=true↔R.W.o<E/\R.W.hs≠[]:=⟨decide _,decide_eq_true_iff⟩;change Hid _ at HQ;go_cut [80] (λj6 wx=>j6=.bool q/\wx=w3)
 case first=>
  by_cases x:R.W.o<E
  .by_cases h2:R.W.hs=[]
   .obtain rfl:q=false:=Bool.eq_false_iff.2 λe=>(HQ.1 e).2 h2
    rw[h2]at G;go_wp2_with fail;go_meet;exact⟨rfl,rfl⟩
   obtain rfl:q=true:=HQ.2 ⟨x,h2⟩;have h3:0<R.W.hs.length:=List.length_pos_iff.2 h2;go_wp2_with fail;go_meet;exact⟨rfl,rfl⟩
  obtain rfl:q=false:=Bool.eq_false_iff.2 λe=>x (HQ.1 e).1
  go_wp2_with fail;go_meet;exact⟨rfl,rfl⟩
 case rest=>
  obtain⟨rfl,rfl⟩:=hcut;clear c9 M G P T;go_upto_if 80 with fail
  go_cut [3] (λs3 wx=>∃(la:Option Addr) (lc:Nat) (l:List We),s3=Q la l.length lc/\Hid (Wl w wx R p (Q la l.length lc) l/\l.map (·.V)=R.W ::cY R/\af wx ab 37 #[I O R.d.a0,I O R.d.a1,I O R.d.a2,I O R.d.a3,L R.d.s]))
  case first=>
   cases q with
   | false=>
    have HE:=aa (show cY R=[] by unfold cY;rw[a8.out,if_neg λe=>absurd (HQ.2 e) (by decide)]);go_wp2_with fail;go_meet;exact⟨_,_,[⟨p.dv,p.hv,R.W⟩],rfl,D,by rw[HE.out];rfl,d2⟩
   | true=>
    obtain⟨k0,e4⟩:∃k0:Nat,R.W.sr=(k0:Int):=⟨R.W.sr.toNat,(Int.toNat_of_nonneg HD.sr.1).symm⟩;have k7:k0<=R.W.hs.length:=by have:=HD.sr.2;omega
    have HE:=aa (show cY R=(List.range' k0 (R.W.hs.length+1 - k0)).map λk=>lU R.c R.W k E by unfold cY;rw[a8.out,if_pos (HQ.1 rfl),e4];rfl);have P:=(a7.out _ D.b).2.2.2.1;rw[e4]at P;clear e4;go_wp2_with fail;go_loopw [3,9] (λs3 s9 W=>∃(k lc:Nat) (la:Option Addr) (l:List We),s3=Q la l.length lc/\s9=I O (k:Int)/\k0<=k/\k<=R.W.hs.length+1/\l.length<=k+1/\Hid (Wl w W R p (Q la l.length lc) l/\l.map (·.V)=R.W ::(List.range' k0 (k - k0)).map (λk=>lU R.c R.W k E)/\af W ab 37 #[I O R.d.a0,I O R.d.a1,I O R.d.a2,I O R.d.a3,L R.d.s])) (λ_ s9 _=>R.W.hs.length+1 - (intOf s9).toNat)
    case atStart=>exact⟨k0,_,_,[⟨p.dv,p.hv,R.W⟩],rfl,rfl,Nat.le_refl _,by omega,Nat.le_add_left _ _,D,by rw[Nat.sub_self];rfl,d2⟩
    case round=>
     obtain⟨k,lc,la,l,rfl,rfl,k8,k9,g9,a⟩:=hrel;obtain⟨c9,M,G,f9,T⟩:=a7.out wr a.1.b;by_cases hk:k<=R.W.hs.length
     .have i9:(k:Int)<=(R.W.hs.length:Int):=by omega
      have d0:=HR.out wr a.1.b;have f0:=CF r R.c (Q da R.W.due.length dc) (Q ha R.W.hs.length y) R.W.due R.W.hs R.W.o R.W.sr R.W.tp E _ k hk wr d0.cfg (HD.take (by omega) k) (b4.out▸d0.rows.wd.due) (b6.out▸d0.rows.wd.held) (by omega);unfold wv at f0;clear d0;go_wp2_with fail;refine f0.mono ?_;clear f0 c9 M G f9 T;rintro e w4 ⟨j7,rfl,e7,X⟩;obtain⟨va,vc,hv⟩:=ak e7;rw[Xa,Vb]at hv;subst hv;have a9:=aa (a.1.keep X);have b7:=aa (show El w4 R p w.heap.size ⟨Q va (R.W.due.length+1) vc,Q Y 0 0,lU R.c R.W k E⟩ from⟨Va (fw e7 a.1.b.size),Va (World.ownsRow_nil _ _ _ _)⟩);have c3:=aa (Mem.af.below a.2.2 X a.2.2.lt);have HM:=aa a.2.1;clear e7 X a;have t:=aa (ai (w:=w4) (.cells #[Q va (R.W.due.length+1) vc,I O E,Q Y 0 0,I O 0,I O R.W.o] 34));have b8:=aa (b7.src (HR.out w4 a9.b).rows 34 (cs:=#[Q va (R.W.due.length+1) vc,I O E,Q Y 0 0,I O 0,I O R.W.o]) rfl);go_wp2_with (at_builtin;refine JZ rfl _ _ rfl (a9.keep t) rfl rfl (b7.keep t) b8 (by omega) ?_;intro ao cv w5 c1 d5;have J:=aa c1;change Hid _ at d5;clear c1)
      have h6:=aa (Foot.af.off (Mem.af.below c3 t c3.lt) d5 λhm=>by
       obtain⟨cs,hs⟩:=au (a9.keep t).row hm;exact Ty (Mem.af.below c3 t c3.lt) hs rfl)
      go_roundw
      case rel=>exact⟨k+1,cv,ao,_,by rw[Xa];rfl,by go_num,by omega,by omega,by rw[Xa,Vb];omega,J,by rw[Vc,HM.out,show k+1 - k0=(k - k0)+1 by omega,List.range'_concat,Vc,Nat.one_mul,show k0+(k - k0)=k by omega];rfl,h6⟩
      case measure=>simp only[intOf];omega
     have i9:¬(k:Int)<=(R.W.hs.length:Int):=by omega
     have g8:k=R.W.hs.length+1:=by omega
     have HM:=aa a.2.1;rw[g8,<-HE.out]at HM;clear g8;go_wp2_with fail;go_meet;exact⟨_,_,_,rfl,a.1,HM,a.2.2⟩
  case rest=>
   obtain⟨la,lc,l,rfl,a⟩:=hcut;clear D d2;have j5:=sZ R;have g9:l.length<=R.W.hs.length+2:=by
    have x:=congrArg List.length a.2.1;rw[te,List.length_cons]at x;omega
   have x1:=a.2.2.Ri 1;by_cases x:R.d.a1=1
   rotate_left
   .have HE:=aa (show dV R=R.W ::cY R by unfold dV;rw[if_neg A.out,if_neg c6.1,if_neg c6.2,if_neg x]);go_wp2_with fail;go_ret;exact⟨_,_,rfl,a.1,by rw[HE.out];exact a.2.1⟩
   have HE:=aa (show dV R=(R.W ::cY R)++qh R (R.W ::cY R) by unfold dV;rw[if_neg A.out,if_neg c6.1,if_neg c6.2,if_pos x]);rw[x]at x1;obtain⟨z,hL⟩:∃z,R.W ::cY R=z:=⟨_,rfl⟩;have h9:=aa (λV (hV:V∈z)=>HD.Tt (by omega) (hL▸hV));rw[hL]at HE a;have e5:l.length=z.length:=by
    have x:=congrArg List.length a.2.1;rwa [te]at x
   have j9:z.length<=R.W.hs.length+2:=by omega
   have c5:=aa e5;rw[e5]at a g9 ⊢;clear hL x j5 e5;go_wp2_with fail;go_loopw [3,11] (λs3 f2 W=>∃(i lc:Nat) (la:Option Addr) (l:List We),s3=Q la l.length lc/\f2=I O (i:Int)/\i<=z.length/\z.length<=l.length/\l.length<=z.length+i/\Hid (Wl w W R p (Q la l.length lc) l/\l.map (·.V)=z++qh R (z.take i)/\af W ab 37 #[I O R.d.a0,I O R.d.a1,I O R.d.a2,I O R.d.a3,L R.d.s])) (λ_ f2 _=>z.length - (intOf f2).toNat)
   case atStart=>exact⟨0,_,_,l,by rw[c5.out],rfl,Uc _,Ye c5.symm,Ye c5,by rw[c5.out];exact a.1,by rw[a.2.1,List.take_zero];exact(List.append_nil _).symm,a.2.2⟩
   case round=>
    clear a;obtain⟨i,lc,la,l,rfl,rfl,k6,l0,l1,a⟩:=hrel;by_cases hi:i<z.length
    .have i8:(i:Int)<(z.length:Int):=by omega
     obtain⟨e,he⟩:∃e,l[i]? = Z e:=⟨_,Xb (by omega)⟩;have d8:z[i]? = Z e.V:=by
      have x:=congrArg (·[i]?) a.2.1;simp only[List.getElem?_map,he,Option.map_some]at x;rw[List.getElem?_append_left hi]at x;exact x.symm
     have HN:=aa (show qh R (z.take (i+1))=qh R (z.take i)++if e.V.o<E/\e.V.hs≠[] then [] else [th (wt R.c E e.V) R.d.s] by rw[List.take_add_one,d8,Option.toList_some,Fx,a8.out]);have b5:=aa (h9.out e.V (Wb d8));have d4:=aa (a.1.PV e (Wb he));obtain⟨g,gc,hv,k4,H,g0,g1,g2,g3,g4⟩:=AP a.1.row he;injection hv with e1 e2 e3;subst e1;subst e3;clear e2 he d8 H;obtain⟨ev,eh,V⟩:=e;have c8:oF wr ev eh V:=d4.at (HR.out wr a.1.b).rows;obtain⟨ea,ec,rfl⟩:=ak c8.due;obtain⟨fa,fc,rfl⟩:=ak c8.held;have d3:=aa c8;clear c8;simp only at g0 g1 g2 g3 g4 HN b5 d3;have k1:=b5.due;have k2:=b5.hs;by_cases x:V.o<E
     case' pos=>
      by_cases h2:V.hs=[]
      rotate_left
      .have h3:0<V.hs.length:=List.length_pos_iff.2 h2;have HM:=aa (show l.map (·.V)=z++qh R (z.take (i+1)) by rw[HN.out,if_pos ⟨x,h2⟩,List.append_nil];exact a.2.1);clear h2;go_wp2_with fail;go_roundw
       case rel=>exact⟨i+1,_,_,l,rfl,by go_num,by omega,by omega,by omega,a.1,HM,a.2.2⟩
       case measure=>simp only[intOf];omega
      have c7:=aa (show ¬(V.o<E/\V.hs≠[]) from λe=>e.2 h2);have h3:¬0<V.hs.length:=by rw[h2];exact Nat.lt_irrefl 0
      clear h2;go_upto_region 24 with fail;clear x h3
     case' neg=>
      have c7:=aa (show ¬(V.o<E/\V.hs≠[]) from λe=>x e.1);go_upto_region 24 with fail;clear x
     all_goals
      have H:=a.1.row.lt g rfl;have G0:∀s:Bw wr,s.val.cell? ⟨g,i*5,Y⟩=Z (Q ea V.due.length ec):=λs=>(s.is.cell (p:=⟨g,i*5,Y⟩) H.2).trans g0
      have G1:∀s:Bw wr,s.val.cell? ⟨g,i*5+1,Y⟩=Z (I O V.o):=λs=>(s.is.cell (p:=⟨g,i*5+1,Y⟩) H.2).trans g1
      have G2:∀s:Bw wr,s.val.cell? ⟨g,i*5+2,Y⟩=Z (Q fa V.hs.length fc):=λs=>(s.is.cell (p:=⟨g,i*5+2,Y⟩) H.2).trans g2
      have G3:∀s:Bw wr,s.val.cell? ⟨g,i*5+3,Y⟩=Z (I O V.sr):=λs=>(s.is.cell (p:=⟨g,i*5+3,Y⟩) H.2).trans g3
      have G4:∀s:Bw wr,s.val.cell? ⟨g,i*5+4,Y⟩=Z (I O V.tp):=λs=>(s.is.cell (p:=⟨g,i*5+4,Y⟩) H.2).trans g4
      have X4:∀s:Bw wr,s.val.cell? ⟨ab,4,Y⟩=Z (L R.d.s):=λs=>(Mem.af.below a.2.2 s.is a.2.2.lt).Ri 4
      have u:Hid (Below wr.heap.size wr wr.drew):=(Zb _ _).drew;clear g0 g1 g2 g3 g4 H;refine yh 11 (by kernel_rfl) ?_;refine kL (f:=5) [0,1,2,3,4,5,7,8] (Bw.has u) (by kernel_rfl) (λ_ _ _ _ _ h=>h) rfl ?_;simp only[vd,Ud,ad,Xc,Yc,Zd];repeat (first|go_big_quiet_skip|(go_big_quiet_want;go_big_quiet_op;go_big_quiet_on))
      refine Ve ?_;clear G0 G1 G2 G3 G4 X4;generalize wr.drew=wd at *;have h8:=aa (a.1.b.trans (u.mono a.1.b.size));have e9:=HR.out wd h8;have d1:=qE r R.c HD.ll R.now HD.now.1 HD.now.2 (Q ea V.due.length ec) (Q fa V.hs.length fc) V _ wd e9.cfg (e9.head.Ri 8) b5.doc (d3.keep u) (by omega) (by omega);rw[show R.now / R.c 0=E from a8.out]at d1;unfold Ki wv at d1;clear e9;refine aW (j:=6) (λK B=>?_);go_simp;refine d1.mono ?_;clear d1;rintro e w5 ⟨j8,l2,rfl,c2,-,-,d9,c0⟩;obtain⟨rfl,rfl⟩:=c0 c7;have J:=aa ((a.1.keep u).keep d9);have t:=aa (u.trans (d9.mono u.size));have a5:=Pw (R:=R) (V:=V) (a8.out▸c7.out);rw[a8.out]at a5;obtain⟨U,hU⟩:∃U,wt R.c E V=U:=⟨_,rfl⟩;rw[show dL (qF R.c V.o V.hs) E V=U from hU]at c2 ⊢;rw[hU]at a5 HN;have f8:=aa a5;have htk:=Jz ea V.due.length ec U.o U.sr U.tp (Q fa V.hs.length fc) V.hs R.d.s w5 (a5.2▸c2.held) (by omega);unfold wv at htk;refine B _ _ (λ_=>Bw.has t) ?_;clear B K d9 c2 a5 hU c0;refine aW (j:=9) (λK B=>?_);go_simp;refine htk.mono ?_;clear htk;rintro e w6 ⟨l3,rfl,e8,e0⟩;obtain⟨b0,b1,hv⟩:=ak e8;rw[Xa,Vb]at hv;subst hv;have d6:=aa (J.keep e0);have a6:=aa (t.trans (e0.mono t.size));have f5:=aa (show El w6 R p w.heap.size ⟨Q ea V.due.length ec,Q b0 (V.hs.length+1) b1,th U R.d.s⟩ from⟨by
       have x:=(d4.keep a6).d;simp only[th];rw[f8.1];exact x,Va (by
       simp only[th];rw[f8.2];exact fw e8 J.b.size)⟩)
      refine B _ _ (λ_=>Bw.has a6) ?_;clear B K e8 e0 J;refine aW (j:=10) (λK B=>?_);go_simp;have b8:=aa (f5.src (HR.out w6 d6.b).rows 34 (cs:=#[Q ea V.due.length ec,I O U.o,Q b0 (V.hs.length+1) b1,I O U.sr,I O U.tp]) rfl);have b3:=aa (ai (w:=w6) (.cells #[Q ea V.due.length ec,I O U.o,Q b0 (V.hs.length+1) b1,I O U.sr,I O U.tp] 34));refine B _ _ (λ_=>Bw.has (a6.trans (b3.mono a6.size))) ?_;clear B K;have f3:=aa (Mem.af.below a.2.2 (a6.trans (b3.mono a6.size)) a.2.2.lt);refine aW (j:=11) (λK B=>?_);refine MT rfl _ _ rfl (d6.keep b3) rfl rfl (f5.keep b3) b8 (by omega) ?_;intro ao cv w8 f7 h0;change Hid _ at f7;have h7:=aa (Foot.af.off f3 h0 λhm=>by
       obtain⟨cs,hs⟩:=au (d6.keep b3).row hm;exact Ty f3 hs rfl)
      refine B _ _ (λh=>absurd h (by decide)) ?_;clear B K h0;refine aW (j:=12) (λK B=>?_);go_simp;refine B _ _ (λh=>absurd h (by decide)) ?_;clear B K;refine Tz ?_;have HM:=aa (show (l++[(⟨Q ea V.due.length ec,Q b0 (V.hs.length+1) b1,th U R.d.s⟩:We)]).map (·.V)=z++qh R (z.take (i+1)) by
       rw[HN.out,if_neg c7.out,Vc,a.2.1,List.append_assoc];rfl)
      clear a d3 d4 b5 HN;have j0:(l++[(⟨Q ea V.due.length ec,Q b0 (V.hs.length+1) b1,th U R.d.s⟩:We)]).length=l.length+1:=Xa ..;generalize l++[(⟨Q ea V.due.length ec,Q b0 (V.hs.length+1) b1,th U R.d.s⟩:We)]=l8 at *;go_wp2_with fail;go_roundw
      case rel=>exact⟨i+1,cv,ao,l8,by rw[j0],by go_num,by omega,by omega,by omega,f7,HM,h7⟩
      case measure=>simp only[intOf];omega
    have i8:¬(i:Int)<(z.length:Int):=by omega
    have g7:i=z.length:=by omega
    have HM:=aa a.2.1;rw[g7,List.take_length,<-HE.out]at HM;clear g7;go_wp2_with fail;go_ret;exact⟨_,rfl,_,a.1,HM⟩
end Go.Proofs.YtpndiccohnafbaaGreatDoor.Lw
