/- The history that all segments tell. -/
import Derived.Test.YtpndiccohnafbaaGreatDoorOj
import Derived.Test.YtpndiccohnafbaaGreatDoorEay
import Derived.RangeFuncNested
import Derived.Test.YtpndiccohnafbaaGreatDoorOq
set_option maxHeartbeats 9000000
open Go.Value renaming pointer->ca,slice->Q,int->I,string->L,int->Wc,string->ef
open Option renaming some->Z,none->Y
open Go.IntKind renaming i64->O
open List renaming mem_singleton->Ua,mem_cons_of_mem->Wa,mem_map->Xa,mem_cons_self->Ya,length_map->Za,append_nil->eb,pairwise_append->qb,map_append->Ub,getElem?_of_mem->Vb,mem_append->Xb,eq_nil_or_concat->Uc,concat_eq_append->Zc,map_map->ad,pairwise_map->ed,map_eq_singleton_iff->vd,cons_append->Ud,flatMap_map->Vd,pairwise_singleton->Xd,length_nil->Zd,take_of_length_le->Ve,take_append_drop->Xe
open Go renaming undef->Va,World->N,Value->C,callsIn_wide->zd,grownBy_putObj'->te
open Nat renaming le_trans->Wb,le_refl->Ue,zero_add->Ze
open Array renaming getElem?_eq_some_iff->Yb
open Or renaming inl->Zb,inr->Vc
open Go.World renaming ownsRow_nil->Xc
open Go.Proofs.Tryz renaming prog->Yc
open Go.RowKit.Below renaming refl->Ye
open Option.some renaming injEq->Uf
namespace Go.Proofs.YtpndiccohnafbaaGreatDoor
namespace Jr
open Go.RowKit Go.Maps Mem Foot Bytes Im Wm Hi Plainw Cq Dd
variable {a b:N}{c:Nat}{d:Hp}{e:Hs}
theorem HA.cells (h:HA a e d)  (i:c∈d.blocks):∃t f,af a c t f/\(t=135\/t=93\/t=9\/t=3):=
 Hp.xQ i (λb=>⟨_,_,b▸h.head,Zb rfl⟩) (λb=>by
  obtain⟨f,g⟩:=au h.sv b;grind) (λb=>by
  obtain⟨f,g⟩:=au h.dv b;grind) (λb=>by
  obtain⟨f,g⟩:=au h.sg b;grind) (λb=>by
  rcases Db h.ws b with ⟨f,g⟩|⟨f,g⟩
  .exact⟨_,f,g,Vc (Vc (Zb rfl))⟩
  grind)
theorem HA.not (h:HA a e d)  {t:TypeId}{b:Array C}(k:af a c t b)(l:t≠135/\t≠93/\t≠9/\t≠3):c∉d.blocks:=λg=>by
 obtain⟨m,f,i,j⟩:=h.cells g;grind [af]
theorem HA.sk (h:HA a e d)(f:an d.blocks a b)(j:∀i∈d.blocks,c<=i)(hz:c<=a.heap.size):zm c a b:=
 ⟨f.below j hz,λk m t g l=>Foot.af.off g f (h.not g (by rcases l with rfl|rfl<;>decide))⟩
theorem KeepsOthers.LD {F:List Nat}  (h:an F a b)(g:∀k∈F,∃t d,af a k t d):KeepsOthers a b:=
 ⟨h.size,λk o c i=>(h.block k (Yb.1 c).1 (λe=>by
  obtain⟨t,d,f⟩:=g k e;unfold af at f;rw[f]at c;cases c;cases i)).trans c⟩
def Ir (w:N)(c d:Nat)(a:List Yr)(W:N):Prop:=
 (∃p,HA W (av hs0 (oB a)) p/\p.hb=c/\∀b∈p.blocks,w.heap.size<=b)/\af W d 128 #[ca (Z ⟨c,0,Y⟩)]/\Below w.heap.size w W
theorem Ol (w:N)(d j B:Nat)(l:w.heap.size<=B):OwnFrom B (Ir w d j):=by
 intro q W s r ⟨⟨p,g,a,c⟩,h,i⟩ m f;have e:=cu m;refine⟨⟨p,g.off e λk n=>?_,a,c⟩,Foot.af.off h e (kG f h),i.trans (e.below (λb d=>Wb l (f b (by simpa using d)).1) i.size)⟩;obtain⟨t,u,o,_⟩:=g.cells n;exact kG f o
theorem hlen (a:List Et):∀h:Hs,(av h a).ae.length<=h.ae.length+a.length/\(av h a).ar.length<=h.ar.length+a.length/\(av h a).az.length<=h.az.length+a.length+1:=by
 induction a with
 | nil=>intro h;exact⟨Ue _,Ue _,Nat.le_succ _⟩
 | cons x a b=>
  intro h;obtain⟨c,d,f⟩:=b (hnext h x);have g:(hent x.1.1 h.az).length<=h.az.length+1:=by grind [hent]
  have e:av h (x ::a)=av (hnext h x) a:=rfl;grind [hnext,htk]
def eK (H:Hs):Hs:=if H.ar=[] then {H with onum:=H.g+1} else H
def PR (b:Option Addr)(n c a e:Nat)(u v:C)(d f:Nat):Act:=
 ⟨#[Q b n c,Va,ca Y,ca (Z ⟨a+1,0,Y⟩),ca (Z ⟨d,0,Y⟩),ca (Z ⟨f,0,Y⟩),.agg #[I O (-1),I O 0],.agg #[Q Y 0 0,I O 0,Q Y 0 0,Q Y 0 0,I O (-1),I O (-1),I O 0],ca (Z ⟨a,0,Y⟩),Q b n c,.func (.func 148) #[] #[ca (Z ⟨e,0,Y⟩)],u,v,Va,Va,Va,Va,Va,Va,Va,Va,Va,Va,Va,Va,Va,Va,Va,Va,Va,Va,Va,Va,Va,Va,Va,Va,Va,Va,Va,Va,Va,Va,Va,Va],[]⟩
def SH (f:Option Addr)(n g e d:Nat)(x:Yr)(a:Act)(W:N):Prop:=
 ∃b c,a=PR f n g e d (.agg #[I O x.1.1.1,I O (x.1.1.2:Int)]) x.1.2.val b c/\af W b 133 #[I O x.1.1.1,I O (x.1.1.2:Int)]/\af W c 158 #[L ⟨#[x.1.2.k]⟩,I O x.1.2.n,L x.1.2.t]
theorem Ko (m:Option Addr)(n o i g:Nat)(x:Yr)(a:Act)(B:Nat):OwnFrom B (λ(_:Unit) W=>SH m n o i g x a W):=by
 intro _ W p l ⟨f,k,h,b,c⟩ j e;have d:=cu j;exact⟨f,k,h,Foot.af.off b d (kG e b),Foot.af.off c d (kG e c)⟩
theorem Ir.keep {j:Nat}{e:List Yr}{i:N}(h:Ir a c j e b)(d:Below b.heap.size b i):Ir a c j e i:=by
 obtain⟨⟨p,m,f,g⟩,k,l⟩:=h;exact⟨⟨p,m.keep d,f,g⟩,Mem.af.below k d k.lt,l.trans (d.mono l.size)⟩
attribute [local go_sem] Oper.semAt_some
set_option maxRecDepth 20000 in
theorem Qg (w:N)(hT:gp w)(hE:oC w)(sa:Option Addr)(sc:Nat)(l:List (Int×ByteArray))(ss:List (Int×List Rc))(b7:w.ownsRow 0 176 2 (Q sa l.length sc) l.length (l.flatMap ct))(ht:Told l ss)(hl:l.length<=1000000000)(hfit:fK hs0 (aG ss))(hN:(aG ss).length<=900000000)(hg:(av hs0 (aG ss)).g<=1000000000/\-1<=(av hs0 (aG ss)).g):
  Calls Yc 76 #[Q sa l.length sc] w λe w'=>∃p,e=.returned (ca (Z ⟨p.hb,0,Y⟩))/\HA w' (eK (av hs0 (aG ss))) p/\(∀b∈p.blocks,w.heap.size<=b)/\Below w.heap.size w w':=by
 refine(zd (n:=12)).1 ?_;refine callsIn_of_wp_marks Tryz.func76 rfl trivial ?_ rfl;simp only[Tryz.ntmps76,List.size_toArray,List.length_cons,Zd,Nat.reduceAdd,Nat.reduceSub,Array.replicate_succ,Array.replicate_zero,List.push_toArray,List.append_toArray,List.nil_append,Ud];have HT:=aa hT;have HE:=aa hE;have g8:=aa b7;have g9:=aa ht;have d2:=aa hfit;have HG:=aa hg;have B:=af.new w 135 (hz 0);have j:=ai (w:=w) (.cells (hz 0) 135);have E:=af.new (w.alloc (.cells (hz 0) 135)) 128 #[ca (Z ⟨w.heap.size,0,Y⟩)];have a:=ai (w:=w.alloc (.cells (hz 0) 135)) (.cells #[ca (Z ⟨w.heap.size,0,Y⟩)] 128);have b0:=aa (Mem.af.below B a B.lt);rw[World.size_alloc]at E;have b1:=aa E;have b9:=aa (j.trans (a.mono j.size));have HZ:=aa (show ((w.alloc (.cells (hz 0) 135)).alloc (.cells #[ca (Z ⟨w.heap.size,0,Y⟩)] 128)).heap.size=w.heap.size+2 by simp);clear B j E a hT hE b7 ht hfit hg;unfold hz at b0 b1 b9 HZ;gi_wp2_with fail;generalize e8:w.heap.size=V at b0 b1 b9 HZ ⊢;have g1:=aa e8;clear e8;generalize (w.alloc (.cells #[Q Y 0 0,I O 0,Q Y 0 0,Q Y 0 0,I O (-1),I O (-1),I O 0] 135)).alloc (.cells #[ca (Z ⟨V,0,Y⟩)] 128)=w2 at *;refine⟨trivial,(zd.2 (Sy sa l.length sc w2)).mono ?_⟩;rintro e w3 ⟨rfl,rfl⟩;have e5:=af.new w2 125 #[Q sa l.length sc];have m:=ai (w:=w2) (.cells #[Q sa l.length sc] 125);have v:=aa (show Below w.heap.size w (w2.alloc (.cells #[Q sa l.length sc] 125)) by rw[g1.out];exact b9.trans (m.mono (by have:=HZ.out;omega)));have g2:=aa (show Ir w V (V+1) [] (w2.alloc (.cells #[Q sa l.length sc] 125)) from⟨⟨⟨V,Q Y 0 0,[],Q Y 0 0,Q Y 0 0⟩,⟨Mem.af.below b0 m b0.lt,Xc _ _ _ _,rfl,λx hx=>by simp at hx,Xc _ _ _ _,Xc _ _ _ _,λk hk=>by simp[Value.ownBlock]at hk⟩,rfl,λb d=>by grind [Hid,Hp.blocks,Value.ownBlock,gN]⟩,Mem.af.below b1 m b1.lt,v⟩);have f4:=aa e5;have i0:=aa (show V+2<(w2.alloc (.cells #[Q sa l.length sc] 125)).heap.size by simp;have:=HZ.out;omega);clear e5 m;gi_wp2_with fail;generalize w2.alloc (.cells #[Q sa l.length sc] 125)=w3 at *;apply wpIn_rangeFunc_ownH (F:=Fence.wide) (n:=12) rfl (by decide) (gf:=148) (lb:=#[ca (Z ⟨w2.heap.size,0,Y⟩)]) rfl trivial (enters_of Tryz.func148 (by kernel_rfl) rfl)
  (OM w w3 HT HE v 11 (by decide) w2.heap.size (Q sa l.length sc) l ss f4 (aE g8 v) g9 hl) (λh k=>zm.trans h k)
  (λW lp o o' h1 h2 h3 _=>by
   refine⟨(cu (te W lp o')).below (λb d=>?_) (Wb v.size (Wb h1 (Nat.le_of_lt (Yb.1 h2).1))),λk cs t hs _=>(World.putObj_heap_other (λe=>?_)).trans hs⟩
   .have e:b=lp:=by simpa using d
    rw[e];exact Wb v.size h1
   subst e;have h8:W.heap[k]? = _:=hs;rw[h8]at h2;cases h2;cases h3)
  (Ye _ _) (λ_=>rfl) (Ir w V (V+1)) (λ_ f _=>¬fK hs0 (oB f))
  (Ol w V (V+1) _ v.size) (λ_ _ _ _ _ h _ _=>h) g2
  (SH sa l.length sc V w2.heap.size) (λx a'=>Ko _ _ _ _ _ _ _ _)
 case hassign=>
  intro lp f x W K hI hK;obtain⟨⟨⟨num,z⟩,⟨S,T,U⟩⟩,a5⟩:=x;have B:=af.new W 133 #[I O num,I O (z:Int)];have j:=ai (w:=W) (.cells #[I O num,I O (z:Int)] 133);have E:=af.new (W.alloc (.cells #[I O num,I O (z:Int)] 133)) 158 #[L ⟨#[S]⟩,I O T,L U];have a:=ai (w:=W.alloc (.cells #[I O num,I O (z:Int)] 133)) (.cells #[L ⟨#[S]⟩,I O T,L U] 158);rw[World.size_alloc]at E;have HF:=aa (hK _ _ ((KeepsOthers.vu (j.trans (a.mono j.size))).from _) (zm.ag (j.trans (a.mono j.size)) hI.2.2.size) (hI.keep (j.trans (a.mono j.size))) ⟨_,_,rfl,Mem.af.below B a B.lt,E⟩);clear hK B E j a hI;simp only[Ob,Rc.val];gi_wp2_with fail;exact HF
 case hbody=>
  intro lp f x a' W i2 h9 hI h4 i3;obtain⟨⟨⟨num,z⟩,⟨S,T,U⟩⟩,a5⟩:=x;obtain⟨ab,rb,rfl,c5,R⟩:=h4;obtain⟨⟨⟨d,sv,ws,dv,sg⟩,hA,i,r⟩,M,q⟩:=hI;simp only at i;subst i;simp only at c5 R;obtain⟨L1,L2,L3⟩:=hlen (oB f) hs0;have i4:(oB f).length=f.length:=Za ..;simp only[hs0,Zd,Ze]at L1 L2 L3;have f3:=aa (show fK hs0 (oB (f++[(⟨((num,z),⟨S,T,U⟩),a5⟩:Yr)]))->hfit (av hs0 (oB f)) ⟨S,T,U⟩=true from λh=>by
   rw[mX,gG]at h;exact h.2.1)
  have g6:=aa (show av hs0 (oB (f++[(⟨((num,z),⟨S,T,U⟩),a5⟩:Yr)]))=hnext (av hs0 (oB f)) ((num,z),⟨S,T,U⟩) by
   rw[mX,aK];rfl)
  have hd:(av hs0 (oB f)).ar.length<=1000000000:=by
   unfold hs0;omega
  have hv:(av hs0 (oB f)).ae.length<=1000000000:=by
   unfold hs0;omega
  have hl:(av hs0 (oB f)).az.length<=1000000000:=by
   unfold hs0;omega
  clear L1 L2 L3;generalize av hs0 (oB f)=H at *;have c4:=PZ H ⟨d,sv,ws,dv,sg⟩ ⟨S,T,U⟩ a5.k W hA;simp only[Rc.val]at c4;have a7:=aa hA;have d8:=aa c5;have d9:=aa R;have a8:=aa M;have c9:=aa q;have A:=aa r;have d7:=aa a5;have c3:=M.Ri 0;have r0:=R.Ri 0;have r1:=R.Ri 1;have r2:=R.Ri 2;clear hA c5 R M q r;simp only[PR,Rc.val];gi_wp2_with fail;refine⟨trivial,(CallsIn.inRound lp (zd.2 c4)).mono ?_⟩;clear c4 c3 r0 r1 r2;rintro e W2 ⟨rfl,a⟩;have c0:=aa a;have b8:=aa (a7.keep a);have G:=aa (Mem.af.below d8 a d8.lt);have a4:=aa (Mem.af.below d9 a d9.lt);have X:=aa (Mem.af.below a8 a a8.lt);clear a;by_cases b2:hfit H ⟨S,T,U⟩=true
  .rw[b2];have htk:=QX H ⟨d,sv,ws,dv,sg⟩ num ⟨S,T,U⟩ d7.k W2 b8 hd hv hl;simp only[Rc.val]at htk;have c3:=X.Ri 0;have r0:=a4.Ri 0;have r1:=a4.Ri 1;have r2:=a4.Ri 2;have a0:=G.Ri 0;have a1:=G.Ri 1;gi_wp2_with fail;refine⟨trivial,(CallsIn.inRound lp (zd.2 htk)).mono ?_⟩;clear htk c3 r0 r1 r2 a0 a1;rintro e W3 ⟨rfl,hq⟩;obtain⟨⟨⟨m,i7,i8,i1,i6⟩,J,i,e9⟩,b3⟩:=hq;simp only at i;subst i;have c6:=aa J;have g5:=aa e9;have g7:=aa b3;have b6:=aa (Foot.af.off G b3 (b8.not G (by decide)));have d0:=aa (Foot.af.off X b3 (b8.not X (by decide)));have c3:=d0.Ri 0;have a0:=b6.Ri 0;have a1:=b6.Ri 1;have d5:=J.head.Ri 5;have f5:=J.head.frozen 5;have d6:=(J.head.set 5 (I O num)).Ri 6;have f6:=(J.head.set 5 (I O num)).frozen 6;clear J e9 b3;gi_wp2_with fail;have u:an [m] W3 ((W3.setCell ⟨m,5,Y⟩ (I O num)).setCell ⟨m,6,Y⟩ (I O (z:Int))):=((an.refl _ _).set (Ua.2 rfl) _ _).set (Ua.2 rfl) _ _;have h0:=c6.num u (o:=(Jr.htk H num ⟨S,T,U⟩).onum) (g:=(Jr.htk H num ⟨S,T,U⟩).g) (es:=num) (ez:=(z:Int)) ((c6.head.set 5 _).set 6 _);have b4:an (Hp.blocks ⟨m,sv,ws,dv,sg⟩) W ((W3.setCell ⟨m,5,Y⟩ (I O num)).setCell ⟨m,6,Y⟩ (I O (z:Int))):=((an.ag c0).trans g7).trans (u.mono λk _ hk=>Ua.1 hk▸Hp.iO _);have b5:=c9.size;refine⟨(KeepsOthers.LD b4 (λk hk=>?_)).from _,a7.sk b4 A b5,⟨_,by rw[g6.out];exact h0,rfl,λb V=>(g5.out b V).elim (A.out b) λe=>Wb b5 (Wb c0.size e)⟩,Foot.af.off a8 b4 (a7.not a8 (by decide)),c9.trans (b4.below A b5)⟩;obtain⟨t,cs,hs,_⟩:=a7.cells hk;exact⟨t,cs,hs⟩
  have e7:hfit H ⟨S,T,U⟩=false:=by simpa using b2
  rw[e7];have g0:=aa b2;clear b2;gi_wp2_with fail;exact⟨(KeepsOthers.vu c0).from _,λh=>g0.out (f3.out h)⟩
 case hstop=>intro D c f W hD h6 h5 _;obtain⟨f2,hp⟩:=h6;exact absurd ((gG hs0 _ f2).1 (hp▸d2.out)).1 h5
 case hdone=>
  intro D xs W hD hS hI hK;obtain⟨⟨⟨d,sv,ws,dv,sg⟩,hA,i,r⟩,M,q⟩:=hI;simp only at i;subst i;rw[hS]at hA;have y:=aa hA;have a2:=aa M;have a3:=aa q;have A:=aa r;have c2:=aa hK;have h7:=HG.out;have f8:=aa hD;clear hA M q r hS hD d2 HG;generalize hH:av hs0 (aG ss)=H at y h7;have d3:=aa hH;clear hH;obtain⟨da,dc,e6⟩:=ak y.dv;simp only at e6;subst e6;have hc:=a2.Ri 0;have hd:=y.head.Ri 2;have f9:=aa (show D∉[d] from λe=>by grind [Hid]);have b5:w.heap.size<=D:=Wb v.size f8;by_cases P:H.ar=[]
  .have c1:=aa (show eK H={H with onum:=H.g+1} by unfold eK;rw[if_pos P]);have f0:H.ar.length=0:=by rw[P];rfl
   rw[f0]at hd;clear P;gi_wp2_with fail;rename_i e4;have g4:=aa e4;have C0:∀s:Bw W,s.val.cell? ⟨d+1,0,Y⟩=Z (ca (Z ⟨d,0,Y⟩)):=λs=>(Mem.af.below a2 s.is a2.lt).Ri 0
   have C4:∀s:Bw W,s.val.cell? ⟨d,4,Y⟩=Z (I O H.g):=λs=>(y.keep s.is).head.Ri 4
   have i5:IntKind.i64.wrap (H.g+1)=H.g+1:=IntWalk.i64_in _ (by omega);clear e4 hc hd;refine wpIn_wide.2 (bg 10 ?_);simp only[List.take_succ_cons,List.take_zero,List.drop_succ_cons,List.drop_zero];repeat go_big_quiet_step (fail)
   refine wpQuiet_nil ?_;intro s;have c7:=aa s.is;have a9:=aa (y.keep s.is);have g3:=aa (Mem.af.below a2 s.is a2.lt);have d4:Hid (s.val.heap[D]? = Z (.deferred (Z []))):=(s.is.block D (Yb.1 c2).1).trans c2;clear C0 C4;generalize s.val=W2 at *;have d1:=a9.head.Ri 1;have f1:=a9.head.frozen 1;go_wp2_with fail;refine g4.out _ _ ?_;have u:an [d] W2 (W2.setCell ⟨d,1,Y⟩ (I O (H.g+1))):=(an.refl _ _).set (Ua.2 rfl) _ _;have e1:=a9.num u (o:=H.g+1) (g:=H.g) (es:=H.es) (ez:=H.ez) (a9.head.set 1 _);have e2:=Foot.af.off g3 u (by simp);have e3:=(u.block D (Yb.1 d4).1 f9).trans d4;have c8:=aa (a3.trans ((c7.mono a3.size).trans (u.below (λb hm=>by rw[Ua.1 hm];exact A.out _ (Hp.iO _)) (Wb a3.size c7.size))));have e0:=aa e1;have f7:=aa e3;have cc:=e2.Ri 0;clear u e1 e2 e3 d1 f1;generalize W2.setCell ⟨d,1,Y⟩ (I O (H.g+1))=W3 at *;gi_wp2_with fail;have a6:an [D] W3 (W3.putObj D (.deferred Y)):=cu (te W3 D _);refine⟨by simp,.inl ⟨_,_,rfl,run_takeDeferred f7,?_⟩⟩;refine⟨_,results_tmp rfl _ _ _,⟨d,sv,ws,Q da H.ar.length dc,sg⟩,rfl,?_,A,c8.trans (a6.below (λb hm=>by grind) c8.size)⟩;rw[d3.out,c1.out];refine e0.off a6 λk hk e=>?_
   obtain⟨t,cs,hs,_⟩:=e0.cells hk;unfold af at hs;grind [Hid]
  have c1:=aa (show eK H=H by unfold eK;rw[if_neg P]);have f0:¬(H.ar.length:Int)=0:=λe=>P (List.length_eq_zero_iff.1 (by omega))
  clear P;gi_wp2_with fail;have a6:an [D] W (W.putObj D (.deferred Y)):=cu (te W D _);refine⟨by simp,.inl ⟨_,_,rfl,run_takeDeferred c2,?_⟩⟩;refine⟨_,results_tmp rfl _ _ _,⟨d,sv,ws,Q da H.ar.length dc,sg⟩,rfl,?_,A,a3.trans (a6.below (λb hm=>by grind) a3.size)⟩;rw[d3.out,c1.out];refine y.off a6 λk hk e=>?_
  obtain⟨t,cs,hs,_⟩:=y.cells hk;unfold af at hs;grind
end Jr
namespace Jr
open Go.RowKit Go.Maps Mem Foot Bytes Im Wm Hi Plainw Cq Dm Dh Dd
theorem KZ:(Yc.info? 176).map (λi=>(i.zero,i.size,i.bytes))=Z (Z (.agg #[I O 0,L ⟨#[]⟩]),2,24):=by kernel_rfl
theorem Mm (w:N)(x y:C)(t:TypeId)(d:x.oneCell'=true)(e:y.oneCell'=true):Apn.Src (w.alloc (.cells #[x,y] t)) 2 (Z ⟨w.heap.size,0,Y⟩) 1 [x,y]:=by
 refine⟨rfl,λu c=>by grind,Vc ⟨_,rfl,λj u a=>?_⟩⟩;have b:=af.new w t #[x,y];have:(⟨w.heap.size,0,Y⟩:Addr).add j=⟨w.heap.size,j,Y⟩:=by grind [Addr.add]
 simp_all
theorem fw {w:N}{a c b n:Nat}{e:TypeId}{v:C}{i:List C}(h:w.ownsRow a e b v n i)(m:c<=a):w.ownsRow c e b v n i:=by
 refine⟨h.1,?_⟩;rcases h.2 with j|⟨g,d,f,rfl,k,l⟩
 .exact Zb j
 exact Vc ⟨g,d,f,rfl,Wb m k,l⟩
def gZ (S:Dk):List (Int×ByteArray):=S.ah.map λs=>(s.num,s.text)
def bF (H:Hs):List Int:=H.ae.flatMap (·.2.2)++H.az
theorem py:∀{l:List Wn} {i:Nat} {x:Wn},l[i]? = Z x->(l.flatMap Wn.cells)[i*3]? = Z (I O x.num)/\(l.flatMap Wn.cells)[i*3+1]? = Z x.dv/\(l.flatMap Wn.cells)[i*3+2]? = Z x.sg:=by
 intro l
 induction l with
 | nil=>intro i x h;cases h
 | cons y l a=>
  intro i x h;cases i with
  | zero=>
   simp only[List.getElem?_cons_zero,Uf]at h;subst h;exact⟨rfl,rfl,rfl⟩
  | succ i=>
   have b:=a (by simpa using h);grind [Wn.cells]
theorem sF {w:N}{v:C}{l:List Int}(h:w.ownsRow 0 3 1 v l.length (l.map (Wc O))):∃a c,v=Q a l.length c/\Apn.Src w 1 a l.length (l.map (Wc O)):=by
 have i:=h.1;rcases h.2 with ⟨e,f⟩|⟨g,m,d,rfl,_,n,_,_,_,p⟩
 .refine⟨Y,0,by rw[e,f],i,λu k=>?_,Zb f⟩;grind
 refine⟨_,_,rfl,i,λu k=>?_,Vc ⟨⟨g,0,Y⟩,rfl,λj u b=>?_⟩⟩
 .obtain⟨x,_,rfl⟩:=Xa.1 k;rfl
 have o:af w g 3 d:=n;rw[<-p,List.getElem?_take]at b;split at b
 .have:(⟨g,0,Y⟩:Addr).add j=⟨g,j,Y⟩:=by grind [Addr.add]
  rw[this];exact o.cell j u (by simpa using b)
 cases b
def gY (l:List Wn):List Int:=l.flatMap (·.ss)
theorem yJ (l:List Wn)(k:Nat):(gY (l.take k)).length<=(gY l).length:=by grind [gY,Xe]
theorem td {l:List Wn}{k:Nat}{x:Wn}(h:l[k]? = Z x):gY (l.take (k+1))=gY (l.take k)++x.ss:=by
 unfold gY;rw[List.take_add_one,h,List.flatMap_append];simp
set_option maxRecDepth 10000 in
theorem Ro (H:Hs)(p:Hp)(w:N)(h:HA w H p)(hn:H.ae.length<=1000000000)(hu:(bF H).length<=1000000000):
  Calls Yc 113 #[ca (Z ⟨p.hb,0,Y⟩)] w λe w'=>∃ua uc,e=.returned (Q ua (bF H).length uc)/\w'.ownsRow w.heap.size 3 1 (Q ua (bF H).length uc) (bF H).length ((bF H).map (Wc O))/\Below w.heap.size w w':=by
 have G:p.ws.length=H.ae.length:=by rw[<-h.is,Za]
 obtain⟨us,E⟩:∃us,bF H=us:=⟨_,rfl⟩;have q:us=gY p.ws++H.az:=by
  rw[<-E];unfold bF gY;rw[<-h.is,Vd];rfl
 rw[E]at hu ⊢;have D:us.length=(gY p.ws).length+H.az.length:=by grind
 have a1:=aa q;clear E q;obtain⟨hb,sv,f,dv,sg⟩:=p;simp only at G D a1 ⊢;obtain⟨va,vc,U⟩:=ak h.sv;simp only at U;subst U;have l:=aa h;have R:=aa D;have a9:(gY f).length+H.az.length<=1000000000:=by omega
 obtain⟨i0,hi,W,X,a0⟩:=info_parts BY;have c0:w.cell? ⟨hb,0,Y⟩=Z (Q va H.ae.length vc):=h.head.Ri 0;have S:=aa G;clear h D hu G;go_in;go_wp2_with fail;clear c0;go_loopw [3,12] (λr s wr=>∃(k:Nat) (ao:Option Addr) (cv:Nat),r=Q ao (gY (f.take k)).length cv/\s=I O (k:Int)/\k<=H.ae.length/\Hid (wr.ownsRow w.heap.size 3 1 (Q ao (gY (f.take k)).length cv) (gY (f.take k)).length ((gY (f.take k)).map (Wc O)))/\Hid (Below w.heap.size w wr)) (λ_ s _=>H.ae.length - (intOf s).toNat)
 case atStart=>exact⟨0,Y,0,rfl,rfl,Nat.zero_le _,Xc _ _ _ _,Ye _ _⟩
 case round=>
  obtain⟨k,ao,cv,rfl,rfl,hk,v,c⟩:=hrel;have M:=aa (l.keep c);have hst:=yJ f k;by_cases a5:k<H.ae.length
  .have a6:(k:Int)<(H.ae.length:Int):=by omega
   obtain⟨x,V⟩:∃x,f[k]? = Z x:=⟨_,List.getElem?_eq_getElem (by rw[S.out];exact a5)⟩;obtain⟨r0,r1,r2⟩:=py V;obtain⟨g,b1,hv,b4,⟨cs,a8⟩,d0⟩:=cW M.sv r0;obtain⟨g1,b2,n,_,_,d1⟩:=cW M.sv r1;obtain⟨g2,b3,F,_,_,d2⟩:=cW M.sv r2;simp only at hv n F;rw[n]at F;rw[hv]at n;injection hv with e1 _ e3;injection n with e4 _ _;injection F with e5 _ _;have a3:g=g1:=by grind
   have a4:g1=g2:=by grind
   subst a4;subst a3;subst e1;subst e3;clear e4 e5;have J:=List.mem_of_getElem? V;obtain⟨da,dc,T⟩:=ak (l.ws x J).d;obtain⟨t,K,j,b⟩:=sF (l.ws x J).s;rw[T]at d1;rw[j]at d2;have o:=yJ f (k+1);rw[td V,List.length_append]at o;have b6:=aa (td V);have y:=aa (show Apn.Src (wr.alloc (.cells #[I O x.num,Q da x.ds.length dc,Q t x.ss.length K] 93)) 1 t x.ss.length (x.ss.map (Wc O)) by
    obtain⟨a',c',e,hs⟩:=sF (aE (aE (l.ws x J).s c) (ai (.cells #[I O x.num,Q da x.ds.length dc,Q t x.ss.length K] 93)));grind)
   have P:=aa (v.alloc (.cells #[I O x.num,Q da x.ds.length dc,Q t x.ss.length K] 93));have b0:=c.size;clear V r0 r1 r2 b a8 j T;generalize m:(gY (f.take k)).length=n1 at hst o v P ⊢;have b5:=aa m;clear m;go_wp2_with (at_builtin;refine Apn.gE _ rfl _ _ 35 rfl w.heap.size 3 i0 (I O 0) 1 8 Tryz.underlying35 hi W X a0 rfl (by decide) _ _ _ rfl P t x.ss.length K (x.ss.map (Wc O)) rfl y (by unfold maxLen;omega) (by omega) (by simp;omega) ?_;intro v2 w2 a i B;obtain⟨z,A,rfl⟩:=Own.shape a;have a2:=aa a;have u:=aa i;clear a i B)
   go_roundw
   case rel=>
    have a7:(gY (f.take (k+1))).length=n1+x.ss.length:=by grind [Hid]
    refine⟨_,_,_,⟨k+1,z,A,?_,by go_num,by omega,?_,Own.cz c c.size v u⟩,rfl,rfl,rfl⟩
    .rw[a7]
    grind [Hid]
   case measure=>simp only[intOf];omega
  have a6:¬(k:Int)<(H.ae.length:Int):=by omega
  obtain rfl:k=H.ae.length:=by omega
  have htk:f.take H.ae.length=f:=Ve (by rw[S.out];exact Ue _);rw[htk]at v ⊢;obtain⟨t,K,j,b⟩:=sF M.sg;simp only at j;subst j;have c3:wr.cell? ⟨hb,3,Y⟩=Z (Q t H.az.length K):=M.head.Ri 3;have y:=aa b;have b0:=c.size;clear b htk hst;generalize m:(gY f).length=n1 at v R a9 ⊢;clear m;go_wp2_with (at_builtin;refine Apn.gE _ rfl _ _ 35 rfl w.heap.size 3 i0 (I O 0) 1 8 Tryz.underlying35 hi W X a0 rfl (by decide) _ _ _ rfl v t H.az.length K (H.az.map (Wc O)) rfl y (by unfold maxLen;omega) (by omega) (by omega) ?_;intro v2 w2 a i B;obtain⟨z,A,rfl⟩:=Own.shape a;have a2:=aa a;have u:=aa i;clear a i B)
  go_ret;refine⟨z,A,by rw[R.out];rfl,?_,Own.lg c c.size v u⟩;grind [Hid]
end Jr
namespace Jr
open Bytes
structure Cl (h:Hs)(x:Et):Prop where
 fit:hfit h x.2=true
 ok:x.2.Ok
 base:x.2.k=98->h.az=[]
 own:x.1.1∉h.ae.flatMap (·.2.2)
 head:h.az=[]->h.g≠-1->x.2.k=98/\h.g<=x.2.n
 bare:x.2.k=98->x.2.t=⟨#[]⟩
def cN:Hs->List Et->Prop
 | _,[]=>True
 | h,x ::l=>Cl h x/\cN (hnext h x) l
theorem bG (h:Hs)(a b:List Et):cN h (a++b)↔cN h a/\cN (av h a) b:=by
 induction a generalizing h with
 | nil=>simp[cN,av]
 | cons x a c=>
  show (_/\cN _ (a++b))↔(_/\_)/\_;rw[c];exact and_assoc.symm
variable {a:List Int}{b:Hs}{c:Int}
theorem cN.fits {l:List Et}(a:cN b l):fK b l:=by
 induction l generalizing b with
 | nil=>trivial
 | cons x l c=>exact⟨a.1.fit,c a.2⟩
theorem rz (h:c∉a):hent c a=a++[c]:=by grind [hent]
theorem iE (h:a.getLast? = Z c):hent c a=a:=by grind [hent]
theorem eL (h:Hs)(x:Et):(hnext h x).ae=(htk h x.1.1 x.2).ae/\(hnext h x).az=(htk h x.1.1 x.2).az:=⟨rfl,rfl⟩
theorem GJ {x:Et}(a:Cl b x)(d:x.1.1∉bF b):bF (hnext b x)=bF b++[x.1.1]:=by
 have f:x.1.1∉b.az:=λe=>d (List.mem_append_right _ e)
 unfold bF;rw[(eL b x).1,(eL b x).2];unfold htk;split
 .rename_i c;rw[a.base c,eb]
 grind [rz]
theorem DQ {h:Hs}{x:Et}  (c:Cl h x)(b:bF h=a++[x.1.1]):bF (hnext h x)=bF h:=by
 have d:h.az.getLast? = Z x.1.1:=by
  rcases Uc h.az with e|⟨o,y,e⟩
  .exfalso;unfold bF at b;rw[e,eb]at b;exact c.own (by rw[b];simp)
  grind [bF,List.append_inj']
 unfold bF;rw[(eL h x).1,(eL h x).2];unfold htk;split
 .rename_i f;rw[c.base f]at d;cases d
 grind [iE]
theorem tQ:∀(b:List Rc) (z:Nat) (h:Hs),cN h (br c z b)->bF h=a++[c]->bF (av h (br c z b))=a++[c]
 | [],_,_,_,hh=>hh
 | r ::b,z,h,hc,hh=>by
  have d:=DQ (h:=h) (x:=((c,z+r.tx.length),r)) hc.1 hh;exact tQ b _ _ hc.2 (d.trans hh)
theorem GK {n:Int}{a:List Rc}  (c:a≠[])(d:cN b (br n 0 a))(e:n∉bF b):bF (av b (br n 0 a))=bF b++[n]:=by
 cases a with
 | nil=>exact absurd rfl c
 | cons r a=>exact tQ a _ _ d.2 (GJ (x:=((n,0+r.tx.length),r)) d.1 e)
theorem nL:∀(R:List (Int×List Rc)) (h:Hs),(∀p∈R,p.2≠[])->cN h (aG R)->R.Pairwise (λp q=>p.1<q.1)->(∀p∈R,∀y∈bF h,y<p.1)->bF (av h (aG R))=bF h++R.map (·.1)
 | [],h,_,_,_,_=>by simp[aG,av]
 | p ::R,h,hne,hc,hp,hl=>by
  have c:aG (p ::R)=br p.1 0 p.2++aG R:=rfl;rw[c]at hc ⊢;rw[bG]at hc;rw[List.pairwise_cons]at hp;have b:=GK (n:=p.1) (hne p (Ya ..)) hc.1 (λe=>by grind);rw[aK,nL R _ (λq a=>hne q (Wa _ a)) hc.2 hp.2 (λq a y d=>by grind),b];simp
theorem CT:∀(f:List Rc) (m:Nat),(∀r∈f,r.Ok)->∃a b y,f=a++b/\(stx f).take m=stx a++y/\(y=[]\/(y≠[]/\(nX y).2=false))/\∀c d,f=c++d->(stx c).length<=m->∃e,a=c++e
 | [],m,_=>⟨[],[],[],rfl,by simp[stx],Zb rfl,λc d h _=>⟨[],by simp_all⟩⟩
 | r ::f,m,hok=>by
  have s:stx (r ::f)=r.tx++stx f:=rfl;by_cases x:r.tx.length<=m
  .obtain⟨a,b,y,j,u,l,v⟩:=CT f (m - r.tx.length) λq p=>hok q (Wa _ p)
   refine⟨r ::a,b,y,by rw[j];rfl,?_,l,λc d h o=>?_⟩
   .grind [stx,List.take_append,Ve]
   .cases c with
    | nil=>exact⟨r ::a,rfl⟩
    | cons q c=>
     rw[Ud]at h;grind [stx]
  .refine⟨[],r ::f,r.tx.take m,rfl,?_,?_,λc d h o=>?_⟩
   .rw[s,List.take_append_of_le_length (by omega)];rfl
   .by_cases i:r.tx.take m=[]
    .exact Zb i
    .refine Vc ⟨i,?_⟩;have g:=hok r (Ya ..);have hlen:r.tx.length<9223372036854775808:=by
      have:=jZ [r.k] (n:=r.n) (by have:=g.n0;omega) (by have:=g.n1;omega) (t:=B r.t) (by grind [aj,Rc.Ok.t]);grind [Rc.Ok.t,aj,Rc.tx]
     refine IA (k:=[r.k]) (n:=r.n) (t:=B r.t) (z:=r.tx.drop m) (λb w=>?_) g.n0 hlen (Xe m r.tx).symm (λe=>?_)
     .grind [Rc.Ok.k]
     grind [Zd]
   cases c with
   | nil=>exact⟨[],rfl⟩
   | cons q c=>grind [stx]
end Jr
namespace Jr
open Bytes Im Dm
def view (s:bM):Int×Bs:=(s.num,B s.text)
variable {a:Jn}{b:Dk}{c:List (Int × List Rc)}{d:List Rc}{e:Hs}{f:Int}
theorem uL {l:List bM}{V:List (Int×Bs)}  {v:Bs}(t:ByteArray)(i:l.map view=V++[(f,v)])(c:l.Pairwise λa b=>a.num<b.num):(bT f (λs=>{s with text:=s.text++t}) l).map view=V++[(f,v++B t)]:=by
 obtain⟨m,n,rfl,e,g⟩:=List.map_eq_append_iff.1 i;obtain⟨s,rfl,d⟩:=vd.1 g;unfold view at d;injection d with j k;rw[qb]at c;unfold bT;rw[Ub,Ub];congr 1
 .rw[<-e,ad];refine List.map_congr_left λq h=>?_
  have:=c.2.2 q h s (Ua.2 rfl);grind
 grind [bp,view]
theorem uK (n:Int)(l:List bM):(bT n (λs=>{s with cJ:=s.text.size}) l).map view=l.map view:=by grind [bT,view,List.map_congr_left]
theorem mM:∀{l:List bM},(∀s∈l,s.num<f)->bJ f l=l++[⟨f,⟨#[]⟩,0⟩]
 | [],_=>rfl
 | s ::l,h=>by
  have b:=h s (Ya ..);rw[bJ,if_neg (by omega),if_neg (by omega),mM λq a=>h q (Wa _ a)];rfl
structure ib (J:Jn)(S:Dk)(R:List (Int×List Rc))(b:List Rc):Prop where
 calm:bL J S
 ah:S.ah.map view=R.map λp=>(p.1,stx p.2)
 cJ:∀s∈S.ah,J.aN=[]\/s.num≠aC J->s.cJ=s.text.size
 last:J.aN≠[]->∃R0 a,R=R0++[(aC J,a++b)]/\J.synced=(stx a).length/\B J.bU=stx b
 xH:J.aN≠[]->∀s∈S.ah,s.num=aC J->s.cJ=J.synced
 OC:J.aN=[]->b=[]
theorem ib.cI (h:ib a b c d):b.ah.map (·.num)=c.map (·.1):=by
 have e:=congrArg (List.map Prod.fst) h.ah;rwa [ad,ad]at e
theorem ib.bQ (h:ib a b c d):c.Pairwise λp q=>p.1<q.1:=by
 have e:=ed.2 h.calm.aJ.bQ;rwa [h.cI,ed]at e
theorem ki (l:Bs):B (bytesOf l)=l:=by simp[bytesOf,B]
theorem ib.add (h:ib a b c d)(f:a.aN≠[])(r:Rc):
  ∃j R0 B,c=R0++[(aC a,B)]/\cM a b (bytesOf r.tx)=({a with bU:=a.bU++bytesOf r.tx},j,0)/\ib {a with bU:=a.bU++bytesOf r.tx} j (R0++[(aC a,B++[r])]) (d++[r]):=by
 obtain⟨R0,v,w,u,E⟩:=h.last f;obtain⟨s,z,m,F⟩:=h.calm.last f;obtain⟨j,o,D,_,_⟩:=h.calm.add f (bytesOf r.tx);have p:0<=aC a:=by rw[<-m];exact(h.calm.aJ.num s z).1
 have x:=gP h.calm.left h.calm.room p (bytesOf r.tx);rw[<-m,pI h.calm.aJ.bQ z,m]at x;have n:j={b with ah:=bT (aC a) (λs=>{s with text:=s.text++bytesOf r.tx}) b.ah}:=by
  unfold cM at o;rw[h.calm.rQ f,if_neg (by simp),x,if_neg (by simp)]at o;grind
 have g:aC {a with bU:=a.bU++bytesOf r.tx}=aC a:=rfl;refine⟨j,R0,v++d,w,o,D,?_,?_,λ_=>⟨R0,v,by rw[g,List.append_assoc],u,by grind [bp,ki,oo]⟩,?_,λe=>absurd e f⟩
 .rw[n];show (bT (aC a) _ b.ah).map view=_;have A:=h.ah;rw[w,Ub]at A;rw[uL (bytesOf r.tx) A h.calm.aJ.bQ,ki,Ub];grind [oo]
 .intro q k t;rw[n]at k;obtain⟨l,i,rfl⟩:=Xa.1 k;simp only at t ⊢;split at t
  .grind
  rename_i e;rw[if_neg e];exact h.cJ l i (Vc e)
 intro _ q k t;rw[n]at k;obtain⟨l,i,rfl⟩:=Xa.1 k;have y:l.num=aC a:=by grind
 rw[if_pos y];exact h.xH f l i y
theorem ib.sync (h:ib a b c d):
  ∃g t,aQ a b=(g,t,0)/\ib g t c []/\g.aN=a.aN/\g.ae=a.ae/\g.al=a.al/\g.most=a.most/\g.next=a.next:=by
 by_cases f:a.aN=[]
 .refine⟨a,b,by grind [aQ],?_,rfl,rfl,rfl,rfl,rfl⟩;have P:=h.OC f;grind
 obtain⟨R0,A,M,H,J⟩:=h.last f;obtain⟨s,z,x,K⟩:=h.calm.last f;have y:=ko h.calm.left h.calm.aJ z;rw[x]at y;obtain⟨g,t,r,D,_⟩:=h.calm.sync;have n:aQ a b=({a with synced:=a.synced+a.bU.size,bU:=⟨#[]⟩},{b with ah:=bT (aC a) (λs=>{s with cJ:=s.text.size}) b.ah},0):=by
  unfold aQ;rw[if_neg f,h.calm.rQ f,if_neg (by simp),y,if_neg (by simp)]
 rw[n]at r;injection r with B u;injection u with u _;subst B;subst u;have k:∀q∈bT (aC a) (λs=>{s with cJ:=s.text.size}) b.ah,q.cJ=q.text.size:=λq m=>by
  obtain⟨p,l,rfl⟩:=Xa.1 m;by_cases e:p.num=aC a
  .rw[if_pos e]
  rw[if_neg e];exact h.cJ p l (Vc e)
 have v:aC {a with synced:=a.synced+a.bU.size,bU:=⟨#[]⟩}=aC a:=rfl;refine⟨_,_,n,⟨D,by grind [uK,ah],λq m _=>k q m,λ_=>⟨R0,A++d,by grind,by grind [aj,mT],rfl⟩,λ_ q m R=>?_,λe=>absurd e f⟩,rfl,rfl,rfl,rfl,rfl⟩;have w:=k q m;obtain⟨p,l,rfl⟩:=Xa.1 m;have o:p.num=aC a:=by grind
 rw[w,if_pos o];have G:p=s:=by
  obtain⟨i,E⟩:=Vb l;obtain⟨j,r⟩:=Vb z;have F:=iH h.calm.aJ.bQ E r (by rw[o,x]);grind
 grind
theorem ib.full (h:ib a b c []):∀s∈b.ah,s.cJ=s.text.size:=λs e=>by
 by_cases d:a.aN=[]
 .exact h.cJ s e (Zb d)
 .by_cases f:s.num=aC a
  .obtain⟨R0,t,_,_,k⟩:=h.last d;obtain⟨q,r,l,m⟩:=h.calm.last d;have g:s=q:=by
    obtain⟨i,n⟩:=Vb e;obtain⟨j,p⟩:=Vb r;have o:=iH h.calm.aJ.bQ n p (by rw[f,l]);grind
   have hz:a.bU.size=0:=by
    rw[aj,k];rfl
   rw[h.xH d s e f,g,m,hz];rfl
  exact h.cJ s e (Vc f)
theorem ib.begin (h:ib a b c [])(y:a.next<=9223372036854775807)(d:List Rc):
  ∃g,bf a b (bytesOf (stx d))=({a with aN:=a.aN++[a.next],next:=a.next+1,synced:=0,bU:=bytesOf (stx d)},g,0)/\ib {a with aN:=a.aN++[a.next],next:=a.next+1,synced:=0,bU:=bytesOf (stx d)} g (c++[(a.next,d)]) d:=by
 have k:∀s∈b.ah,s.num<a.next:=λs x=>h.calm.below s.num (Xa.2 ⟨s,x,rfl⟩)
 have o:=gP h.calm.left h.calm.room h.calm.mE (bytesOf (stx d));rw[mM k]at o;obtain⟨g,u,t,_⟩:=h.calm.begin y (bytesOf (stx d));have n:g={b with ah:=bT a.next (λs=>{s with text:=s.text++bytesOf (stx d)}) (b.ah++[⟨a.next,⟨#[]⟩,0⟩])}:=by grind [bf]
 have f:aC {a with aN:=a.aN++[a.next],next:=a.next+1,synced:=0,bU:=bytesOf (stx d)}=a.next:=mP (l:=a.aN) rfl;have m:a.aN++[a.next]≠[]:=by simp
 have i:∀q∈g.ah,(q.num=a.next/\q.cJ=0)\/(q.num≠a.next/\q∈b.ah):=λq j=>by
  rw[n]at j;obtain⟨G,w,rfl⟩:=Xa.1 j;grind
 refine⟨g,u,t,?_,λq j F=>?_,λ_=>⟨c,[],by rw[f];rfl,rfl,ki _⟩,λ_ q j E=>?_,λe=>absurd e m⟩
 .rw[n];show (bT a.next _ (b.ah++[⟨a.next,⟨#[]⟩,0⟩])).map view=_;rw[uL (V:=c.map λp=>(p.1,stx p.2)) (v:=[]) (bytesOf (stx d)) (by rw[Ub,h.ah];rfl) ?_,ki,Ub]
  .rfl
  rw[qb];exact⟨h.calm.aJ.bQ,Xd _ _,λz o A D=>by grind⟩
 .rcases i q j with ⟨B,_⟩|⟨_,r⟩
  .grind
  exact h.full q r
 grind
theorem uD {y:Bs}(e:y=[]\/(y≠[]/\(nX y).2=false))(hrs:∀r∈d,r.Ok):∀(R0:List (Int×List Rc)) (l:List (Int×ByteArray)),l.map (λx=>(x.1,B x.2))=(R0.map λp=>(p.1,stx p.2))++[(f,stx d++y)]->(∀p∈R0,∀r∈p.2,r.Ok)->(∀x∈l,x.2.size<=140737488355328)->Told l (R0++[(f,d)])
 | [],l,h,_,hz=>by
  obtain⟨x,rfl,j⟩:=vd.1 h;injection j with a b;refine⟨a,hrs,hz x (Ua.2 rfl),?_⟩;rcases e with rfl|⟨k,m⟩
  .exact Zb ⟨by rw[b,eb],trivial⟩
  grind
 | p ::R0,l,h,ho,hz=>by
  cases l with
  | nil=>cases h
  | cons x l=>
   rw[List.map_cons,List.map_cons,Ud]at h;injection h with a b;injection a with g i;exact⟨g,ho p (Ya ..),hz x (Ya ..),Zb ⟨i,uD e hrs R0 l b (λq c=>ho q (Wa _ c)) λq c=>hz q (Wa _ c)⟩⟩
theorem uH (t:Int)(s:bM)(a:0<=t)(b:s.cJ<=s.text.size):∃m,s.cJ<=m/\B (dT t s).text=(B s.text).take m/\(dT t s).num=s.num/\(dT t s).cJ=(dT t s).text.size:=by grind [bu,aj,dT,List.take_length]
theorem uG (t:Int)(s:bM)(b:0<=t)(a:s.cJ=s.text.size):dT t s=s:=by
 unfold dT;rw[if_neg (by omega),<-a]
structure Kd (J:Jn)(S:Dk)(R:List (Int×List Rc))(b:List Rc)(H:Hs):Prop where
 seg:ib J S R b
 ne:∀p∈R,p.2≠[]
 is:av hs0 (aG R)=H
 cl:cN hs0 (aG R)
 aN:H.az=J.aN
 g:H.g=J.al
 ae:H.ae.map (λs=>(s.1,s.2.2))=J.ae
theorem Kd.used (h:Kd a b c d e):bF e=c.map (·.1):=by
 have f:=nL c hs0 h.ne h.cl h.seg.bQ (λ_ _ y g=>by simp[bF,hs0]at g);rw[h.is]at f;rw[f];rfl
theorem nC (R0:List (Int×List Rc))(x:Int)(a:List Rc)(r:Rc):aG (R0++[(x,a++[r])])=aG (R0++[(x,a)])++[((x,(stx a).length+r.tx.length),r)]:=by
 rw[lA,lA,List.append_assoc];congr 1;show br x 0 (a++[r])++[]=br x 0 a++[]++_;rw[ee,Ze,eb,eb];rfl
theorem dh (R:List (Int×List Rc))(x:Int)(a:List Rc):aG (R++[(x,a)])=aG R++br x 0 a:=by
 rw[lA];show _++(br x 0 a++[])=_;grind
theorem Kd.own (h:Kd a b c d e):e.ae.flatMap (·.2.2)=a.ae.flatMap (·.2):=by
 rw[<-h.ae,Vd]
theorem Kd.rI (h:Kd a b c d e)(j:a.aN≠[]):aC a∉e.ae.flatMap (·.2.2):=λi=>by
 rw[h.own]at i;have f:=ed.2 h.seg.calm.aJ.bQ;have g:(b.ah.map (·.num)).Nodup:=List.nodup_iff_pairwise_ne.2 (f.imp λh=>by omega);have k:=h.seg.calm.perm.nodup_iff.1 g;grind [jN]
theorem rG (b:a.aN≠[]):a.aN.getLast? = Z (aC a):=by grind [aC,List.getLast?_eq_some_getLast]
theorem Kd.dgram (h:Kd a b c d e)(i:a.aN≠[])(f:Int)(t:ByteArray)(n:(⟨100,f,t⟩:Rc).Ok)(u:hfit e ⟨100,f,t⟩=true):
  ∃k q z,cM a b (bytesOf (bC [100] f (B t)))=({a with bU:=a.bU++bytesOf (bC [100] f (B t))},k,0)/\aG q=aG c++[((aC a,z),⟨100,f,t⟩)]/\Kd {a with bU:=a.bU++bytesOf (bC [100] f (B t))} k q (d++[⟨100,f,t⟩]) (hnext e ((aC a,z),⟨100,f,t⟩)):=by
 obtain⟨k,R0,r,s,v,w⟩:=h.seg.add i ⟨100,f,t⟩;have l:=nC R0 (aC a) r ⟨100,f,t⟩;rw[<-s]at l;have m:Cl e ((aC a,(stx r).length+(⟨100,f,t⟩:Rc).tx.length),⟨100,f,t⟩):=⟨u,n,λj=>absurd j (show ¬(100:UInt8)=98 by decide),h.rI i,λj=>absurd (h.aN.symm.trans j) i,λj=>absurd j (show ¬(100:UInt8)=98 by decide)⟩;have x:hent (aC a) e.az=e.az:=iE (by rw[h.aN];exact rG i);refine⟨k,_,_,v,l,w,λp o=>?_,by rw[l,aK,h.is];rfl,by rw[l,bG,h.is];exact⟨h.cl,m,trivial⟩,by show hent (aC a) e.az=a.aN;grind [aN],h.g,h.ae⟩;rcases Xb.1 o with o|o
 .exact h.ne p (by grind)
 simp_all
theorem uR (a b:Bs):bytesOf a++bytesOf b=bytesOf (a++b):=bo (by rw[bp,ki,ki,ki])
theorem Kd.next (h:Kd a b c [] e)(o:a.aN≠[])(x:a.next<=9223372036854775807)(d:Int)(t:ByteArray)(q:(⟨100,d,t⟩:Rc).Ok)(v:hfit e ⟨100,d,t⟩=true):
  ∃j r z,bf a b (bytesOf (bC [100] d (B t)))=({a with aN:=a.aN++[a.next],next:=a.next+1,synced:=0,bU:=bytesOf (bC [100] d (B t))},j,0)/\aG r=aG c++[((a.next,z),⟨100,d,t⟩)]/\Kd {a with aN:=a.aN++[a.next],next:=a.next+1,synced:=0,bU:=bytesOf (bC [100] d (B t))} j r [⟨100,d,t⟩] (hnext e ((a.next,z),⟨100,d,t⟩)):=by
 obtain⟨j,s,u⟩:=h.seg.begin x [⟨100,d,t⟩];have w:stx [⟨100,d,t⟩]=bC [100] d (B t):=eb _;rw[w]at s u;have m:=dh c a.next [⟨100,d,t⟩];have i:a.next∉a.ae.flatMap (·.2)++a.aN:=λn=>by
  have:=h.seg.calm.below a.next (h.seg.calm.perm.mem_iff.2 n);omega
 have l:Cl e ((a.next,0+(⟨100,d,t⟩:Rc).tx.length),⟨100,d,t⟩):=⟨v,q,λf=>absurd f (show ¬(100:UInt8)=98 by decide),λn=>i (List.mem_append_left _ (h.own▸n)),λf=>absurd (h.aN.symm.trans f) o,λf=>absurd f (show ¬(100:UInt8)=98 by decide)⟩;refine⟨j,_,_,s,m,u,λp k=>?_,by rw[m,aK,h.is];rfl,by rw[m,bG,h.is];exact⟨h.cl,l,trivial⟩,by show hent a.next e.az=a.aN++[a.next];grind [rz,aN],h.g,h.ae⟩;rcases Xb.1 k with k|k
 .exact h.ne p k
 grind
theorem Kd.sync (h:Kd a b c d e):∃f i,aQ a b=(f,i,0)/\Kd f i c [] e/\f.aN=a.aN/\f.next=a.next:=by
 obtain⟨f,i,n,o,j,k,l,_,m⟩:=h.seg.sync;exact⟨f,i,n,⟨o,h.ne,h.is,h.cl,h.aN.trans j.symm,h.g.trans l.symm,h.ae.trans k.symm⟩,j,m⟩
theorem BP {t:ByteArray}(a:e.g<f)(b:e.ar=[]\/f=e.onum):hfit e ⟨100,f,t⟩=true:=by grind [hfit,dI]
def hrs (J:Jn):List Rc:=if J.al = -1 then [] else [⟨98,J.al,⟨#[]⟩⟩]
theorem zY (J:Jn):stx (hrs J)=aZ J:=by
 unfold hrs aZ;split
 .rfl
 exact eb _
def Wx (H:Hs)(a:Int)(t:ByteArray)(x:List Et):Prop:=(∃p,x=[(p,⟨100,a,t⟩)])\/(H.ar=[]/\∃p q,x=[(p,⟨98,H.g,⟨#[]⟩⟩),(q,⟨100,a,t⟩)])
theorem Kd.first (h:Kd a b c d e)(K:a.aN=[])(T:a.next<=9223372036854775807)(R:-1<=a.al/\a.al<=1000000000)(f:Int)(t:ByteArray)(o:(⟨100,f,t⟩:Rc).Ok)(A:e.g<f)(n:e.ar=[]):
  ∃v s w E k,bf a b (bytesOf (aZ a)++bytesOf (bC [100] f (B t)))=(v,s,0)/\Kd v s w E k/\k.ar=e.ar++[t]/\k.onum=f/\k.ae=e.ae/\k.g=e.g/\(∃x,aG w=aG c++x/\Wx e f t x)/\(aG c).length<=(aG w).length - E.length/\v.aN≠[]:=by
 have M:=h.seg.OC K;subst M;obtain⟨s,G,H⟩:=h.seg.begin T (hrs a++[⟨100,f,t⟩]);have S:bytesOf (stx (hrs a++[⟨100,f,t⟩]))=bytesOf (aZ a)++bytesOf (bC [100] f (B t)):=by
  rw[oo,zY,uR];rfl
 rw[S]at G H;have F:=dh c a.next (hrs a++[⟨100,f,t⟩]);have j:a.next∉e.ae.flatMap (·.2.2):=λJ=>by
  rw[h.own]at J;have:=h.seg.calm.below a.next (h.seg.calm.perm.mem_iff.2 (List.mem_append_left _ J));omega
 have q:e.az=[]:=by rw[h.aN,K]
 have P:∀(z:Nat) (l:List Rc),(br a.next z l).length=l.length:=λz l=>by
  induction l generalizing z with
  | nil=>rfl
  | cons r l U=>simp[br,U]
 have key:cN e (br a.next 0 (hrs a++[⟨100,f,t⟩]))/\(av e (br a.next 0 (hrs a++[⟨100,f,t⟩]))).ar=[t]/\(av e (br a.next 0 (hrs a++[⟨100,f,t⟩]))).onum=f/\(av e (br a.next 0 (hrs a++[⟨100,f,t⟩]))).ae=e.ae/\(av e (br a.next 0 (hrs a++[⟨100,f,t⟩]))).g=e.g/\(av e (br a.next 0 (hrs a++[⟨100,f,t⟩]))).az=[a.next]/\Wx e f t (br a.next 0 (hrs a++[⟨100,f,t⟩])):=by
  by_cases y:a.al = -1
  .have D:hrs a=[]:=by grind [hrs]
   rw[D];exact⟨⟨⟨BP A (Zb n),o,λi=>absurd i (show ¬(100:UInt8)=98 by decide),j,λ_ i=>absurd (h.g.trans y) i,λi=>absurd i (show ¬(100:UInt8)=98 by decide)⟩,trivial⟩,by show e.ar++[t]=[t];grind,rfl,rfl,rfl,by show hent a.next e.az=_;rw[q];rfl,Zb ⟨_,rfl⟩⟩
  have D:hrs a=[⟨98,a.al,⟨#[]⟩⟩]:=by grind [hrs]
  rw[D];have m:a.al=e.g:=h.g.symm;exact⟨⟨⟨by grind [hfit,dI],⟨Vc (Vc rfl),by grind,R.2,by show (0:Nat)<=1000000;omega⟩,λ_=>q,j,λ_ _=>⟨rfl,Int.le_of_eq h.g⟩,λ_=>rfl⟩,⟨BP (by show a.al<f;omega) (Zb rfl),o,λi=>absurd i (show ¬(100:UInt8)=98 by decide),j,λi=>absurd i (List.cons_ne_nil _ _),λi=>absurd i (show ¬(100:UInt8)=98 by decide)⟩,trivial⟩,rfl,rfl,rfl,m,by show hent a.next [a.next]=_;exact iE rfl,Vc ⟨n,_,_,by rw[<-m];rfl⟩⟩
 obtain⟨k1,k2,V,W,X,k6,k7⟩:=key;refine⟨_,s,c++[(a.next,hrs a++[⟨100,f,t⟩])],hrs a++[⟨100,f,t⟩],_,G,⟨H,λp u=>?_,by rw[F,aK,h.is],?_,?_,?_,?_⟩,by grind,V,W,X,⟨_,F,k7⟩,?_,by simp⟩
 .rcases Xb.1 u with u|u
  .exact h.ne p u
  grind
 .grind [bG,is,cl]
 .grind
 .grind [g]
 .grind [ae]
 grind
theorem Kd.write (h:Kd a b c d e)(K:a.next<=9223372036854775807)(G:-1<=a.al/\a.al<=1000000000)(f:Int)(t:ByteArray)(l:(⟨100,f,t⟩:Rc).Ok)(o:e.g<f)(F:e.ar=[]\/f=e.onum)(J:a.aN=[]->e.ar=[]):
  ∃p k j s m,aY a b f t=(p,k,0)/\Kd p k j s m/\m.ar=e.ar++[t]/\m.onum=f/\m.ae=e.ae/\m.g=e.g/\(∃x,aG j=aG c++x/\Wx e f t x)/\(aG c).length - d.length<=(aG j).length - s.length/\p.aN≠[]:=by
 have D:=BP (t:=t) o F;have B:∀(z:Nat) (n:Int),(hnext e ((n,z),(⟨100,f,t⟩:Rc))).ar=e.ar++[t]/\(hnext e ((n,z),(⟨100,f,t⟩:Rc))).onum=f/\(hnext e ((n,z),(⟨100,f,t⟩:Rc))).ae=e.ae/\(hnext e ((n,z),(⟨100,f,t⟩:Rc))).g=e.g:=λz n=>⟨rfl,rfl,rfl,rfl⟩
 by_cases i:a.aN=[]
 .obtain⟨p,k,j,s,m,A,q,r,S,T,U,V,W,X⟩:=h.first i K G f t l o (J i);grind [aY]
 by_cases hm:(a.synced:Int)+(a.bU.size:Int)<a.most
 .obtain⟨k,j,z,A,q,r⟩:=h.dgram i f t l D;obtain⟨u,v,w,y⟩:=B z (aC a);refine⟨_,k,j,_,_,by grind [aY],r,u,v,w,y,⟨_,q,Zb ⟨_,rfl⟩⟩,?_,i⟩;grind
 obtain⟨E,M,hj,H,P,R⟩:=h.sync;obtain⟨k,j,z,A,q,r⟩:=H.next (by grind) (by omega) f t l D;obtain⟨u,v,w,y⟩:=B z E.next;refine⟨_,k,j,_,_,?_,r,u,v,w,y,⟨_,q,Zb ⟨_,rfl⟩⟩,?_,by simp⟩
 .grind [aY]
 grind
end Jr
namespace Jr
open Go.RowKit Go.Maps Mem Foot Bytes Im Wm Hi Plainw Cq Dm Dh Dd
theorem bsearch (d:Option Addr)(b:Nat)(a:List Int)(x:Int)(w:N)(m:w.ownsRow 0 3 1 (Q d a.length b) a.length (a.map (Wc O)))(r:a.length<=1000000000)(l:a.Pairwise (·<·)):
  Calls Yc 151 #[Q d a.length b,I O x] w λe o=>(∃c,e=.returned (.tuple #[I O c,.bool (decide (x∈a))]))/\Below w.heap.size w o:=by
 cases a with
 | nil=>
  refine(Tryz.slices_BinarySearch_int_empty d b x w).mono ?_;grind [Ye]
 | cons y a=>
  obtain⟨g,f,n,_,_,_⟩:=eO m (i:=0) (x:=y) rfl;injection n with k _ p;subst k;refine(Tryz.slices_BinarySearch_int g 0 (y ::a).length b (y ::a) x w (Ue _) (by omega) (λj q=>?_) ?_).mono ?_
  .grind [eO]
  .rw[List.take_length];exact l.imp λh=>Int.le_of_lt h
  grind [ax,Ye]
def du (S:Dk)(x:Int×ByteArray)(c:List Int)(b a:Int):Dk×Int:=
 if x.1∉c then aF S x.1
 else if x.1=b/\a<(x.2.size:Int) then cx S x.1 a
 else (S,0)
variable {a b c:Nat}{d e:N}{f:Dk}
theorem yR (h:Fit f a b)(x:Int×ByteArray)(e:List Int)(c d:Int):Fit (du f x e c d).1 a b:=by
 unfold du;split
 .exact fit_delete h _
 split
 .exact DF h _ _
 exact h
theorem HA.pd {H:Hs}{p:Hp}  {i:List Nat}  (h:HA d H p)(j:PD d a f b c i)(m:an (pf a b i) d e):HA e H p:=
 h.off m λk l=>by
  obtain⟨t,o,n,g⟩:=h.cells l;exact PD.not j n (by rcases g with rfl|rfl|rfl|rfl<;>decide) (by rcases g with rfl|rfl|rfl|rfl<;>decide) (by rcases g with rfl|rfl|rfl|rfl<;>decide)
theorem vC {g:TypeId}{v:C}{n:List C}{m j i:Nat}{l:List Nat}  (h:d.ownsRow a g b v c n)(r:PD d m f j i l)(t:an (pf m j l) d e)(o:g≠62)(p:g≠102)(q:g≠104):e.ownsRow a g b v c n:=
 aq h t λk s=>by
  obtain⟨w,u⟩:=au h s;exact PD.not r u o p q
def Di (a:Int)(H:Hs):Jn:=⟨a,H.ae.map λs=>(s.1,s.2.2),H.az,H.ez.toNat,⟨#[]⟩,H.es+1,H.g⟩
theorem Cu {β:Type}{k:Int}{b:β}:∀{l:List (Int×β)},(∀p∈l,p.1<k)->put dJ k b l=l++[(k,b)]:=by
 intro l h;have c:del k l=l:=List.filter_eq_self.2 λp a=>by
  have:=h p a;simp;omega
 unfold put;rw[c];clear c
 induction l with
 | nil=>rfl
 | cons x l d=>
  have e:=h x (Ya ..);rw[ins,if_neg (by simp[dJ];omega),d λp a=>h p (Wa _ a)];rfl
def je (a:List Wn):my:=a.map λx=>(x.num,x.sg,x.ss)
theorem BX (H:Hs):eK H={H with onum:=(eK H).onum}:=by
 unfold eK;split<;>rfl
structure PM (w w':N)(bx ba:Nat)(bs:List Nat)(S':Dk)(most:Int)(H:Hs)(p:Hp)(jb mb:Nat):Prop where
 ha:HA w' (eK H) p
 new:∀b∈p.blocks,w.heap.size<=b
 jw:JW w' jb bx mb (Di most H) (je p.ws) p.sg
 pd:∃ba' cap' bs',PD w' bx S' ba' cap' bs'/\∀b∈pf bx ba' bs',b∈pf bx ba bs\/w.heap.size<=b
 off:an (pf bx ba bs) w w'
 jb:w.heap.size<=jb
 mb:w.heap.size<=mb
end Jr
namespace Jr
open Bytes Im Dm
variable {a:Dk}{b:Hs}{c:List (Int × List Rc)}
theorem Nd {t:ByteArray}(a:b.ar≠[]):hfit b ⟨115,b.onum,t⟩=true:=by grind [hfit,dI,List.length_pos_iff]
theorem Kd.sw {J:Jn}   {H:List Rc}  (h:Kd J a c H b)(d:J.aN≠[])(w:b.ar≠[])(B:0<=b.onum/\b.onum<=1000000000)(S:∀p∈J.ae,p.1<b.onum):
  ∃f k z j,bE J a b.onum=(f,k,0)/\Kd f k z [] j/\j.ae=b.ae++[(b.onum,b.ar,J.aN)]/\j.ar=[]/\j.onum=0/\j.g=b.onum/\(∃x,aG z=aG c++x)/\f.aN=[]/\f.al=b.onum:=by
 have v:b.onum∉J.ae.map (·.1):=λhm=>by grind
 obtain⟨U,R0,i,M,t,l⟩:=h.seg.add d ⟨115,b.onum,⟨#[]⟩⟩;have y:(⟨115,b.onum,⟨#[]⟩⟩:Rc).tx=bC [115] b.onum []:=rfl;rw[y]at t l;obtain⟨F,G,R,m,V,W,X,e4,e5⟩:=l.sync;obtain⟨f,k,u,P,_,f1,n,A,_⟩:=h.seg.calm.sw d v;have D:f={F with ae:=put dJ b.onum J.aN J.ae,aN:=[],al:=b.onum}/\k=G:=by grind [bE]
 have o:=nC R0 (aC J) i ⟨115,b.onum,⟨#[]⟩⟩;rw[<-M]at o;have T:hent (aC J) b.az=J.aN:=by grind [iE,aN,rG]
 have r:Cl b ((aC J,(stx i).length+(⟨115,b.onum,⟨#[]⟩⟩:Rc).tx.length),⟨115,b.onum,⟨#[]⟩⟩):=⟨Nd w,⟨Vc (Zb rfl),B.1,B.2,by show (0:Nat)<=1000000;omega⟩,λe=>absurd e (show ¬(115:UInt8)=98 by decide),h.rI d,λe=>absurd (h.aN.symm.trans e) d,λe=>absurd e (show ¬(115:UInt8)=98 by decide)⟩;have K:hnext b ((aC J,(stx i).length+(⟨115,b.onum,⟨#[]⟩⟩:Rc).tx.length),⟨115,b.onum,⟨#[]⟩⟩)=⟨b.ae++[(b.onum,b.ar,J.aN)],0,[],[],b.onum,aC J,(((stx i).length+(⟨115,b.onum,⟨#[]⟩⟩:Rc).tx.length:Nat):Int)⟩:=by grind [hnext,htk]
 refine⟨f,k,R0++[(aC J,i++[⟨115,b.onum,⟨#[]⟩⟩])],⟨b.ae++[(b.onum,b.ar,J.aN)],0,[],[],b.onum,aC J,(((stx i).length+(⟨115,b.onum,⟨#[]⟩⟩:Rc).tx.length:Nat):Int)⟩,u,⟨⟨P,?_,λs E _=>?_,λe=>absurd n e,λe=>absurd n e,λ_=>rfl⟩,λp q=>?_,by rw[o,aK,h.is];exact K,?_,n.symm,A.symm,?_⟩,rfl,rfl,rfl,rfl,⟨_,o⟩,n,A⟩
 .rw[D.2];exact m.ah
 .rw[D.2]at E;exact m.full s E
 .rcases Xb.1 q with q|q
  .exact h.ne p (by grind)
  rw[Ua.1 q];simp
 .rw[o,bG,h.is];exact⟨h.cl,r,trivial⟩
 grind [Cu,ae]
theorem wP (n:Int):∀(a:List Rc) (z:Nat) (h:Hs),a≠[]->(av h (br n z a)).es=n/\(av h (br n z a)).ez=((z+(stx a).length:Nat):Int)
 | [],_,_,hne=>absurd rfl hne
 | [r],z,h,_=>by
  refine⟨rfl,?_⟩;show ((z+r.tx.length:Nat):Int)=_;grind [stx]
 | r ::q ::a,z,h,_=>by
  have b:=wP n (q ::a) (z+r.tx.length) (hnext h ((n,z+r.tx.length),r)) (by simp);refine⟨b.1,b.2.trans ?_⟩;grind [stx]
theorem ma (R0:List (Int×List Rc))(n:Int)(a:List Rc)(b:a≠[]):(av hs0 (aG (R0++[(n,a)]))).es=n/\(av hs0 (aG (R0++[(n,a)]))).ez=((stx a).length:Int):=by grind [dh,aK,wP]
theorem Bk {S:Dk}{d:List bM}{s:bM}(h:S.left = -1)(g:S.ah=d++[s])(f:S.ah.Pairwise λa b=>a.num<b.num){k:Nat}(n:k<=s.text.size):cx S s.num (k:Int)=({S with ah:=d++[{s with text:=s.text.extract 0 k,cJ:=min s.cJ k}]},0):=by
 have i:∀q∈d,q.num≠s.num:=λq l=>by
  rw[g,qb]at f;have:=f.2.2 q l s (Ua.2 rfl);omega
 have c:S.ah[d.length]? = Z s:=by grind
 have e:place s.num S.ah=Z d.length:=lN (λj t m o=>by grind) c rfl;unfold cx;rw[if_neg (by rw[h];decide),e];simp only;rw[c,if_pos (by simp;omega),qy h,fG f c rfl,g];simp
def tg (R:List (Int×List Rc)):List (Int×Bs):=R.map λp=>(p.1,stx p.2)
theorem LB (d:∀p∈c,p.2≠[])(i:c.Pairwise λp q=>p.1<q.1){l:List bM}(t:l.map view=tg c):∀s∈l,¬(s.num=(av hs0 (aG c)).es/\(av hs0 (aG c)).ez<(s.text.size:Int)):=λs r ⟨k,n⟩=>by
 have h:view s∈tg c:=by grind
 rcases Uc c with rfl|⟨j,p,e⟩
 .cases h
 rw[Zc]at e;obtain⟨m,f⟩:=p;subst e;have g:=ma j m f (d (m,f) (by simp));rw[g.1]at k;rw[g.2]at n;obtain⟨q,b,a⟩:=Xa.1 h;unfold view at a;injection a with q1 u;rcases Xb.1 b with b|b
 .rw[qb]at i;have o:=i.2.2 q b (m,f) (Ua.2 rfl);omega
 grind [aj]
def kept (R0:List (Int×List Rc))(n:Int)(a:List Rc):List (Int×List Rc):=if a=[] then R0 else R0++[(n,a)]
structure qN (S':Dk)(R:List (Int×List Rc)):Prop where
 left:S'.left = -1
 room:S'.room = -1
 aJ:Dm.Good S'
 full:∀s∈S'.ah,s.cJ=s.text.size
 view:S'.ah.map view=tg R
theorem tV (R0:List (Int×List Rc))(n:Int)(a:List Rc):aG (kept R0 n a)=aG (R0++[(n,a)]):=by
 unfold kept;split
 .rename_i h;rw[dh,h];exact(eb _).symm
 rfl
theorem qN.kd (h:qN a c)(A:∀p∈c,p.2≠[])(E:cN hs0 (aG c))(M:c.Pairwise λp q=>p.1<q.1)(f:Int):Kd (Di f (av hs0 (aG c))) a c [] (av hs0 (aG c)):=by
 have V:bF (av hs0 (aG c))=c.map (·.1):=by grind [nL,hs0,bF]
 have v:a.ah.map (·.num)=c.map (·.1):=by
  have u:=congrArg (List.map Prod.fst) h.view;unfold tg at u;rwa [ad,ad]at u
 have H:(Di f (av hs0 (aG c))).ae.flatMap (·.2)++(Di f (av hs0 (aG c))).aN=c.map (·.1):=by grind [bF,Di,Vd]
 have k:∀(d:List (Int×List Rc)) (m:Int) (b:List Rc),c=d++[(m,b)]->(Di f (av hs0 (aG c))).next=m+1/\(Di f (av hs0 (aG c))).synced=(stx b).length:=λd m b e=>by
  have K:=ma d m b (A (m,b) (by rw[e];simp));rw[<-e]at K;constructor
  .show (av hs0 (aG c)).es+1=_;rw[K.1]
  show (av hs0 (aG c)).ez.toNat=_;omega
 have g:c=[]\/∃d m b,c=d++[(m,b)]:=(Uc c).imp id λ⟨d,p,e⟩=>⟨d,p.1,p.2,by rw[e,Zc]⟩
 have y:(Di f (av hs0 (aG c))).aN≠[]->∀d m b,c=d++[(m,b)]->aC (Di f (av hs0 (aG c)))=m:=λt d m b e=>by
  obtain⟨o,z,T⟩:∃o z,(Di f (av hs0 (aG c))).aN=o++[z]:=(Uc _).elim (λe=>absurd e t) λ⟨o,z,e⟩=>⟨o,z,by rw[e,Zc]⟩
  grind [mP,List.append_inj']
 have D:(Di f (av hs0 (aG c))).aN≠[]->∃d m b,c=d++[(m,b)]:=λt=>g.elim (λe=>by simp_all) id
 have r:∀(d:List (Int×List Rc)) (m:Int) (b:List Rc),c=d++[(m,b)]->∃s∈a.ah,s.num=m/\s.text.size=(stx b).length:=λd m b e=>by
  have u:(m,stx b)∈a.ah.map Jr.view:=by
   rw[h.view,e];unfold tg;simp
  obtain⟨s,l,U⟩:=Xa.1 u;grind [aj,Jr.view]
 have x:∀{s q:bM},s∈a.ah->q∈a.ah->s.num=q.num->s=q:=λ{s q} l G e=>by
  obtain⟨i,P⟩:=Vb l;obtain⟨j,S⟩:=Vb G;have R:=iH h.aJ.bQ P S e;grind
 refine⟨⟨⟨h.left,h.room,h.aJ,by rw[v,H],?_,?_,λt=>?_⟩,h.view,λs l _=>h.full s l,λt=>?_,λt s l w=>?_,λ_=>rfl⟩,A,rfl,E,rfl,rfl,rfl⟩
 .rw[v];rcases g with e|⟨d,m,b,e⟩
  .grind
  intro n w;rw[(k d m b e).1];rw[e,Ub]at w;rw[e,qb]at M;rcases Xb.1 w with w|w
  .obtain⟨p,F,rfl⟩:=Xa.1 w;have:=M.2.2 p F (m,b) (Ua.2 rfl);omega
  grind
 .rcases g with e|⟨d,m,b,e⟩
  .rw[e];show (0:Int)<=-1+1;decide
  rw[(k d m b e).1];obtain⟨s,l,u,_⟩:=r d m b e;have:=(h.aJ.num s l).1;omega
 .obtain⟨d,m,b,e⟩:=D t;obtain⟨s,l,u,B⟩:=r d m b e;exact⟨s,l,by rw[y t d m b e,u],by rw[(k d m b e).2,B];rfl⟩
 .obtain⟨d,m,b,e⟩:=D t;refine⟨d,b,?_,(k d m b e).2,rfl⟩;grind
 obtain⟨d,m,b,e⟩:=D t;obtain⟨q,G,u,B⟩:=r d m b e;have J:s=q:=x l G (by rw[w,y t d m b e,u]);rw[h.full s l,(k d m b e).2,J,B]
theorem cN.ok {l:List Et}(c:cN b l):∀x∈l,x.2.Ok:=by
 induction l generalizing b with
 | nil=>grind
 | cons y l d=>
  intro x a;rcases List.mem_cons.1 a with e|a
  .rw[e];exact c.1.ok
  exact d c.2 x a
theorem oW {n:Int}{r:Rc}:∀{a:List Rc} {z:Nat},r∈a->∃x∈br n z a,x.2=r
 | [],_,h=>by cases h
 | q ::a,z,h=>by
  rcases List.mem_cons.1 h with e|h
  .exact⟨_,Ya ..,e.symm⟩
  .obtain⟨x,b,c⟩:=oW (z:=z+q.tx.length) h;exact⟨x,Wa _ b,c⟩
theorem Jd (c:Dm.Good a):∀x∈gZ a,-9223372036854775808<=x.1/\x.1<=9223372036854775807:=λx b=>by
 unfold gZ at b;obtain⟨q,d,rfl⟩:=Xa.1 b;have:=c.num q d;omega
end Jr
namespace Jr
open Bytes
structure mH (h:Hs):Prop where
 up:(h.ae.map (·.1)).Pairwise (·<·)
 sn:∀s∈h.ae,0<=s.1/\s.1<=h.g
 g:-1<=h.g/\h.g<=1000000000
 aN:h.ar≠[]->h.g<h.onum/\h.onum<=1000000000
theorem mH.next {h:Hs}{x:Et}(c:mH h)(m:Cl h x):mH (hnext h x):=by
 obtain⟨⟨l,z⟩,⟨k,n,t⟩⟩:=x;have d:=m.fit;have r:0<=n:=m.ok.n0;have i:n<=1000000000:=m.ok.n1;have v:=c.g;unfold hfit dI at d;rcases m.ok.k with e|e|e
 .have e:k=100:=e;subst e;rw[if_pos rfl]at d;simp only[Bool.and_eq_true,decide_eq_true_eq]at d;exact⟨c.up,c.sn,c.g,λ_=>⟨d.1,i⟩⟩
 .have e:k=115:=e;subst e;rw[if_neg (show ¬(⟨#[(115:UInt8)]⟩:ByteArray)=⟨#[100]⟩ by decide),if_pos rfl]at d;simp only[Bool.and_eq_true,decide_eq_true_eq]at d;have w:=c.aN (List.length_pos_iff.1 d.1);have u:n=h.onum:=d.2;refine⟨?_,λs j=>?_,⟨by show -1<=n;omega,i⟩,λe=>absurd rfl e⟩
  .show ((h.ae++[(h.onum,h.ar,hent l h.az)]).map (·.1)).Pairwise (·<·);rw[Ub,qb];refine⟨c.up,Xd _ _,λa p b q=>?_⟩;obtain⟨s,j,rfl⟩:=Xa.1 p;have o:=c.sn s j;grind
  have f:s∈h.ae++[(h.onum,h.ar,hent l h.az)]:=j;show 0<=s.1/\s.1<=n;rcases Xb.1 f with f|f
  .have o:=c.sn s f;omega
  grind
 have e:k=98:=e;subst e;rw[if_neg (show ¬(⟨#[(98:UInt8)]⟩:ByteArray)=⟨#[100]⟩ by decide),if_neg (show ¬(⟨#[(98:UInt8)]⟩:ByteArray)=⟨#[115]⟩ by decide),if_pos rfl]at d;simp only[decide_eq_true_eq]at d;exact⟨c.up,λs j=>⟨(c.sn s j).1,Int.le_trans (c.sn s j).2 d⟩,⟨by show -1<=n;omega,i⟩,λe=>absurd rfl e⟩
theorem mH.all {h:Hs}{l:List Et}(a:mH h)(b:cN h l):mH (av h l):=by
 induction l generalizing h with
 | nil=>exact a
 | cons x l c=>exact c (a.next b.1) b.2
theorem zx:mH hs0:=⟨List.Pairwise.nil,λs a=>(by cases a),⟨by decide,by decide⟩,λe=>absurd rfl e⟩
end Jr
namespace Dd
open Go.RowKit Go.Maps Mem Foot Bytes Im Wm Hi Plainw Cq Dm Dh Jr Wi Sk Hn Kr
def D0 (c:Fin 6->Int)(S:Dk):Dn:=⟨c,J0 (c 5),S,0,0,0,gC,[],false⟩
theorem Hd (w:N):(w.alloc (.map #[] 0)).ownsMap Yc 3 (kg wa) w.heap.size 0 (Sk.D []):=World.ownsMap_made w Yc 3 (kg wa)
noncomputable def bI (c:Fin 6->Int)(l:List (Int×List ByteArray×List Int)):List Ms:=l.map λs=>⟨s.1,⟨(ir s.1 (oy (bP c) (s.2.1.map Bytes.B))).toArray⟩⟩
structure wj (l:List ByteArray):Prop where
 short:∀d∈l,d.size<=1000000
 lines:jE (l.map Bytes.B)<=100000000000
 len:l.length<=1000000000
theorem OS {w:N}{v:C}{l:List ByteArray}(h:w.ownsRow 0 9 1 v l.length (l.map ef)):Row w v (l.map Bytes.B):=by
 obtain⟨a,c,rfl⟩:=ak h;rcases h.2 with ⟨e,u⟩|⟨g,o,f,e,_,q,r,_,_,s⟩
 .injection e with k _ m;refine⟨a,c,by rw[Za],by rw[Za];omega,λj x b=>?_⟩;have:=(List.getElem?_eq_some_iff.1 b).1;rw[Za]at this;omega
 injection e with k _ m;refine⟨a,c,by rw[Za],by rw[Za,m];exact r,λj x b=>?_⟩;have n:af w g 9 f:=q;rw[List.getElem?_map]at b;cases i:l[j]? with
 | none=>rw[i]at b;cases b
 | some t=>
  rw[i]at b;simp only[Option.map_some,Uf]at b;refine⟨g,0,k,n.lt,?_⟩;have d:(l.map ef)[j]? = Z (L t):=by rw[List.getElem?_map,i];rfl
  rw[<-s,List.getElem?_take]at d;split at d
  .have p:(⟨(Bytes.B t).toArray⟩:ByteArray)=t:=Bytes.bo (by simp[Bytes.B]);rw[Ze,<-b,p];exact n.cell j _ (by simpa using d)
  cases d
theorem wj.summed {l:List ByteArray}(h:wj l)(c:Fin 6->Int)(g:oz c)(v:C)(w:N)(j:w.ownsRow 0 9 1 v l.length (l.map ef)):
  Calls Yc 53 #[cfg c,v] w λe f=>∃(p:WI) (b a:Nat) (E:List fh),e=.returned (ca (Z ⟨p.P,0,Y⟩))/\dP f p (bP c) b a E/\cE b a E=oy (bP c) (l.map Bytes.B)/\(∀x∈bj p E,w.heap.size<=x)/\Below w.heap.size w f:=
 Mp c g v (l.map Bytes.B) w (OS j) (λd i=>by
  obtain⟨t,k,rfl⟩:=Xa.1 i;have:=h.short t k;rw[Bytes.aj]at this;omega) (by have:=h.lines;omega) (by rw[Za];have:=h.len;omega)
theorem rB {m:Ms}:∀{l:List Ms},(∀x∈l,x.k<m.k)->iR m l=l++[m]
 | [],_=>rfl
 | x ::l,h=>by
  have b:=h x (Ya ..);rw[iR,if_neg (by omega),rB λy a=>h y (Wa _ a)];rfl
end Dd
end Go.Proofs.YtpndiccohnafbaaGreatDoor
