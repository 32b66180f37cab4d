/- The journal forgets a window. -/
import Derived.Test.YtpndiccohnafbaaGreatDoorJoy
import Derived.WalkKit
import Derived.OwnWalkIn
import Derived.LoopIn
import Derived.Shelf.Abstract
import Derived.Shelf.RegionOpen
import Derived.Maps.OwnIn
set_option maxHeartbeats 9000000
open Go.Value renaming pointer->ca,slice->Q
open Option renaming some->Z,none->Y
open List renaming mem_singleton->Ua,mem_cons_of_mem->Va,mem_cons->Wa,mem_append->Xa,mem_cons_self->Ya,mem_append_left->Za,mem_append_right->Vb
open Or renaming inl->eb,inr->Ub
open Array renaming getElem?_eq_some_iff->qb
open Go renaming callsIn_wide->Wb,run_takeDeferred->Wc,grownBy_putObj'->Xc,Value->C
open Nat renaming le_trans->Xb
open Go.World renaming putObj_heap_other->Yb
open Go.CallsIn renaming inRound->Zb
open Go.Proofs.Tryz renaming underlying3->Uc,underlying131->Vc,prog->Zc
open Go.KeepsOthers renaming setCell->Yc
namespace Go.Proofs.YtpndiccohnafbaaGreatDoor.Jr
open Go.RowKit Go.Maps Mem Foot Bytes Im Wm Hi Plainw Cq Dm Dh
attribute [local go_sem] Oper.semAt_some
theorem xo {J:Jn}{S:Dk}{k u:Nat}(h:Fit S k u)(f:J.next<=9223372036854775806)(d:aC J<=9223372036854775807):Fit (bR J S).2.1 (k+2) (u+J.bU.size+2*(aZ J).length):=by
 have e:(bytesOf (aZ J)).size=(aZ J).length:=by
  show (aZ J).toArray.size=_;rw[List.size_toArray]
 unfold bR;split
 .split
  .have:=jH (J:=J) (t:=bytesOf (aZ J)) h (by omega);exact this.more (by omega) (by omega)
  rename_i hz;have b:=jH (J:=J) (t:=bytesOf (aZ J)) h (by omega);have a:=qQ (J:=J) (S:=S) (t:=bytesOf (aZ J)) (by simpa using hz);have c:=jU (J:=(bf J S (bytesOf (aZ J))).1) b (by rw[a];simp[aC];omega);refine c.more (by omega) ?_;rw[a];show u+(bytesOf (aZ J)).size+(bytesOf (aZ J)).size<=_;omega
 exact(jU h d).more (by omega) (by omega)
set_option maxRecDepth 20000 in
theorem KP (w0 w:World)(hT:gp w0)(h0:Below w0.heap.size w0 w)(R i mb:Nat)(J:Jn)(E:my)(ov:C)(S:Dk)(ba m0:Nat)(bs:List Nat)(f:Int)(k u:Nat)(h:JW w R i mb J E ov)(hP:PD w i S ba m0 bs)(l1:∀b∈kf R i mb E ov ba bs,w0.heap.size<=b)(hF:Fit S k u)(d:k<=10000000)(hu:u+J.bU.size<=100000000000)(p5:J.aN.length<=100000000)(p7:J.synced<=1000000000000)(q0:0<=J.next)(q1:J.next<=1000000000000)(q2:-9223372036854775808<=aC J)(o7:aC J<=9223372036854775807)(o3:-9223372036854775808<=J.al)(o4:J.al<=9223372036854775807)(p8:-9223372036854775808<=f)(p9:f<=9223372036854775807)(j8:∀p∈J.ae,p.2.length<=1000000000/\∀x∈p.2,-9223372036854775808<=x/\x<=9223372036854775807):
  Calls Zc 66 #[ca (Z ⟨R,0,Y⟩),.int .i64 f] w λe w'=>∃v,e=.returned v/\fj w' v (aO J S f).2.2/\Kq w w' R i mb (aO J S f).1 (aO J S f).2.1 (kf R i mb E ov ba bs):=by
 have q5:(aZ J).length<=44:=by
  have:=jZ [98] o3 o4 (t:=[]) (by simp);unfold aZ;split
  .exact Nat.zero_le _
  simpa using this
 have j5:∀b∈jf R ov i ba bs,w0.heap.size<=b:=λb j=>l1 b (dy j)
 have l5:=aa (xo (J:=J) hF (by omega) o7);have HA:=aa h;have HP:=aa hP;have HT:=aa hT;have d2:=aa h0;have d3:=aa j5;have HF:=aa hF;have n8:=aa j8;have g6:=aa (Maps.keyOf_int_mk (P:=Zc) (k:=3) Uc (pz p8 p9));have n4:=af.new w 53 #[ca (Z ⟨R,0,Y⟩)];have m3:=ai (w:=w) (.cells #[ca (Z ⟨R,0,Y⟩)] 53);have n5:=af.new (w.alloc (.cells #[ca (Z ⟨R,0,Y⟩)] 53)) 97 #[.nilIface];have m4:=ai (w:=w.alloc (.cells #[ca (Z ⟨R,0,Y⟩)] 53)) (.cells #[.nilIface] 97);have j9:=Mem.af.below n4 m4 n4.lt;have g7:=aa (m3.trans (m4.mono m3.size));have i4:=aa (h.keep g7);rw[World.size_alloc]at n5;have cb:=j9.Ri 0;have c7:=i4.ja.head.Ri 7;have k4:=aa j9;have k5:=aa n5;have HZ:=aa (show ((w.alloc (.cells #[ca (Z ⟨R,0,Y⟩)] 53)).alloc (.cells #[.nilIface] 97)).heap.size=w.heap.size+2 by simp);clear n4 n5 j9 m3 m4 h hP hT h0 l1 j5 hF j8;have k3:=aa (HP.keep g7);have n7:=aa (d2.trans (g7.mono d2.size));refine(Wb (n:=12)).1 ?_;refine callsIn_of_wp_marks Tryz.func66 rfl trivial ?_ rfl;simp only[Tryz.ntmps66,List.size_toArray,List.length_cons,List.length_nil,Nat.reduceAdd,Nat.reduceSub,Array.replicate_succ,Array.replicate_zero,List.push_toArray,List.append_toArray,List.nil_append,List.cons_append];by_cases k1:f=J.al
 .rw[<-k1]at c7;have p2:=aa k1;clear k1;gi_wp2_with fail;generalize k0:w.heap.size=s at k4 k5 cb HZ ⊢;have f3:=aa k0;clear k0;generalize (w.alloc (.cells #[ca (Z ⟨R,0,Y⟩)] 53)).alloc (.cells #[.nilIface] 97)=w1 at *;have m6:=vg w0 w1 HT n7 R i J (.map (Z mb)) ov S ba m0 bs k u i4.ja k3 d3 HF d hu p5 p7 q0 q1 q2 o7 o3 o4;have l6:=aa (xq J S);have l2:=aa (show aO J S f=if (bR J S).2.2≠0 then bR J S else fY (bR J S).1 (bR J S).2.1 f by unfold aO;rw[if_pos p2.out]);obtain⟨J2,S2,e2,o5⟩:∃J2 S2 e2,bR J S=(J2,S2,e2):=⟨_,_,_,rfl⟩;rw[o5]at m6 l6 l5 l2;clear o5;refine⟨trivial,(Wb.2 m6).mono ?_⟩;clear m6 c7 cb;rintro e w2 ⟨v,rfl,hv,hq⟩;obtain⟨e0,T,l0,U,o0,n9,o1,k7⟩:=i4.jq k3 hq l6;have d4:=aa ((an.ag g7).trans k7);have b4:=aa (show ∀b∈jf R e0 i T U,b∈jf R ov i ba bs\/w.heap.size<=b from λb j=>(o1 b j).imp id λh=>Xb g7.size h);have q3:=HZ.out;have m7:∀{b:Nat} {t:TypeId} {H:Array C},af w1 b t H->s<=b->af w2 b t H:=λ{b t H} g q6=>Foot.af.off g k7 λhm=>by
   obtain⟨t',q4,p6⟩:=iS HA.ja HP hm;have:=p6.lt;have:=f3.out;omega
  have f0:=aa (m7 k4 (Nat.le_refl _));have a0:=aa (m7 k5 (Nat.le_succ _));have k9:s+2<=w2.heap.size:=by have:=k7.size;omega
  have X:=aa o0;have i1:=aa n9;clear hq o1 k7 o0 n9 m7 q3;rcases hv with ⟨he,rfl⟩|⟨k6,fb,fz,rfl,o2⟩
  .have HE:=aa (show aO J S f=fY J2 S2 f by rw[l2.out,if_neg (by simpa using he)]);have l3:Hid (Fit S2 (k+2) (u+J.bU.size+2*(aZ J).length)):=l5;have l9:Hid (J2.ae=J.ae):=l6;clear he;obtain⟨c6,g3,g4⟩:=X.sm.row (J:=J2) X.eq f;have g1:=iU (l:=E) X.sm.own (int_keyed Uc) (t:=131) Vc (z:=.slice Y 0 0) Tryz.zeroValue35 rfl cB g6 w2 rfl;rw[show Im.elemOf (λp:C×List Int=>p.1) (Q Y 0 0) f E=rowOf f E from rfl]at g1;obtain⟨ra,rc,g5⟩:=ak c6;generalize hl:(aS f J2.ae).getD []=l at c6 g4 g5;rw[g5]at g1 c6 g3;have HL:=aa hl;have l8:=aa c6;have p1:=aa g3;have h9:=aa (show l.length<=1000000000/\∀x∈l,-9223372036854775808<=x/\x<=9223372036854775807 by
    rcases g4 with e|⟨p,hp,e⟩
    .rw[e];simp
    rw[<-e];exact n8.out p (l9.out▸hp))
   have cb:=f0.Ri 0;have c2:=X.ja.head.Ri 2;clear hl c6 g3 g4 g5;gi_wp2_with fail;refine⟨trivial,(Wb.2 (Nb ra l.length rc w2)).mono ?_⟩;rintro e w3 ⟨rfl,rfl⟩;gi_wp2_with fail;clear cb c2 g1;have f7:=af.new w2 35 #[Q ra l.length rc];have a6:=ai (w:=w2) (.cells #[Q ra l.length rc] 35);have n6:(w2.alloc (.cells #[Q ra l.length rc] 35)).heap.size=w2.heap.size+1:=by simp
   generalize i5:w2.heap.size=Bx at f7 n6 k9 ⊢;have o9:=aa i5;have e5:=aa a6;have e6:=aa f7;have i2:=aa (aE l8 a6);have f2:=aa (X.keep a6);have b9:=aa (i1.keep a6);have a7:=aa (Mem.af.below f0 a6 f0.lt);have A:=aa (Mem.af.below a0 a6 a0.lt);clear f7 a6 i5;generalize w2.alloc (.cells #[Q ra l.length rc] 35)=w3 at *;have g9:=aa (show ∀k∈Bx ::(Value.slice ra l.length rc).ownBlock.toList,k<w3.heap.size/\∃t H,af w3 k t H/\(t=35\/t=3) from λk d=>by
    rcases Wa.1 d with e|e
    .subst e;exact⟨e6.lt,_,_,e6,eb rfl⟩
    obtain⟨H,g⟩:=au i2 e;exact⟨g.lt,_,_,g,Ub rfl⟩)
   have c1:=aa (show ∀(k:Nat) (t:TypeId) (H:Array C),af w3 k t H->(t=35\/t=3\/t=53\/t=97)->k∉pf i T U from λk t H g ht=>PD.not b9 g (by rcases ht with rfl|rfl|rfl|rfl<;>decide) (by rcases ht with rfl|rfl|rfl|rfl<;>decide) (by rcases ht with rfl|rfl|rfl|rfl<;>decide));have i3:=aa (show ∀W':World,an (pf i T U) w3 W'->gp W' from λW' ho=>by
    have f1:∀b∈pf i T U,w0.heap.size<=b:=λb j=>(b4.out b (Va _ (Vb _ j))).elim (d3.out b) λh=>Xb d2.size h
    have b2:Below w0.heap.size w0 w2:=d2.trans (d4.below d3 d2.size);have b3:Below w0.heap.size w0 w3:=b2.trans (e5.mono b2.size);exact HT.below (b3.trans (ho.below f1 b3.size)))
   apply wpIn_rangeFunc_ownF (F:=Fence.wide) (n:=12) rfl (by decide) (gf:=130) (lb:=#[ca (Z ⟨Bx,0,Y⟩)]) rfl trivial (enters_of Tryz.func130 (by kernel_rfl) rfl)
    (BE 11 (by decide) Bx (Q ra l.length rc) l w3 e6 i2 h9.2 h9.1) KB.trans
    (λW lp o o' h1 _ _ _ k d=>Yb (λe=>by have:=(g9.out k d).1;omega))
    (Below.refl _ _) (λ_=>rfl) (Inv S2 i T U w3) (Out S2 i T U w3 (s+1)) (Ca S2 i T U w3) (Cp S2 i T U w3 (s+1) (by omega))
    ⟨rfl,an.refl _ _,T,l0,U,b9,λb j=>eb j⟩
   case hassign=>
    intro lp x W K hK;gi_wp2_with fail;exact hK
   case hbody=>
    intro lp V x W hI p4;obtain⟨h1,h2,m,B,q,h3,h4⟩:=hI;have l4:=aa h1;have b6:=aa h2;have c9:=aa h3;have e7:=aa h4;have f9:=oQ l3 (cI V);have hlen:=h3.len;have m5:=f9.len;have d6:=delete i m B q _ x.1.2 W h3 f9.aJ (by omega);have cb:=(Foot.af.off a7 h2 (c1.out _ _ _ a7 (by simp))).Ri 0;have c0:=(f2.LF b9 h2).ja.head.Ri 0;have k2:=x.2;have b7:=aa (show bh S2 (cI (V++[x]))=aF (bh S2 (cI V)).1 x.1.2 by
     rw[lL,iy,if_neg (by simpa using l4.out)];exact tU ..)
    clear h1 h2 h3 h4 f9 hlen m5;generalize (bh S2 (cI V)).1=S3 at *;gi_wp2_with fail;refine⟨trivial,(Zb lp (Wb.2 d6)).mono ?_⟩;clear d6 cb c0;rintro e W2 ⟨rfl,ho,a8,c3,a9,i7,j2,i9⟩;have h6:=aa (show ∀b∈pf i a8 a9,b∈pf i T U\/w3.heap.size<=b from λb j=>(AI j2 i9 b j).elim (e7.out b) λh=>Ub (Xb b6.size h));have p0:=aa ho;have e9:=aa i7;have d0:Hid (an (pf i T U) w3 W2):=b6.trans (ho.mono λk _ d=>by rw[Ua.1 d];exact gg (Ya ..));have h8:=aa (show KeepsOthers W W2 from⟨ho.size,λk o d hc=>(ho.block k (qb.1 d).1 (λe=>by
     have hd:=c9.head;rw[Ua]at e;subst e;unfold af at hd;rw[hd]at d;cases d;cases hc)).trans d⟩)
    clear ho i7 j2 i9;by_cases hz:(aF S3 x.1.2).2=0
    .rw[hz];gi_wp2_with fail;refine⟨h8,λk d=>?_,by rw[b7.out];exact hz,d0,a8,c3,a9,by rw[b7.out];exact e9,h6⟩;obtain⟨j6,t,H,g,ht⟩:=g9.out k d;have hn:=c1.out k t H g (by rcases ht with rfl|rfl<;>simp);rw[d0.block k j6 hn,b6.block k j6 hn]
    have d1:=aa hz;have i8:=about ⟨#[100,101,108,101,116,105,110,103]⟩ (by decide) x.1.2 k2.1 k2.2 W2 (i3.out W2 d0);gi_wp2_with fail;refine⟨trivial,(Zb lp (Wb.2 i8)).mono ?_⟩;clear i8;rintro e W3 ⟨rfl,j0⟩;generalize ie ⟨#[100,101,108,101,116,105,110,103]⟩ x.1.2=z;have g8:=aa j0;clear j0;generalize j4:(aF S3 x.1.2).2=er at d1;have h5:=aa j4;have j3:=iM z er W3;gi_wp2_with fail;clear j4;refine⟨trivial,(Zb lp (Wb.2 j3)).mono ?_⟩;clear j3;rintro e W4 ⟨⟨v,rfl,hv⟩,j1⟩;rcases hv with ⟨h,_⟩|⟨_,fb,fy,rfl,fs⟩
    .exact absurd h d1
    have h7:=aa fs;have c8:=aa (g8.trans (j1.mono g8.size));have i0:=aa (d0.trans (an.ag c8));have a:=aa (Foot.af.off A i0 (c1.out _ _ _ A (by simp)));have cr:=a.Ri 0;have fr:=a.frozen 0;clear fs j1;gi_wp2_with fail;have r:an [s+1] W4 (W4.setCell ⟨s+1,0,Y⟩ (.iface 212 (ca (Z ⟨fb,0,Y⟩)))):=(an.refl _ _).set (Ua.2 rfl) _ _;have n0:s+1∉pf i a8 a9:=PD.not (e9.keep c8) a (by decide) (by decide) (by decide);exact⟨h8.trans ((Jr.KeepsOthers.vu c8).trans (Yc _ _ _)),rfl,⟨_,(a.set 0 _).Ri 0,by rw[b7.out,h5.out];exact Ub ⟨d1,fb,fy,rfl,Foot.af.off h7 r (λe=>Ty h7 a (Ua.1 e))⟩,by rw[b7.out,h5.out];exact d1⟩,(i0.mono λk _ d=>Va _ d).trans (r.mono λk _ d=>Ua.1 d▸Ya ..),a8,c3,a9,by rw[b7.out];exact cm (e9.keep c8) r λk d e=>n0 (Ua.1 e▸d),h6⟩
   case hdone=>
    intro D xs W hD hS hI hK;obtain⟨h1,h2,m,B,q,h3,h4⟩:=hI;rw[hS]at h1 h3;have b0:=aa (f2.LF b9 h2);have b5:=aa (show aO J S f=({J2 with ae:=del f J2.ae},(bh S2 l.reverse).1,0) by
     rw[HE.out];unfold fY;rw[HL.out,if_neg (by simpa using h1)])
    have b6:=aa h2;have c9:=aa h3;have e7:=aa h4;have e8:=aa hK;have cb:=(Foot.af.off a7 h2 (c1.out _ _ _ a7 (by simp))).Ri 0;have c2:=b0.ja.head.Ri 2;have d5:=aa (Foot.af.off A h2 (c1.out _ _ _ A (by simp)));obtain⟨W2,p3,g2,b1⟩:=b0.sm.own.drop (t:=131) (int_keyed Uc) Vc g6 0;have b8:=aa (show an [mb] W W2 from⟨b1.grown.os,b1.grown.tape,b1.grown.output,b1.grown.size,λk d hF=>b1.grown.block k d (λe=>hF (by cases e;exact Ua.2 rfl))⟩);have l7:=aa (show W2.ownsMap Zc 3 (kg Em) mb E.length (sD (del f E)) by
     rw[show (sD E).del (Lit.int .i64 f)=sD (del f E) from vp cB f E]at g2;exact g2)
    have a:=aa (Foot.af.off d5 b8 (λe=>dD b0.sm.own d5 (Ua.1 e).symm));have cr:=a.Ri 0;have fr:=a.frozen 0;clear h1 h2 h3 h4 hK g2 b1;gi_wp2_with fail;have j7:D∉[mb]:=λe=>by
     have h1:=e8.out;obtain⟨es,f4,h2,_⟩:=b0.sm.own;rw[Ua.1 e,h2]at h1;cases h1
    have f5:W2.heap[D]? = Z (.deferred (Z [])):=(b8.block D (qb.1 e8).1 j7).trans e8;have r:an [s+1] W2 (W2.setCell ⟨s+1,0,Y⟩ .nilIface):=(an.refl _ _).set (Ua.2 rfl) _ _;have hrs:=a.set 0 .nilIface;have i6:D∉[s+1]:=λe=>by
     have h1:=a.out;unfold af at h1;rw[<-Ua.1 e,f5]at h1;cases h1
    have f6:=(r.block D (qb.1 f5).1 i6).trans f5;generalize W2.setCell ⟨s+1,0,Y⟩ .nilIface=W3 at *;have M:an [D] W3 (W3.putObj D (.deferred Y)):=cu (Xc W3 D _);have m9:s+1∉[D]:=λe=>i6 (Ua.2 (Ua.1 e).symm)
    refine⟨by simp,.inl ⟨_,_,rfl,Wc f6,?_⟩⟩;refine⟨_,fF rfl _ _ ⟨s+1,0,Y⟩ .nilIface rfl (lH ((Foot.af.off hrs M m9).Ri 0)),.nilIface,rfl,by rw[b5.out];exact eb ⟨rfl,rfl⟩,?_⟩;rw[b5.out];have nc:∀{W':World} {k:Nat} {t:TypeId} {H:Array C},W'.heap[D]? = Z (.deferred (Z []))->af W' k t H->k∉[D]:=λhd g e=>by
     unfold af at g;rw[Ua.1 e,hd]at g;cases g
    have k8:=f3.out;have c4:=b0.less b8 l7;have d8:PD W2 i (bh S2 l.reverse).1 m B q:=cm c9 b8 λk d e=>by
     obtain⟨t,H,g⟩:=fx c9 d;exact dD b0.sm.own g (Ua.1 e).symm
    have d7:∀k∈Jr.kf R i mb (del f E) e0 m q,k∉[s+1]:=λk d e=>by
     rw[Ua]at e;subst e;rcases Wa.1 d with e|e
     .exact dD c4.sm.own a e.symm
     rcases Xa.1 e with e|e
     .obtain⟨H,g⟩:=c4.sm.il e;exact Ty g a rfl
     rcases Wa.1 e with e|e
     .exact Ty c4.ja.head a e.symm
     rcases Xa.1 e with e|e
     .obtain⟨H,g⟩:=au c4.ja.aN e;exact Ty g a rfl
     exact PD.not d8 a (by decide) (by decide) (by decide) e
    have g0:=c4.off (ba:=m) (bs:=q) r d7;have d9:=cm d8 r λk d=>d7 k (gq d)
    have c5:∀k∈Jr.kf R i mb (del f E) e0 m q,k∉[D]:=λk d=>by
     rcases Wa.1 d with e|e
     .intro e2;rw[Ua.1 e2]at e;exact j7 (Ua.2 e)
     rcases Xa.1 e with e|e
     .obtain⟨H,g⟩:=g0.sm.il e;exact nc f6 g
     obtain⟨t,H,g⟩:=iS g0.ja d9 e;exact nc f6 g
    have a1:an (kf R i mb E ov ba bs) w w2:=d4.mono λk _ d=>dy d
    have a2:=a1.trans (an.ag e5);have fp:∀b∈pf i T U,b∈kf R i mb E ov ba bs\/w.heap.size<=b:=λb j=>(b4.out b (Va _ (Vb _ j))).imp dy id
    have a3:=aP a2 fp b6;have a4:=aP a3 (λb j=>eb (Ua.1 j▸Ya ..)) b8;have a5:=aP a4 (λb j=>Ub (by rw[Ua.1 j];omega)) r;refine⟨⟨del f E,e0,m,B,q,g0.off (ba:=m) (bs:=q) M c5,cm d9 M λk d=>c5 k (gq d),λb j=>?_⟩,aP a5 (λb j=>Ub (by rw[Ua.1 j];have:=a2.size;omega)) M⟩;rcases Wa.1 j with e|e
    .exact eb (e▸Ya ..)
    rcases Xa.1 e with e|e
    .exact eb (Va _ (Za _ (uT e)))
    rcases Wa.1 e with e|e
    .exact eb (e▸dy (Ya ..))
    rcases Xa.1 e with e|e
    .exact(b4.out b (Va _ (Za _ e))).imp dy id
    exact(e7.out b e).elim (fp b) λh=>Ub (Xb a2.size h)
   case hstop=>
    intro D c V W hD m2 hO hK;obtain⟨rfl,⟨v,e1,e2,e3⟩,ho,m,B,q,h3,h4⟩:=hO;obtain⟨o8,m8⟩:=m2;have b5:=aa (show aO J S f=(J2,(bh S2 (cI V)).1,(bh S2 (cI V)).2) by
     have e4:bh S2 l.reverse=bh S2 (cI V):=by rw[<-m8,iy,if_pos e3]
     rw[HE.out];unfold fY;rw[HL.out,e4,if_pos e3])
    gi_wp2_with fail;have M:an [D] W (W.putObj D (.deferred Y)):=cu (Xc W D _);have o6:s+1<w3.heap.size:=A.lt;have m1:(W.putObj D (.deferred Y)).heap[s+1]? = W.heap[s+1]? :=Yb (by omega);have f8:(W.putObj D (.deferred Y)).cell? ⟨s+1,0,Y⟩=Z v:=by
     unfold World.cell? at e1 ⊢;simp only at e1 ⊢;rw[m1];exact e1
    refine⟨by simp,.inl ⟨_,_,rfl,Wc hK,?_⟩⟩;refine⟨_,fF rfl _ _ ⟨s+1,0,Y⟩ v rfl (lH f8),v,rfl,?_,?_⟩
    .rw[b5.out];rcases e2 with e2|⟨n1,b,y,n2,n3⟩
     .exact eb e2
     exact Ub ⟨n1,b,y,n2,Foot.af.off n3 M λe=>by
      unfold af at n3;rw[Ua.1 e,hK]at n3;cases n3⟩
    rw[b5.out];have k8:=f3.out;have hj:=f2.QE b9 A ho;have c5:∀k∈Jr.kf R i mb E e0 m q,k∉[D]:=λk d e2=>by
     rw[Ua.1 e2]at d;rcases Wa.1 d with e|e
     .obtain⟨es,f4,h2,_⟩:=hj.sm.own;rw[<-e,hK]at h2;cases h2
     rcases Xa.1 e with e|e
     .obtain⟨H,g⟩:=hj.sm.il e;unfold af at g;rw[hK]at g;cases g
     obtain⟨t,H,g⟩:=iS hj.ja h3 e;unfold af at g;rw[hK]at g;cases g
    have a1:an (kf R i mb E ov ba bs) w w2:=d4.mono λk _ d=>dy d
    have a2:=a1.trans (an.ag e5);have fp:∀b∈pf i T U,b∈kf R i mb E ov ba bs\/w.heap.size<=b:=λb j=>(b4.out b (Va _ (Vb _ j))).imp dy id
    have a3:=aP a2 (G:=(s+1) ::pf i T U) (λb j=>(Wa.1 j).elim (λe=>Ub (by omega)) (fp b)) ho;refine⟨⟨E,e0,m,B,q,hj.off (ba:=m) (bs:=q) M c5,cm h3 M λk d=>c5 k (gq d),λb j=>?_⟩,aP a3 (λb j=>Ub (by rw[Ua.1 j];have:=a2.size;omega)) M⟩;rcases Wa.1 j with e|e
    .exact eb (e▸Ya ..)
    rcases Xa.1 e with e|e
    .exact eb (Va _ (Za _ e))
    rcases Wa.1 e with e|e
    .exact eb (e▸dy (Ya ..))
    rcases Xa.1 e with e|e
    .exact(b4.out b (Va _ (Za _ e))).imp dy id
    exact(h4 b e).elim (fp b) λh=>Ub (Xb a2.size h)
  have k6:e2≠0:=k6;have HE:=aa (show aO J S f=(J2,S2,e2) by rw[l2.out,if_pos k6]);have HV:Hid (fj w2 (.iface 212 (ca (Z ⟨fb,0,Y⟩))) e2):=Ub ⟨k6,fb,fz,rfl,o2⟩;have cr:=a0.Ri 0;have fr:=a0.frozen 0;clear o2;gi_wp2_with fail;have r:an [s+1] w2 (w2.setCell ⟨s+1,0,Y⟩ (.iface 212 (ca (Z ⟨fb,0,Y⟩)))):=(an.refl _ _).set (Ua.2 rfl) _ _;have k8:=f3.out;have d7:∀k∈Jr.kf R i mb E e0 T U,k∉[s+1]:=λk d e=>by
   rw[Ua]at e;subst e;rcases Wa.1 d with e|e
   .exact dD X.sm.own a0 e.symm
   rcases Xa.1 e with e|e
   .obtain⟨H,g⟩:=X.sm.il e;exact Ty g a0 rfl
   rcases Wa.1 e with e|e
   .exact Ty X.ja.head a0 e.symm
   rcases Xa.1 e with e|e
   .obtain⟨H,g⟩:=au X.ja.aN e;exact Ty g a0 rfl
   exact PD.not i1 a0 (by decide) (by decide) (by decide) e
  refine⟨_,fF rfl _ _ ⟨s+1,0,Y⟩ _ rfl (lH ((a0.set 0 _).Ri 0)),_,rfl,?_,?_⟩
  .rw[HE.out];rcases HV.out with h|⟨n1,b,y,n2,n3⟩
   .exact eb h
   exact Ub ⟨n1,b,y,n2,Foot.af.off n3 r (λe=>Ty n3 a0 (Ua.1 e))⟩
  rw[HE.out];have a1:an (kf R i mb E ov ba bs) w w2:=d4.mono λk _ d=>dy d
  refine⟨⟨E,e0,T,l0,U,X.off (ba:=T) (bs:=U) r d7,cm i1 r λk d=>d7 k (gq d),λb j=>?_⟩,aP a1 (λb j=>Ub (by rw[Ua.1 j];omega)) r⟩;rcases Wa.1 j with e|e
  .exact eb (e▸Ya ..)
  rcases Xa.1 e with e|e
  .exact eb (Va _ (Za _ e))
  exact(b4.out b e).imp dy id
 have HE:=aa (show aO J S f=fY J S f by unfold aO;rw[if_neg k1]);have l3:Hid (Fit S (k+2) (u+J.bU.size+2*(aZ J).length)):=HF.more (by omega) (by omega);have l9:Hid (J.ae=J.ae):=rfl;have X:=aa i4.out;have i1:=aa k3.out;have f0:=aa k4.out;have a0:=aa k5.out;have d4:Hid (an (jf R ov i ba bs) w ((w.alloc (.cells #[ca (Z ⟨R,0,Y⟩)] 53)).alloc (.cells #[.nilIface] 97))):=an.ag g7;have b4:=aa (show ∀b∈jf R ov i ba bs,b∈jf R ov i ba bs\/w.heap.size<=b from λb j=>eb j);have k9:w.heap.size+2<=((w.alloc (.cells #[ca (Z ⟨R,0,Y⟩)] 53)).alloc (.cells #[.nilIface] 97)).heap.size:=Nat.le_of_eq HZ.symm;clear i4 k3 k4 k5 HZ l5;obtain⟨c6,g3,g4⟩:=X.sm.row (J:=J) X.eq f;have g1:=iU (l:=E) X.sm.own (int_keyed Uc) (t:=131) Vc (z:=.slice Y 0 0) Tryz.zeroValue35 rfl cB g6 _ rfl;rw[show Im.elemOf (λp:C×List Int=>p.1) (Q Y 0 0) f E=rowOf f E from rfl]at g1;obtain⟨ra,rc,g5⟩:=ak c6;generalize hl:(aS f J.ae).getD []=l at c6 g4 g5;rw[g5]at g1 c6 g3;have HL:=aa hl;have l8:=aa c6;have p1:=aa g3;have h9:=aa (show l.length<=1000000000/\∀x∈l,-9223372036854775808<=x/\x<=9223372036854775807 by
  rcases g4 with e|⟨p,hp,e⟩
  .rw[e];simp
  rw[<-e];exact n8.out p (l9.out▸hp))
 have c2:=X.ja.head.Ri 2;clear hl c6 g3 g4 g5;gi_wp2_with fail;generalize k0:w.heap.size=s at f0 a0 cb k9 ⊢;have f3:=aa k0;clear k0 c7 k1;generalize (w.alloc (.cells #[ca (Z ⟨R,0,Y⟩)] 53)).alloc (.cells #[.nilIface] 97)=w2 at *;refine⟨trivial,(Wb.2 (Nb ra l.length rc w2)).mono ?_⟩;rintro e w3 ⟨rfl,rfl⟩;gi_wp2_with fail;clear cb c2 g1;have f7:=af.new w2 35 #[Q ra l.length rc];have a6:=ai (w:=w2) (.cells #[Q ra l.length rc] 35);have n6:(w2.alloc (.cells #[Q ra l.length rc] 35)).heap.size=w2.heap.size+1:=by simp
 generalize i5:w2.heap.size=Bx at f7 n6 k9 ⊢;have o9:=aa i5;have e5:=aa a6;have e6:=aa f7;have i2:=aa (aE l8 a6);have f2:=aa (X.keep a6);have b9:=aa (i1.keep a6);have a7:=aa (Mem.af.below f0 a6 f0.lt);have A:=aa (Mem.af.below a0 a6 a0.lt);clear f7 a6 i5;generalize w2.alloc (.cells #[Q ra l.length rc] 35)=w3 at *;have g9:=aa (show ∀k∈Bx ::(Value.slice ra l.length rc).ownBlock.toList,k<w3.heap.size/\∃t H,af w3 k t H/\(t=35\/t=3) from λk d=>by
  rcases Wa.1 d with e|e
  .subst e;exact⟨e6.lt,_,_,e6,eb rfl⟩
  obtain⟨H,g⟩:=au i2 e;exact⟨g.lt,_,_,g,Ub rfl⟩)
 have c1:=aa (show ∀(k:Nat) (t:TypeId) (H:Array C),af w3 k t H->(t=35\/t=3\/t=53\/t=97)->k∉pf i ba bs from λk t H g ht=>PD.not b9 g (by rcases ht with rfl|rfl|rfl|rfl<;>decide) (by rcases ht with rfl|rfl|rfl|rfl<;>decide) (by rcases ht with rfl|rfl|rfl|rfl<;>decide));have i3:=aa (show ∀W':World,an (pf i ba bs) w3 W'->gp W' from λW' ho=>by
  have f1:∀b∈pf i ba bs,w0.heap.size<=b:=λb j=>(b4.out b (Va _ (Vb _ j))).elim (d3.out b) λh=>Xb d2.size h
  have b2:Below w0.heap.size w0 w2:=d2.trans (d4.below d3 d2.size);have b3:Below w0.heap.size w0 w3:=b2.trans (e5.mono b2.size);exact HT.below (b3.trans (ho.below f1 b3.size)))
 apply wpIn_rangeFunc_ownF (F:=Fence.wide) (n:=12) rfl (by decide) (gf:=130) (lb:=#[ca (Z ⟨Bx,0,Y⟩)]) rfl trivial (enters_of Tryz.func130 (by kernel_rfl) rfl)
  (BE 11 (by decide) Bx (Q ra l.length rc) l w3 e6 i2 h9.2 h9.1) KB.trans
  (λW lp o o' h1 _ _ _ k d=>Yb (λe=>by have:=(g9.out k d).1;omega))
  (Below.refl _ _) (λ_=>rfl) (Inv S i ba bs w3) (Out S i ba bs w3 (s+1)) (Ca S i ba bs w3) (Cp S i ba bs w3 (s+1) (by omega))
  ⟨rfl,an.refl _ _,ba,m0,bs,b9,λb j=>eb j⟩
 case hassign=>
  intro lp x W K hK;gi_wp2_with fail;exact hK
 case hbody=>
  intro lp V x W hI p4;obtain⟨h1,h2,m,B,q,h3,h4⟩:=hI;have l4:=aa h1;have b6:=aa h2;have c9:=aa h3;have e7:=aa h4;have f9:=oQ l3 (cI V);have hlen:=h3.len;have m5:=f9.len;have d6:=delete i m B q _ x.1.2 W h3 f9.aJ (by omega);have cb:=(Foot.af.off a7 h2 (c1.out _ _ _ a7 (by simp))).Ri 0;have c0:=(f2.LF b9 h2).ja.head.Ri 0;have k2:=x.2;have b7:=aa (show bh S (cI (V++[x]))=aF (bh S (cI V)).1 x.1.2 by
   rw[lL,iy,if_neg (by simpa using l4.out)];exact tU ..)
  clear h1 h2 h3 h4 f9 hlen m5;generalize (bh S (cI V)).1=S3 at *;gi_wp2_with fail;refine⟨trivial,(Zb lp (Wb.2 d6)).mono ?_⟩;clear d6 cb c0;rintro e W2 ⟨rfl,ho,a8,c3,a9,i7,j2,i9⟩;have h6:=aa (show ∀b∈pf i a8 a9,b∈pf i ba bs\/w3.heap.size<=b from λb j=>(AI j2 i9 b j).elim (e7.out b) λh=>Ub (Xb b6.size h));have p0:=aa ho;have e9:=aa i7;have d0:Hid (an (pf i ba bs) w3 W2):=b6.trans (ho.mono λk _ d=>by rw[Ua.1 d];exact gg (Ya ..));have h8:=aa (show KeepsOthers W W2 from⟨ho.size,λk o d hc=>(ho.block k (qb.1 d).1 (λe=>by
   have hd:=c9.head;rw[Ua]at e;subst e;unfold af at hd;rw[hd]at d;cases d;cases hc)).trans d⟩)
  clear ho i7 j2 i9;by_cases hz:(aF S3 x.1.2).2=0
  .rw[hz];gi_wp2_with fail;refine⟨h8,λk d=>?_,by rw[b7.out];exact hz,d0,a8,c3,a9,by rw[b7.out];exact e9,h6⟩;obtain⟨j6,t,H,g,ht⟩:=g9.out k d;have hn:=c1.out k t H g (by rcases ht with rfl|rfl<;>simp);rw[d0.block k j6 hn,b6.block k j6 hn]
  have d1:=aa hz;have i8:=about ⟨#[100,101,108,101,116,105,110,103]⟩ (by decide) x.1.2 k2.1 k2.2 W2 (i3.out W2 d0);gi_wp2_with fail;refine⟨trivial,(Zb lp (Wb.2 i8)).mono ?_⟩;clear i8;rintro e W3 ⟨rfl,j0⟩;generalize ie ⟨#[100,101,108,101,116,105,110,103]⟩ x.1.2=z;have g8:=aa j0;clear j0;generalize j4:(aF S3 x.1.2).2=er at d1;have h5:=aa j4;have j3:=iM z er W3;gi_wp2_with fail;clear j4;refine⟨trivial,(Zb lp (Wb.2 j3)).mono ?_⟩;clear j3;rintro e W4 ⟨⟨v,rfl,hv⟩,j1⟩;rcases hv with ⟨h,_⟩|⟨_,fb,fy,rfl,fs⟩
  .exact absurd h d1
  have h7:=aa fs;have c8:=aa (g8.trans (j1.mono g8.size));have i0:=aa (d0.trans (an.ag c8));have a:=aa (Foot.af.off A i0 (c1.out _ _ _ A (by simp)));have cr:=a.Ri 0;have fr:=a.frozen 0;clear fs j1;gi_wp2_with fail;have r:an [s+1] W4 (W4.setCell ⟨s+1,0,Y⟩ (.iface 212 (ca (Z ⟨fb,0,Y⟩)))):=(an.refl _ _).set (Ua.2 rfl) _ _;have n0:s+1∉pf i a8 a9:=PD.not (e9.keep c8) a (by decide) (by decide) (by decide);exact⟨h8.trans ((Jr.KeepsOthers.vu c8).trans (Yc _ _ _)),rfl,⟨_,(a.set 0 _).Ri 0,by rw[b7.out,h5.out];exact Ub ⟨d1,fb,fy,rfl,Foot.af.off h7 r (λe=>Ty h7 a (Ua.1 e))⟩,by rw[b7.out,h5.out];exact d1⟩,(i0.mono λk _ d=>Va _ d).trans (r.mono λk _ d=>Ua.1 d▸Ya ..),a8,c3,a9,by rw[b7.out];exact cm (e9.keep c8) r λk d e=>n0 (Ua.1 e▸d),h6⟩
 case hdone=>
  intro D xs W hD hS hI hK;obtain⟨h1,h2,m,B,q,h3,h4⟩:=hI;rw[hS]at h1 h3;have b0:=aa (f2.LF b9 h2);have b5:=aa (show aO J S f=({J with ae:=del f J.ae},(bh S l.reverse).1,0) by
   rw[HE.out];unfold fY;rw[HL.out,if_neg (by simpa using h1)])
  have b6:=aa h2;have c9:=aa h3;have e7:=aa h4;have e8:=aa hK;have cb:=(Foot.af.off a7 h2 (c1.out _ _ _ a7 (by simp))).Ri 0;have c2:=b0.ja.head.Ri 2;have d5:=aa (Foot.af.off A h2 (c1.out _ _ _ A (by simp)));obtain⟨W2,p3,g2,b1⟩:=b0.sm.own.drop (t:=131) (int_keyed Uc) Vc g6 0;have b8:=aa (show an [mb] W W2 from⟨b1.grown.os,b1.grown.tape,b1.grown.output,b1.grown.size,λk d hF=>b1.grown.block k d (λe=>hF (by cases e;exact Ua.2 rfl))⟩);have l7:=aa (show W2.ownsMap Zc 3 (kg Em) mb E.length (sD (del f E)) by
   rw[show (sD E).del (Lit.int .i64 f)=sD (del f E) from vp cB f E]at g2;exact g2)
  have a:=aa (Foot.af.off d5 b8 (λe=>dD b0.sm.own d5 (Ua.1 e).symm));have cr:=a.Ri 0;have fr:=a.frozen 0;clear h1 h2 h3 h4 hK g2 b1;gi_wp2_with fail;have j7:D∉[mb]:=λe=>by
   have h1:=e8.out;obtain⟨es,f4,h2,_⟩:=b0.sm.own;rw[Ua.1 e,h2]at h1;cases h1
  have f5:W2.heap[D]? = Z (.deferred (Z [])):=(b8.block D (qb.1 e8).1 j7).trans e8;have r:an [s+1] W2 (W2.setCell ⟨s+1,0,Y⟩ .nilIface):=(an.refl _ _).set (Ua.2 rfl) _ _;have hrs:=a.set 0 .nilIface;have i6:D∉[s+1]:=λe=>by
   have h1:=a.out;unfold af at h1;rw[<-Ua.1 e,f5]at h1;cases h1
  have f6:=(r.block D (qb.1 f5).1 i6).trans f5;generalize W2.setCell ⟨s+1,0,Y⟩ .nilIface=W3 at *;have M:an [D] W3 (W3.putObj D (.deferred Y)):=cu (Xc W3 D _);have m9:s+1∉[D]:=λe=>i6 (Ua.2 (Ua.1 e).symm)
  refine⟨by simp,.inl ⟨_,_,rfl,Wc f6,?_⟩⟩;refine⟨_,fF rfl _ _ ⟨s+1,0,Y⟩ .nilIface rfl (lH ((Foot.af.off hrs M m9).Ri 0)),.nilIface,rfl,by rw[b5.out];exact eb ⟨rfl,rfl⟩,?_⟩;rw[b5.out];have nc:∀{W':World} {k:Nat} {t:TypeId} {H:Array C},W'.heap[D]? = Z (.deferred (Z []))->af W' k t H->k∉[D]:=λhd g e=>by
   unfold af at g;rw[Ua.1 e,hd]at g;cases g
  have k8:=f3.out;have c4:=b0.less b8 l7;have d8:PD W2 i (bh S l.reverse).1 m B q:=cm c9 b8 λk d e=>by
   obtain⟨t,H,g⟩:=fx c9 d;exact dD b0.sm.own g (Ua.1 e).symm
  have d7:∀k∈Jr.kf R i mb (del f E) ov m q,k∉[s+1]:=λk d e=>by
   rw[Ua]at e;subst e;rcases Wa.1 d with e|e
   .exact dD c4.sm.own a e.symm
   rcases Xa.1 e with e|e
   .obtain⟨H,g⟩:=c4.sm.il e;exact Ty g a rfl
   rcases Wa.1 e with e|e
   .exact Ty c4.ja.head a e.symm
   rcases Xa.1 e with e|e
   .obtain⟨H,g⟩:=au c4.ja.aN e;exact Ty g a rfl
   exact PD.not d8 a (by decide) (by decide) (by decide) e
  have g0:=c4.off (ba:=m) (bs:=q) r d7;have d9:=cm d8 r λk d=>d7 k (gq d)
  have c5:∀k∈Jr.kf R i mb (del f E) ov m q,k∉[D]:=λk d=>by
   rcases Wa.1 d with e|e
   .intro e2;rw[Ua.1 e2]at e;exact j7 (Ua.2 e)
   rcases Xa.1 e with e|e
   .obtain⟨H,g⟩:=g0.sm.il e;exact nc f6 g
   obtain⟨t,H,g⟩:=iS g0.ja d9 e;exact nc f6 g
  have a1:an (kf R i mb E ov ba bs) w w2:=d4.mono λk _ d=>dy d
  have a2:=a1.trans (an.ag e5);have fp:∀b∈pf i ba bs,b∈kf R i mb E ov ba bs\/w.heap.size<=b:=λb j=>(b4.out b (Va _ (Vb _ j))).imp dy id
  have a3:=aP a2 fp b6;have a4:=aP a3 (λb j=>eb (Ua.1 j▸Ya ..)) b8;have a5:=aP a4 (λb j=>Ub (by rw[Ua.1 j];omega)) r;refine⟨⟨del f E,ov,m,B,q,g0.off (ba:=m) (bs:=q) M c5,cm d9 M λk d=>c5 k (gq d),λb j=>?_⟩,aP a5 (λb j=>Ub (by rw[Ua.1 j];have:=a2.size;omega)) M⟩;rcases Wa.1 j with e|e
  .exact eb (e▸Ya ..)
  rcases Xa.1 e with e|e
  .exact eb (Va _ (Za _ (uT e)))
  rcases Wa.1 e with e|e
  .exact eb (e▸dy (Ya ..))
  rcases Xa.1 e with e|e
  .exact(b4.out b (Va _ (Za _ e))).imp dy id
  exact(e7.out b e).elim (fp b) λh=>Ub (Xb a2.size h)
 case hstop=>
  intro D c V W hD m2 hO hK;obtain⟨rfl,⟨v,e1,e2,e3⟩,ho,m,B,q,h3,h4⟩:=hO;obtain⟨o8,m8⟩:=m2;have b5:=aa (show aO J S f=(J,(bh S (cI V)).1,(bh S (cI V)).2) by
   have e4:bh S l.reverse=bh S (cI V):=by rw[<-m8,iy,if_pos e3]
   rw[HE.out];unfold fY;rw[HL.out,e4,if_pos e3])
  gi_wp2_with fail;have M:an [D] W (W.putObj D (.deferred Y)):=cu (Xc W D _);have o6:s+1<w3.heap.size:=A.lt;have m1:(W.putObj D (.deferred Y)).heap[s+1]? = W.heap[s+1]? :=Yb (by omega);have f8:(W.putObj D (.deferred Y)).cell? ⟨s+1,0,Y⟩=Z v:=by
   unfold World.cell? at e1 ⊢;simp only at e1 ⊢;rw[m1];exact e1
  refine⟨by simp,.inl ⟨_,_,rfl,Wc hK,?_⟩⟩;refine⟨_,fF rfl _ _ ⟨s+1,0,Y⟩ v rfl (lH f8),v,rfl,?_,?_⟩
  .rw[b5.out];rcases e2 with e2|⟨n1,b,y,n2,n3⟩
   .exact eb e2
   exact Ub ⟨n1,b,y,n2,Foot.af.off n3 M λe=>by
    unfold af at n3;rw[Ua.1 e,hK]at n3;cases n3⟩
  rw[b5.out];have k8:=f3.out;have hj:=f2.QE b9 A ho;have c5:∀k∈Jr.kf R i mb E ov m q,k∉[D]:=λk d e2=>by
   rw[Ua.1 e2]at d;rcases Wa.1 d with e|e
   .obtain⟨es,f4,h2,_⟩:=hj.sm.own;rw[<-e,hK]at h2;cases h2
   rcases Xa.1 e with e|e
   .obtain⟨H,g⟩:=hj.sm.il e;unfold af at g;rw[hK]at g;cases g
   obtain⟨t,H,g⟩:=iS hj.ja h3 e;unfold af at g;rw[hK]at g;cases g
  have a1:an (kf R i mb E ov ba bs) w w2:=d4.mono λk _ d=>dy d
  have a2:=a1.trans (an.ag e5);have fp:∀b∈pf i ba bs,b∈kf R i mb E ov ba bs\/w.heap.size<=b:=λb j=>(b4.out b (Va _ (Vb _ j))).imp dy id
  have a3:=aP a2 (G:=(s+1) ::pf i ba bs) (λb j=>(Wa.1 j).elim (λe=>Ub (by omega)) (fp b)) ho;refine⟨⟨E,ov,m,B,q,hj.off (ba:=m) (bs:=q) M c5,cm h3 M λk d=>c5 k (gq d),λb j=>?_⟩,aP a3 (λb j=>Ub (by rw[Ua.1 j];have:=a2.size;omega)) M⟩;rcases Wa.1 j with e|e
  .exact eb (e▸Ya ..)
  rcases Xa.1 e with e|e
  .exact eb (Va _ (Za _ e))
  rcases Wa.1 e with e|e
  .exact eb (e▸dy (Ya ..))
  rcases Xa.1 e with e|e
  .exact(b4.out b (Va _ (Za _ e))).imp dy id
  exact(h4 b e).elim (fp b) λh=>Ub (Xb a2.size h)
end Go.Proofs.YtpndiccohnafbaaGreatDoor.Jr
