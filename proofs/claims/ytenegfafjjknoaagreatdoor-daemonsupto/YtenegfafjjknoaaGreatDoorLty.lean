/- The law of daemons: Due is as the document says. -/
import Derived.Test.YtenegfafjjknoaaGreatDoorLo
set_option maxHeartbeats 100000000
open List renaming mem_singleton → uA, mem_append → uC, mem_cons → uE
open Nat renaming le_refl → uB, le_trans → uD
namespace Go.Proofs.YtenegfafjjknoaaGreatDoor.Lw
open Go.RowKit Go.Maps Mem Foot Bytes Im Wm Hi Plainw Cq Dm Dh Jr Wi Sk Hn Kr Dd
theorem row_ge {w:World}{base size n:Nat}{e:TypeId}{v:Value}{xs:List Value}(h:w.ownsRow base e size v n xs){k:Nat}(hk:k∈v.ownBlock.toList):base≤k:=by
 rcases h.2 with ⟨rfl,_⟩|⟨g,cap,cur,rfl,hb,_⟩
 ·simp[Value.ownBlock]at hk
 ·simp[Value.ownBlock]at hk
  omega
set_option maxRecDepth 10000 in
theorem duesL {w:World}{r:Nat}{R:Rn}{D:Dn}{p:Rp}{n:Nat}(h:RA w r R D p)(hr:Rel R D n)(hn:n≤9000000)(hls:p.ls.length≤100000000):
  Calls Tryz.prog 69 #[.pointer (some ⟨r,0,none⟩)] w fun e w'=>e=.returned (.tuple #[])∧Rq w w' r n p D:=by
 have hdl:D.due.length≤n:=hr.ok.dues;have hdu:=dueD w p.X D p.q h.da (by omega);have hh:=h.head;unfold rcs at hh;have c6:=hh.cell 6 _ rfl;obtain⟨da,dc,hde⟩:=own_shapeJ h.rows.wd.due;have HDE:=hide hde;have HR:=hide h;have HREL:=hide hr;clear h hr hh hde;go_enter Tryz.func69,Tryz.ntmps69
 go_wp2_with fail
 refine hdu.mono ?_;clear hdu c6;rintro e w1 ⟨v,rfl,ho,hb⟩;have HO:=hide ho;have HB:=hide hb;have HR1:=hide (HR.out.keep hb);have hh1:=HR1.out.head;unfold rcs at hh1;have c9:w1.cell? ⟨r,9,none⟩=some (.slice da R.W.due.length dc):=HDE.out▸hh1.cell 9 _ rfl;have hsm:=same _ _ v (.slice da R.W.due.length dc) D.due w1 ho (by
  have h1:=HR1.out.rows.wd.due;rw[HDE.out,HREL.out.due]at h1;rw[HREL.out.due];exact h1) (by omega)
 clear ho hb hh1;obtain⟨va,vc,rfl⟩:=own_shapeJ HO.out;go_wp2_with fail
 refine hsm.mono ?_;clear hsm;rintro e w2 ⟨rfl,q,rfl⟩;have HB2:=hide (show Below w.heap.size w (w1.drewN q) from below_drewN' HB.out);have HO2:=hide (show (w1.drewN q).ownsRow w.heap.size 117 2 (.slice va D.due.length vc) D.due.length (mcells D.due) from HO.out);clear c9 HB HO HR1;generalize w1.drewN q=w2 at *;go_wp2_with fail
 refine(mustT r _).mono ?_;rintro e w3 ⟨rfl,hw3⟩;subst hw3;have hnew:∀k∈(Value.slice va D.due.length vc).ownBlock.toList,w.heap.size≤k:=fun k hk=>row_ge HO2.out hk
 have htl:=toldL (HR.out.keep HB2.out) HREL.out hn (Apn.weaken HO2.out) (fun k hk e=>by
  have h1:=hnew k hk;have h2:=HR.out.lt k e;omega) hls
 have HNW:=hide hnew;clear hnew;go_wp2_with fail
 refine htl.mono ?_;clear htl;rintro e w4 ⟨rfl,R',p',f1,f2,f3,f4,f5⟩;have hz:=HB2.out.size;have HF:=hide (show RA w4 r R' D p'∧Rel R' D n∧p'.ls.length≤p.ls.length+1∧(∀k∈rf r p',k∈rf r p∨w.heap.size≤k)∧Off (rf r p) w w4 from⟨f1,f2,Nat.le_of_eq f3,fun k hk=>by
  rcases f4 k hk with h|h|h
  ·exact Or.inl h
  ·exact Or.inr (HNW.out k h)
  ·exact Or.inr (uD hz h),off_trans (Off.of_below HB2.out) (fun k hk=>by
  rcases uC.1 hk with h|h
  ·exact Or.inl h
  ·exact Or.inr (HNW.out k h)) f5⟩)
 clear f1 f2 f3 f4 f5 hz;go_wp2_with fail
 go_end0
 exact⟨rfl,R',p',HF.out⟩
theorem Rq.mono {w w':World}{r n m:Nat}{p:Rp}{D':Dn}(h:Rq w w' r n p D')(hm:n≤m):Rq w w' r m p D':=by
 obtain⟨R',p',h1,h2,h3⟩:=h;exact⟨R',p',h1,h2.mono hm,h3⟩
theorem Rq.from {w w1 w':World}{r n:Nat}{p:Rp}{D':Dn}(h:Rq w1 w' r n p D')(hb:Below w.heap.size w w1):Rq w w' r n p D':=by
 obtain⟨R',p',h1,h2,h3,h4,h5⟩:=h;have:=hb.size;exact⟨R',p',h1,h2,h3,fun k hk=>(h4 k hk).imp id fun h=>by omega,(Off.of_below hb).trans h5⟩
noncomputable def dact (D:Dn)(a1 a2:Int)(s:ByteArray):Dn:=
 if a1=1 then (if 256<s.size then D else dpacket D s)
 else if a1=2 then (if a2≤D.clock∨1000000000<a2 then D else dclock D a2)
 else if a1=3 then dsync D
 else if a1=4 then (if a2∈D.due.map (·.k) then dack D a2 else D)
 else D
set_option maxRecDepth 10000 in
theorem actL (w0 w:World)(hT:Tab w0)(h0:Below w0.heap.size w0 w)(r:Nat)(R:Rn)(D:Dn)(p:Rp)(n:Nat)(h:RA w r R D p)(hr:Rel R D n)(hfar:∀b∈rf r p,w0.heap.size≤b)(hn:n≤8000000)(hls:p.ls.length≤100000000)(a0 a1 a2 a3:Int)(s:ByteArray)(hss:s.size≤1000000000)(hw0:-9223372036854775808≤a2)(hw1:a2≤9223372036854775807)(D9:Dn)(h9:D9=dact D a1 a2 s):
  Calls Tryz.prog 33 #[.pointer (some ⟨r,0,none⟩),.agg #[.int .i64 a0,.int .i64 a1,.int .i64 a2,.int .i64 a3,.string s]] w fun e w'=>e=.returned (.tuple #[])∧Rq w w' r (n+s.size+2) p D9:=by
 have hs1:=Sits.new w 72 #[.int .i64 a0,.int .i64 a1,.int .i64 a2,.int .i64 a3,.string s];have hb1:=below_new (w:=w) (.cells #[.int .i64 a0,.int .i64 a1,.int .i64 a2,.int .i64 a3,.string s] 72);have HR1:=hide (h.keep hb1);have HREL:=hide hr;have HB0:=hide (h0.trans (hb1.mono h0.size));have hh:=(h.keep hb1).head;unfold rcs at hh;have c17:=hh.cell 17 _ rfl;have x0:=hs1.cell 0 _ rfl;have x1:=hs1.cell 1 _ rfl;have x2:=hs1.cell 2 _ rfl;have x3:=hs1.cell 3 _ rfl;have x4:=hs1.cell 4 _ rfl;have HFR:=hide (fun (w':World) (hq:Rq (w.alloc (.cells #[.int .i64 a0,.int .i64 a1,.int .i64 a2,.int .i64 a3,.string s] 72)) w' r (n+s.size+2) p D9)=>hq.from hb1);have H9:=hide h9;clear hs1 hb1 h hr h0 hh h9;go_enter Tryz.func33,Tryz.ntmps33
 go_upto_region 2 with fail
 generalize w.alloc (.cells #[.int .i64 a0,.int .i64 a1,.int .i64 a2,.int .i64 a3,.string s] 72)=w1 at *;generalize w.heap.size=ab at *;by_cases k1:a1<1
 ·go_wp2_with fail
  go_end0
  have h9:D9=D:=by
   rw[H9.out];unfold dact;rw[if_neg (by omega),if_neg (by omega),if_neg (by omega),if_neg (by omega)]
  rw[h9]at HFR ⊢;exact⟨rfl,HFR.out _ ((Rq.of HR1.out HREL.out (Below.refl _ _)).mono (by omega))⟩
 ·by_cases k6:6<a1
  ·go_wp2_with fail
   go_end0
   have h9:D9=D:=by
    rw[H9.out];unfold dact;rw[if_neg (by omega),if_neg (by omega),if_neg (by omega),if_neg (by omega)]
   rw[h9]at HFR ⊢;exact⟨rfl,HFR.out _ ((Rq.of HR1.out HREL.out (Below.refl _ _)).mono (by omega))⟩
  ·have hk:a1=1∨a1=2∨a1=3∨a1=4∨a1=5∨a1=6:=by omega
   clear k1 k6;rcases hk with rfl|rfl|rfl|rfl|rfl|rfl
   ·go_wp2_with fail
    refine(packetL w0 w1 hT HB0.out r R D p n HR1.out HREL.out hfar hn a0 _ a2 a3 s hss D9 (by rw[H9.out];unfold dact;rw[if_pos rfl])).mono ?_;rintro e w2 ⟨rfl,h2⟩;have H2:=hide (HFR.out _ h2);clear h2;go_wp2_with fail
    go_end0
    exact⟨rfl,H2.out⟩
   ·go_wp2_with fail
    refine(clockL w0 w1 hT HB0.out r R D p n HR1.out HREL.out hfar hn a0 _ a2 a3 s D9 (by rw[H9.out,HREL.out.now];unfold dact;rw[if_neg (by decide),if_pos rfl])).mono ?_;rintro e w2 ⟨rfl,h2⟩;have H2:=hide (HFR.out _ (h2.mono (by omega)));clear h2;go_wp2_with fail
    go_end0
    exact⟨rfl,H2.out⟩
   ·have h9:D9=dsync D:=by
     rw[H9.out];unfold dact;rw[if_neg (by decide),if_neg (by decide),if_pos rfl]
    clear H9;have H9:=hide h9;clear h9;go_wp2_with fail
    refine(syncL w0 w1 hT HB0.out r R D p n HR1.out HREL.out hfar hn a0 _ a2 a3 s D9 H9.out).mono ?_;rintro e w2 ⟨rfl,h2⟩;have H2:=hide (HFR.out _ (h2.mono (by omega)));clear h2;go_wp2_with fail
    go_end0
    exact⟨rfl,H2.out⟩
   ·go_wp2_with fail
    refine(ackL w0 w1 hT HB0.out r R D p n HR1.out HREL.out hfar hn a0 _ a2 a3 s hw0 hw1 D9 (by rw[H9.out,HREL.out.due];unfold dact;rw[if_neg (by decide),if_neg (by decide),if_neg (by decide),if_pos rfl])).mono ?_;rintro e w2 ⟨rfl,h2⟩;have H2:=hide (HFR.out _ (h2.mono (by omega)));clear h2;go_wp2_with fail
    go_end0
    exact⟨rfl,H2.out⟩
   ·have h9:D9=D:=by
     rw[H9.out];unfold dact;rw[if_neg (by decide),if_neg (by decide),if_neg (by decide),if_neg (by decide)]
    clear H9;have H9:=hide h9;clear h9;go_wp2_with fail
    refine(duesL HR1.out HREL.out (by omega) hls).mono ?_;rintro e w2 ⟨rfl,h2⟩;have H2:=hide (HFR.out _ (by rw[H9.out];exact h2.mono (by omega)));clear h2;go_wp2_with fail
    go_end0
    exact⟨rfl,H2.out⟩
   ·have h9:D9=D:=by
     rw[H9.out];unfold dact;rw[if_neg (by decide),if_neg (by decide),if_neg (by decide),if_neg (by decide)]
    clear H9;have H9:=hide h9;clear h9;go_wp2_with fail
    refine(openedL HR1.out HREL.out (by omega) (hT.below HB0.out)).mono ?_;rintro e w2 ⟨rfl,h2⟩;have H2:=hide (HFR.out _ (by rw[H9.out];exact(Rq.of HR1.out HREL.out h2).mono (by omega)));clear h2;go_wp2_with fail
    go_end0
    exact⟨rfl,H2.out⟩
end Go.Proofs.YtenegfafjjknoaaGreatDoor.Lw
namespace Go.Proofs.YtenegfafjjknoaaGreatDoor.Dd
open Go.RowKit Go.Maps Mem Foot Bytes Im Wm Hi Plainw Cq Dm Dh Jr Wi Sk Hn Kr
def D0 (c:Fin 6→Int)(S:Dk):Dn:=⟨c,J0 (c 5),S,0,0,0,win0,[],false⟩
theorem made_due (w:World):(w.alloc (.map #[] 0)).ownsMap Tryz.prog 3 (exE okM) w.heap.size 0 (Sk.D []):=World.ownsMap_made w Tryz.prog 3 (exE okM)
set_option maxRecDepth 10000 in
theorem summed0 (c:Fin 6→Int)(hc:COk c)(w:World):
  Calls Tryz.prog 41 #[cfg c,.slice none 0 0] w fun e w'=>∃p:WI,e=.returned (.pointer (some ⟨p.P,0,none⟩))∧WiAt w' p (limOf c) 0 0 []∧(∀x∈wfoot p [],w.heap.size≤x)∧Below w.heap.size w w':=by
 have hN:=Sits.new w 31 #[.int .i64 (c 0),.int .i64 (c 1),.int .i64 (c 2),.int .i64 (c 3),.int .i64 (c 4),.int .i64 (c 5)];have HB1:=hide (below_new (w:=w) (.cells #[.int .i64 (c 0),.int .i64 (c 1),.int .i64 (c 2),.int .i64 (c 3),.int .i64 (c 4),.int .i64 (c 5)] 31));have HNW:=hide (fun w=>newW c hc w);clear hc;unfold cfg at HNW ⊢;go_enter Tryz.func41,Tryz.ntmps41
 obtain⟨c0,c1,c2,c3,c4,c5⟩:=cells6 hN;clear hN;go_wp2_with fail
 generalize w.alloc (.cells #[.int .i64 (c 0),.int .i64 (c 1),.int .i64 (c 2),.int .i64 (c 3),.int .i64 (c 4),.int .i64 (c 5)] 31)=w1 at *;refine(HNW.out w1).mono ?_;rintro e w2 ⟨p,rfl,hpc,hwi,hfr,hb⟩;have HWI:=hide hwi;have HFR:=hide (show ∀x∈wfoot p [],w.heap.size≤x from fun x hx=>uD HB1.out.size (hfr x hx));have HB2:=hide (HB1.out.trans (hb.mono HB1.out.size));clear hpc hwi hfr hb c0 c1 c2 c3 c4 c5;go_wp2_with fail
 go_loopw [12] (fun s wr=>s=.int .i64 0∧wr=w2) (fun _ _=>0)
 case atStart=>exact⟨rfl,rfl⟩
 case round=>
  obtain⟨rfl,rfl⟩:=hrel;go_wp2_with fail
  go_ret
  exact⟨p,rfl,HWI.out,HFR.out,HB2.out⟩
set_option maxRecDepth 20000 in
theorem startD (c:Fin 6→Int)(hc:COk c)(bx ba cap:Nat)(bs:List Nat)(S:Dk)(w:World)(hP:PD w bx S ba cap bs)(hl:S.left = -1)(hs:S.segs=[]):
  Calls Tryz.prog 109 #[cfg c,.pointer (some ⟨bx,0,none⟩)] w fun e w'=>∃X q,e=.returned (.tuple #[.pointer (some ⟨X,0,none⟩),.int .i64 0])∧DA w' X (D0 c S) q∧q.bx=bx∧(∀b∈df X q,b∈pf bx ba bs∨w.heap.size≤b)∧Below w.heap.size w w':=by
 have hN:=Sits.new w 31 #[.int .i64 (c 0),.int .i64 (c 1),.int .i64 (c 2),.int .i64 (c 3),.int .i64 (c 4),.int .i64 (c 5)];have HB1:=hide (below_new (w:=w) (.cells #[.int .i64 (c 0),.int .i64 (c 1),.int .i64 (c 2),.int .i64 (c 3),.int .i64 (c 4),.int .i64 (c 5)] 31));have HCK:=hide (fun w=>by
  have h:=Check.check (c 0) (c 1) (c 2) (c 3) (c 4) (c 5) w;rw[if_pos (good_of hc)]at h;exact h)
 have HC:=hide hc;have HP:=hide hP;have HL:=hide hl;have HS:=hide hs;clear hc hP hl hs;unfold cfg;go_enter Tryz.func109,Tryz.ntmps109
 go_wp2_with fail
 generalize w.alloc (.cells #[.int .i64 (c 0),.int .i64 (c 1),.int .i64 (c 2),.int .i64 (c 3),.int .i64 (c 4),.int .i64 (c 5)] 31)=w1 at *;obtain⟨B,hBe⟩:∃B,w.heap.size=B:=⟨_,rfl⟩;rw[hBe]at hN HB1;rw[hBe];have HBE:=hide hBe;clear hBe;have HN:=hide hN;obtain⟨c0,c1,c2,c3,c4,c5⟩:=cells6 hN;clear hN;go_wp2_with fail
 refine(HCK.out w1).mono ?_;rintro e w2 ⟨rfl,hb2⟩;have hN2:=HN.out.below hb2 HN.out.lt;have HB2:=hide (show Below B w w2 from HB1.out.trans (hb2.mono (Nat.le_of_lt HN.out.lt)));have HN2:=hide hN2;clear c0 c1 c2 c3 c4 c5 hb2;obtain⟨c0,c1,c2,c3,c4,c5⟩:=cells6 hN2;clear hN2;have hop:=open0 bx ba cap bs S w2 (HP.out.keep (by rw[HBE.out];exact HB2.out)) HL.out HS.out (c 5);go_wp2_with fail
 refine hop.mono ?_;clear hop c0 c1 c2 c3 c4 c5;rintro e w3 ⟨jb,mb,rfl,hjw,hlj,hlm,hb3⟩;have hz2:B<w2.heap.size:=HN2.out.lt;have HB3:=hide (show Below B w w3 from HB2.out.trans (hb3.mono (Nat.le_of_lt hz2)));have HJ3:=hide hjw;have HN3:=hide (HN2.out.below hb3 HN2.out.lt);have hz3:=hb3.size;have hb4:=below_new (w:=w3) (.cells found0 222);have HF4:=hide (Sits.new w3 222 found0);have HN4:=hide (HN3.out.below hb4 HN3.out.lt);have HJ4:=hide (hjw.keep hb4);have HB4:=hide (HB3.out.trans (hb4.mono (by omega)));have HZ4:=hide (show (w3.alloc (.cells found0 222)).heap.size=w3.heap.size+1 by simp);clear hjw hb3 hb4;unfold found0 at *;have hmm:=@run_makeMap Tryz.prog;obtain⟨c0,c1,c2,c3,c4,c5⟩:=cells6 HN4.out;obtain⟨d0,d1,d2,d3,d4,d5⟩:=cells6 (HN4.out.alloc (.map #[] 0));have f0:=((HF4.out.alloc (.map #[] 0)).alloc (.cells #[.int .i64 (c 0),.int .i64 (c 1),.int .i64 (c 2),.int .i64 (c 3),.int .i64 (c 4),.int .i64 (c 5),.pointer (some ⟨jb,0,none⟩),.int .i64 0,.int .i64 0,.int .i64 0,.pointer none,.map (some (w3.heap.size+1)),.bool false] 164)).cell 0 _ rfl;go_wp2_with fail
 clear c0 c1 c2 c3 c4 c5 d0 d1 d2 d3 d4 d5 f0 hmm;have hX5:=Sits.new ((w3.alloc (.cells #[.slice none 0 0,.int .i64 0,.slice none 0 0,.slice none 0 0] 222)).alloc (.map #[] 0)) 164 #[.int .i64 (c 0),.int .i64 (c 1),.int .i64 (c 2),.int .i64 (c 3),.int .i64 (c 4),.int .i64 (c 5),.pointer (some ⟨jb,0,none⟩),.int .i64 0,.int .i64 0,.int .i64 0,.pointer none,.map (some (w3.heap.size+1)),.bool false];rw[World.size_alloc,World.size_alloc]at hX5;have HX5:=hide hX5;have hb5:Below (w3.alloc (.cells #[.slice none 0 0,.int .i64 0,.slice none 0 0,.slice none 0 0] 222)).heap.size (w3.alloc (.cells #[.slice none 0 0,.int .i64 0,.slice none 0 0,.slice none 0 0] 222)) (((w3.alloc (.cells #[.slice none 0 0,.int .i64 0,.slice none 0 0,.slice none 0 0] 222)).alloc (.map #[] 0)).alloc (.cells #[.int .i64 (c 0),.int .i64 (c 1),.int .i64 (c 2),.int .i64 (c 3),.int .i64 (c 4),.int .i64 (c 5),.pointer (some ⟨jb,0,none⟩),.int .i64 0,.int .i64 0,.int .i64 0,.pointer none,.map (some (w3.heap.size+1)),.bool false] 164)):=(below_new _).alloc (by simp) _;have hm5:=own_at (w':=((w3.alloc (.cells #[.slice none 0 0,.int .i64 0,.slice none 0 0,.slice none 0 0] 222)).alloc (.map #[] 0)).alloc (.cells #[.int .i64 (c 0),.int .i64 (c 1),.int .i64 (c 2),.int .i64 (c 3),.int .i64 (c 4),.int .i64 (c 5),.pointer (some ⟨jb,0,none⟩),.int .i64 0,.int .i64 0,.int .i64 0,.pointer none,.map (some (w3.heap.size+1)),.bool false] 164)) (made_due (w3.alloc (.cells #[.slice none 0 0,.int .i64 0,.slice none 0 0,.slice none 0 0] 222))) (Below.heap_alloc _ _ _ (by simp));rw[World.size_alloc]at hm5;have HM5:=hide hm5;have HF5:=hide (Mem.Sits.below HF4.out hb5 HF4.out.lt);have HN5:=hide (Mem.Sits.below HN4.out hb5 HN4.out.lt);have HJ5:=hide (HJ4.out.keep hb5);have HB5:=hide (HB4.out.trans (hb5.mono (by have:=HZ4.out;omega)));have HZ5:=hide (show (((w3.alloc (.cells #[.slice none 0 0,.int .i64 0,.slice none 0 0,.slice none 0 0] 222)).alloc (.map #[] 0)).alloc (.cells #[.int .i64 (c 0),.int .i64 (c 1),.int .i64 (c 2),.int .i64 (c 3),.int .i64 (c 4),.int .i64 (c 5),.pointer (some ⟨jb,0,none⟩),.int .i64 0,.int .i64 0,.int .i64 0,.pointer none,.map (some (w3.heap.size+1)),.bool false] 164)).heap.size=w3.heap.size+3 by simp);clear hX5 hb5 hm5 HF4 HN4 HJ4 HB4 HZ4;generalize ((w3.alloc (.cells #[.slice none 0 0,.int .i64 0,.slice none 0 0,.slice none 0 0] 222)).alloc (.map #[] 0)).alloc (.cells #[.int .i64 (c 0),.int .i64 (c 1),.int .i64 (c 2),.int .i64 (c 3),.int .i64 (c 4),.int .i64 (c 5),.pointer (some ⟨jb,0,none⟩),.int .i64 0,.int .i64 0,.int .i64 0,.pointer none,.map (some (w3.heap.size+1)),.bool false] 164)=w5 at *;obtain⟨fb,hfb⟩:∃fb,w3.heap.size=fb:=⟨_,rfl⟩;rw[hfb]at HX5 HM5 HF5 HZ5 hz3;rw[hfb];have HFB:=hide hfb;clear hfb;have HS0:=hide (fun w=>summed0 c HC.out w);unfold cfg at HS0;go_loopw [36] (fun s wr=>s=.int .i64 0∧wr=w5) (fun _ _=>0)
 case atStart=>exact⟨rfl,rfl⟩
 case round=>
  obtain⟨rfl,hwr⟩:=hrel;subst hwr;obtain⟨c0,c1,c2,c3,c4,c5⟩:=cells6 HN5.out;have f1:=HF5.out.cell 1 _ rfl;have f2:=HF5.out.cell 2 _ rfl;have FIN:=hide (show ∀(w6:World) (p:WI),WiAt w6 p (limOf c) 0 0 []→(∀x∈wfoot p [],wr.heap.size≤x)→Below wr.heap.size wr w6→
    ∃X q,Ending.returned (.tuple #[.pointer (some ⟨fb+1+1,0,none⟩),.int .i64 0])=.returned (.tuple #[.pointer (some ⟨X,0,none⟩),.int .i64 0])∧DA (((w6.setCell ⟨fb+1+1,8,none⟩ (.int .i64 0)).setCell ⟨fb+1+1,9,none⟩ (.int .i64 0)).setCell ⟨fb+1+1,10,none⟩ (.pointer (some ⟨p.P,0,none⟩))) X (D0 c S) q∧q.bx=bx∧(∀b∈df X q,b∈pf bx ba bs∨w.heap.size≤b)∧Below w.heap.size w (((w6.setCell ⟨fb+1+1,8,none⟩ (.int .i64 0)).setCell ⟨fb+1+1,9,none⟩ (.int .i64 0)).setCell ⟨fb+1+1,10,none⟩ (.pointer (some ⟨p.P,0,none⟩))) from fun w6 p hwi hfr hb6=>by
   have hbe:=HBE.out;have hz5:=HZ5.out;have hP5:PD wr bx S ba cap bs:=HP.out.keep (by rw[hbe];exact HB5.out);have hpl:∀b∈pf bx ba bs,b<B:=fun b hb=>by
    obtain⟨t,cs,hs⟩:=pd_cells HP.out hb;have:=hs.lt;omega
   have hjl:=HJ3.out.ja.head.lt;have hml:=HJ3.out.sm.own.lt;have hfb:=HFB.out;have hx6:=Mem.Sits.below HX5.out hb6 HX5.out.lt;have hkf:∀k∈Jr.kf jb bx mb [] (.slice none 0 0) ba bs,k<fb∧(k∈pf bx ba bs∨B≤k):=fun k hk=>by
    rcases uE.1 hk with e|e
    ·exact⟨by omega,Or.inr (by omega)⟩
    ·rcases uC.1 e with e|e
     ·cases e
     ·rcases uE.1 e with e|e
      ·exact⟨by omega,Or.inr (by omega)⟩
      ·rcases uC.1 e with e|e
       ·simp[Value.ownBlock]at e
       ·have:=hpl k e;exact⟨by omega,Or.inl e⟩
   have ho:Off [fb+1+1] w6 (((w6.setCell ⟨fb+1+1,8,none⟩ (.int .i64 0)).setCell ⟨fb+1+1,9,none⟩ (.int .i64 0)).setCell ⟨fb+1+1,10,none⟩ (.pointer (some ⟨p.P,0,none⟩))):=(((Off.refl _ _).set (uA.2 rfl) _ _).set (uA.2 rfl) _ _).set (uA.2 rfl) _ _;have hX7:=((hx6.set 8 (.int .i64 0)).set 9 (.int .i64 0)).set 10 (.pointer (some ⟨p.P,0,none⟩));have hB6:Below B w w6:=HB5.out.trans (hb6.mono (by omega));refine⟨fb+1+1,⟨jb,bx,mb,[],.slice none 0 0,ba,cap,bs,p,0,0,[],fb+1⟩,rfl,⟨hX7,(HJ5.out.keep hb6).off (ba:=ba) (bs:=bs) ho (fun k hk e=>?_),pd_off (hP5.keep hb6) ho (fun k hk e=>?_),hwi.off ho (fun k hk e=>?_),(rfl:winOf 0 0 []=win0),⟨0,map_off (map_off HM5.out (Off.of_below (F:=[]) hb6) (by simp)) ho (by simp)⟩,List.Pairwise.nil,fun k hk hw=>?_,⟨fun hm=>?_,fun hm=>?_,by simp⟩,⟨fun hm=>?_,fun hm=>?_⟩⟩,rfl,fun b hb=>?_,?_⟩
   ·have:=(hkf k hk).1;rw[uA]at e;omega
   ·have:=hpl k hk;rw[uA]at e;omega
   ·have:=hfr k hk;rw[uA]at e;omega
   ·have:=(hkf k hk).1;have:=hfr k hw;omega
   ·have:=(hkf _ hm).1;omega
   ·have:=hfr _ hm;omega
   ·have h1:fb+1<fb:=(hkf _ hm).1;omega
   ·have h1:wr.heap.size≤fb+1:=hfr _ hm;omega
   ·rcases uE.1 hb with e|e
    ·exact Or.inr (by omega)
    ·rcases uE.1 e with e|e
     ·have e':b=fb+1:=e;exact Or.inr (by omega)
     ·rcases uC.1 e with e|e
      ·exact(hkf b e).2.imp id (by omega)
      ·have:=hfr b e;exact Or.inr (by omega)
   ·rw[hbe];exact hB6.trans (ho.below (fun b hb=>by rw[uA.1 hb];omega) (by rw[←hbe];exact hB6.size)))
  have G1:=hide (show ∀W,Below wr.heap.size wr W→W.cell? ⟨fb,1,none⟩=some (.int .i64 0) from fun W hW=>(Mem.Sits.below HF5.out hW HF5.out.lt).cell 1 _ rfl);have G2:=hide (show ∀W,Below wr.heap.size wr W→W.cell? ⟨fb,2,none⟩=some (.slice none 0 0) from fun W hW=>(Mem.Sits.below HF5.out hW HF5.out.lt).cell 2 _ rfl);have GC:=hide (fun W (hW:Below wr.heap.size wr W)=>cells6 (Mem.Sits.below HN5.out hW HN5.out.lt));go_wp2_with fail
  clear HCK HC HP HL HS HN HN2 HN3 HB1 HB2 HB3 HJ3 HJ5 HM5 HB5 HBE HFB HZ5 hz2 hz3 hlj hlm c0 c1 c2 c3 c4 c5 f1 f2;refine region_C (fun W=>Below wr.heap.size wr W) 14 (by kernel_rfl) (Below.refl _ _) (fun W h=>h.drew) ?_;intro wd hwd hheap;have HWR:=hide hwd;clear hwd hheap;refine take_C (i:=0) (v:=.pointer (some ⟨fb+1+1,0,none⟩)) rfl (by decide) (by kernel_rfl) (by kernel_rfl) (by kernel_rfl) (by kernel_rfl) (fun _ _ _ h=>h) (Or.inl ⟨by rfl,by intro W hW;have k1:=G1.out W hW;have k2:=G2.out W hW;obtain⟨b0,b1,b2,b3,b4,b5⟩:=GC.out W hW;go_simp⟩) HWR.out ?_;refine take_C (i:=1) (v:=.pointer (some ⟨fb,1,none⟩)) rfl (by decide) (by kernel_rfl) (by kernel_rfl) (by kernel_rfl) (by kernel_rfl) (fun _ _ _ h=>h) (Or.inl ⟨by rfl,by intro W hW;have k1:=G1.out W hW;have k2:=G2.out W hW;obtain⟨b0,b1,b2,b3,b4,b5⟩:=GC.out W hW;go_simp⟩) HWR.out ?_;refine take_C (i:=2) (v:=.pointer (some ⟨fb,1,none⟩)) rfl (by decide) (by kernel_rfl) (by kernel_rfl) (by kernel_rfl) (by kernel_rfl) (fun _ _ _ h=>h) (Or.inl ⟨by rfl,by intro W hW;have k1:=G1.out W hW;have k2:=G2.out W hW;obtain⟨b0,b1,b2,b3,b4,b5⟩:=GC.out W hW;go_simp⟩) HWR.out ?_;refine take_C (i:=3) (v:=.int .i64 0) rfl (by decide) (by kernel_rfl) (by kernel_rfl) (by kernel_rfl) (by kernel_rfl) (fun _ _ _ h=>h) (Or.inl ⟨by rfl,by intro W hW;have k1:=G1.out W hW;have k2:=G2.out W hW;obtain⟨b0,b1,b2,b3,b4,b5⟩:=GC.out W hW;go_simp⟩) HWR.out ?_;refine take_C (i:=4) (v:=.pointer (some ⟨fb,1,none⟩)) rfl (by decide) (by kernel_rfl) (by kernel_rfl) (by kernel_rfl) (by kernel_rfl) (fun _ _ _ h=>h) (Or.inl ⟨by rfl,by intro W hW;have k1:=G1.out W hW;have k2:=G2.out W hW;obtain⟨b0,b1,b2,b3,b4,b5⟩:=GC.out W hW;go_simp⟩) HWR.out ?_;refine take_C (i:=5) (v:=.pointer (some ⟨fb,2,none⟩)) rfl (by decide) (by kernel_rfl) (by kernel_rfl) (by kernel_rfl) (by kernel_rfl) (fun _ _ _ h=>h) (Or.inl ⟨by rfl,by intro W hW;have k1:=G1.out W hW;have k2:=G2.out W hW;obtain⟨b0,b1,b2,b3,b4,b5⟩:=GC.out W hW;go_simp⟩) HWR.out ?_;refine take_C (i:=6) (v:=.slice none 0 0) rfl (by decide) (by kernel_rfl) (by kernel_rfl) (by kernel_rfl) (by kernel_rfl) (fun _ _ _ h=>h) (Or.inl ⟨by rfl,by intro W hW;have k1:=G1.out W hW;have k2:=G2.out W hW;obtain⟨b0,b1,b2,b3,b4,b5⟩:=GC.out W hW;go_simp⟩) HWR.out ?_;refine take_C (i:=7) (v:=.int .i64 0) rfl (by decide) (by kernel_rfl) (by kernel_rfl) (by kernel_rfl) (by kernel_rfl) (fun _ _ _ h=>h) (Or.inl ⟨by rfl,by intro W hW;have k1:=G1.out W hW;have k2:=G2.out W hW;obtain⟨b0,b1,b2,b3,b4,b5⟩:=GC.out W hW;go_simp⟩) HWR.out ?_;refine take_C (i:=8) (v:=.agg #[.int .i64 (c 0),.int .i64 (c 1),.int .i64 (c 2),.int .i64 (c 3),.int .i64 (c 4),.int .i64 (c 5)]) rfl (by decide) (by kernel_rfl) (by kernel_rfl) (by kernel_rfl) (by kernel_rfl) (fun _ _ _ h=>h) (Or.inl ⟨by rfl,by intro W hW;have k1:=G1.out W hW;have k2:=G2.out W hW;obtain⟨b0,b1,b2,b3,b4,b5⟩:=GC.out W hW;go_simp⟩) HWR.out ?_;refine take_C (i:=9) (v:=.pointer (some ⟨fb,1,none⟩)) rfl (by decide) (by kernel_rfl) (by kernel_rfl) (by kernel_rfl) (by kernel_rfl) (fun _ _ _ h=>h) (Or.inl ⟨by rfl,by intro W hW;have k1:=G1.out W hW;have k2:=G2.out W hW;obtain⟨b0,b1,b2,b3,b4,b5⟩:=GC.out W hW;go_simp⟩) HWR.out ?_;refine take_C (i:=10) (v:=.pointer (some ⟨fb,2,none⟩)) rfl (by decide) (by kernel_rfl) (by kernel_rfl) (by kernel_rfl) (by kernel_rfl) (fun _ _ _ h=>h) (Or.inl ⟨by rfl,by intro W hW;have k1:=G1.out W hW;have k2:=G2.out W hW;obtain⟨b0,b1,b2,b3,b4,b5⟩:=GC.out W hW;go_simp⟩) HWR.out ?_;refine take_C (i:=11) (v:=.slice none 0 0) rfl (by decide) (by kernel_rfl) (by kernel_rfl) (by kernel_rfl) (by kernel_rfl) (fun _ _ _ h=>h) (Or.inl ⟨by rfl,by intro W hW;have k1:=G1.out W hW;have k2:=G2.out W hW;obtain⟨b0,b1,b2,b3,b4,b5⟩:=GC.out W hW;go_simp⟩) HWR.out ?_;refine one_C (j:=12) (by kernel_rfl) rfl (fun K hK=>?_);go_simp
  refine(HS0.out wd).mono ?_;rintro e w6 ⟨p,rfl,hwi,hfr,hb6⟩;have HB6:=hide (show Below wr.heap.size wr w6 from HWR.out.trans (hb6.mono HWR.out.size));have HWI:=hide hwi;have HFR:=hide (show ∀x∈wfoot p [],wr.heap.size≤x from fun x hx=>uD HWR.out.size (hfr x hx));have hx6:=Mem.Sits.below HX5.out HB6.out HX5.out.lt;have e8:=hx6.cell 8 _ rfl;have h8:=hx6.frozen 8;have hx7:=hx6.set 8 (.int .i64 0);have e9:=hx7.cell 9 _ rfl;have h9:=hx7.frozen 9;have hx8:=hx7.set 9 (.int .i64 0);have e10:=hx8.cell 10 _ rfl;have h10:=hx8.frozen 10;clear hwi hfr hb6 hx6 hx7 hx8;refine hK _ _ (fun _=>HB6.out) ?_;clear hK K;refine one_C (j:=13) (by kernel_rfl) rfl (fun K hK=>?_);go_simp
  refine hK _ _ (fun _=>HB6.out) ?_;clear hK K;refine one_C (j:=14) (by kernel_rfl) rfl (fun K hK=>?_);go_simp
  refine hK _ _ (fun h=>absurd h (by decide)) ?_;clear hK K;refine one_C (j:=15) (by kernel_rfl) rfl (fun K hK=>?_);go_simp
  refine hK _ _ (fun h=>absurd h (by decide)) ?_;clear hK K;refine one_C (j:=16) (by kernel_rfl) rfl (fun K hK=>?_);go_simp
  refine hK _ _ (fun h=>absurd h (by decide)) ?_;clear hK K;refine done_C (by kernel_rfl) ?_ _;go_wp2_with fail
  refine bodyPost_ret (results_tmp2 rfl _ _ _) rfl ?_;exact FIN.out _ _ HWI.out HFR.out HB6.out
end Go.Proofs.YtenegfafjjknoaaGreatDoor.Dd
namespace Go.Proofs.YtenegfafjjknoaaGreatDoor.Lw
open Go.RowKit Go.Maps Mem Foot Bytes Im Wm Hi Plainw Cq Dm Dh Jr Wi Sk Hn Kr Dd
def R0 (c:Fin 6→Int):Rn:=⟨c,0,⟨[],0,[],0,-1⟩,[],[],[]⟩
def P0 (X:Nat)(q:Pl):Rp:=⟨X,q,.slice none 0 0,.slice none 0 0,.slice none 0 0,.slice none 0 0,.slice none 0 0,.slice none 0 0,[],[]⟩
theorem calm0 (m:Int):Jcalm (J0 m) Dm.fresh:=by
 exact⟨rfl,rfl,good_fresh,List.Perm.refl _,fun n hn=>(by cases hn),Int.le_refl _,fun h=>absurd rfl h⟩
theorem dok0 (c:Fin 6→Int)(hc:COk c):DOk (D0 c Dm.fresh) [] 0 where
 cok:=hc
 calm:=calm0 _
 clk:=⟨Int.le_refl _,by show (0:Int)≤1000000000;omega⟩
 num:=⟨Int.le_refl _,by show (0:Int)≤1000000000;omega⟩
 cnt:=rfl
 win:=rfl
 keys:=rfl
 lt:=fun m hm=>by cases hm
 low:=fun m hm=>by cases hm
 rise:=List.Pairwise.nil
 great:=⟨Int.le_refl _,by show (-1:Int)<0;omega⟩
 opn:=fun h=>absurd h (by show ¬(0:Nat)<0;omega)
 free:=fun _=>Or.inl rfl
 spent:=rfl
 next:=Int.le_refl _
 segs:=uB _
 used:=uB _
 dues:=uB _
 sz:=uB _
 len:=uB _
 lines:=uB _
 short:=fun d hd=>by cases hd
theorem rel0 (c:Fin 6→Int)(hc:COk c):Rel (R0 c) (D0 c Dm.fresh) 0 where
 ok:=dok0 c hc
 c:=rfl
 now:=rfl
 o:=rfl
 due:=rfl
 evr:=fun m hm=>by cases hm
 gon:=fun m hm=>by cases hm
 gol:=uB _
 evn:=List.Pairwise.nil
 evs:=fun m hm=>by cases hm
 dus:=fun m hm=>by cases hm
 sll:=uB _
theorem ra0 {w:World}{r X:Nat}{q:Pl}{c:Fin 6→Int}(hh:Sits w r 75 (rcs (R0 c) (P0 X q)))(hd:DA w X (D0 c Dm.fresh) q)(hr:r∉df X q):RA w r (R0 c) (D0 c Dm.fresh) (P0 X q):=by
 refine⟨hh,hd,⟨⟨World.ownsRow_nil _ _ _ _,World.ownsRow_nil _ _ _ _⟩,World.ownsRow_nil _ _ _ _,World.ownsRow_nil _ _ _ _,World.ownsRow_nil _ _ _ _,World.ownsRow_nil _ _ _ _,fun i e he=>(by simp[P0]at he),fun k hk=>(by cases hk),fun k hk=>?_,fun k hk=>?_⟩,fun h=>(by cases h),fun k hk=>?_⟩
 ·simp[P0,Value.ownBlock]at hk
 ·simp[P0,Value.ownBlock]at hk
 ·have:k=r:=by simpa[lf,P0,Value.ownBlock] using hk
  rw[this];exact hr
def ncs (c:Fin 6→Int)(xv:Value)(bx:Nat):Array Value:=#[.int .i64 (c 0),.int .i64 (c 1),.int .i64 (c 2),.int .i64 (c 3),.int .i64 (c 4),.int .i64 (c 5),xv,.pointer (some ⟨bx,0,none⟩),.int .i64 0,.slice none 0 0,.int .i64 0,.slice none 0 0,.int .i64 0,.int .i64 (-1),.slice none 0 0,.slice none 0 0,.bool false,.bool false,.int .i64 0,.int .i64 0,.int .i64 0,.int .i64 0,.string ⟨#[]⟩,.slice none 0 0,.slice none 0 0,.bool true]
set_option maxRecDepth 10000 in
theorem firstL (w0 w:World)(hT:Tab w0)(h0:Below w0.heap.size w0 w)(c:Fin 6→Int)(hc:COk c)(hg:Check.good (c 0) (c 1) (c 2) (c 3) (c 4) (c 5)=true)(r bx ba cap:Nat)(bs:List Nat)(hr0:w0.heap.size≤r)(hh:Sits w r 75 (ncs c (.pointer none) bx))(hP:PD w bx Dm.fresh ba cap bs)(hrp:r∉pf bx ba bs):
  Calls Tryz.prog 63 #[.pointer (some ⟨r,0,none⟩)] w fun e w'=>e=.returned (.tuple #[])∧∃R' p',RA w' r R' (D0 c Dm.fresh) p'∧Rel R' (D0 c Dm.fresh) 0∧p'.ls.length≤1∧(∀k∈rf r p',k=r∨k∈pf bx ba bs∨w.heap.size≤k)∧Off (r ::pf bx ba bs) w w':=by
 have hgd:=Check.refGood (c 0) (c 1) (c 2) (c 3) (c 4) (c 5) w;rw[hg]at hgd;have HH:=hide hh;have HP:=hide hP;have HT:=hide hT;have hu:=hh;unfold ncs at hu;have c0:=hu.cell 0 _ rfl;have c1:=hu.cell 1 _ rfl;have c2:=hu.cell 2 _ rfl;have c3:=hu.cell 3 _ rfl;have c4:=hu.cell 4 _ rfl;have c5:=hu.cell 5 _ rfl;clear hu hg hh hP hT;go_enter Tryz.func63,Tryz.ntmps63
 go_wp2_with fail
 refine hgd.mono ?_;clear hgd c0 c1 c2 c3 c4 c5;rintro e w1 ⟨rfl,hb1⟩;have HB1:=hide hb1;have HH1:=hide (Mem.Sits.below HH.out hb1 HH.out.lt);clear hb1;go_upto_region 3 with fail
 have HWD:=hide (show Below w1.heap.size w1 w1.drew from(Below.refl _ _).drew);have HHD:=hide (Mem.Sits.below HH1.out HWD.out HH1.out.lt);refine region_D (fun W=>Sits W r 75 (ncs c (.pointer none) bx)) 14 (by kernel_rfl) ?_;generalize w1.drew=wd at *;refine take_C (i:=0) (v:=.pointer (some ⟨r,0,none⟩)) rfl (by decide) (by kernel_rfl) (by kernel_rfl) (by kernel_rfl) (by kernel_rfl) (fun _ _ _ h=>h) (Or.inl ⟨by rfl,by intro W hW;go_simp⟩) HHD.out ?_;refine take_C (i:=1) (v:=.pointer (some ⟨r,0,none⟩)) rfl (by decide) (by kernel_rfl) (by kernel_rfl) (by kernel_rfl) (by kernel_rfl) (fun _ _ _ h=>h) (Or.inl ⟨by rfl,by intro W hW;go_simp⟩) HHD.out ?_;refine take_C (i:=2) (v:=.pointer (some ⟨r,0,none⟩)) rfl (by decide) (by kernel_rfl) (by kernel_rfl) (by kernel_rfl) (by kernel_rfl) (fun _ _ _ h=>h) (Or.inl ⟨by rfl,by intro W hW;go_simp⟩) HHD.out ?_;refine take_C (i:=3) (v:=.agg #[.int .i64 (c 0),.int .i64 (c 1),.int .i64 (c 2),.int .i64 (c 3),.int .i64 (c 4),.int .i64 (c 5)]) rfl (by decide) (by kernel_rfl) (by kernel_rfl) (by kernel_rfl) (by kernel_rfl) (fun _ _ _ h=>h) (Or.inl ⟨by rfl,by intro W hW;unfold ncs at hW;have k0:=hW.cell 0 _ rfl;have k1:=hW.cell 1 _ rfl;have k2:=hW.cell 2 _ rfl;have k3:=hW.cell 3 _ rfl;have k4:=hW.cell 4 _ rfl;have k5:=hW.cell 5 _ rfl;go_simp⟩) HHD.out ?_;refine take_C (i:=5) (v:=.pointer (some ⟨r,0,none⟩)) rfl (by decide) (by kernel_rfl) (by kernel_rfl) (by kernel_rfl) (by kernel_rfl) (fun _ _ _ h=>h) (Or.inl ⟨by rfl,by intro W hW;go_simp⟩) HHD.out ?_;refine take_C (i:=6) (v:=.pointer (some ⟨r,0,none⟩)) rfl (by decide) (by kernel_rfl) (by kernel_rfl) (by kernel_rfl) (by kernel_rfl) (fun _ _ _ h=>h) (Or.inl ⟨by rfl,by intro W hW;go_simp⟩) HHD.out ?_;refine take_C (i:=7) (v:=.pointer (some ⟨r,7,none⟩)) rfl (by decide) (by kernel_rfl) (by kernel_rfl) (by kernel_rfl) (by kernel_rfl) (fun _ _ _ h=>h) (Or.inl ⟨by rfl,by intro W hW;go_simp⟩) HHD.out ?_;refine take_C (i:=8) (v:=.pointer (some ⟨bx,0,none⟩)) rfl (by decide) (by kernel_rfl) (by kernel_rfl) (by kernel_rfl) (by kernel_rfl) (fun _ _ _ h=>h) (Or.inl ⟨by rfl,by intro W hW;unfold ncs at hW;have k7:=hW.cell 7 _ rfl;go_simp⟩) HHD.out ?_;refine one_C (j:=4) (by kernel_rfl) rfl (fun K hK=>?_);go_simp
 refine(Check.conf _ _ _ _ _ _ _).mono ?_;rintro e w2 ⟨rfl,hb2⟩;have HB2:=hide ((HB1.out.trans (HWD.out.mono HB1.out.size)).trans (hb2.mono (HB1.out.trans (HWD.out.mono HB1.out.size)).size));have HH2:=hide (Mem.Sits.below HH.out HB2.out HH.out.lt);refine hK _ _ (fun _=>HH2.out) ?_;clear hK K hb2;have hst:=startD c hc bx ba cap bs Dm.fresh w2 (HP.out.keep HB2.out) rfl rfl;unfold cfg at hst;refine one_C (j:=9) (by kernel_rfl) rfl (fun K hK=>?_);go_simp
 refine hst.mono ?_;clear hst;rintro e w3 ⟨X,q,rfl,hda,hqb,hdf,hb3⟩;have HB3:=hide (HB2.out.trans (hb3.mono HB2.out.size));have HH3:=hide (Mem.Sits.below HH.out HB3.out HH.out.lt);have HDA:=hide hda;have HQB:=hide hqb;have HDF:=hide hdf;refine hK _ _ (fun _=>HH3.out) ?_;clear hK K hb3 hda hqb hdf;refine one_C (j:=10) (by kernel_rfl) rfl (fun K hK=>?_);go_simp
 refine hK _ _ (fun _=>HH3.out) ?_;clear hK K;refine take_C (i:=11) (v:=.pointer (some ⟨X,0,none⟩)) rfl (by decide) (by kernel_rfl) (by kernel_rfl) (by kernel_rfl) (by kernel_rfl) (fun _ _ _ h=>h) (Or.inl ⟨by rfl,by intro W hW;go_simp⟩) HH3.out ?_;refine take_C (i:=12) (v:=.int .i64 0) rfl (by decide) (by kernel_rfl) (by kernel_rfl) (by kernel_rfl) (by kernel_rfl) (fun _ _ _ h=>h) (Or.inl ⟨by rfl,by intro W hW;go_simp⟩) HH3.out ?_;refine one_C (j:=13) (by kernel_rfl) rfl (fun K hK=>?_);go_simp
 refine hK _ _ (fun _=>HH3.out) ?_;clear hK K;refine one_C (j:=14) (by kernel_rfl) rfl (fun K hK=>?_);go_simp
 refine hK _ _ (fun h=>absurd h (by decide)) ?_;clear hK K;refine done_C (by kernel_rfl) ?_ _;have hu:=HH3.out;unfold ncs at hu;have d6:=hu.cell 6 _ rfl;have f6:=hu.frozen 6;have d25:=hu.cell 25 _ rfl;have HS4:=hide (hu.set 6 (.pointer (some ⟨X,0,none⟩)));clear hu;go_wp2_with (first|(go_at_call 18;refine(Check.num _ _).mono ?_;rintro e w' ⟨rfl,rfl⟩)|(go_at_call 62;refine(mustT r _).mono ?_;rintro e w' ⟨rfl,rfl⟩))
 clear d6 f6 d25;have hz2:=HB2.out.size;have hrl:=HH.out.lt;have hrd:r∉df X q:=fun e=>by
  rcases HDF.out r e with h|h
  ·exact hrp h
  ·omega
 have ho4:Off [r] w' (w'.setCell ⟨r,6,none⟩ (.pointer (some ⟨X,0,none⟩))):=(Off.refl _ _).set (uA.2 rfl) _ _;have hd4:=HDA.out.off ho4 (fun k hk e=>hrd (uA.1 e▸hk));have hs4:Sits (w'.setCell ⟨r,6,none⟩ (.pointer (some ⟨X,0,none⟩))) r 75 (rcs (R0 c) (P0 X q)):=by
  have:=HS4.out;unfold rcs R0 P0;simp only[HQB.out];exact this
 have HRA:=hide (ra0 hs4 hd4 hrd);have HO4:=hide ((Off.of_below (F:=[r]) HB3.out).trans ho4);have HTB:=hide (HT.out.below ((h0.trans (HB3.out.mono h0.size)).setCell (p:=⟨r,6,none⟩) hr0 (.pointer (some ⟨X,0,none⟩))));have hz3:=HB3.out.size;clear hs4 hd4 ho4 HS4;generalize w'.setCell ⟨r,6,none⟩ (.pointer (some ⟨X,0,none⟩))=w4 at *;refine(openedL HRA.out (rel0 c hc) (by omega) HTB.out).mono ?_;rintro e w5 ⟨rfl,hb5⟩;have HRA5:=hide (HRA.out.keep hb5);have HO5:=hide (HO4.out.trans (Off.of_below hb5));clear hb5;go_wp2_with fail
 refine(duesL HRA5.out (rel0 c hc) (by omega) (by show (0:Nat)≤100000000;omega)).mono ?_;rintro e w6 ⟨rfl,R',p',f1,f2,f3,f4,f5⟩;have hz5:=HO5.out.size;have HF:=hide (show RA w6 r R' (D0 c Dm.fresh) p'∧Rel R' (D0 c Dm.fresh) 0∧p'.ls.length≤1∧(∀k∈rf r p',k=r∨k∈pf bx ba bs∨w.heap.size≤k)∧Off (r ::pf bx ba bs) w w6 from by
  have hrf:∀k∈rf r (P0 X q),k=r∨k∈pf bx ba bs∨w.heap.size≤k:=fun k hk=>by
   rcases uC.1 hk with h|h
   ·exact Or.inl (by simpa[lf,P0,Value.ownBlock] using h)
   ·exact Or.inr ((HDF.out k h).imp id fun h=>uD hz2 h)
  refine⟨f1,f2,f3,fun k hk=>?_,off_trans (HO5.out.mono fun k _ h=>?_) (fun k hk=>?_) f5⟩
  ·rcases f4 k hk with h|h
   ·exact hrf k h
   ·exact Or.inr (Or.inr (uD hz5 h))
  ·exact uA.1 h▸List.mem_cons_self ..
  ·rcases hrf k hk with h|h|h
   ·exact Or.inl (h▸List.mem_cons_self ..)
   ·exact Or.inl (List.mem_cons_of_mem _ h)
   ·exact Or.inr h)
 clear f1 f2 f3 f4 f5;go_wp2_with fail
 go_end0
 exact⟨rfl,R',p',HF.out⟩
set_option maxRecDepth 10000 in
theorem begunL (w0 w:World)(hT:Tab w0)(h0:Below w0.heap.size w0 w)(c:Fin 6→Int)(hc:COk c)(hg:Check.good (c 0) (c 1) (c 2) (c 3) (c 4) (c 5)=true):
  Calls Tryz.prog 32 #[.agg #[.int .i64 (c 0),.int .i64 (c 1),.int .i64 (c 2),.int .i64 (c 3),.int .i64 (c 4),.int .i64 (c 5)]] w fun e w'=>∃r R' p',e=.returned (.pointer (some ⟨r,0,none⟩))∧RA w' r R' (D0 c Dm.fresh) p'∧Rel R' (D0 c Dm.fresh) 0∧p'.ls.length≤1∧(∀k∈rf r p',w.heap.size≤k)∧Below w.heap.size w w':=by
 have HT:=hide hT;have HB0:=hide h0;clear hT h0;have hs1:=Sits.new w 23 #[.int .i64 (c 0),.int .i64 (c 1),.int .i64 (c 2),.int .i64 (c 3),.int .i64 (c 4),.int .i64 (c 5)];have HB1:=hide (below_new (w:=w) (.cells #[.int .i64 (c 0),.int .i64 (c 1),.int .i64 (c 2),.int .i64 (c 3),.int .i64 (c 4),.int .i64 (c 5)] 23));have HS1:=hide hs1;clear hs1;go_enter Tryz.func32,Tryz.ntmps32
 go_upto_region 1 with fail
 generalize w.alloc (.cells #[.int .i64 (c 0),.int .i64 (c 1),.int .i64 (c 2),.int .i64 (c 3),.int .i64 (c 4),.int .i64 (c 5)] 23)=w1 at *;go_wp2_with fail
 refine(Dh.new w1).mono ?_;rintro e w2 ⟨rfl,hw2⟩;have hb2:=below_new (w:=w1) (.cells #[.slice none 0 0,.int .i64 (-1),.int .i64 (-1)] 101);have HSD:=hide (Sits.new w1 101 #[.slice none 0 0,.int .i64 (-1),.int .i64 (-1)]);rw[←hw2]at hb2 HSD;have HB2:=hide (HB1.out.trans (hb2.mono HB1.out.size));have hs2:=Mem.Sits.below HS1.out hb2 HS1.out.lt;have x0:=hs2.cell 0 _ rfl;have x1:=hs2.cell 1 _ rfl;have x2:=hs2.cell 2 _ rfl;have x3:=hs2.cell 3 _ rfl;have x4:=hs2.cell 4 _ rfl;have x5:=hs2.cell 5 _ rfl;clear hw2 hb2 hs2;have hs3:=Sits.new w2 75 (ncs c (.pointer none) w1.heap.size);have hb3:=below_new (w:=w2) (.cells (ncs c (.pointer none) w1.heap.size) 75);have HB3:=hide (HB2.out.trans (hb3.mono HB2.out.size));have HS3:=hide hs3;have d25:=(show Sits _ _ _ (ncs c (.pointer none) w1.heap.size) from hs3).cell 25 _ rfl;have hz1:=HB1.out.size;have hz2:=HSD.out.lt;have HPD:=hide (show PD (w2.alloc (.cells (ncs c (.pointer none) w1.heap.size) 75)) w1.heap.size Dm.fresh (w2.heap.size+1) 0 [] from⟨Mem.Sits.below HSD.out hb3 HSD.out.lt,rfl,fun h=>absurd rfl h,fun i b s h=>by simp at h,by simp;omega,fun h=>absurd rfl h⟩);unfold ncs at d25;clear hs3 hb3;go_upto_region 3 with fail
 have hfi:=firstL w0 (w2.alloc (.cells (ncs c (.pointer none) w1.heap.size) 75)) HT.out (HB0.out.trans (HB3.out.mono HB0.out.size)) c hc hg w2.heap.size w1.heap.size (w2.heap.size+1) 0 [] (by have:=HB0.out.size;have:=HB2.out.size;omega) HS3.out HPD.out (by unfold pf;simp;omega);unfold ncs at hfi;go_wp2_with fail
 refine hfi.mono ?_;clear hfi;rintro e w6 ⟨rfl,R',p',f1,f2,f3,f4,f5⟩;have hw2:=HB2.out.size;have hpf:∀k∈pf w1.heap.size (w2.heap.size+1) [],w.heap.size≤k:=fun k hk=>by
  unfold pf at hk;simp at hk
  omega
 have hfr:∀k∈rf w2.heap.size p',w.heap.size≤k:=fun k hk=>by
  rcases f4 k hk with h|h|h
  ·omega
  ·exact hpf k h
  ·exact uD HB3.out.size h
 have HF:=hide (show RA w6 w2.heap.size R' (D0 c Dm.fresh) p'∧Rel R' (D0 c Dm.fresh) 0∧p'.ls.length≤1∧(∀k∈rf w2.heap.size p',w.heap.size≤k)∧Below w.heap.size w w6 from⟨f1,f2,f3,hfr,HB3.out.trans (f5.below (fun k hk=>by
  rcases uE.1 hk with h|h
  ·omega
  ·exact hpf k h) HB3.out.size)⟩)
 clear f1 f2 f3 f4 f5 hpf hfr;go_wp2_with fail
 go_ret
 exact⟨_,R',p',rfl,HF.out⟩
def St (w W:World)(r:Nat)(D:Dn)(n m:Nat):Prop:=∃R p,RA W r R D p∧Rel R D n∧p.ls.length≤m∧(∀k∈rf r p,w.heap.size≤k)∧Below w.heap.size w W
theorem St.act {w W:World}{r:Nat}{D:Dn}{n m:Nat}(h:St w W r D n m)(hT:Tab w)(hn:n≤8000000)(hm:m≤100000000)(a1 a2:Int)(s:ByteArray)(hs:s.size≤1000000000)(hw0:-9223372036854775808≤a2)(hw1:a2≤9223372036854775807)(D9:Dn)(h9:D9=dact D a1 a2 s):
  Calls Tryz.prog 33 #[.pointer (some ⟨r,0,none⟩),.agg #[.int .i64 0,.int .i64 a1,.int .i64 a2,.int .i64 0,.string s]] W fun e w'=>e=.returned (.tuple #[])∧St w w' r D9 (n+s.size+2) (m+1):=by
 obtain⟨R,p,h1,h2,h3,h4,h5⟩:=h;refine(actL w W hT h5 r R D p n h1 h2 h4 hn (by omega) 0 a1 a2 0 s hs hw0 hw1 D9 h9).mono ?_;rintro e w' ⟨rfl,R',p',f1,f2,f3,f4,f5⟩;have hz:=h5.size;exact⟨rfl,R',p',f1,f2,by omega,fun k hk=>(f4 k hk).elim (h4 k) fun h=>by omega,h5.trans (f5.below h4 hz)⟩
theorem St.x {w W:World}{r:Nat}{D:Dn}{n m:Nat}(h:St w W r D n m)(hn:n≤8000000):∃X,W.cell? ⟨r,6,none⟩=some (.pointer (some ⟨X,0,none⟩))∧W.cell? ⟨r,25,none⟩=some (.bool true)∧(∃a cap,W.cell? ⟨r,9,none⟩=some (.slice a D.due.length cap))∧Calls Tryz.prog 61 #[.pointer (some ⟨X,0,none⟩)] W fun e w'=>∃v,e=.returned v∧w'.ownsRow W.heap.size 117 2 v D.due.length (mcells D.due)∧Below W.heap.size W w':=by
 obtain⟨R,p,h1,h2,h3,h4,h5⟩:=h;obtain⟨a,cap,he⟩:=own_shapeJ h1.rows.wd.due;refine⟨p.X,Mem.Sits.cell h1.head 6 _ rfl,Mem.Sits.cell h1.head 25 _ rfl,⟨a,cap,?_⟩,dueD W p.X D p.q h1.da (by have:=h2.ok.dues;omega)⟩;have:=Mem.Sits.cell h1.head 9 _ rfl;rw[←h2.due,←he];exact this
theorem St.keep {w W W':World}{r:Nat}{D:Dn}{n m:Nat}(h:St w W r D n m)(hb:Below W.heap.size W W'):St w W' r D n m:=by
 obtain⟨R,p,h1,h2,h3,h4,h5⟩:=h;exact⟨R,p,h1.keep hb,h2,h3,h4,h5.trans (hb.mono h5.size)⟩
theorem St.below {w W:World}{r:Nat}{D:Dn}{n m:Nat}(h:St w W r D n m):Below w.heap.size w W:=by
 obtain⟨R,p,h1,h2,h3,h4,h5⟩:=h;exact h5
def kc:Fin 6→Int
 | 0=>10
 | 1=>2
 | 2=>1
 | 3=>2
 | 4=>1
 | 5=>64
theorem kc_ok:COk kc:=⟨by decide,by decide,by decide,by decide,by decide,by decide⟩
def ks:ByteArray:=⟨#[99,58,49,124,99]⟩
def kt:ByteArray:=⟨#[119,105,110,100,111,119,32,48,32,114,101,106,101,99,116,115,32,48,32,100,114,111,112,115,32,48,10,99,124,99,61,49,48,48,48,10]⟩
theorem k_text:wtext 0 (wgram (limOf kc) win0 [99,58,49,124,99])=[119,105,110,100,111,119,32,48,32,114,101,106,101,99,116,115,32,48,32,100,114,111,112,115,32,48,10,99,124,99,61,49,48,48,48,10]:=by decide +kernel
noncomputable def K1:Dn:=dact (D0 kc Dm.fresh) 1 0 ks
noncomputable def K2:Dn:=dact K1 2 10 ⟨#[]⟩
noncomputable def K3:Dn:=dact K2 4 0 ⟨#[]⟩
noncomputable def K4:Dn:=dact K3 5 0 ⟨#[]⟩
noncomputable def K5:Dn:=dact K4 6 0 ⟨#[]⟩
theorem k1_is:K1=dwrite (D0 kc Dm.fresh) ks:=by
 unfold K1 dact;rw[if_pos rfl,if_neg (by decide)];unfold dpacket dturn;rw[if_pos (show (D0 kc Dm.fresh).clock / (D0 kc Dm.fresh).c 0≤(D0 kc Dm.fresh).num from(by decide:(0:Int) / 10≤0))]
theorem k2_due:K2.due=[⟨0,kt⟩]:=by
 unfold K2 dact;rw[if_neg (by decide),if_pos rfl,k1_is,if_neg (show ¬((10:Int)≤(dwrite (D0 kc Dm.fresh) ks).clock∨(1000000000:Int)<10) from(by decide:¬((10:Int)≤0∨(1000000000:Int)<10)))];unfold dclock dturn;refine(congrArg Dn.due ((if_neg (show ¬((10:Int) / 10≤0) by decide)).trans (if_pos (show 0<0+1 by decide)))).trans ?_;show [(⟨0,⟨(wtext 0 (wgram (limOf kc) win0 (B ks))).toArray⟩⟩:Ms)]=_;rw[show B ks=[99,58,49,124,99] from rfl,k_text];rfl
theorem k3_due:K3.due=[]:=by
 unfold K3 dact;rw[if_neg (by decide),if_neg (by decide),if_neg (by decide),if_pos rfl,k2_due,if_pos (by decide)];show (K2.due.filter fun m=>!decide (m.k=0))=[];rw[k2_due];rfl
theorem k5_due:K5.due=[]:=by
 unfold K5 dact;rw[if_neg (by decide),if_neg (by decide),if_neg (by decide),if_neg (by decide)];unfold K4 dact;rw[if_neg (by decide),if_neg (by decide),if_neg (by decide),if_neg (by decide)];exact k3_due
set_option maxRecDepth 10000 in
theorem knownL (w:World)(hT:Tab w):Calls Tryz.prog 31 #[] w fun e w'=>e=.returned (.bool true)∧Below w.heap.size w w':=by
 have hbg:=begunL w w hT (Below.refl _ _) kc kc_ok (by decide);rw[show kc 0=10 from rfl,show kc 1=2 from rfl,show kc 2=1 from rfl,show kc 3=2 from rfl,show kc 4=1 from rfl,show kc 5=64 from rfl]at hbg;have HT:=hide hT;clear hT;go_enter Tryz.func31,Tryz.ntmps31
 go_wp2_with fail
 refine hbg.mono ?_;clear hbg;rintro e w1 ⟨r,R,p,rfl,f1,f2,f3,f4,f5⟩;have H1:=hide (show St w w1 r (D0 kc Dm.fresh) 0 1 from⟨R,p,f1,f2,f3,f4,f5⟩);clear f1 f2 f3 f4 f5;obtain⟨X,c6,c25,-,-⟩:=H1.out.x (by omega);have h2:=H1.out.act HT.out (by omega) (by omega) 1 0 ks (by decide) (by omega) (by omega) K1 rfl;unfold ks at h2;go_wp2_with fail
 refine h2.mono ?_;clear h2 c6 c25;rintro e w2 ⟨rfl,h2⟩;have H2:=hide h2;have h3:=h2.act HT.out (by decide) (by omega) 2 10 ⟨#[]⟩ (by decide) (by omega) (by omega) K2 rfl;clear h2;go_wp2_with fail
 refine h3.mono ?_;clear h3;rintro e w3 ⟨rfl,h3⟩;have H3:=hide h3;obtain⟨X3,c6,-,-,hdu⟩:=h3.x (by decide);rw[k2_due]at hdu;clear h3;go_wp2_with fail
 refine hdu.mono ?_;clear hdu c6;rintro e w4 ⟨v,rfl,hrow,hb4⟩;have H4:=hide (H3.out.keep hb4);obtain⟨g,cap,hv,hcp,-,-,m0,m1,-,-⟩:=msg_at (i:=0) hrow rfl;have hv2:v=.slice (some ⟨g,0,none⟩) 1 cap:=hv;subst hv2;have n0:w4.cell? ⟨g,0,none⟩=some (.int .i64 0):=m0;have n1:w4.cell? ⟨g,1,none⟩=some (.string kt):=m1;have hcq:1≤cap:=hcp;have hkt:kt.toList=[119,105,110,100,111,119,32,48,32,114,101,106,101,99,116,115,32,48,32,100,114,111,112,115,32,48,10,99,124,99,61,49,48,48,48,10]:=by
  rw[Lib.toList_data];rfl
 clear hrow hb4 hv m0 m1 hcp;go_wp2_with (go_at_call 62;refine(mustT r _).mono ?_;rintro e w' ⟨rfl,rfl⟩)
 clear n0 n1 hkt hcq;have h5:=H4.out.act HT.out (by decide) (by omega) 4 0 ⟨#[]⟩ (by decide) (by omega) (by omega) K3 rfl;refine h5.mono ?_;clear h5;rintro e w5 ⟨rfl,h5⟩;have H5:=hide h5;have h6:=h5.act HT.out (by decide) (by omega) 5 0 ⟨#[]⟩ (by decide) (by omega) (by omega) K4 rfl;clear h5;go_wp2_with fail
 refine h6.mono ?_;clear h6;rintro e w6 ⟨rfl,h6⟩;have H6:=hide h6;have h7:=h6.act HT.out (by decide) (by omega) 6 0 ⟨#[]⟩ (by decide) (by omega) (by omega) K5 rfl;clear h6;go_wp2_with fail
 refine h7.mono ?_;clear h7;rintro e w7 ⟨rfl,h7⟩;have H7:=hide h7;obtain⟨X7,-,c25,⟨da,dc,c9⟩,-⟩:=h7.x (by decide);have c9':w7.cell? ⟨r,9,none⟩=some (.slice da 0 dc):=by
  rw[k5_due]at c9;exact c9
 clear c9 h7;go_wp2_with fail
 go_ret
 exact⟨rfl,H7.out.below⟩
end Go.Proofs.YtenegfafjjknoaaGreatDoor.Lw
