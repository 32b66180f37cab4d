/- The law of daemons: a datagram. -/
import Derived.Test.YtenegfafjjknoaaGreatDoorLgy
set_option maxHeartbeats 100000000
open List renaming mem_append_left → uA, mem_singleton → uB, mem_append_right → uC
open Nat renaming le_trans → uD, le_succ → uE
namespace Go.Proofs.YtenegfafjjknoaaGreatDoor.Lw
open Go.RowKit Go.Maps Mem Foot Bytes Im Wm Hi Plainw Cq Dm Dh Jr Wi Sk Hn Kr Dd
def Rq (w w':World)(r n:Nat)(p:Rp)(D':Dn):Prop:=∃R' p',RA w' r R' D' p'∧Rel R' D' n∧p'.ls.length≤p.ls.length+1∧(∀k∈rf r p',k∈rf r p∨w.heap.size≤k)∧Off (rf r p) w w'
theorem Rq.of {w w':World}{r n:Nat}{R:Rn}{D:Dn}{p:Rp}(h:RA w r R D p)(hr:Rel R D n)(hb:Below w.heap.size w w'):Rq w w' r n p D:=
 ⟨R,p,h.keep hb,hr,uE _,fun _ hk=>Or.inl hk,Off.of_below hb⟩
theorem longD (w:World)(X:Nat)(D:Dn)(q:Pl)(h:DA w X D q)(hsp:D.spent=false)(s:ByteArray)(hs:256<s.size):
  Calls Tryz.prog 110 #[.pointer (some ⟨X,0,none⟩),.string s] w fun e w'=>e=.returned (.int .i64 3)∧w'=w:=by
 have c12:=h.head.cell 12 _ rfl;rw[hsp]at c12;have hsz:(256:Int)<(s.size:Int):=by omega
 clear h;go_enter Tryz.func110,Tryz.ntmps110
 go_wp2_with fail
 go_ret
 exact⟨rfl,rfl⟩
set_option maxRecDepth 10000 in
theorem packetL (w0 w:World)(hT:Tab w0)(h0:Below w0.heap.size w0 w)(r:Nat)(R:Rn)(D:Dn)(p:Rp)(n:Nat)(h:RA w r R D p)(hr:Rel R D n)(hfar:∀b∈rf r p,w0.heap.size≤b)(hn:n≤8000000)(a0 a1 a2 a3:Int)(s:ByteArray)(hss:s.size≤1000000000)(D9:Dn)(h9:D9=if 256<s.size then D else dpacket D s):
  Calls Tryz.prog 65 #[.pointer (some ⟨r,0,none⟩),.agg #[.int .i64 a0,.int .i64 a1,.int .i64 a2,.int .i64 a3,.string s]] w fun e w'=>e=.returned (.tuple #[])∧Rq w w' r (n+s.size+2) p D9:=by
 have hs1:=Sits.new w 72 #[.int .i64 a0,.int .i64 a1,.int .i64 a2,.int .i64 a3,.string s];have hb1:=below_new (w:=w) (.cells #[.int .i64 a0,.int .i64 a1,.int .i64 a2,.int .i64 a3,.string s] 72);have HA1:=hide hs1;have HB1:=hide hb1;have HR1:=hide (h.keep hb1);have HR:=hide h;have HREL:=hide hr;have HT:=hide hT;have HB0:=hide h0;have HFAR:=hide hfar;have H9:=hide h9;clear hs1 hb1 h hr hT h0 hfar h9;go_enter Tryz.func65,Tryz.ntmps65
 go_upto_region 1 with fail
 generalize w.alloc (.cells #[.int .i64 a0,.int .i64 a1,.int .i64 a2,.int .i64 a3,.string s] 72)=w1 at *;obtain⟨ab,hab⟩:∃ab,w.heap.size=ab:=⟨_,rfl⟩;rw[hab]at HA1 ⊢;have HAB:=hide hab;clear hab;have hsz:=HR1.out.sizeL HREL.out (by omega);obtain⟨u,hu⟩:∃u,Dm.used D.S.segs=u:=⟨_,rfl⟩;rw[hu]at hsz;have HU:=hide hu;clear hu;go_wp2_with fail
 refine hsz.mono ?_;clear hsz;rintro e w2 ⟨rfl,hb2⟩;have HB2:=hide (HB1.out.trans (hb2.mono HB1.out.size));have HR2:=hide (HR1.out.keep hb2);have HA2:=hide (Mem.Sits.below HA1.out hb2 HA1.out.lt);clear hb2;have C6:∀q:Bw w2,q.val.cell? ⟨r,6,none⟩=some (.pointer (some ⟨p.X,0,none⟩)):=fun q=>by
  have hh:=(HR2.out.keep q.is).head;unfold rcs at hh;exact hh.cell 6 _ rfl
 have C4:∀q:Bw w2,q.val.cell? ⟨ab,4,none⟩=some (.string s):=fun q=>(Mem.Sits.below HA2.out q.is HA2.out.lt).cell 4 _ rfl
 go_wp2_with fail
 refine region_pre 6 (by kernel_rfl) (by kernel_rfl) ?_;simp only[List.take_succ_cons,List.take_zero,List.drop_succ_cons,List.drop_zero];repeat (first
  | go_big_quiet_skip
  | (go_big_quiet_want;go_big_quiet_op;go_big_quiet_on))
 refine wpQuiet_nil ?_;intro q;have HB3:=hide (HB2.out.trans (q.is.mono HB2.out.size));have HR3:=hide (HR2.out.keep q.is);have HA3:=hide (Mem.Sits.below HA2.out q.is HA2.out.lt);clear C6 C4;generalize q.val=w3 at *;by_cases hlong:256<s.size
 ·have hld:=longD w3 p.X D p.q HR3.out.da HREL.out.ok.spent s hlong;have hlz:(256:Int)<(s.size:Int):=by omega
  go_wp2_with fail
  refine hld.mono ?_;clear hld;rintro e w4 ⟨rfl,hw4⟩;subst hw4;have c4:=HA3.out.cell 4 _ rfl;go_wp2_with fail
  refine(Check.num _ _).mono ?_;rintro e w5 ⟨rfl,hw5⟩;subst hw5;go_wp2_with fail
  refine(mustT r _).mono ?_;rintro e w6 ⟨rfl,hw6⟩;subst hw6;go_wp2_with fail
  refine bodyPost_ret (results_none rfl _ _ _) rfl ?_;refine⟨rfl,?_⟩;rw[H9.out,if_pos hlong];refine Rq.of HR.out ?_ HB3.out;have h:=HREL.out;exact⟨h.ok.mono (by omega),h.c,h.now,h.o,h.due,h.evr,h.gon,uD h.gol (by omega),h.evn,h.evs,h.dus,uD h.sll (by omega)⟩
 ·have hs256:s.size≤256:=by omega
  have h9:=H9.out;rw[if_neg hlong]at h9;clear H9;have H9:=hide h9;clear h9;have hlz:¬(256:Int)<(s.size:Int):=by omega
  have hpd:=packetD w0 w3 HT.out (HB0.out.trans (HB3.out.mono HB0.out.size)) p.X D p.q _ n HR3.out.da (fun b hb=>HFAR.out b (uC _ hb)) HREL.out.ok (by omega) s hs256;go_wp2_with fail
  refine hpd.mono ?_;clear hpd;rintro e w4 ⟨rfl,hq⟩;obtain⟨q',hra,hbx,hfp,hod⟩:=HR3.out.daemon hq;have HR4:=hide hra;have HO4:=hide (show Off (rf r p) w w4 from(Off.of_below HB3.out).trans (hod.mono fun k _ hk=>uC _ hk));have HF4:=hide (show ∀k∈rf r {p with q:=q'},k∈rf r p∨w.heap.size≤k from fun k hk=>(hfp k hk).imp id fun h=>uD HB3.out.size h);have HA4:=hide (Foot.Sits.off HA3.out hod (fun hm=>by
   have:=HR.out.lt ab (uC _ hm);have:=HAB.out;omega))
  have HRN:=hide (show Rel {rturn R D with W:={(rturn R D).W with hs:=(rturn R D).W.hs++[s]}} (dpacket D s) (n+s.size+2) from by
   have:=HREL.out.turn.write (by omega) hs256;rw[show n+1+s.size+1=n+s.size+2 by omega]at this;exact this)
  have HUS:=hide (show Dm.used (dpacket D s).S.segs≤u+(if D.num<D.clock / D.c 0∧0<D.count then 15 else 0)+s.size+32 from by
   have h1:=(HREL.out.turn.ok.write (s:=s) (by omega) hs256).2.1;have h2:=HREL.out.ok.turn.2.1;have h3:=HU.out;have h4:dpacket D s=dwrite (dturn D) s:=rfl;rw[h4];omega)
  have HDC:=hide (HREL.out.doc (by omega));clear hq hra hbx hfp hod;generalize dpacket D s=D' at *;obtain⟨b0,b1,b2,b3,b4⟩:w4.cell? ⟨ab,0,none⟩=some (.int .i64 a0)∧w4.cell? ⟨ab,1,none⟩=some (.int .i64 a1)∧w4.cell? ⟨ab,2,none⟩=some (.int .i64 a2)∧w4.cell? ⟨ab,3,none⟩=some (.int .i64 a3)∧w4.cell? ⟨ab,4,none⟩=some (.string s):=
   ⟨HA4.out.cell 0 _ rfl,HA4.out.cell 1 _ rfl,HA4.out.cell 2 _ rfl,HA4.out.cell 3 _ rfl,HA4.out.cell 4 _ rfl⟩
  go_wp2_with fail
  refine(failed0 r a0 a1 a2 a3 s w4).mono ?_;clear b0 b1 b2 b3 b4;rintro e w5 ⟨rfl,hb5⟩;have HR5:=hide (HR4.out.keep hb5);have HA5:=hide (Mem.Sits.below HA4.out hb5 HA4.out.lt);have HO5:=hide (HO4.out.trans (Off.of_below hb5));clear hb5;have hh5:=HR5.out.head;unfold rcs at hh5;have c17:=hh5.cell 17 _ rfl;have e4:=HA5.out.cell 4 _ rfl;clear hh5;have hwm:IntKind.i64.wrap ((s.size:Int)+32)=(s.size:Int)+32:=IntWalk.i64_in _ (by omega);go_wp2_with fail
  obtain⟨ha,hcp,hhe⟩:=own_shapeJ HR5.out.rows.wd.held;obtain⟨da,dc,hde⟩:=own_shapeJ HR5.out.rows.wd.due;have hhe:p.hv=.slice ha R.W.hs.length hcp:=hhe;have hde:p.dv=.slice da R.W.due.length dc:=hde;have HHE:=hide hhe;have HDE:=hide hde;have HCL:=hide (show ∀q:Bw w5,q.val.cell? ⟨r,8,none⟩=some (.int .i64 R.now)∧q.val.cell? ⟨r,0,none⟩=some (.int .i64 (R.c 0))∧q.val.cell? ⟨r,10,none⟩=some (.int .i64 R.W.o)∧q.val.cell? ⟨r,11,none⟩=some (.slice ha R.W.hs.length hcp) from fun q=>by
   have hh:=(HR5.out.keep q.is).head;unfold rcs at hh;exact⟨hh.cell 8 _ rfl,hh.cell 0 _ rfl,hh.cell 10 _ rfl,hhe▸hh.cell 11 _ rfl⟩)
  have C8:=fun q=>(HCL.out q).1
  have C0:=fun q=>(HCL.out q).2.1
  have C10:=fun q=>(HCL.out q).2.2.1
  have C11:=fun q=>(HCL.out q).2.2.2
  have hcok:=HREL.out.ok.cok;have hcl:=HREL.out.ok.clk;have hrc:=HREL.out.c;have hrn:=HREL.out.now;have hro:=HREL.out.o;have hnn:=HREL.out.ok.num;have hrl:=HREL.out.len;have hcnt:=HREL.out.cnt;have hc0:0<R.c 0:=by rw[hrc];exact Dd.COk.pos hcok
  have hnz:¬R.c 0=0:=by omega
  have hn0:0≤R.now:=by rw[hrn];exact hcl.1
  have hn1:R.now≤1000000000:=by rw[hrn];exact hcl.2
  obtain⟨tt,htt⟩:∃tt,R.now / R.c 0=tt:=⟨_,rfl⟩;have htd:R.now.tdiv (R.c 0)=tt:=by rw[Int.tdiv_eq_ediv_of_nonneg hn0,htt]
  have ht0:0≤tt:=by rw[←htt];exact Int.ediv_nonneg hn0 (by omega)
  have ht1:tt≤1000000000:=by rw[←htt];exact Int.le_trans (Int.ediv_le_self _ hn0) hn1
  have hwt:IntKind.i64.wrap tt=tt:=IntWalk.i64_in _ (by omega);have hq2:D.clock / D.c 0=tt:=by rw[←htt,hrc,hrn]
  have HUS2:=hide (show Dm.used D'.S.segs≤u+(if R.W.o<tt∧0<R.W.hs.length then 15 else 0)+s.size+32 from by
   have:=HUS.out;rw[hq2,←hro,hcnt]at this;exact this)
  have HTT:=hide htt;have HCOK:=hide (show COk R.c from hrc▸hcok);have hu9:u≤10000000000:=by
   have h1:=HREL.out.ok.used;have h2:=HU.out;omega
  have hdl:R.W.due.length≤10000000:=by
   have h1:=HREL.out.ok.dues;rw[HREL.out.due];omega
  clear hcok hcl hrc hrn hro hnn hcnt hhe hde htt hq2 c17 e4 HCL;have h3:(R.W.o<tt∧R.W.hs.length=0)∨(R.W.o<tt∧¬R.W.hs.length=0)∨¬R.W.o<tt:=by omega
  rcases h3 with ⟨hgt,hne⟩|⟨hgt,hne⟩|hgt
  case' inl=>
   have hnp:¬(0:Int)<(R.W.hs.length:Int):=by omega
   have HNE:=hide hne;clear hne;refine region_cls (by kernel_rfl) (by kernel_rfl) ?_;repeat (first
    | go_big_quiet_skip
    | (go_big_quiet_want;go_big_quiet_op;go_big_quiet_on))
   refine wpQuiet_nil ?_;rintro _ ⟨q,rfl⟩;have HR6:=hide (HR5.out.keep q.is);have HA6:=hide (Mem.Sits.below HA5.out q.is HA5.out.lt);have HO6:=hide (HO5.out.trans (Off.of_below q.is));clear C8 C0 C10 C11 htd hwt;generalize q.val=w6 at *;go_wp2_with fail
   obtain⟨mz,hmz⟩:∃mz:Nat,mz=s.size+32:=⟨_,rfl⟩;rw[show (s.size:Int)+32=(mz:Int) by omega];have HMU:=hide (show Dm.used D'.S.segs≤u+mz from by have:=HUS2.out;rw[if_neg (fun e=>by have:=HNE.out;omega)]at this;omega);have hmz1:mz≤1000:=by omega
   clear hmz
  case' inr.inl=>
   have hnp:(0:Int)<(R.W.hs.length:Int):=by omega
   have HNE:=hide hne;have HGT:=hide hgt;clear hne;have hwm2:IntKind.i64.wrap ((s.size:Int)+32+64)=(s.size:Int)+32+64:=IntWalk.i64_in _ (by omega);refine region_cls (by kernel_rfl) (by kernel_rfl) ?_;repeat (first
    | go_big_quiet_skip
    | (go_big_quiet_want;go_big_quiet_op;go_big_quiet_on))
   refine wpQuiet_nil ?_;rintro _ ⟨q,rfl⟩;have HR6:=hide (HR5.out.keep q.is);have HA6:=hide (Mem.Sits.below HA5.out q.is HA5.out.lt);have HO6:=hide (HO5.out.trans (Off.of_below q.is));clear C8 C0 C10 C11 htd hwt;generalize q.val=w6 at *;go_wp2_with fail
   obtain⟨mz,hmz⟩:∃mz:Nat,mz=s.size+32+64:=⟨_,rfl⟩;rw[show (s.size:Int)+32+64=(mz:Int) by omega];have HMU:=hide (show Dm.used D'.S.segs≤u+mz from by have:=HUS2.out;rw[if_pos ⟨HGT.out,by have:=HNE.out;omega⟩]at this;omega);have hmz1:mz≤1000:=by omega
   clear hmz
  case' inr.inr=>
   have HGT:=hide hgt;refine region_cls (by kernel_rfl) (by kernel_rfl) ?_;repeat (first
    | go_big_quiet_skip
    | (go_big_quiet_want;go_big_quiet_op;go_big_quiet_on))
   refine wpQuiet_nil ?_;rintro _ ⟨q,rfl⟩;have HR6:=hide (HR5.out.keep q.is);have HA6:=hide (Mem.Sits.below HA5.out q.is HA5.out.lt);have HO6:=hide (HO5.out.trans (Off.of_below q.is));clear C8 C0 C10 C11 htd hwt;generalize q.val=w6 at *;go_wp2_with fail
   obtain⟨mz,hmz⟩:∃mz:Nat,mz=s.size+32:=⟨_,rfl⟩;rw[show (s.size:Int)+32=(mz:Int) by omega];have HMU:=hide (show Dm.used D'.S.segs≤u+mz from by have:=HUS2.out;rw[if_neg (fun e=>by have:=HGT.out;omega)]at this;omega);have hmz1:mz≤1000:=by omega
   clear hmz
  all_goals
   try clear hnp
   clear hgt;have hh6:=HR6.out.head;unfold rcs at hh6;have HCW:=hide (show ∀W,Below w6.heap.size w6 W→(W.cell? ⟨r,9,none⟩=some (.slice da R.W.due.length dc)∧W.cell? ⟨r,10,none⟩=some (.int .i64 R.W.o)∧W.cell? ⟨r,11,none⟩=some (.slice ha R.W.hs.length hcp)∧W.cell? ⟨r,12,none⟩=some (.int .i64 R.W.sr)∧W.cell? ⟨r,13,none⟩=some (.int .i64 R.W.tp)∧W.cell? ⟨ab,4,none⟩=some (.string s)) from fun W hW=>by
    have hh:=Mem.Sits.below hh6 hW hh6.lt;rw[HDE.out,HHE.out]at hh;exact⟨hh.cell 9 _ rfl,hh.cell 10 _ rfl,hh.cell 11 _ rfl,hh.cell 12 _ rfl,hh.cell 13 _ rfl,(Mem.Sits.below HA6.out hW HA6.out.lt).cell 4 _ rfl⟩)
   clear hh6;refine region_D (fun W=>Below w6.heap.size w6 W) 10 (by kernel_rfl) ?_;have HWD:=hide (show Below w6.heap.size w6 w6.drew from(Below.refl _ _).drew);generalize w6.drew=wd at *;refine take_C (i:=0) (v:=.pointer (some ⟨r,0,none⟩)) rfl (by decide) (by kernel_rfl) (by kernel_rfl) (by kernel_rfl) (by kernel_rfl) (fun _ _ _ h=>h) (Or.inl ⟨by rfl,by intro W hW;obtain⟨k9,k10,k11,k12,k13,k4⟩:=HCW.out W hW;go_simp⟩) HWD.out ?_;refine take_C (i:=1) (v:=.pointer (some ⟨r,0,none⟩)) rfl (by decide) (by kernel_rfl) (by kernel_rfl) (by kernel_rfl) (by kernel_rfl) (fun _ _ _ h=>h) (Or.inl ⟨by rfl,by intro W hW;obtain⟨k9,k10,k11,k12,k13,k4⟩:=HCW.out W hW;go_simp⟩) HWD.out ?_;refine take_C (i:=2) (v:=.pointer (some ⟨r,0,none⟩)) rfl (by decide) (by kernel_rfl) (by kernel_rfl) (by kernel_rfl) (by kernel_rfl) (fun _ _ _ h=>h) (Or.inl ⟨by rfl,by intro W hW;obtain⟨k9,k10,k11,k12,k13,k4⟩:=HCW.out W hW;go_simp⟩) HWD.out ?_;refine take_C (i:=3) (v:=.pointer (some ⟨r,0,none⟩)) rfl (by decide) (by kernel_rfl) (by kernel_rfl) (by kernel_rfl) (by kernel_rfl) (fun _ _ _ h=>h) (Or.inl ⟨by rfl,by intro W hW;obtain⟨k9,k10,k11,k12,k13,k4⟩:=HCW.out W hW;go_simp⟩) HWD.out ?_;refine take_C (i:=4) (v:=.pointer (some ⟨r,9,none⟩)) rfl (by decide) (by kernel_rfl) (by kernel_rfl) (by kernel_rfl) (by kernel_rfl) (fun _ _ _ h=>h) (Or.inl ⟨by rfl,by intro W hW;obtain⟨k9,k10,k11,k12,k13,k4⟩:=HCW.out W hW;go_simp⟩) HWD.out ?_;refine take_C (i:=5) (v:=.agg #[.slice da R.W.due.length dc,.int .i64 R.W.o,.slice ha R.W.hs.length hcp,.int .i64 R.W.sr,.int .i64 R.W.tp]) rfl (by decide) (by kernel_rfl) (by kernel_rfl) (by kernel_rfl) (by kernel_rfl) (fun _ _ _ h=>h) (Or.inl ⟨by rfl,by intro W hW;obtain⟨k9,k10,k11,k12,k13,k4⟩:=HCW.out W hW;go_simp⟩) HWD.out ?_;refine take_C (i:=7) (v:=.pointer (some ⟨ab,4,none⟩)) rfl (by decide) (by kernel_rfl) (by kernel_rfl) (by kernel_rfl) (by kernel_rfl) (fun _ _ _ h=>h) (Or.inl ⟨by rfl,by intro W hW;obtain⟨k9,k10,k11,k12,k13,k4⟩:=HCW.out W hW;go_simp⟩) HWD.out ?_;refine take_C (i:=8) (v:=.string s) rfl (by decide) (by kernel_rfl) (by kernel_rfl) (by kernel_rfl) (by kernel_rfl) (fun _ _ _ h=>h) (Or.inl ⟨by rfl,by intro W hW;obtain⟨k9,k10,k11,k12,k13,k4⟩:=HCW.out W hW;go_simp⟩) HWD.out ?_;have HR7:=hide (HR6.out.keep HWD.out);have htu:=turnedL r R.c HCOK.out R.now hn0 hn1 (.slice da R.W.due.length dc) (.slice ha R.W.hs.length hcp) R.W (dtext D) wd HR7.out.cfg (by have hh:=HR7.out.head;unfold rcs at hh;exact hh.cell 8 _ rfl) HDC.out (by have hw:=HR7.out.rows.wd;exact⟨HDE.out▸hw.due,HHE.out▸hw.held⟩) (by omega) (by omega);unfold agW wv at htu;rw[HTT.out]at htu;refine one_C (j:=6) (by kernel_rfl) rfl (fun K hK=>?_);go_simp
   refine htu.mono ?_;clear htu;rintro e w7 ⟨dv7,hv7,rfl,hwd7,hfd7,hfh7,hb7⟩;obtain⟨da7,dc7,hde7⟩:=own_shapeJ hwd7.due;obtain⟨ha7,hc7,hhe7⟩:=own_shapeJ hwd7.held;subst hde7;subst hhe7;have HB7:=hide (HWD.out.trans (hb7.mono HWD.out.size));have hwl:(wturn (dtext D) tt R.W).hs.length≤1000000000:=by
    unfold wturn;split
    ·omega
    ·split
     ·simp
     ·show R.W.hs.length≤_;omega
   refine hK _ _ (fun _=>HB7.out) ?_;clear hK K;have htk:=takenL da7 (wturn (dtext D) tt R.W).due.length dc7 (wturn (dtext D) tt R.W).o (wturn (dtext D) tt R.W).sr (wturn (dtext D) tt R.W).tp (.slice ha7 (wturn (dtext D) tt R.W).hs.length hc7) (wturn (dtext D) tt R.W).hs s w7 hwd7.held hwl;unfold wv at htk;have HW7:=hide hwd7;have HFD7:=hide hfd7;have HFH7:=hide hfh7;clear hwd7 hfd7 hfh7 hb7 hwl;generalize hWT:wturn (dtext D) tt R.W=WT at *;have HWT:=hide hWT;clear hWT;refine one_C (j:=9) (by kernel_rfl) rfl (fun K hK=>?_);go_simp
   refine htk.mono ?_;clear htk;rintro e w8 ⟨hv8,rfl,hrow8,hb8⟩;obtain⟨ha8,hc8,hhe8⟩:=own_shapeJ hrow8;subst hhe8;have HROW:=hide hrow8;have HB8:=hide (HB7.out.trans (hb8.mono HB7.out.size));have HW8:=hide (HW7.out.keep hb8);have HZ8:=hide (show w6.heap.size≤w7.heap.size from HB7.out.size);have HR8:=hide (HR6.out.keep HB8.out);refine hK _ _ (fun _=>HB8.out) ?_;clear hK K hrow8 hb8;have hh8:=HR8.out.head;unfold rcs at hh8;have d9:=hh8.cell 9 _ rfl;have f9:=hh8.frozen 9;have k10:=hh8.set 9 (.slice da7 WT.due.length dc7);have d10:=k10.cell 10 _ rfl;have f10:=k10.frozen 10;have k11:=k10.set 10 (.int .i64 WT.o);have d11:=k11.cell 11 _ rfl;have f11:=k11.frozen 11;have k12:=k11.set 11 (.slice ha8 (WT.hs++[s]).length hc8);have d12:=k12.cell 12 _ rfl;have f12:=k12.frozen 12;have k13:=k12.set 12 (.int .i64 WT.sr);have d13:=k13.cell 13 _ rfl;have f13:=k13.frozen 13;have HH9:=hide (k13.set 13 (.int .i64 WT.tp));clear hh8 k10 k11 k12 k13;generalize hnl:(WT.hs++[s]).length=nl at *;refine one_C (j:=10) (by kernel_rfl) rfl (fun K hK=>?_);go_simp
   refine hK _ _ (fun h=>absurd h (by decide)) ?_;clear hK K;refine one_C (j:=11) (by kernel_rfl) rfl (fun K hK=>?_);go_simp
   refine hK _ _ (fun h=>absurd h (by decide)) ?_;clear hK K;refine one_C (j:=12) (by kernel_rfl) rfl (fun K hK=>?_);go_simp
   refine hK _ _ (fun h=>absurd h (by decide)) ?_;clear hK K;refine done_C (by kernel_rfl) ?_ _;clear d9 f9 d10 f10 d11 f11 d12 f12 d13 f13;have HO9:=hide (show Off [r] w8 (((((w8.setCell ⟨r,9,none⟩ (.slice da7 WT.due.length dc7)).setCell ⟨r,10,none⟩ (.int .i64 WT.o)).setCell ⟨r,11,none⟩ (.slice ha8 nl hc8)).setCell ⟨r,12,none⟩ (.int .i64 WT.sr)).setCell ⟨r,13,none⟩ (.int .i64 WT.tp)) from(((((Off.refl _ _).set (uB.2 rfl) _ _).set (uB.2 rfl) _ _).set (uB.2 rfl) _ _).set (uB.2 rfl) _ _).set (uB.2 rfl) _ _);have HRT:=hide (show rturn R D={R with W:=WT,sl:=if tt≤R.W.o then R.sl else R.W.o ::R.sl} from by unfold rturn;rw[HTT.out,HWT.out]);generalize hsl:(if tt≤R.W.o then R.sl else R.W.o ::R.sl)=sl' at *;clear hsl;obtain⟨R9,hR9⟩:∃R9:Rn,R9={R with W:={WT with hs:=WT.hs++[s]},sl:=sl'}:=⟨_,rfl⟩;obtain⟨p9,hp9⟩:∃p9:Rp,p9={p with q:=q',dv:=.slice da7 WT.due.length dc7,hv:=.slice ha8 nl hc8}:=⟨_,rfl⟩;have hra9:RA (((((w8.setCell ⟨r,9,none⟩ (.slice da7 WT.due.length dc7)).setCell ⟨r,10,none⟩ (.int .i64 WT.o)).setCell ⟨r,11,none⟩ (.slice ha8 nl hc8)).setCell ⟨r,12,none⟩ (.int .i64 WT.sr)).setCell ⟨r,13,none⟩ (.int .i64 WT.tp)) r R9 D' p9:=by
    have hrw:=HR8.out.rows;have hz6:=HR6.out.lfl;refine HR8.out.put HO9.out ?_ (by rw[hp9]) (by rw[hp9]) ?_ (by rw[hp9];exact HR8.out.rm) ?_
    ·rw[hR9,hp9];exact HH9.out
    ·rw[hR9,hp9];refine⟨⟨HW8.out.due,?_⟩,hrw.ever,hrw.gone,hrw.lists,hrw.grown,hrw.ents,hrw.ml,fun k hk=>⟨fun hm=>?_,(hrw.e1 k hk).2⟩,hrw.e2⟩
     ·have:=Apn.weaken HROW.out;simp only[hnl]at this ⊢;exact this
     ·rcases HFD7.out k hm with e|e
      ·exact(hrw.e1 k hk).1 (HDE.out▸e)
      ·have h1:=hz6 k (lf_e hk);have h2:=HWD.out.size;omega
    ·intro k hk;have hz7:=HR6.out.da.lt;rw[hp9]at hk;rcases lf_cases hk with e|e|e|e|e|e|e|e
     ·exact e▸HR8.out.ap r (lf_r _ _)
     ·rcases HFD7.out k e with e2|e2
      ·exact HR8.out.ap k (lf_d (HDE.out▸e2))
      ·intro hd;have h1:=hz7 k hd;have h2:=HWD.out.size;omega
     ·intro hd;have h1:=hz7 k hd;have h2:=own_new HROW.out k e;have h3:=HZ8.out;omega
     ·exact HR8.out.ap k (lf_e e)
     ·exact HR8.out.ap k (lf_g e)
     ·exact HR8.out.ap k (lf_l e)
     ·exact HR8.out.ap k (lf_k e)
     ·exact HR8.out.ap k (lf_m e)
   have hfp9:∀k∈rf r p9,k∈rf r p∨w.heap.size≤k:=fun k hk=>by
    rw[hp9]at hk;have hw6:w.heap.size≤w6.heap.size:=HO6.out.size;have hwd6:=HWD.out.size;rcases List.mem_append.1 hk with e|e
    ·rcases lf_cases e with e|e|e|e|e|e|e|e
     ·exact Or.inl (uA _ (e▸lf_r _ _))
     ·rcases HFD7.out k e with e2|e2
      ·exact Or.inl (uA _ (lf_d (HDE.out▸e2)))
      ·exact Or.inr (by omega)
     ·have h2:=own_new HROW.out k e;have h3:=HZ8.out;exact Or.inr (by omega)
     ·exact Or.inl (uA _ (lf_e e))
     ·exact Or.inl (uA _ (lf_g e))
     ·exact Or.inl (uA _ (lf_l e))
     ·exact Or.inl (uA _ (lf_k e))
     ·exact Or.inl (uA _ (lf_m e))
    ·exact HF4.out k (uC _ e)
   have hrel9:Rel R9 D' (n+s.size+2):=by
    have:=HRN.out;rw[HRT.out]at this;rw[hR9];exact this
   have HO10:=hide (show Off (rf r p) w (((((w8.setCell ⟨r,9,none⟩ (.slice da7 WT.due.length dc7)).setCell ⟨r,10,none⟩ (.int .i64 WT.o)).setCell ⟨r,11,none⟩ (.slice ha8 nl hc8)).setCell ⟨r,12,none⟩ (.int .i64 WT.sr)).setCell ⟨r,13,none⟩ (.int .i64 WT.tp)) from(HO6.out.trans (Off.of_below HB8.out)).trans (HO9.out.mono fun k _ hk=>uB.1 hk▸uA _ (lf_r _ _)));have hls9:p9.ls.length≤p.ls.length+1:=by rw[hp9];exact uE _
   have HRA:=hide hra9;have HFP:=hide hfp9;have HRL:=hide hrel9;have HLS:=hide hls9;clear hra9 hfp9 hrel9 hls9 hR9 hp9 HH9 HO9;generalize ((((w8.setCell ⟨r,9,none⟩ (.slice da7 WT.due.length dc7)).setCell ⟨r,10,none⟩ (.int .i64 WT.o)).setCell ⟨r,11,none⟩ (.slice ha8 nl hc8)).setCell ⟨r,12,none⟩ (.int .i64 WT.sr)).setCell ⟨r,13,none⟩ (.int .i64 WT.tp)=w9 at *;have hgr:=grewL HRA.out HRL.out (by omega) u mz hu9 (by omega) HMU.out;go_wp2_with fail
   refine hgr.mono ?_;clear hgr;rintro e w10 ⟨rfl,hb10⟩;have HRA2:=hide (HRA.out.keep hb10);have HO11:=hide (HO10.out.trans (Off.of_below hb10));clear hb10;go_wp2_with fail
   go_end0
   refine⟨rfl,?_⟩;rw[H9.out];exact⟨_,_,HRA2.out,HRL.out,HLS.out,HFP.out,HO11.out⟩
theorem Rel.mono {R:Rn}{D:Dn}{n m:Nat}(h:Rel R D n)(hm:n≤m):Rel R D m:=
 ⟨h.ok.mono hm,h.c,h.now,h.o,h.due,h.evr,h.gon,uD h.gol hm,h.evn,h.evs,h.dus,uD h.sll hm⟩
set_option maxRecDepth 10000 in
theorem syncL (w0 w:World)(hT:Tab w0)(h0:Below w0.heap.size w0 w)(r:Nat)(R:Rn)(D:Dn)(p:Rp)(n:Nat)(h:RA w r R D p)(hr:Rel R D n)(hfar:∀b∈rf r p,w0.heap.size≤b)(hn:n≤8000000)(a0 a1 a2 a3:Int)(s:ByteArray)(D9:Dn)(h9:D9=dsync D):
  Calls Tryz.prog 67 #[.pointer (some ⟨r,0,none⟩),.agg #[.int .i64 a0,.int .i64 a1,.int .i64 a2,.int .i64 a3,.string s]] w fun e w'=>e=.returned (.tuple #[])∧Rq w w' r (n+2) p D9:=by
 have hs1:=Sits.new w 72 #[.int .i64 a0,.int .i64 a1,.int .i64 a2,.int .i64 a3,.string s];have hb1:=below_new (w:=w) (.cells #[.int .i64 a0,.int .i64 a1,.int .i64 a2,.int .i64 a3,.string s] 72);have HA1:=hide hs1;have HB1:=hide hb1;have HR1:=hide (h.keep hb1);have HR:=hide h;have HREL:=hide hr;have HT:=hide hT;have HB0:=hide h0;have HFAR:=hide hfar;have H9:=hide h9;clear h9;clear hs1 hb1 h hr hT h0 hfar;go_enter Tryz.func67,Tryz.ntmps67
 go_upto_region 1 with fail
 generalize w.alloc (.cells #[.int .i64 a0,.int .i64 a1,.int .i64 a2,.int .i64 a3,.string s] 72)=w1 at *;obtain⟨ab,hab⟩:∃ab,w.heap.size=ab:=⟨_,rfl⟩;rw[hab]at HA1 ⊢;have HAB:=hide hab;clear hab;have hsz:=HR1.out.sizeL HREL.out (by omega);obtain⟨u,hu⟩:∃u,Dm.used D.S.segs=u:=⟨_,rfl⟩;rw[hu]at hsz;have HU:=hide hu;have hu9:u≤10000000000:=by
  have h1:=HREL.out.ok.used;omega
 clear hu;go_wp2_with fail
 refine hsz.mono ?_;clear hsz;rintro e w2 ⟨rfl,hb2⟩;have HB2:=hide (HB1.out.trans (hb2.mono HB1.out.size));have HR2:=hide (HR1.out.keep hb2);have HA2:=hide (Mem.Sits.below HA1.out hb2 HA1.out.lt);clear hb2;have hh2:=HR2.out.head;unfold rcs at hh2;have c6:=hh2.cell 6 _ rfl;have hsd:=syncD w0 w2 HT.out (HB0.out.trans (HB2.out.mono HB0.out.size)) p.X D p.q _ n HR2.out.da (fun b hb=>HFAR.out b (uC _ hb)) HREL.out.ok (by omega);have HB3:=hide HB2.out;have HR3:=hide HR2.out;have HA3:=hide HA2.out;clear hh2;go_wp2_with fail
 refine hsd.mono ?_;clear hsd c6;rintro e w4 ⟨rfl,hq⟩;obtain⟨q',hra,hbx,hfp,hod⟩:=HR3.out.daemon hq;have HR4:=hide hra;have HO4:=hide (show Off (rf r p) w w4 from(Off.of_below HB3.out).trans (hod.mono fun k _ hk=>uC _ hk));have HF4:=hide (show ∀k∈rf r {p with q:=q'},k∈rf r p∨w.heap.size≤k from fun k hk=>(hfp k hk).imp id fun h=>uD HB3.out.size h);have HA4:=hide (Foot.Sits.off HA3.out hod (fun hm=>by
  have:=HR.out.lt ab (uC _ hm);have:=HAB.out;omega))
 clear hq hra hbx hfp hod;have HRN:=hide (fun k:Int=>HREL.out.sync k);have HUS:=hide (show Dm.used (dsync D).S.segs=u from(HREL.out.ok.sync.2.1).trans HU.out);generalize dsync D=D' at *;obtain⟨b0,b1,b2,b3,b4⟩:w4.cell? ⟨ab,0,none⟩=some (.int .i64 a0)∧w4.cell? ⟨ab,1,none⟩=some (.int .i64 a1)∧w4.cell? ⟨ab,2,none⟩=some (.int .i64 a2)∧w4.cell? ⟨ab,3,none⟩=some (.int .i64 a3)∧w4.cell? ⟨ab,4,none⟩=some (.string s):=
  ⟨HA4.out.cell 0 _ rfl,HA4.out.cell 1 _ rfl,HA4.out.cell 2 _ rfl,HA4.out.cell 3 _ rfl,HA4.out.cell 4 _ rfl⟩
 go_wp2_with fail
 refine(failed0 r a0 a1 a2 a3 s w4).mono ?_;clear b0 b1 b2 b3 b4;rintro e w5 ⟨rfl,hb5⟩;have HR5:=hide (HR4.out.keep hb5);have HO5:=hide (HO4.out.trans (Off.of_below hb5));clear hb5;obtain⟨ha,hcp,hhe⟩:=own_shapeJ HR5.out.rows.wd.held;have hhe:p.hv=.slice ha R.W.hs.length hcp:=hhe;have hh5:=HR5.out.head;unfold rcs at hh5;have c11:=hh5.cell 11 _ rfl;have c11:w5.cell? ⟨r,11,none⟩=some (.slice ha R.W.hs.length hcp):=hhe▸c11;have c12:=hh5.cell 12 _ rfl;have f12:=hh5.frozen 12;have hhl:R.W.hs.length≤10000000:=by
  have:=HREL.out.len;omega
 have HO6:=hide (show Off [r] w5 (w5.setCell ⟨r,12,none⟩ (.int .i64 (R.W.hs.length:Int))) from(Off.refl _ _).set (uB.2 rfl) _ _);have HRA:=hide (show RA (w5.setCell ⟨r,12,none⟩ (.int .i64 (R.W.hs.length:Int))) r {R with W:={R.W with sr:=(R.W.hs.length:Int)}} D' {p with q:=q'} from
  HR5.out.put HO6.out (hh5.set 12 (.int .i64 (R.W.hs.length:Int))) rfl rfl (by have h:=HR5.out.rows;exact⟨⟨h.wd.due,h.wd.held⟩,h.ever,h.gone,h.lists,h.grown,h.ents,h.ml,h.e1,h.e2⟩) HR5.out.rm HR5.out.ap)
 have HO7:=hide (show Off (rf r p) w (w5.setCell ⟨r,12,none⟩ (.int .i64 (R.W.hs.length:Int))) from HO5.out.trans (HO6.out.mono fun k _ hk=>uB.1 hk▸uA _ (lf_r _ _)));have hgr:=grewL HRA.out ((HRN.out (R.W.hs.length:Int)).mono (show n≤n+2 by omega)) (by omega) u 64 hu9 (by omega) (by rw[HUS.out];omega);have HRL:=hide ((HRN.out (R.W.hs.length:Int)).mono (show n≤n+2 by omega));clear hh5 hhe;go_wp2_with fail
 refine hgr.mono ?_;clear hgr c11 c12 f12;rintro e w8 ⟨rfl,hb8⟩;have HRA2:=hide (HRA.out.keep hb8);have HO8:=hide (HO7.out.trans (Off.of_below hb8));clear hb8;go_wp2_with fail
 go_end0
 refine⟨rfl,?_⟩;rw[H9.out];exact⟨_,_,HRA2.out,HRL.out,uE _,HF4.out,HO8.out⟩
set_option maxRecDepth 10000 in
theorem clockL (w0 w:World)(hT:Tab w0)(h0:Below w0.heap.size w0 w)(r:Nat)(R:Rn)(D:Dn)(p:Rp)(n:Nat)(h:RA w r R D p)(hr:Rel R D n)(hfar:∀b∈rf r p,w0.heap.size≤b)(hn:n≤8000000)(a0 a1 a2 a3:Int)(s:ByteArray)(D9:Dn)(h9:D9=if a2≤R.now∨1000000000<a2 then D else dclock D a2):
  Calls Tryz.prog 66 #[.pointer (some ⟨r,0,none⟩),.agg #[.int .i64 a0,.int .i64 a1,.int .i64 a2,.int .i64 a3,.string s]] w fun e w'=>e=.returned (.tuple #[])∧Rq w w' r (n+2) p D9:=by
 have hs1:=Sits.new w 72 #[.int .i64 a0,.int .i64 a1,.int .i64 a2,.int .i64 a3,.string s];have hb1:=below_new (w:=w) (.cells #[.int .i64 a0,.int .i64 a1,.int .i64 a2,.int .i64 a3,.string s] 72);have HA1:=hide hs1;have HB1:=hide hb1;have HR1:=hide (h.keep hb1);have HR:=hide h;have HREL:=hide hr;have HT:=hide hT;have HB0:=hide h0;have HFAR:=hide hfar;have H9:=hide h9;clear hs1 hb1 h hr hT h0 hfar h9;go_enter Tryz.func66,Tryz.ntmps66
 go_upto_region 1 with fail
 generalize w.alloc (.cells #[.int .i64 a0,.int .i64 a1,.int .i64 a2,.int .i64 a3,.string s] 72)=w1 at *;obtain⟨ab,hab⟩:∃ab,w.heap.size=ab:=⟨_,rfl⟩;rw[hab]at HA1 ⊢;have HAB:=hide hab;clear hab;have hsz:=HR1.out.sizeL HREL.out (by omega);obtain⟨u,hu⟩:∃u,Dm.used D.S.segs=u:=⟨_,rfl⟩;rw[hu]at hsz;have HU:=hide hu;have hu9:u≤10000000000:=by
  have h1:=HREL.out.ok.used;omega
 clear hu;go_wp2_with fail
 refine hsz.mono ?_;clear hsz;rintro e w2 ⟨rfl,hb2⟩;have HB2:=hide (HB1.out.trans (hb2.mono HB1.out.size));have HR2:=hide (HR1.out.keep hb2);have HA2:=hide (Mem.Sits.below HA1.out hb2 HA1.out.lt);clear hb2;have C6:∀q:Bw w2,q.val.cell? ⟨r,6,none⟩=some (.pointer (some ⟨p.X,0,none⟩)):=fun q=>by
  have hh:=(HR2.out.keep q.is).head;unfold rcs at hh;exact hh.cell 6 _ rfl
 have C2:∀q:Bw w2,q.val.cell? ⟨ab,2,none⟩=some (.int .i64 a2):=fun q=>(Mem.Sits.below HA2.out q.is HA2.out.lt).cell 2 _ rfl
 go_wp2_with fail
 refine region_pre 6 (by kernel_rfl) (by kernel_rfl) ?_;simp only[List.take_succ_cons,List.take_zero,List.drop_succ_cons,List.drop_zero];repeat (first
  | go_big_quiet_skip
  | (go_big_quiet_want;go_big_quiet_op;go_big_quiet_on))
 refine wpQuiet_nil ?_;intro q;have HB3:=hide (HB2.out.trans (q.is.mono HB2.out.size));have HR3:=hide (HR2.out.keep q.is);have HA3:=hide (Mem.Sits.below HA2.out q.is HA2.out.lt);clear C6 C2;generalize q.val=w3 at *;have hcd:=clockD w0 w3 HT.out (HB0.out.trans (HB3.out.mono HB0.out.size)) p.X D p.q _ n HR3.out.da (fun b hb=>HFAR.out b (uC _ hb)) HREL.out.ok (by omega) a2;rw[←HREL.out.now]at hcd;go_wp2_with fail
 refine hcd.mono ?_;clear hcd;rintro e w4 ⟨rfl,hq⟩;obtain⟨q',hra,hbx,hfp,hod⟩:=HR3.out.daemon hq;have HR4:=hide hra;have HO4:=hide (show Off (rf r p) w w4 from(Off.of_below HB3.out).trans (hod.mono fun k _ hk=>uC _ hk));have HF4:=hide (show ∀k∈rf r {p with q:=q'},k∈rf r p∨w.heap.size≤k from fun k hk=>(hfp k hk).imp id fun h=>uD HB3.out.size h);have HA4:=hide (Foot.Sits.off HA3.out hod (fun hm=>by
  have:=HR.out.lt ab (uC _ hm);have:=HAB.out;omega))
 clear hq hra hbx hfp hod;have C2:∀q:Bw w4,q.val.cell? ⟨ab,2,none⟩=some (.int .i64 a2):=fun q=>(Mem.Sits.below HA4.out q.is HA4.out.lt).cell 2 _ rfl
 have C8:∀q:Bw w4,q.val.cell? ⟨r,8,none⟩=some (.int .i64 R.now):=fun q=>by
  have hh:=(HR4.out.keep q.is).head;unfold rcs at hh;exact hh.cell 8 _ rfl
 go_wp2_with fail
 by_cases hearly:a2≤R.now∨1000000000<a2
 ·have HEA:=hide hearly;have fin:∀w5,Below w4.heap.size w4 w5→Rq w w5 r (n+2) p D9:=fun w5 hb=>by
   have hk:=HR4.out.keep hb;rw[if_pos HEA.out]at hk;rw[H9.out,if_pos HEA.out];exact⟨_,_,hk,HREL.out.mono (by omega),uE _,HF4.out,HO4.out.trans (Off.of_below hb)⟩
  have FIN:=hide fin;clear fin;by_cases h1:a2≤R.now
  ·clear hearly;refine region_cls (by kernel_rfl) (by kernel_rfl) ?_;repeat (first
    | go_big_quiet_skip
    | (go_big_quiet_want;go_big_quiet_op;go_big_quiet_on))
   refine wpQuiet_nil ?_;rintro _ ⟨q5,rfl⟩;have HB5:=hide q5.is;clear C2 C8 h1;generalize q5.val=w5 at *;go_wp2_with fail
   refine(Check.num _ _).mono ?_;rintro e w6 ⟨rfl,hw6⟩;subst hw6;go_wp2_with fail
   refine(mustT r _).mono ?_;rintro e w6 ⟨rfl,hw6⟩;subst hw6;go_wp2_with fail
   refine bodyPost_ret (results_none rfl _ _ _) rfl ?_;exact⟨rfl,FIN.out _ HB5.out⟩
  ·have h2:1000000000<a2:=hearly.resolve_left h1;clear hearly;refine region_cls (by kernel_rfl) (by kernel_rfl) ?_;repeat (first
    | go_big_quiet_skip
    | (go_big_quiet_want;go_big_quiet_op;go_big_quiet_on))
   refine wpQuiet_nil ?_;rintro _ ⟨q5,rfl⟩;have HB5:=hide q5.is;clear C2 C8 h1 h2;generalize q5.val=w5 at *;go_wp2_with fail
   refine(Check.num _ _).mono ?_;rintro e w6 ⟨rfl,hw6⟩;subst hw6;go_wp2_with fail
   refine(mustT r _).mono ?_;rintro e w6 ⟨rfl,hw6⟩;subst hw6;go_wp2_with fail
   refine bodyPost_ret (results_none rfl _ _ _) rfl ?_;exact⟨rfl,FIN.out _ HB5.out⟩
 ·have h1:¬a2≤R.now:=fun e=>hearly (Or.inl e)
  have h2:¬1000000000<a2:=fun e=>hearly (Or.inr e)
  rw[if_neg hearly]at HR4;have h9:=H9.out;rw[if_neg hearly]at h9;clear H9;have H9:=hide h9;clear h9;have hnow:=HREL.out.now;have hck:=HREL.out.ok.clk;have ha0:0≤a2:=by omega
  have ha1:a2≤1000000000:=by omega
  have HRT:=hide (show Rel (rturn {R with now:=a2} {D with clock:=a2}) (dclock D a2) (n+1) from(HREL.out.tick ha0 ha1).turn);have HUS:=hide (show Dm.used (dclock D a2).S.segs≤u+64 from by
   have h3:=(HREL.out.tick ha0 ha1).ok.turn.2.1;have h4:=HU.out;have h5:dclock D a2=dturn {D with clock:=a2}:=rfl;rw[h5];refine uD h3 ?_;show Dm.used D.S.segs+_≤_;split<;>omega)
  have HDC:=hide (show Doc R.c R.W.o R.W.hs (dtext D) from HREL.out.doc (by omega));have HZX:=hide (show dtext {D with clock:=a2}=dtext D from rfl);generalize dclock D a2=D' at *;clear hearly hnow hck;refine region_cls (by kernel_rfl) (by kernel_rfl) ?_;repeat (first
   | go_big_quiet_skip
   | (go_big_quiet_want;go_big_quiet_op;go_big_quiet_on))
  refine wpQuiet_nil ?_;rintro _ ⟨q5,rfl⟩;have HR5:=hide (HR4.out.keep q5.is);have HA5:=hide (Mem.Sits.below HA4.out q5.is HA4.out.lt);have HO5:=hide (HO4.out.trans (Off.of_below q5.is));clear C2 C8 h1 h2;generalize q5.val=w5 at *;have hh5:=HR5.out.head;unfold rcs at hh5;have c8:=hh5.cell 8 _ rfl;have f8:=hh5.frozen 8;have hso:Off [r] w5 (w5.setCell ⟨r,8,none⟩ (.int .i64 a2)):=(Off.refl _ _).set (uB.2 rfl) _ _;have hra6:RA (w5.setCell ⟨r,8,none⟩ (.int .i64 a2)) r {R with now:=a2} D' {p with q:=q'}:=HR5.out.put hso (hh5.set 8 (.int .i64 a2)) rfl rfl (by have h:=HR5.out.rows;exact⟨h.wd,h.ever,h.gone,h.lists,h.grown,h.ents,h.ml,h.e1,h.e2⟩) HR5.out.rm HR5.out.ap;have HA6:=hide (Foot.Sits.off HA5.out hso (fun e=>by
   have h3:=HR.out.lt r (uA _ (lf_r _ _));have h4:=HAB.out;rw[uB]at e;omega))
  have HO6:=hide (show Off (rf r p) w (w5.setCell ⟨r,8,none⟩ (.int .i64 a2)) from HO5.out.trans (hso.mono fun k _ hk=>uB.1 hk▸uA _ (lf_r _ _)));have HR6:=hide hra6;have e2:=HA5.out.cell 2 _ rfl;obtain⟨b0,b1,b2,b3,b4⟩:(w5.setCell ⟨r,8,none⟩ (.int .i64 a2)).cell? ⟨ab,0,none⟩=some (.int .i64 a0)∧(w5.setCell ⟨r,8,none⟩ (.int .i64 a2)).cell? ⟨ab,1,none⟩=some (.int .i64 a1)∧(w5.setCell ⟨r,8,none⟩ (.int .i64 a2)).cell? ⟨ab,2,none⟩=some (.int .i64 a2)∧(w5.setCell ⟨r,8,none⟩ (.int .i64 a2)).cell? ⟨ab,3,none⟩=some (.int .i64 a3)∧(w5.setCell ⟨r,8,none⟩ (.int .i64 a2)).cell? ⟨ab,4,none⟩=some (.string s):=
   ⟨HA6.out.cell 0 _ rfl,HA6.out.cell 1 _ rfl,HA6.out.cell 2 _ rfl,HA6.out.cell 3 _ rfl,HA6.out.cell 4 _ rfl⟩
  clear hh5 hso hra6;go_wp2_with fail
  refine(failed0 r a0 a1 a2 a3 s _).mono ?_;clear b0 b1 b2 b3 b4 c8 f8 e2;generalize w5.setCell ⟨r,8,none⟩ (.int .i64 a2)=w6 at *;rintro e w7 ⟨rfl,hb7⟩;have HR7:=hide (HR6.out.keep hb7);have HO7:=hide (HO6.out.trans (Off.of_below hb7));clear hb7;obtain⟨ha,hcp,hhe⟩:=own_shapeJ HR7.out.rows.wd.held;obtain⟨da,dc,hde⟩:=own_shapeJ HR7.out.rows.wd.due;have hhe:p.hv=.slice ha R.W.hs.length hcp:=hhe;have hde:p.dv=.slice da R.W.due.length dc:=hde;have HHE:=hide hhe;have HDE:=hide hde;have hh7:=HR7.out.head;unfold rcs at hh7;rw[hhe,hde]at hh7;have k9:=hh7.cell 9 _ rfl;have k10:=hh7.cell 10 _ rfl;have k11:=hh7.cell 11 _ rfl;have k12:=hh7.cell 12 _ rfl;have k13:=hh7.cell 13 _ rfl;have k17:=hh7.cell 17 _ rfl;have hcok:COk R.c:=HREL.out.c▸HREL.out.ok.cok;have hrl:=HREL.out.len;have hdl:R.W.due.length≤10000000:=by
   have h3:=HREL.out.ok.dues;rw[HREL.out.due];omega
  have htu:=turnedL r R.c hcok a2 ha0 ha1 (.slice da R.W.due.length dc) (.slice ha R.W.hs.length hcp) R.W (dtext D) w7 HR7.out.cfg (hh7.cell 8 _ rfl) HDC.out (by have hw:=HR7.out.rows.wd;exact⟨HDE.out▸hw.due,HHE.out▸hw.held⟩) (by omega) (by omega);obtain⟨WT,hWT⟩:∃WT,wturn (dtext D) (a2 / R.c 0) R.W=WT:=⟨_,rfl⟩;rw[hWT]at htu;have HWT:=hide hWT;unfold agW wv at htu;clear hh7 hhe hde hWT;go_wp2_with fail
  refine htu.mono ?_;clear htu k9 k10 k11 k12 k13 k17;rintro e w8 ⟨dv8,hv8,rfl,hwd8,hfd8,hfh8,hb8⟩;obtain⟨da8,dc8,hde8⟩:=own_shapeJ hwd8.due;obtain⟨ha8,hc8,hhe8⟩:=own_shapeJ hwd8.held;subst hde8;subst hhe8;have HR8:=hide (HR7.out.keep hb8);have HO8:=hide (HO7.out.trans (Off.of_below hb8));have HWD8:=hide hwd8;have HFD8:=hide hfd8;have HFH8:=hide hfh8;clear hwd8 hfd8 hfh8 hb8;have hh8:=HR8.out.head;unfold rcs at hh8;have d9:=hh8.cell 9 _ rfl;have f9:=hh8.frozen 9;have m10:=hh8.set 9 (.slice da8 WT.due.length dc8);have d10:=m10.cell 10 _ rfl;have f10:=m10.frozen 10;have m11:=m10.set 10 (.int .i64 WT.o);have d11:=m11.cell 11 _ rfl;have f11:=m11.frozen 11;have m12:=m11.set 11 (.slice ha8 WT.hs.length hc8);have d12:=m12.cell 12 _ rfl;have f12:=m12.frozen 12;have m13:=m12.set 12 (.int .i64 WT.sr);have d13:=m13.cell 13 _ rfl;have f13:=m13.frozen 13;have HH9:=hide (m13.set 13 (.int .i64 WT.tp));have HO9:=hide (show Off [r] w8 (((((w8.setCell ⟨r,9,none⟩ (.slice da8 WT.due.length dc8)).setCell ⟨r,10,none⟩ (.int .i64 WT.o)).setCell ⟨r,11,none⟩ (.slice ha8 WT.hs.length hc8)).setCell ⟨r,12,none⟩ (.int .i64 WT.sr)).setCell ⟨r,13,none⟩ (.int .i64 WT.tp)) from(((((Off.refl _ _).set (uB.2 rfl) _ _).set (uB.2 rfl) _ _).set (uB.2 rfl) _ _).set (uB.2 rfl) _ _).set (uB.2 rfl) _ _);clear hh8 m10 m11 m12 m13;have HRTE:=hide (show rturn {R with now:=a2} {D with clock:=a2}={R with now:=a2,W:=WT,sl:=if a2 / R.c 0≤R.W.o then R.sl else R.W.o ::R.sl} from by unfold rturn;rw[HZX.out,HWT.out]);generalize hsl:(if a2 / R.c 0≤R.W.o then R.sl else R.W.o ::R.sl)=sl' at *;clear hsl;obtain⟨R9,hR9⟩:∃R9:Rn,R9={R with now:=a2,W:=WT,sl:=sl'}:=⟨_,rfl⟩;obtain⟨p9,hp9⟩:∃p9:Rp,p9={p with q:=q',dv:=.slice da8 WT.due.length dc8,hv:=.slice ha8 WT.hs.length hc8}:=⟨_,rfl⟩;have hra9:RA (((((w8.setCell ⟨r,9,none⟩ (.slice da8 WT.due.length dc8)).setCell ⟨r,10,none⟩ (.int .i64 WT.o)).setCell ⟨r,11,none⟩ (.slice ha8 WT.hs.length hc8)).setCell ⟨r,12,none⟩ (.int .i64 WT.sr)).setCell ⟨r,13,none⟩ (.int .i64 WT.tp)) r R9 D' p9:=by
   have hrw:=HR8.out.rows;have hz7:=HR7.out.lfl;refine HR8.out.put HO9.out ?_ (by rw[hp9]) (by rw[hp9]) ?_ (by rw[hp9];exact HR8.out.rm) ?_
   ·rw[hR9,hp9];exact HH9.out
   ·rw[hR9,hp9];refine⟨HWD8.out,hrw.ever,hrw.gone,hrw.lists,hrw.grown,hrw.ents,hrw.ml,fun k hk=>⟨fun hm=>?_,(hrw.e1 k hk).2⟩,hrw.e2⟩;rcases HFD8.out k hm with e|e
    ·exact(hrw.e1 k hk).1 (HDE.out▸e)
    ·have h1:=hz7 k (lf_e hk);omega
   ·intro k hk;have hzd:=HR7.out.da.lt;rw[hp9]at hk;rcases lf_cases hk with e|e|e|e|e|e|e|e
    ·exact e▸HR8.out.ap r (lf_r _ _)
    ·rcases HFD8.out k e with e2|e2
     ·exact HR8.out.ap k (lf_d (HDE.out▸e2))
     ·intro hd;have h1:=hzd k hd;omega
    ·rcases HFH8.out k e with e2|e2
     ·exact HR8.out.ap k (lf_h (HHE.out▸e2))
     ·intro hd;have h1:=hzd k hd;omega
    ·exact HR8.out.ap k (lf_e e)
    ·exact HR8.out.ap k (lf_g e)
    ·exact HR8.out.ap k (lf_l e)
    ·exact HR8.out.ap k (lf_k e)
    ·exact HR8.out.ap k (lf_m e)
  have hfp9:∀k∈rf r p9,k∈rf r p∨w.heap.size≤k:=fun k hk=>by
   rw[hp9]at hk;have hw7:w.heap.size≤w7.heap.size:=HO7.out.size;rcases List.mem_append.1 hk with e|e
   ·rcases lf_cases e with e|e|e|e|e|e|e|e
    ·exact Or.inl (uA _ (e▸lf_r _ _))
    ·rcases HFD8.out k e with e2|e2
     ·exact Or.inl (uA _ (lf_d (HDE.out▸e2)))
     ·exact Or.inr (by omega)
    ·rcases HFH8.out k e with e2|e2
     ·exact Or.inl (uA _ (lf_h (HHE.out▸e2)))
     ·exact Or.inr (by omega)
    ·exact Or.inl (uA _ (lf_e e))
    ·exact Or.inl (uA _ (lf_g e))
    ·exact Or.inl (uA _ (lf_l e))
    ·exact Or.inl (uA _ (lf_k e))
    ·exact Or.inl (uA _ (lf_m e))
   ·exact HF4.out k (uC _ e)
  have hrel9:Rel R9 D' (n+2):=by
   have:=HRT.out;rw[HRTE.out]at this;rw[hR9];exact this.mono (by omega)
  have HO10:=hide (show Off (rf r p) w (((((w8.setCell ⟨r,9,none⟩ (.slice da8 WT.due.length dc8)).setCell ⟨r,10,none⟩ (.int .i64 WT.o)).setCell ⟨r,11,none⟩ (.slice ha8 WT.hs.length hc8)).setCell ⟨r,12,none⟩ (.int .i64 WT.sr)).setCell ⟨r,13,none⟩ (.int .i64 WT.tp)) from HO8.out.trans (HO9.out.mono fun k _ hk=>uB.1 hk▸uA _ (lf_r _ _)));have hls9:p9.ls.length≤p.ls.length+1:=by rw[hp9];exact uE _
  have HRA:=hide hra9;have HFP:=hide hfp9;have HRL:=hide hrel9;have HLS:=hide hls9;have hgr:=grewL HRA.out HRL.out (by omega) u 64 hu9 (by omega) HUS.out;clear hra9 hfp9 hrel9 hls9 hR9 hp9 HH9 HO9;go_wp2_with fail
  refine hgr.mono ?_;clear hgr d9 f9 d10 f10 d11 f11 d12 f12 d13 f13;rintro e w10 ⟨rfl,hb10⟩;have HRA2:=hide (HRA.out.keep hb10);have HO11:=hide (HO10.out.trans (Off.of_below hb10));clear hb10;go_wp2_with fail
  go_end0
  refine⟨rfl,?_⟩;rw[H9.out];exact⟨_,_,HRA2.out,HRL.out,HLS.out,HFP.out,HO11.out⟩
end Go.Proofs.YtenegfafjjknoaaGreatDoor.Lw
