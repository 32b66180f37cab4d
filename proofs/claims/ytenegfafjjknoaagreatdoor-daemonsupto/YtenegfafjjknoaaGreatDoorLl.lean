/- The law of daemons: Ack. -/
import Derived.Test.YtenegfafjjknoaaGreatDoorLjy
set_option maxHeartbeats 100000000
open List renaming mem_append_left → uA, mem_append_right → uB, mem_singleton → uC
namespace Go.Proofs.YtenegfafjjknoaaGreatDoor.Lw
open Go.RowKit Go.Maps Mem Foot Bytes Im Wm Hi Plainw Cq Dm Dh Jr Wi Sk Hn Kr Dd
theorem own_not {w:World}{base size n base' size' n':Nat}{e e':TypeId}{v v':Value}{xs xs':List Value}(h:w.ownsRow base e size v n xs)(h':w.ownsRow base' e' size' v' n' xs')(hne:e≠e'):∀k∈v.ownBlock.toList,k∉v'.ownBlock.toList:=fun k hk hk'=>by
 obtain⟨cs,hs⟩:=sits_row h hk;obtain⟨cs',hs'⟩:=sits_row h' hk';exact sits_neJ hs hs' hne rfl
theorem RA.gones {w w1 w2 w3:World}{r:Nat}{R:Rn}{D:Dn}{p:Rp}(h:RA w r R D p)(hb:Below w.heap.size w w1){gv':Value}{x:Int}(ho:Off p.gv.ownBlock.toList w1 w2)(hrow:w2.ownsRow 0 3 1 gv' (R.gone++[x]).length ((R.gone++[x]).map (Value.int .i64)))(hsm:∀k∈gv'.ownBlock.toList,k∈p.gv.ownBlock.toList∨w.heap.size≤k)(hs:Off [r] w2 w3)(hh:Sits w3 r 75 (rcs {R with gone:=R.gone++[x]} {p with gv:=gv'})):
  RA w3 r {R with gone:=R.gone++[x]} D {p with gv:=gv'}∧(∀k∈rf r {p with gv:=gv'},k∈rf r p∨w.heap.size≤k)∧Off (rf r p) w w3:=by
 have h1:=h.keep hb;have hr1:=h1.rows;have hg:∀{base size n:Nat} {e:TypeId} {v:Value} {xs:List Value},w1.ownsRow base e size v n xs→e≠3→∀k∈v.ownBlock.toList,k∉p.gv.ownBlock.toList:=fun ho hne=>own_not ho hr1.gone hne
 have hrn:r∉p.gv.ownBlock.toList:=h.rno.2.2.2.2.1;have hno:∀{w':World} {base size n:Nat} {e:TypeId} {v:Value} {xs:List Value},w'.ownsRow base e size v n xs→Sits w' r 75 (rcs R p)→e≠75→∀k∈v.ownBlock.toList,k∉[r]:=fun ho hs he k hk e=>by
  obtain⟨cs,hs'⟩:=sits_row ho hk;rw[uC.1 e]at hs';exact sits_neJ hs' hs he rfl
 have hh2:Sits w2 r 75 (rcs R p):=Foot.Sits.off h1.head ho hrn;have two:∀{base size n:Nat} {e:TypeId} {v:Value} {xs:List Value},w1.ownsRow base e size v n xs→e≠3→e≠75→w3.ownsRow base e size v n xs:=fun hx h2 h3=>by
  have hy:=own_off hx ho (hg hx h2);exact own_off hy hs (hno hy hh2 h3)
 have hml:∀k∈p.mbs,k∉p.gv.ownBlock.toList∧k∉[r]:=fun k hk=>by
  obtain⟨cs,hs'⟩:=hr1.ml k hk;refine⟨fun e=>?_,fun e=>?_⟩
  ·obtain⟨cs2,hs2⟩:=sits_row hr1.gone e;exact sits_neJ hs' hs2 (by decide) rfl
  ·rw[uC.1 e]at hs';exact sits_neJ hs' h1.head (by decide) rfl
 have hgd:∀k∈p.gv.ownBlock.toList,k∉df p.X p.q:=fun k hk=>h.ap k (lf_g hk)
 have hda:DA w3 p.X D p.q:=(h1.da.off ho (fun k hk e=>hgd k e hk)).off hs (fun k hk e=>h.ap r (lf_r r p) (uC.1 e▸hk));refine⟨⟨hh,hda,⟨⟨two hr1.wd.due (by decide) (by decide),two hr1.wd.held (by decide) (by decide)⟩,two hr1.ever (by decide) (by decide),own_off hrow hs (hno hrow hh2 (by decide)),two hr1.lists (by decide) (by decide),two hr1.grown (by decide) (by decide),fun i e he=>((hr1.ents i e he).off ho fun k hk=>(hml k hk).1).off hs fun k hk=>(hml k hk).2,fun k hk=>(hr1.ml k hk).imp fun cs hs'=>Foot.Sits.off (Foot.Sits.off hs' ho (hml k hk).1) hs (hml k hk).2,hr1.e1,hr1.e2⟩,h.rm,fun k hk=>?_⟩,fun k hk=>?_,?_⟩
 ·rcases lf_cases hk with e|e|e|e|e|e|e|e
  ·exact e▸h.ap r (lf_r _ _)
  ·exact h.ap k (lf_d e)
  ·exact h.ap k (lf_h e)
  ·exact h.ap k (lf_e e)
  ·rcases hsm k e with e2|e2
   ·exact h.ap k (lf_g e2)
   ·intro hd;have:=h.da.lt k hd;omega
  ·exact h.ap k (lf_l e)
  ·exact h.ap k (lf_k e)
  ·exact h.ap k (lf_m e)
 ·rcases List.mem_append.1 hk with e|e
  ·rcases lf_cases e with e|e|e|e|e|e|e|e
   ·exact Or.inl (uA _ (e▸lf_r _ _))
   ·exact Or.inl (uA _ (lf_d e))
   ·exact Or.inl (uA _ (lf_h e))
   ·exact Or.inl (uA _ (lf_e e))
   ·exact(hsm k e).imp (fun e2=>uA _ (lf_g e2)) id
   ·exact Or.inl (uA _ (lf_l e))
   ·exact Or.inl (uA _ (lf_k e))
   ·exact Or.inl (uA _ (lf_m e))
  ·exact Or.inl (uB _ e)
 ·exact((Off.of_below hb).trans (ho.mono fun k _ hk=>uA _ (lf_g hk))).trans (hs.mono fun k _ hk=>uC.1 hk▸uA _ (lf_r _ _))
theorem any_mem (l:List Ms)(win:Int):(l.any fun m=>decide (m.k=win))=decide (win∈l.map (·.k)):=by
 rw[Bool.eq_iff_iff];simp
set_option maxRecDepth 10000 in
theorem ackL (w0 w:World)(hT:Tab w0)(h0:Below w0.heap.size w0 w)(r:Nat)(R:Rn)(D:Dn)(p:Rp)(n:Nat)(h:RA w r R D p)(hr:Rel R D n)(hfar:∀b∈rf r p,w0.heap.size≤b)(hn:n≤8000000)(a0 a1 a2 a3:Int)(s:ByteArray)(hw0:-9223372036854775808≤a2)(hw1:a2≤9223372036854775807)(D9:Dn)(h9:D9=if a2∈R.W.due.map (·.k) then dack D a2 else D):
  Calls Tryz.prog 68 #[.pointer (some ⟨r,0,none⟩),.agg #[.int .i64 a0,.int .i64 a1,.int .i64 a2,.int .i64 a3,.string s]] w fun e w'=>e=.returned (.tuple #[])∧Rq w w' r (n+2) p D9:=by
 have hs1:=Sits.new w 72 #[.int .i64 a0,.int .i64 a1,.int .i64 a2,.int .i64 a3,.string s];have hb1:=below_new (w:=w) (.cells #[.int .i64 a0,.int .i64 a1,.int .i64 a2,.int .i64 a3,.string s] 72);have HA1:=hide hs1;have HB1:=hide hb1;have HR1:=hide (h.keep hb1);have HR:=hide h;have HREL:=hide hr;have HT:=hide hT;have HB0:=hide h0;have HFAR:=hide hfar;have H9:=hide h9;clear hs1 hb1 h hr hT h0 hfar h9;go_enter Tryz.func68,Tryz.ntmps68
 go_upto_region 1 with fail
 generalize w.alloc (.cells #[.int .i64 a0,.int .i64 a1,.int .i64 a2,.int .i64 a3,.string s] 72)=w1 at *;obtain⟨ab,hab⟩:∃ab,w.heap.size=ab:=⟨_,rfl⟩;rw[hab]at HA1 ⊢;have HAB:=hide hab;clear hab;have hsz:=HR1.out.sizeL HREL.out (by omega);obtain⟨u,hu⟩:∃u,Dm.used D.S.segs=u:=⟨_,rfl⟩;rw[hu]at hsz;have HU:=hide hu;have hu9:u≤10000000000:=by
  have h1:=HREL.out.ok.used;omega
 clear hu;go_wp2_with fail
 refine hsz.mono ?_;clear hsz;rintro e w2 ⟨rfl,hb2⟩;have HB2:=hide (HB1.out.trans (hb2.mono HB1.out.size));have HR2:=hide (HR1.out.keep hb2);have HA2:=hide (Mem.Sits.below HA1.out hb2 HA1.out.lt);clear hb2;obtain⟨da,dc,hde⟩:=own_shapeJ HR2.out.rows.wd.due;have HDE:=hide hde;have HCW:=hide (show ∀W,Below w2.heap.size w2 W→(W.cell? ⟨r,9,none⟩=some (.slice da R.W.due.length dc)∧W.cell? ⟨ab,2,none⟩=some (.int .i64 a2)) from fun W hW=>by
  have hh:=(HR2.out.keep hW).head;unfold rcs at hh;exact⟨hde▸hh.cell 9 _ rfl,(Mem.Sits.below HA2.out hW HA2.out.lt).cell 2 _ rfl⟩)
 have hdl:R.W.due.length≤10000000:=by
  have h3:=HREL.out.ok.dues;rw[HREL.out.due];omega
 clear hde;go_wp2_with fail
 refine region_D (fun W=>Below w2.heap.size w2 W) 12 (by kernel_rfl) ?_;have HWD:=hide (show Below w2.heap.size w2 w2.drew from(Below.refl _ _).drew);generalize w2.drew=wd at *;refine take_C (i:=0) (v:=.pointer (some ⟨r,0,none⟩)) rfl (by decide) (by kernel_rfl) (by kernel_rfl) (by kernel_rfl) (by kernel_rfl) (fun _ _ _ h=>h) (Or.inl ⟨by rfl,by intro W hW;obtain⟨k9,k2⟩:=HCW.out W hW;go_simp⟩) HWD.out ?_;refine take_C (i:=1) (v:=.pointer (some ⟨r,0,none⟩)) rfl (by decide) (by kernel_rfl) (by kernel_rfl) (by kernel_rfl) (by kernel_rfl) (fun _ _ _ h=>h) (Or.inl ⟨by rfl,by intro W hW;obtain⟨k9,k2⟩:=HCW.out W hW;go_simp⟩) HWD.out ?_;refine take_C (i:=2) (v:=.pointer (some ⟨r,9,none⟩)) rfl (by decide) (by kernel_rfl) (by kernel_rfl) (by kernel_rfl) (by kernel_rfl) (fun _ _ _ h=>h) (Or.inl ⟨by rfl,by intro W hW;obtain⟨k9,k2⟩:=HCW.out W hW;go_simp⟩) HWD.out ?_;refine take_C (i:=3) (v:=.pointer (some ⟨r,9,none⟩)) rfl (by decide) (by kernel_rfl) (by kernel_rfl) (by kernel_rfl) (by kernel_rfl) (fun _ _ _ h=>h) (Or.inl ⟨by rfl,by intro W hW;obtain⟨k9,k2⟩:=HCW.out W hW;go_simp⟩) HWD.out ?_;refine take_C (i:=4) (v:=.slice da R.W.due.length dc) rfl (by decide) (by kernel_rfl) (by kernel_rfl) (by kernel_rfl) (by kernel_rfl) (fun _ _ _ h=>h) (Or.inl ⟨by rfl,by intro W hW;obtain⟨k9,k2⟩:=HCW.out W hW;go_simp⟩) HWD.out ?_;refine take_C (i:=5) (v:=.pointer (some ⟨ab,2,none⟩)) rfl (by decide) (by kernel_rfl) (by kernel_rfl) (by kernel_rfl) (by kernel_rfl) (fun _ _ _ h=>h) (Or.inl ⟨by rfl,by intro W hW;obtain⟨k9,k2⟩:=HCW.out W hW;go_simp⟩) HWD.out ?_;refine take_C (i:=6) (v:=.int .i64 a2) rfl (by decide) (by kernel_rfl) (by kernel_rfl) (by kernel_rfl) (by kernel_rfl) (fun _ _ _ h=>h) (Or.inl ⟨by rfl,by intro W hW;obtain⟨k9,k2⟩:=HCW.out W hW;go_simp⟩) HWD.out ?_;have hwo:=withoutL (.slice da R.W.due.length dc) R.W.due a2 wd (HDE.out▸(HR2.out.keep HWD.out).rows.wd.due) (by omega);rw[any_mem]at hwo;obtain⟨bq,hbq⟩:∃bq,decide (a2∈R.W.due.map (·.k))=bq:=⟨_,rfl⟩;rw[hbq]at hwo;have HBQ:=hide hbq;clear hbq;refine one_C (j:=7) (by kernel_rfl) rfl (fun K hK=>?_);go_simp
 refine hwo.mono ?_;clear hwo;rintro e w3 ⟨lv,rfl,hrow,hb3⟩;obtain⟨la,lc,rfl⟩:=own_shapeJ hrow;have HB3w:=hide (HWD.out.trans (hb3.mono HWD.out.size));have HB3:=hide (HB2.out.trans (HB3w.out.mono HB2.out.size));have HR3:=hide (HR2.out.keep HB3w.out);have HA3:=hide (Mem.Sits.below HA2.out HB3w.out HA2.out.lt);have HROW:=hide hrow;have HZ2:=hide (show w2.heap.size≤wd.heap.size from HWD.out.size);have HK2:=hide (HREL.out.due);refine hK _ _ (fun _=>HB3w.out) ?_;clear hK K hrow hb3;refine one_C (j:=8) (by kernel_rfl) rfl (fun K hK=>?_);go_simp
 refine hK _ _ (fun _=>HB3w.out) ?_;clear hK K;refine take_C (i:=9) (v:=.slice la (wo a2 R.W.due).length lc) rfl (by decide) (by kernel_rfl) (by kernel_rfl) (by kernel_rfl) (by kernel_rfl) (fun _ _ _ h=>h) (Or.inl ⟨by rfl,by intro W hW;go_simp⟩) HB3w.out ?_;refine take_C (i:=10) (v:=.bool bq) rfl (by decide) (by kernel_rfl) (by kernel_rfl) (by kernel_rfl) (by kernel_rfl) (fun _ _ _ h=>h) (Or.inl ⟨by rfl,by intro W hW;go_simp⟩) HB3w.out ?_;refine one_C (j:=11) (by kernel_rfl) rfl (fun K hK=>?_);go_simp
 refine hK _ _ (fun _=>HB3w.out) ?_;clear hK K;refine one_C (j:=12) (by kernel_rfl) rfl (fun K hK=>?_);go_simp
 refine hK _ _ (fun h=>absurd h (by decide)) ?_;clear hK K;refine done_C (by kernel_rfl) ?_ _;have C6:∀q:Bw w3,q.val.cell? ⟨r,6,none⟩=some (.pointer (some ⟨p.X,0,none⟩)):=fun q=>by
  have hh:=(HR3.out.keep q.is).head;unfold rcs at hh;exact hh.cell 6 _ rfl
 have C2:∀q:Bw w3,q.val.cell? ⟨ab,2,none⟩=some (.int .i64 a2):=fun q=>(Mem.Sits.below HA3.out q.is HA3.out.lt).cell 2 _ rfl
 go_wp2_with fail
 refine region_pre 6 (by kernel_rfl) (by kernel_rfl) ?_;simp only[List.take_succ_cons,List.take_zero,List.drop_succ_cons,List.drop_zero];repeat (first
  | go_big_quiet_skip
  | (go_big_quiet_want;go_big_quiet_op;go_big_quiet_on))
 refine wpQuiet_nil ?_;intro q;have HB3:=hide (HB3.out.trans (q.is.mono HB3.out.size));have HR3:=hide (HR3.out.keep q.is);have HA3:=hide (Mem.Sits.below HA3.out q.is HA3.out.lt);have HROW:=hide (own_keep HROW.out q.is);clear C6 C2;generalize q.val=w3 at *;have had:=ackD w0 w3 HT.out (HB0.out.trans (HB3.out.mono HB0.out.size)) p.X D p.q _ n HR3.out.da (fun b hb=>HFAR.out b (uB _ hb)) HREL.out.ok (by omega) a2 hw0 hw1;rw[←HREL.out.due]at had;go_wp2_with fail
 refine had.mono ?_;clear had;rintro e w4 ⟨rfl,hq⟩;obtain⟨q',hra,hbx,hfp,hod⟩:=HR3.out.daemon hq;have HDN:=hide (show ∀k∈df p.X q',w2.heap.size≤k→k<w3.heap.size→False from fun k hk h1 h2=>by
  rcases hfp k (uB _ hk) with e|e
  ·have:=HR2.out.lt k e;omega
  ·omega)
 have HRW3:=hide (show w4.ownsRow 0 117 2 (.slice la (wo a2 R.W.due).length lc) (wo a2 R.W.due).length (mcells (wo a2 R.W.due))∧(∀k∈(Value.slice la (wo a2 R.W.due).length lc).ownBlock.toList,w2.heap.size≤k∧k<w3.heap.size) from by
  have hnw:∀k∈(Value.slice la (wo a2 R.W.due).length lc).ownBlock.toList,w2.heap.size≤k:=fun k hk=>Nat.le_trans HZ2.out (own_new HROW.out k hk)
  refine⟨own_off (Apn.weaken HROW.out) hod fun k hk hm=>?_,fun k hk=>⟨hnw k hk,row_lt HROW.out hk⟩⟩;have h1:=hnw k hk;have h2:=HR2.out.lt k (uB _ hm);omega)
 have HR4:=hide hra;have HO4:=hide (show Off (rf r p) w w4 from(Off.of_below HB3.out).trans (hod.mono fun k _ hk=>uB _ hk));have HF4:=hide (show ∀k∈rf r {p with q:=q'},k∈rf r p∨w.heap.size≤k from fun k hk=>(hfp k hk).imp id fun h=>Nat.le_trans HB3.out.size h);have HA4:=hide (Foot.Sits.off HA3.out hod (fun hm=>by
  have:=HR.out.lt ab (uB _ hm);have:=HAB.out;omega))
 clear hq hra hbx hfp hod;by_cases hin:a2∈R.W.due.map (·.k)
 ·have h9:=H9.out;rw[if_pos hin]at h9;clear H9;have H9:=hide h9;clear h9;rw[if_pos hin]at HR4;rw[if_pos hin];have hbt:bq=true:=by rw[←HBQ.out];exact decide_eq_true hin
  subst hbt;clear HBQ;have HIN:=hide (show a2∈D.due.map (·.k) from HREL.out.due▸hin);clear hin;have HRN:=hide (HREL.out.ack (by omega) HIN.out);have HUS:=hide (show Dm.used (dack D a2).S.segs≤u+64 from by
   have h1:=(HREL.out.ok.ack (by omega) HIN.out).2.1;have h2:=HU.out;omega)
  generalize dack D a2=D' at *;obtain⟨b0,b1,b2,b3,b4⟩:w4.cell? ⟨ab,0,none⟩=some (.int .i64 a0)∧w4.cell? ⟨ab,1,none⟩=some (.int .i64 a1)∧w4.cell? ⟨ab,2,none⟩=some (.int .i64 a2)∧w4.cell? ⟨ab,3,none⟩=some (.int .i64 a3)∧w4.cell? ⟨ab,4,none⟩=some (.string s):=
   ⟨HA4.out.cell 0 _ rfl,HA4.out.cell 1 _ rfl,HA4.out.cell 2 _ rfl,HA4.out.cell 3 _ rfl,HA4.out.cell 4 _ rfl⟩
  have HRW4:=hide (show w4.ownsRow 0 117 2 (.slice la (wo a2 R.W.due).length lc) (wo a2 R.W.due).length (mcells (wo a2 R.W.due))∧(∀k∈(Value.slice la (wo a2 R.W.due).length lc).ownBlock.toList,w2.heap.size≤k∧k<w3.heap.size) from HRW3.out);go_wp2_with fail
  refine(failed0 r a0 a1 a2 a3 s w4).mono ?_;clear b0 b1 b2 b3 b4;rintro e w5 ⟨rfl,hb5⟩;have HR5:=hide (HR4.out.keep hb5);have HA5:=hide (Mem.Sits.below HA4.out hb5 HA4.out.lt);have HO5:=hide (HO4.out.trans (Off.of_below hb5));have HRW5:=hide (own_keep HRW4.out.1 hb5);have HNW:=hide HRW4.out.2;clear hb5 HRW4;have hh5:=HR5.out.head;unfold rcs at hh5;have c9:=hh5.cell 9 _ rfl;have f9:=hh5.frozen 9;generalize hnl:(wo a2 R.W.due).length=nl at *;have hso:Off [r] w5 (w5.setCell ⟨r,9,none⟩ (.slice la nl lc)):=(Off.refl _ _).set (uC.2 rfl) _ _;have hz2w:w.heap.size≤w2.heap.size:=HB2.out.size;have hra6:RA (w5.setCell ⟨r,9,none⟩ (.slice la nl lc)) r {R with W:={R.W with due:=wo a2 R.W.due}} D' {p with q:=q',dv:=.slice la nl lc}:=by
   have h:=HR5.out.rows;have hlt:=HR2.out.lt;refine HR5.out.put hso (hh5.set 9 (.slice la nl lc)) rfl rfl ⟨⟨?_,h.wd.held⟩,h.ever,h.gone,h.lists,h.grown,h.ents,h.ml,fun k hk=>⟨fun hm=>?_,(h.e1 k hk).2⟩,h.e2⟩ HR5.out.rm ?_
   ·have:=HRW5.out;simp only[hnl];exact this
   ·have h1:=(HNW.out k hm).1;have h2:=hlt k (uA _ (lf_e hk));omega
   ·intro k hk;rcases lf_cases hk with e|e|e|e|e|e|e|e
    ·exact e▸HR5.out.ap r (lf_r _ _)
    ·intro hd;have h1:=HNW.out k e;rcases HF4.out k (uB _ hd) with h2|h2
     ·have h3:=HR.out.lt k h2;omega
     ·exact HDN.out k hd h1.1 h1.2
    ·exact HR5.out.ap k (lf_h e)
    ·exact HR5.out.ap k (lf_e e)
    ·exact HR5.out.ap k (lf_g e)
    ·exact HR5.out.ap k (lf_l e)
    ·exact HR5.out.ap k (lf_k e)
    ·exact HR5.out.ap k (lf_m e)
  have HA6:=hide (Foot.Sits.off HA5.out hso (fun e=>by
   have h3:=HR.out.lt r (uA _ (lf_r _ _));have h4:=HAB.out;rw[uC]at e;omega))
  have HO6:=hide (show Off (rf r p) w (w5.setCell ⟨r,9,none⟩ (.slice la nl lc)) from HO5.out.trans (hso.mono fun k _ hk=>uC.1 hk▸uA _ (lf_r _ _)));have HR6:=hide hra6;have HF6:=hide (show ∀k∈rf r {p with q:=q',dv:=.slice la nl lc},k∈rf r p∨w.heap.size≤k from fun k hk=>by
   rcases List.mem_append.1 hk with e|e
   ·rcases lf_cases e with e|e|e|e|e|e|e|e
    ·exact Or.inl (uA _ (e▸lf_r _ _))
    ·have:=(HNW.out k e).1;exact Or.inr (by omega)
    ·exact Or.inl (uA _ (lf_h e))
    ·exact Or.inl (uA _ (lf_e e))
    ·exact Or.inl (uA _ (lf_g e))
    ·exact Or.inl (uA _ (lf_l e))
    ·exact Or.inl (uA _ (lf_k e))
    ·exact Or.inl (uA _ (lf_m e))
   ·exact HF4.out k (uB _ e))
  clear hh5 hso hra6;go_upto_region 9 with fail
  clear c9 f9;generalize w5.setCell ⟨r,9,none⟩ (.slice la nl lc)=w6 at *;obtain⟨ga,gc,hge⟩:=own_shapeJ HR6.out.rows.gone;have hge:p.gv=.slice ga R.gone.length gc:=hge;have HGE:=hide hge;have hh6:=HR6.out.head;unfold rcs at hh6;have c15:=hh6.cell 15 _ rfl;have c15:w6.cell? ⟨r,15,none⟩=some (.slice ga R.gone.length gc):=hge▸c15;obtain⟨i0,hi,hz0,hz1,hz2⟩:=info_parts infoI;have hgl:R.gone.length≤10000000:=by
   have:=HREL.out.gol;omega
  clear hge hh6;refine region_D (fun W=>W.cell? ⟨r,15,none⟩=some (.slice ga R.gone.length gc)∧W.cell? ⟨ab,2,none⟩=some (.int .i64 a2)) 9 (by kernel_rfl) ?_;have hwd:Below w6.heap.size w6 w6.drew:=(Below.refl _ _).drew;have HCC:=hide (show (fun W:World=>W.cell? ⟨r,15,none⟩=some (.slice ga R.gone.length gc)∧W.cell? ⟨ab,2,none⟩=some (.int .i64 a2)) w6.drew from⟨c15,HA6.out.cell 2 _ rfl⟩);have HWD:=hide hwd;clear hwd c15;generalize w6.drew=wd at *;refine take_C (i:=0) (v:=.pointer (some ⟨r,0,none⟩)) rfl (by decide) (by kernel_rfl) (by kernel_rfl) (by kernel_rfl) (by kernel_rfl) (fun _ _ _ h=>h) (Or.inl ⟨by rfl,by intro W hW;obtain⟨k15,k2⟩:=hW;go_simp⟩) HCC.out ?_;refine take_C (i:=1) (v:=.pointer (some ⟨r,0,none⟩)) rfl (by decide) (by kernel_rfl) (by kernel_rfl) (by kernel_rfl) (by kernel_rfl) (fun _ _ _ h=>h) (Or.inl ⟨by rfl,by intro W hW;obtain⟨k15,k2⟩:=hW;go_simp⟩) HCC.out ?_;refine take_C (i:=2) (v:=.pointer (some ⟨r,0,none⟩)) rfl (by decide) (by kernel_rfl) (by kernel_rfl) (by kernel_rfl) (by kernel_rfl) (fun _ _ _ h=>h) (Or.inl ⟨by rfl,by intro W hW;obtain⟨k15,k2⟩:=hW;go_simp⟩) HCC.out ?_;refine take_C (i:=3) (v:=.pointer (some ⟨r,15,none⟩)) rfl (by decide) (by kernel_rfl) (by kernel_rfl) (by kernel_rfl) (by kernel_rfl) (fun _ _ _ h=>h) (Or.inl ⟨by rfl,by intro W hW;obtain⟨k15,k2⟩:=hW;go_simp⟩) HCC.out ?_;refine take_C (i:=4) (v:=.slice ga R.gone.length gc) rfl (by decide) (by kernel_rfl) (by kernel_rfl) (by kernel_rfl) (by kernel_rfl) (fun _ _ _ h=>h) (Or.inl ⟨by rfl,by intro W hW;obtain⟨k15,k2⟩:=hW;go_simp⟩) HCC.out ?_;refine take_C (i:=5) (v:=.pointer (some ⟨ab,2,none⟩)) rfl (by decide) (by kernel_rfl) (by kernel_rfl) (by kernel_rfl) (by kernel_rfl) (fun _ _ _ h=>h) (Or.inl ⟨by rfl,by intro W hW;obtain⟨k15,k2⟩:=hW;go_simp⟩) HCC.out ?_;refine take_C (i:=6) (v:=.int .i64 a2) rfl (by decide) (by kernel_rfl) (by kernel_rfl) (by kernel_rfl) (by kernel_rfl) (fun _ _ _ h=>h) (Or.inl ⟨by rfl,by intro W hW;obtain⟨k15,k2⟩:=hW;go_simp⟩) HCC.out ?_;refine one_C (j:=7) (by kernel_rfl) rfl (fun K hK=>?_);go_simp
  have hb7:=below_new (w:=wd) (.cells #[.int .i64 a2] 3);have HB7:=hide (HWD.out.trans (hb7.mono HWD.out.size));have HR7:=hide (HR6.out.keep HB7.out);have HSC:=hide (src_val wd (.int .i64 a2) 3 wd.heap.size rfl rfl);have c15':(wd.alloc (.cells #[.int .i64 a2] 3)).cell? ⟨r,15,none⟩=some (.slice ga R.gone.length gc):=by
   have hh:=HR7.out.head;unfold rcs at hh;exact HGE.out▸hh.cell 15 _ rfl
  refine hK _ _ (fun _=>⟨c15',(Mem.Sits.below HA6.out HB7.out HA6.out.lt).cell 2 _ rfl⟩) ?_;clear hK K hb7 c15';have HA7:=hide (Mem.Sits.below HA6.out HB7.out HA6.out.lt);generalize wd.alloc (.cells #[.int .i64 a2] 3)=w7 at *;refine one_C (j:=8) (by kernel_rfl) rfl (fun K hK=>?_);refine Apn.step_any2 rfl (.tmp 51) (.tmp 54) 48 rfl 3 i0 (.int .i64 0) 1 8 Tryz.underlying48 hi hz0 hz1 hz2 rfl (by decide) (.slice ga R.gone.length gc) R.gone.length (R.gone.map (Value.int .i64)) rfl (HGE.out▸HR7.out.rows.gone) _ 1 1 [.int .i64 a2] rfl HSC.out (by unfold maxLen;omega) (by omega) ?_;intro v8 w8 ow8 gr8 sm8 _;obtain⟨ga8,gc8,rfl⟩:=own_shapeJ ow8;have ho8:Off p.gv.ownBlock.toList w7 w8:=HGE.out▸row_off gr8;have hrn:r∉p.gv.ownBlock.toList:=HR7.out.rno.2.2.2.2.1;have hs8:=Foot.Sits.off HR7.out.head ho8 hrn;have hab8:ab∉p.gv.ownBlock.toList:=fun hm=>by
   obtain⟨cs,hs'⟩:=sits_row HR7.out.rows.gone hm;exact sits_neJ HA7.out hs' (by decide) rfl
  have ha8:=Foot.Sits.off HA7.out ho8 hab8;unfold rcs at hs8;have d15:=hs8.cell 15 _ rfl;have f15:=hs8.frozen 15;have HH9:=hide (hs8.set 15 (.slice ga8 (R.gone.length+1) gc8));have HOW:=hide ow8;have HO8:=hide ho8;have HSM:=hide sm8;refine hK _ _ (fun _=>⟨HGE.out▸hs8.cell 15 _ rfl,ha8.cell 2 _ rfl⟩) ?_;clear hK K ow8 gr8 sm8 ho8 hs8 ha8;go_simp
  refine one_C (j:=9) (by kernel_rfl) rfl (fun K hK=>?_);go_simp
  refine hK _ _ (fun h=>absurd h (by decide)) ?_;clear hK K;refine one_C (j:=10) (by kernel_rfl) rfl (fun K hK=>?_);go_simp
  refine hK _ _ (fun h=>absurd h (by decide)) ?_;clear hK K;refine one_C (j:=11) (by kernel_rfl) rfl (fun K hK=>?_);go_simp
  refine hK _ _ (fun h=>absurd h (by decide)) ?_;clear hK K;refine done_C (by kernel_rfl) ?_ _;clear d15 f15;have hz6:=HWD.out.size;obtain⟨hra9,hfp9,hof9⟩:=HR6.out.gones (x:=a2) HB7.out (gv':=.slice ga8 (R.gone.length+1) gc8) HO8.out (by
   have:=HOW.out;rw[List.map_append,List.length_append];exact this) (fun k hk=>by
   rcases HSM.out with e|⟨g,e1,e2⟩
   ·rw[e]at hk;exact Or.inl (HGE.out▸hk)
   ·rw[e1]at hk;have:=HB7.out.size;exact Or.inr (by simp at hk;omega)) ((Off.refl _ _).set (uC.2 rfl) _ _) HH9.out
  have HRA:=hide hra9;have HFP:=hide (show ∀k∈rf r {p with q:=q',dv:=.slice la nl lc,gv:=.slice ga8 (R.gone.length+1) gc8},k∈rf r p∨w.heap.size≤k from fun k hk=>(hfp9 k hk).elim (HF6.out k) fun h=>Or.inr (Nat.le_trans HO6.out.size h));have HOF:=hide (off_trans HO6.out HF6.out hof9);have hgr:=grewL HRA.out (HRN.out.mono (show n+1≤n+2 by omega)) (by omega) u 64 hu9 (by omega) HUS.out;have HRL:=hide (HRN.out.mono (show n+1≤n+2 by omega));clear hra9 hfp9 hof9 HH9;go_wp2_with fail
  refine hgr.mono ?_;clear hgr;rintro e w10 ⟨rfl,hb10⟩;have HRA2:=hide (HRA.out.keep hb10);have HO11:=hide (HOF.out.trans (Off.of_below hb10));clear hb10;go_wp2_with fail
  go_end0
  refine⟨rfl,?_⟩;rw[H9.out];exact⟨_,_,HRA2.out,HRL.out,Nat.le_succ _,HFP.out,HO11.out⟩
 ·rw[if_neg hin]at HR4;rw[if_neg hin];have hbt:bq=false:=by rw[←HBQ.out];exact decide_eq_false hin
  subst hbt;clear HBQ;have HIN:=hide hin;clear hin;go_wp2_with fail
  refine(Check.num _ _).mono ?_;rintro e w6 ⟨rfl,hw6⟩;subst hw6;go_wp2_with fail
  refine(mustT r _).mono ?_;rintro e w6 ⟨rfl,hw6⟩;subst hw6;go_wp2_with fail
  refine bodyPost_ret (results_none rfl _ _ _) rfl ?_;refine⟨rfl,?_⟩;rw[H9.out,if_neg HIN.out];exact⟨_,_,HR4.out,HREL.out.mono (by omega),Nat.le_succ _,HF4.out,HO4.out⟩
end Go.Proofs.YtenegfafjjknoaaGreatDoor.Lw
