/- The law of daemons: a list that came out is told. -/
import Derived.Test.YtenegfafjjknoaaGreatDoorLmy
set_option maxHeartbeats 100000000
open List renaming mem_append_left → uA, getElem?_eq_getElem → uB, mem_of_getElem? → uC
namespace Go.Proofs.YtenegfafjjknoaaGreatDoor.Lw
open Go.RowKit Go.Maps Mem Foot Bytes Im Wm Hi Plainw Cq Dm Dh Jr Wi Sk Hn Kr Dd
set_option maxRecDepth 100000 in
theorem msg_eq (a:Int)(s:ByteArray)(w:World):(binOp .eql 117 (.agg #[.int .i64 a,.string s]) (.agg #[.int .i64 a,.string s])).run Tryz.prog w=.ok (.bool true) w:=by
 have h1:Tryz.prog.underlying 117=some (.struct (Tryz.prog.fieldsOf 117)):=by kernel_rfl
 have h2:Tryz.prog.stoodInHeld 117=false:=by kernel_rfl
 have h3 : (Tryz.prog.fieldsOf 117).toList.map (fun f => (f.name, f.type, f.offset)) = [("Window", 3, 0), ("Text", 9, 1)] := by kernel_rfl
 rw[run_eql_struct,run_equalIn_agg w 9999 _ _ _ h1 h2];generalize (Tryz.prog.fieldsOf 117).toList=fs at h3;clear h1 h2;rcases fs with _|⟨f,_|⟨g,_|⟨x,r⟩⟩⟩
 ·simp at h3
 ·simp at h3
 ·simp only[List.map_cons,List.map_nil,List.cons.injEq,Prod.mk.injEq,and_true]at h3;obtain⟨⟨h1,h2,h4⟩,h5,h6,h7⟩:=h3;simp only[Op.eqFields,h1,h2,h4,h5,h6,h7];go_simp
 ·simp at h3
theorem rise_inj {l:List Ms}(h:Rise l):∀x∈l,∀y∈l,x.k=y.k→x=y:=by
 induction l with
 | nil=>intro x hx;cases hx
 | cons a l ih=>
  have h:=List.pairwise_cons.1 h;intro x hx y hy e;rcases List.mem_cons.1 hx with hx1|hx1
  ·rcases List.mem_cons.1 hy with hy1|hy1
   ·rw[hx1,hy1]
   ·have:=h.1 y hy1;rw[hx1]at e;omega
  ·rcases List.mem_cons.1 hy with hy1|hy1
   ·have:=h.1 x hx1;rw[hy1]at e;omega
   ·exact ih h.2 x hx1 y hy1 e
theorem mustQ (r:Nat)(w:World)(a n:Nat):Calls Tryz.prog 62 #[.pointer (some ⟨r,0,none⟩),.bool true] (w.drewN (a+n)) fun e w'=>e=.returned (.tuple #[])∧∃m,w'=w.drewN (a+m):=
 (mustT r _).mono fun _ _ h=>⟨h.1,n,h.2⟩
theorem cell_keepJ {w w':World}{a:Addr}{v:Value}(h:w.cell? a=some v)(hb:Below w.heap.size w w'):w'.cell? a=some v:=(hb.cell (World.block_lt_of_cell? w a h)).trans h
structure Tq (w W:World)(r:Nat)(R:Rn)(D:Dn)(p:Rp)(n:Nat)(l:Value)(E:List Ms)(ev:Value):Prop where
 ra:RA W r {R with ever:=E} D {p with ev:=ev}
 rel:Rel {R with ever:=E} D n
 row:W.ownsRow 0 117 2 l D.due.length (mcells D.due)
 out:∀k∈l.ownBlock.toList,k∉rf r {p with ev:=ev}
 fp:∀k∈rf r {p with ev:=ev},k∈rf r p∨w.heap.size≤k
 off:Off (rf r p) w W
theorem Tq.keep {w W W':World}{r:Nat}{R:Rn}{D:Dn}{p:Rp}{n:Nat}{l:Value}{E:List Ms}{ev:Value}(h:Tq w W r R D p n l E ev)(hb:Below W.heap.size W W'):Tq w W' r R D p n l E ev:=
 ⟨h.ra.keep hb,h.rel,own_keep h.row hb,h.out,h.fp,h.off.trans (Off.of_below hb)⟩
set_option maxRecDepth 10000 in
theorem toldL {w:World}{r:Nat}{R:Rn}{D:Dn}{p:Rp}{n:Nat}{lv:Value}(h:RA w r R D p)(hr:Rel R D n)(hn:n≤9000000)(hrow:w.ownsRow 0 117 2 lv D.due.length (mcells D.due))(hout:∀k∈lv.ownBlock.toList,k∉rf r p)(hls:p.ls.length≤100000000):
  Calls Tryz.prog 122 #[.pointer (some ⟨r,0,none⟩),lv] w fun e w'=>e=.returned (.tuple #[])∧∃R' p',RA w' r R' D p'∧Rel R' D n∧p'.ls.length=p.ls.length+1∧(∀k∈rf r p',k∈rf r p∨k∈lv.ownBlock.toList∨w.heap.size≤k)∧Off (rf r p++lv.ownBlock.toList) w w':=by
 obtain⟨la,lc,hle⟩:=own_shapeJ hrow;obtain⟨i0,hi,hz0,hz1,hz2⟩:=info_parts infoMs;subst hle;have HT:=hide (show Tq w w r R D p n (.slice la D.due.length lc) R.ever p.ev from⟨h,hr,hrow,hout,fun k hk=>Or.inl hk,Off.refl _ _⟩);have hdl:D.due.length≤n:=hr.ok.dues;have HU:=hide (rise_inj hr.ok.rise);have hq:=msg_eq;have HO0:=hide hout;clear h hr hrow hout;go_enter Tryz.func122,Tryz.ntmps122
 go_wp2_with fail
 go_loopw [4] (fun s4 W=>∃(i:Nat) (E:List Ms) (ev:Value),s4=.int .i64 (i:Int)∧i≤D.due.length∧Hid (Tq w W r R D p n (.slice la D.due.length lc) E ev)) (fun s4 _=>D.due.length - (intOf s4).toNat)
 case atStart=>exact⟨0,_,_,rfl,by omega,HT⟩
 case round=>
  obtain⟨i,E,ev,rfl,hile,HQ⟩:=hrel;clear HT;by_cases hil:i<D.due.length
  ·have hiz:(i:Int)<(D.due.length:Int):=by omega
   have hi0:¬(i:Int)<0:=by omega
   obtain⟨m,hm⟩:∃m,D.due[i]? = some m:=⟨_,uB hil⟩;obtain⟨g,gc,hge,hgc,_,hgl,x0,x1,_,_⟩:=msg_at HQ.out.row hm;injection hge with hg1 hg2 hg3;subst hg1;subst hg3;have HM:=hide (uC hm);have HHM:=hide hm;obtain⟨ea,ec,hee⟩:=own_shapeJ HQ.out.ra.rows.ever;have hee:ev=.slice ea E.length ec:=hee;have c14:wr.cell? ⟨r,14,none⟩=some (.slice ea E.length ec):=by
    have hh:=HQ.out.ra.head;unfold rcs at hh;exact hee▸hh.cell 14 _ rfl
   obtain⟨ga,gcc,hgg⟩:=own_shapeJ HQ.out.ra.rows.gone;have c15:wr.cell? ⟨r,15,none⟩=some (.slice ga R.gone.length gcc):=by
    have hh:=HQ.out.ra.head;unfold rcs at hh;exact hgg▸hh.cell 15 _ rfl
   have HEE:=hide hee;have HGG:=hide hgg;have hel:E.length≤n:=HQ.out.rel.evl;have hgol:R.gone.length≤n:=HQ.out.rel.gol;clear hm hee hgg;go_wp2_with fail
   go_loopw [5,6] (fun s5 s6 W=>∃(k q:Nat),s5=.bool ((E.take k).any fun x=>decide (x.k=m.k))∧s6=.int .i64 (k:Int)∧k≤E.length∧W=wr.drewN q) (fun _ s6 _=>E.length - (intOf s6).toNat)
   case atStart=>exact⟨0,0,rfl,rfl,by omega,rfl⟩
   case round=>
    obtain⟨k,q,rfl,rfl,hk,rfl⟩:=hrel;by_cases hkl:k<E.length
    ·have hkz:(k:Int)<(E.length:Int):=by omega
     have hk0:¬(k:Int)<0:=by omega
     obtain⟨x,hx⟩:∃x,E[k]? = some x:=⟨_,uB hkl⟩;obtain⟨f,fc,hfe,hfc,_,hfl,y0,y1,_,_⟩:=msg_at HQ.out.ra.rows.ever hx;have hfe:=HEE.out▸hfe;injection hfe with hf1 _ hf3;subst hf1;subst hf3;have hts:E.take (k+1)=E.take k++[x]:=by rw[List.take_add_one,hx];rfl
     have HTS:=hide hts;have HAS:=hide (any_snoc m.k (E.take k) x);have hxm:x.k=m.k→x=m:=(HQ.out.rel.evr x (uC hx)).2 m HM.out;clear hx hts;generalize hbq:(E.take k).any (fun x=>decide (x.k=m.k))=bq at *;by_cases hxk:x.k=m.k
     ·have hx2:=hxm hxk;subst hx2;clear hxm hxk;go_wp2_with fail
      go_quiet (fail)
      go_wp2_with fail
      go_quiet (exact mustQ r _ _ _)
      go_wp2_with fail
      refine⟨⟨k+1,_,by rw[HTS.out,HAS.out];simp,by rfl,by omega,rfl⟩,by simp only[intOf];omega⟩
     ·clear hxm;go_wp2_with fail
      go_quiet (fail)
      go_wp2_with fail
      refine⟨⟨k+1,_,by rw[HTS.out,HAS.out,decide_eq_false hxk,Bool.or_false],by rfl,by omega,rfl⟩,by simp only[intOf];omega⟩
    ·have hkz:¬(k:Int)<(E.length:Int):=by omega
     have hke:k=E.length:=by omega
     subst hke;rw[List.take_length];clear hkz hk hkl;go_wp2_with fail
     go_loopw [7] (fun s7 W=>∃(k q:Nat),s7=.int .i64 (k:Int)∧k≤R.gone.length∧W=wr.drewN q) (fun s7 _=>R.gone.length - (intOf s7).toNat)
     case atStart=>exact⟨0,q,rfl,by omega,rfl⟩
     case round=>
      obtain⟨k,q,rfl,hk,rfl⟩:=hrel;by_cases hkl:k<R.gone.length
      ·have hkz:(k:Int)<(R.gone.length:Int):=by omega
       have hk0:¬(k:Int)<0:=by omega
       obtain⟨x,hx⟩:∃x,R.gone[k]? = some x:=⟨_,uB hkl⟩;obtain⟨f,fc,hfe,hfc,_,hfl,hf⟩:=row_from HQ.out.ra.rows.gone hkl;have y0:=(hf k (.int .i64 x) (by rw[List.getElem?_map,hx];rfl)).1;have hfe:=HGG.out▸hfe;injection hfe with hf1 _ hf3;subst hf1;subst hf3;have hxm:¬x=m.k:=(HQ.out.rel.gon x (uC hx)).2 m HM.out;clear hx hf;go_upto_region 13 with fail
       have hxb:(x != m.k)=true:=by simpa using hxm
       go_quiet (first|(rw[hxb];exact mustQ r _ _ _)|exact mustQ r _ _ _)
       go_wp2_with fail
       refine⟨⟨k+1,_,by rfl,by omega,rfl⟩,by simp only[intOf];omega⟩
      ·have hkz:¬(k:Int)<(R.gone.length:Int):=by omega
       clear hk hkl;have hb6:Below wr.heap.size wr (wr.drewN q):=below_drewN' (Below.refl _ _);have HQ6:=hide (HQ.out.keep hb6);have c14':(wr.drewN q).cell? ⟨r,14,none⟩=some (.slice ea E.length ec):=c14;have x0':(wr.drewN q).cell? ⟨g,i*2,none⟩=some (.int .i64 m.k):=x0;have x1':(wr.drewN q).cell? ⟨g,i*2+1,none⟩=some (.string m.t):=x1;clear hb6;generalize hbq:E.any (fun x=>decide (x.k=m.k))=bq at *;cases bq with
       | true=>
        go_wp2_with fail
        refine⟨⟨i+1,E,ev,by rfl,by omega,HQ6⟩,by simp only[intOf];omega⟩
       | false=>
        have hnone:∀x∈E,x.k≠m.k:=fun x hx e=>by
         rw[List.any_eq_false]at hbq;exact hbq x hx (decide_eq_true e)
        have HR6:=hide (HQ6.out.rel.seen HU.out HM.out hnone);clear hbq hnone;go_upto_region 15 with fail
        clear c14 c15 x0 x1;generalize wr.drewN q=w6 at *;clear HQ;have HWD:=hide (show Below w6.heap.size w6 w6.drew from(Below.refl _ _).drew);have HCC:=hide (show (fun W:World=>W.cell? ⟨r,14,none⟩=some (.slice ea E.length ec)∧W.cell? ⟨g,i*2,none⟩=some (.int .i64 m.k)∧W.cell? ⟨g,i*2+1,none⟩=some (.string m.t)) w6.drew from⟨c14',x0',x1'⟩);refine region_D (fun W=>W.cell? ⟨r,14,none⟩=some (.slice ea E.length ec)∧W.cell? ⟨g,i*2,none⟩=some (.int .i64 m.k)∧W.cell? ⟨g,i*2+1,none⟩=some (.string m.t)) 11 (by kernel_rfl) ?_;clear c14' x0' x1';generalize w6.drew=wd at *;refine take_C (i:=0) (v:=.pointer (some ⟨r,0,none⟩)) rfl (by decide) (by kernel_rfl) (by kernel_rfl) (by kernel_rfl) (by kernel_rfl) (fun _ _ _ h=>h) (Or.inl ⟨by rfl,by intro W hW;obtain⟨k14,k0,k1⟩:=hW;go_simp⟩) HCC.out ?_;refine take_C (i:=1) (v:=.pointer (some ⟨r,0,none⟩)) rfl (by decide) (by kernel_rfl) (by kernel_rfl) (by kernel_rfl) (by kernel_rfl) (fun _ _ _ h=>h) (Or.inl ⟨by rfl,by intro W hW;obtain⟨k14,k0,k1⟩:=hW;go_simp⟩) HCC.out ?_;refine take_C (i:=2) (v:=.pointer (some ⟨r,0,none⟩)) rfl (by decide) (by kernel_rfl) (by kernel_rfl) (by kernel_rfl) (by kernel_rfl) (fun _ _ _ h=>h) (Or.inl ⟨by rfl,by intro W hW;obtain⟨k14,k0,k1⟩:=hW;go_simp⟩) HCC.out ?_;refine take_C (i:=3) (v:=.pointer (some ⟨r,14,none⟩)) rfl (by decide) (by kernel_rfl) (by kernel_rfl) (by kernel_rfl) (by kernel_rfl) (fun _ _ _ h=>h) (Or.inl ⟨by rfl,by intro W hW;obtain⟨k14,k0,k1⟩:=hW;go_simp⟩) HCC.out ?_;refine take_C (i:=4) (v:=.slice ea E.length ec) rfl (by decide) (by kernel_rfl) (by kernel_rfl) (by kernel_rfl) (by kernel_rfl) (fun _ _ _ h=>h) (Or.inl ⟨by rfl,by intro W hW;obtain⟨k14,k0,k1⟩:=hW;go_simp⟩) HCC.out ?_;refine take_C (i:=5) (v:=.slice (some ⟨g,0,none⟩) D.due.length lc) rfl (by decide) (by kernel_rfl) (by kernel_rfl) (by kernel_rfl) (by kernel_rfl) (fun _ _ _ h=>h) (Or.inl ⟨by rfl,by intro W hW;obtain⟨k14,k0,k1⟩:=hW;go_simp⟩) HCC.out ?_;refine take_C (i:=6) (v:=.int .i64 (i:Int)) rfl (by decide) (by kernel_rfl) (by kernel_rfl) (by kernel_rfl) (by kernel_rfl) (fun _ _ _ h=>h) (Or.inl ⟨by rfl,by intro W hW;obtain⟨k14,k0,k1⟩:=hW;go_simp⟩) HCC.out ?_;refine take_C (i:=7) (v:=.pointer (some ⟨g,i*2,none⟩)) rfl (by decide) (by kernel_rfl) (by kernel_rfl) (by kernel_rfl) (by kernel_rfl) (fun _ _ _ h=>h) (Or.inl ⟨by rfl,by intro W hW;obtain⟨k14,k0,k1⟩:=hW;go_simp⟩) HCC.out ?_;refine take_C (i:=8) (v:=.agg #[.int .i64 m.k,.string m.t]) rfl (by decide) (by kernel_rfl) (by kernel_rfl) (by kernel_rfl) (by kernel_rfl) (fun _ _ _ h=>h) (Or.inl ⟨by rfl,by intro W hW;obtain⟨k14,k0,k1⟩:=hW;go_simp⟩) HCC.out ?_;refine one_C (j:=9) (by kernel_rfl) rfl (fun K hK=>?_);go_simp
        have hb7:=below_new (w:=wd) (.cells #[.int .i64 m.k,.string m.t] 117);have HB7:=hide (HWD.out.trans (hb7.mono HWD.out.size));have HQ7:=hide (HQ6.out.keep HB7.out);have HSC:=hide (show Apn.Src (wd.alloc (.cells #[.int .i64 m.k,.string m.t] 117)) 2 (some ⟨wd.heap.size,0,none⟩) 1 [.int .i64 m.k,.string m.t] from⟨rfl,by simp[Value.oneCell'],Or.inr ⟨_,rfl,cell_two_new _ _ _ _⟩⟩);refine hK _ _ (fun _=>⟨cell_keepJ HCC.out.1 hb7,cell_keepJ HCC.out.2.1 hb7,cell_keepJ HCC.out.2.2 hb7⟩) ?_;clear hK K hb7;generalize wd.alloc (.cells #[.int .i64 m.k,.string m.t] 117)=w7 at *;refine one_C (j:=10) (by kernel_rfl) rfl (fun K hK=>?_);refine Apn.step_any2 rfl (.tmp 83) (.tmp 88) 69 rfl 117 i0 (.agg #[.int .i64 0,.string ⟨#[]⟩]) 2 24 Tryz.underlying69 hi hz0 hz1 hz2 rfl (by decide) (.slice ea E.length ec) E.length (mcells E) rfl (HEE.out▸HQ7.out.ra.rows.ever) _ 1 1 [.int .i64 m.k,.string m.t] rfl HSC.out (by unfold maxLen;omega) (by omega) ?_;intro v8 w8 ow8 gr8 sm8 _;obtain⟨ea8,ec8,rfl⟩:=own_shapeJ ow8;have ho8:Off ev.ownBlock.toList w7 w8:=HEE.out▸row_off gr8;have hrn:r∉ev.ownBlock.toList:=HQ7.out.ra.rno.2.2.2.1;have hs8:=Foot.Sits.off HQ7.out.ra.head ho8 hrn;unfold rcs at hs8;have d14:=hs8.cell 14 _ rfl;have f14:=hs8.frozen 14;have hl8:=own_off HQ7.out.row ho8 (fun k hk e=>HQ7.out.out k hk (uA _ (lf_e e)));obtain⟨g',_,hge',_,_,_,z0,z1,_,_⟩:=msg_at hl8 HHM.out;injection hge' with hg1' hgA hgB;clear hgA hgB;injection hg1' with hg2';injection hg2' with hg3';subst hg3';have HH9:=hide (hs8.set 14 (.slice ea8 (E.length+1) ec8));have HOW:=hide ow8;have HO8:=hide ho8;have HSM:=hide sm8;refine hK _ _ (fun _=>⟨HEE.out▸hs8.cell 14 _ rfl,z0,z1⟩) ?_;clear hK K ow8 gr8 sm8 ho8 hs8 hl8 z0 z1;go_simp
        refine one_C (j:=11) (by kernel_rfl) rfl (fun K hK=>?_);go_simp
        refine hK _ _ (fun h=>absurd h (by decide)) ?_;clear hK K;refine one_C (j:=12) (by kernel_rfl) rfl (fun K hK=>?_);go_simp
        refine hK _ _ (fun h=>absurd h (by decide)) ?_;clear hK K;refine one_C (j:=13) (by kernel_rfl) rfl (fun K hK=>?_);go_simp
        refine hK _ _ (fun h=>absurd h (by decide)) ?_;clear hK K;refine done_C (by kernel_rfl) ?_ _;clear d14 f14;obtain⟨hra9,hfp9,hof9⟩:=HQ6.out.ra.evers (m:=m) HB7.out (ev':=.slice ea8 (E.length+1) ec8) HO8.out (by
         have:=HOW.out;rw[mcells_append,List.length_append];exact this) (fun k hk=>by
         rcases HSM.out with e|⟨g,e1,e2⟩
         ·rw[e]at hk;exact Or.inl (HEE.out▸hk)
         ·rw[e1]at hk;have:=HB7.out.size;exact Or.inr (by simp at hk;omega)) ((Off.refl _ _).set (List.mem_singleton.2 rfl) _ _) HH9.out
        have hln:=HQ6.out.off.size;have HQ9:=hide (show Tq w _ r R D p n (.slice (some ⟨g,0,none⟩) D.due.length lc) (E++[m]) (.slice ea8 (E.length+1) ec8) from⟨hra9,HR6.out,own_off HQ6.out.row hof9 HQ6.out.out,fun k hk hm=>by
         rcases hfp9 k hm with e|e
         ·exact HQ6.out.out k hk e
         ·have:=row_lt HQ6.out.row hk;omega,fun k hk=>(hfp9 k hk).elim (HQ6.out.fp k) fun h=>Or.inr (Nat.le_trans hln h),off_trans HQ6.out.off HQ6.out.fp hof9⟩)
        clear hra9 hfp9 hof9 HH9;go_wp2_with fail
        go_roundw
        case rel=>exact⟨i+1,_,_,by go_num,by omega,HQ9⟩
        case measure=>simp[intOf];omega
  ·have hiz:¬(i:Int)<(D.due.length:Int):=by omega
   obtain⟨a23,c23c,h23⟩:=own_shapeJ HQ.out.ra.rows.lists;have H23:=hide h23;have c23:wr.cell? ⟨r,23,none⟩=some (.slice a23 p.ls.length c23c):=by
    have hh:=HQ.out.ra.head;unfold rcs at hh;exact h23▸hh.cell 23 _ rfl
   have hwz:IntKind.i64.wrap (-1 - (p.ls.length:Int)) = -1 - (p.ls.length:Int):=IntWalk.i64_in _ (by omega);obtain⟨z,hz⟩:∃z:Ms,z=⟨-1 - (p.ls.length:Int),⟨#[]⟩⟩:=⟨_,rfl⟩;have HS3:=hide (show Sits (wr.alloc (.cells #[.int .i64 (-1 - (p.ls.length:Int)),.string ⟨#[]⟩] 117)) wr.heap.size 117 #[.int .i64 z.k,.string z.t] from hz▸Sits.new wr 117 #[.int .i64 (-1 - (p.ls.length:Int)),.string ⟨#[]⟩]);have HB3:=hide (below_new (w:=wr) (.cells #[.int .i64 (-1 - (p.ls.length:Int)),.string ⟨#[]⟩] 117));have HGL:=hide (show ∀k∈(Value.slice la D.due.length lc).ownBlock.toList,k<wr.heap.size from fun k hk=>row_lt HQ.out.row hk);have HROW3:=hide (own_keep HQ.out.row HB3.out);have HZ:=hide hz;obtain⟨B,hB⟩:∃B,wr.heap.size=B:=⟨_,rfl⟩;rw[hB]at HS3 HGL;go_upto_region 17 with fail
   have HBB:=hide hB;clear hB hz h23 c23 hiz;generalize wr.alloc (.cells #[.int .i64 (-1 - (p.ls.length:Int)),.string ⟨#[]⟩] 117)=w3 at *;go_wp2_with fail
   generalize wr=wq at *;go_loopw [9] (fun s9 W=>∃i:Nat,s9=.int .i64 (i:Int)∧i≤D.due.length∧Hid (W.ownsRow 0 117 2 (.slice la D.due.length lc) D.due.length (mcells (filled i z D.due))∧Off (Value.slice la D.due.length lc).ownBlock.toList wq W∧Sits W B 117 #[.int .i64 z.k,.string z.t]∧wq.heap.size≤W.heap.size)) (fun s9 _=>D.due.length - (intOf s9).toNat)
   case atStart=>exact⟨0,rfl,by omega,by rw[filled_zero];exact HROW3.out,Off.of_below HB3.out,HS3.out,HB3.out.size⟩
   case round=>
    obtain⟨j,rfl,hj,HR⟩:=hrel;have b0:=HR.out.2.2.1.cell 0 _ rfl;have b1:=HR.out.2.2.1.cell 1 _ rfl;by_cases hjl:j<D.due.length
    ·have hjz:(j:Int)<(D.due.length:Int):=by omega
     obtain⟨vb,vcap,hve,hvcap,hvb,hvl,k0,k1,g0,g1⟩:=msg_at HR.out.1 (filled_get hjl);injection hve with e1 em e2;clear em;subst e1;subst e2;have hne:vb≠B:=by
      have:=HGL.out vb (by simp[Value.ownBlock]);omega
     have HST:=hide (own_set2 z (i:=j) (by rw[filled_length hj];exact hjl) HR.out.1);have HFS:=hide (filled_set (z:=z) hjl);have hmv:vb∈(Value.slice (some ⟨vb,0,none⟩) D.due.length lc).ownBlock.toList:=by simp[Value.ownBlock]
     have HOS:=hide ((HR.out.2.1.set hmv (j*2) (.int .i64 z.k)).set hmv (j*2+1) (.string z.t));have HSB:=hide (show Sits ((wr.setCell ⟨vb,j*2,none⟩ (.int .i64 z.k)).setCell ⟨vb,j*2+1,none⟩ (.string z.t)) B 117 #[.int .i64 z.k,.string z.t] from(Below.heap_setCell _ _ _ _ (Ne.symm hne)).trans ((Below.heap_setCell _ _ _ _ (Ne.symm hne)).trans HR.out.2.2.1));go_wp2_with fail
     go_roundw
     case rel=>exact⟨j+1,by go_num,by omega,by rw[←HFS.out];exact HST.out,HOS.out,HSB.out,by simpa using HR.out.2.2.2⟩
     case measure=>simp[intOf];omega
    ·have hjz:¬(j:Int)<(D.due.length:Int):=by omega
     obtain rfl:j=D.due.length:=by omega
     have hown:=HR.out.1;rw[filled_all]at hown;have HOW:=hide hown;have hnl:∀k∈lf r {p with ev:=ev},k∉(Value.slice la D.due.length lc).ownBlock.toList:=fun k hk e=>HQ.out.out k e (uA _ hk)
     have hhx:=Foot.Sits.off HQ.out.ra.head HR.out.2.1 (hnl r (lf_r _ _));have hLx:wr.ownsRow 0 69 1 p.lv p.ls.length (p.ls.map (·.1)):=own_off HQ.out.ra.rows.lists HR.out.2.1 (fun k hk=>hnl k (lf_l hk));have HLX:=hide (show wr.ownsRow 0 69 1 (.slice a23 p.ls.length c23c) p.ls.length (p.ls.map (·.1)) from H23.out▸hLx);have HLY:=hide hLx;have HKX:=hide (own_off HQ.out.ra.rows.grown HR.out.2.1 (fun k hk=>hnl k (lf_k hk)));have HHX:=hide hhx;unfold rcs at hhx;have c23:wr.cell? ⟨r,23,none⟩=some (.slice a23 p.ls.length c23c):=H23.out▸hhx.cell 23 _ rfl;obtain⟨m0,hm,hy0,hy1,hy2⟩:=info_parts infoRow;clear hown hhx hnl hLx;go_upto_region 22 with (at_builtin;refine Apn.wpList_any _ rfl (.tmp 113) (.tmp 115) 73 rfl 69 m0 (.slice none 0 0) 1 24 Tryz.underlying73 hm hy0 hy1 hy2 rfl (by decide) _ _ (p.ls.map (·.1)) rfl (HLX.out.alloc _) _ 1 1 [.slice la D.due.length lc] rfl (src_val _ _ _ _ (by simp) rfl) (by unfold maxLen;omega) (by omega) ?_;intro v3 x3 o3 gr3 sm3 nn3;obtain⟨a3,cv3,rfl⟩:=own_shapeJ o3;have hs3:=mid_head HHX.out HLY.out (H23.out▸gr3);unfold rcs at hs3;have d23:=hs3.cell 23 _ rfl;have f23:=hs3.frozen 23;have HM:=hide (mid4 HHX.out HLY.out HKX.out HQ.out.ra.rows.e2 HOW.out HR.out.2.2.1 (H23.out▸gr3) o3);have HSM3:=hide sm3;have hsz3:=gr3;clear hs3 gr3 o3 sm3 nn3)
     clear d23 f23 c23 b0 b1;generalize x3.setCell ⟨r,23,none⟩ (.slice a3 (p.ls.length+1) cv3)=x4 at *;obtain⟨a24,c24c,h24⟩:=own_shapeJ HM.out.grown;have H24:=hide (show p.kv=.slice a24 p.ls.length c24c from h24);have HC4:=hide (show x4.cell? ⟨r,24,none⟩=some (.slice a24 p.ls.length c24c)∧x4.cell? ⟨B,0,none⟩=some (.int .i64 z.k)∧x4.cell? ⟨B,1,none⟩=some (.string z.t) from by
      have hh:=HM.out.head;unfold rcs at hh;exact⟨h24▸hh.cell 24 _ rfl,HM.out.box.cell 0 _ rfl,HM.out.box.cell 1 _ rfl⟩)
     have HWD:=hide (show Below x4.heap.size x4 x4.drew from(Below.refl _ _).drew);have HCC:=hide (show (fun W:World=>W.cell? ⟨r,24,none⟩=some (.slice a24 p.ls.length c24c)∧W.cell? ⟨B,0,none⟩=some (.int .i64 z.k)∧W.cell? ⟨B,1,none⟩=some (.string z.t)) x4.drew from HC4.out);refine region_D (fun W=>W.cell? ⟨r,24,none⟩=some (.slice a24 p.ls.length c24c)∧W.cell? ⟨B,0,none⟩=some (.int .i64 z.k)∧W.cell? ⟨B,1,none⟩=some (.string z.t)) 13 (by kernel_rfl) ?_;clear h24 HC4;generalize x4.drew=wd at *;refine take_C (i:=0) (v:=.pointer (some ⟨r,0,none⟩)) rfl (by decide) (by kernel_rfl) (by kernel_rfl) (by kernel_rfl) (by kernel_rfl) (fun _ _ _ h=>h) (Or.inl ⟨by rfl,by intro W hW;obtain⟨k24,k0,k1⟩:=hW;go_simp⟩) HCC.out ?_;refine take_C (i:=1) (v:=.pointer (some ⟨r,0,none⟩)) rfl (by decide) (by kernel_rfl) (by kernel_rfl) (by kernel_rfl) (by kernel_rfl) (fun _ _ _ h=>h) (Or.inl ⟨by rfl,by intro W hW;obtain⟨k24,k0,k1⟩:=hW;go_simp⟩) HCC.out ?_;refine take_C (i:=2) (v:=.pointer (some ⟨r,0,none⟩)) rfl (by decide) (by kernel_rfl) (by kernel_rfl) (by kernel_rfl) (by kernel_rfl) (fun _ _ _ h=>h) (Or.inl ⟨by rfl,by intro W hW;obtain⟨k24,k0,k1⟩:=hW;go_simp⟩) HCC.out ?_;refine take_C (i:=3) (v:=.pointer (some ⟨r,24,none⟩)) rfl (by decide) (by kernel_rfl) (by kernel_rfl) (by kernel_rfl) (by kernel_rfl) (fun _ _ _ h=>h) (Or.inl ⟨by rfl,by intro W hW;obtain⟨k24,k0,k1⟩:=hW;go_simp⟩) HCC.out ?_;refine take_C (i:=4) (v:=.slice a24 p.ls.length c24c) rfl (by decide) (by kernel_rfl) (by kernel_rfl) (by kernel_rfl) (by kernel_rfl) (fun _ _ _ h=>h) (Or.inl ⟨by rfl,by intro W hW;obtain⟨k24,k0,k1⟩:=hW;go_simp⟩) HCC.out ?_;refine take_C (i:=5) (v:=.slice la D.due.length lc) rfl (by decide) (by kernel_rfl) (by kernel_rfl) (by kernel_rfl) (by kernel_rfl) (fun _ _ _ h=>h) (Or.inl ⟨by rfl,by intro W hW;obtain⟨k24,k0,k1⟩:=hW;go_simp⟩) HCC.out ?_;refine take_C (i:=6) (v:=.agg #[.int .i64 z.k,.string z.t]) rfl (by decide) (by kernel_rfl) (by kernel_rfl) (by kernel_rfl) (by kernel_rfl) (fun _ _ _ h=>h) (Or.inl ⟨by rfl,by intro W hW;obtain⟨k24,k0,k1⟩:=hW;go_simp⟩) HCC.out ?_;refine take_C (i:=7) (v:=.agg #[.int .i64 z.k,.string z.t]) rfl (by decide) (by kernel_rfl) (by kernel_rfl) (by kernel_rfl) (by kernel_rfl) (fun _ _ _ h=>h) (Or.inl ⟨by rfl,by intro W hW;obtain⟨k24,k0,k1⟩:=hW;go_simp⟩) HCC.out ?_;refine take_C (i:=8) (v:=.agg #[.int .i64 z.k,.string z.t]) rfl (by decide) (by kernel_rfl) (by kernel_rfl) (by kernel_rfl) (by kernel_rfl) (fun _ _ _ h=>h) (Or.inl ⟨by rfl,by intro W hW;obtain⟨k24,k0,k1⟩:=hW;go_simp⟩) HCC.out ?_;refine one_C (j:=9) (by kernel_rfl) rfl (fun K hK=>?_);go_simp
     have hb9:=below_new (w:=wd) (.cells #[.int .i64 z.k,.string z.t,.int .i64 z.k,.string z.t,.int .i64 z.k,.string z.t] 117);have HB9:=hide (HWD.out.trans (hb9.mono HWD.out.size));have HSC:=hide (src_three wd z 117 wd.heap.size rfl);have HCA:=hide (And.intro (cell_keepJ HCC.out.1 hb9) (And.intro (cell_keepJ HCC.out.2.1 hb9) (cell_keepJ HCC.out.2.2 hb9)));refine hK _ _ (fun _=>HCA.out) ?_;clear hK K hb9;generalize wd.alloc (.cells #[.int .i64 z.k,.string z.t,.int .i64 z.k,.string z.t,.int .i64 z.k,.string z.t] 117)=xa at *;have HWA:=hide (own_keep HM.out.row HB9.out);have HHA:=hide (Mem.Sits.below HM.out.head HB9.out HM.out.head.lt);have HBA:=hide (Mem.Sits.below HM.out.box HB9.out HM.out.box.lt);refine one_C (j:=10) (by kernel_rfl) rfl (fun K hK=>?_);refine Apn.step_any2 rfl (.tmp 124) (.tmp 128) 69 rfl 117 i0 (.agg #[.int .i64 0,.string ⟨#[]⟩]) 2 24 Tryz.underlying69 hi hz0 hz1 hz2 rfl (by decide) (.slice la D.due.length lc) D.due.length (mcells (List.replicate D.due.length z)) rfl HWA.out _ 3 3 (mcells (List.replicate 3 z)) rfl HSC.out (by unfold maxLen;omega) (by omega) ?_;intro v5 x5 o5 gr5 sm5 st5;obtain⟨a5,c5,rfl⟩:=own_shapeJ o5;rw[rep_more]at o5;have g5:Off (Value.slice la D.due.length lc).ownBlock.toList xa x5:=row_off gr5;have hrl:r∉(Value.slice la D.due.length lc).ownBlock.toList:=fun hm=>HQ.out.out r hm (uA _ (lf_r _ _))
     have hBl:B∉(Value.slice la D.due.length lc).ownBlock.toList:=fun hm=>by
      have:=HGL.out B hm;omega
     have hh5:=Foot.Sits.off HHA.out g5 hrl;have hb5:=Foot.Sits.off HBA.out g5 hBl;have HG5:=hide g5;have HO5:=hide o5;have HH5:=hide hh5;have HB5:=hide hb5;have HSM5:=hide sm5;have HST5:=hide st5;unfold rcs at hh5;have HC5:=hide (And.intro (show x5.cell? ⟨r,24,none⟩=some (.slice a24 p.ls.length c24c) from H24.out▸hh5.cell 24 _ rfl) (And.intro (hb5.cell 0 _ rfl) (hb5.cell 1 _ rfl)));refine hK _ _ (fun _=>HC5.out) ?_;clear hK K o5 gr5 sm5 st5 g5 hh5 hb5;go_simp
     refine one_C (j:=11) (by kernel_rfl) rfl (fun K hK=>?_);go_simp
     have hb6:=below_new (w:=x5) (.cells #[.slice a5 (D.due.length+3) c5] 69);have HB6:=hide hb6;have HSC6:=hide (src_val x5 (.slice a5 (D.due.length+3) c5) 69 x5.heap.size rfl rfl);have HC6:=hide (And.intro (cell_keepJ HC5.out.1 hb6) (And.intro (cell_keepJ HC5.out.2.1 hb6) (cell_keepJ HC5.out.2.2 hb6)));refine hK _ _ (fun _=>HC6.out) ?_;clear hK K hb6;generalize x5.alloc (.cells #[.slice a5 (D.due.length+3) c5] 69)=x6 at *;have HH6:=hide (Mem.Sits.below HH5.out HB6.out HH5.out.lt);have HBX6:=hide (Mem.Sits.below HB5.out HB6.out HB5.out.lt);have hka:=own_keep HM.out.grown HB9.out;have hk5:=own_off hka HG5.out (own_not hka HWA.out (by decide));have HK6:=hide (own_keep hk5 HB6.out);clear hka hk5;refine one_C (j:=12) (by kernel_rfl) rfl (fun K hK=>?_);refine Apn.step_any2 rfl (.tmp 123) (.tmp 130) 73 rfl 69 m0 (.slice none 0 0) 1 24 Tryz.underlying73 hm hy0 hy1 hy2 rfl (by decide) (.slice a24 p.ls.length c24c) p.ls.length (p.ls.map (·.2)) rfl (H24.out▸HK6.out) _ 1 1 [.slice a5 (D.due.length+3) c5] rfl HSC6.out (by unfold maxLen;omega) (by omega) ?_;intro v7 x7 o7 gr7 sm7 _;obtain⟨a7,c7,rfl⟩:=own_shapeJ o7;have g7:Off p.kv.ownBlock.toList x6 x7:=H24.out▸row_off gr7;have hrk:r∉p.kv.ownBlock.toList:=HQ.out.ra.rno.2.2.2.2.2.2;have hBk:B∉p.kv.ownBlock.toList:=fun hm=>by
      obtain⟨cs,hs⟩:=sits_row HK6.out hm;exact sits_neJ hs HBX6.out (by decide) rfl
     have hh7:=Foot.Sits.off HH6.out g7 hrk;have hb7:=Foot.Sits.off HBX6.out g7 hBk;have HH7:=hide hh7;have HG7:=hide g7;have HO7:=hide o7;have HSM7:=hide sm7;unfold rcs at hh7;have d24:=hh7.cell 24 _ rfl;have f24:=hh7.frozen 24;refine hK _ _ (fun _=>⟨H24.out▸hh7.cell 24 _ rfl,hb7.cell 0 _ rfl,hb7.cell 1 _ rfl⟩) ?_;clear hK K o7 gr7 sm7 g7 hh7 hb7 hrk hBk;go_simp
     refine one_C (j:=13) (by kernel_rfl) rfl (fun K hK=>?_);go_simp
     refine hK _ _ (fun h=>absurd h (by decide)) ?_;clear hK K;refine one_C (j:=14) (by kernel_rfl) rfl (fun K hK=>?_);go_simp
     refine hK _ _ (fun h=>absurd h (by decide)) ?_;clear hK K;refine one_C (j:=15) (by kernel_rfl) rfl (fun K hK=>?_);go_simp
     refine hK _ _ (fun h=>absurd h (by decide)) ?_;clear hK K;refine done_C (by kernel_rfl) ?_ _;clear d24 f24;have hzz:=HZ.out;subst hzz;have hfin:=toldEnd (p:={p with ev:=ev}) (R:={R with ever:=E}) HQ.out.ra HQ.out.out (by omega) HR.out.2.1 HM.out (fun k hk=>by
      rcases HSM3.out with e|⟨g,e1,e2⟩
      ·rw[e]at hk;exact Or.inl (H23.out▸hk)
      ·rw[e1]at hk;exact Or.inr (by simp at hk e2;omega)) HB9.out HO5.out HG5.out (fun k hk=>by
      rcases HSM5.out with e|⟨g,e1,e2⟩
      ·rw[e]at hk;exact Or.inl hk
      ·rw[e1]at hk;exact Or.inr (by simp at hk;omega)) (HST5.out.imp id fun h=>(show Off (none:Option Nat).toList xa x5 from row_off h)) HB6.out HO7.out HG7.out (fun k hk=>by
      rcases HSM7.out with e|⟨g,e1,e2⟩
      ·rw[e]at hk;exact Or.inl (H24.out▸hk)
      ·rw[e1]at hk;exact Or.inr (by simp at hk;omega)) HH7.out
     obtain⟨p',f1,f2,f3,f4⟩:=hfin;have hwq:=HQ.out.off.size;have HF:=hide (show RA _ r {R with ever:=E} D p'∧Rel {R with ever:=E} D n∧p'.ls.length=p.ls.length+1∧(∀k∈rf r p',k∈rf r p∨k∈(Value.slice la D.due.length lc).ownBlock.toList∨w.heap.size≤k)∧Off (rf r p++(Value.slice la D.due.length lc).ownBlock.toList) w _ from⟨f1,HQ.out.rel,f2,fun k hk=>by
      rcases f3 k hk with h|h|h
      ·exact(HQ.out.fp k h).imp id Or.inr
      ·exact Or.inr (Or.inl h)
      ·exact Or.inr (Or.inr (Nat.le_trans hwq h)),off_trans (HQ.out.off.mono fun k _ h=>uA _ h) (fun k hk=>by
      rcases List.mem_append.1 hk with h|h
      ·exact(HQ.out.fp k h).imp (fun h=>uA _ h) id
      ·exact Or.inl (List.mem_append_right _ h)) f4⟩)
     clear f1 f2 f3 f4 hwq;go_wp2_with fail
     go_end0
     exact⟨rfl,{R with ever:=E},p',HF.out.1,HF.out.2.1,HF.out.2.2.1,fun k hk=>(HF.out.2.2.2.1 k hk).imp id (Or.imp (fun h=>by simpa using h) id),HF.out.2.2.2.2⟩
end Go.Proofs.YtenegfafjjknoaaGreatDoor.Lw
