/- The law of daemons: texts, a window sealed. -/
import Derived.Test.YtenegfafjjknoaaGreatDoorLay
set_option maxHeartbeats 100000000
open List renaming mem_append_right → uA, mem_singleton → uB, mem_append_left → uC, mem_cons_of_mem → uD
namespace Go.Proofs.YtenegfafjjknoaaGreatDoor.Lw
open Go.RowKit Go.Maps Go.Shelf Mem Foot Bytes Im Wm Hi Plainw Cq Dm Dh Jr Wi Sk Hn Kr Dd
def Doc (c:Fin 6→Int)(num:Int)(hs:List ByteArray)(z:ByteArray):Prop:=
 ∀(a:Option Addr) (cap:Nat) (w:World),(∀(i:Nat) x,hs[i]? = some x→∃ad,a=some ad∧ad.block<w.heap.size∧w.cell? (ad.add i)=some (.string x))→
  ∃er:Int,Calls Tryz.prog 21 #[.agg #[.int .i64 (c 0),.int .i64 (c 1),.int .i64 (c 2),.int .i64 (c 3),.int .i64 (c 4),.int .i64 (c 5)],.int .i64 num,.slice a hs.length cap] w fun e w'=>e=.returned (.tuple #[.string z,.int .i64 er])∧Below w.heap.size w w'
theorem held_src {w:World}{a:Option Addr}{n c:Nat}{hs:List ByteArray}(h:w.ownsRow 0 9 1 (.slice a n c) hs.length (hs.map Value.string)):∀(i:Nat) x,hs[i]? = some x→∃ad,a=some ad∧ad.block<w.heap.size∧w.cell? (ad.add i)=some (.string x):=by
 intro i x hi;have hl:=(List.getElem?_eq_some_iff.1 hi).1;rcases h.2 with ⟨_,h0⟩|⟨g,cap,cur,he,_,hg,_,_,_,ht⟩
 ·omega
 ·injection he with h1 _ _;have hs':Sits w g 9 cur:=hg;have hu:(hs.map Value.string)[i]? = some (.string x):=by rw[List.getElem?_map,hi];rfl
  rw[←ht,List.getElem?_take]at hu;split at hu
  ·have:=hs'.cell i _ (by simpa using hu);refine⟨⟨g,0,none⟩,h1,hs'.lt,?_⟩;by_cases h0:i=0
   ·subst h0;simpa[Addr.add] using this
   ·simpa[Addr.add,h0] using this
  ·cases hu
def Cfg (w:World)(r:Nat)(c:Fin 6→Int):Prop:=r<w.heap.size∧w.cell? ⟨r,0,none⟩=some (.int .i64 (c 0))∧w.cell? ⟨r,1,none⟩=some (.int .i64 (c 1))∧w.cell? ⟨r,2,none⟩=some (.int .i64 (c 2))∧w.cell? ⟨r,3,none⟩=some (.int .i64 (c 3))∧w.cell? ⟨r,4,none⟩=some (.int .i64 (c 4))∧w.cell? ⟨r,5,none⟩=some (.int .i64 (c 5))
theorem Cfg.keep {w w':World}{r:Nat}{c:Fin 6→Int}(h:Cfg w r c)(hb:Below w.heap.size w w'):Cfg w' r c:=by
 obtain⟨h0,h1,h2,h3,h4,h5,h6⟩:=h;exact⟨Nat.lt_of_lt_of_le h0 hb.size,(hb.cell (p:=⟨r,0,none⟩) h0).trans h1,(hb.cell (p:=⟨r,1,none⟩) h0).trans h2,(hb.cell (p:=⟨r,2,none⟩) h0).trans h3,(hb.cell (p:=⟨r,3,none⟩) h0).trans h4,(hb.cell (p:=⟨r,4,none⟩) h0).trans h5,(hb.cell (p:=⟨r,5,none⟩) h0).trans h6⟩
theorem textL (r:Nat)(c:Fin 6→Int)(num:Int)(a:Option Addr)(cap:Nat)(hs:List ByteArray)(z:ByteArray)(w:World)(hc:Cfg w r c)(hz:Doc c num hs z)(hh:∀(i:Nat) x,hs[i]? = some x→∃ad,a=some ad∧ad.block<w.heap.size∧w.cell? (ad.add i)=some (.string x)):
  Calls Tryz.prog 124 #[.pointer (some ⟨r,0,none⟩),.int .i64 num,.slice a hs.length cap] w fun e w'=>e=.returned (.string z)∧Below w.heap.size w w':=by
 obtain⟨er,hs1⟩:=hz a cap w hh;obtain⟨h0,c0,c1,c2,c3,c4,c5⟩:=hc;clear hz hh h0;go_enter Tryz.func124,Tryz.ntmps124
 go_wp2_with fail
 refine hs1.mono ?_;clear hs1 c0 c1 c2 c3 c4 c5;rintro e w1 ⟨rfl,hb⟩;have HB:=hide hb;clear hb;go_wp2_with fail
 go_ret
 exact⟨rfl,HB.out⟩
theorem cap_le {w:World}{base size n c:Nat}{e:TypeId}{a:Option Addr}{xs:List Value}(h:w.ownsRow base e size (.slice a n c) n xs):n≤c:=by
 rcases h.2 with ⟨he,h0⟩|⟨g,cap,cur,he,_,_,h1,_⟩
 ·omega
 ·injection he with _ _ h3;omega
theorem ms_cells (l:List Ms):∀u∈mcells l,u.oneCell'=true:=by
 induction l with
 | nil=>simp[mcells]
 | cons m l ih=>
  intro u hu;simp only[mcells,List.mem_cons]at hu;rcases hu with rfl|rfl|hu
  ·rfl
  ·rfl
  ·exact ih u hu
set_option maxRecDepth 10000 in
theorem sealedL (r:Nat)(c:Fin 6→Int)(dv hv:Value)(dues:List Ms)(hs:List ByteArray)(o sr tp tt:Int)(z:ByteArray)(w:World)(hc:Cfg w r c)(hz:Doc c o hs z)(hd:w.ownsRow 0 117 2 dv dues.length (mcells dues))(hh:w.ownsRow 0 9 1 hv hs.length (hs.map Value.string))(hdl:dues.length≤1000000000):
  Calls Tryz.prog 167 #[.pointer (some ⟨r,0,none⟩),.agg (wv dv o hv sr tp),.int .i64 (hs.length:Int),.int .i64 tt] w fun e w'=>∃dv',e=.returned (.agg (wv dv' tt (.slice none 0 0) 0 o))∧w'.ownsRow w.heap.size 117 2 dv' (dues++[(⟨o,z⟩:Ms)]).length (mcells (dues++[(⟨o,z⟩:Ms)]))∧Below w.heap.size w w':=by
 obtain⟨ha,hcp,hve⟩:=own_shapeJ hh;obtain⟨da,dc,hde⟩:=own_shapeJ hd;subst hve;subst hde;obtain⟨i0,hi,hz0,hz1,hz2⟩:=info_parts infoMs;have hcl:¬hcp<hs.length:=by
  have:=cap_le hh;omega
 have HH:=hide hh;have HD:=hide hd;have HC:=hide hc;have HZ:=hide hz;unfold wv;clear hh hd hc hz;go_enter Tryz.func167,Tryz.ntmps167
 go_upto_region 2 with fail
 have hs1:=Sits.new w 71 #[.slice da dues.length dc,.int .i64 o,.slice ha hs.length hcp,.int .i64 sr,.int .i64 tp];have hb1:=below_new (w:=w) (.cells #[.slice da dues.length dc,.int .i64 o,.slice ha hs.length hcp,.int .i64 sr,.int .i64 tp] 71);have hs2:=Sits.new (w.alloc (.cells #[.slice da dues.length dc,.int .i64 o,.slice ha hs.length hcp,.int .i64 sr,.int .i64 tp] 71)) 71 #[.slice none 0 0,.int .i64 0,.slice none 0 0,.int .i64 0,.int .i64 0];have hb2:=below_new (w:=w.alloc (.cells #[.slice da dues.length dc,.int .i64 o,.slice ha hs.length hcp,.int .i64 sr,.int .i64 tp] 71)) (.cells #[.slice none 0 0,.int .i64 0,.slice none 0 0,.int .i64 0,.int .i64 0] 71);have hs3:=Sits.new ((w.alloc (.cells #[.slice da dues.length dc,.int .i64 o,.slice ha hs.length hcp,.int .i64 sr,.int .i64 tp] 71)).alloc (.cells #[.slice none 0 0,.int .i64 0,.slice none 0 0,.int .i64 0,.int .i64 0] 71)) 71 #[.slice none 0 0,.int .i64 tt,.slice none 0 0,.int .i64 0,.int .i64 o];have hb3:=below_new (w:=(w.alloc (.cells #[.slice da dues.length dc,.int .i64 o,.slice ha hs.length hcp,.int .i64 sr,.int .i64 tp] 71)).alloc (.cells #[.slice none 0 0,.int .i64 0,.slice none 0 0,.int .i64 0,.int .i64 0] 71)) (.cells #[.slice none 0 0,.int .i64 tt,.slice none 0 0,.int .i64 0,.int .i64 o] 71);have HS1:=hide (Mem.Sits.below (Mem.Sits.below hs1 hb2 hs1.lt) hb3 (Mem.Sits.below hs1 hb2 hs1.lt).lt);have HS2:=hide (Mem.Sits.below hs2 hb3 hs2.lt);have HS3:=hide hs3;have HB3:=hide ((hb1.trans (hb2.mono hb1.size)).trans (hb3.mono (hb1.trans (hb2.mono hb1.size)).size));rw[World.size_alloc]at HS2;rw[World.size_alloc,World.size_alloc]at HS3;clear hs1 hb1 hs2 hb2 hs3 hb3;generalize ((w.alloc (.cells #[.slice da dues.length dc,.int .i64 o,.slice ha hs.length hcp,.int .i64 sr,.int .i64 tp] 71)).alloc (.cells #[.slice none 0 0,.int .i64 0,.slice none 0 0,.int .i64 0,.int .i64 0] 71)).alloc (.cells #[.slice none 0 0,.int .i64 tt,.slice none 0 0,.int .i64 0,.int .i64 o] 71)=w3 at *;obtain⟨wb,hwb⟩:∃wb,w.heap.size=wb:=⟨_,rfl⟩;have HH3:=hide (own_keep HH.out HB3.out);have HD3:=hide (own_keep HD.out HB3.out);have HC3:=hide (HC.out.keep HB3.out);rw[hwb]at HS1 HS2 HS3 HB3 ⊢;have HWB:=hide hwb;clear hwb;have hz:wb+1+1<w3.heap.size:=HS3.out.lt;have HN3:=hide (World.ownsRow_nil w3 wb 117 2);have HSR:=hide (src_own HD3.out (mcells_length _) (ms_cells _));have a0:=HS3.out.cell 0 _ rfl;have a1:=HS1.out.cell 0 _ rfl;go_upto_region 3 with (at_builtin;refine Apn.wpList_own _ rfl _ _ 69 rfl wb 117 i0 (.agg #[.int .i64 0,.string ⟨#[]⟩]) 2 24 Tryz.underlying69 hi hz0 hz1 hz2 rfl (by decide) _ _ _ rfl HN3.out da dues.length dc (mcells dues) rfl HSR.out (by unfold maxLen;omega) (by omega) (by omega) ?_;intro v2 w4 hown2 hg2 hn2;rw[List.nil_append,Nat.zero_add]at hown2;obtain⟨va2,vc2,rfl⟩:=Own.shape hown2;have hb4:Below w3.heap.size w3 w4:=(row_off (show World.grownBy _ w4 none from hg2)).below (fun k hk=>by simp at hk) (Nat.le_refl _);have hs4:=Mem.Sits.below HS3.out hb4 HS3.out.lt;have e2:=hs4.cell 0 _ rfl;have f2:=hs4.frozen 0)
 have hso:Off [wb+1+1] w4 (w4.setCell ⟨wb+1+1,0,none⟩ (.slice va2 dues.length vc2)):=(Off.refl _ _).set (uB.2 rfl) _ _;have HT3:=hide (show Sits (w4.setCell ⟨wb+1+1,0,none⟩ (.slice va2 dues.length vc2)) (wb+1+1) 71 #[.slice va2 dues.length vc2,.int .i64 tt,.slice none 0 0,.int .i64 0,.int .i64 o] from hs4.set 0 _);have HT1:=hide (Foot.Sits.off (Mem.Sits.below HS1.out hb4 HS1.out.lt) hso (by simp;omega));have HT2:=hide (Foot.Sits.off (Mem.Sits.below HS2.out hb4 HS2.out.lt) hso (by simp));have HO5:=hide (own_off hown2 hso (fun k hk e=>by
  obtain⟨cs,hs'⟩:=sits_row hown2 hk;rw[uB.1 e]at hs';exact sits_neJ hs4 hs' (by decide) rfl))
 have hb5:Below wb w (w4.setCell ⟨wb+1+1,0,none⟩ (.slice va2 dues.length vc2)):=by
  have h1:Below wb w w4:=HB3.out.trans (hb4.mono (by omega));exact h1.trans (hso.below (fun b hb=>by rw[uB.1 hb];omega) (by rw[←HWB.out];exact h1.size))
 have HB5:=hide hb5;have HH5:=hide (own_keep HH.out (by rw[HWB.out];exact hb5));have HC5:=hide (HC.out.keep (by rw[HWB.out];exact hb5));clear hso hs4 hb4 hown2 hg2 hn2 e2 f2 a0 a1 hb5 HS1 HS2 HS3 HB3 HH3 HD3 HC3 HN3 HSR hz;generalize w4.setCell ⟨wb+1+1,0,none⟩ (.slice va2 dues.length vc2)=w5 at *;refine region_D (fun W=>Sits W wb 71 #[.slice da dues.length dc,.int .i64 o,.slice ha hs.length hcp,.int .i64 sr,.int .i64 tp]∧Sits W (wb+1+1) 71 #[.slice va2 dues.length vc2,.int .i64 tt,.slice none 0 0,.int .i64 0,.int .i64 o]) 15 (by kernel_rfl) ?_;have hdr:Below w5.heap.size w5 w5.drew:=(Below.refl _ _).drew;have HCW:=hide (show (fun W=>Sits W wb 71 #[.slice da dues.length dc,.int .i64 o,.slice ha hs.length hcp,.int .i64 sr,.int .i64 tp]∧Sits W (wb+1+1) 71 #[.slice va2 dues.length vc2,.int .i64 tt,.slice none 0 0,.int .i64 0,.int .i64 o]) w5.drew from⟨HT1.out,HT3.out⟩);have HTX:=hide (textL r c o ha hcp hs z w5.drew (HC5.out.keep hdr) HZ.out (held_src (own_keep HH5.out hdr)));have HDR:=hide hdr;clear hdr;generalize w5.drew=wd at *;refine take_C (i:=0) (v:=.pointer (some ⟨wb+1+1,0,none⟩)) rfl (by decide) (by kernel_rfl) (by kernel_rfl) (by kernel_rfl) (by kernel_rfl) (fun _ _ _ h=>h) (Or.inl ⟨by rfl,by intro W hW;have k1:=hW.1.cell 1 _ rfl;have k2:=hW.1.cell 2 _ rfl;have k3:=hW.2.cell 0 _ rfl;go_simp⟩) HCW.out ?_;refine take_C (i:=1) (v:=.slice va2 dues.length vc2) rfl (by decide) (by kernel_rfl) (by kernel_rfl) (by kernel_rfl) (by kernel_rfl) (fun _ _ _ h=>h) (Or.inl ⟨by rfl,by intro W hW;have k1:=hW.1.cell 1 _ rfl;have k2:=hW.1.cell 2 _ rfl;have k3:=hW.2.cell 0 _ rfl;go_simp⟩) HCW.out ?_;refine take_C (i:=2) (v:=.pointer (some ⟨wb,1,none⟩)) rfl (by decide) (by kernel_rfl) (by kernel_rfl) (by kernel_rfl) (by kernel_rfl) (fun _ _ _ h=>h) (Or.inl ⟨by rfl,by intro W hW;have k1:=hW.1.cell 1 _ rfl;have k2:=hW.1.cell 2 _ rfl;have k3:=hW.2.cell 0 _ rfl;go_simp⟩) HCW.out ?_;refine take_C (i:=3) (v:=.int .i64 o) rfl (by decide) (by kernel_rfl) (by kernel_rfl) (by kernel_rfl) (by kernel_rfl) (fun _ _ _ h=>h) (Or.inl ⟨by rfl,by intro W hW;have k1:=hW.1.cell 1 _ rfl;have k2:=hW.1.cell 2 _ rfl;have k3:=hW.2.cell 0 _ rfl;go_simp⟩) HCW.out ?_;refine take_C (i:=4) (v:=.pointer (some ⟨r,0,none⟩)) rfl (by decide) (by kernel_rfl) (by kernel_rfl) (by kernel_rfl) (by kernel_rfl) (fun _ _ _ h=>h) (Or.inl ⟨by rfl,by intro W hW;have k1:=hW.1.cell 1 _ rfl;have k2:=hW.1.cell 2 _ rfl;have k3:=hW.2.cell 0 _ rfl;go_simp⟩) HCW.out ?_;refine take_C (i:=5) (v:=.pointer (some ⟨wb,1,none⟩)) rfl (by decide) (by kernel_rfl) (by kernel_rfl) (by kernel_rfl) (by kernel_rfl) (fun _ _ _ h=>h) (Or.inl ⟨by rfl,by intro W hW;have k1:=hW.1.cell 1 _ rfl;have k2:=hW.1.cell 2 _ rfl;have k3:=hW.2.cell 0 _ rfl;go_simp⟩) HCW.out ?_;refine take_C (i:=6) (v:=.int .i64 o) rfl (by decide) (by kernel_rfl) (by kernel_rfl) (by kernel_rfl) (by kernel_rfl) (fun _ _ _ h=>h) (Or.inl ⟨by rfl,by intro W hW;have k1:=hW.1.cell 1 _ rfl;have k2:=hW.1.cell 2 _ rfl;have k3:=hW.2.cell 0 _ rfl;go_simp⟩) HCW.out ?_;refine take_C (i:=7) (v:=.pointer (some ⟨wb,2,none⟩)) rfl (by decide) (by kernel_rfl) (by kernel_rfl) (by kernel_rfl) (by kernel_rfl) (fun _ _ _ h=>h) (Or.inl ⟨by rfl,by intro W hW;have k1:=hW.1.cell 1 _ rfl;have k2:=hW.1.cell 2 _ rfl;have k3:=hW.2.cell 0 _ rfl;go_simp⟩) HCW.out ?_;refine take_C (i:=8) (v:=.slice ha hs.length hcp) rfl (by decide) (by kernel_rfl) (by kernel_rfl) (by kernel_rfl) (by kernel_rfl) (fun _ _ _ h=>h) (Or.inl ⟨by rfl,by intro W hW;have k1:=hW.1.cell 1 _ rfl;have k2:=hW.1.cell 2 _ rfl;have k3:=hW.2.cell 0 _ rfl;go_simp⟩) HCW.out ?_;refine take_C (i:=9) (v:=.int .i64 (hs.length:Int)) rfl (by decide) (by kernel_rfl) (by kernel_rfl) (by kernel_rfl) (by kernel_rfl) (fun _ _ _ h=>h) (Or.inl ⟨by rfl,by intro W hW;have k1:=hW.1.cell 1 _ rfl;have k2:=hW.1.cell 2 _ rfl;have k3:=hW.2.cell 0 _ rfl;go_simp⟩) HCW.out ?_;refine take_C (i:=10) (v:=.slice ha hs.length hcp) rfl (by decide) (by kernel_rfl) (by kernel_rfl) (by kernel_rfl) (by kernel_rfl) (fun _ _ _ h=>h) (Or.inl ⟨by rfl,by intro W hW;have k1:=hW.1.cell 1 _ rfl;have k2:=hW.1.cell 2 _ rfl;have k3:=hW.2.cell 0 _ rfl;go_simp⟩) HCW.out ?_;refine one_C (j:=11) (by kernel_rfl) rfl (fun K hK=>?_);go_simp
 refine HTX.out.mono ?_;rintro e w6 ⟨rfl,hb6⟩;have HB6:=hide (HDR.out.trans (hb6.mono HDR.out.size));have HC6:=hide (And.intro (Mem.Sits.below HT1.out HB6.out HT1.out.lt) (Mem.Sits.below HT3.out HB6.out HT3.out.lt));refine hK _ _ (fun _=>HC6.out) ?_;clear hK K hb6;refine one_C (j:=12) (by kernel_rfl) rfl (fun K hK=>?_);go_simp
 refine hK _ _ (fun _=>HC6.out) ?_;clear hK K;refine one_C (j:=13) (by kernel_rfl) rfl (fun K hK=>?_);go_simp
 have hb7:=below_new (w:=w6) (.cells #[.int .i64 o,.string z] 117);have HB7:=hide (HB6.out.trans (hb7.mono HB6.out.size));refine hK _ _ (fun _=>⟨Mem.Sits.below HC6.out.1 hb7 HC6.out.1.lt,Mem.Sits.below HC6.out.2 hb7 HC6.out.2.lt⟩) ?_;clear hK K;have HO7:=hide (own_keep HO5.out HB7.out);have HSC:=hide (show Apn.Src (w6.alloc (.cells #[.int .i64 o,.string z] 117)) 2 (some ⟨w6.heap.size,0,none⟩) 1 [.int .i64 o,.string z] from⟨rfl,by simp[Value.oneCell'],Or.inr ⟨_,rfl,cell_two_new _ _ _ _⟩⟩);have HS7a:=hide (Mem.Sits.below HC6.out.1 hb7 HC6.out.1.lt);have HS7b:=hide (Mem.Sits.below HC6.out.2 hb7 HC6.out.2.lt);have HS7c:=hide (Mem.Sits.below HT2.out HB7.out HT2.out.lt);clear hb7;generalize w6.alloc (.cells #[.int .i64 o,.string z] 117)=w7 at *;refine one_C (j:=14) (by kernel_rfl) rfl (fun K hK=>?_);refine Apn.step_any2 rfl (.tmp 21) (.tmp 33) 69 rfl 117 i0 (.agg #[.int .i64 0,.string ⟨#[]⟩]) 2 24 Tryz.underlying69 hi hz0 hz1 hz2 rfl (by decide) (.slice va2 dues.length vc2) _ _ rfl (Apn.weaken HO7.out) _ 1 1 [.int .i64 o,.string z] rfl HSC.out (by unfold maxLen;omega) (by omega) ?_;intro v8 w8 ow8 gr8 sm8 _;obtain⟨va8,vc8,rfl⟩:=own_shapeJ ow8;have hz7:wb+1<w7.heap.size:=HS7c.out.lt;have ow8':=Apn.stronger HO7.out ow8 sm8 (by omega);have ho8:=row_off gr8;have nr:∀{k:Nat} {cs:Array Value},Sits w7 k 71 cs→k∉(Value.slice va2 dues.length vc2).ownBlock.toList:=fun hs' hm=>by
  obtain⟨cs',hs''⟩:=sits_row HO7.out hm;exact sits_neJ hs' hs'' (by decide) rfl
 have HS8a:=hide (Foot.Sits.off HS7a.out ho8 (nr HS7a.out));have HS8b:=hide (Foot.Sits.off HS7b.out ho8 (nr HS7b.out));have HS8c:=hide (Foot.Sits.off HS7c.out ho8 (nr HS7c.out));have HO8:=hide ow8';have HB8:=hide (show Below wb w w8 from Own.below_grown (HB5.out.trans (HB7.out.mono (by rw[←HWB.out];exact HB5.out.size))) (by omega) HO7.out gr8);refine hK _ _ (fun _=>⟨HS8a.out,HS8b.out⟩) ?_;clear hK K ow8 ow8' gr8 sm8 ho8 nr;have e0:=HS8b.out.cell 0 _ rfl;have f0:=HS8b.out.frozen 0;go_simp
 refine one_C (j:=15) (by kernel_rfl) rfl (fun K hK=>?_);go_simp
 refine hK _ _ (fun h=>absurd h (by decide)) ?_;clear hK K;refine one_C (j:=16) (by kernel_rfl) rfl (fun K hK=>?_);go_simp
 refine hK _ _ (fun h=>absurd h (by decide)) ?_;clear hK K;refine done_C (by kernel_rfl) ?_ _;clear e0 f0;have hso:Off [wb+1+1] w8 (w8.setCell ⟨wb+1+1,0,none⟩ (.slice va8 (dues.length+1) vc8)):=(Off.refl _ _).set (uB.2 rfl) _ _;have HT9:=hide (show Sits (w8.setCell ⟨wb+1+1,0,none⟩ (.slice va8 (dues.length+1) vc8)) (wb+1+1) 71 #[.slice va8 (dues.length+1) vc8,.int .i64 tt,.slice none 0 0,.int .i64 0,.int .i64 o] from HS8b.out.set 0 _);have HR9:=hide (Foot.Sits.off HS8c.out hso (by simp));have HO9:=hide (own_off HO8.out hso (fun k hk e=>by
  obtain⟨cs,hs'⟩:=sits_row HO8.out hk;rw[uB.1 e]at hs';exact sits_neJ HS8b.out hs' (by decide) rfl))
 have HB9:=hide (show Below wb w (w8.setCell ⟨wb+1+1,0,none⟩ (.slice va8 (dues.length+1) vc8)) from HB8.out.trans (hso.below (fun b hb=>by rw[uB.1 hb];omega) (by rw[←HWB.out];exact HB8.out.size)));clear hso;generalize w8.setCell ⟨wb+1+1,0,none⟩ (.slice va8 (dues.length+1) vc8)=w9 at *;have a0:=HT9.out.cell 0 _ rfl;have a1:=HT9.out.cell 1 _ rfl;have a2:=HT9.out.cell 2 _ rfl;have a3:=HT9.out.cell 3 _ rfl;have a4:=HT9.out.cell 4 _ rfl;have h0:=HR9.out;have d0:=h0.cell 0 _ rfl;have f0:=h0.frozen 0;have h1:=h0.set 0 (.slice va8 (dues.length+1) vc8);have d1:=h1.cell 1 _ rfl;have f1:=h1.frozen 1;have h2:=h1.set 1 (.int .i64 tt);have d2:=h2.cell 2 _ rfl;have f2:=h2.frozen 2;have h3:=h2.set 2 (.slice none 0 0);have d3:=h3.cell 3 _ rfl;have f3:=h3.frozen 3;have h4:=h3.set 3 (.int .i64 0);have d4:=h4.cell 4 _ rfl;have f4:=h4.frozen 4;have HT10:=hide (h4.set 4 (.int .i64 o));have HOF:=hide (show Off [wb+1] w9 (((((w9.setCell ⟨wb+1,0,none⟩ (.slice va8 (dues.length+1) vc8)).setCell ⟨wb+1,1,none⟩ (.int .i64 tt)).setCell ⟨wb+1,2,none⟩ (.slice none 0 0)).setCell ⟨wb+1,3,none⟩ (.int .i64 0)).setCell ⟨wb+1,4,none⟩ (.int .i64 o)) from(((((Off.refl _ _).set (uB.2 rfl) _ _).set (uB.2 rfl) _ _).set (uB.2 rfl) _ _).set (uB.2 rfl) _ _).set (uB.2 rfl) _ _);clear h0 h1 h2 h3 h4;go_wp2_with fail
 refine bodyPost_ret (results_cell_row rfl _ _ (wb+1) 71 _ (0,0) _ rfl HT10.out Tryz.underlying71 rfl (by kernel_rfl)) rfl ?_;refine⟨.slice va8 (dues.length+1) vc8,rfl,?_,?_⟩
 ·have h5:=own_off HO9.out HOF.out (fun k hk e=>by
   obtain⟨cs,hs'⟩:=sits_row HO9.out hk;rw[uB.1 e]at hs';exact sits_neJ HR9.out hs' (by decide) rfl)
  rw[HWB.out,mcells_append];exact h5
 ·rw[HWB.out];exact HB9.out.trans (HOF.out.below (fun b hb=>by rw[uB.1 hb];omega) (by rw[←HWB.out];exact HB9.out.size))
structure Wd where
 due:List Ms
 o:Int
 hs:List ByteArray
 sr:Int
 tp:Int
def wturn (z:ByteArray)(tt:Int)(W:Wd):Wd:=
 if tt≤W.o then W else if W.hs≠[] then ⟨W.due++[⟨W.o,z⟩],tt,[],0,W.o⟩ else {W with o:=tt}
structure WdAt (w:World)(dv hv:Value)(W:Wd):Prop where
 due:w.ownsRow 0 117 2 dv W.due.length (mcells W.due)
 held:w.ownsRow 0 9 1 hv W.hs.length (W.hs.map Value.string)
def agW (dv hv:Value)(W:Wd):Value:=.agg (wv dv W.o hv W.sr W.tp)
theorem WdAt.keep {w w':World}{dv hv:Value}{W:Wd}(h:WdAt w dv hv W)(hb:Below w.heap.size w w'):WdAt w' dv hv W:=⟨own_keep h.due hb,own_keep h.held hb⟩
theorem own_new {w:World}{base size n:Nat}{e:TypeId}{v:Value}{xs:List Value}(h:w.ownsRow base e size v n xs):∀k∈v.ownBlock.toList,base≤k:=fun k hk=>Own.block h k (by simpa using hk)
theorem nil_blocks:∀k∈(Value.slice none 0 0).ownBlock.toList,False:=by simp[Value.ownBlock]
set_option maxRecDepth 10000 in
theorem turnedL (r:Nat)(c:Fin 6→Int)(hcok:COk c)(now:Int)(h0:0≤now)(h1:now≤1000000000)(dv hv:Value)(W:Wd)(z:ByteArray)(w:World)(hc:Cfg w r c)(hn:w.cell? ⟨r,8,none⟩=some (.int .i64 now))(hz:Doc c W.o W.hs z)(hW:WdAt w dv hv W)(hdl:W.due.length≤1000000000)(hhl:W.hs.length≤1000000000):
  Calls Tryz.prog 118 #[.pointer (some ⟨r,0,none⟩),agW dv hv W] w fun e w'=>∃dv' hv',e=.returned (agW dv' hv' (wturn z (now / c 0) W))∧WdAt w' dv' hv' (wturn z (now / c 0) W)∧(∀k∈dv'.ownBlock.toList,k∈dv.ownBlock.toList∨w.heap.size≤k)∧(∀k∈hv'.ownBlock.toList,k∈hv.ownBlock.toList∨w.heap.size≤k)∧Below w.heap.size w w':=by
 have hc0:=Dd.COk.pos hcok;have hnz:¬c 0=0:=by omega
 obtain⟨tt,htt⟩:∃tt,now / c 0=tt:=⟨_,rfl⟩;have htd:now.tdiv (c 0)=tt:=by rw[Int.tdiv_eq_ediv_of_nonneg h0,htt]
 have ht0:0≤tt:=by rw[←htt];exact Int.ediv_nonneg h0 (by omega)
 have ht1:tt≤1000000000:=by rw[←htt];exact Int.le_trans (Int.ediv_le_self _ h0) h1
 have hwt:IntKind.i64.wrap tt=tt:=IntWalk.i64_in _ (by omega);rw[htt];obtain⟨da,dc,hde⟩:=own_shapeJ hW.due;obtain⟨ha,hcp,hhe⟩:=own_shapeJ hW.held;have HW:=hide hW;have HC:=hide hc;have HZ:=hide hz;have HN:=hide hn;obtain⟨dues,o,hs,sr,tp⟩:=W;simp only at hde hhe hdl hhl;subst hde;subst hhe;unfold agW wv;simp only;clear hW hc hz hn htt;have hs1:=Sits.new w 71 #[.slice da dues.length dc,.int .i64 o,.slice ha hs.length hcp,.int .i64 sr,.int .i64 tp];have hb1:=below_new (w:=w) (.cells #[.slice da dues.length dc,.int .i64 o,.slice ha hs.length hcp,.int .i64 sr,.int .i64 tp] 71);have hs2:=Sits.new (w.alloc (.cells #[.slice da dues.length dc,.int .i64 o,.slice ha hs.length hcp,.int .i64 sr,.int .i64 tp] 71)) 71 #[.slice none 0 0,.int .i64 0,.slice none 0 0,.int .i64 0,.int .i64 0];have hb2:=below_new (w:=w.alloc (.cells #[.slice da dues.length dc,.int .i64 o,.slice ha hs.length hcp,.int .i64 sr,.int .i64 tp] 71)) (.cells #[.slice none 0 0,.int .i64 0,.slice none 0 0,.int .i64 0,.int .i64 0] 71);have HS1:=hide (Mem.Sits.below hs1 hb2 hs1.lt);rw[World.size_alloc]at hs2;have HS2:=hide hs2;have HB2:=hide (hb1.trans (hb2.mono hb1.size));clear hs1 hb1 hs2 hb2;go_enter Tryz.func118,Tryz.ntmps118
 go_upto_region 1 with fail
 generalize (w.alloc (.cells #[.slice da dues.length dc,.int .i64 o,.slice ha hs.length hcp,.int .i64 sr,.int .i64 tp] 71)).alloc (.cells #[.slice none 0 0,.int .i64 0,.slice none 0 0,.int .i64 0,.int .i64 0] 71)=w2 at *;have HW2:=hide (HW.out.keep HB2.out);have HC2:=hide (HC.out.keep HB2.out);have HN2:=hide ((HB2.out.cell (p:=⟨r,8,none⟩) HC.out.1).trans HN.out);obtain⟨wb,hwb⟩:∃wb,w.heap.size=wb:=⟨_,rfl⟩;rw[hwb]at HS1 HS2 HB2 ⊢;have HWB:=hide hwb;clear hwb;have C0:∀s:Bw w2,s.val.cell? ⟨r,0,none⟩=some (.int .i64 (c 0)):=fun s=>(HC2.out.keep s.is).2.1
 have C8:∀s:Bw w2,s.val.cell? ⟨r,8,none⟩=some (.int .i64 now):=fun s=>(s.is.cell (p:=⟨r,8,none⟩) HC2.out.1).trans HN2.out
 go_wp2_with fail
 refine region_cls (by kernel_rfl) (by kernel_rfl) ?_;repeat (first
  | go_big_quiet_skip
  | (go_big_quiet_want;go_big_quiet_op;go_big_quiet_on))
 refine wpQuiet_nil ?_;rintro _ ⟨s,rfl⟩;have HB3:=hide (show Below wb w s.val from HB2.out.trans (s.is.mono (by rw[←HWB.out];exact HB2.out.size)));have HS1:=hide (Mem.Sits.below HS1.out s.is HS1.out.lt);have HS2:=hide (Mem.Sits.below HS2.out s.is HS2.out.lt);have HW3:=hide (HW2.out.keep s.is);have HC3:=hide (HC2.out.keep s.is);clear C0 C8 htd hwt HW2 HC2 HN2 HB2;generalize s.val=w3 at *
 -- a world stored into the result
 have STO:=hide (show ∀(x:World) (dv hv:Value) (o sr tp:Int),Sits x (wb+1) 71 #[.slice none 0 0,.int .i64 0,.slice none 0 0,.int .i64 0,.int .i64 0]→
   x.cell? ⟨wb+1,0,none⟩=some (.slice none 0 0)∧x.frozen? ⟨wb+1,0,none⟩=false∧(x.setCell ⟨wb+1,0,none⟩ dv).cell? ⟨wb+1,1,none⟩=some (.int .i64 0)∧(x.setCell ⟨wb+1,0,none⟩ dv).frozen? ⟨wb+1,1,none⟩=false∧
   ((x.setCell ⟨wb+1,0,none⟩ dv).setCell ⟨wb+1,1,none⟩ (.int .i64 o)).cell? ⟨wb+1,2,none⟩=some (.slice none 0 0)∧((x.setCell ⟨wb+1,0,none⟩ dv).setCell ⟨wb+1,1,none⟩ (.int .i64 o)).frozen? ⟨wb+1,2,none⟩=false∧
   (((x.setCell ⟨wb+1,0,none⟩ dv).setCell ⟨wb+1,1,none⟩ (.int .i64 o)).setCell ⟨wb+1,2,none⟩ hv).cell? ⟨wb+1,3,none⟩=some (.int .i64 0)∧(((x.setCell ⟨wb+1,0,none⟩ dv).setCell ⟨wb+1,1,none⟩ (.int .i64 o)).setCell ⟨wb+1,2,none⟩ hv).frozen? ⟨wb+1,3,none⟩=false∧
   ((((x.setCell ⟨wb+1,0,none⟩ dv).setCell ⟨wb+1,1,none⟩ (.int .i64 o)).setCell ⟨wb+1,2,none⟩ hv).setCell ⟨wb+1,3,none⟩ (.int .i64 sr)).cell? ⟨wb+1,4,none⟩=some (.int .i64 0)∧((((x.setCell ⟨wb+1,0,none⟩ dv).setCell ⟨wb+1,1,none⟩ (.int .i64 o)).setCell ⟨wb+1,2,none⟩ hv).setCell ⟨wb+1,3,none⟩ (.int .i64 sr)).frozen? ⟨wb+1,4,none⟩=false∧
   Sits (((((x.setCell ⟨wb+1,0,none⟩ dv).setCell ⟨wb+1,1,none⟩ (.int .i64 o)).setCell ⟨wb+1,2,none⟩ hv).setCell ⟨wb+1,3,none⟩ (.int .i64 sr)).setCell ⟨wb+1,4,none⟩ (.int .i64 tp)) (wb+1) 71 #[dv,.int .i64 o,hv,.int .i64 sr,.int .i64 tp]∧
   Off [wb+1] x (((((x.setCell ⟨wb+1,0,none⟩ dv).setCell ⟨wb+1,1,none⟩ (.int .i64 o)).setCell ⟨wb+1,2,none⟩ hv).setCell ⟨wb+1,3,none⟩ (.int .i64 sr)).setCell ⟨wb+1,4,none⟩ (.int .i64 tp)) from fun x dv hv o sr tp hx=>
  ⟨hx.cell 0 _ rfl,hx.frozen 0,(hx.set 0 dv).cell 1 _ rfl,(hx.set 0 dv).frozen 1,((hx.set 0 dv).set 1 (.int .i64 o)).cell 2 _ rfl,((hx.set 0 dv).set 1 (.int .i64 o)).frozen 2,(((hx.set 0 dv).set 1 (.int .i64 o)).set 2 hv).cell 3 _ rfl,(((hx.set 0 dv).set 1 (.int .i64 o)).set 2 hv).frozen 3,((((hx.set 0 dv).set 1 (.int .i64 o)).set 2 hv).set 3 (.int .i64 sr)).cell 4 _ rfl,((((hx.set 0 dv).set 1 (.int .i64 o)).set 2 hv).set 3 (.int .i64 sr)).frozen 4,((((hx.set 0 dv).set 1 (.int .i64 o)).set 2 hv).set 3 (.int .i64 sr)).set 4 (.int .i64 tp),(((((Off.refl _ _).set (uB.2 rfl) _ _).set (uB.2 rfl) _ _).set (uB.2 rfl) _ _).set (uB.2 rfl) _ _).set (uB.2 rfl) _ _⟩)
 have a1:=HS1.out.cell 1 _ rfl;by_cases hle:tt≤o
 ·have a0:=HS1.out.cell 0 _ rfl;have a2:=HS1.out.cell 2 _ rfl;have a3:=HS1.out.cell 3 _ rfl;have a4:=HS1.out.cell 4 _ rfl;obtain⟨d0,f0,d1,f1,d2,f2,d3,f3,d4,f4,hT,hO⟩:=STO.out w3 (.slice da dues.length dc) (.slice ha hs.length hcp) o sr tp HS2.out;have HT:=hide hT;have HO:=hide hO;have HLE:=hide hle;clear hT hO;go_wp2_with fail
  refine bodyPost_ret (results_cell_row rfl _ _ (wb+1) 71 _ (0,0) _ rfl HT.out Tryz.underlying71 rfl (by kernel_rfl)) rfl ?_;have hWE:wturn z tt ⟨dues,o,hs,sr,tp⟩=⟨dues,o,hs,sr,tp⟩:=by unfold wturn;rw[if_pos HLE.out]
  rw[hWE];have hb4:Below wb w _:=HB3.out.trans (HO.out.below (fun b hb=>by rw[uB.1 hb];omega) (by rw[←HWB.out];exact HB3.out.size));exact⟨_,_,rfl,HW.out.keep (by rw[HWB.out];exact hb4),fun k hk=>Or.inl hk,fun k hk=>Or.inl hk,by rw[HWB.out];exact hb4⟩
 ·have a0:=HS1.out.cell 0 _ rfl;have a2:=HS1.out.cell 2 _ rfl;have a3:=HS1.out.cell 3 _ rfl;have a4:=HS1.out.cell 4 _ rfl;by_cases hne:hs=[]
  ·have hz0:hs.length=0:=by rw[hne];rfl
   have hWE:wturn z tt ⟨dues,o,hs,sr,tp⟩=⟨dues,tt,hs,sr,tp⟩:=by unfold wturn;rw[if_neg hle,if_neg (fun h=>h hne)]
   have HWE:=hide hWE;rw[hz0]at a2;have g1:=HS1.out.frozen 1;have hso:Off [wb] w3 (w3.setCell ⟨wb,1,none⟩ (.int .i64 tt)):=(Off.refl _ _).set (uB.2 rfl) _ _;have hsb:=HS1.out.set 1 (.int .i64 tt);have hsr:=Foot.Sits.off HS2.out hso (by simp);have HB4:=hide (show Below wb w (w3.setCell ⟨wb,1,none⟩ (.int .i64 tt)) from HB3.out.trans (hso.below (fun b hb=>by rw[uB.1 hb];exact Nat.le_refl _) (by rw[←HWB.out];exact HB3.out.size)));have b0:=hsb.cell 0 _ rfl;have b1:=hsb.cell 1 _ rfl;have b2:=hsb.cell 2 _ rfl;have b3:=hsb.cell 3 _ rfl;have b4:=hsb.cell 4 _ rfl;rw[hz0]at b2;obtain⟨d0,f0,d1,f1,d2,f2,d3,f3,d4,f4,hT,hO⟩:=STO.out (w3.setCell ⟨wb,1,none⟩ (.int .i64 tt)) (.slice da dues.length dc) (.slice ha 0 hcp) tt sr tp hsr;have HT:=hide hT;have HO:=hide hO;have HZ0:=hide hz0;clear hT hO hsb hsr hso hne hWE;rw[hz0];clear hz0;go_wp2_with fail
   refine bodyPost_ret (results_cell_row rfl _ _ (wb+1) 71 _ (0,0) _ rfl HT.out Tryz.underlying71 rfl (by kernel_rfl)) rfl ?_;rw[HWE.out];have hb4:Below wb w _:=HB4.out.trans (HO.out.below (fun b hb=>by rw[uB.1 hb];omega) (by have:=HB4.out.size;have:=HWB.out;omega));have hk:=HW.out.keep (by rw[HWB.out];exact hb4);refine⟨.slice da dues.length dc,.slice ha 0 hcp,rfl,⟨hk.due,?_⟩,fun k hk=>Or.inl hk,fun k hk=>Or.inl (by rw[HZ0.out];exact hk),by rw[HWB.out];exact hb4⟩;have h5:=hk.held;simp only[HZ0.out]at h5 ⊢;exact h5
  ·have hpos:(0:Int)<(hs.length:Int):=by
    have:hs.length≠0:=fun e=>hne (List.length_eq_zero_iff.1 e)
    omega
   have hWE:wturn z tt ⟨dues,o,hs,sr,tp⟩=⟨dues++[⟨o,z⟩],tt,[],0,o⟩:=by unfold wturn;rw[if_neg hle,if_pos hne]
   have HWE:=hide hWE;have hse:=sealedL r c (.slice da dues.length dc) (.slice ha hs.length hcp) dues hs o sr tp tt z w3 HC3.out HZ.out HW3.out.due HW3.out.held hdl;unfold wv at hse;clear hne hWE;go_wp2_with fail
   refine hse.mono ?_;clear hse a0 a1 a2 a3 a4;rintro e w4 ⟨dv',rfl,hrow,hb4⟩;obtain⟨da',dc',rfl⟩:=own_shapeJ hrow;have HR:=hide hrow;have HB4:=hide (show Below wb w w4 from HB3.out.trans (hb4.mono (by rw[←HWB.out];exact HB3.out.size)));have hz3:=HS2.out.lt;have HNEW:=hide (show ∀k∈(Value.slice da' (dues++[(⟨o,z⟩:Ms)]).length dc').ownBlock.toList,w.heap.size≤k∧w3.heap.size≤k from fun k hk=>by
    have:=own_new hrow k hk;have:=HWB.out;omega)
   obtain⟨d0,f0,d1,f1,d2,f2,d3,f3,d4,f4,hT,hO⟩:=STO.out w4 (.slice da' (dues++[(⟨o,z⟩:Ms)]).length dc') (.slice none 0 0) tt 0 o (Mem.Sits.below HS2.out hb4 HS2.out.lt);have HT:=hide hT;have HO:=hide hO;clear hT hO hrow hb4;generalize hnl:(dues++[(⟨o,z⟩:Ms)]).length=nl at *;go_wp2_with fail
   refine bodyPost_ret (results_cell_row rfl _ _ (wb+1) 71 _ (0,0) _ rfl HT.out Tryz.underlying71 rfl (by kernel_rfl)) rfl ?_;rw[HWE.out];have hb5:Below wb w _:=HB4.out.trans (HO.out.below (fun b hb=>by rw[uB.1 hb];omega) (by rw[←HWB.out];exact HB4.out.size));refine⟨.slice da' nl dc',.slice none 0 0,rfl,⟨?_,⟨rfl,Or.inl ⟨rfl,rfl⟩⟩⟩,fun k hk=>Or.inr (HNEW.out k hk).1,fun k hk=>(nil_blocks k hk).elim,by rw[HWB.out];exact hb5⟩;have h6:=own_off (Apn.weaken HR.out) HO.out (fun k hk e=>by
    have:=(HNEW.out k hk).2;rw[uB]at e;omega)
   simp only[hnl];exact h6
structure Rn where
 c:Fin 6→Int
 now:Int
 W:Wd
 ever:List Ms
 gone:List Int
 sl:List Int
structure Rp where
 X:Nat
 q:Pl
 dv:Value
 hv:Value
 ev:Value
 gv:Value
 lv:Value
 kv:Value
 ls:List (Value×Value)
 mbs:List Nat
def lf (r:Nat)(p:Rp):List Nat:=r ::(p.dv.ownBlock.toList++(p.hv.ownBlock.toList++(p.ev.ownBlock.toList++(p.gv.ownBlock.toList++(p.lv.ownBlock.toList++(p.kv.ownBlock.toList++p.mbs))))))
theorem lf_r (r:Nat)(p:Rp):r∈lf r p:=List.mem_cons_self ..
theorem lf_d {r:Nat}{p:Rp}{k:Nat}(h:k∈p.dv.ownBlock.toList):k∈lf r p:=uD _ (uC _ h)
theorem lf_h {r:Nat}{p:Rp}{k:Nat}(h:k∈p.hv.ownBlock.toList):k∈lf r p:=uD _ (uA _ (uC _ h))
theorem lf_e {r:Nat}{p:Rp}{k:Nat}(h:k∈p.ev.ownBlock.toList):k∈lf r p:=uD _ (uA _ (uA _ (uC _ h)))
theorem lf_g {r:Nat}{p:Rp}{k:Nat}(h:k∈p.gv.ownBlock.toList):k∈lf r p:=uD _ (uA _ (uA _ (uA _ (uC _ h))))
theorem lf_l {r:Nat}{p:Rp}{k:Nat}(h:k∈p.lv.ownBlock.toList):k∈lf r p:=uD _ (uA _ (uA _ (uA _ (uA _ (uC _ h)))))
theorem lf_k {r:Nat}{p:Rp}{k:Nat}(h:k∈p.kv.ownBlock.toList):k∈lf r p:=uD _ (uA _ (uA _ (uA _ (uA _ (uA _ (uC _ h))))))
theorem lf_m {r:Nat}{p:Rp}{k:Nat}(h:k∈p.mbs):k∈lf r p:=uD _ (uA _ (uA _ (uA _ (uA _ (uA _ (uA _ h))))))
theorem lf_cases {r:Nat}{p:Rp}{k:Nat}(h:k∈lf r p):k=r∨k∈p.dv.ownBlock.toList∨k∈p.hv.ownBlock.toList∨k∈p.ev.ownBlock.toList∨k∈p.gv.ownBlock.toList∨k∈p.lv.ownBlock.toList∨k∈p.kv.ownBlock.toList∨k∈p.mbs:=by
 simpa only[lf,List.mem_cons,List.mem_append] using h
def Marks (w:World)(mbs:List Nat)(v:Value)(n:Nat)(z:Int):Prop:=
 ∃ao cv,v=.slice ao n cv∧(n≠0→∃b cs,ao=some ⟨b,0,none⟩∧b∈mbs∧n≤cv∧Sits w b 117 cs∧∀j:Nat,j<n→cs[j*2]? = some (.int .i64 z)∧cs[j*2+1]? = some (.string ⟨#[]⟩))
def Ent (w:World)(mbs:List Nat)(i:Nat)(v g:Value):Prop:=∃n:Nat,n≤1000000000∧Marks w mbs v n (-1 - (i:Int))∧Marks w mbs g (n+3) (-1 - (i:Int))
theorem Marks.off {F mbs:List Nat}{w w':World}{v:Value}{n:Nat}{z:Int}(h:Marks w mbs v n z)(ho:Off F w w')(hF:∀k∈mbs,k∉F):Marks w' mbs v n z:=by
 obtain⟨ao,cv,h1,h2⟩:=h;refine⟨ao,cv,h1,fun hn=>?_⟩;obtain⟨b,cs,e1,e2,e3,e4,e5⟩:=h2 hn;exact⟨b,cs,e1,e2,e3,Foot.Sits.off e4 ho (hF b e2),e5⟩
theorem Ent.off {F mbs:List Nat}{w w':World}{i:Nat}{v g:Value}(h:Ent w mbs i v g)(ho:Off F w w')(hF:∀k∈mbs,k∉F):Ent w' mbs i v g:=by
 obtain⟨n,h0,h1,h2⟩:=h;exact⟨n,h0,h1.off ho hF,h2.off ho hF⟩
def rcs (R:Rn)(p:Rp):Array Value:=#[.int .i64 (R.c 0),.int .i64 (R.c 1),.int .i64 (R.c 2),.int .i64 (R.c 3),.int .i64 (R.c 4),.int .i64 (R.c 5),.pointer (some ⟨p.X,0,none⟩),.pointer (some ⟨p.q.bx,0,none⟩),.int .i64 R.now,p.dv,.int .i64 R.W.o,p.hv,.int .i64 R.W.sr,.int .i64 R.W.tp,p.ev,p.gv,.bool false,.bool false,.int .i64 0,.int .i64 0,.int .i64 0,.int .i64 0,.string ⟨#[]⟩,p.lv,p.kv,.bool true]
structure Rows (w:World)(R:Rn)(p:Rp):Prop where
 wd:WdAt w p.dv p.hv R.W
 ever:w.ownsRow 0 117 2 p.ev R.ever.length (mcells R.ever)
 gone:w.ownsRow 0 3 1 p.gv R.gone.length (R.gone.map (Value.int .i64))
 lists:w.ownsRow 0 69 1 p.lv p.ls.length (p.ls.map (·.1))
 grown:w.ownsRow 0 69 1 p.kv p.ls.length (p.ls.map (·.2))
 ents:∀i e,p.ls[i]? = some e→Ent w p.mbs i e.1 e.2
 ml:∀k∈p.mbs,∃cs,Sits w k 117 cs
 e1:∀k∈p.ev.ownBlock.toList,k∉p.dv.ownBlock.toList∧k∉p.mbs
 e2:∀k∈p.lv.ownBlock.toList,k∉p.kv.ownBlock.toList
structure RA (w:World)(r:Nat)(R:Rn)(D:Dn)(p:Rp):Prop where
 head:Sits w r 75 (rcs R p)
 da:DA w p.X D p.q
 rows:Rows w R p
 rm:r∉p.mbs
 ap:∀k∈lf r p,k∉df p.X p.q
theorem Rows.off {F:List Nat}{w w':World}{R:Rn}{p:Rp}{r:Nat}(h:Rows w R p)(ho:Off F w w')(hF:∀k∈lf r p,k≠r→k∉F)(hr:∀k∈lf r p,k=r→k∉F∨k∉p.mbs∧k∉p.dv.ownBlock.toList∧k∉p.hv.ownBlock.toList∧k∉p.ev.ownBlock.toList∧k∉p.gv.ownBlock.toList∧k∉p.lv.ownBlock.toList∧k∉p.kv.ownBlock.toList):Rows w' R p:=by
 have go:∀k,k∈lf r p→(k∈p.mbs∨k∈p.dv.ownBlock.toList∨k∈p.hv.ownBlock.toList∨k∈p.ev.ownBlock.toList∨k∈p.gv.ownBlock.toList∨k∈p.lv.ownBlock.toList∨k∈p.kv.ownBlock.toList)→k∉F:=fun k hk hc=>by
  by_cases e:k=r
  ·rcases hr k hk e with h1|⟨h1,h2,h3,h4,h5,h6,h7⟩
   ·exact h1
   ·rcases hc with c|c|c|c|c|c|c
    ·exact absurd c h1
    ·exact absurd c h2
    ·exact absurd c h3
    ·exact absurd c h4
    ·exact absurd c h5
    ·exact absurd c h6
    ·exact absurd c h7
  ·exact hF k hk e
 refine⟨⟨own_off h.wd.due ho fun k hk=>go k (lf_d hk) (by simp[hk]),own_off h.wd.held ho fun k hk=>go k (lf_h hk) (by simp[hk])⟩,own_off h.ever ho fun k hk=>go k (lf_e hk) (by simp[hk]),own_off h.gone ho fun k hk=>go k (lf_g hk) (by simp[hk]),own_off h.lists ho fun k hk=>go k (lf_l hk) (by simp[hk]),own_off h.grown ho fun k hk=>go k (lf_k hk) (by simp[hk]),fun i e he=>(h.ents i e he).off ho fun k hk=>go k (lf_m hk) (Or.inl hk),fun k hk=>(h.ml k hk).imp fun cs hs=>Foot.Sits.off hs ho (go k (lf_m hk) (Or.inl hk)),h.e1,h.e2⟩
theorem row_lt {w:World}{base size n:Nat}{e:TypeId}{v:Value}{xs:List Value}(h:w.ownsRow base e size v n xs){k:Nat}(hk:k∈v.ownBlock.toList):k<w.heap.size:=by
 obtain⟨cs,hs⟩:=sits_row h hk;exact hs.lt
theorem RA.lfl {w:World}{r:Nat}{R:Rn}{D:Dn}{p:Rp}(h:RA w r R D p):∀k∈lf r p,k<w.heap.size:=fun k hk=>by
 rcases lf_cases hk with e|e|e|e|e|e|e|e
 ·exact e▸h.head.lt
 ·exact row_lt h.rows.wd.due e
 ·exact row_lt h.rows.wd.held e
 ·exact row_lt h.rows.ever e
 ·exact row_lt h.rows.gone e
 ·exact row_lt h.rows.lists e
 ·exact row_lt h.rows.grown e
 ·obtain⟨cs,hs⟩:=h.rows.ml k e;exact hs.lt
def rf (r:Nat)(p:Rp):List Nat:=lf r p++df p.X p.q
theorem RA.lt {w:World}{r:Nat}{R:Rn}{D:Dn}{p:Rp}(h:RA w r R D p):∀k∈rf r p,k<w.heap.size:=fun k hk=>by
 rcases List.mem_append.1 hk with e|e
 ·exact h.lfl k e
 ·exact h.da.lt k e
theorem RA.off {F:List Nat}{w w':World}{r:Nat}{R:Rn}{D:Dn}{p:Rp}(h:RA w r R D p)(ho:Off F w w')(hF:∀k∈rf r p,k∉F):RA w' r R D p:=
 ⟨Foot.Sits.off h.head ho (hF r (uC _ (lf_r r p))),h.da.off ho (fun k hk=>hF k (uA _ hk)),h.rows.off (r:=r) ho (fun k hk _=>hF k (uC _ hk)) (fun k hk _=>Or.inl (hF k (uC _ hk))),h.rm,h.ap⟩
theorem RA.keep {w w':World}{r:Nat}{R:Rn}{D:Dn}{p:Rp}(h:RA w r R D p)(hb:Below w.heap.size w w'):RA w' r R D p:=
 h.off (F:=[]) (Off.of_below hb) (fun _ _=>by simp)
theorem RA.rno {w:World}{r:Nat}{R:Rn}{D:Dn}{p:Rp}(h:RA w r R D p):r∉p.mbs∧r∉p.dv.ownBlock.toList∧r∉p.hv.ownBlock.toList∧r∉p.ev.ownBlock.toList∧r∉p.gv.ownBlock.toList∧r∉p.lv.ownBlock.toList∧r∉p.kv.ownBlock.toList:=by
 have no:∀{base size n:Nat} {e:TypeId} {v:Value} {xs:List Value},w.ownsRow base e size v n xs→e≠75→r∉v.ownBlock.toList:=fun ho he hm=>by
  obtain⟨cs,hs⟩:=sits_row ho hm;exact sits_neJ hs h.head he rfl
 exact⟨h.rm,no h.rows.wd.due (by decide),no h.rows.wd.held (by decide),no h.rows.ever (by decide),no h.rows.gone (by decide),no h.rows.lists (by decide),no h.rows.grown (by decide)⟩
theorem RA.daemon {w w':World}{r:Nat}{R:Rn}{D D':Dn}{p:Rp}(h:RA w r R D p)(hq:Dq w w' p.X D' (df p.X p.q) p.q.bx):∃q',RA w' r R D' {p with q:=q'}∧q'.bx=p.q.bx∧(∀k∈rf r {p with q:=q'},k∈rf r p∨w.heap.size≤k)∧Off (df p.X p.q) w w':=by
 obtain⟨q',h1,h2,h3⟩:=hq.ex;have hr:=h.rows.off (r:=r) hq.off (fun k hk _=>h.ap k hk) (fun k hk _=>Or.inl (h.ap k hk));refine⟨q',⟨?_,h1,⟨hr.wd,hr.ever,hr.gone,hr.lists,hr.grown,hr.ents,hr.ml,hr.e1,hr.e2⟩,h.rm,fun k hk hd=>?_⟩,h2,fun k hk=>?_,hq.off⟩
 ·have:=Foot.Sits.off h.head hq.off (h.ap r (lf_r r p));unfold rcs at this ⊢;simp only[h2];exact this
 ·rcases h3 k hd with e|e
  ·exact h.ap k hk e
  ·have:=h.lfl k hk;omega
 ·rcases List.mem_append.1 hk with e|e
  ·exact Or.inl (uC _ e)
  ·exact(h3 k e).imp (uA _) id
theorem RA.put {w w':World}{r:Nat}{R R':Rn}{D:Dn}{p p':Rp}(h:RA w r R D p)(ho:Off [r] w w')(hh:Sits w' r 75 (rcs R' p'))(hX:p'.X=p.X)(hq:p'.q=p.q)(hr:Rows w R' p')(hm:r∉p'.mbs)(hap:∀k∈lf r p',k∉df p.X p.q):RA w' r R' D p':=by
 have hrd:r∉df p.X p.q:=h.ap r (lf_r r p);have no:∀{base size n:Nat} {e:TypeId} {v:Value} {xs:List Value},w.ownsRow base e size v n xs→e≠75→r∉v.ownBlock.toList:=fun ho he hm=>by
  obtain⟨cs,hs⟩:=sits_row ho hm;exact sits_neJ hs h.head he rfl
 refine⟨hh,?_,hr.off (r:=r) ho (fun k _ hne e=>hne (uB.1 e)) (fun k hk e=>Or.inr ?_),hm,?_⟩
 ·rw[hX,hq];exact h.da.off ho (fun k hk e=>hrd (uB.1 e▸hk))
 ·subst e;exact⟨hm,no hr.wd.due (by decide),no hr.wd.held (by decide),no hr.ever (by decide),no hr.gone (by decide),no hr.lists (by decide),no hr.grown (by decide)⟩
 ·rw[hX,hq];exact hap
end Go.Proofs.YtenegfafjjknoaaGreatDoor.Lw
