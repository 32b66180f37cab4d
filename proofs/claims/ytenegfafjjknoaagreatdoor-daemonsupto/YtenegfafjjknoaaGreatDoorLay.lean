/- Small pieces of the law of daemons: messages that are told. -/
import Derived.Test.YtenegfafjjknoaaGreatDoorEay
set_option maxHeartbeats 100000000
open List renaming mem_singleton → uA, getElem?_eq_getElem → uB, getElem?_take → uC, length_append → uD
namespace Go.Proofs.YtenegfafjjknoaaGreatDoor.Lw
open Go.RowKit Go.Maps Go.Shelf Mem Foot Bytes Im Wm Hi Plainw Cq Dm Dh Jr Wi Sk Hn Kr Dd
theorem msg_at {w:World}{base n i:Nat}{v:Value}{l:List Ms}{m:Ms}(h:w.ownsRow base 117 2 v n (mcells l))(hi:l[i]? = some m):∃g cap,v=.slice (some ⟨g,0,none⟩) n cap∧n≤cap∧base≤g∧g<w.heap.size∧w.cell? ⟨g,i*2,none⟩=some (.int .i64 m.k)∧w.cell? ⟨g,i*2+1,none⟩=some (.string m.t)∧w.frozen? ⟨g,i*2,none⟩=false∧w.frozen? ⟨g,i*2+1,none⟩=false:=by
 obtain⟨h1,h2⟩:=mcells_at hi;rcases h.2 with ⟨_,h0⟩|⟨g,cap,cur,rfl,hb,hg,hn,_,_,ht⟩
 ·have h3:=h.1;rw[h0,mcells_length]at h3;have:=(List.getElem?_eq_some_iff.1 hi).1;omega
 ·have hs:Sits w g 117 cur:=hg;have hc:∀(j:Nat) u,(mcells l)[j]? = some u→w.cell? ⟨g,j,none⟩=some u:=fun j u hu=>by
   rw[←ht,uC]at hu;split at hu
   ·exact hs.cell j u (by simpa using hu)
   ·cases hu
  exact⟨g,cap,rfl,hn,hb,hs.lt,hc _ _ h1,hc _ _ h2,hs.frozen _,hs.frozen _⟩
theorem row_from {w:World}{base:Nat}{e:TypeId}{v:Value}{n i:Nat}{xs:List Value}(h:w.ownsRow base e 1 v n xs)(hi:i<n):∃g cap,v=.slice (some ⟨g,0,none⟩) n cap∧n≤cap∧base≤g∧g<w.heap.size∧∀(j:Nat) u,xs[j]? = some u→w.cell? ⟨g,j,none⟩=some u∧w.frozen? ⟨g,j,none⟩=false:=by
 rcases h.2 with ⟨_,h0⟩|⟨g,cap,cur,rfl,hb,hg,hn,_,_,ht⟩
 ·omega
 ·refine⟨g,cap,rfl,hn,hb,(Array.getElem?_eq_some_iff.1 hg).1,fun j u hu=>?_⟩;have hs:Sits w g e cur:=hg;rw[←ht,uC]at hu;split at hu
  ·exact⟨hs.cell j u (by simpa using hu),hs.frozen j⟩
  ·cases hu
set_option maxRecDepth 100000 in
theorem msg_ne (a:Int)(s:ByteArray)(w:World):(binOp .neq 117 (.agg #[.int .i64 a,.string s]) (.agg #[.int .i64 a,.string s])).run Tryz.prog w=.ok (.bool false) w:=by
 have h1:Tryz.prog.underlying 117=some (.struct (Tryz.prog.fieldsOf 117)):=by kernel_rfl
 have h2:Tryz.prog.stoodInHeld 117=false:=by kernel_rfl
 have h3 : (Tryz.prog.fieldsOf 117).toList.map (fun f => (f.name, f.type, f.offset)) = [("Window", 3, 0), ("Text", 9, 1)] := by kernel_rfl
 rw[run_neq_struct,run_equalIn_agg w 9999 _ _ _ h1 h2];generalize (Tryz.prog.fieldsOf 117).toList=fs at h3;clear h1 h2;rcases fs with _|⟨f,_|⟨g,_|⟨x,r⟩⟩⟩
 ·simp at h3
 ·simp at h3
 ·simp only[List.map_cons,List.map_nil,List.cons.injEq,Prod.mk.injEq,and_true]at h3;obtain⟨⟨h1,h2,h4⟩,h5,h6,h7⟩:=h3;simp only[Op.eqFields,h1,h2,h4,h5,h6,h7];go_simp
 ·simp at h3
set_option maxRecDepth 10000 in
theorem same (b1 b2:Nat)(v u:Value)(l:List Ms)(w:World)(h1:w.ownsRow b1 117 2 v l.length (mcells l))(h2:w.ownsRow b2 117 2 u l.length (mcells l))(hl:l.length≤4000000000000):
  Calls Tryz.prog 121 #[v,u] w fun e w'=>e=.returned (.bool true)∧∃q,w'=w.drewN q:=by
 have hq:=msg_ne;obtain⟨vao,vcv,rfl⟩:=Own.shape h1;obtain⟨uao,ucv,rfl⟩:=Own.shape h2;have H1:=hide h1;have H2:=hide h2;clear h1 h2;go_enter Tryz.func121,Tryz.ntmps121
 go_wp2_with fail
 go_loopw [5] (fun s5 wr=>∃k q:Nat,s5=.int .i64 (k:Int)∧wr=w.drewN q∧k≤l.length) (fun s5 _=>l.length - (intOf s5).toNat)
 case atStart=>exact⟨0,0,rfl,rfl,by omega⟩
 case round=>
  obtain⟨k,q,rfl,rfl,hk⟩:=hrel;by_cases hkl:k<l.length
  ·have hkz:(k:Int)<(l.length:Int):=by omega
   obtain⟨x,hx⟩:∃x,l[k]? = some x:=⟨_,uB hkl⟩;obtain⟨g,cap,e1,hcap,_,hgl,x0,x1,_,_⟩:=msg_at H1.out hx;obtain⟨g2,cap2,e2,hcap2,_,hgl2,y0,y1,_,_⟩:=msg_at H2.out hx;injection e1 with e1 _ e3;injection e2 with e2 _ e4;subst e1;subst e2;subst e3;subst e4;clear hx;go_wp2_with fail
   go_quiet (fail)
   go_wp2_with fail
   go_roundw
   case rel=>exact⟨k+1,q+nq,by go_num,rfl,by omega⟩
   case measure=>simp[intOf];omega
  ·have hkz:¬(k:Int)<(l.length:Int):=by omega
   go_wp2_with fail
   go_ret
   exact⟨rfl,q,rfl⟩
theorem mustT (r:Nat)(w:World):Calls Tryz.prog 62 #[.pointer (some ⟨r,0,none⟩),.bool true] w fun e w'=>e=.returned (.tuple #[])∧w'=w:=by
 go_enter Tryz.func62,Tryz.ntmps62
 go_wp2_with fail
 go_end0
 exact⟨rfl,rfl⟩
theorem used_take {l:List Seg}{k:Nat}{s:Seg}(h:l[k]? = some s):Dm.used (l.take (k+1))=Dm.used (l.take k)+s.text.size:=by
 rw[List.take_add_one,h,Dm.used_append];simp[Dm.used]
theorem used_take_le (l:List Seg)(k:Nat):Dm.used (l.take k)≤Dm.used l:=by
 have:=Dm.used_append (l.take k) (l.drop k);rw[List.take_append_drop]at this;omega
set_option maxRecDepth 10000 in
theorem sizeL (r bx ba cap:Nat)(bs:List Nat)(S:Dk)(w:World)(hr:r<w.heap.size)(hc:w.cell? ⟨r,7,none⟩=some (.pointer (some ⟨bx,0,none⟩)))(hP:PD w bx S ba cap bs)(hG:Dm.Good S)(hl:S.left = -1)(hs:S.segs.length≤1000000000)(hu:Dm.used S.segs≤1000000000000):
  Calls Tryz.prog 114 #[.pointer (some ⟨r,0,none⟩)] w fun e w'=>e=.returned (.int .i64 (Dm.used S.segs:Int))∧Below w.heap.size w w':=by
 have hlen:=hP.len;have hd:doList S=(S.segs.map (·.num),0):=by unfold doList;rw[if_neg (by rw[hl];decide)]
 have hli:=list bx ba cap bs S w hP (by omega);rw[hd]at hli;have HP:=hide hP;have HC:=hide (fun (w':World) (hb:Below w.heap.size w w')=>(hb.cell (p:=⟨r,7,none⟩) hr).trans hc);have HRD:=hide (fun (s:Seg) (h:s∈S.segs)=>read_calm hl hG h);have hlm:(S.segs.map (·.num)).length=S.segs.length:=List.length_map ..;rw[hlm]at hli;have HNM:=hide (show ∀(k:Nat) (s:Seg),S.segs[k]? = some s→(S.segs.map (·.num))[k]? = some s.num from fun k s h=>by rw[List.getElem?_map,h];rfl);clear hP hG hl hd;go_enter Tryz.func114,Tryz.ntmps114
 go_wp2_with fail
 refine hli.mono ?_;clear hli hc;rintro e w1 ⟨v,rfl,hv,hb1⟩;have HB1:=hide hb1;have HV:=hide (show w1.ownsRow 0 3 1 v (S.segs.map (·.num)).length ((S.segs.map (·.num)).map (Value.int .i64)) from by rw[hlm];exact Apn.weaken hv);obtain⟨va,vc,hve⟩:=own_shapeJ hv;have HVE:=hide hve;clear hv hb1 hlm;rw[hve];clear hve;go_wp2_with (go_at_call 18;refine(Check.num _ _).mono ?_;rintro e w' ⟨rfl,rfl⟩)
 go_loopw [5,6] (fun s5 s6 wr=>∃k:Nat,s5=.int .i64 (Dm.used (S.segs.take k):Int)∧s6=.int .i64 (k:Int)∧k≤S.segs.length∧Hid (Below w1.heap.size w1 wr)) (fun _ s6 _=>S.segs.length - (intOf s6).toNat)
 case atStart=>exact⟨0,rfl,rfl,by omega,Below.refl _ _⟩
 case round=>
  obtain⟨k,rfl,rfl,hk,HB⟩:=hrel;by_cases hkl:k<S.segs.length
  ·have hkz:(k:Int)<(S.segs.length:Int):=by omega
   obtain⟨s,hsk⟩:∃s,S.segs[k]? = some s:=⟨_,uB hkl⟩;have HB2:=hide (HB1.out.trans (HB.out.mono HB1.out.size));obtain⟨g,gc,hge,hgc,hgl,_⟩:=row_ints HV.out (HNM.out k s hsk);rw[HVE.out]at hge;injection hge with hge1 hge2 hge3;have HG:=hide hge1;rw[hge1];have C7:∀q:Bw wr,q.val.cell? ⟨r,7,none⟩=some (.pointer (some ⟨bx,0,none⟩)):=fun q=>HC.out q.val (HB2.out.trans (q.is.mono HB2.out.size))
   have CG:∀q:Bw wr,q.val.cell? ⟨g,k,none⟩=some (.int .i64 s.num):=fun q=>by
    obtain⟨g',gc',he,_,_,hcl⟩:=row_ints (own_keep (own_keep HV.out HB.out) q.is) (HNM.out k s hsk);rw[HVE.out]at he;injection he with he1 _ _;rw[hge1]at he1;injection he1 with he1;injection he1 with he1;rw[he1];exact hcl
   have HRR:=hide (fun q:Bw wr=>call_cls ((read bx ba cap bs S s.num q.val ((HP.out.keep HB2.out).keep q.is) (by have:=HP.out.len;omega)).mono fun e w' ⟨h1,h2⟩=>⟨h1,by rw[←h2];exact Below.refl _ _⟩));rw[HRD.out s (List.mem_of_getElem? hsk)]at HRR;have hst:s.text.size≤1000000000000:=Nat.le_trans (Dm.used_mem (List.mem_of_getElem? hsk)) hu;have hut:=used_take_le S.segs k;have HUT:=hide (used_take hsk);have hcap:S.segs.length≤vc:=by
    have:(S.segs.map (·.num)).length=S.segs.length:=List.length_map ..;omega
   clear hge1 hge2 hge3 hsk hgc hgl;go_wp2_with fail
   refine region_cls (by kernel_rfl) (by kernel_rfl) ?_;repeat (first
    | go_big_quiet_skip
    | (go_big_quiet_want;go_big_quiet_op;first|go_big_quiet_on|(apply Exists.intro;refine⟨fun _=>?_,?_⟩;(go_at_call 48;exact HRR.out _);go_big_quiet_on)))
   refine wpQuiet_nil ?_;rintro _ ⟨q,rfl⟩;have HB3:=hide (HB.out.trans (q.is.mono HB.out.size));clear C7 CG HRR;generalize q.val=w2 at *;generalize Dm.used (S.segs.take k)=u at *;have hwr:IntKind.i64.wrap ((u:Int)+(s.text.size:Int))=(u:Int)+(s.text.size:Int):=IntWalk.i64_in _ (by omega);go_wp2_with fail
   go_roundw
   case rel=>exact⟨k+1,by rw[HUT.out];push_cast;rfl,by go_num,by omega,HB3⟩
   case measure=>simp[intOf];omega
  ·have hkz:¬(k:Int)<(S.segs.length:Int):=by omega
   have hke:k=S.segs.length:=by omega
   subst hke;rw[List.take_length];go_wp2_with fail
   go_ret
   exact⟨rfl,HB1.out.trans (HB.out.mono HB1.out.size)⟩
theorem failed0 (r:Nat)(a0 a1 a2 a3:Int)(t:ByteArray)(w:World):
  Calls Tryz.prog 115 #[.pointer (some ⟨r,0,none⟩),.int .i64 0,.agg #[.int .i64 a0,.int .i64 a1,.int .i64 a2,.int .i64 a3,.string t]] w fun e w'=>e=.returned (.bool false)∧Below w.heap.size w w':=by
 go_enter Tryz.func115,Tryz.ntmps115
 go_wp2_with (first|(go_at_call 18;refine(Check.num _ _).mono ?_;rintro e w' ⟨rfl,rfl⟩)|(go_at_call 62;refine(mustT r _).mono ?_;rintro e w' ⟨rfl,rfl⟩))
 go_ret
 exact⟨rfl,below_new _⟩
def wo (win:Int)(l:List Ms):List Ms:=l.filter fun m=>!decide (m.k=win)
theorem wo_snoc (win:Int)(l:List Ms)(m:Ms):wo win (l++[m])=wo win l++(if m.k=win then [] else [m]):=by
 unfold wo;rw[List.filter_append];by_cases h:m.k=win<;>simp[h]
theorem infoMs:(Tryz.prog.info? 117).map (fun i=>(i.zero,i.size,i.bytes))=some (some (.agg #[.int .i64 0,.string ⟨#[]⟩]),2,24):=by kernel_rfl
theorem any_snoc (win:Int)(l:List Ms)(m:Ms):(l++[m]).any (fun m=>decide (m.k=win))=(l.any (fun m=>decide (m.k=win))||decide (m.k=win)):=by simp
set_option maxRecDepth 10000 in
theorem withoutL (v:Value)(l:List Ms)(win:Int)(w:World)(hv:w.ownsRow 0 117 2 v l.length (mcells l))(hl:l.length≤1000000000):
  Calls Tryz.prog 120 #[v,.int .i64 win] w fun e w'=>∃v',e=.returned (.tuple #[v',.bool (l.any fun m=>decide (m.k=win))])∧w'.ownsRow w.heap.size 117 2 v' (wo win l).length (mcells (wo win l))∧Below w.heap.size w w':=by
 obtain⟨va,vc,hve⟩:=own_shapeJ hv;obtain⟨i0,hi,hz0,hz1,hz2⟩:=info_parts infoMs;have HV:=hide hv;subst hve;clear hv;go_enter Tryz.func120,Tryz.ntmps120
 go_wp2_with fail
 go_loopw [6,7,8] (fun s6 s7 s8 wr=>∃(k:Nat) (ao:Option Addr) (cv:Nat),s6=.slice ao (wo win (l.take k)).length cv∧s7=.bool ((l.take k).any fun m=>decide (m.k=win))∧s8=.int .i64 (k:Int)∧k≤l.length∧Hid (wr.ownsRow w.heap.size 117 2 (.slice ao (wo win (l.take k)).length cv) (wo win (l.take k)).length (mcells (wo win (l.take k))))∧Hid (Below w.heap.size w wr)) (fun _ _ s8 _=>l.length - (intOf s8).toNat)
 case atStart=>exact⟨0,none,0,rfl,rfl,rfl,by omega,World.ownsRow_nil _ _ _ _,Below.refl _ _⟩
 case round=>
  obtain⟨k,ao,cv,rfl,rfl,rfl,hk,HO,HB⟩:=hrel;by_cases hkl:k<l.length
  ·have hkz:(k:Int)<(l.length:Int):=by omega
   obtain⟨m,hm⟩:∃m,l[k]? = some m:=⟨_,uB hkl⟩;obtain⟨g,gc,hge,hgc,_,hgl,x0,x1,_,_⟩:=msg_at (own_keep HV.out HB.out) hm;injection hge with hg1 hg2 hg3;subst hg1;subst hg3;have hts:l.take (k+1)=l.take k++[m]:=by rw[List.take_add_one,hm];rfl
   have HTS:=hide hts;have HWS:=hide (wo_snoc win (l.take k) m);have HAS:=hide (any_snoc win (l.take k) m);have hwl:(wo win (l.take k)).length≤l.length:=Nat.le_trans (List.length_filter_le ..) (by rw[List.length_take];omega);clear hm hts;generalize hq:(l.take k).any (fun m=>decide (m.k=win))=bq at *;generalize hwq:wo win (l.take k)=xs at *;clear hq hwq;by_cases hmw:m.k=win
   ·have HMW:=hide hmw;rw[hmw]at x0;clear hmw;go_wp2_with fail
    go_roundw
    case rel=>exact⟨k+1,ao,cv,by rw[HTS.out,HWS.out,if_pos HMW.out,List.append_nil],by rw[HTS.out,HAS.out,decide_eq_true HMW.out,Bool.or_true],by go_num,by omega,by rw[HTS.out,HWS.out,if_pos HMW.out,List.append_nil];exact HO,HB⟩
    case measure=>simp[intOf];omega
   ·have HMW:=hide hmw;have hz:=HB.out.size;go_wp2_with (at_builtin;refine wpList_append_own _ rfl _ _ 69 rfl w.heap.size 117 i0 (.agg #[.int .i64 0,.string ⟨#[]⟩]) 2 24 Tryz.underlying69 hi hz0 hz1 hz2 rfl (by decide) _ _ _ rfl (HO.out.alloc _) ⟨wr.heap.size,0,none⟩ 1 1 [.int .i64 m.k,.string m.t] rfl rfl (cell_two_new _ _ _ _) (by intro u hu;simp at hu;rcases hu with rfl|rfl<;>rfl) (by unfold maxLen;omega) (by omega) (by simp;omega) ?_;intro v2 w2 hown2 hg2 hn2)
    obtain⟨ao2,cv2,rfl⟩:=Own.shape hown2;have hxl:wo win (l.take (k+1))=xs++[m]:=by rw[HTS.out,HWS.out,if_neg HMW.out]
    have hb2:=Own.below_more HB.out HB.out.size HO.out hg2;refine⟨⟨k+1,ao2,cv2,?_,?_,by go_num,by omega,?_,hb2⟩,by simp[intOf];omega⟩
    ·rw[hxl,uD];rfl
    ·rw[HTS.out,HAS.out,decide_eq_false HMW.out,Bool.or_false]
    ·rw[hxl,mcells_append,uD];exact hown2
  ·have hkz:¬(k:Int)<(l.length:Int):=by omega
   have hke:k=l.length:=by omega
   subst hke;rw[List.take_length]at HO;rw[List.take_length];go_wp2_with fail
   refine bodyPost_ret (results_tmp2 rfl _ _ _) rfl ?_;exact⟨_,rfl,HO.out,HB.out⟩
theorem infoSt:(Tryz.prog.info? 9).map (fun i=>(i.zero,i.size,i.bytes))=some (some (.string ⟨#[]⟩),1,16):=by kernel_rfl
theorem src_own {w:World}{base size n c:Nat}{e:TypeId}{a:Option Addr}{xs:List Value}(h:w.ownsRow base e size (.slice a n c) n xs)(hx:xs.length=n*size)(ho:∀u∈xs,u.oneCell'=true):Apn.Src w size a n xs:=by
 refine⟨hx,ho,?_⟩;rcases h.2 with ⟨_,h0⟩|⟨g,cap,cur,he,_,hg,_,_,_,ht⟩
 ·exact Or.inl h0
 ·injection he with h1 _ _;refine Or.inr ⟨⟨g,0,none⟩,h1,fun j u hj=>?_⟩;have hs:Sits w g e cur:=hg;rw[←ht,uC]at hj;split at hj
  ·have:=hs.cell j u (by simpa using hj);by_cases h0:j=0
   ·subst h0;simpa[Addr.add] using this
   ·simpa[Addr.add,h0] using this
  ·cases hj
def wv (dv:Value)(o:Int)(hv:Value)(s t:Int):Array Value:=#[dv,.int .i64 o,hv,.int .i64 s,.int .i64 t]
set_option maxRecDepth 10000 in
theorem takenL (da:Option Addr)(dn dc:Nat)(o sr tp:Int)(hv:Value)(hs:List ByteArray)(s:ByteArray)(w:World)(hh:w.ownsRow 0 9 1 hv hs.length (hs.map Value.string))(hl:hs.length≤1000000000):
  Calls Tryz.prog 117 #[.agg (wv (.slice da dn dc) o hv sr tp),.string s] w fun e w'=>∃hv',e=.returned (.agg (wv (.slice da dn dc) o hv' sr tp))∧w'.ownsRow w.heap.size 9 1 hv' (hs++[s]).length ((hs++[s]).map Value.string)∧Below w.heap.size w w':=by
 obtain⟨ha,hc,hve⟩:=own_shapeJ hh;obtain⟨i0,hi,hz0,hz1,hz2⟩:=info_parts infoSt;have HH:=hide hh;subst hve;unfold wv;have hs1:=Sits.new w 71 #[.slice da dn dc,.int .i64 o,.slice ha hs.length hc,.int .i64 sr,.int .i64 tp];have hb1:=below_new (w:=w) (.cells #[.slice da dn dc,.int .i64 o,.slice ha hs.length hc,.int .i64 sr,.int .i64 tp] 71);have hs2:=Sits.new (w.alloc (.cells #[.slice da dn dc,.int .i64 o,.slice ha hs.length hc,.int .i64 sr,.int .i64 tp] 71)) 71 #[.slice none 0 0,.int .i64 0,.slice none 0 0,.int .i64 0,.int .i64 0];have hb2:=below_new (w:=w.alloc (.cells #[.slice da dn dc,.int .i64 o,.slice ha hs.length hc,.int .i64 sr,.int .i64 tp] 71)) (.cells #[.slice none 0 0,.int .i64 0,.slice none 0 0,.int .i64 0,.int .i64 0] 71);have hs1':=Mem.Sits.below hs1 hb2 hs1.lt;have c2:=hs1'.cell 2 _ rfl;have HS1:=hide hs1';have HS2:=hide hs2;have HB2:=hide (hb1.trans (hb2.mono hb1.size));have HR2:=hide (own_keep (own_keep hh hb1) hb2);clear hs1 hb1 hs2 hb2 hs1' hh;go_enter Tryz.func117,Tryz.ntmps117
 have HN2:=hide (World.ownsRow_nil ((w.alloc (.cells #[.slice da dn dc,.int .i64 o,.slice ha hs.length hc,.int .i64 sr,.int .i64 tp] 71)).alloc (.cells #[.slice none 0 0,.int .i64 0,.slice none 0 0,.int .i64 0,.int .i64 0] 71)) w.heap.size 9 1);have HSR:=hide (src_own HR2.out (by simp) (by simp[Value.oneCell']));go_upto_region 3 with (at_builtin;refine Apn.wpList_own _ rfl _ _ 36 rfl w.heap.size 9 i0 (.string ⟨#[]⟩) 1 16 Tryz.underlying36 hi hz0 hz1 hz2 rfl (by decide) _ _ _ rfl HN2.out ha hs.length hc (hs.map Value.string) rfl HSR.out (by unfold maxLen;omega) (by omega) (by simp;omega) ?_;intro v2 w2 hown2 hg2 hn2)
 rw[List.nil_append,Nat.zero_add]at hown2;have hb3:Below ((w.alloc (.cells #[.slice da dn dc,.int .i64 o,.slice ha hs.length hc,.int .i64 sr,.int .i64 tp] 71)).alloc (.cells #[.slice none 0 0,.int .i64 0,.slice none 0 0,.int .i64 0,.int .i64 0] 71)).heap.size ((w.alloc (.cells #[.slice da dn dc,.int .i64 o,.slice ha hs.length hc,.int .i64 sr,.int .i64 tp] 71)).alloc (.cells #[.slice none 0 0,.int .i64 0,.slice none 0 0,.int .i64 0,.int .i64 0] 71)) w2:=(row_off (show World.grownBy _ w2 none from hg2)).below (fun k hk=>by simp at hk) (Nat.le_refl _);have HS1:=hide (Mem.Sits.below HS1.out hb3 HS1.out.lt);rw[World.size_alloc]at HS2;have HS2:=hide (Mem.Sits.below HS2.out hb3 HS2.out.lt);have HB3:=hide (HB2.out.trans (hb3.mono HB2.out.size));have HO2:=hide hown2;clear hb3 hg2 hn2 c2 HR2 HN2 HSR hown2;obtain⟨wb,hwb⟩:∃wb,w.heap.size=wb:=⟨_,rfl⟩;rw[hwb]at HS1 HS2 HB3 HO2 ⊢;have HWB:=hide hwb;clear hwb;obtain⟨va2,vc2,rfl⟩:=Own.shape HO2.out;have hz:wb+1<w2.heap.size:=HS2.out.lt;go_upto_region 4 with (at_builtin;refine wpList_append_own _ rfl _ _ 36 rfl wb 9 i0 (.string ⟨#[]⟩) 1 16 Tryz.underlying36 hi hz0 hz1 hz2 rfl (by decide) _ _ _ rfl (HO2.out.alloc _) ⟨w2.heap.size,0,none⟩ 1 1 [.string s] rfl rfl (cell_one_new _ _ _) (fun x hx=>by simp at hx;subst hx;rfl) (by unfold maxLen;omega) (by omega) (by simp;omega) ?_;intro v3 w3 hown3 hg3 hn3;obtain⟨va3,vc3,rfl⟩:=Own.shape hown3;have ho3:=grown_offJ hg3;have hs3:=Foot.Sits.off HS1.out ho3 (fun hm=>by obtain⟨cs,hs⟩:=sits_row HO2.out hm;exact sits_neJ HS1.out hs (by decide) rfl);have e2:=hs3.cell 2 _ rfl;have f2:=hs3.frozen 2)
 have hss:Off [wb] w3 (w3.setCell ⟨wb,2,none⟩ (.slice va3 (hs.length+1) vc3)):=(Off.refl _ _).set (uA.2 rfl) _ _;have hr3:=Foot.Sits.off HS2.out ho3 (fun hm=>by obtain⟨cs,hs⟩:=sits_row HO2.out hm;exact sits_neJ HS2.out hs (by decide) rfl);have HT1:=hide (show Sits (w3.setCell ⟨wb,2,none⟩ (.slice va3 (hs.length+1) vc3)) wb 71 #[.slice da dn dc,.int .i64 o,.slice va3 (hs.length+1) vc3,.int .i64 sr,.int .i64 tp] from hs3.set 2 _);have HT2:=hide (Foot.Sits.off hr3 hss (by simp));have HO3:=hide (own_off hown3 hss (fun k hk e=>by
  obtain⟨cs,hs'⟩:=sits_row hown3 hk;rw[uA.1 e]at hs';exact sits_neJ hs3 hs' (by decide) rfl))
 have HB4:=hide (show Below wb w (w3.setCell ⟨wb,2,none⟩ (.slice va3 (hs.length+1) vc3)) from by
  have h1:Below wb w w3:=Own.below_more HB3.out (by omega) HO2.out hg3;exact h1.trans (hss.below (fun b hb=>by rw[uA.1 hb];exact Nat.le_refl _) (by rw[←HWB.out];exact h1.size)))
 clear hss hr3 hs3 ho3 hown3 hg3 hn3 e2 f2 HS1 HS2 HB3 HO2 hz;generalize w3.setCell ⟨wb,2,none⟩ (.slice va3 (hs.length+1) vc3)=w4 at *;have a0:=HT1.out.cell 0 _ rfl;have a1:=HT1.out.cell 1 _ rfl;have a2:=HT1.out.cell 2 _ rfl;have a3:=HT1.out.cell 3 _ rfl;have a4:=HT1.out.cell 4 _ rfl;have h0:=HT2.out;have d0:=h0.cell 0 _ rfl;have f0:=h0.frozen 0;have h1:=h0.set 0 (.slice da dn dc);have d1:=h1.cell 1 _ rfl;have f1:=h1.frozen 1;have h2:=h1.set 1 (.int .i64 o);have d2:=h2.cell 2 _ rfl;have f2:=h2.frozen 2;have h3:=h2.set 2 (.slice va3 (hs.length+1) vc3);have d3:=h3.cell 3 _ rfl;have f3:=h3.frozen 3;have h4:=h3.set 3 (.int .i64 sr);have d4:=h4.cell 4 _ rfl;have f4:=h4.frozen 4;have HT3:=hide (h4.set 4 (.int .i64 tp));have HOF:=hide (show Off [wb+1] w4 (((((w4.setCell ⟨wb+1,0,none⟩ (.slice da dn dc)).setCell ⟨wb+1,1,none⟩ (.int .i64 o)).setCell ⟨wb+1,2,none⟩ (.slice va3 (hs.length+1) vc3)).setCell ⟨wb+1,3,none⟩ (.int .i64 sr)).setCell ⟨wb+1,4,none⟩ (.int .i64 tp)) from(((((Off.refl _ _).set (uA.2 rfl) _ _).set (uA.2 rfl) _ _).set (uA.2 rfl) _ _).set (uA.2 rfl) _ _).set (uA.2 rfl) _ _);clear h0 h1 h2 h3 h4;go_wp2_with fail
 refine bodyPost_ret (results_cell_row rfl _ _ (wb+1) 71 _ (0,0) _ rfl HT3.out Tryz.underlying71 rfl (by kernel_rfl)) rfl ?_;refine⟨.slice va3 (hs.length+1) vc3,rfl,?_,?_⟩
 ·have h5:=own_off HO3.out HOF.out (fun k hk e=>by
   obtain⟨cs,hs'⟩:=sits_row HO3.out hk;rw[uA.1 e]at hs';exact sits_neJ HT2.out hs' (by decide) rfl)
  rw[HWB.out,List.map_append,uD];exact h5
 ·rw[HWB.out];exact HB4.out.trans (HOF.out.below (fun b hb=>by rw[uA.1 hb];omega) (by rw[←HWB.out];exact HB4.out.size))
end Go.Proofs.YtenegfafjjknoaaGreatDoor.Lw
