/- The law of daemons: one of its two runs, with a daemon or without. -/
import Derived.Test.YtenegfafjjknoaaGreatDoorLty
set_option maxHeartbeats 100000000
open List renaming mem_singleton → uA
namespace Go.Proofs.YtenegfafjjknoaaGreatDoor.Lw
open Go.RowKit Go.Maps Mem Foot Bytes Im Wm Hi Plainw Cq Dm Dh Jr Wi Sk Hn Kr Dd
def Slot (w:World)(r n m:Nat)(F:List Nat):Prop:=
 (∃c bx,Sits w r 75 (ncs c (.pointer none) bx)∧F=[r])∨(∃R D p,RA w r R D p∧Rel R D n∧p.ls.length≤m∧F=rf r p)
theorem Slot.off {w w':World}{r n m:Nat}{F G:List Nat}(h:Slot w r n m F)(ho:Off G w w')(hd:∀k∈F,k∉G):Slot w' r n m F:=by
 rcases h with ⟨c,bx,h1,h2⟩|⟨R,D,p,h1,h2,h3,h4⟩
 ·exact Or.inl ⟨c,bx,Foot.Sits.off h1 ho (hd r (h2▸uA.2 rfl)),h2⟩
 ·exact Or.inr ⟨R,D,p,h1.off ho (fun k hk=>hd k (h4▸hk)),h2,h3,h4⟩
theorem Slot.keep {w w':World}{r n m:Nat}{F:List Nat}(h:Slot w r n m F)(hb:Below w.heap.size w w'):Slot w' r n m F:=
 h.off (G:=[]) (Off.of_below hb) (fun _ _=>by simp)
theorem Slot.mono {w:World}{r n m n' m':Nat}{F:List Nat}(h:Slot w r n m F)(hn:n≤n')(hm:m≤m'):Slot w r n' m' F:=by
 rcases h with h|⟨R,D,p,h1,h2,h3,h4⟩
 ·exact Or.inl h
 ·exact Or.inr ⟨R,D,p,h1,h2.mono hn,Nat.le_trans h3 hm,h4⟩
theorem Slot.lt {w:World}{r n m:Nat}{F:List Nat}(h:Slot w r n m F):∀k∈F,k<w.heap.size:=by
 rcases h with ⟨c,bx,h1,h2⟩|⟨R,D,p,h1,h2,h3,h4⟩
 ·intro k hk;rw[h2,uA]at hk;exact hk▸h1.lt
 ·rw[h4];exact h1.lt
theorem Slot.ok {w:World}{r n m:Nat}{F:List Nat}(h:Slot w r n m F):w.cell? ⟨r,25,none⟩=some (.bool true):=by
 rcases h with ⟨c,bx,h1,h2⟩|⟨R,D,p,h1,h2,h3,h4⟩
 ·exact Mem.Sits.cell h1 25 _ rfl
 ·exact Mem.Sits.cell h1.head 25 _ rfl
theorem RA.lst {w:World}{r:Nat}{R:Rn}{D:Dn}{p:Rp}(h:RA w r R D p):Lst w r p.lv p.kv p.ls p.mbs:=
 ⟨Mem.Sits.cell h.head 23 _ rfl,Mem.Sits.cell h.head 24 _ rfl,h.rows.lists,h.rows.grown,h.rows.ents⟩
theorem Slot.whole {w:World}{r n m:Nat}{F:List Nat}(h:Slot w r n m F)(hm:m≤1000000000):
  Calls Tryz.prog 34 #[.pointer (some ⟨r,0,none⟩)] w fun e w'=>e=.returned (.tuple #[])∧w'=w:=by
 rcases h with ⟨c,bx,h1,h2⟩|⟨R,D,p,h1,h2,h3,h4⟩
 ·exact wholeL (ls:=[]) (mbs:=[]) ⟨Mem.Sits.cell h1 23 _ rfl,Mem.Sits.cell h1 24 _ rfl,World.ownsRow_nil _ _ _ _,World.ownsRow_nil _ _ _ _,fun i e he=>(by simp at he)⟩ (by simp)
 ·exact wholeL h1.lst (by omega)
def Stp (w:World)(r n m:Nat)(F:List Nat):Prop:=
 ∀W,Below w.heap.size w W→∀(a0 a1 a2 a3:Int) (s:ByteArray),s.size≤1000000000→-9223372036854775808≤a2→a2≤9223372036854775807→
  Calls Tryz.prog 33 #[.pointer (some ⟨r,0,none⟩),.agg #[.int .i64 a0,.int .i64 a1,.int .i64 a2,.int .i64 a3,.string s]] W fun e w'=>e=.returned (.tuple #[])∧∃F',Slot w' r (n+s.size+2) (m+1) F'∧(∀k∈F',k∈F∨W.heap.size≤k)∧Off F W w'
theorem Slot.act {w0 w:World}{r n m:Nat}{F:List Nat}(h:Slot w r n m F)(hT:Tab w0)(h0:Below w0.heap.size w0 w)(hfar:∀k∈F,w0.heap.size≤k)(hn:n≤8000000)(hm:m≤100000000):
  w.cell? ⟨r,6,none⟩=some (.pointer none)∨(∃X,w.cell? ⟨r,6,none⟩=some (.pointer (some ⟨X,0,none⟩))∧Stp w r n m F):=by
 rcases h with ⟨c,bx,h1,h2⟩|⟨R,D,p,h1,h2,h3,h4⟩
 ·exact Or.inl (Mem.Sits.cell h1 6 _ rfl)
 ·refine Or.inr ⟨p.X,Mem.Sits.cell h1.head 6 _ rfl,fun W hb a0 a1 a2 a3 s hs hw0 hw1=>?_⟩;refine(actL w0 W hT (h0.trans (hb.mono h0.size)) r R D p n (h1.keep hb) h2 (fun b hb=>hfar b (h4▸hb)) hn (by omega) a0 a1 a2 a3 s hs hw0 hw1 _ rfl).mono ?_;rintro e w' ⟨rfl,R',p',f1,f2,f3,f4,f5⟩;refine⟨rfl,rf r p',Or.inr ⟨R',_,p',f1,f2,by omega,rfl⟩,fun k hk=>?_,?_⟩
  ·rw[h4];exact f4 k hk
  ·rw[h4];exact f5
structure Both (w0 w:World)(r0 r1 lb n m:Nat)(F G:List Nat):Prop where
 a:Slot w r0 n m F
 b:Slot w r1 n m G
 ap:∀k∈F,k∉G
 fa:∀k∈F,w0.heap.size≤k
 fb:∀k∈G,w0.heap.size≤k
 row:Sits w lb 65 #[.pointer (some ⟨r0,0,none⟩),.pointer (some ⟨r1,0,none⟩)]
 la:lb∉F
 lb':lb∉G
 below:Below w0.heap.size w0 w
theorem Both.mono {w0 w:World}{r0 r1 lb n m n' m':Nat}{F G:List Nat}(h:Both w0 w r0 r1 lb n m F G)(hn:n≤n')(hm:m≤m'):Both w0 w r0 r1 lb n' m' F G:=
 ⟨h.a.mono hn hm,h.b.mono hn hm,h.ap,h.fa,h.fb,h.row,h.la,h.lb',h.below⟩
theorem Both.one {w0 w w':World}{r0 r1 lb n m n' m':Nat}{F G F':List Nat}(h:Both w0 w r0 r1 lb n m F G)(hn:n≤n')(hm:m≤m')(h1:Slot w' r0 n' m' F')(h2:∀k∈F',k∈F∨w.heap.size≤k)(h3:Off F w w'):Both w0 w' r0 r1 lb n' m' F' G:=by
 have hz:=h.below.size;refine⟨h1,(h.b.off h3 fun k hk e=>h.ap k e hk).mono hn hm,fun k hk e=>?_,fun k hk=>?_,h.fb,Foot.Sits.off h.row h3 h.la,fun e=>?_,h.lb',h.below.trans (h3.below h.fa hz)⟩
 ·rcases h2 k hk with h4|h4
  ·exact h.ap k h4 e
  ·have:=h.b.lt k e;omega
 ·rcases h2 k hk with h4|h4
  ·exact h.fa k h4
  ·omega
 ·rcases h2 lb e with h4|h4
  ·exact h.la h4
  ·have:=h.row.lt;omega
theorem Both.two {w0 w w':World}{r0 r1 lb n m n' m':Nat}{F G F':List Nat}(h:Both w0 w r0 r1 lb n m F G)(hn:n≤n')(hm:m≤m')(h1:Slot w' r1 n' m' F')(h2:∀k∈F',k∈G∨w.heap.size≤k)(h3:Off G w w'):Both w0 w' r0 r1 lb n' m' F F':=by
 have hz:=h.below.size;refine⟨(h.a.off h3 h.ap).mono hn hm,h1,fun k hk e=>?_,h.fa,fun k hk=>?_,Foot.Sits.off h.row h3 h.lb',h.la,fun e=>?_,h.below.trans (h3.below h.fb hz)⟩
 ·rcases h2 k e with h4|h4
  ·exact h.ap k hk h4
  ·have:=h.a.lt k hk;omega
 ·rcases h2 k hk with h4|h4
  ·exact h.fb k h4
  ·omega
 ·rcases h2 lb e with h4|h4
  ·exact h.lb' h4
  ·have:=h.row.lt;omega
def pk (c:Int):Nat:=((if c<0 then -(c+1) else c) % 2).toNat
theorem pk_lt (c:Int):pk c<2:=by
 unfold pk;omega
theorem pick (c:Int)(hc:-9223372036854775808≤c∧c≤9223372036854775807)(w:World):
  Calls Tryz.prog 28 #[.int .i64 c,.int .i64 2] w fun e w'=>e=.returned (.int .i64 (pk c:Int))∧w'=w:=by
 by_cases h:c<0
 ·obtain⟨d,hd⟩:∃d:Nat,-(c+1)=(d:Int):=⟨(-(c+1)).toNat,by omega⟩;have hw1:IntKind.i64.wrap (c+1)=c+1:=IntWalk.i64_in _ (by omega);have hw2:IntKind.i64.wrap (-(c+1))=(d:Int):=by rw[IntWalk.i64_in _ (by omega)];exact hd
  have HE:=hide (show (pk c:Int)=(d:Int) % 2 by rw[pk,if_pos h,hd];omega);clear hd;go_enter Tryz.func28,Tryz.ntmps28
  go_wp2_with fail
  go_ret
  rw[HE.out];exact⟨rfl,rfl⟩
 ·obtain⟨d,rfl⟩:∃d:Nat,c=(d:Int):=⟨c.toNat,by omega⟩;have HE:=hide (show (pk (d:Int):Int)=(d:Int) % 2 by rw[pk,if_neg h];omega);go_enter Tryz.func28,Tryz.ntmps28
  go_wp2_with fail
  go_ret
  rw[HE.out];exact⟨rfl,rfl⟩
structure Ax where
 c:Int
 k:Int
 a:Int
 b:Int
 t:ByteArray
def Ax.ok (d:Ax):Prop:=(-9223372036854775808≤d.c∧d.c≤9223372036854775807)∧(-9223372036854775808≤d.a∧d.a≤9223372036854775807)
def lets (l:List Ax)(i:Nat):Nat:=((l.take i).map fun d=>d.t.size).sum
theorem lets_next {l:List Ax}{i:Nat}{d:Ax}(h:l[i]? = some d):lets l (i+1)=lets l i+d.t.size:=by
 rw[lets,List.take_add_one,h,List.map_append,List.sum_append];simp[lets]
theorem lets_le (l:List Ax)(i:Nat):lets l i≤lets l l.length:=by
 rw[lets,lets,List.take_length]
 conv=>rhs;rw[←List.take_append_drop i l,List.map_append,List.sum_append]
 omega
def Scr (w:World)(ao:Option Addr)(l:List Ax):Prop:=∀(i:Nat) d,l[i]? = some d→∃g off,ao=some ⟨g,off,none⟩∧g<w.heap.size∧w.cell? ⟨g,off+i*5,none⟩=some (.int .i64 d.c)∧w.cell? ⟨g,off+i*5+1,none⟩=some (.int .i64 d.k)∧w.cell? ⟨g,off+i*5+2,none⟩=some (.int .i64 d.a)∧w.cell? ⟨g,off+i*5+3,none⟩=some (.int .i64 d.b)∧w.cell? ⟨g,off+i*5+4,none⟩=some (.string d.t)
theorem no_spot {w:World}{a:Addr}{v:Value}(h:w.cell? a=some v):a.spot=none:=by
 unfold World.cell? at h;split at h
 ·split at h
  ·cases h
  ·rename_i hs;simpa using hs
 ·cases h
theorem add_none (g off n:Nat):(⟨g,off,none⟩:Addr).add n=⟨g,off+n,none⟩:=by
 unfold Addr.add;split
 ·rename_i h;rw[h,Nat.add_zero]
 ·rfl
theorem startBad (c:Fin 6→Int)(hg:Check.good (c 0) (c 1) (c 2) (c 3) (c 4) (c 5)=false)(bx:Nat)(w:World):
  Calls Tryz.prog 109 #[.agg #[.int .i64 (c 0),.int .i64 (c 1),.int .i64 (c 2),.int .i64 (c 3),.int .i64 (c 4),.int .i64 (c 5)],.pointer (some ⟨bx,0,none⟩)] w fun e w'=>e=.returned (.tuple #[.pointer none,.int .i64 1])∧Below w.heap.size w w':=by
 have hN:=Sits.new w 31 #[.int .i64 (c 0),.int .i64 (c 1),.int .i64 (c 2),.int .i64 (c 3),.int .i64 (c 4),.int .i64 (c 5)];have HB1:=hide (below_new (w:=w) (.cells #[.int .i64 (c 0),.int .i64 (c 1),.int .i64 (c 2),.int .i64 (c 3),.int .i64 (c 4),.int .i64 (c 5)] 31));have HCK:=hide (fun w=>by
  have h:=Check.check (c 0) (c 1) (c 2) (c 3) (c 4) (c 5) w;rw[if_neg (by rw[hg];decide)]at h;exact h)
 clear hg;go_enter Tryz.func109,Tryz.ntmps109
 go_wp2_with fail
 generalize w.alloc (.cells #[.int .i64 (c 0),.int .i64 (c 1),.int .i64 (c 2),.int .i64 (c 3),.int .i64 (c 4),.int .i64 (c 5)] 31)=w1 at *;obtain⟨B,hBe⟩:∃B,w.heap.size=B:=⟨_,rfl⟩;rw[hBe]at hN HB1;rw[hBe];have HBE:=hide hBe;clear hBe;have HN:=hide hN;obtain⟨c0,c1,c2,c3,c4,c5⟩:=cells6 hN;clear hN;go_wp2_with fail
 refine(HCK.out w1).mono ?_;rintro e w2 ⟨rfl,hb2⟩;have HB2:=hide (show Below B w w2 from HB1.out.trans (hb2.mono (Nat.le_of_lt HN.out.lt)));clear hb2 c0 c1 c2 c3 c4 c5;go_wp2_with fail
 go_ret2
 exact⟨rfl,by rw[HBE.out];exact HB2.out⟩
set_option maxRecDepth 10000 in
theorem firstB (w:World)(c:Fin 6→Int)(hg:Check.good (c 0) (c 1) (c 2) (c 3) (c 4) (c 5)=false)(r bx ba cap:Nat)(hh:Sits w r 75 (ncs c (.pointer none) bx))(hP:PD w bx Dm.fresh ba cap [])(hrb:r≠bx):
  Calls Tryz.prog 63 #[.pointer (some ⟨r,0,none⟩)] w fun e w'=>e=.returned (.tuple #[])∧Sits w' r 75 (ncs c (.pointer none) bx)∧But bx w w':=by
 have hgd:=Check.refGood (c 0) (c 1) (c 2) (c 3) (c 4) (c 5) w;rw[hg]at hgd;have HG:=hide hg;have HH:=hide hh;have HP:=hide hP;have HRB:=hide hrb;have hu:=hh;unfold ncs at hu;have c0:=hu.cell 0 _ rfl;have c1:=hu.cell 1 _ rfl;have c2:=hu.cell 2 _ rfl;have c3:=hu.cell 3 _ rfl;have c4:=hu.cell 4 _ rfl;have c5:=hu.cell 5 _ rfl;clear hu hg hh hP hrb;go_enter Tryz.func63,Tryz.ntmps63
 go_wp2_with fail
 refine hgd.mono ?_;clear hgd c0 c1 c2 c3 c4 c5;rintro e w1 ⟨rfl,hb1⟩;have HB1:=hide (But.of_below (b:=bx) hb1);have hh1:=Mem.Sits.below HH.out hb1 HH.out.lt;have HH1:=hide hh1;have hli:=limit bx ba cap [] Dm.fresh 0 0 w1 (HP.out.keep hb1);unfold ncs at hh1;have c7:=hh1.cell 7 _ rfl;clear hb1 hh1;go_wp2_with fail
 refine hli.mono ?_;clear hli c7;rintro e w2 ⟨rfl,hbu,hp2⟩;have HB2:=hide (HB1.out.trans hbu);have HP2:=hide hp2;have HH2:=hide (Mem.Sits.but HH1.out hbu HRB.out);clear hbu hp2;go_upto_region 3 with fail
 have HWD:=hide (show Below w2.heap.size w2 w2.drew from(Below.refl _ _).drew);have HHD:=hide (Mem.Sits.below HH2.out HWD.out HH2.out.lt);refine region_D (fun W=>Sits W r 75 (ncs c (.pointer none) bx)) 14 (by kernel_rfl) ?_;generalize w2.drew=wd at *;refine take_C (i:=0) (v:=.pointer (some ⟨r,0,none⟩)) rfl (by decide) (by kernel_rfl) (by kernel_rfl) (by kernel_rfl) (by kernel_rfl) (fun _ _ _ h=>h) (Or.inl ⟨by rfl,by intro W hW;go_simp⟩) HHD.out ?_;refine take_C (i:=1) (v:=.pointer (some ⟨r,0,none⟩)) rfl (by decide) (by kernel_rfl) (by kernel_rfl) (by kernel_rfl) (by kernel_rfl) (fun _ _ _ h=>h) (Or.inl ⟨by rfl,by intro W hW;go_simp⟩) HHD.out ?_;refine take_C (i:=2) (v:=.pointer (some ⟨r,0,none⟩)) rfl (by decide) (by kernel_rfl) (by kernel_rfl) (by kernel_rfl) (by kernel_rfl) (fun _ _ _ h=>h) (Or.inl ⟨by rfl,by intro W hW;go_simp⟩) HHD.out ?_;refine take_C (i:=3) (v:=.agg #[.int .i64 (c 0),.int .i64 (c 1),.int .i64 (c 2),.int .i64 (c 3),.int .i64 (c 4),.int .i64 (c 5)]) rfl (by decide) (by kernel_rfl) (by kernel_rfl) (by kernel_rfl) (by kernel_rfl) (fun _ _ _ h=>h) (Or.inl ⟨by rfl,by intro W hW;unfold ncs at hW;have k0:=hW.cell 0 _ rfl;have k1:=hW.cell 1 _ rfl;have k2:=hW.cell 2 _ rfl;have k3:=hW.cell 3 _ rfl;have k4:=hW.cell 4 _ rfl;have k5:=hW.cell 5 _ rfl;go_simp⟩) HHD.out ?_;refine take_C (i:=5) (v:=.pointer (some ⟨r,0,none⟩)) rfl (by decide) (by kernel_rfl) (by kernel_rfl) (by kernel_rfl) (by kernel_rfl) (fun _ _ _ h=>h) (Or.inl ⟨by rfl,by intro W hW;go_simp⟩) HHD.out ?_;refine take_C (i:=6) (v:=.pointer (some ⟨r,0,none⟩)) rfl (by decide) (by kernel_rfl) (by kernel_rfl) (by kernel_rfl) (by kernel_rfl) (fun _ _ _ h=>h) (Or.inl ⟨by rfl,by intro W hW;go_simp⟩) HHD.out ?_;refine take_C (i:=7) (v:=.pointer (some ⟨r,7,none⟩)) rfl (by decide) (by kernel_rfl) (by kernel_rfl) (by kernel_rfl) (by kernel_rfl) (fun _ _ _ h=>h) (Or.inl ⟨by rfl,by intro W hW;go_simp⟩) HHD.out ?_;refine take_C (i:=8) (v:=.pointer (some ⟨bx,0,none⟩)) rfl (by decide) (by kernel_rfl) (by kernel_rfl) (by kernel_rfl) (by kernel_rfl) (fun _ _ _ h=>h) (Or.inl ⟨by rfl,by intro W hW;unfold ncs at hW;have k7:=hW.cell 7 _ rfl;go_simp⟩) HHD.out ?_;refine one_C (j:=4) (by kernel_rfl) rfl (fun K hK=>?_);go_simp
 refine(Check.conf _ _ _ _ _ _ _).mono ?_;rintro e w3 ⟨rfl,hb3⟩;have HB3:=hide (HWD.out.trans (hb3.mono HWD.out.size));have HH3:=hide (Mem.Sits.below HH2.out HB3.out HH2.out.lt);refine hK _ _ (fun _=>HH3.out) ?_;clear hK K hb3;have hst:=startBad c HG.out bx w3;refine one_C (j:=9) (by kernel_rfl) rfl (fun K hK=>?_);go_simp
 refine hst.mono ?_;clear hst;rintro e w4 ⟨rfl,hb4⟩;have HB4:=hide (HB3.out.trans (hb4.mono HB3.out.size));have HH4:=hide (Mem.Sits.below HH2.out HB4.out HH2.out.lt);refine hK _ _ (fun _=>HH4.out) ?_;clear hK K hb4;refine one_C (j:=10) (by kernel_rfl) rfl (fun K hK=>?_);go_simp
 refine hK _ _ (fun _=>HH4.out) ?_;clear hK K;refine take_C (i:=11) (v:=.pointer none) rfl (by decide) (by kernel_rfl) (by kernel_rfl) (by kernel_rfl) (by kernel_rfl) (fun _ _ _ h=>h) (Or.inl ⟨by rfl,by intro W hW;go_simp⟩) HH4.out ?_;refine take_C (i:=12) (v:=.int .i64 1) rfl (by decide) (by kernel_rfl) (by kernel_rfl) (by kernel_rfl) (by kernel_rfl) (fun _ _ _ h=>h) (Or.inl ⟨by rfl,by intro W hW;go_simp⟩) HH4.out ?_;refine one_C (j:=13) (by kernel_rfl) rfl (fun K hK=>?_);go_simp
 refine hK _ _ (fun _=>HH4.out) ?_;clear hK K;refine one_C (j:=14) (by kernel_rfl) rfl (fun K hK=>?_);go_simp
 refine hK _ _ (fun h=>absurd h (by decide)) ?_;clear hK K;refine done_C (by kernel_rfl) ?_ _;have hh4:=HH4.out;unfold ncs at hh4;have c7:=hh4.cell 7 _ rfl;clear hh4;have hli:=limit bx ba cap [] (doLimit Dm.fresh 0 0) (-1) (-1) w4 (HP2.out.keep HB4.out);go_wp2_with fail
 refine hli.mono ?_;clear hli c7;rintro e w5 ⟨rfl,hbu,hp5⟩;have HB5:=hide ((HB2.out.trans (But.of_below HB4.out)).trans hbu);have hh5:=Mem.Sits.but HH4.out hbu HRB.out;have HH5:=hide hh5;have hls:=list bx ba cap [] (doLimit (doLimit Dm.fresh 0 0) (-1) (-1)) w5 hp5 (by simp);unfold ncs at hh5;have c7:=hh5.cell 7 _ rfl;clear hbu hp5 hh5;go_wp2_with fail
 refine hls.mono ?_;clear hls c7;rintro e w6 ⟨v,hv,hrow,hb6⟩;obtain⟨va,vc,rfl⟩:=own_shapeJ hrow;have hv2:e=.returned (.tuple #[.slice va 0 vc,.int .i64 0]):=hv;subst hv2;have HB6:=hide (HB5.out.trans (But.of_below hb6));have HH6:=hide (Mem.Sits.below HH5.out hb6 HH5.out.lt);clear hv hrow hb6;go_wp2_with (first|(go_at_call 18;refine(Check.num _ _).mono ?_;rintro e w' ⟨rfl,rfl⟩)|(go_at_call 62;refine(mustT r _).mono ?_;rintro e w' ⟨rfl,rfl⟩))
 refine bodyPost_ret (results_none rfl _ _ _) rfl ?_;exact⟨rfl,HH6.out,HB6.out⟩
set_option maxRecDepth 10000 in
theorem begunB (w:World)(c:Fin 6→Int)(hg:Check.good (c 0) (c 1) (c 2) (c 3) (c 4) (c 5)=false):
  Calls Tryz.prog 32 #[.agg #[.int .i64 (c 0),.int .i64 (c 1),.int .i64 (c 2),.int .i64 (c 3),.int .i64 (c 4),.int .i64 (c 5)]] w fun e w'=>∃r bx,e=.returned (.pointer (some ⟨r,0,none⟩))∧Sits w' r 75 (ncs c (.pointer none) bx)∧w.heap.size≤r∧Below w.heap.size w w':=by
 have HG:=hide hg;clear hg;have hs1:=Sits.new w 23 #[.int .i64 (c 0),.int .i64 (c 1),.int .i64 (c 2),.int .i64 (c 3),.int .i64 (c 4),.int .i64 (c 5)];have HB1:=hide (below_new (w:=w) (.cells #[.int .i64 (c 0),.int .i64 (c 1),.int .i64 (c 2),.int .i64 (c 3),.int .i64 (c 4),.int .i64 (c 5)] 23));have HS1:=hide hs1;clear hs1;go_enter Tryz.func32,Tryz.ntmps32
 go_upto_region 1 with fail
 generalize w.alloc (.cells #[.int .i64 (c 0),.int .i64 (c 1),.int .i64 (c 2),.int .i64 (c 3),.int .i64 (c 4),.int .i64 (c 5)] 23)=w1 at *;go_wp2_with fail
 refine(Dh.new w1).mono ?_;rintro e w2 ⟨rfl,hw2⟩;have hb2:=below_new (w:=w1) (.cells #[.slice none 0 0,.int .i64 (-1),.int .i64 (-1)] 101);have HSD:=hide (Sits.new w1 101 #[.slice none 0 0,.int .i64 (-1),.int .i64 (-1)]);rw[←hw2]at hb2 HSD;have HB2:=hide (HB1.out.trans (hb2.mono HB1.out.size));have hs2:=Mem.Sits.below HS1.out hb2 HS1.out.lt;have x0:=hs2.cell 0 _ rfl;have x1:=hs2.cell 1 _ rfl;have x2:=hs2.cell 2 _ rfl;have x3:=hs2.cell 3 _ rfl;have x4:=hs2.cell 4 _ rfl;have x5:=hs2.cell 5 _ rfl;clear hw2 hb2 hs2;have hs3:=Sits.new w2 75 (ncs c (.pointer none) w1.heap.size);have hb3:=below_new (w:=w2) (.cells (ncs c (.pointer none) w1.heap.size) 75);have HB3:=hide (HB2.out.trans (hb3.mono HB2.out.size));have HS3:=hide hs3;have d25:=(show Sits _ _ _ (ncs c (.pointer none) w1.heap.size) from hs3).cell 25 _ rfl;have hz1:=HB1.out.size;have hz2:=HSD.out.lt;have HPD:=hide (show PD (w2.alloc (.cells (ncs c (.pointer none) w1.heap.size) 75)) w1.heap.size Dm.fresh (w2.heap.size+1) 0 [] from⟨Mem.Sits.below HSD.out hb3 HSD.out.lt,rfl,fun h=>absurd rfl h,fun i b s h=>by simp at h,by simp;omega,fun h=>absurd rfl h⟩);unfold ncs at d25;clear hs3 hb3;go_upto_region 3 with fail
 have hfi:=firstB (w2.alloc (.cells (ncs c (.pointer none) w1.heap.size) 75)) c HG.out w2.heap.size w1.heap.size (w2.heap.size+1) 0 HS3.out HPD.out (by omega);unfold ncs at hfi;go_wp2_with fail
 refine hfi.mono ?_;clear hfi;rintro e w6 ⟨rfl,f1,f2⟩;have HF:=hide (show Sits w6 w2.heap.size 75 (ncs c (.pointer none) w1.heap.size)∧w.heap.size≤w2.heap.size∧Below w.heap.size w w6 from⟨f1,HB2.out.size,HB3.out.trans (f2.below hz1 HB3.out.size)⟩);clear f1 f2;go_wp2_with fail
 go_ret
 exact⟨_,_,rfl,HF.out⟩
theorem ok_of {c:Fin 6→Int}(h:Check.good (c 0) (c 1) (c 2) (c 3) (c 4) (c 5)=true):COk c:=by
 simp only[Check.good,Bool.and_eq_true,Check.inb_iff]at h;obtain⟨a,b,d,e,f,g⟩:=h;exact⟨a,b,d,e,f,g⟩
theorem begunS (w0 w:World)(hT:Tab w0)(h0:Below w0.heap.size w0 w)(c:Fin 6→Int):
  Calls Tryz.prog 32 #[.agg #[.int .i64 (c 0),.int .i64 (c 1),.int .i64 (c 2),.int .i64 (c 3),.int .i64 (c 4),.int .i64 (c 5)]] w fun e w'=>∃r F,e=.returned (.pointer (some ⟨r,0,none⟩))∧Slot w' r 0 1 F∧(∀k∈F,w.heap.size≤k)∧Below w.heap.size w w':=by
 rcases hg:Check.good (c 0) (c 1) (c 2) (c 3) (c 4) (c 5) with _|_
 ·refine(begunB w c hg).mono ?_;rintro e w' ⟨r,bx,rfl,h1,h2,h3⟩;exact⟨r,[r],rfl,Or.inl ⟨c,bx,h1,rfl⟩,fun k hk=>(uA.1 hk)▸h2,h3⟩
 ·refine(begunL w0 w hT h0 c (ok_of hg) hg).mono ?_;rintro e w' ⟨r,R,p,rfl,h1,h2,h3,h4,h5⟩;exact⟨r,rf r p,rfl,Or.inr ⟨R,_,p,h1,h2,h3,rfl⟩,h4,h5⟩
set_option maxRecDepth 10000 in
theorem daemonsL (w:World)(hT:Tab w)(ca cb:Fin 6→Int)(ao:Option Addr)(cap:Nat)(l:List Ax)(hsc:Scr w ao l)(hn:l.length≤200000)(hl:lets l l.length≤2000000)(hok:∀d∈l,d.ok):
  Calls Tryz.prog 10 #[.agg #[.int .i64 (ca 0),.int .i64 (ca 1),.int .i64 (ca 2),.int .i64 (ca 3),.int .i64 (ca 4),.int .i64 (ca 5)],.agg #[.int .i64 (cb 0),.int .i64 (cb 1),.int .i64 (cb 2),.int .i64 (cb 3),.int .i64 (cb 4),.int .i64 (cb 5)],.slice ao l.length cap] w fun e w'=>e=.returned (.bool true)∧Below w.heap.size w w':=by
 have HT:=hide hT;have HSC:=hide hsc;have HOK:=hide hok;have HL:=hide hl;clear hT hsc hok hl;have hsa:=Sits.new w 23 #[.int .i64 (ca 0),.int .i64 (ca 1),.int .i64 (ca 2),.int .i64 (ca 3),.int .i64 (ca 4),.int .i64 (ca 5)];have hba:=below_new (w:=w) (.cells #[.int .i64 (ca 0),.int .i64 (ca 1),.int .i64 (ca 2),.int .i64 (ca 3),.int .i64 (ca 4),.int .i64 (ca 5)] 23);have hsb:=Sits.new (w.alloc (.cells #[.int .i64 (ca 0),.int .i64 (ca 1),.int .i64 (ca 2),.int .i64 (ca 3),.int .i64 (ca 4),.int .i64 (ca 5)] 23)) 23 #[.int .i64 (cb 0),.int .i64 (cb 1),.int .i64 (cb 2),.int .i64 (cb 3),.int .i64 (cb 4),.int .i64 (cb 5)];have hbb:=below_new (w:=w.alloc (.cells #[.int .i64 (ca 0),.int .i64 (ca 1),.int .i64 (ca 2),.int .i64 (ca 3),.int .i64 (ca 4),.int .i64 (ca 5)] 23)) (.cells #[.int .i64 (cb 0),.int .i64 (cb 1),.int .i64 (cb 2),.int .i64 (cb 3),.int .i64 (cb 4),.int .i64 (cb 5)] 23);have HSA:=hide (Mem.Sits.below hsa hbb hsa.lt);have hsz:(w.alloc (.cells #[.int .i64 (ca 0),.int .i64 (ca 1),.int .i64 (ca 2),.int .i64 (ca 3),.int .i64 (ca 4),.int .i64 (ca 5)] 23)).heap.size=w.heap.size+1:=by simp
 rw[hsz]at hsb;have HSB:=hide hsb;have HB2:=hide (hba.trans (hbb.mono hba.size));clear hsa hba hsb hbb hsz;go_enter Tryz.func10,Tryz.ntmps10
 go_upto_region 1 with fail
 generalize (w.alloc (.cells #[.int .i64 (ca 0),.int .i64 (ca 1),.int .i64 (ca 2),.int .i64 (ca 3),.int .i64 (ca 4),.int .i64 (ca 5)] 23)).alloc (.cells #[.int .i64 (cb 0),.int .i64 (cb 1),.int .i64 (cb 2),.int .i64 (cb 3),.int .i64 (cb 4),.int .i64 (cb 5)] 23)=w2 at *;obtain⟨ab,hab⟩:∃ab,w.heap.size=ab:=⟨_,rfl⟩;rw[hab]at HSA HSB ⊢;have HAB:=hide hab;clear hab;go_wp2_with fail
 refine(knownL w2 (HT.out.below HB2.out)).mono ?_;rintro e w3 ⟨rfl,hb3⟩;have HB3:=hide (HB2.out.trans (hb3.mono HB2.out.size));have HSA3:=hide (Mem.Sits.below HSA.out hb3 HSA.out.lt);have HSB3:=hide (Mem.Sits.below HSB.out hb3 HSB.out.lt);clear hb3;go_upto_region 2 with fail
 have HWD:=hide (show Below w3.heap.size w3 w3.drew from(Below.refl _ _).drew);refine region_D (fun W=>Below w3.heap.size w3 W) 4 (by kernel_rfl) ?_;generalize w3.drew=wd at *;refine take_C (i:=0) (v:=.agg #[.int .i64 (ca 0),.int .i64 (ca 1),.int .i64 (ca 2),.int .i64 (ca 3),.int .i64 (ca 4),.int .i64 (ca 5)]) rfl (by decide) (by kernel_rfl) (by kernel_rfl) (by kernel_rfl) (by kernel_rfl) (fun _ _ _ h=>h) (Or.inl ⟨by rfl,by intro W hW;have hu:=Mem.Sits.below HSA3.out hW HSA3.out.lt;have k0:=hu.cell 0 _ rfl;have k1:=hu.cell 1 _ rfl;have k2:=hu.cell 2 _ rfl;have k3:=hu.cell 3 _ rfl;have k4:=hu.cell 4 _ rfl;have k5:=hu.cell 5 _ rfl;clear hu;go_simp⟩) HWD.out ?_;refine take_C (i:=2) (v:=.agg #[.int .i64 (cb 0),.int .i64 (cb 1),.int .i64 (cb 2),.int .i64 (cb 3),.int .i64 (cb 4),.int .i64 (cb 5)]) rfl (by decide) (by kernel_rfl) (by kernel_rfl) (by kernel_rfl) (by kernel_rfl) (fun _ _ _ h=>h) (Or.inl ⟨by rfl,by intro W hW;have hu:=Mem.Sits.below HSB3.out hW HSB3.out.lt;have k0:=hu.cell 0 _ rfl;have k1:=hu.cell 1 _ rfl;have k2:=hu.cell 2 _ rfl;have k3:=hu.cell 3 _ rfl;have k4:=hu.cell 4 _ rfl;have k5:=hu.cell 5 _ rfl;clear hu;go_simp⟩) HWD.out ?_;refine one_C (j:=1) (by kernel_rfl) rfl (fun K hK=>?_);go_simp
 refine(begunS w wd HT.out (HB3.out.trans (HWD.out.mono HB3.out.size)) ca).mono ?_;rintro e w4 ⟨r0,F,rfl,s1,s2,s3⟩;have HB4:=hide (HWD.out.trans (s3.mono HWD.out.size));have HS1:=hide s1;have HS2:=hide (show ∀k∈F,w.heap.size≤k from fun k hk=>Nat.le_trans (Nat.le_trans HB3.out.size HWD.out.size) (s2 k hk));refine hK _ _ (fun _=>HB4.out) ?_;clear hK K s1 s2 s3;have hbs:=begunS w w4 HT.out (HB3.out.trans (HB4.out.mono HB3.out.size)) cb;refine one_C (j:=3) (by kernel_rfl) rfl (fun K hK=>?_);go_simp
 refine hbs.mono ?_;clear hbs;rintro e w5 ⟨r1,G,rfl,s1,s2,s3⟩;have HB5:=hide (HB4.out.trans (s3.mono HB4.out.size));have HBO:=hide (show Slot w5 r0 0 1 F∧Slot w5 r1 0 1 G∧(∀k∈F,k∉G)∧(∀k∈F,w.heap.size≤k)∧(∀k∈G,w.heap.size≤k)∧Below w.heap.size w w5 from⟨HS1.out.keep s3,s1,fun k hk e=>by
  have h1:=HS1.out.lt k hk;have h2:=s2 k e;omega,HS2.out,fun k hk=>by
  have h1:=s2 k hk;have h2:=HB4.out.size;have h3:=HB3.out.size;omega,HB3.out.trans (HB5.out.mono HB3.out.size)⟩)
 refine hK _ _ (fun _=>HB5.out) ?_;clear hK K s1 s2 s3 HS1 HS2;have hsr:=Sits.new w5 65 #[.pointer (some ⟨r0,0,none⟩),.pointer (some ⟨r1,0,none⟩)];have hbr:=below_new (w:=w5) (.cells #[.pointer (some ⟨r0,0,none⟩),.pointer (some ⟨r1,0,none⟩)] 65);have HBT:=hide (show Both w (w5.alloc (.cells #[.pointer (some ⟨r0,0,none⟩),.pointer (some ⟨r1,0,none⟩)] 65)) r0 r1 w5.heap.size 0 1 F G from by
  obtain⟨t1,t2,t3,t4,t5,t6⟩:=HBO.out;exact⟨t1.keep hbr,t2.keep hbr,t3,t4,t5,hsr,fun e=>Nat.lt_irrefl _ (t1.lt _ e),fun e=>Nat.lt_irrefl _ (t2.lt _ e),t6.trans (hbr.mono t6.size)⟩)
 clear hsr hbr HBO;refine one_C (j:=4) (by kernel_rfl) rfl (fun K hK=>?_);go_simp
 refine hK _ _ (fun h=>absurd h (by decide)) ?_;clear hK K;refine one_C (j:=5) (by kernel_rfl) rfl (fun K hK=>?_);go_simp
 refine hK _ _ (fun h=>absurd h (by decide)) ?_;clear hK K;refine done_C (by kernel_rfl) ?_ _;generalize w5.alloc (.cells #[.pointer (some ⟨r0,0,none⟩),.pointer (some ⟨r1,0,none⟩)] 65)=w6 at *;generalize w5.heap.size=lb at *;have p0:=HBT.out.row.cell 0 _ rfl;have p1:=HBT.out.row.cell 1 _ rfl;have o0:=HBT.out.a.ok;have o1:=HBT.out.b.ok;go_wp2_with fail
 clear p0 p1 o0 o1;go_loopw [7,9,10] (fun s7 s9 _ wr=>∃(i:Nat) (F' G':List Nat),s7=.bool true∧s9=.int .i64 (i:Int)∧i≤l.length∧Hid (Both w wr r0 r1 lb (lets l i+2*i) (1+i) F' G')) (fun _ s9 _ _=>l.length - (intOf s9).toNat)
 case atStart=>exact⟨0,F,G,rfl,rfl,by omega,HBT.out⟩
 case round=>
  clear HBT;obtain⟨i,F',G',rfl,rfl,hi,HR⟩:=hrel;by_cases hil:i<l.length
  ·have hiz:(i:Int)<(l.length:Int):=by omega
   obtain⟨d,hd⟩:∃d,l[i]? = some d:=⟨_,List.getElem?_eq_getElem hil⟩;have HD:=hide hd;have HDOK:=hide (HOK.out d (List.mem_of_getElem? hd));have hnx:=lets_next hd;have hle:=lets_le l (i+1);have hLL:=HL.out;have HNX:=hide hnx;have hds:d.t.size≤1000000000:=by omega
   have hnn:lets l i+2*i≤8000000:=by omega
   obtain⟨g,off,rfl,hgl,x0,x1,x2,x3,x4⟩:=HSC.out i d hd;have e0:=(HR.out.below.cell (p:=⟨g,off+i*5,none⟩) hgl).trans x0;have e1:=(HR.out.below.cell (p:=⟨g,off+i*5+1,none⟩) hgl).trans x1;have e2:=(HR.out.below.cell (p:=⟨g,off+i*5+2,none⟩) hgl).trans x2;have e3:=(HR.out.below.cell (p:=⟨g,off+i*5+3,none⟩) hgl).trans x3;have e4:=(HR.out.below.cell (p:=⟨g,off+i*5+4,none⟩) hgl).trans x4;clear x0 x1 x2 x3 x4 hd hnx hle hLL hgl;have p0:=HR.out.row.cell 0 _ rfl;have p1:=HR.out.row.cell 1 _ rfl;have hpk2:pk d.c=0∨pk d.c=1:=by have:=pk_lt d.c;omega
   rcases hpk2 with hpk|hpk
   ·have HPK:=hide (show ∀W,Calls Tryz.prog 28 #[.int .i64 d.c,.int .i64 2] W fun e w'=>e=.returned (.int .i64 0)∧w'=W from fun W=>(pick d.c HDOK.out.1 W).mono fun e w' ⟨h1,h2⟩=>⟨by rw[h1,hpk];rfl,h2⟩);clear hpk;rcases HR.out.a.act HT.out HR.out.below HR.out.fa hnn (by omega) with hx|⟨X,hx,hst⟩
    ·go_wp2_with (go_at_call 28;refine(HPK.out _).mono ?_;rintro e w' ⟨rfl,rfl⟩)
     have HW0:=hide (HR.out.a.whole (by omega));have HW1:=hide (HR.out.b.whole (by omega));have o0:=HR.out.a.ok;have o1:=HR.out.b.ok;refine HW0.out.mono ?_;rintro e wx ⟨rfl,hwx⟩;subst hwx;go_wp2_with fail
     refine HW1.out.mono ?_;rintro e wx ⟨rfl,hwx⟩;subst hwx;go_wp2_with fail
     exact⟨⟨i+1,F',G',rfl,by go_num,by omega,HR.out.mono (by have:=HNX.out;omega) (by omega)⟩,by simp[intOf];omega⟩
    ·have HST:=hide (hst wr (Below.refl _ _) d.c d.k d.a d.b d.t hds HDOK.out.2.1 HDOK.out.2.2);clear hst;go_wp2_with (go_at_call 28;refine(HPK.out _).mono ?_;rintro e w' ⟨rfl,rfl⟩)
     refine HST.out.mono ?_;rintro e w7 ⟨rfl,F2,y1,y2,y3⟩;have HR2:=hide (HR.out.one (n':=lets l (i+1)+2*(i+1)) (m':=1+(i+1)) (by have:=HNX.out;omega) (by omega) (y1.mono (by have:=HNX.out;omega) (by omega)) y2 y3);clear y1 y2 y3 p0 p1 e0 e1 e2 e3 e4 HST hx HPK;have p0:=HR2.out.row.cell 0 _ rfl;have p1:=HR2.out.row.cell 1 _ rfl;have o0:=HR2.out.a.ok;have o1:=HR2.out.b.ok;have HW0:=hide (HR2.out.a.whole (by omega));have HW1:=hide (HR2.out.b.whole (by omega));go_wp2_with fail
     refine HW0.out.mono ?_;rintro e wx ⟨rfl,hwx⟩;subst hwx;go_wp2_with fail
     refine HW1.out.mono ?_;rintro e wx ⟨rfl,hwx⟩;subst hwx;go_wp2_with fail
     exact⟨⟨i+1,F2,G',rfl,by go_num,by omega,HR2.out⟩,by simp[intOf];omega⟩
   ·have HPK:=hide (show ∀W,Calls Tryz.prog 28 #[.int .i64 d.c,.int .i64 2] W fun e w'=>e=.returned (.int .i64 1)∧w'=W from fun W=>(pick d.c HDOK.out.1 W).mono fun e w' ⟨h1,h2⟩=>⟨by rw[h1,hpk];rfl,h2⟩);clear hpk;rcases HR.out.b.act HT.out HR.out.below HR.out.fb hnn (by omega) with hx|⟨X,hx,hst⟩
    ·go_wp2_with (go_at_call 28;refine(HPK.out _).mono ?_;rintro e w' ⟨rfl,rfl⟩)
     have HW0:=hide (HR.out.a.whole (by omega));have HW1:=hide (HR.out.b.whole (by omega));have o0:=HR.out.a.ok;have o1:=HR.out.b.ok;refine HW0.out.mono ?_;rintro e wx ⟨rfl,hwx⟩;subst hwx;go_wp2_with fail
     refine HW1.out.mono ?_;rintro e wx ⟨rfl,hwx⟩;subst hwx;go_wp2_with fail
     exact⟨⟨i+1,F',G',rfl,by go_num,by omega,HR.out.mono (by have:=HNX.out;omega) (by omega)⟩,by simp[intOf];omega⟩
    ·have HST:=hide (hst wr (Below.refl _ _) d.c d.k d.a d.b d.t hds HDOK.out.2.1 HDOK.out.2.2);clear hst;go_wp2_with (go_at_call 28;refine(HPK.out _).mono ?_;rintro e w' ⟨rfl,rfl⟩)
     refine HST.out.mono ?_;rintro e w7 ⟨rfl,F2,y1,y2,y3⟩;have HR2:=hide (HR.out.two (n':=lets l (i+1)+2*(i+1)) (m':=1+(i+1)) (by have:=HNX.out;omega) (by omega) (y1.mono (by have:=HNX.out;omega) (by omega)) y2 y3);clear y1 y2 y3 p0 p1 e0 e1 e2 e3 e4 HST hx HPK;have p0:=HR2.out.row.cell 0 _ rfl;have p1:=HR2.out.row.cell 1 _ rfl;have o0:=HR2.out.a.ok;have o1:=HR2.out.b.ok;have HW0:=hide (HR2.out.a.whole (by omega));have HW1:=hide (HR2.out.b.whole (by omega));go_wp2_with fail
     refine HW0.out.mono ?_;rintro e wx ⟨rfl,hwx⟩;subst hwx;go_wp2_with fail
     refine HW1.out.mono ?_;rintro e wx ⟨rfl,hwx⟩;subst hwx;go_wp2_with fail
     exact⟨⟨i+1,F',F2,rfl,by go_num,by omega,HR2.out⟩,by simp[intOf];omega⟩
  ·have hiz:¬(i:Int)<(l.length:Int):=by omega
   go_wp2_with fail
   go_ret
   exact⟨rfl,HR.out.below⟩
end Go.Proofs.YtenegfafjjknoaaGreatDoor.Lw
