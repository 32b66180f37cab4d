/- The document's text of a window is the program's. -/
import Derived.Test.YtenegfafjjknoaaGreatDoorLdy
import Derived.Test.YtenegfafjjknoaaGreatDoorRmx
set_option maxHeartbeats 100000000
open List renaming mem_singleton → uA, mem_cons_of_mem → uB, length_eq_zero_iff → uD, length_map → uE
open Nat renaming le_succ_of_le → uC
namespace Go.Proofs.YtenegfafjjknoaaGreatDoor.Lw
open Go.RowKit Go.Maps Mem Foot Bytes Im Wm Hi Plainw Cq Dm Dh Jr Wi Sk Hn Kr Dd Ra
theorem all_len (ds:List Bs):(allL ds).length=nls ds:=by
 induction ds with
 | nil=>rfl
 | cons d r ih=>
  have e:allL (d ::r)=lines d++allL r:=rfl;rw[e,List.length_append,ih,lines_count];rfl
theorem doc_of (c:Fin 6→Int)(hc:COk c)(num:Int)(h0:-9223372036854775808≤num)(h1:num≤9223372036854775807)(hs:List ByteArray)(hl:hs.length≤100000000)(hz:∀s∈hs,s.size≤1000000000)(hn:nls (hs.map B)≤10000000):
  Doc c num hs ⟨(wtext num (wsum (limOf c) (hs.map B))).toArray⟩:=by
 intro a cap w hsrc;have b1:=hc.s;have b2:=hc.t;have b3:=hc.b;have hb:2≤(limOf c).buckets:=by show 2≤(c 3).toNat;omega
 have hst:1≤(limOf c).sets:=by show 1≤(c 2).toNat;omega
 have hs1:(limOf c).series≤1000:=by show (c 1).toNat≤1000;omega
 have hs2:(limOf c).sets≤1000:=by show (c 2).toNat≤1000;omega
 have hal:(allL (hs.map B)).length≤10000000:=by rw[all_len];exact hn
 have hrl:=rl_sum hb hst (hs.map B);refine⟨0,?_⟩;have hln:(hs.map B).length=hs.length:=uE ..;have key:=sumR c num h0 h1 a cap (hs.map B) w (limOf c).series (limOf c).sets (limOf c).buckets (by show c 1=((c 1).toNat:Int);omega) (by show c 2=((c 2).toNat:Int);omega) (by show c 3=((c 3).toNat:Int);omega) hb (by show (c 3).toNat≤64;omega) (good_of hc)
  (fun i x hx=>by
   rw[List.getElem?_map]at hx;cases hi:hs[i]? with
   | none=>rw[hi]at hx;cases hx
   | some s=>
    rw[hi]at hx;cases hx
    exact hsrc i s hi) (by omega) (fun d hd=>by
   obtain⟨s,hs3,rfl⟩:=List.mem_map.1 hd;have:=hz s hs3;rw[←Bytes.size_B];exact this)
 rw[hln]at key;refine(key ?_ ?_).mono ?_
 ·exact sum_ok hb hst hs1 hs2 hal
 ·exact rl_tok hrl hs1 hs2 hal
 ·rintro e w' ⟨⟨z,rfl,hzz⟩,hb'⟩;have:z=⟨(wtext num (wsum (limOf c) (hs.map B))).toArray⟩:=Bytes.B_inj (by rw[hzz,rl_text hrl];rfl);exact⟨by rw[this],hb'⟩
end Go.Proofs.YtenegfafjjknoaaGreatDoor.Lw
namespace Go.Proofs.YtenegfafjjknoaaGreatDoor.Lw
open Go.RowKit Go.Maps Mem Foot Bytes Im Wm Hi Plainw Cq Dm Dh Jr Wi Sk Hn Kr Dd
structure Rel (R:Rn)(D:Dn)(n:Nat):Prop where
 ok:DOk D (R.W.hs.map B) n
 c:R.c=D.c
 now:R.now=D.clock
 o:R.W.o=D.num
 due:R.W.due=D.due
 evr:∀m∈R.ever,m.k<D.num∧∀m'∈D.due,m.k=m'.k→m=m'
 gon:∀g∈R.gone,g<D.num∧∀m∈D.due,g≠m.k
 gol:R.gone.length≤n
 evn:(R.ever.map (·.k)).Nodup
 evs:∀m∈R.ever,m.k∈R.sl
 dus:∀m∈D.due,m.k∈R.sl
 sll:R.sl.length≤n
theorem insM_end {m:Ms}{l:List Ms}(h:∀x∈l,x.k<m.k):insM m l=l++[m]:=by
 induction l with
 | nil=>rfl
 | cons x l ih=>
  rw[insM,if_neg (by have:=h x (List.mem_cons_self ..);omega),ih fun y hy=>h y (uB _ hy)];rfl
noncomputable def rturn (R:Rn)(D:Dn):Rn:=
 {R with W:=wturn (dtext D) (R.now / R.c 0) R.W,sl:=if R.now / R.c 0≤R.W.o then R.sl else R.W.o ::R.sl}
theorem Rel.turn {R:Rn}{D:Dn}{n:Nat}(h:Rel R D n):Rel (rturn R D) (dturn D) (n+1):=by
 have ht:=h.ok.turn;have hc:=h.c;have hnw:=h.now;have hq:R.now / R.c 0=D.clock / D.c 0:=by rw[hc,hnw]
 have hcn:D.count=R.W.hs.length:=by
  have:=h.ok.cnt;rw[uE]at this;exact this
 have hoD:=h.o;by_cases hle:D.clock / D.c 0≤D.num
 ·have e1:dturn D=D:=by unfold dturn;rw[if_pos hle]
  have e2:rturn R D=R:=by
   unfold rturn wturn;rw[hq,if_pos (by rw[hoD];exact hle),if_pos (by rw[hoD];exact hle)]
  rw[e1,e2];exact⟨h.ok.mono (Nat.le_succ _),h.c,h.now,h.o,h.due,h.evr,h.gon,uC h.gol,h.evn,h.evs,h.dus,uC h.sll⟩
 ·have hleo:¬D.clock / D.c 0≤R.W.o:=by rw[hoD];exact hle
  have hok:=ht.1;rw[if_neg hle]at hok;by_cases hp:0<D.count
  ·have hne:R.W.hs≠[]:=fun e=>by rw[hcn,e]at hp;simp at hp
   have e1:dturn D={D with J:=(jseal D.J D.S D.num).1,S:=(jseal D.J D.S D.num).2.1,due:=insM ⟨D.num,dtext D⟩ D.due,num:=D.clock / D.c 0,count:=0,W:=win0}:=by unfold dturn;rw[if_neg hle,if_pos hp]
   have e2:rturn R D={R with W:=⟨R.W.due++[⟨R.W.o,dtext D⟩],D.clock / D.c 0,[],0,R.W.o⟩,sl:=R.W.o ::R.sl}:=by
    unfold rturn wturn;rw[hq,if_neg hleo,if_neg hleo,if_pos hne]
   rw[e1]at hok;rw[e1,e2];refine⟨hok,h.c,h.now,rfl,?_,fun m hm=>⟨?_,fun m' hm' e=>?_⟩,fun g hg=>⟨?_,fun m hm e=>?_⟩,uC h.gol,h.evn,fun m hm=>uB _ (h.evs m hm),fun m hm=>?_,Nat.succ_le_succ h.sll⟩
   ·show R.W.due++[⟨R.W.o,dtext D⟩]=insM ⟨D.num,dtext D⟩ D.due;rw[insM_end (m:=⟨D.num,dtext D⟩) (fun x hx=>h.ok.lt x hx),h.due,hoD]
   ·have:=(h.evr m hm).1;show m.k<D.clock / D.c 0;omega
   ·rcases mem_insM hm' with rfl|hm'
    ·have h1:=(h.evr m hm).1;have e:m.k=D.num:=e;omega
    ·exact(h.evr m hm).2 m' hm' e
   ·have:=(h.gon g hg).1;show g<D.clock / D.c 0;omega
   ·rcases mem_insM hm with rfl|hm
    ·have h1:=(h.gon g hg).1;have e:g=D.num:=e;omega
    ·exact(h.gon g hg).2 m hm e
   ·rcases mem_insM hm with rfl|hm
    ·show D.num∈R.W.o ::R.sl;rw[hoD];exact List.mem_cons_self ..
    ·exact uB _ (h.dus m hm)
  ·have hne:R.W.hs=[]:=by
    have:R.W.hs.length=0:=by omega
    exact uD.1 this
   have e1:dturn D={D with num:=D.clock / D.c 0,count:=0,W:=win0}:=by unfold dturn;rw[if_neg hle,if_neg hp]
   have e2:rturn R D={R with W:={R.W with o:=D.clock / D.c 0},sl:=R.W.o ::R.sl}:=by
    unfold rturn wturn;rw[hq,if_neg hleo,if_neg hleo,if_neg (fun e=>e hne)]
   rw[e1]at hok;rw[e1,e2];refine⟨?_,h.c,h.now,rfl,h.due,fun m hm=>⟨?_,(h.evr m hm).2⟩,fun g hg=>⟨?_,(h.gon g hg).2⟩,uC h.gol,h.evn,fun m hm=>uB _ (h.evs m hm),fun m hm=>uB _ (h.dus m hm),Nat.succ_le_succ h.sll⟩
   ·show DOk _ (R.W.hs.map B) _;rw[hne];exact hok
   ·have:=(h.evr m hm).1;show m.k<D.clock / D.c 0;omega
   ·have:=(h.gon g hg).1;show g<D.clock / D.c 0;omega
theorem Rel.write {R:Rn}{D:Dn}{n:Nat}(h:Rel R D n)(hn:n≤100000000){s:ByteArray}(hs:s.size≤256):Rel {R with W:={R.W with hs:=R.W.hs++[s]}} (dwrite D s) (n+s.size+1):=by
 have hw:=(h.ok.write hn hs).1;refine⟨?_,h.c,h.now,h.o,h.due,h.evr,h.gon,Nat.le_trans h.gol (by omega),h.evn,h.evs,h.dus,Nat.le_trans h.sll (by omega)⟩;show DOk _ ((R.W.hs++[s]).map B) _;rw[List.map_append];exact hw
theorem Rel.tick {R:Rn}{D:Dn}{n:Nat}(h:Rel R D n){t:Int}(h0:0≤t)(h1:t≤1000000000):Rel {R with now:=t} {D with clock:=t} n:=
 ⟨h.ok.tick h0 h1,h.c,rfl,h.o,h.due,h.evr,h.gon,h.gol,h.evn,h.evs,h.dus,h.sll⟩
theorem Rel.sync {R:Rn}{D:Dn}{n:Nat}(h:Rel R D n)(k:Int):Rel {R with W:={R.W with sr:=k}} (dsync D) n:=
 ⟨h.ok.sync.1,h.c,h.now,h.o,h.due,h.evr,h.gon,h.gol,h.evn,h.evs,h.dus,h.sll⟩
theorem Rel.ack {R:Rn}{D:Dn}{n:Nat}(h:Rel R D n)(hn:n≤100000000){win:Int}(hw:win∈D.due.map (·.k)):Rel {R with W:={R.W with due:=wo win R.W.due},gone:=R.gone++[win]} (dack D win) (n+1):=by
 have hd:∀m∈(dack D win).due,m∈D.due∧m.k≠win:=fun m hm=>by
  have hm:m∈D.due.filter fun m=>!decide (m.k=win):=hm
  rw[List.mem_filter]at hm;exact⟨hm.1,by simpa using hm.2⟩
 obtain⟨m0,hm0,e0⟩:=List.mem_map.1 hw;refine⟨(h.ok.ack hn hw).1,h.c,h.now,h.o,?_,fun m hm=>⟨(h.evr m hm).1,fun m' hm' e=>(h.evr m hm).2 m' (hd m' hm').1 e⟩,fun g hg=>?_,?_,h.evn,h.evs,fun m hm=>h.dus m (hd m hm).1,uC h.sll⟩
 ·show wo win R.W.due=D.due.filter _;rw[h.due];rfl
 ·rcases List.mem_append.1 hg with hg|hg
  ·exact⟨(h.gon g hg).1,fun m hm=>(h.gon g hg).2 m (hd m hm).1⟩
  ·rw[uA]at hg;subst hg;exact⟨by rw[←e0];exact h.ok.lt m0 hm0,fun m hm e=>(hd m hm).2 e.symm⟩
 ·show (R.gone++[win]).length≤n+1;rw[List.length_append];have:=h.gol;simp
  omega
theorem Rel.short {R:Rn}{D:Dn}{n:Nat}(h:Rel R D n):∀s∈R.W.hs,s.size≤256:=fun s hs=>by
 have:=h.ok.short (B s) (List.mem_map.2 ⟨s,hs,rfl⟩);rw[←Bytes.size_B]at this;exact this
theorem Rel.len {R:Rn}{D:Dn}{n:Nat}(h:Rel R D n):R.W.hs.length≤n:=by
 have:=h.ok.len;rw[uE]at this;exact this
theorem Rel.cnt {R:Rn}{D:Dn}{n:Nat}(h:Rel R D n):D.count=R.W.hs.length:=by
 have:=h.ok.cnt;rw[uE]at this;exact this
theorem Rel.doc {R:Rn}{D:Dn}{n:Nat}(h:Rel R D n)(hn:n≤9000000):Doc R.c R.W.o R.W.hs (dtext D):=by
 have hm:=h.ok.num;have hl:=h.len;have hln:=h.ok.lines;have:=doc_of D.c h.ok.cok D.num (by omega) (by omega) R.W.hs (by omega) (fun s hs=>by have:=h.short s hs;omega) (by omega);rw[h.c,h.o];unfold dtext;rw[h.ok.win];exact this
theorem RA.cfg {w:World}{r:Nat}{R:Rn}{D:Dn}{p:Rp}(h:RA w r R D p):Cfg w r R.c:=by
 have hh:=h.head;unfold rcs at hh;exact⟨hh.lt,hh.cell 0 _ rfl,hh.cell 1 _ rfl,hh.cell 2 _ rfl,hh.cell 3 _ rfl,hh.cell 4 _ rfl,hh.cell 5 _ rfl⟩
theorem RA.sizeL {w:World}{r:Nat}{R:Rn}{D:Dn}{p:Rp}{n:Nat}(h:RA w r R D p)(hr:Rel R D n)(hn:n≤9000000):
  Calls Tryz.prog 114 #[.pointer (some ⟨r,0,none⟩)] w fun e w'=>e=.returned (.int .i64 (Dm.used D.S.segs:Int))∧Below w.heap.size w w':=by
 have hh:=h.head;unfold rcs at hh;have h1:=hr.ok.segs;have h2:=hr.ok.used;exact Lw.sizeL r p.q.bx p.q.ba p.q.cap p.q.bs D.S w hh.lt (hh.cell 7 _ rfl) h.da.pd hr.ok.calm.good hr.ok.calm.left (by omega) (by omega)
set_option maxRecDepth 10000 in
theorem grewL {w:World}{r:Nat}{R:Rn}{D:Dn}{p:Rp}{n:Nat}(h:RA w r R D p)(hr:Rel R D n)(hn:n≤9000000)(before most:Nat)(hb:before≤10000000000)(hm:most≤1000000)(hu:Dm.used D.S.segs≤before+most):
  Calls Tryz.prog 119 #[.pointer (some ⟨r,0,none⟩),.int .i64 (before:Int),.int .i64 (most:Int)] w fun e w'=>e=.returned (.tuple #[])∧Below w.heap.size w w':=by
 have hsz:=h.sizeL hr hn;have hue:=hr.ok.used;have hsm:R.W.due.length=0→R.W.hs.length=0→Dm.used D.S.segs≤64:=fun h1 h2=>hr.ok.small (by rw[←hr.due];exact uD.1 h1) (by rw[uD.1 h2];rfl)
 have HSM:=hide hsm;obtain⟨u,hu2⟩:∃u,Dm.used D.S.segs=u:=⟨_,rfl⟩;rw[hu2]at hsz hu hue HSM;obtain⟨da,dc,hde⟩:=own_shapeJ h.rows.wd.due;obtain⟨ha,hcp,hhe⟩:=own_shapeJ h.rows.wd.held;have HD:=hide (fun (w':World) (hb':Below w.heap.size w w')=>show w'.cell? ⟨r,9,none⟩=some (.slice da R.W.due.length dc)∧w'.cell? ⟨r,11,none⟩=some (.slice ha R.W.hs.length hcp) from by
  have hh:=(h.keep hb').head;unfold rcs at hh;exact⟨hde▸hh.cell 9 _ rfl,hhe▸hh.cell 11 _ rfl⟩)
 have hdl:R.W.due.length≤10000000:=by
  have h1:=hr.ok.dues;rw[hr.due];omega
 have hhl:R.W.hs.length≤10000000:=by
  have h1:=hr.len;omega
 have hz:(u:Int)≤(before:Int)+(most:Int):=by omega
 have hn0:¬(u:Int)<0:=by omega
 have hb0:¬(before:Int)<0:=by omega
 have hge:(0:Int)≤(u:Int):=by omega
 have hwr:IntKind.i64.wrap ((before:Int)+(most:Int))=(before:Int)+(most:Int):=IntWalk.i64_in _ (by omega);clear h hr hsm hde hhe hu hu2;go_enter Tryz.func119,Tryz.ntmps119
 go_wp2_with fail
 refine hsz.mono ?_;clear hsz;rintro e w1 ⟨rfl,hb1⟩;obtain⟨c9,c11⟩:=HD.out w1 hb1;have HB1:=hide hb1;clear hb1;go_wp2_with fail
 refine(mustT r w1).mono ?_;rintro e wm ⟨rfl,hwm⟩;subst hwm;generalize R.W.due.length=dl at *;generalize R.W.hs.length=hl at *;by_cases hd0:dl=0
 ·rw[hd0]at c9;by_cases hh0:hl=0
  ·rw[hh0]at c11;have h64:(u:Int)≤64:=by
    have:=HSM.out hd0 hh0;omega
   clear hd0 hh0;go_wp2_with fail
   refine(mustT r _).mono ?_;rintro e w2 ⟨rfl,rfl⟩;go_wp2_with fail
   go_end0
   exact⟨rfl,HB1.out⟩
  ·clear hd0;go_wp2_with fail
   go_end0
   exact⟨rfl,HB1.out⟩
 ·go_wp2_with fail
  go_end0
  exact⟨rfl,HB1.out⟩
set_option maxRecDepth 10000 in
theorem openedL {w:World}{r:Nat}{R:Rn}{D:Dn}{p:Rp}{n:Nat}(h:RA w r R D p)(hr:Rel R D n)(hn:n≤9000000)(ht:Tab w):
  Calls Tryz.prog 70 #[.pointer (some ⟨r,0,none⟩)] w fun e w'=>e=.returned (.tuple #[])∧Below w.heap.size w w':=by
 have hop:=openD w p.X D p.q _ n h.da hr.ok (by omega) ht;have hh:=h.head;unfold rcs at hh;have c6:=hh.cell 6 _ rfl;obtain⟨ha,hcp,hhe⟩:=own_shapeJ h.rows.wd.held;have HD:=hide (fun (w':World) (hb':Below w.heap.size w w')=>show w'.cell? ⟨r,10,none⟩=some (.int .i64 D.num)∧w'.cell? ⟨r,11,none⟩=some (.slice ha R.W.hs.length hcp) from by
  have hh:=(h.keep hb').head;unfold rcs at hh;exact⟨hr.o▸hh.cell 10 _ rfl,hhe▸hh.cell 11 _ rfl⟩)
 have HT:=hide (fun (w':World) (hb':Below w.heap.size w w')=>textL r R.c R.W.o ha hcp R.W.hs (dtext D) w' (h.keep hb').cfg (hr.doc hn) (held_src (hhe▸(h.keep hb').rows.wd.held)));rw[hr.cnt]at hop;rw[hr.o]at HT;have hhl:R.W.hs.length≤10000000:=by
  have h1:=hr.len;omega
 clear h hr hh hhe ht;generalize dtext D=z at *;generalize D.num=num at *;generalize R.W.hs.length=hl at *;go_enter Tryz.func70,Tryz.ntmps70
 go_wp2_with fail
 refine hop.mono ?_;clear hop c6;rintro e w1 ⟨rfl,hb1⟩;obtain⟨c10,c11⟩:=HD.out w1 hb1;have htx:=HT.out w1 hb1;have HB1:=hide hb1;clear hb1;go_wp2_with fail
 refine htx.mono ?_;clear htx;rintro e w2 ⟨rfl,hb2⟩;have HB2:=hide (HB1.out.trans (hb2.mono HB1.out.size));clear hb2;go_wp2_with fail
 refine(mustT r w2).mono ?_;rintro e w3 ⟨rfl,rfl⟩;go_wp2_with fail
 go_end0
 exact⟨rfl,HB2.out⟩
end Go.Proofs.YtenegfafjjknoaaGreatDoor.Lw
namespace Go.Proofs.YtenegfafjjknoaaGreatDoor.Dd
open Go.RowKit Go.Maps Mem Foot Bytes Im Wm Hi Plainw Cq Dm Dh Jr Wi Sk Hn Kr
theorem segs0 (bx ba cap:Nat)(bs:List Nat)(S:Dk)(w:World)(hP:PD w bx S ba cap bs)(hl:S.left = -1)(hs:S.segs=[]):
  Calls Tryz.prog 212 #[.pointer (some ⟨bx,0,none⟩)] w fun e w'=>e=.returned (.tuple #[.slice none 0 0,.nilIface])∧Below w.heap.size w w':=by
 have hlen:=hP.len;rw[hs]at hlen;have hli:=list bx ba cap bs S w hP (by simp at hlen;simp[hlen]);have hd:doList S=([],0):=by unfold doList;rw[if_neg (by rw[hl];decide),hs];rfl
 rw[hd]at hli;clear hP hl hs hlen hd;go_enter Tryz.func212,Tryz.ntmps212
 go_wp2_with fail
 refine hli.mono ?_;clear hli;rintro e w1 ⟨v,rfl,hv,hb⟩;obtain⟨a,c,rfl⟩:=own_shapeJ hv;have HB:=hide hb;clear hv hb;simp only[List.length_nil];go_wp2_with fail
 go_loopw [6,22] (fun r s wr=>r=.slice none 0 0∧s=.int .i64 0∧wr=w1) (fun _ _ _=>0)
 case atStart=>exact⟨rfl,rfl,rfl⟩
 case round=>
  obtain⟨rfl,rfl,rfl⟩:=hrel;go_wp2_with fail
  refine bodyPost_ret (results_tmp2 rfl _ _ _) rfl ?_;exact⟨rfl,HB.out⟩
theorem recF (a:Option Addr)(n c:Nat)(w:World):Calls Tryz.prog 266 #[.slice a n c] w fun e w'=>e=.returned (.func (.func 313) #[] #[.pointer (some ⟨w.heap.size,0,none⟩)])∧w'=w.alloc (.cells #[.slice a n c] 281):=by
 go_enter Tryz.func266,Tryz.ntmps266
 go_wp2_with fail
 go_ret
 exact⟨rfl,rfl⟩
set_option maxRecDepth 10000 in
theorem rec0 (m:Nat)(Bx:Nat)(w:World)(hbox:Sits w Bx 281 #[.slice none 0 0]):
  SeqStopsK Fence.wide m Tryz.prog 313 #[.pointer (some ⟨Bx,0,none⟩)] (fun x:Empty=>nomatch x) (fun _ _=>True) (fun xs=>xs=[]) (fun _=>False) 0 w:=by
 intro lp J Jx W hb hJ hJx hY h0;have HBX:=hide (Mem.Sits.below hbox hb hbox.lt);have H0:=hide h0;have c0:=HBX.out.cell 0 _ rfl;clear hbox hY h0 hb hJ hJx;refine callsIn_of_wp Tryz.func313 rfl trivial ?_ rfl;simp only[Tryz.ntmps313,List.size_toArray,List.length_cons,List.length_nil,Nat.reduceAdd,Nat.reduceSub,Array.replicate_succ,Array.replicate_zero,List.push_toArray,List.append_toArray,List.nil_append,List.cons_append];gi_wp2_with fail
 gi_loopw [10] (fun s wr=>s=.int .i64 0∧wr=W) (fun _ _=>0)
 case atStart=>exact⟨rfl,rfl⟩
 case round=>
  obtain⟨rfl,rfl⟩:=hrel;gi_wp2_with fail
  go_end0
  exact⟨⟨_,rfl⟩,.inl ⟨[],rfl,H0.out⟩⟩
def hz (n:Int):Array Value:=#[.slice none 0 0,.int .i64 n,.slice none 0 0,.slice none 0 0,.int .i64 (-1),.int .i64 (-1),.int .i64 0]
def Ih (w:World)(hb cb:Nat)(pre:List Empty)(W:World):Prop:=pre=[]∧Sits W hb 291 (hz 0)∧Sits W cb 284 #[.pointer (some ⟨hb,0,none⟩)]∧Below w.heap.size w W
theorem ih_own (w:World)(hb cb B:Nat)(hB:w.heap.size≤B):OwnFrom B (Ih w hb cb):=by
 intro pre W W' row ⟨h1,h2,h3,h4⟩ hg hr;have ho:=row_off hg;exact⟨h1,Foot.Sits.off h2 ho (row_not hr h2),Foot.Sits.off h3 ho (row_not hr h3),h4.trans (ho.below (fun b hb=>Nat.le_trans hB (hr b (by simpa using hb)).1) h4.size)⟩
attribute [local go_sem] Oper.semAt_some
set_option maxRecDepth 20000 in
theorem hist0 (w:World):
  Calls Tryz.prog 213 #[.slice none 0 0] w fun e w'=>∃hb,e=.returned (.pointer (some ⟨hb,0,none⟩))∧Sits w' hb 291 (hz 0)∧w.heap.size≤hb∧Below w.heap.size w w':=by
 refine(callsIn_wide (n:=12)).1 ?_;refine callsIn_of_wp_marks Tryz.func213 rfl trivial ?_ rfl;simp only[Tryz.ntmps213,List.size_toArray,List.length_cons,List.length_nil,Nat.reduceAdd,Nat.reduceSub,Array.replicate_succ,Array.replicate_zero,List.push_toArray,List.append_toArray,List.nil_append,List.cons_append];have hs1:=Sits.new w 291 (hz 0);have hb1:=below_new (w:=w) (.cells (hz 0) 291);have hs2:=Sits.new (w.alloc (.cells (hz 0) 291)) 284 #[.pointer (some ⟨w.heap.size,0,none⟩)];have hb2:=below_new (w:=w.alloc (.cells (hz 0) 291)) (.cells #[.pointer (some ⟨w.heap.size,0,none⟩)] 284);have HS1:=hide (Mem.Sits.below hs1 hb2 hs1.lt);rw[World.size_alloc]at hs2;have HS2:=hide hs2;have HB2:=hide (hb1.trans (hb2.mono hb1.size));have HZ:=hide (show ((w.alloc (.cells (hz 0) 291)).alloc (.cells #[.pointer (some ⟨w.heap.size,0,none⟩)] 284)).heap.size=w.heap.size+2 by simp);clear hs1 hb1 hs2 hb2;unfold hz at HS1 HS2 HB2 HZ;gi_wp2_with fail
 obtain⟨hb,hhb⟩:∃hb,w.heap.size=hb:=⟨_,rfl⟩;rw[hhb]at HS1 HS2 HB2 HZ ⊢;have HHB:=hide hhb;clear hhb;generalize (w.alloc (.cells #[.slice none 0 0,.int .i64 0,.slice none 0 0,.slice none 0 0,.int .i64 (-1),.int .i64 (-1),.int .i64 0] 291)).alloc (.cells #[.pointer (some ⟨hb,0,none⟩)] 284)=w2 at *;refine⟨trivial,(callsIn_wide.2 (recF none 0 0 w2)).mono ?_⟩;rintro e w3 ⟨rfl,rfl⟩;have hbx:=Sits.new w2 281 #[.slice none 0 0];have hb3:=below_new (w:=w2) (.cells #[.slice none 0 0] 281);have HI3:=hide (show Ih w hb (hb+1) [] (w2.alloc (.cells #[.slice none 0 0] 281)) from⟨rfl,Mem.Sits.below HS1.out hb3 HS1.out.lt,Mem.Sits.below HS2.out hb3 HS2.out.lt,by rw[HHB.out];exact HB2.out.trans (hb3.mono (by have:=HZ.out;omega))⟩);have HBX:=hide hbx;have HSZ:=hide (show hb≤(w2.alloc (.cells #[.slice none 0 0] 281)).heap.size by simp;have:=HZ.out;omega);clear hbx hb3;gi_wp2_with fail
 generalize w2.alloc (.cells #[.slice none 0 0] 281)=w3 at *;apply wpIn_rangeFunc_ownF (F:=Fence.wide) (n:=12) rfl (by decide) (gf:=313) (lb:=#[.pointer (some ⟨w2.heap.size,0,none⟩)]) rfl trivial (enters_of Tryz.func313 (by kernel_rfl) rfl)
  (rec0 11 w2.heap.size w3 HBX.out) (fun _ _=>trivial) (fun _ _ _ _ _ _ _ _=>trivial) (Below.refl _ _) (fun x=>nomatch x) (Ih w hb (hb+1)) (fun _ _ _=>False)
  (ih_own w hb (hb+1) _ (by rw[HHB.out];exact HSZ.out)) (fun _ _ _ _ _ h _ _=>h) HI3.out (fun x=>nomatch x)
 case hassign=>intro lp x;exact nomatch x
 case hbody=>intro lp pre x;exact nomatch x
 case hstop=>intro D c pre W hD hSp;exact hSp.elim
 case hdone=>
  intro D xs W hD hS hI hK;obtain⟨_,h1,h2,h3⟩:=hI;have HI1:=hide h1;have HI2:=hide h2;have HI4:=hide h3;have HKD:=hide hK;have hc:=h2.cell 0 _ rfl;unfold hz at h1;have hd:=h1.cell 2 _ rfl;clear h1 h2 h3 hK hS;gi_wp2_with fail
  rename_i hKc;have HKK:=hide hKc;have C0:∀s:Bw W,s.val.cell? ⟨hb+1,0,none⟩=some (.pointer (some ⟨hb,0,none⟩)):=fun s=>(Mem.Sits.below HI2.out s.is HI2.out.lt).cell 0 _ rfl
  have C4:∀s:Bw W,s.val.cell? ⟨hb,4,none⟩=some (.int .i64 (-1)):=fun s=>(Mem.Sits.below HI1.out s.is HI1.out.lt).cell 4 _ rfl
  clear hKc hc hd;refine wpIn_wide.2 (region_pre 10 (by kernel_rfl) (by kernel_rfl) ?_);simp only[List.take_succ_cons,List.take_zero,List.drop_succ_cons,List.drop_zero];repeat (first
   | go_big_quiet_skip
   | (go_big_quiet_want;go_big_quiet_op;go_big_quiet_on))
  refine wpQuiet_nil ?_;intro s;have HB5:=hide s.is;have HJ1:=hide (Mem.Sits.below HI1.out s.is HI1.out.lt);have HJ2:=hide (Mem.Sits.below HI2.out s.is HI2.out.lt);have HJD:=hide (show s.val.heap[D]? = some (.deferred (some [])) from(s.is.block D (Array.getElem?_eq_some_iff.1 HKD.out).1).trans HKD.out);clear C0 C4;generalize s.val=W2 at *;have d1:=HJ1.out.cell 1 _ rfl;have f1:=HJ1.out.frozen 1;go_wp2_with fail
  refine HKK.out _ _ ?_;have hso:Off [hb] W2 (W2.setCell ⟨hb,1,none⟩ (.int .i64 0)):=(Off.refl _ _).set (uA.2 rfl) _ _;have h1s:=HJ1.out.set 1 (.int .i64 0);have h2s:=Foot.Sits.off HJ2.out hso (by simp);have hDb:D∉[hb]:=fun e=>by
   have h1:=HJ1.out;unfold Sits at h1;rw[←uA.1 e,HJD.out]at h1;cases h1
  have hD3:=(hso.block D (Array.getElem?_eq_some_iff.1 HJD.out).1 hDb).trans HJD.out;have HB6:=hide (HI4.out.trans ((HB5.out.mono HI4.out.size).trans (hso.below (fun b hm=>by rw[uA.1 hm,HHB.out];exact Nat.le_refl _) (Nat.le_trans HI4.out.size HB5.out.size))));have HT1:=hide h1s;have HD3:=hide hD3;have cc:=h2s.cell 0 _ rfl;clear hso h1s h2s hDb hD3 d1 f1;generalize W2.setCell ⟨hb,1,none⟩ (.int .i64 0)=W3 at *;gi_wp2_with fail
  have hsd:Off [D] W3 (W3.putObj D (.deferred none)):=row_off (grownBy_putObj' W3 D _);refine⟨by simp,.inl ⟨_,_,rfl,run_takeDeferred HD3.out,?_⟩⟩;refine⟨_,results_tmp rfl _ _ _,hb,rfl,Foot.Sits.off HT1.out hsd ?_,by rw[HHB.out];exact Nat.le_refl _,HB6.out.trans (hsd.below (fun b hm=>by rw[uA.1 hm];have:=HSZ.out;have:=HHB.out;omega) HB6.out.size)⟩;intro e;have h1:=HT1.out;unfold Sits at h1;rw[uA.1 e,HD3.out]at h1;cases h1
end Go.Proofs.YtenegfafjjknoaaGreatDoor.Dd
