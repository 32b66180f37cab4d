/- A timer's quantiles. A timer's text. The program's series in memory. A series takes a sample. The program's shards in memory. The program's shards: a key looked up; a key put in. The program's shards: made. -/
import Derived.Test.YtenegfafjjknoaaGreatDoorHrxxy
set_option maxHeartbeats 100000000
open List renaming filter_cons_of_pos → uA, filter_cons_of_neg → uB, mem_cons → uC, take_succ_cons → uD, drop_succ_cons → uE, getElem?_eq_some_iff → uF, getElem?_eq_getElem → uG, getElem?_of_mem → uH, take_zero → uI, drop_zero → uJ
namespace Go.Proofs.YtenegfafjjknoaaGreatDoor.Hi
open Go.RowKit Go.Maps Mem Foot Im Wm Hk Hb Plainw Cq
set_option maxRecDepth 10000 in
theorem quantile (T S b:Nat)(L:Lim)(n:Nat)(t:Tim)(q:Int)(hq0:0≤q)(hq1:q≤100)(w:World)(h:TiAt w T S b L.buckets t)(hf:TFit L n t)(hn:n≤1000000000000000)(hL':L.buckets≤64)(hc:1≤t.count):
  Calls Tryz.prog 195 #[.pointer (some ⟨T,0,none⟩),.int .i64 q] w fun e w'=>e=.returned (.int .i64 (quant t q))∧Below w.heap.size w w':=by
 have hc1:t.count≤1000000000000000:=hf.count.2;have hm0:0≤q*(t.count - 1):=Int.mul_nonneg hq0 (by omega);have hm1:q*(t.count - 1)≤100000000000000000:=by
  have:=Int.mul_le_mul hq1 (show t.count - 1≤1000000000000000 by omega) (by omega) (by omega:(0:Int)≤100);omega
 have C0:∀s:Bw w,s.val.cell? ⟨T,0,none⟩=some (.int .i64 t.count):=fun s=>(h.keep s.is).head.cell 0 _ rfl
 have C4:∀s:Bw w,s.val.cell? ⟨T,4,none⟩=some (.pointer (some ⟨S,0,none⟩)):=fun s=>(h.keep s.is).head.cell 4 _ rfl
 have HA:=hide (fun s:Bw w=>call_cls (atW S b L.buckets t.cells t.folded (q*(t.count - 1) / 100) s.val (h.keep s.is).sk (CFit.of hf hn hL')));have HE:=hide (show quant t q=upto (q*(t.count - 1) / 100) 0 t.cells from rfl);clear h hf;go_enter Tryz.func195,Tryz.ntmps195
 go_wp2_with fail
 refine region_cls (by kernel_rfl) (by kernel_rfl) ?_;repeat (first
  | go_big_quiet_skip
  | (go_big_quiet_want;go_big_quiet_op;first|go_big_quiet_on|(apply Exists.intro;refine⟨fun _=>?_,?_⟩;exact HA.out _;go_big_quiet_on)))
 refine wpQuiet_nil ?_;rintro _ ⟨s,rfl⟩;go_wp2_with fail
 go_ret
 exact⟨by rw[HE.out];rfl,s.is⟩
end Go.Proofs.YtenegfafjjknoaaGreatDoor.Hi
namespace Go.Proofs.YtenegfafjjknoaaGreatDoor.Hi
open Go.RowKit Go.Maps Mem Foot Im Wm Hk Hb Plainw Cq
theorem upto_range {k:Int}{l:List (Int×Cel)}(h:∀c∈l,0≤c.2.stands∧c.2.stands≤2000000000):∀s,0≤upto k s l∧upto k s l≤2000000000:=by
 induction l with
 | nil=>intro s;simp[upto]
 | cons c r ih=>
  intro s;rw[upto];split
  ·exact h c (List.mem_cons_self ..)
  ·exact ih (fun c hc=>h c (List.mem_cons_of_mem _ hc)) _
theorem quant_range {L:Lim}{n:Nat}{t:Tim}(h:TFit L n t)(q:Int):0≤quant t q∧quant t q≤2000000000:=
 upto_range (fun c hc=>⟨(h.cel c hc).2.2.1,(h.cel c hc).2.2.2.1⟩) 0
theorem cells8 (w:World)(x:Fin 8→Int)(t:TypeId):∀(j:Nat) y,[x 0,x 1,x 2,x 3,x 4,x 5,x 6,x 7][j]? = some y→(w.alloc (.cells #[.int .i64 (x 0),.int .i64 (x 1),.int .i64 (x 2),.int .i64 (x 3),.int .i64 (x 4),.int .i64 (x 5),.int .i64 (x 6),.int .i64 (x 7)] t)).cell? ⟨w.heap.size,j,none⟩=some (.int .i64 y):=by
 intro j y hj;refine(Sits.new w t _).cell j _ ?_
 match j,hj with
 | 0,hj=>simp at hj;subst hj;rfl
 | 1,hj=>simp at hj;subst hj;rfl
 | 2,hj=>simp at hj;subst hj;rfl
 | 3,hj=>simp at hj;subst hj;rfl
 | 4,hj=>simp at hj;subst hj;rfl
 | 5,hj=>simp at hj;subst hj;rfl
 | 6,hj=>simp at hj;subst hj;rfl
 | 7,hj=>simp at hj;subst hj;rfl
 | j+8,hj=>simp at hj
theorem join8 (w0 w:World)(x0 x1 x2 x3 x4 x5 x6 x7:Int)(hb:Below w0.heap.size w0 w)(ht:Tab w)(hr:∀x∈[x0,x1,x2,x3,x4,x5,x6,x7],-9223372036854775808≤x∧x≤9223372036854775807):
  Calls Tryz.prog 194 #[.slice (some ⟨w.heap.size,0,none⟩) 8 8] (w.alloc (.cells #[.int .i64 x0,.int .i64 x1,.int .i64 x2,.int .i64 x3,.int .i64 x4,.int .i64 x5,.int .i64 x6,.int .i64 x7] 3)) fun e w'=>(∃z,e=.returned (.string z)∧Bytes.B z=Lib.join ([x0,x1,x2,x3,x4,x5,x6,x7].map Lib.itoa) [32])∧Below w0.heap.size w0 w':=by
 refine(joined w.heap.size 8 [x0,x1,x2,x3,x4,x5,x6,x7] _ (ht.below (below_new _)) (by simp) (by simp) (cells8 w (fun i=>[x0,x1,x2,x3,x4,x5,x6,x7][i]) 3) hr rfl).mono ?_;rintro e w' ⟨h1,h2⟩;exact⟨h1,(hb.alloc hb.size _).trans (h2.mono (hb.alloc hb.size _).size)⟩
set_option maxRecDepth 10000 in
theorem tiText (T S b:Nat)(L:Lim)(n:Nat)(t:Tim)(w:World)(h:TiAt w T S b L.buckets t)(hf:TFit L n t)(ht:Tab w)(hn:n≤1000000000000000)(hL':L.buckets≤64)(hc:1≤t.count):
  Calls Tryz.prog 149 #[.pointer (some ⟨T,0,none⟩)] w fun e w'=>(∃z,e=.returned (.string z)∧Bytes.B z=stext (.tim t))∧Below w.heap.size w w':=by
 obtain⟨c0,c1,c2,c3,c4,f0,f1,f2,f3⟩:=cells5 h.head;have C0:∀s:Bw w,s.val.cell? ⟨T,0,none⟩=some (.int .i64 t.count):=fun s=>(h.keep s.is).head.cell 0 _ rfl
 have C1:∀s:Bw w,s.val.cell? ⟨T,1,none⟩=some (.int .i64 t.sum):=fun s=>(h.keep s.is).head.cell 1 _ rfl
 have C2:∀s:Bw w,s.val.cell? ⟨T,2,none⟩=some (.int .i64 t.least):=fun s=>(h.keep s.is).head.cell 2 _ rfl
 have C3:∀s:Bw w,s.val.cell? ⟨T,3,none⟩=some (.int .i64 t.greatest):=fun s=>(h.keep s.is).head.cell 3 _ rfl
 have HA:=hide (fun (q:Int) (h0:0≤q) (h1:q≤100) (s:Bw w)=>call_cls (quantile T S b L n t q h0 h1 s.val (h.keep s.is) hf hn hL' hc));have hfd:=folded S b L.buckets t.cells t.folded w h.sk;have HT:=hide (fun s:Bw w=>ht.below s.is);have HR:=hide (show ∀x∈tnums t,-9223372036854775808≤x∧x≤9223372036854775807 by
  intro x hx;have q1:=hf.count;have q2:=hf.sum;have q3:=hf.least;have q4:=hf.greatest;have q5:=quant_range hf 50;have q6:=quant_range hf 90;have q7:=quant_range hf 99;simp only[top]at q1 q2;simp only[tnums,uC,List.not_mem_nil,or_false]at hx;rcases hx with rfl|rfl|rfl|rfl|rfl|rfl|rfl|rfl
  ·omega
  ·omega
  ·omega
  ·omega
  ·omega
  ·omega
  ·omega
  ·split<;>omega)
 have HE:=hide (show stext (.tim t)=Lib.join ((tnums t).map Lib.itoa) [32] from rfl);clear c0 c1 c2 c3 f0 f1 f2 f3 h hf;cases hfo:t.folded with
 | true=>
  rw[hfo]at hfd;have HN:=hide (show tnums t=[t.count,t.sum,t.least,t.greatest,quant t 50,quant t 90,quant t 99,1] by simp[tnums,hfo]);clear hfo;go_enter Tryz.func149,Tryz.ntmps149
  go_wp2_with fail
  refine hfd.mono ?_;clear hfd;rintro e w' ⟨rfl,rfl⟩;go_wp2_with fail
  refine region_pre 23 (by kernel_rfl) (by kernel_rfl) ?_;simp only[uD,uI,uE,uJ];repeat (first
   | go_big_quiet_skip
   | (go_big_quiet_want;go_big_quiet_op;first|go_big_quiet_on|(apply Exists.intro;refine⟨fun _=>?_,?_⟩;exact HA.out _ (by decide) (by decide) _;go_big_quiet_on)))
  refine wpQuiet_nil ?_;intro s;have hj:=join8 w' s.val t.count t.sum t.least t.greatest (quant t 50) (quant t 90) (quant t 99) 1 s.is (HT.out s) (by rw[←HN.out];exact HR.out);rw[←HN.out,←HE.out]at hj;clear C0 C1 C2 C3;go_wp2_with fail
  refine hj.mono ?_;clear hj;rintro e w2 ⟨⟨z,rfl,hz⟩,hb⟩;have HZ:=hide hz;have HB:=hide hb;clear hz hb;go_wp2_with fail
  go_ret
  exact⟨⟨z,rfl,HZ.out⟩,HB.out⟩
 | false=>
  rw[hfo]at hfd;have HN:=hide (show tnums t=[t.count,t.sum,t.least,t.greatest,quant t 50,quant t 90,quant t 99,0] by simp[tnums,hfo]);clear hfo;go_enter Tryz.func149,Tryz.ntmps149
  go_wp2_with fail
  refine hfd.mono ?_;clear hfd;rintro e w' ⟨rfl,rfl⟩;go_wp2_with fail
  refine region_pre 23 (by kernel_rfl) (by kernel_rfl) ?_;simp only[uD,uI,uE,uJ];repeat (first
   | go_big_quiet_skip
   | (go_big_quiet_want;go_big_quiet_op;first|go_big_quiet_on|(apply Exists.intro;refine⟨fun _=>?_,?_⟩;exact HA.out _ (by decide) (by decide) _;go_big_quiet_on)))
  refine wpQuiet_nil ?_;intro s;have hj:=join8 w' s.val t.count t.sum t.least t.greatest (quant t 50) (quant t 90) (quant t 99) 0 s.is (HT.out s) (by rw[←HN.out];exact HR.out);rw[←HN.out,←HE.out]at hj;clear C0 C1 C2 C3;go_wp2_with fail
  refine hj.mono ?_;clear hj;rintro e w2 ⟨⟨z,rfl,hz⟩,hb⟩;have HZ:=hide hz;have HB:=hide hb;clear hz hb;go_wp2_with fail
  go_ret
  exact⟨⟨z,rfl,HZ.out⟩,HB.out⟩
end Go.Proofs.YtenegfafjjknoaaGreatDoor.Hi
namespace Go.Proofs.YtenegfafjjknoaaGreatDoor.Hn
open Go.RowKit Go.Maps Mem Foot Im Wm Hk Hb Hi Plainw Cq
structure Gh where
 X:Nat
 A:Nat
 S:Nat
 b:Nat
def SeAt (w:World)(L:Lim)(k:Bs)(g:Gh):Ser→Prop
 | .num n=>∃kb,Bytes.B kb=kindOf k∧Sits w g.X 205 #[.string kb,.int .i64 n,.pointer none,.pointer none]
 | .set ws=>Sits w g.X 205 #[.string ⟨#[115]⟩,.int .i64 0,.pointer (some ⟨g.A,0,none⟩),.pointer none]∧WoAt w g.A g.b L.sets ws
 | .tim t=>Sits w g.X 205 #[.string ⟨#[109,115]⟩,.int .i64 0,.pointer none,.pointer (some ⟨g.A,0,none⟩)]∧TiAt w g.A g.S g.b L.buckets t
def gf (g:Gh):Ser→List Nat
 | .num _=>[g.X]
 | .set _=>[g.X,g.A,g.b]
 | .tim _=>[g.X,g.A,g.S,g.b]
theorem SeAt.off {F:List Nat}{w w':World}{L:Lim}{k:Bs}{g:Gh}{s:Ser}(h:SeAt w L k g s)(ho:Off F w w')(hF:∀x∈gf g s,x∉F):SeAt w' L k g s:=by
 cases s with
 | num n=>
  obtain⟨kb,h1,h2⟩:=h;exact⟨kb,h1,Foot.Sits.off h2 ho (hF _ (by simp[gf]))⟩
 | set ws=>exact⟨Foot.Sits.off h.1 ho (hF _ (by simp[gf])),h.2.off ho (hF _ (by simp[gf])) (hF _ (by simp[gf]))⟩
 | tim t=>exact⟨Foot.Sits.off h.1 ho (hF _ (by simp[gf])),h.2.off ho (hF _ (by simp[gf])) (hF _ (by simp[gf])) (hF _ (by simp[gf]))⟩
theorem SeAt.keep {w w':World}{L:Lim}{k:Bs}{g:Gh}{s:Ser}(h:SeAt w L k g s)(hb:Below w.heap.size w w'):SeAt w' L k g s:=
 h.off (F:=[]) (Off.of_below hb) (by simp)
theorem SeAt.lt {w:World}{L:Lim}{k:Bs}{g:Gh}{s:Ser}(h:SeAt w L k g s):∀x∈gf g s,x<w.heap.size:=by
 intro x hx;cases s with
 | num n=>
  obtain⟨kb,h1,h2⟩:=h;simp[gf]at hx
  rw[hx];exact h2.lt
 | set ws=>
  simp[gf]at hx
  rcases hx with rfl|rfl|rfl
  ·exact h.1.lt
  ·exact h.2.head.lt
  ·exact h.2.map.below
 | tim t=>
  simp[gf]at hx
  rcases hx with rfl|rfl|rfl|rfl
  ·exact h.1.lt
  ·exact h.2.head.lt
  ·exact h.2.sk.head.lt
  ·exact h.2.sk.map.below
def cfg (c:Fin 6→Int):Value:=.agg #[.int .i64 (c 0),.int .i64 (c 1),.int .i64 (c 2),.int .i64 (c 3),.int .i64 (c 4),.int .i64 (c 5)]
theorem head4 {w:World}{b:Nat}{t:TypeId}{v0 v1 v2 v3:Value}(h:Sits w b t #[v0,v1,v2,v3]):
  w.cell? ⟨b,0,none⟩=some v0∧w.cell? ⟨b,1,none⟩=some v1∧w.cell? ⟨b,2,none⟩=some v2∧w.cell? ⟨b,3,none⟩=some v3∧w.frozen? ⟨b,0,none⟩=false∧w.frozen? ⟨b,1,none⟩=false∧w.frozen? ⟨b,2,none⟩=false∧w.frozen? ⟨b,3,none⟩=false:=
 ⟨h.cell 0 _ rfl,h.cell 1 _ rfl,h.cell 2 _ rfl,h.cell 3 _ rfl,h.frozen 0,h.frozen 1,h.frozen 2,h.frozen 3⟩
theorem new_num (kb:ByteArray)(c:Fin 6→Int)(L:Lim)(k:Bs)(hk:Bytes.B kb=kindOf k)(h1:(kb.toList==[115])=false)(h2:(kb.toList==[109,115])=false)(w:World):
  Calls Tryz.prog 245 #[.string kb,cfg c] w fun e w'=>∃g:Gh,e=.returned (.pointer (some ⟨g.X,0,none⟩))∧SeAt w' L k g (.num 0)∧(∀x∈gf g (.num 0),w.heap.size≤x)∧Below w.heap.size w w':=by
 unfold cfg;go_enter Tryz.func245,Tryz.ntmps245
 go_wp2_with fail
 go_ret
 refine⟨⟨w.heap.size+1,0,0,0⟩,by simp,⟨kb,hk,?_⟩,by simp[gf],(below_new _).alloc (by simp) _⟩;have:=Sits.new (w.alloc (.cells #[.int .i64 (c 0),.int .i64 (c 1),.int .i64 (c 2),.int .i64 (c 3),.int .i64 (c 4),.int .i64 (c 5)] 31)) 205 #[.string kb,.int .i64 0,.pointer none,.pointer none];simpa using this
theorem new_set (c:Fin 6→Int)(L:Lim)(k:Bs)(hc:c 2=L.sets)(w:World):
  Calls Tryz.prog 245 #[.string ⟨#[115]⟩,cfg c] w fun e w'=>∃g:Gh,e=.returned (.pointer (some ⟨g.X,0,none⟩))∧SeAt w' L k g (.set [])∧(∀x∈gf g (.set []),w.heap.size≤x)∧Below w.heap.size w w':=by
 have HC:=hide hc;clear hc;unfold cfg;go_enter Tryz.func245,Tryz.ntmps245
 go_wp2_with fail
 have hS:=Sits.new (w.alloc (.cells #[.int .i64 (c 0),.int .i64 (c 1),.int .i64 (c 2),.int .i64 (c 3),.int .i64 (c 4),.int .i64 (c 5)] 31)) 205 #[.string ⟨#[115]⟩,.int .i64 0,.pointer none,.pointer none];have hB:Below w.heap.size w ((w.alloc (.cells #[.int .i64 (c 0),.int .i64 (c 1),.int .i64 (c 2),.int .i64 (c 3),.int .i64 (c 4),.int .i64 (c 5)] 31)).alloc (.cells #[.string ⟨#[115]⟩,.int .i64 0,.pointer none,.pointer none] 205)):=(below_new _).alloc (by simp) _;rw[World.size_alloc]at hS;generalize (w.alloc (.cells #[.int .i64 (c 0),.int .i64 (c 1),.int .i64 (c 2),.int .i64 (c 3),.int .i64 (c 4),.int .i64 (c 5)] 31)).alloc (.cells #[.string ⟨#[115]⟩,.int .i64 0,.pointer none,.pointer none] 205)=w1 at *;rw[HC.out];refine(woNew L.sets w1).mono ?_;rintro e w2 ⟨rfl,hwo,hb2⟩;have HS2:=hide (hS.below hb2 hS.lt);have HB2:=hide (hB.trans (hb2.mono hB.size));have HW:=hide hwo;have HL:=hide (show w.heap.size≤w1.heap.size∧w.heap.size+1<w1.heap.size from⟨hB.size,hS.lt⟩);obtain⟨c0,c1,c2,c3,f0,f1,f2,f3⟩:=head4 HS2.out;clear hS hB hwo hb2;go_wp2_with fail
 go_ret
 obtain⟨l1,l2⟩:=HL.out;have ho:Off [w.heap.size+1] w2 (w2.setCell ⟨w.heap.size+1,2,none⟩ (.pointer (some ⟨w1.heap.size+1,0,none⟩))):=(Off.refl _ _).set (by simp) _ _;refine⟨⟨w.heap.size+1,w1.heap.size+1,0,w1.heap.size⟩,rfl,⟨HS2.out.set 2 _,HW.out.off ho ?_ ?_⟩,?_,HB2.out.setCell (p:=⟨w.heap.size+1,2,none⟩) (by simp) _⟩
 ·simp
  omega
 ·simp
  omega
 ·intro x hx;simp[gf]at hx
  omega
theorem new_tim (c:Fin 6→Int)(L:Lim)(k:Bs)(hc:c 3=L.buckets)(w:World):
  Calls Tryz.prog 245 #[.string ⟨#[109,115]⟩,cfg c] w fun e w'=>∃g:Gh,e=.returned (.pointer (some ⟨g.X,0,none⟩))∧SeAt w' L k g (.tim ⟨0,0,0,0,[],false⟩)∧(∀x∈gf g (.tim ⟨0,0,0,0,[],false⟩),w.heap.size≤x)∧Below w.heap.size w w':=by
 have HC:=hide hc;clear hc;unfold cfg;go_enter Tryz.func245,Tryz.ntmps245
 go_wp2_with fail
 have hS:=Sits.new (w.alloc (.cells #[.int .i64 (c 0),.int .i64 (c 1),.int .i64 (c 2),.int .i64 (c 3),.int .i64 (c 4),.int .i64 (c 5)] 31)) 205 #[.string ⟨#[109,115]⟩,.int .i64 0,.pointer none,.pointer none];have hB:Below w.heap.size w ((w.alloc (.cells #[.int .i64 (c 0),.int .i64 (c 1),.int .i64 (c 2),.int .i64 (c 3),.int .i64 (c 4),.int .i64 (c 5)] 31)).alloc (.cells #[.string ⟨#[109,115]⟩,.int .i64 0,.pointer none,.pointer none] 205)):=(below_new _).alloc (by simp) _;rw[World.size_alloc]at hS;generalize (w.alloc (.cells #[.int .i64 (c 0),.int .i64 (c 1),.int .i64 (c 2),.int .i64 (c 3),.int .i64 (c 4),.int .i64 (c 5)] 31)).alloc (.cells #[.string ⟨#[109,115]⟩,.int .i64 0,.pointer none,.pointer none] 205)=w1 at *;rw[HC.out];refine(tiNew L.buckets w1).mono ?_;rintro e w2 ⟨T,rfl,hT,hti,hb2⟩;have HS2:=hide (hS.below hb2 hS.lt);have HB2:=hide (hB.trans (hb2.mono hB.size));have HW:=hide hti;have HL:=hide (show w.heap.size≤w1.heap.size∧w.heap.size+1<w1.heap.size∧w1.heap.size≤T from⟨hB.size,hS.lt,hT⟩);obtain⟨c0,c1,c2,c3,f0,f1,f2,f3⟩:=head4 HS2.out;clear hS hB hti hb2 hT;go_wp2_with fail
 go_ret
 obtain⟨l1,l2,l3⟩:=HL.out;have ho:Off [w.heap.size+1] w2 (w2.setCell ⟨w.heap.size+1,3,none⟩ (.pointer (some ⟨T,0,none⟩))):=(Off.refl _ _).set (by simp) _ _;refine⟨⟨w.heap.size+1,T,w1.heap.size+1,w1.heap.size⟩,rfl,⟨HS2.out.set 3 _,HW.out.off ho ?_ ?_ ?_⟩,?_,HB2.out.setCell (p:=⟨w.heap.size+1,3,none⟩) (by simp) _⟩
 ·simp
  omega
 ·simp
  omega
 ·simp
  omega
 ·intro x hx;simp[gf]at hx
  omega
theorem newSeries (kb:ByteArray)(c:Fin 6→Int)(L:Lim)(l:Bs)(m:Opts.Smp)(hr:Opts.rd l=some m)(hk:Bytes.B kb=m.kind)(h2:c 2=L.sets)(h3:c 3=L.buckets)(w:World):
  Calls Tryz.prog 245 #[.string kb,cfg c] w fun e w'=>∃g:Gh,e=.returned (.pointer (some ⟨g.X,0,none⟩))∧SeAt w' L (key m) g (ser0 m.kind)∧(∀x∈gf g (ser0 m.kind),w.heap.size≤x)∧Below w.heap.size w w':=by
 obtain⟨_,hkd⟩:=rd_kind hr;rcases hkd with e|e|e|⟨e,_⟩
 ·rw[e]at hk ⊢;obtain rfl:kb=⟨#[115]⟩:=Bytes.B_inj hk;exact new_set c L (key m) h2 w
 ·have h1:ser0 m.kind=.num 0:=by rw[e];rfl
  rw[h1];refine new_num kb c L (key m) (by rw[hk,kindOf_key hr]) ?_ ?_ w
  ·exact Vals.ne_list (by rw[hk,e];decide)
  ·exact Vals.ne_list (by rw[hk,e];decide)
 ·have h1:ser0 m.kind=.num 0:=by rw[e];rfl
  rw[h1];refine new_num kb c L (key m) (by rw[hk,kindOf_key hr]) ?_ ?_ w
  ·exact Vals.ne_list (by rw[hk,e];decide)
  ·exact Vals.ne_list (by rw[hk,e];decide)
 ·rw[e]at hk ⊢;obtain rfl:kb=⟨#[109,115]⟩:=Bytes.B_inj hk;exact new_tim c L (key m) h3 w
theorem seText (L:Lim)(n:Nat)(k:Bs)(g:Gh)(s:Ser)(w:World)(h:SeAt w L k g s)(hf:SFit L n k s)(ht:Tab w)(hn:n≤1000000000000000)(hL:L.buckets≤64)(hS:L.sets≤1000)(hc:∀t,s=.tim t→1≤t.count):
  Calls Tryz.prog 93 #[.pointer (some ⟨g.X,0,none⟩)] w fun e w'=>(∃z,e=.returned (.string z)∧Bytes.B z=stext s)∧Below w.heap.size w w':=by
 cases s with
 | num x=>
  obtain⟨kb,hk,hs⟩:=h;obtain⟨c0,c1,c2,c3,f0,f1,f2,f3⟩:=head4 hs;have hr:-top≤x∧x≤top:=hf.ok;have hkk:kindOf k=[99]∨kindOf k=[103]:=hf.kind;simp only[top]at hr;have e1:(kb.toList==[115])=false:=Vals.ne_list (by rw[hk];rcases hkk with e|e<;>rw[e]<;>decide);have e2:(kb.toList==[109,115])=false:=Vals.ne_list (by rw[hk];rcases hkk with e|e<;>rw[e]<;>decide);have hit:=itoaG x (by omega) (by omega) w ht;clear hf hs hkk hk;go_enter Tryz.func93,Tryz.ntmps93
  go_wp2_with fail
  refine hit.mono ?_;clear hit;rintro e w2 ⟨⟨z,rfl,hz,_⟩,hb⟩;have HZ:=hide hz;have HB:=hide hb;clear hz hb;go_wp2_with fail
  go_ret
  exact⟨⟨z,rfl,HZ.out⟩,HB.out⟩
 | set ws=>
  obtain⟨c0,c1,c2,c3,f0,f1,f2,f3⟩:=head4 h.1;have hlen:=woLen g.A g.b L.sets ws w h.2;have hws:ws.length≤L.sets:=hf.ok.2;have hit:=itoaG (ws.length:Int) (by omega) (by omega) w ht;clear hf h;go_enter Tryz.func93,Tryz.ntmps93
  go_wp2_with fail
  refine hlen.mono ?_;clear hlen;rintro e w' ⟨rfl,rfl⟩;go_wp2_with fail
  refine hit.mono ?_;clear hit;rintro e w2 ⟨⟨z,rfl,hz,_⟩,hb⟩;have HZ:=hide hz;have HB:=hide hb;clear hz hb;go_wp2_with fail
  go_ret
  exact⟨⟨z,rfl,HZ.out⟩,HB.out⟩
 | tim t=>
  obtain⟨c0,c1,c2,c3,f0,f1,f2,f3⟩:=head4 h.1;have htx:=tiText g.A g.S g.b L n t w h.2 hf.ok ht hn hL (hc t rfl);clear hf h;go_enter Tryz.func93,Tryz.ntmps93
  go_wp2_with fail
  refine htx.mono ?_;clear htx;rintro e w2 ⟨⟨z,rfl,hz⟩,hb⟩;have HZ:=hide hz;have HB:=hide hb;clear hz hb;go_wp2_with fail
  go_ret
  exact⟨⟨z,rfl,HZ.out⟩,HB.out⟩
end Go.Proofs.YtenegfafjjknoaaGreatDoor.Hn
namespace Go.Proofs.YtenegfafjjknoaaGreatDoor.Hn
open Go.RowKit Go.Maps Mem Foot Im Wm Hk Hb Hi Plainw Cq Readw
theorem take_set (L:Lim)(k:Bs)(g:Gh)(ws:List (Bs×Unit))(nb wb:ByteArray)(sg:Bool)(v r:Int)(sa:Option Addr)(sl sc:Nat)(w:World)(h:SeAt w L k g (.set ws))(hl:ws.length<1000)(hsz:wb.size≤1000):
  Calls Tryz.prog 188 #[.pointer (some ⟨g.X,0,none⟩),smp nb ⟨#[115]⟩ sg v wb r (.slice sa sl sc)] w fun e w'=>
   e=.returned (.bool (wadd L.sets (Bytes.B wb) ws).2)∧Off (gf g (.set ws)) w w'∧SeAt w' L k g (.set (wadd L.sets (Bytes.B wb) ws).1):=by
 unfold smp;have HS:=hide h;clear h;go_enter Tryz.func188,Tryz.ntmps188
 go_wp2_with fail
 have hN:=Sits.new w 80 #[.string nb,.string ⟨#[115]⟩,.bool sg,.int .i64 v,.string wb,.int .i64 r,.slice sa sl sc];have hB:=below_new (w:=w) (.cells #[.string nb,.string ⟨#[115]⟩,.bool sg,.int .i64 v,.string wb,.int .i64 r,.slice sa sl sc] 80);generalize w.alloc (.cells #[.string nb,.string ⟨#[115]⟩,.bool sg,.int .i64 v,.string wb,.int .i64 r,.slice sa sl sc] 80)=w1 at *;obtain⟨B,hBe⟩:∃B,w.heap.size=B:=⟨_,rfl⟩;have HB1:=hide hB;rw[hBe]at hN;rw[hBe];have HS1:=hide (HS.out.keep hB);have C2:∀s:Bw w1,s.val.cell? ⟨g.X,2,none⟩=some (.pointer (some ⟨g.A,0,none⟩)):=fun s=>(HS1.out.keep s.is).1.cell 2 _ rfl
 have C4:∀s:Bw w1,s.val.cell? ⟨B,4,none⟩=some (.string wb):=fun s=>(hN.below s.is hN.lt).cell 4 _ rfl
 clear hB hN hBe;refine region_pre 6 (by kernel_rfl) (by kernel_rfl) ?_;simp only[uD,uI,uE,uJ];repeat (first
  | go_big_quiet_skip
  | (go_big_quiet_want;go_big_quiet_op;go_big_quiet_on))
 refine wpQuiet_nil ?_;intro s;have HSs:=hide (HS1.out.keep s.is);have HBs:=hide (HB1.out.trans (s.is.mono HB1.out.size));have hadd:=woAdd g.A g.b L.sets ws wb s.val HSs.out.2 hl hsz;clear C2 C4;go_wp2_with fail
 refine hadd.mono ?_;clear hadd;rintro e w2 ⟨rfl,ho,hwo⟩;have HO:=hide ho;have HW:=hide hwo;clear ho hwo;go_wp2_with fail
 go_ret
 have hne:g.X≠g.b:=map_sits HSs.out.2.map HSs.out.1;refine⟨rfl,(Off.of_below HBs.out).trans (HO.out.mono fun x _ hx=>?_),Foot.Sits.off HSs.out.1 HO.out (by simpa using hne),HW.out⟩;simp at hx
 simp[gf,hx]
theorem take_tim (L:Lim)(n:Nat)(k:Bs)(g:Gh)(t:Tim)(nb wb:ByteArray)(sg:Bool)(v r:Int)(sa:Option Addr)(sl sc:Nat)(w:World)(h:SeAt w L k g (.tim t))(hf:TFit L n t)(hn:n≤1000000000000000)(hL:2≤L.buckets)(hL':L.buckets≤64)(h0:0≤v)(h1:v≤999999999)(h2:1≤r)(h3:r≤1000):
  Calls Tryz.prog 188 #[.pointer (some ⟨g.X,0,none⟩),smp nb ⟨#[109,115]⟩ sg v wb r (.slice sa sl sc)] w fun e w'=>
   e=.returned (.bool true)∧Off (gf g (.tim t)) w w'∧SeAt w' L k g (.tim (tadd L.buckets t v (1000 / r))):=by
 unfold smp;have HS:=hide h;have HF:=hide hf;have hq0:1≤1000 / r:=Int.le_ediv_of_mul_le (by omega) (by omega);have hq1:1000 / r≤1000:=Int.ediv_le_self _ (by omega);clear h hf;go_enter Tryz.func188,Tryz.ntmps188
 go_wp2_with fail
 have hN:=Sits.new w 80 #[.string nb,.string ⟨#[109,115]⟩,.bool sg,.int .i64 v,.string wb,.int .i64 r,.slice sa sl sc];have hB:=below_new (w:=w) (.cells #[.string nb,.string ⟨#[109,115]⟩,.bool sg,.int .i64 v,.string wb,.int .i64 r,.slice sa sl sc] 80);generalize w.alloc (.cells #[.string nb,.string ⟨#[109,115]⟩,.bool sg,.int .i64 v,.string wb,.int .i64 r,.slice sa sl sc] 80)=w1 at *;obtain⟨B,hBe⟩:∃B,w.heap.size=B:=⟨_,rfl⟩;have HB1:=hide hB;rw[hBe]at hN;rw[hBe];have HS1:=hide (HS.out.keep hB);have C3:∀s:Bw w1,s.val.cell? ⟨g.X,3,none⟩=some (.pointer (some ⟨g.A,0,none⟩)):=fun s=>(HS1.out.keep s.is).1.cell 3 _ rfl
 have C5:∀s:Bw w1,s.val.cell? ⟨B,5,none⟩=some (.int .i64 r):=fun s=>(hN.below s.is hN.lt).cell 5 _ rfl
 clear hB hN hBe;refine region_pre 8 (by kernel_rfl) (by kernel_rfl) ?_;simp only[uD,uI,uE,uJ];repeat (first
  | go_big_quiet_skip
  | (go_big_quiet_want;go_big_quiet_op;go_big_quiet_on))
 refine wpQuiet_nil ?_;intro s;have HSs:=hide (HS1.out.keep s.is);have HBs:=hide (HB1.out.trans (s.is.mono HB1.out.size));have hadd:=tiAdd g.A g.S g.b L n t v (1000 / r) s.val HSs.out.2 HF.out hn hL hL' h0 h1 hq0 hq1;clear C3 C5;go_wp2_with fail
 refine hadd.mono ?_;clear hadd;rintro e w2 ⟨rfl,ho,hwo⟩;have HO:=hide ho;have HW:=hide hwo;clear ho hwo;go_wp2_with fail
 go_ret
 have hne:g.X≠g.b:=map_sits HSs.out.2.sk.map HSs.out.1;have hne2:g.X≠g.A:=sits_ne HSs.out.1 HSs.out.2.head (by decide);have hne3:g.X≠g.S:=sits_ne HSs.out.1 HSs.out.2.sk.head (by decide);refine⟨rfl,(Off.of_below HBs.out).trans (HO.out.mono fun x _ hx=>?_),Foot.Sits.off HSs.out.1 HO.out (by simp[hne,hne2,hne3]),HW.out⟩;simp at hx
 simp[gf]
 omega
theorem take_c (L:Lim)(k:Bs)(g:Gh)(n:Int)(nb wb:ByteArray)(sg:Bool)(v r:Int)(sa:Option Addr)(sl sc:Nat)(w:World)(h:SeAt w L k g (.num n))(hn0:-1000000000000000≤n)(hn1:n≤1000000000000000)(h0:-999999999≤v)(h1:v≤999999999)(h2:1≤r)(h3:r≤1000):
  Calls Tryz.prog 188 #[.pointer (some ⟨g.X,0,none⟩),smp nb ⟨#[99]⟩ sg v wb r (.slice sa sl sc)] w fun e w'=>
   e=.returned (.bool true)∧Off (gf g (.num n)) w w'∧SeAt w' L k g (.num (bnd ((v*1000).tdiv r+n))):=by
 unfold smp;obtain⟨kb,hk,hs⟩:=h;have HK:=hide hk;have hd0:-999999999000≤(v*1000).tdiv r:=by
  have h5:(v*1000).natAbs / r.natAbs≤(v*1000).natAbs:=Nat.div_le_self _ _;have h6:((v*1000).tdiv r).natAbs=(v*1000).natAbs / r.natAbs:=Int.natAbs_tdiv _ _;omega
 have hd1:(v*1000).tdiv r≤999999999000:=by
  have h5:(v*1000).natAbs / r.natAbs≤(v*1000).natAbs:=Nat.div_le_self _ _;have h6:((v*1000).tdiv r).natAbs=(v*1000).natAbs / r.natAbs:=Int.natAbs_tdiv _ _;omega
 have hbd:=bounded;have HN:=hide (hs.alloc (.cells #[.string nb,.string ⟨#[99]⟩,.bool sg,.int .i64 v,.string wb,.int .i64 r,.slice sa sl sc] 80));obtain⟨c0,c1,c2,c3,f0,f1,f2,f3⟩:=head4 HN.out;clear hk hs c0 c2 c3 f0 f2 f3;go_enter Tryz.func188,Tryz.ntmps188
 go_wp2_with (go_at_call 249;refine(hbd _ _).mono ?_;rintro e w' ⟨rfl,rfl⟩)
 go_ret
 refine⟨rfl,(Off.of_below (below_new _)).set (by simp[gf]) _ _,kb,HK.out,?_⟩;exact HN.out.set 1 _
theorem take_d (L:Lim)(k:Bs)(g:Gh)(n:Int)(nb wb:ByteArray)(v r:Int)(sa:Option Addr)(sl sc:Nat)(w:World)(h:SeAt w L k g (.num n))(hn0:-1000000000000000≤n)(hn1:n≤1000000000000000)(h0:-999999999≤v)(h1:v≤999999999):
  Calls Tryz.prog 188 #[.pointer (some ⟨g.X,0,none⟩),smp nb ⟨#[103]⟩ true v wb r (.slice sa sl sc)] w fun e w'=>
   e=.returned (.bool true)∧Off (gf g (.num n)) w w'∧SeAt w' L k g (.num (bnd (v+n))):=by
 unfold smp;obtain⟨kb,hk,hs⟩:=h;have HK:=hide hk;have hbd:=bounded;have HN:=hide (hs.alloc (.cells #[.string nb,.string ⟨#[103]⟩,.bool true,.int .i64 v,.string wb,.int .i64 r,.slice sa sl sc] 80));obtain⟨c0,c1,c2,c3,f0,f1,f2,f3⟩:=head4 HN.out;clear hk hs c0 c2 c3 f0 f2 f3;go_enter Tryz.func188,Tryz.ntmps188
 go_wp2_with (go_at_call 249;refine(hbd _ _).mono ?_;rintro e w' ⟨rfl,rfl⟩)
 go_ret
 refine⟨rfl,(Off.of_below (below_new _)).set (by simp[gf]) _ _,kb,HK.out,?_⟩;exact HN.out.set 1 _
theorem take_g (L:Lim)(k:Bs)(g:Gh)(n:Int)(nb wb:ByteArray)(v r:Int)(sa:Option Addr)(sl sc:Nat)(w:World)(h:SeAt w L k g (.num n)):
  Calls Tryz.prog 188 #[.pointer (some ⟨g.X,0,none⟩),smp nb ⟨#[103]⟩ false v wb r (.slice sa sl sc)] w fun e w'=>
   e=.returned (.bool true)∧Off (gf g (.num n)) w w'∧SeAt w' L k g (.num (bnd (v))):=by
 unfold smp;obtain⟨kb,hk,hs⟩:=h;have HK:=hide hk;have hbd:=bounded;have HN:=hide (hs.alloc (.cells #[.string nb,.string ⟨#[103]⟩,.bool false,.int .i64 v,.string wb,.int .i64 r,.slice sa sl sc] 80));obtain⟨c0,c1,c2,c3,f0,f1,f2,f3⟩:=head4 HN.out;clear hk hs c0 c2 c3 f0 f2 f3;go_enter Tryz.func188,Tryz.ntmps188
 go_wp2_with (go_at_call 249;refine(hbd _ _).mono ?_;rintro e w' ⟨rfl,rfl⟩)
 go_ret
 refine⟨rfl,(Off.of_below (below_new _)).set (by simp[gf]) _ _,kb,HK.out,?_⟩;exact HN.out.set 1 _
theorem seTake (L:Lim)(n:Nat)(k l:Bs)(g:Gh)(s:Ser)(m:Opts.Smp)(nb kb wb:ByteArray)(sa:Option Addr)(sl sc:Nat)(w:World)(h:SeAt w L k g s)(hf:SFit L n k s)(hr:Opts.rd l=some m)(hk:kindOf k=m.kind)(hkb:Bytes.B kb=m.kind)(hwb:Bytes.B wb=m.word)
  (hn:n≤1000000000000000) (hL:2≤L.buckets) (hL':L.buckets≤64) (hS:L.sets<1000):
  Calls Tryz.prog 188 #[.pointer (some ⟨g.X,0,none⟩),smp nb kb m.signed m.value wb m.rate (.slice sa sl sc)] w fun e w'=>
   e=.returned (.bool (stake L m s).2)∧Off (gf g s) w w'∧SeAt w' L k g (stake L m s).1:=by
 obtain⟨_,_,hw1,⟨hv0,hv1⟩,⟨hr0,hr1⟩,_⟩:=Bounds.rd_short hr;obtain⟨_,hkd⟩:=rd_kind hr;have hkk:=hf.kind;rw[hk]at hkk;cases s with
 | num x=>
  have hx:-1000000000000000≤x∧x≤1000000000000000:=hf.ok;have hkk:m.kind=[99]∨m.kind=[103]:=hkk;rcases hkk with e|e
  ·rw[e]at hkb;obtain rfl:kb=⟨#[99]⟩:=Bytes.B_inj hkb;have e2:stake L m (.num x)=(.num (bnd ((m.value*1000).tdiv m.rate+x)),true):=by simp[stake,e]
   rw[e2];exact take_c L k g x nb wb m.signed m.value m.rate sa sl sc w h hx.1 hx.2 hv0 hv1 hr0 hr1
  ·rw[e]at hkb;obtain rfl:kb=⟨#[103]⟩:=Bytes.B_inj hkb;cases hs:m.signed with
   | true=>
    have e2:stake L m (.num x)=(.num (bnd (m.value+x)),true):=by simp[stake,e,hs]
    rw[e2];exact take_d L k g x nb wb m.value m.rate sa sl sc w h hx.1 hx.2 hv0 hv1
   | false=>
    have e2:stake L m (.num x)=(.num (bnd m.value),true):=by simp[stake,e,hs]
    rw[e2];exact take_g L k g x nb wb m.value m.rate sa sl sc w h
 | set ws=>
  have e:m.kind=[115]:=hkk;rw[e]at hkb;obtain rfl:kb=⟨#[115]⟩:=Bytes.B_inj hkb;have hws:ws.length≤L.sets:=hf.ok.2;have e2:stake L m (.set ws)=(.set (wadd L.sets (Bytes.B wb) ws).1,(wadd L.sets (Bytes.B wb) ws).2):=by
   rw[hwb];simp only[stake,wadd];split
   ·rfl
   ·split<;>rfl
  rw[e2];exact take_set L k g ws nb wb m.signed m.value m.rate sa sl sc w h (by omega) (by rw[Bytes.size_B,hwb];omega)
 | tim t=>
  have e:m.kind=[109,115]:=hkk;have h0:0≤m.value:=by
   rcases hkd with e'|e'|e'|⟨_,e'⟩
   ·rw[e]at e';cases e'
   ·rw[e]at e';cases e'
   ·rw[e]at e';cases e'
   ·exact e'
  rw[e]at hkb;obtain rfl:kb=⟨#[109,115]⟩:=Bytes.B_inj hkb;exact take_tim L n k g t nb wb m.signed m.value m.rate sa sl sc w h hf.ok hn hL hL' h0 hv1 hr0 hr1
end Go.Proofs.YtenegfafjjknoaaGreatDoor.Hn
namespace Go.Proofs.YtenegfafjjknoaaGreatDoor.Sh
open Go.RowKit Go.Maps Mem Foot Im Wm Hk Hb Hi Plainw Cq Hs
def pv (x:Nat):Value:=.pointer (some ⟨x,0,none⟩)
def okP:Value→Bool
 | .pointer _=>true
 | _=>false
theorem zeroP (w:World):(zeroValue 141).run Tryz.prog w=.ok (.pointer none) w:=Tryz.zeroValue141 w
def idx (n:Nat)(k:Bs):Nat:=(hsh k % (n:Int)).toNat
def part (n i:Nat)(ent:List (Bs×Nat)):List (Bs×Nat):=ent.filter fun p=>idx n p.1==i
theorem idx_lt {n:Nat}(h:0<n)(k:Bs):idx n k<n:=by
 unfold idx;have h1:=Int.emod_nonneg (hsh k) (show (n:Int)≠0 by omega);have h2:=Int.emod_lt_of_pos (hsh k) (show (0:Int)<n by omega);omega
structure ShAt (w:World)(M R:Nat)(bs:List Nat)(ent:List (Bs×Nat)):Prop where
 head:Sits w M 201 #[.slice (some ⟨R,0,none⟩) bs.length bs.length,.int .i64 (ent.length:Int)]
 row:Sits w R 198 (bs.map fun b=>Value.map (some b)).toArray
 maps:∀i b,bs[i]? = some b→Owns Tryz.prog 9 okP sLit pv w b (part bs.length i ent)
 nodup:bs.Nodup
 pos:0<bs.length
 most:bs.length≤16
def shf (M R:Nat)(bs:List Nat):List Nat:=M ::R ::bs
theorem ShAt.off {F:List Nat}{w w':World}{M R:Nat}{bs:List Nat}{ent:List (Bs×Nat)}(h:ShAt w M R bs ent)(ho:Off F w w')(hF:∀x∈shf M R bs,x∉F):ShAt w' M R bs ent:=
 ⟨Foot.Sits.off h.head ho (hF M (by simp[shf])),Foot.Sits.off h.row ho (hF R (by simp[shf])),fun i b hb=>Owns.at (h.maps i b hb) (ho.block b (h.maps i b hb).below (hF b (by simp only[shf,uC];exact Or.inr (Or.inr (List.mem_of_getElem? hb))))),h.nodup,h.pos,h.most⟩
theorem ShAt.keep {w w':World}{M R:Nat}{bs:List Nat}{ent:List (Bs×Nat)}(h:ShAt w M R bs ent)(hb:Below w.heap.size w w'):ShAt w' M R bs ent:=
 h.off (F:=[]) (Off.of_below hb) (by simp)
theorem ShAt.lt {w:World}{M R:Nat}{bs:List Nat}{ent:List (Bs×Nat)}(h:ShAt w M R bs ent):∀x∈shf M R bs,x<w.heap.size:=by
 intro x hx;simp only[shf,uC]at hx;rcases hx with rfl|rfl|hx
 ·exact h.head.lt
 ·exact h.row.lt
 ·obtain⟨i,hi⟩:=uH hx;exact(h.maps i x hi).below
theorem ShAt.cell {w:World}{M R:Nat}{bs:List Nat}{ent:List (Bs×Nat)}(h:ShAt w M R bs ent){i b:Nat}(hb:bs[i]? = some b):w.cell? ⟨R,i,none⟩=some (.map (some b)):=
 h.row.cell i _ (by simp[hb])
theorem len (M R:Nat)(bs:List Nat)(ent:List (Bs×Nat))(w:World)(h:ShAt w M R bs ent):Calls Tryz.prog 244 #[.pointer (some ⟨M,0,none⟩)] w fun e w'=>e=.returned (.int .i64 (ent.length:Int))∧w'=w:=by
 have c1:=h.head.cell 1 _ rfl;go_enter Tryz.func244,Tryz.ntmps244
 go_wp2_with fail
 go_ret
 exact⟨rfl,rfl⟩
theorem shardOf (M R:Nat)(bs:List Nat)(ent:List (Bs×Nat))(s:ByteArray)(hs:s.size≤1000)(w:World)(h:ShAt w M R bs ent)(b:Nat)(hb:bs[idx bs.length (Bytes.B s)]? = some b):
  Calls Tryz.prog 294 #[.pointer (some ⟨M,0,none⟩),.string s] w fun e w'=>e=.returned (.map (some b))∧Below w.heap.size w w':=by
 have C0:∀s:Bw w,s.val.cell? ⟨M,0,none⟩=some (.slice (some ⟨R,0,none⟩) bs.length bs.length):=fun s=>(h.keep s.is).head.cell 0 _ rfl
 have hp:=h.pos;have hm:=h.most;have hi:=idx_lt hp (Bytes.B s);obtain⟨x0,x1⟩:=hsh_range (Bytes.B s);have CR:∀s':Bw w,s'.val.cell? ⟨R,idx bs.length (Bytes.B s),none⟩=some (.map (some b)):=fun s'=>(h.keep s'.is).cell hb
 have HH:=hide (fun s':Bw w=>call_cls (v:=.int .u32 (hsh (Bytes.B s))) ((hashW s hs s'.val).mono fun e w' ⟨h1,h2⟩=>⟨h1,by rw[h2];exact Below.refl _ _⟩));have hie:idx bs.length (Bytes.B s)=(hsh (Bytes.B s) % (bs.length:Int)).toNat:=rfl;clear h hb;generalize hsh (Bytes.B s)=x at *;generalize bs.length=n at *;obtain⟨j,hj⟩:∃j:Nat,x % (n:Int)=(j:Int):=⟨(x % (n:Int)).toNat,by
  have:=Int.emod_nonneg x (show (n:Int)≠0 by omega);omega⟩
 have hje:idx n (Bytes.B s)=j:=by rw[hie,hj];rfl
 rw[hje]at hi CR;have hjz:(j:Int)<(n:Int):=by omega
 clear hie hje;have e1:(n:Int) % 4294967296=n:=by omega
 have hz:¬(n:Int)=0:=by omega
 go_enter Tryz.func294,Tryz.ntmps294
 go_wp2_with fail
 refine region_cls (by kernel_rfl) (by kernel_rfl) ?_;repeat (first
  | go_big_quiet_skip
  | (go_big_quiet_want;go_big_quiet_op;first|go_big_quiet_on|(apply Exists.intro;refine⟨fun _=>?_,?_⟩;exact HH.out _;go_big_quiet_on)))
 refine wpQuiet_nil ?_;rintro _ ⟨s',rfl⟩;go_wp2_with fail
 go_ret
 exact⟨rfl,s'.is⟩
end Go.Proofs.YtenegfafjjknoaaGreatDoor.Sh
namespace Go.Proofs.YtenegfafjjknoaaGreatDoor.Sh
open Go.RowKit Go.Maps Mem Foot Im Wm Hk Hb Hi Plainw Cq Hs
theorem getE_filter {κ β:Type}[DecidableEq κ]{p:κ×β→Bool}{k:κ}(hp:∀x:κ×β,x.1=k→p x=true)(l:List (κ×β)):getE k (l.filter p)=getE k l:=by
 induction l with
 | nil=>rfl
 | cons x r ih=>
  by_cases h:x.1=k
  ·rw[uA (hp x h),getE_cons_eq h,getE_cons_eq h]
  ·rw[getE_cons_ne h];by_cases h2:p x=true
   ·rw[uA h2,getE_cons_ne h,ih]
   ·rw[uB h2,ih]
theorem getE_part (n:Nat)(k:Bs)(ent:List (Bs×Nat)):getE k (part n (idx n k) ent)=getE k ent:=
 getE_filter (fun x hx=>by simp[hx]) ent
theorem filter_ins {κ β:Type}{lt:κ→κ→Bool}(htr:∀a b c,lt a b=true→lt b c=true→lt a c=true){p:κ×β→Bool}{x:κ×β}{l:List (κ×β)}(h:Up lt l):(ins lt x l).filter p=if p x then ins lt x (l.filter p) else l.filter p:=by
 induction l with
 | nil=>
  by_cases hp:p x=true
  ·simp[ins,hp]
  ·simp[ins,hp]
 | cons y r ih=>
  obtain⟨h1,h2⟩:=List.pairwise_cons.1 h;rw[ins];by_cases hl:lt x.1 y.1=true
  ·rw[if_pos hl];by_cases hp:p x=true
   ·rw[uA hp,if_pos hp];cases hf:(y ::r).filter p with
    | nil=>rfl
    | cons z q=>
     have hz:z∈y ::r:=by
      have:z∈(y ::r).filter p:=by rw[hf];exact List.mem_cons_self ..
      exact(List.mem_filter.1 this).1
     have hlt:lt x.1 z.1=true:=by
      rcases uC.1 hz with e|e
      ·rw[e];exact hl
      ·exact htr _ _ _ hl (h1 z e)
     rw[ins,if_pos hlt]
   ·rw[uB hp,if_neg hp]
  ·rw[if_neg hl];by_cases hy:p y=true
   ·rw[uA hy,ih h2,uA hy];by_cases hp:p x=true
    ·rw[if_pos hp,if_pos hp,ins,if_neg hl]
    ·rw[if_neg hp,if_neg hp]
   ·rw[uB hy,ih h2,uB hy]
theorem part_put {n:Nat}{k:Bs}{x:Nat}{ent:List (Bs×Nat)}(hu:Up sLt ent)(hk:getE k ent=none)(i:Nat):part n i (put sLt k x ent)=if idx n k=i then put sLt k x (part n i ent) else part n i ent:=by
 have h1:has k ent=false:=by rw[has_getE,hk];rfl
 have e1:put sLt k x ent=ins sLt (k,x) ent:=by rw[put,del_of_not k ent h1]
 have h2:has k (part n i ent)=false:=by
  rw[has_false];intro hm;obtain⟨p,hp,e⟩:=List.mem_map.1 hm;exact(has_false k ent).1 h1 (List.mem_map.2 ⟨p,(List.mem_filter.1 hp).1,e⟩)
 have e2:put sLt k x (part n i ent)=ins sLt (k,x) (part n i ent):=by rw[put,del_of_not k _ h2]
 rw[e1,e2];unfold part;rw[filter_ins sLt_trans hu];simp
theorem nodup_idx {l:List Nat}(h:l.Nodup){i j b:Nat}(hi:l[i]? = some b)(hj:l[j]? = some b):i=j:=by
 rw[List.nodup_iff_pairwise_ne,List.pairwise_iff_getElem]at h;obtain⟨i1,e1⟩:=uF.1 hi;obtain⟨j1,e2⟩:=uF.1 hj;rcases Nat.lt_trichotomy i j with h1|h1|h1
 ·exact absurd (e1.trans e2.symm) (h i j i1 j1 h1)
 ·exact h1
 ·exact absurd (e2.trans e1.symm) (h j i j1 i1 h1)
theorem get (M R:Nat)(bs:List Nat)(ent:List (Bs×Nat))(s:ByteArray)(hs:s.size≤1000)(w:World)(h:ShAt w M R bs ent):
  Calls Tryz.prog 243 #[.pointer (some ⟨M,0,none⟩),.string s] w fun e w'=>e=.returned (.tuple #[Im.elemOf pv (.pointer none) (Bytes.B s) ent,.bool (has (Bytes.B s) ent)])∧Below w.heap.size w w':=by
 obtain⟨b,hb⟩:∃b,bs[idx bs.length (Bytes.B s)]? = some b:=⟨_,uG (idx_lt h.pos _)⟩;have hsh:=shardOf M R bs ent s hs w h b hb;have hkey:keyOf Tryz.prog 9 (.string s)=some (sLit (Bytes.B s)):=Go.WideMaps.keyOf_string_mk Tryz.underlying9 (by unfold maxLen;omega);have hlk:=look_ok_run (h.maps _ b hb) (string_keyed Tryz.underlying9) Tryz.underlying198 zeroP rfl sLit_same hkey;have e1:Im.elemOf pv (.pointer none) (Bytes.B s) (part bs.length (idx bs.length (Bytes.B s)) ent)=Im.elemOf pv (.pointer none) (Bytes.B s) ent:=by
  unfold Im.elemOf;rw[getE_part]
 have e2:has (Bytes.B s) (part bs.length (idx bs.length (Bytes.B s)) ent)=has (Bytes.B s) ent:=by rw[has_getE,has_getE,getE_part]
 rw[e1,e2]at hlk;have hbl:=(h.maps _ b hb).below;obtain⟨q,hq⟩:∃q,Im.elemOf pv (.pointer none) (Bytes.B s) ent=.pointer q:=by
  unfold Im.elemOf;split
  ·exact⟨_,rfl⟩
  ·exact⟨_,rfl⟩
 rw[hq]at hlk ⊢;generalize has (Bytes.B s) ent=hh at *;clear h hq e1 e2;go_enter Tryz.func243,Tryz.ntmps243
 go_wp2_with fail
 refine hsh.mono ?_;clear hsh;rintro e w1 ⟨rfl,hb1⟩;have hl1:=hlk w1 (hb1.block b hbl);have HB:=hide hb1;clear hlk hb1;go_wp2_with fail
 go_ret2
 exact⟨rfl,HB.out⟩
theorem put_ (M R:Nat)(bs:List Nat)(ent:List (Bs×Nat))(s:ByteArray)(x:Nat)(hs:s.size≤1000)(w:World)(h:ShAt w M R bs ent)(hu:Up sLt ent)(hk:getE (Bytes.B s) ent=none)(hl:ent.length<1000):
  Calls Tryz.prog 246 #[.pointer (some ⟨M,0,none⟩),.string s,.pointer (some ⟨x,0,none⟩)] w fun e w'=>e=.returned (.tuple #[])∧Off (shf M R bs) w w'∧ShAt w' M R bs (put sLt (Bytes.B s) x ent):=by
 obtain⟨b,hb⟩:∃b,bs[idx bs.length (Bytes.B s)]? = some b:=⟨_,uG (idx_lt h.pos _)⟩;have hsh:=shardOf M R bs ent s hs w h b hb;have hkey:keyOf Tryz.prog 9 (.string s)=some (sLit (Bytes.B s)):=Go.WideMaps.keyOf_string_mk Tryz.underlying9 (by unfold maxLen;omega);have hpl:(part bs.length (idx bs.length (Bytes.B s)) ent).length≤ent.length:=List.length_filter_le _ _;have hpk:getE (Bytes.B s) (part bs.length (idx bs.length (Bytes.B s)) ent)=none:=by rw[getE_part,hk]
 have hpn:=put_length_none (lt:=sLt) (b':=x) hpk;have HS:=hide h;have HBs:=hide hb;have HU:=hide hu;have HK:=hide hk;clear h hb hu hk;go_enter Tryz.func246,Tryz.ntmps246
 go_wp2_with fail
 refine hsh.mono ?_;clear hsh;rintro e w1 ⟨rfl,hb1⟩;have HS1:=hide (HS.out.keep hb1);have HB1:=hide hb1;have hm1:=HS1.out.maps _ b HBs.out;have hlen:=fun ty=>len_run hm1 Tryz.underlying198 ty w1 rfl
 obtain⟨w4,hu4,ho4,hg4⟩:=upd_run (lt:=sLt) hm1 (string_keyed Tryz.underlying9) Tryz.underlying198 sLit_same sLit_before (by unfold maxLen;omega) hkey x rfl;simp only[pv]at hu4;have HO4:=hide ho4;have HG4:=hide hg4;have hlen4:=fun ty=>len_run ho4 Tryz.underlying198 ty w4.drew rfl
 rw[hpn]at hlen4;have hMb:M≠b:=map_sits hm1 HS1.out.head;have HH4:=hide (Foot.Sits.off HS1.out.head (grown_off' (F:=[b]) hg4 (by simp)) (by simpa using hMb));have c1:=HH4.out.cell 1 _ rfl;have f1:=HH4.out.frozen 1;generalize (part bs.length (idx bs.length (Bytes.B s)) ent).length=np at *;clear hb1 hm1 ho4 hg4 hpk hpn;go_wp2_with fail
 go_region
 all_goals
  go_wp2_with fail
  go_end0
  have hMR:R≠M:=sits_ne HS1.out.row HS1.out.head (by decide);have hRb:R≠b:=map_sits (HS1.out.maps _ b HBs.out) HS1.out.row;have e0:(ent.length:Int)+((np:Int)+1 - np)=((put sLt (Bytes.B s) x ent).length:Int):=by
   rw[put_length_none HK.out];omega
  rw[e0];have hbm:b∈shf M R bs:=by
   simp only[shf,uC];exact Or.inr (Or.inr (List.mem_of_getElem? HBs.out))
  refine⟨rfl,?_,?_⟩
  ·exact(((Off.of_below HB1.out).trans (grown_off' HG4.out hbm)).set (by simp[shf]) _ _).drewN 1
  ·have hW:∀k,k≠b→k≠M→k<w1.heap.size→(w4.setCell ⟨M,1,none⟩ (.int .i64 ((put sLt (Bytes.B s) x ent).length:Int))).drew.heap[k]? = w1.heap[k]? :=fun k h1 h2 h3=>
    (Below.heap_setCell _ _ _ _ h2).trans (HG4.out.block k h3 (by simpa using h1))
   refine⟨HH4.out.set 1 _,?_,fun i b' hb'=>?_,HS1.out.nodup,HS1.out.pos,HS1.out.most⟩
   ·exact(hW R hRb hMR HS1.out.row.lt).trans HS1.out.row
   ·rw[part_put HU.out HK.out];by_cases hi:idx bs.length (Bytes.B s)=i
    ·rw[if_pos hi];have hbb:b'=b:=by
      have h1:=HBs.out;rw[hi,hb']at h1;exact Option.some.inj h1
     subst hbb;subst hi;exact Owns.at HO4.out (Below.heap_setCell _ _ _ _ (fun e=>hMb e.symm))
    ·rw[if_neg hi];have hne:b'≠b:=fun e=>hi (by
      subst e;exact nodup_idx HS1.out.nodup HBs.out hb')
     have hM':M≠b':=map_sits (HS1.out.maps i b' hb') HS1.out.head;exact Owns.at (HS1.out.maps i b' hb') (hW b' hne (fun e=>hM' e.symm) (HS1.out.maps i b' hb').below)
end Go.Proofs.YtenegfafjjknoaaGreatDoor.Sh
namespace Go.Proofs.YtenegfafjjknoaaGreatDoor.Sh
open Go.RowKit Go.Maps Mem Foot Im Wm Hk Hb Hi Plainw Cq Hs
theorem infoMap:(Tryz.prog.info? 198).map (fun i=>(i.zero,i.size,i.bytes))=some (some (.map none),1,8):=by kernel_rfl
def Making (w wr:World)(R n k:Nat):Prop:=∃(cs:Array Value) (bs:List Nat),Sits wr R 198 cs∧cs.size=n∧bs.length=k∧(∀(i b:Nat),bs[i]? = some b→cs[i]? = some (Value.map (some b))∧w.heap.size+2≤b∧Owns Tryz.prog 9 okP sLit pv wr b ([]:List (Bs×Nat)))∧bs.Nodup∧
 Sits wr (w.heap.size+1) 201 #[.slice (some ⟨R,0,none⟩) n n,.int .i64 0]∧Below w.heap.size w wr∧w.heap.size+2≤wr.heap.size
set_option maxRecDepth 10000 in
theorem new_ (n:Nat)(h1:1≤n)(h2:n≤16)(w:World):
  Calls Tryz.prog 140 #[.int .i64 (n:Int)] w fun e w'=>∃bs:List Nat,e=.returned (.pointer (some ⟨w.heap.size+1,0,none⟩))∧bs.length=n∧ShAt w' (w.heap.size+1) w.heap.size bs []∧(∀x∈shf (w.heap.size+1) w.heap.size bs,w.heap.size≤x)∧Below w.heap.size w w':=by
 obtain⟨cs0,hcs0,hmk⟩:=made 199 198 _ 8 Tryz.underlying199 infoMap n (by omega) (by omega) w;have hmm:=@run_makeMap Tryz.prog;have hmx:max (n:Int) 1=n:=by omega
 have HM0:=hide (show Making w ((w.alloc (.cells cs0 198)).alloc (.cells #[.slice (some ⟨w.heap.size,0,none⟩) n n,.int .i64 0] 201)) w.heap.size n 0 from
  ⟨cs0,[],(Sits.new w _ _).alloc _,hcs0,rfl,by simp,List.nodup_nil,by
   have:=Sits.new (w.alloc (.cells cs0 198)) 201 #[.slice (some ⟨w.heap.size,0,none⟩) n n,.int .i64 0];simpa using this,(below_new _).alloc (by simp) _,by simp⟩)
 go_enter Tryz.func140,Tryz.ntmps140
 go_wp2_with fail
 generalize (w.alloc (.cells cs0 198)).alloc (.cells #[.slice (some ⟨w.heap.size,0,none⟩) n n,.int .i64 0] 201)=w0 at *;have c0:w0.cell? ⟨w.heap.size+1,0,none⟩=some (.slice (some ⟨w.heap.size,0,none⟩) n n):=by
  obtain⟨_,_,_,_,_,_,_,h,_⟩:=HM0.out;exact h.cell 0 _ rfl
 clear hmk hmx;go_wp2_with fail
 go_loopw [15] (fun i wr=>∃k:Nat,i=.int .i64 (k:Int)∧k≤n∧Hid (Making w wr w.heap.size n k)) (fun i _=>n - (intOf i).toNat)
 case atStart=>exact⟨0,rfl,by omega,HM0.out⟩
 case round=>
  obtain⟨k,rfl,hk,HI⟩:=hrel;by_cases hkn:k<n
  ·have hkz:(k:Int)<(n:Int):=by omega
   obtain⟨cs,bs,hS,hsz,hbl,hbs,hnd,hM,hB,hZ⟩:=HI.out;have d0:=hM.cell 0 _ rfl;have hSa:=hS.alloc (.map #[] 0);have ck:=hSa.cell k (cs[k]'(by omega)) (by simp[hsz,hkn]);have fk:=hSa.frozen k;have d1:=(hM.alloc (.map #[] 0)).cell 0 _ rfl;have HS:=hide hS;have HBS:=hide hbs;have HND:=hide hnd;have HM:=hide hM;have HB:=hide hB;clear hS hbs hnd hM hB hSa c0;go_wp2_with fail
   go_roundw
   case rel=>
    refine⟨k+1,by go_num,by omega,_,bs++[wr.heap.size],(HS.out.alloc _).set k _,by simp[hsz],by simp[hbl],fun i b hb=>?_,?_,?_,?_,?_⟩
    ·have hRb:wr.heap.size≠w.heap.size:=by omega
     by_cases hi:i<bs.length
     ·rw[List.getElem?_append_left hi]at hb;obtain⟨e1,e2,e3⟩:=HBS.out i b hb;refine⟨?_,e2,?_⟩
      ·rw[Array.getElem?_setIfInBounds_ne (by omega)];exact e1
      ·refine Owns.at e3 ((Below.heap_setCell _ _ _ _ (by simp;omega)).trans (Below.heap_alloc _ _ _ e3.below))
     ·have hi2:i=bs.length:=by
       have:=(uF.1 hb).1;simp at this
       omega
      subst hi2;rw[List.getElem?_append_right (Nat.le_refl _),Nat.sub_self]at hb;cases hb
      refine⟨by rw[hbl];simp[hsz,hkn],hZ,?_⟩;exact Owns.at (made_owns wr) (Below.heap_setCell _ _ _ _ hRb)
    ·rw[List.nodup_append];refine⟨HND.out,by simp,fun a ha b hb=>?_⟩;simp at hb
     subst hb;obtain⟨i,hi⟩:=uH ha;have:=(HBS.out i a hi).2.2.below;omega
    ·have ho:Off [w.heap.size] (wr.alloc (.map #[] 0)) ((wr.alloc (.map #[] 0)).setCell ⟨w.heap.size,k,none⟩ (.map (some wr.heap.size))):=(Off.refl _ _).set (by simp) _ _;exact Foot.Sits.off (HM.out.alloc _) ho (by simp)
    ·exact(HB.out.alloc (by omega) _).setCell (p:=⟨w.heap.size,k,none⟩) (by simp) _
    ·simp
     omega
   case measure=>simp only[intOf];omega
  ·have hkz:¬(k:Int)<(n:Int):=by omega
   have hk2:k=n:=by omega
   subst hk2;obtain⟨cs,bs,hS,hsz,hbl,hbs,hnd,hM,hB,hZ⟩:=HI.out;have d0:=hM.cell 0 _ rfl;have HF:=hide (show ShAt wr (w.heap.size+1) w.heap.size bs []∧(∀x∈shf (w.heap.size+1) w.heap.size bs,w.heap.size≤x) by
    refine⟨⟨by rw[hbl];exact hM,?_,fun i b hb=>(hbs i b hb).2.2,hnd,by omega,by omega⟩,fun x hx=>?_⟩
    ·have e:cs=(bs.map fun b=>Value.map (some b)).toArray:=by
      apply Array.ext_getElem?
      intro i;by_cases hi:i<bs.length
      ·rw[(hbs i _ (uG hi)).1];simp[hi]
      ·rw[Array.getElem?_eq_none (by omega),List.getElem?_toArray,List.getElem?_eq_none (by simp;omega)]
     rw[←e];exact hS
    ·simp only[shf,uC]at hx;rcases hx with rfl|rfl|hx
     ·omega
     ·omega
     ·obtain⟨i,hi⟩:=uH hx;have:=(hbs i x hi).2.1;omega)
   have HB:=hide hB;have HL:=hide hbl;clear hS hbs hnd hM hB hbl c0 hsz;go_wp2_with fail
   go_ret
   exact⟨rfl,bs,HL.out,HF.out.1,HF.out.2,HB.out⟩
end Go.Proofs.YtenegfafjjknoaaGreatDoor.Sh
