/- The document's timers. What the document tells of a series. The document's window in memory. The document's window takes a sample. -/
import Derived.Test.YtenegfafjjknoaaGreatDoorRbx
import Derived.Deep.CutRange
set_option maxHeartbeats 100000000
open List renaming mem_singleton → uA, mem_cons_self → uB, getElem?_eq_getElem → uC, length_append → uD, getElem?_eq_some_iff → uE, getElem?_append_right → uF, getElem?_append_left → uG, mem_cons_of_mem → uH, mem_of_getElem? → uI, getElem?_set_self → uJ, take_length → uL, getElem?_set_ne → uM, length_set → uO
open Nat renaming le_trans → uK, le_refl → uN
namespace Go.Proofs.YtenegfafjjknoaaGreatDoor.Ra
open Go.RowKit Mem Foot Bytes Wm Im
noncomputable def timOf (most:Nat)(l:List Sx):Tim:=l.foldl (fun t x=>tadd most t x.v (1000 / x.r)) ⟨0,0,0,0,[],false⟩
theorem timOf_next {most:Nat}{l:List Sx}{k:Nat}{x:Sx}(hx:l[k]? = some x):timOf most (l.take (k+1))=tadd most (timOf most (l.take k)) x.v (1000 / x.r):=by
 unfold timOf;rw[List.take_add_one,hx,List.foldl_append];rfl
def Tsx (x:Sx):Prop:=0≤x.v∧x.v≤999999999∧1≤x.r∧x.r≤1000
theorem wt_fit {r:Int}(h1:1≤r)(h2:r≤1000):1≤1000 / r∧1000 / r≤1000:=by
 have a:1000 / r≤1000:=Int.ediv_le_self r (by omega);have b:1≤1000 / r:=by
  rw[Int.le_ediv_iff_mul_le (by omega)];omega
 exact⟨b,a⟩
theorem timOf_fit {most:Nat}(hm:2≤most)(l:List Sx)(h:∀x∈l,Tsx x):TFit ⟨0,0,most⟩ l.length (timOf most l)∧Std (timOf most l).cells∧(l≠[]→1≤(timOf most l).count):=by
 have key:∀(r:List Sx) (n:Nat) (t:Tim),(∀x∈r,Tsx x)→TFit ⟨0,0,most⟩ n t→Std t.cells→(n≠0→1≤t.count)→TFit ⟨0,0,most⟩ (n+r.length) (r.foldl (fun t x=>tadd most t x.v (1000 / x.r)) t)∧Std (r.foldl (fun t x=>tadd most t x.v (1000 / x.r)) t).cells∧(n+r.length≠0→1≤(r.foldl (fun t x=>tadd most t x.v (1000 / x.r)) t).count):=by
  intro r
  induction r with
  | nil=>intro n t _ h1 h2 h3;exact⟨h1,h2,h3⟩
  | cons x r ih=>
   intro n t hr h1 h2 h3;obtain⟨a,b,c,d⟩:=hr x (uB ..);obtain⟨e,f⟩:=wt_fit c d;have g:=ih (n+1) (tadd most t x.v (1000 / x.r)) (fun y hy=>hr y (uH _ hy)) (h1.add hm a b e f) (h2.tadd a b) (fun _=>by
    have:=h1.count;simp only[tadd,bnd,top]at this ⊢;omega)
   rw[List.foldl_cons,List.length_cons];rw[show n+(r.length+1)=n+1+r.length by omega];exact g
 have:=key l 0 ⟨0,0,0,0,[],false⟩ h (TFit.zero _ _) (fun c hc=>by cases hc) (fun h=>absurd rfl h);rw[Nat.zero_add]at this;exact⟨this.1,this.2.1,fun hl=>this.2.2 (by intro e;exact hl (List.eq_nil_of_length_eq_zero e))⟩
theorem psum_le {l:List (Int×Cel)}(h:∀c∈l,0≤c.2.weight)(k:Nat):0≤psum (l.take k)∧psum (l.take k)≤tot l:=by
 induction l generalizing k with
 | nil=>simp[psum,tot]
 | cons x r ih=>
  have hx:=h x (uB ..);have h2:=ih (fun c hc=>h c (uH _ hc));cases k with
  | zero=>
   have:=h2 0;simp only[List.take_zero,psum,List.map_nil,List.sum_nil,tot]at this ⊢;omega
  | succ k=>
   have:=h2 k;simp only[List.take_succ_cons,psum,List.map_cons,List.sum_cons,tot]at this ⊢;omega
theorem weight_le {l:List (Int×Cel)}(h:∀c∈l,0≤c.2.weight):∀c∈l,c.2.weight≤tot l:=by
 induction l with
 | nil=>intro c hc;cases hc
 | cons x r ih=>
  intro c hc;have hx:=h x (uB ..);have h0:=(psum_le (l:=r) (fun c hc=>h c (uH _ hc)) 0);have h1:=psum_le (l:=r) (fun c hc=>h c (uH _ hc)) r.length;simp only[tot];rcases List.mem_cons.1 hc with rfl|hc
  ·omega
  ·have:=ih (fun c hc=>h c (uH _ hc)) c hc;omega
def flag (b:Bool):ByteArray:=if b then ⟨#[49]⟩ else ⟨#[48]⟩
theorem timer_text (t:Tim)(a b c d e f g:List UInt8)(ha:a=Lib.itoa t.count)(hb:b=Lib.itoa t.sum)(hc:c=Lib.itoa t.least)(hd:d=Lib.itoa t.greatest)(he:e=Lib.itoa (quant t 50))(hf:f=Lib.itoa (quant t 90))(hg:g=Lib.itoa (quant t 99)):
  a++[32]++b++[32]++c++[32]++d++[32]++e++[32]++f++[32]++g++[32]++B (flag t.folded)=stext (.tim t):=by
 have hfl:B (flag t.folded)=Lib.itoa (if t.folded then 1 else 0):=by
  cases t.folded<;>decide +kernel
 simp only[stext,tnums,List.map_cons,List.map_nil,Lib.join,ha,hb,hc,hd,he,hf,hg,hfl];simp
theorem digitsC (v:Int)(h0:-9223372036854775808≤v)(h1:v≤9223372036854775807)(w:World):
  Calls Tryz.prog 96 #[.int .i64 v] w fun e w'=>(∃z,e=.returned (.string z)∧B z=Lib.itoa v∧z.size≤21)∧Below w.heap.size w w':=
 (show Calls _ _ _ _ _ from digits v h0 h1 w).mono fun e w' ⟨⟨z,h1',h2⟩,hb⟩=>⟨⟨z,h1',h2,by
  rw[Bytes.size_B,h2];unfold Lib.itoa;split
  ·have:=Plain.nd_le 18 v.natAbs (by omega);rw[List.length_cons,Lib.decDigits_length];omega
  ·have:=Plain.nd_le 18 v.toNat (by omega);rw[Lib.decDigits_length];omega⟩,hb⟩
theorem fit_sum {most n:Nat}{t:Tim}(h:TFit ⟨0,0,most⟩ n t)(hn:n≤100000000):(∀p∈t.cells,0≤p.2.weight∧p.2.weight≤1000000000000000000)∧∀k,k≤t.cells.length→0≤psum (t.cells.take k)∧psum (t.cells.take k)≤1000000000000000000:=by
 have h0:∀c∈t.cells,0≤c.2.weight:=fun c hc=>(h.cel c hc).2.2.2.2
 have ht:=h.tot;refine⟨fun p hp=>⟨h0 p hp,?_⟩,fun k _=>?_⟩
 ·have:=weight_le h0 p hp;omega
 ·have:=psum_le h0 k;omega
theorem ends_next {most:Nat}{l:List Sx}{k:Nat}{x x0:Sx}{le gr:Int}(hx:l[k]? = some x)(hx0:l[0]? = some x0)(hc:k≠0→1≤(timOf most (l.take k)).count)(h1:le=(if k=0 then x0.v else (timOf most (l.take k)).least))(h2:gr=(if k=0 then x0.v else (timOf most (l.take k)).greatest)):
  (if x.v<le then x.v else le)=(timOf most (l.take (k+1))).least∧(if gr<x.v then x.v else gr)=(timOf most (l.take (k+1))).greatest:=by
 rw[timOf_next hx];simp only[tadd];by_cases hk:k=0
 ·subst hk;rw[hx]at hx0;cases hx0
  rw[if_pos rfl]at h1 h2;subst h1;subst h2;have e:(timOf most (l.take 0)).count=0:=rfl;refine⟨?_,?_⟩
  ·rw[if_neg (show ¬x.v<x.v by omega),if_pos e]
  ·rw[if_neg (show ¬x.v<x.v by omega),if_pos e]
 ·have:=hc hk;rw[if_neg hk]at h1 h2;subst h1;subst h2;have hc':¬(timOf most (l.take k)).count=0:=by omega
  refine⟨?_,?_⟩
  ·rw[if_neg hc'];split<;>omega
  ·rw[if_neg hc'];split<;>omega
theorem flag_or (a b:Bool):(if b then (⟨#[49]⟩:ByteArray) else flag a)=flag (a||b):=by
 cases a<;>cases b<;>rfl
set_option maxRecDepth 10000 in
theorem timer (v:Value)(l:List Sx)(most:Nat)(w:World)(h:Smps w v l)(hl0:l≠[])(hn:l.length≤100000000)(hm2:2≤most)(hm:most≤64)(hx:∀x∈l,Tsx x):
  Calls Tryz.prog 153 #[v,.int .i64 (most:Int)] w fun e w'=>(∃z,e=.returned (.string z)∧B z=stext (.tim (timOf most l))∧z.size≤400)∧Below w.heap.size w w':=by
 have HST:=hide h;obtain⟨a,cap,rfl,hcap,hall⟩:=h;have HX:=hide hx;obtain⟨x0,hx0⟩:∃x0,l[0]? = some x0:=⟨l[0]'(by cases l with|nil=>exact absurd rfl hl0|cons=>simp),uC _⟩;obtain⟨g0,rfl,hg0,c1,c2,c3,c4⟩:=hall 0 x0 hx0;have hlz:(0:Int)<(l.length:Int):=by
  have:=(uE.1 hx0).1;omega
 have HX0:=hide hx0;clear hall hx hx0;go_enter Tryz.func153,Tryz.ntmps153
 go_wp2_with fail
 go_loopw [5,6,7,8,9,10,11] (fun s5 s6 s7 s8 s9 s10 i wr=>∃(k:Nat) (le gr:Int) (fl:Bool),i=.int .i64 (k:Int)∧k≤l.length∧s5=.int .i64 (timOf most (l.take k)).count∧s6=.int .i64 (timOf most (l.take k)).sum∧s7=.int .i64 le∧s8=.int .i64 gr∧s9=.string (flag fl)∧Hid (le=(if k=0 then x0.v else (timOf most (l.take k)).least)∧gr=(if k=0 then x0.v else (timOf most (l.take k)).greatest)∧fl=(timOf most (l.take k)).folded)∧Hid (Piles wr s10 (timOf most (l.take k)).cells)∧Hid (Below w.heap.size w wr)) (fun _ _ _ _ _ _ i _=>l.length - (intOf i).toNat)
 case atStart=>exact⟨0,x0.v,x0.v,false,rfl,by omega,rfl,rfl,rfl,rfl,rfl,⟨rfl,rfl,rfl⟩,⟨none,0,rfl,uN _,fun i x hx=>by simp[timOf]at hx⟩,Below.refl _ _⟩
 case round=>
  obtain⟨k,le,gr,fl,rfl,hk,rfl,rfl,rfl,rfl,rfl,HE,HP,HB⟩:=hrel;clear c1 c2 c3 c4;have htf:=timOf_fit hm2 (l.take k) (fun x hx=>HX.out x (List.mem_of_mem_take hx));rw[List.length_take_of_le hk]at htf;have HTF:=hide htf;have hc:=htf.1.count;have hsm:=htf.1.sum;simp only[top]at hc hsm;clear htf;by_cases hkl:k<l.length
  ·have hkz:(k:Int)<(l.length:Int):=by omega
   obtain⟨x,hx⟩:∃x,l[k]? = some x:=⟨_,uC hkl⟩;obtain⟨a2,cp,hv,hcp,hall⟩:=HST.out.below HB.out;injection hv with e1 em e2;clear em;subst e1;subst e2;obtain⟨g,hge,hg,c1,c2,c3,c4⟩:=hall k x hx;injection hge with hge;injection hge with hge;subst hge;clear hall;have hxs:=HX.out x (uI hx);obtain⟨v0,v1,r0,r1⟩:=hxs;have HN:=hide (timOf_next (most:=most) hx);obtain⟨wt0,wt1⟩:=wt_fit r0 r1;have hq:(1000:Int).tdiv x.r=1000 / x.r:=Int.tdiv_eq_ediv_of_nonneg (by omega);have hrz:¬x.r=0:=by omega
   have HXX:=hide hx;clear hx;have HTA:=hide (fellR_tadd (most:=most) (v:=x.v) (wt:=1000 / x.r) HTF.out.1.up HTF.out.2.1 v0 v1);have hfe:=fun (u:Value) (W:World) (hu:Piles W u (timOf most (l.take k)).cells)=>fell u (timOf most (l.take k)).cells x.v (1000 / x.r) most W hu (by have:=HTF.out.1.len;simp only at this;omega) hm2 (by omega) ⟨by omega,wt1⟩ (fit_sum HTF.out.1 (by omega)).1
   generalize hwt:1000 / x.r=wt at *;have hm0:0≤x.v*wt:=Int.mul_nonneg v0 (by omega);have hm1:x.v*wt≤999999999*1000:=Int.mul_le_mul v1 wt1 (by omega) (by omega);have HFE:=hide hfe;clear hfe hwt;go_wp2_with fail
   have HEN:=hide (ends_next HXX.out HX0.out (fun hk0=>HTF.out.2.2 (fun e=>by
    have:=congrArg List.length e;rw[List.length_take_of_le hk]at this;simp at this
    omega)) HE.out.1 HE.out.2.1)
   refine(bound _ wr).mono ?_;rintro e w' ⟨rfl,hw⟩;subst w';go_wp2_with fail
   refine(bound _ wr).mono ?_;rintro e w' ⟨rfl,hw⟩;subst w';by_cases h7:x.v<le
   ·by_cases h8:gr<x.v
    ·clear c1 c2 c3 c4;go_wp2_with fail
     refine(HFE.out _ wr HP.out).mono ?_;rintro e w2 ⟨⟨u,rfl,hu⟩,hb2⟩;rw[HTA.out]at hu ⊢;have HU:=hide hu;have HB2:=hide (HB.out.trans (hb2.mono HB.out.size));clear hu hb2;cases hd:decide (most<(lay x.v wt (timOf most (l.take k)).cells).length) with
     | true=>
      have HD:=hide hd;clear hd;go_wp2_with fail
      go_roundw
      case rel=>
       refine⟨k+1,x.v,x.v,fl||true,by go_num,by omega,by rw[HN.out];rfl,by rw[HN.out];rfl,rfl,rfl,by rw[←flag_or];rfl,⟨?_,?_,?_⟩,by rw[HN.out];exact HU.out,HB2.out⟩
       ·rw[if_neg (by omega),←HEN.out.1,if_pos h7]
       ·rw[if_neg (by omega),←HEN.out.2,if_pos h8]
       ·rw[HN.out,HE.out.2.2];simp only[tadd];rw[HD.out]
      case measure=>simp only[intOf];omega
     | false=>
      have HD:=hide hd;clear hd;go_wp2_with fail
      go_roundw
      case rel=>
       refine⟨k+1,x.v,x.v,fl||false,by go_num,by omega,by rw[HN.out];rfl,by rw[HN.out];rfl,rfl,rfl,by rw[←flag_or];rfl,⟨?_,?_,?_⟩,by rw[HN.out];exact HU.out,HB2.out⟩
       ·rw[if_neg (by omega),←HEN.out.1,if_pos h7]
       ·rw[if_neg (by omega),←HEN.out.2,if_pos h8]
       ·rw[HN.out,HE.out.2.2];simp only[tadd];rw[HD.out]
      case measure=>simp only[intOf];omega
    ·clear c1 c2 c3 c4;go_wp2_with fail
     refine(HFE.out _ wr HP.out).mono ?_;rintro e w2 ⟨⟨u,rfl,hu⟩,hb2⟩;rw[HTA.out]at hu ⊢;have HU:=hide hu;have HB2:=hide (HB.out.trans (hb2.mono HB.out.size));clear hu hb2;cases hd:decide (most<(lay x.v wt (timOf most (l.take k)).cells).length) with
     | true=>
      have HD:=hide hd;clear hd;go_wp2_with fail
      go_roundw
      case rel=>
       refine⟨k+1,x.v,gr,fl||true,by go_num,by omega,by rw[HN.out];rfl,by rw[HN.out];rfl,rfl,rfl,by rw[←flag_or];rfl,⟨?_,?_,?_⟩,by rw[HN.out];exact HU.out,HB2.out⟩
       ·rw[if_neg (by omega),←HEN.out.1,if_pos h7]
       ·rw[if_neg (by omega),←HEN.out.2,if_neg (show ¬gr<x.v by omega)]
       ·rw[HN.out,HE.out.2.2];simp only[tadd];rw[HD.out]
      case measure=>simp only[intOf];omega
     | false=>
      have HD:=hide hd;clear hd;go_wp2_with fail
      go_roundw
      case rel=>
       refine⟨k+1,x.v,gr,fl||false,by go_num,by omega,by rw[HN.out];rfl,by rw[HN.out];rfl,rfl,rfl,by rw[←flag_or];rfl,⟨?_,?_,?_⟩,by rw[HN.out];exact HU.out,HB2.out⟩
       ·rw[if_neg (by omega),←HEN.out.1,if_pos h7]
       ·rw[if_neg (by omega),←HEN.out.2,if_neg (show ¬gr<x.v by omega)]
       ·rw[HN.out,HE.out.2.2];simp only[tadd];rw[HD.out]
      case measure=>simp only[intOf];omega
   ·by_cases h8:gr<x.v
    ·clear c1 c2 c3 c4;go_wp2_with fail
     refine(HFE.out _ wr HP.out).mono ?_;rintro e w2 ⟨⟨u,rfl,hu⟩,hb2⟩;rw[HTA.out]at hu ⊢;have HU:=hide hu;have HB2:=hide (HB.out.trans (hb2.mono HB.out.size));clear hu hb2;cases hd:decide (most<(lay x.v wt (timOf most (l.take k)).cells).length) with
     | true=>
      have HD:=hide hd;clear hd;go_wp2_with fail
      go_roundw
      case rel=>
       refine⟨k+1,le,x.v,fl||true,by go_num,by omega,by rw[HN.out];rfl,by rw[HN.out];rfl,rfl,rfl,by rw[←flag_or];rfl,⟨?_,?_,?_⟩,by rw[HN.out];exact HU.out,HB2.out⟩
       ·rw[if_neg (by omega),←HEN.out.1,if_neg (show ¬x.v<le by omega)]
       ·rw[if_neg (by omega),←HEN.out.2,if_pos h8]
       ·rw[HN.out,HE.out.2.2];simp only[tadd];rw[HD.out]
      case measure=>simp only[intOf];omega
     | false=>
      have HD:=hide hd;clear hd;go_wp2_with fail
      go_roundw
      case rel=>
       refine⟨k+1,le,x.v,fl||false,by go_num,by omega,by rw[HN.out];rfl,by rw[HN.out];rfl,rfl,rfl,by rw[←flag_or];rfl,⟨?_,?_,?_⟩,by rw[HN.out];exact HU.out,HB2.out⟩
       ·rw[if_neg (by omega),←HEN.out.1,if_neg (show ¬x.v<le by omega)]
       ·rw[if_neg (by omega),←HEN.out.2,if_pos h8]
       ·rw[HN.out,HE.out.2.2];simp only[tadd];rw[HD.out]
      case measure=>simp only[intOf];omega
    ·clear c1 c2 c3 c4;go_wp2_with fail
     refine(HFE.out _ wr HP.out).mono ?_;rintro e w2 ⟨⟨u,rfl,hu⟩,hb2⟩;rw[HTA.out]at hu ⊢;have HU:=hide hu;have HB2:=hide (HB.out.trans (hb2.mono HB.out.size));clear hu hb2;cases hd:decide (most<(lay x.v wt (timOf most (l.take k)).cells).length) with
     | true=>
      have HD:=hide hd;clear hd;go_wp2_with fail
      go_roundw
      case rel=>
       refine⟨k+1,le,gr,fl||true,by go_num,by omega,by rw[HN.out];rfl,by rw[HN.out];rfl,rfl,rfl,by rw[←flag_or];rfl,⟨?_,?_,?_⟩,by rw[HN.out];exact HU.out,HB2.out⟩
       ·rw[if_neg (by omega),←HEN.out.1,if_neg (show ¬x.v<le by omega)]
       ·rw[if_neg (by omega),←HEN.out.2,if_neg (show ¬gr<x.v by omega)]
       ·rw[HN.out,HE.out.2.2];simp only[tadd];rw[HD.out]
      case measure=>simp only[intOf];omega
     | false=>
      have HD:=hide hd;clear hd;go_wp2_with fail
      go_roundw
      case rel=>
       refine⟨k+1,le,gr,fl||false,by go_num,by omega,by rw[HN.out];rfl,by rw[HN.out];rfl,rfl,rfl,by rw[←flag_or];rfl,⟨?_,?_,?_⟩,by rw[HN.out];exact HU.out,HB2.out⟩
       ·rw[if_neg (by omega),←HEN.out.1,if_neg (show ¬x.v<le by omega)]
       ·rw[if_neg (by omega),←HEN.out.2,if_neg (show ¬gr<x.v by omega)]
       ·rw[HN.out,HE.out.2.2];simp only[tadd];rw[HD.out]
      case measure=>simp only[intOf];omega
  ·have hkz:¬(k:Int)<(l.length:Int):=by omega
   have hk2:k=l.length:=by omega
   subst hk2;have hE:=HE.out;have hlen:¬l.length=0:=by omega
   rw[uL,if_neg hlen,if_neg hlen]at hE;obtain⟨rfl,rfl,rfl⟩:=hE;have hP:=HP.out;have hT:=HTF.out;rw[uL]at hP hT hc hsm ⊢;have HPP:=hide hP;have HTT:=hide hT;have hle:=hT.1.least;have hgr:=hT.1.greatest;have hc1:=hT.2.2 hl0;have hsum:=(fit_sum hT.1 hn).2;have hcl:(timOf most l).cells.length≤1000:=by have:=hT.1.len;simp only at this;omega
   have hst:∀q k0,0≤upto q k0 (timOf most l).cells∧upto q k0 (timOf most l).cells≤2000000000:=by
    have hcel:=hT.1.cel;generalize (timOf most l).cells=cs at hcel;intro q
    induction cs with
    | nil=>intro k0;simp[upto]
    | cons c r ih=>
     intro k0;have h1:=hcel c (uB ..);have h2:=ih (fun c hc=>hcel c (uH _ hc)) (k0+c.2.weight);unfold upto;split
     ·omega
     ·exact h2
   have HQ:=hide (fun (q:Int) (h0:0≤q) (h1:q≤100) (W:World) (hW:Below wr.heap.size wr W)=>quantile _ _ (timOf most l).count q W (HPP.out.below hW) hcl hc1 hc.2 h0 h1 hsum);have HQB:=hide hst;have hfs0:(flag (timOf most l).folded).size=1:=by unfold flag;split<;>rfl
   clear hP hT HE HP HTF hsum hst hcl HX HX0 HST;generalize ht:timOf most l=t at *;go_wp2_with fail
   refine(digitsC _ (by omega) (by omega) wr).mono ?_;rintro e d1 ⟨⟨z1,rfl,hz1,hs1⟩,hb1⟩;have HZ1:=hide hz1;have HW1:=hide (show Below wr.heap.size wr d1 from hb1);clear hz1 hb1;go_wp2_with fail
   refine(digitsC _ (by omega) (by omega) d1).mono ?_;rintro e d2 ⟨⟨z2,rfl,hz2,hs2⟩,hb2⟩;have HZ2:=hide hz2;have HW2:=hide (show Below wr.heap.size wr d2 from HW1.out.trans (hb2.mono HW1.out.size));clear hz2 hb2;go_wp2_with fail
   refine(digitsC _ (by omega) (by omega) d2).mono ?_;rintro e d3 ⟨⟨z3,rfl,hz3,hs3⟩,hb3⟩;have HZ3:=hide hz3;have HW3:=hide (show Below wr.heap.size wr d3 from HW2.out.trans (hb3.mono HW2.out.size));clear hz3 hb3;go_wp2_with fail
   refine(digitsC _ (by omega) (by omega) d3).mono ?_;rintro e d4 ⟨⟨z4,rfl,hz4,hs4⟩,hb4⟩;have HZ4:=hide hz4;have HW4:=hide (show Below wr.heap.size wr d4 from HW3.out.trans (hb4.mono HW3.out.size));clear hz4 hb4;go_wp2_with fail
   refine(HQ.out 50 (by omega) (by omega) d4 HW4.out).mono ?_;rintro e w' ⟨rfl,hw⟩;subst w';have hq50:=HQB.out (50*(t.count - 1) / 100) 0;go_wp2_with fail
   refine(digitsC _ (by omega) (by omega) d4).mono ?_;rintro e d5 ⟨⟨z5,rfl,hz5,hs5⟩,hb5⟩;have HZ5:=hide hz5;have HW5:=hide (show Below wr.heap.size wr d5 from HW4.out.trans (hb5.mono HW4.out.size));clear hz5 hb5;go_wp2_with fail
   refine(HQ.out 90 (by omega) (by omega) d5 HW5.out).mono ?_;rintro e w' ⟨rfl,hw⟩;subst w';have hq90:=HQB.out (90*(t.count - 1) / 100) 0;go_wp2_with fail
   refine(digitsC _ (by omega) (by omega) d5).mono ?_;rintro e d6 ⟨⟨z6,rfl,hz6,hs6⟩,hb6⟩;have HZ6:=hide hz6;have HW6:=hide (show Below wr.heap.size wr d6 from HW5.out.trans (hb6.mono HW5.out.size));clear hz6 hb6;go_wp2_with fail
   refine(HQ.out 99 (by omega) (by omega) d6 HW6.out).mono ?_;rintro e w' ⟨rfl,hw⟩;subst w';have hq99:=HQB.out (99*(t.count - 1) / 100) 0;go_wp2_with fail
   refine(digitsC _ (by omega) (by omega) d6).mono ?_;rintro e d7 ⟨⟨z7,rfl,hz7,hs7⟩,hb7⟩;have HZ7:=hide hz7;have HW7:=hide (show Below wr.heap.size wr d7 from HW6.out.trans (hb7.mono HW6.out.size));clear hz7 hb7;go_wp2_with fail
   go_ret
   refine⟨⟨_,rfl,?_,?_⟩,HB.out.trans (HW7.out.mono HB.out.size)⟩
   ·rw[ht,←timer_text t _ _ _ _ _ _ _ HZ1.out HZ2.out HZ3.out HZ4.out HZ5.out HZ6.out HZ7.out];simp only[Bytes.B_append];rfl
   ·have hfs:(flag t.folded).size=1:=by unfold flag;split<;>rfl
    have h32:(⟨#[32]⟩:ByteArray).size=1:=rfl;simp only[ByteArray.size_append];omega
end Go.Proofs.YtenegfafjjknoaaGreatDoor.Ra
namespace Go.Proofs.YtenegfafjjknoaaGreatDoor.Ra
open Go.RowKit Mem Foot Bytes Wm Im Cq Tagw
def numStep (n:Int)(x:Sx):Int:=bnd (if x.K=99 then n+(x.v*1000).tdiv x.r else if x.K=103 then x.v else n+x.v)
def numOf (l:List Sx):Int:=l.foldl numStep 0
theorem numOf_next {l:List Sx}{k:Nat}{x:Sx}(hx:l[k]? = some x):numOf (l.take (k+1))=numStep (numOf (l.take k)) x:=by
 unfold numOf;rw[List.take_add_one,hx,List.foldl_append];rfl
theorem numOf_fit (l:List Sx):-1000000000000000≤numOf l∧numOf l≤1000000000000000:=by
 have key:∀(r:List Sx) (n:Int),-1000000000000000≤n∧n≤1000000000000000→-1000000000000000≤r.foldl numStep n∧r.foldl numStep n≤1000000000000000:=by
  intro r
  induction r with
  | nil=>intro n h;exact h
  | cons x r ih=>
   intro n _;rw[List.foldl_cons];refine ih _ ?_;have:=bnd_fit (if x.K=99 then n+(x.v*1000).tdiv x.r else if x.K=103 then x.v else n+x.v);unfold numStep;simp only[top]at this;exact this
 exact key l 0 (by omega)
def Nsx (x:Sx):Prop:=¬x.K=115∧¬x.K=109∧-999999999≤x.v∧x.v≤999999999∧1≤x.r∧x.r≤1000
inductive Same (l:List Sx):Prop where
 | set (h:∀x∈l,x.K=115) (hW:∀k,k≤l.length→(wordsOf (l.take k)).length≤1000)
 | tim (h:∀x∈l,x.K=109∧Tsx x)
 | num (h:∀x∈l,Nsx x)
noncomputable def tell (most:Nat)(l:List Sx):List UInt8:=match l with
 | []=>[48]
 | x ::_=>if x.K=115 then Lib.itoa (wordsOf l).length else if x.K=109 then stext (.tim (timOf most l)) else Lib.itoa (numOf l)
theorem div_fit {v r:Int}(h0:-999999999≤v)(h1:v≤999999999):-1000000000000≤(v*1000).tdiv r∧(v*1000).tdiv r≤1000000000000:=by
 have h:=Int.natAbs_tdiv_le_natAbs (v*1000) r;have h3:(v*1000).natAbs≤999999999000:=by omega
 omega
theorem smps_at {w:World}{a:Option Addr}{cap:Nat}{l:List Sx}(h:Smps w (.slice a l.length cap) l){k:Nat}{x:Sx}(hx:l[k]? = some x):∃g,a=some ⟨g,0,none⟩∧l.length≤cap∧g<w.heap.size∧w.cell? ⟨g,k*6+1,none⟩=some (.int .u8 x.K)∧w.cell? ⟨g,k*6+2,none⟩=some (.int .i64 x.v)∧w.cell? ⟨g,k*6+4,none⟩=some (.int .i64 x.r):=by
 obtain⟨a2,cp,hv,hcp,hall⟩:=h;injection hv with e1 em e2;clear em;subst e1;subst e2;obtain⟨g,h1,h2,c1,c2,c3,c4⟩:=hall k x hx;exact⟨g,h1,hcp,h2,c1,c2,c4⟩
set_option maxRecDepth 10000 in
theorem told (v:Value)(l:List Sx)(c:Fin 6→Int)(most:Nat)(hmost:c 3=(most:Int))(w:World)(h:Smps w v l)(hl0:l≠[])(hn:l.length≤100000000)(hm2:2≤most)(hm:most≤64)(hs:Same l):
  Calls Tryz.prog 97 #[v,.agg #[.int .i64 (c 0),.int .i64 (c 1),.int .i64 (c 2),.int .i64 (c 3),.int .i64 (c 4),.int .i64 (c 5)]] w fun e w'=>(∃z,e=.returned (.string z)∧B z=tell most l∧z.size≤400)∧Below w.heap.size w w':=by
 have HC:=hide (Sits.new w 23 #[.int .i64 (c 0),.int .i64 (c 1),.int .i64 (c 2),.int .i64 (c 3),.int .i64 (c 4),.int .i64 (c 5)]);have HB1:=hide (below_new (w:=w) (.cells #[.int .i64 (c 0),.int .i64 (c 1),.int .i64 (c 2),.int .i64 (c 3),.int .i64 (c 4),.int .i64 (c 5)] 23));have HS1:=hide (h.below HB1.out);obtain⟨x0,r0,hx0⟩:∃x0 r0,l=x0 ::r0:=by
  cases l with
  | nil=>exact absurd rfl hl0
  | cons x r=>exact⟨x,r,rfl⟩
 obtain⟨a,cap,rfl,hcap,_⟩:=h;have hlz:¬(l.length:Int)=0:=by rw[hx0];simp;omega
 have hlp:(0:Int)<(l.length:Int):=by omega
 have hlb:((l.length:Int)==0)=false:=by simpa using hlz
 have HX0:=hide hx0;have HM:=hide hmost;clear hl0 hmost;go_enter Tryz.func97,Tryz.ntmps97
 go_upto_region 1 with fail
 generalize w.alloc (.cells #[.int .i64 (c 0),.int .i64 (c 1),.int .i64 (c 2),.int .i64 (c 3),.int .i64 (c 4),.int .i64 (c 5)] 23)=w1 at *;obtain⟨g,rfl,_,hg,c1,c2,c4⟩:=smps_at HS1.out (k:=0) (x:=x0) (by rw[hx0];rfl);clear hx0;simp only[Nat.zero_mul,Nat.zero_add]at c1 c2 c4;cases hs with
 | set hset hW=>
  have hk0:x0.K=115:=hset x0 (by rw[HX0.out];simp);rw[hk0]at c1;have hwd:=words _ l w1 HS1.out hn hW;have HK:=hide hk0;have HLW:=hide (hW l.length (uN _));clear hset hW hk0;go_wp2_with fail
  refine hwd.mono ?_;clear hwd;rintro e w2 ⟨⟨u,rfl,hu⟩,hb2⟩;obtain⟨ua,uc,rfl⟩:=strs_shape hu;have hul:(wordsOf l).length≤1000:=by have:=HLW.out;rw[uL]at this;exact this
  go_wp2_with fail
  refine(digitsC _ (by omega) (by omega) w2).mono ?_;rintro e w3 ⟨⟨z,rfl,hz,hzs⟩,hb3⟩;have HZ:=hide hz;have HB3:=hide ((HB1.out.trans (hb2.mono HB1.out.size)).trans (hb3.mono (uK HB1.out.size hb2.size)));clear hz hb2 hb3 hu;go_wp2_with fail
  go_ret
  refine⟨⟨z,rfl,?_,by omega⟩,HB3.out⟩;rw[HZ.out,HX0.out,tell,if_pos HK.out]
 | tim htim=>
  have hk0:x0.K=109:=(htim x0 (by rw[HX0.out];simp)).1;rw[hk0]at c1;have htm:=timer _ l most w1 HS1.out (by rw[HX0.out];simp) hn hm2 hm (fun x hx=>(htim x hx).2);have k3:w1.cell? ⟨w.heap.size,3,none⟩=some (.int .i64 (most:Int)):=by rw[←HM.out];exact HC.out.cell 3 _ rfl
  have HK:=hide hk0;clear htim hk0;go_wp2_with fail
  refine htm.mono ?_;clear htm;rintro e w2 ⟨⟨z,rfl,hz,hzs⟩,hb2⟩;have HZ:=hide hz;have HB3:=hide (HB1.out.trans (hb2.mono HB1.out.size));clear hz hb2;go_wp2_with fail
  go_ret
  refine⟨⟨z,rfl,?_,hzs⟩,HB3.out⟩;rw[HZ.out,HX0.out,tell,if_neg (by rw[HK.out];decide),if_pos HK.out]
 | num hnum=>
  have hk0:=hnum x0 (by rw[HX0.out];simp);have h115:(x0.K==115)=false:=by simpa using hk0.1
  have h109:(x0.K==109)=false:=by simpa using hk0.2.1
  have HK:=hide hk0;have HN:=hide hnum;clear hnum hk0;go_wp2_with fail
  clear c1 c2 c4;go_loopw [6,7] (fun s6 i wr=>∃k:Nat,i=.int .i64 (k:Int)∧k≤l.length∧s6=.int .i64 (numOf (l.take k))∧Hid (Below w1.heap.size w1 wr)) (fun _ i _=>l.length - (intOf i).toNat)
  case atStart=>exact⟨0,rfl,by omega,rfl,Below.refl _ _⟩
  case round=>
   obtain⟨k,rfl,hk,rfl,HB⟩:=hrel;have hnf:=numOf_fit (l.take k);by_cases hkl:k<l.length
   ·have hkz:(k:Int)<(l.length:Int):=by omega
    obtain⟨x,hx⟩:∃x,l[k]? = some x:=⟨_,uC hkl⟩;obtain⟨n115,n109,v0,v1,r0',r1'⟩:=HN.out x (uI hx);have HNX:=hide (numOf_next hx);obtain⟨g',hge,_,hg',c1,c2,c4⟩:=smps_at (HS1.out.below HB.out) hx;injection hge with hge;injection hge with hge;subst hge;have hdv:=div_fit (r:=x.r) v0 v1;generalize numOf (l.take k)=no at *;have hv1000:-1000000000000≤x.v*1000∧x.v*1000≤1000000000000:=by omega
    by_cases h99:x.K=99
    ·rw[h99]at c1;have hrz:¬x.r=0:=by omega
     have HE:=hide (show numStep no x=bnd (no+(x.v*1000).tdiv x.r) by unfold numStep;rw[if_pos h99]);have C2:∀s:Bw wr,s.val.cell? ⟨g,k*6+2,none⟩=some (.int .i64 x.v):=fun s=>by rw[s.is.cell (p:=⟨g,k*6+2,none⟩) hg'];exact c2
     have C4:∀s:Bw wr,s.val.cell? ⟨g,k*6+4,none⟩=some (.int .i64 x.r):=fun s=>by rw[s.is.cell (p:=⟨g,k*6+4,none⟩) hg'];exact c4
     generalize hdd:(x.v*1000).tdiv x.r=dd at *;have HA:=hide (fun s:Bw wr=>call_cls ((bound (no+dd) s.val).mono fun e w' ⟨h1,h2⟩=>⟨h1,by rw[h2];exact Below.refl _ _⟩));clear h99;go_wp2_with fail
     refine region_cls (by kernel_rfl) (by kernel_rfl) ?_;repeat (first
      | go_big_quiet_skip
      | (go_big_quiet_want;go_big_quiet_op;first|go_big_quiet_on|(apply Exists.intro;refine⟨fun _=>?_,?_⟩;exact HA.out _;go_big_quiet_on)))
     refine wpQuiet_nil ?_;rintro _ ⟨s,rfl⟩;go_wp2_with fail
     go_roundw
     case rel=>exact⟨k+1,by go_num,by omega,by rw[HNX.out,HE.out],HB.out.trans (s.is.mono HB.out.size)⟩
     case measure=>simp only[intOf];omega
    ·have k99:(x.K==99)=false:=by simpa using h99
     by_cases h103:x.K=103
     ·rw[h103]at c1 k99;have HE:=hide (show numStep no x=bnd x.v by unfold numStep;rw[if_neg h99,if_pos h103]);clear h99 h103 k99;go_wp2_with fail
      refine(bound _ wr).mono ?_;rintro e w' ⟨rfl,hw⟩;subst w';go_wp2_with fail
      go_roundw
      case rel=>exact⟨k+1,by go_num,by omega,by rw[HNX.out,HE.out],HB.out⟩
      case measure=>simp only[intOf];omega
     ·have k103:(x.K==103)=false:=by simpa using h103
      have HE:=hide (show numStep no x=bnd (no+x.v) by unfold numStep;rw[if_neg h99,if_neg h103]);clear h99 h103;go_wp2_with fail
      refine(bound _ wr).mono ?_;rintro e w' ⟨rfl,hw⟩;subst w';go_wp2_with fail
      go_roundw
      case rel=>exact⟨k+1,by go_num,by omega,by rw[HNX.out,HE.out],HB.out⟩
      case measure=>simp only[intOf];omega
   ·have hkz:¬(k:Int)<(l.length:Int):=by omega
    have hk2:k=l.length:=by omega
    subst hk2;rw[uL]at hnf ⊢;generalize hno:numOf l=no at *;go_wp2_with fail
    refine(digitsC _ (by omega) (by omega) wr).mono ?_;rintro e w3 ⟨⟨z,rfl,hz,hzs⟩,hb3⟩;have HZ:=hide hz;have HB3:=hide ((HB1.out.trans (HB.out.mono HB1.out.size)).trans (hb3.mono (uK HB1.out.size HB.out.size)));clear hz hb3;go_wp2_with fail
    go_ret
    refine⟨⟨z,rfl,?_,by omega⟩,HB3.out⟩;rw[HZ.out,←hno,HX0.out,tell,if_neg HK.out.1,if_neg HK.out.2.1]
end Go.Proofs.YtenegfafjjknoaaGreatDoor.Ra
namespace Go.Proofs.YtenegfafjjknoaaGreatDoor.Ra
open Go.RowKit Mem Foot Bytes Wm Im Refi Tagw
section
theorem sits_ne {w:World}{k k':Nat}{t t':TypeId}{cs cs':Array Value}(h:Sits w k t cs)(h':Sits w k' t' cs')(ht:t≠t'):k≠k':=by
 intro e;subst e;unfold Sits at h h';rw[h]at h';injection h' with h';injection h' with _ h2;exact ht h2
theorem mem_own {v:Value}{k:Nat}(h:k∈v.ownBlock.toList):v.ownBlock=some k:=by simpa using h
theorem sits_row {w:World}{base size n:Nat}{e:TypeId}{v:Value}{xs:List Value}(h:w.ownsRow base e size v n xs){k:Nat}(hk:k∈v.ownBlock.toList):∃cs,Sits w k e cs:=by
 have hk':=mem_own hk;rcases h.2 with ⟨rfl,_⟩|⟨g,cap,cur,rfl,_,hg,_⟩
 ·simp[Value.ownBlock]at hk'
 ·simp[Value.ownBlock]at hk'
  subst hk';exact⟨cur,hg⟩
theorem own_off {F:List Nat}{w w':World}{e:TypeId}{v:Value}{n base:Nat}{xs:List Value}{size:Nat}(h:w.ownsRow base e size v n xs)(ho:Off F w w')(hF:∀k∈v.ownBlock.toList,k∉F):w'.ownsRow base e size v n xs:=by
 refine⟨h.1,?_⟩;rcases h.2 with h0|⟨g,cap,cur,rfl,h1,hg,h2⟩
 ·exact Or.inl h0
 ·refine Or.inr ⟨g,cap,cur,rfl,h1,?_,h2⟩;rw[ho.block g (Array.getElem?_eq_some_iff.1 hg).1 (hF g (by simp[Value.ownBlock]))];exact hg
theorem own_keep {w w':World}{base size n:Nat}{e:TypeId}{v:Value}{xs:List Value}(h:w.ownsRow base e size v n xs)(hb:Below w.heap.size w w'):w'.ownsRow base e size v n xs:=
 own_off (F:=[]) h (Off.of_below hb) (fun _ _=>by simp)
theorem own_lt {w:World}{base size n:Nat}{e:TypeId}{v:Value}{xs:List Value}(h:w.ownsRow base e size v n xs){k:Nat}(hk:k∈v.ownBlock.toList):base≤k∧k<w.heap.size:=h.lt k (mem_own hk)
theorem grown_off {w x:World}{o:Obj}{v:Value}(h:(w.alloc o).grownBy x v.ownBlock):Off v.ownBlock.toList w x:=
 ⟨h.os,h.tape,h.output,by have:=h.size;simp at this;omega,fun k hk hF=>by
  rw[h.block k (by simp;omega) (fun e=>hF (by rw[←e];simp)),Below.heap_alloc _ _ _ hk]⟩
theorem row_ne {w:World}{e e':TypeId}{v v':Value}{n n' b b' s s':Nat}{xs xs':List Value}(h:w.ownsRow b e s v n xs)(h':w.ownsRow b' e' s' v' n' xs')(hne:e≠e'):∀k∈v.ownBlock.toList,k∉v'.ownBlock.toList:=by
 intro k h1 h2;obtain⟨cs,s1⟩:=sits_row h h1;obtain⟨cs',s2⟩:=sits_row h' h2;exact sits_ne s1 s2 hne rfl
theorem row_ne_sits {w:World}{e e':TypeId}{v:Value}{n b S s:Nat}{xs:List Value}{cs:Array Value}(h:w.ownsRow b e s v n xs)(h':Sits w S e' cs)(hne:e≠e'):S∉v.ownBlock.toList:=by
 intro h1;obtain⟨cs,s1⟩:=sits_row h h1;exact sits_ne s1 h' hne rfl
end
structure Rw (w0 w:World)(b:Nat)(c:Fin 6→Int)(ks:List (List UInt8))(ss:List (List Sx))(rej drp:Nat)(K S:Value)(vs:List Value):Prop where
 far:w0.heap.size≤b
 head:Sits w b 95 #[.int .i64 (c 0),.int .i64 (c 1),.int .i64 (c 2),.int .i64 (c 3),.int .i64 (c 4),.int .i64 (c 5),K,S,.int .i64 (rej:Int),.int .i64 (drp:Int)]
 keys:w.ownsRow w0.heap.size 9 1 K ks.length (enc ks)
 rows:w.ownsRow w0.heap.size 144 1 S vs.length vs
 len:vs.length=ks.length
 slen:ss.length=ks.length
 each:∀(i:Nat) v l,vs[i]? = some v→ss[i]? = some l→w.ownsRow w0.heap.size 85 6 v l.length (scells l)
 apart:∀(i j:Nat) v v',i≠j→vs[i]? = some v→vs[j]? = some v'→v.ownBlock=none∨v.ownBlock≠v'.ownBlock
section
variable {w0 w : World} {b : Nat} {c : Fin 6 → Int} {ks : List (List UInt8)} {ss : List (List Sx)} {rej drp : Nat} {K S : Value} {vs : List Value}
theorem Rw.off {F:List Nat}{w':World}(h:Rw w0 w b c ks ss rej drp K S vs)(ho:Off F w w')(hb:b∉F)(hK:∀k∈K.ownBlock.toList,k∉F)(hS:∀k∈S.ownBlock.toList,k∉F)(hV:∀v∈vs,∀k∈v.ownBlock.toList,k∉F):Rw w0 w' b c ks ss rej drp K S vs:=
 ⟨h.far,Foot.Sits.off h.head ho hb,own_off h.keys ho hK,own_off h.rows ho hS,h.len,h.slen,fun i v l h1 h2=>own_off (h.each i v l h1 h2) ho (hV v (uI h1)),h.apart⟩
theorem Rw.keep {w':World}(h:Rw w0 w b c ks ss rej drp K S vs)(hb:Below w.heap.size w w'):Rw w0 w' b c ks ss rej drp K S vs:=
 h.off (F:=[]) (Off.of_below hb) (by simp) (fun _ _=>by simp) (fun _ _=>by simp) (fun _ _ _ _=>by simp)
theorem Rw.drew (h:Rw w0 w b c ks ss rej drp K S vs):Rw w0 w.drew b c ks ss rej drp K S vs:=h.keep ((Below.refl _ _).drew)
theorem Rw.each' (h:Rw w0 w b c ks ss rej drp K S vs){i:Nat}{v:Value}(hv:vs[i]? = some v):∃l,ss[i]? = some l∧w.ownsRow w0.heap.size 85 6 v l.length (scells l):=by
 have hi:=(uE.1 hv).1;have hi2:i<ss.length:=by rw[h.slen,←h.len];exact hi
 exact⟨ss[i],uC hi2,h.each i v _ hv (uC hi2)⟩
theorem Rw.vne (h:Rw w0 w b c ks ss rej drp K S vs){v:Value}(hv:v∈vs){k:Nat}{t:TypeId}{cs:Array Value}(hs:Sits w k t cs)(ht:t≠85):k∉v.ownBlock.toList:=by
 obtain⟨i,hi⟩:=List.getElem?_of_mem hv;obtain⟨l,_,ho⟩:=h.each' hi;exact row_ne_sits ho hs (Ne.symm ht)
theorem own_strs0 {base:Nat}{v:Value}{ls:List (List UInt8)}(h:w.ownsRow base 9 1 v ls.length (enc ls)):Strs 0 w v ls:=(own_strs h).mono (Nat.zero_le _)
theorem Rw.set8 (h:Rw w0 w b c ks ss rej drp K S vs)(n:Nat):Rw w0 (w.setCell ⟨b,8,none⟩ (.int .i64 (n:Int))) b c ks ss n drp K S vs:=by
 have ho:Off [b] w (w.setCell ⟨b,8,none⟩ (.int .i64 (n:Int))):=(Off.refl _ _).set (uB ..) _ _;refine⟨h.far,h.head.set 8 _,own_off h.keys ho fun k hk e=>?_,own_off h.rows ho fun k hk e=>?_,h.len,h.slen,fun i v l h1 h2=>own_off (h.each i v l h1 h2) ho fun k hk e=>?_,h.apart⟩
 ·rw[uA]at e;exact row_ne_sits h.keys h.head (by decide) (e▸hk)
 ·rw[uA]at e;exact row_ne_sits h.rows h.head (by decide) (e▸hk)
 ·rw[uA]at e;exact h.vne (uI h1) h.head (by decide) (e▸hk)
theorem Rw.set9 (h:Rw w0 w b c ks ss rej drp K S vs)(n:Nat):Rw w0 (w.setCell ⟨b,9,none⟩ (.int .i64 (n:Int))) b c ks ss rej n K S vs:=by
 have ho:Off [b] w (w.setCell ⟨b,9,none⟩ (.int .i64 (n:Int))):=(Off.refl _ _).set (uB ..) _ _;refine⟨h.far,h.head.set 9 _,own_off h.keys ho fun k hk e=>?_,own_off h.rows ho fun k hk e=>?_,h.len,h.slen,fun i v l h1 h2=>own_off (h.each i v l h1 h2) ho fun k hk e=>?_,h.apart⟩
 ·rw[uA]at e;exact row_ne_sits h.keys h.head (by decide) (e▸hk)
 ·rw[uA]at e;exact row_ne_sits h.rows h.head (by decide) (e▸hk)
 ·rw[uA]at e;exact h.vne (uI h1) h.head (by decide) (e▸hk)
theorem Rw.key1 {w2:World}{K':Value}{o:Obj}(h:Rw w0 w b c ks ss rej drp K S vs)(g2:(w.alloc o).grownBy w2 K.ownBlock):Sits w2 b 95 #[.int .i64 (c 0),.int .i64 (c 1),.int .i64 (c 2),.int .i64 (c 3),.int .i64 (c 4),.int .i64 (c 5),K,S,.int .i64 (rej:Int),.int .i64 (drp:Int)]∧w2.ownsRow w0.heap.size 144 1 S vs.length vs∧(∀(i:Nat) v l,vs[i]? = some v→ss[i]? = some l→w2.ownsRow w0.heap.size 85 6 v l.length (scells l)):=by
 have ho:=grown_off g2;have _:=K';exact⟨Foot.Sits.off h.head ho (row_ne_sits h.keys h.head (by decide)),own_off h.rows ho (row_ne h.rows h.keys (by decide)),fun i v l h1 h2=>own_off (h.each i v l h1 h2) ho (row_ne (h.each i v l h1 h2) h.keys (by decide))⟩
theorem Rw.more {w2 w4:World}{K' S':Value}{o o':Obj}{key:List UInt8}(h:Rw w0 w b c ks ss rej drp K S vs)(hw:w0.heap.size≤w.heap.size)
  (o2:w2.ownsRow w0.heap.size 9 1 K' (ks.length+1) (enc ks++[.string ⟨key.toArray⟩])) (g2:(w.alloc o).grownBy w2 K.ownBlock)
  (o4:w4.ownsRow w0.heap.size 144 1 S' (vs.length+1) (vs++[.slice none 0 0])) (g4:((w2.setCell ⟨b,6,none⟩ K').alloc o').grownBy w4 S.ownBlock):
  Rw w0 (w4.setCell ⟨b,7,none⟩ S') b c (ks++[key]) (ss++[[]]) rej drp K' S' (vs++[.slice none 0 0])∧Below w0.heap.size w (w4.setCell ⟨b,7,none⟩ S'):=by
 obtain⟨a1,a2,a3⟩:=h.key1 (K':=K') g2;have ho2:=grown_off g2;have hb1:Off [b] w2 (w2.setCell ⟨b,6,none⟩ K'):=(Off.refl _ _).set (uB ..) _ _;have b1:Sits (w2.setCell ⟨b,6,none⟩ K') b 95 #[.int .i64 (c 0),.int .i64 (c 1),.int .i64 (c 2),.int .i64 (c 3),.int .i64 (c 4),.int .i64 (c 5),K',S,.int .i64 (rej:Int),.int .i64 (drp:Int)]:=a1.set 6 K';have b2:=own_off o2 hb1 fun k hk e=>by
  rw[uA]at e;exact row_ne_sits o2 a1 (by decide) (e▸hk)
 have b3:=own_off a2 hb1 fun k hk e=>by
  rw[uA]at e;exact row_ne_sits a2 a1 (by decide) (e▸hk)
 have b4:∀(i:Nat) v l,vs[i]? = some v→ss[i]? = some l→(w2.setCell ⟨b,6,none⟩ K').ownsRow w0.heap.size 85 6 v l.length (scells l):=fun i v l h1 h2=>own_off (a3 i v l h1 h2) hb1 fun k hk e=>by
  rw[uA]at e;exact row_ne_sits (a3 i v l h1 h2) a1 (by decide) (e▸hk)
 have ho4:=grown_off g4;have d1:=Foot.Sits.off b1 ho4 (row_ne_sits b3 b1 (by decide));have d2:=own_off b2 ho4 (row_ne b2 b3 (by decide));have d4:∀(i:Nat) v l,vs[i]? = some v→ss[i]? = some l→w4.ownsRow w0.heap.size 85 6 v l.length (scells l):=fun i v l h1 h2=>own_off (b4 i v l h1 h2) ho4 (row_ne (b4 i v l h1 h2) b3 (by decide))
 have hb5:Off [b] w4 (w4.setCell ⟨b,7,none⟩ S'):=(Off.refl _ _).set (uB ..) _ _;refine⟨⟨h.far,d1.set 7 S',?_,?_,?_,?_,fun i v l h1 h2=>?_,fun i j v v' hij h1 h2=>?_⟩,?_⟩
 ·rw[uD,enc_append];refine own_off d2 hb5 fun k hk e=>?_
  rw[uA]at e;exact row_ne_sits d2 d1 (by decide) (e▸hk)
 ·rw[uD];refine own_off o4 hb5 fun k hk e=>?_
  rw[uA]at e;exact row_ne_sits o4 d1 (by decide) (e▸hk)
 ·rw[uD,uD,h.len];rfl
 ·rw[uD,uD,h.slen];rfl
 ·by_cases hi:i<vs.length
  ·rw[uG hi]at h1;rw[uG (by rw[h.slen,←h.len];exact hi)]at h2;refine own_off (d4 i v l h1 h2) hb5 fun k hk e=>?_
   rw[uA]at e;exact row_ne_sits (d4 i v l h1 h2) d1 (by decide) (e▸hk)
  ·have hi2:i=vs.length:=by
    have:=(uE.1 h1).1;simp at this
    omega
   subst hi2;rw[uF (uN _),Nat.sub_self]at h1;rw[uF (by rw[h.slen,h.len];exact uN _),show vs.length - ss.length=0 by rw[h.slen,h.len];omega]at h2;cases h1
   cases h2
   exact World.ownsRow_nil _ _ _ _
 ·by_cases hi:i<vs.length
  ·rw[uG hi]at h1;by_cases hj:j<vs.length
   ·rw[uG hj]at h2;exact h.apart i j v v' hij h1 h2
   ·have hj2:j=vs.length:=by
     have:=(uE.1 h2).1;simp at this
     omega
    subst hj2;rw[uF (uN _),Nat.sub_self]at h2;cases h2
    cases hv:v.ownBlock with
    | none=>exact Or.inl rfl
    | some k=>exact Or.inr (by simp[Value.ownBlock])
  ·have hi2:i=vs.length:=by
    have:=(uE.1 h1).1;simp at this
    omega
   subst hi2;rw[uF (uN _),Nat.sub_self]at h1;cases h1
   exact Or.inl rfl
 ·have q1:Below w0.heap.size w w2:=ho2.below (fun k hk=>(own_lt h.keys hk).1) hw;have q2:Below w0.heap.size w (w2.setCell ⟨b,6,none⟩ K'):=q1.setCell (p:=⟨b,6,none⟩) h.far K';have q3:Below w0.heap.size w w4:=q2.trans (ho4.below (fun k hk=>(own_lt b3 hk).1) (uK hw q2.size));exact q3.setCell (p:=⟨b,7,none⟩) h.far S'
theorem Rw.put {x:Sx}{w5:World}{v v':Value}{o:Obj}{l:List Sx}{i SB cap:Nat}(h:Rw w0 w b c ks ss rej drp K S vs)(hw:w0.heap.size≤w.heap.size)(hS:S=.slice (some ⟨SB,0,none⟩) vs.length cap)(hv:vs[i]? = some v)(hl:ss[i]? = some l)
  (o5:w5.ownsRow w0.heap.size 85 6 v' (l.length+1) (scells (l++[x]))) (g5:(w.alloc o).grownBy w5 v.ownBlock) (sm:v'.ownBlock=v.ownBlock∨∃g,v'.ownBlock=some g∧w.heap.size≤g):
  Rw w0 (w5.setCell ⟨SB,i,none⟩ v') b c ks (ss.set i (l++[x])) rej drp K S (vs.set i v')∧Below w0.heap.size w (w5.setCell ⟨SB,i,none⟩ v'):=by
 have hr:=h.each i v l hv hl;have hiv:=(uE.1 hv).1;have ho:=grown_off g5;have a1:=Foot.Sits.off h.head ho (row_ne_sits hr h.head (by decide));have a2:=own_off h.keys ho (row_ne h.keys hr (by decide));have a3:=own_off h.rows ho (row_ne h.rows hr (by decide));have hSB:SB∈S.ownBlock.toList:=by rw[hS];simp[Value.ownBlock]
 obtain⟨cs,hcs⟩:=sits_row a3 hSB;have hb:Off [SB] w5 (w5.setCell ⟨SB,i,none⟩ v'):=(Off.refl _ _).set (uB ..) _ _;refine⟨⟨h.far,?_,?_,?_,by rw[uO];exact h.len,by rw[uO];exact h.slen,fun j u m h1 h2=>?_,fun j k u u' hjk h1 h2=>?_⟩,?_⟩
 ·refine Foot.Sits.off a1 hb fun e=>?_
  rw[uA]at e;exact row_ne_sits a3 a1 (by decide) (e▸hSB)
 ·refine own_off a2 hb fun k hk e=>?_
  rw[uA]at e;exact row_ne a2 a3 (by decide) k hk (e▸hSB)
 ·rw[uO];refine⟨by rw[uO,Nat.mul_one],?_⟩;rcases a3.2 with ⟨h0,_⟩|⟨g,cp,cur,h1,h2,h3,h4,h5,h6,h7⟩
  ·rw[hS]at h0;cases h0
  ·rw[hS]at h1;injection h1 with e1 _ e2;injection e1 with e1;injection e1 with e1;subst e1;subst e2;refine Or.inr ⟨SB,cap,_,hS,h2,Sits.set (t:=144) (cs:=cur) h3 i v',h4,h5,by simpa using h6,?_⟩;rw[Array.toList_setIfInBounds,List.take_set,h7]
 ·by_cases e:i=j
  ·subst e;rw[uJ hiv]at h1;rw[uJ (by rw[h.slen,←h.len];exact hiv)]at h2;cases h1
   cases h2
   rw[uD];refine own_off o5 hb fun k hk e=>?_
   rw[uA]at e;exact row_ne o5 a3 (by decide) k hk (e▸hSB)
  ·rw[uM e]at h1 h2;have h3:=h.each j u m h1 h2;have h4:=own_off h3 ho fun k hk hk2=>by
    rcases h.apart j i u v (Ne.symm e) h1 hv with q|q
    ·rw[q]at hk;simp at hk
    ·exact q (by rw[mem_own hk,mem_own hk2])
   refine own_off h4 hb fun k hk e=>?_
   rw[uA]at e;exact row_ne h4 a3 (by decide) k hk (e▸hSB)
 ·have old:∀(j:Nat) u,i≠j→vs[j]? = some u→u.ownBlock=none∨u.ownBlock≠v'.ownBlock:=fun j u hij hu=>by
   obtain⟨m,_,hm⟩:=h.each' hu;cases hub:u.ownBlock with
   | none=>exact Or.inl rfl
   | some g=>
    refine Or.inr fun e=>?_
    rcases sm with s|⟨g',s,hg'⟩
    ·rcases h.apart j i u v (Ne.symm hij) hu hv with q|q
     ·rw[q]at hub;cases hub
     ·exact q (by rw[hub,e,s])
    ·have:=(own_lt hm (k:=g) (by rw[hub];simp)).2;rw[s]at e;cases e
     omega
  by_cases e1:i=j
  ·subst e1;rw[uJ hiv]at h1;rw[uM hjk]at h2;cases h1
   cases hub:v'.ownBlock with
   | none=>exact Or.inl rfl
   | some g=>
    refine Or.inr fun e=>?_
    rcases old k u' hjk h2 with q|q
    ·rw[q]at e;cases e
    ·exact q (by rw[←e,hub])
  ·rw[uM e1]at h1;by_cases e2:i=k
   ·subst e2;rw[uJ hiv]at h2;cases h2
    exact old j u e1 h1
   ·rw[uM e2]at h2;exact h.apart j k u u' hjk h1 h2
 ·have q1:Below w0.heap.size w w5:=ho.below (fun k hk=>(own_lt hr hk).1) hw;exact q1.setCell (p:=⟨SB,i,none⟩) (own_lt h.rows hSB).1 v'
end
end Go.Proofs.YtenegfafjjknoaaGreatDoor.Ra
namespace Go.Proofs.YtenegfafjjknoaaGreatDoor.Ra
open Go.RowKit Mem Foot Bytes Wm Im Refi Tagw Reft Plain
structure Rs3 where
 ks:List (List UInt8)
 ss:List (List Sx)
 drp:Nat
def rplace (key:List UInt8)(s:Rs3):Rs3:=if pl key s.ks=s.ks.length then ⟨s.ks++[key],s.ss++[[]],s.drp⟩ else s
def rin (sets:Nat)(x:Sx)(i:Nat)(s:Rs3):Rs3:=
 if x.K=115∧B x.wb∉wordsOf (s.ss.getD i [])∧sets≤(wordsOf (s.ss.getD i [])).length then ⟨s.ks,s.ss,s.drp+1⟩ else ⟨s.ks,s.ss.set i (s.ss.getD i []++[x]),s.drp⟩
def rtake (series sets:Nat)(key:List UInt8)(x:Sx)(s:Rs3):Rs3:=
 if pl key s.ks=s.ks.length∧series≤s.ks.length then ⟨s.ks,s.ss,s.drp+1⟩ else rin sets x (pl key s.ks) (rplace key s)
theorem infoStr':(Tryz.prog.info? 9).map (fun i=>(i.zero,i.size,i.bytes))=some (some (.string ⟨#[]⟩),1,16):=by kernel_rfl
theorem infoRow':(Tryz.prog.info? 144).map (fun i=>(i.zero,i.size,i.bytes))=some (some (.slice none 0 0),1,24):=by kernel_rfl
theorem infoSmp:(Tryz.prog.info? 85).map (fun i=>(i.zero,i.size,i.bytes))=some (some (.agg #[.string ⟨#[]⟩,.int .u8 0,.int .i64 0,.string ⟨#[]⟩,.int .i64 0,.slice none 0 0]),6,80):=by kernel_rfl
def Res (w0:World)(b:Nat)(c:Fin 6→Int)(rej:Nat)(s:Rs3)(w w':World):Prop:=(∃K S vs,Rw w0 w' b c s.ks s.ss rej s.drp K S vs)∧Below w0.heap.size w w'
theorem head10 {w:World}{b:Nat}{t:TypeId}{v0 v1 v2 v3 v4 v5 v6 v7 v8 v9:Value}(h:Sits w b t #[v0,v1,v2,v3,v4,v5,v6,v7,v8,v9]):
  w.cell? ⟨b,1,none⟩=some v1∧w.cell? ⟨b,2,none⟩=some v2∧w.cell? ⟨b,6,none⟩=some v6∧w.cell? ⟨b,7,none⟩=some v7∧w.cell? ⟨b,8,none⟩=some v8∧w.cell? ⟨b,9,none⟩=some v9∧w.frozen? ⟨b,6,none⟩=false∧w.frozen? ⟨b,7,none⟩=false∧w.frozen? ⟨b,8,none⟩=false∧w.frozen? ⟨b,9,none⟩=false:=
 ⟨h.cell 1 _ rfl,h.cell 2 _ rfl,h.cell 6 _ rfl,h.cell 7 _ rfl,h.cell 8 _ rfl,h.cell 9 _ rfl,h.frozen 6,h.frozen 7,h.frozen 8,h.frozen 9⟩
theorem cells6s {w:World}{b:Nat}{t:TypeId}{v0 v1 v2 v3 v4 v5:Value}(h:Sits w b t #[v0,v1,v2,v3,v4,v5]):
  w.cell? ⟨b,0,none⟩=some v0∧w.cell? ⟨b,1,none⟩=some v1∧w.cell? ⟨b,2,none⟩=some v2∧w.cell? ⟨b,3,none⟩=some v3∧w.cell? ⟨b,4,none⟩=some v4∧w.cell? ⟨b,5,none⟩=some v5:=
 ⟨h.cell 0 _ rfl,h.cell 1 _ rfl,h.cell 2 _ rfl,h.cell 3 _ rfl,h.cell 4 _ rfl,h.cell 5 _ rfl⟩
section
variable {w0 w : World} {b : Nat} {c : Fin 6 → Int} {ks : List (List UInt8)} {ss : List (List Sx)} {rej drp : Nat} {K S : Value} {vs : List Value}
theorem Rw.key2 {w2:World}{K':Value}{o:Obj}(h:Rw w0 w b c ks ss rej drp K S vs)(g2:(w.alloc o).grownBy w2 K.ownBlock):Sits (w2.setCell ⟨b,6,none⟩ K') b 95 #[.int .i64 (c 0),.int .i64 (c 1),.int .i64 (c 2),.int .i64 (c 3),.int .i64 (c 4),.int .i64 (c 5),K',S,.int .i64 (rej:Int),.int .i64 (drp:Int)]∧(w2.setCell ⟨b,6,none⟩ K').ownsRow w0.heap.size 144 1 S vs.length vs:=by
 obtain⟨a1,a2,_⟩:=h.key1 (K':=K') g2;have hb1:Off [b] w2 (w2.setCell ⟨b,6,none⟩ K'):=(Off.refl _ _).set (uB ..) _ _;exact⟨a1.set 6 K',own_off a2 hb1 fun k hk e=>by
  rw[uA]at e;exact row_ne_sits a2 a1 (by decide) (e▸hk)⟩
theorem Rw.key3 {w2 w4:World}{K':Value}{o o':Obj}(h:Rw w0 w b c ks ss rej drp K S vs)(g2:(w.alloc o).grownBy w2 K.ownBlock)(g4:((w2.setCell ⟨b,6,none⟩ K').alloc o').grownBy w4 S.ownBlock):Sits w4 b 95 #[.int .i64 (c 0),.int .i64 (c 1),.int .i64 (c 2),.int .i64 (c 3),.int .i64 (c 4),.int .i64 (c 5),K',S,.int .i64 (rej:Int),.int .i64 (drp:Int)]:=by
 obtain⟨a1,a2⟩:=h.key2 (K':=K') g2;exact Foot.Sits.off a1 (grown_off g4) (row_ne_sits a2 a1 (by decide))
theorem Rw.box {w2 w4:World}{K' S':Value}{o o':Obj}{X:Nat}{cs:Array Value}(h:Rw w0 w b c ks ss rej drp K S vs)(g2:(w.alloc o).grownBy w2 K.ownBlock)(g4:((w2.setCell ⟨b,6,none⟩ K').alloc o').grownBy w4 S.ownBlock)(hX:Sits w X 85 cs):Sits (w4.setCell ⟨b,7,none⟩ S') X 85 cs:=by
 obtain⟨a1,a2⟩:=h.key2 (K':=K') g2;have a0:=(h.key1 (K':=K') g2).1;have e2:Sits w2 X 85 cs:=Foot.Sits.off hX (grown_off g2) (row_ne_sits h.keys hX (by decide));have e3:Sits (w2.setCell ⟨b,6,none⟩ K') X 85 cs:=(Below.heap_setCell _ _ _ _ (sits_ne e2 a0 (by decide))).trans e2;have e4:Sits w4 X 85 cs:=Foot.Sits.off e3 (grown_off g4) (row_ne_sits a2 e3 (by decide));exact(Below.heap_setCell _ _ _ _ (sits_ne e4 (h.key3 g2 g4) (by decide))).trans e4
end
theorem own_drew {w:World}{base size n:Nat}{e:TypeId}{v:Value}{xs:List Value}(h:w.ownsRow base e size v n xs)(o:Obj):(w.drew.alloc o).ownsRow base e size v n xs:=by
 have h1:w.drew.ownsRow base e size v n xs:=h;exact h1.alloc o
theorem own_base {w:World}{base size n:Nat}{e:TypeId}{v:Value}{xs:List Value}(h:w.ownsRow 0 e size v n xs)(hb:∀k,v.ownBlock=some k→base≤k):w.ownsRow base e size v n xs:=by
 refine⟨h.1,?_⟩;rcases h.2 with h1|⟨g,cap,cur,h1,_,h3⟩
 ·exact Or.inl h1
 ·exact Or.inr ⟨g,cap,cur,h1,hb g (by rw[h1];rfl),h3⟩
theorem cell_six_new (w:World)(a b c d e f:Value)(t:TypeId):∀j u,[a,b,c,d,e,f][j]? = some u→(w.alloc (.cells #[a,b,c,d,e,f] t)).cell? ((⟨w.heap.size,0,none⟩:Addr).add j)=some u:=by
 intro j u hj
 match j,hj with
 | 0,hj=>simp at hj;subst hj;simp[Addr.add]
 | 1,hj=>simp at hj;subst hj;simp[Addr.add]
 | 2,hj=>simp at hj;subst hj;simp[Addr.add]
 | 3,hj=>simp at hj;subst hj;simp[Addr.add]
 | 4,hj=>simp at hj;subst hj;simp[Addr.add]
 | 5,hj=>simp at hj;subst hj;simp[Addr.add]
 | j+6,hj=>simp at hj
theorem src_sample (w:World)(x:Sx)(t:TypeId)(b:Nat)(hb:b=w.heap.size)(htv:x.tv.oneCell'=true):Apn.Src (w.alloc (.cells #[.string x.nb,.int .u8 x.K,.int .i64 x.v,.string x.wb,.int .i64 x.r,x.tv] t)) 6 (some ⟨b,0,none⟩) 1 [.string x.nb,.int .u8 x.K,.int .i64 x.v,.string x.wb,.int .i64 x.r,x.tv]:=by
 subst hb;refine⟨rfl,fun u hu=>?_,Or.inr ⟨_,rfl,cell_six_new w _ _ _ _ _ _ t⟩⟩;simp only[List.mem_cons,List.not_mem_nil,or_false]at hu;rcases hu with rfl|rfl|rfl|rfl|rfl|rfl
 ·rfl
 ·rfl
 ·rfl
 ·rfl
 ·rfl
 ·exact htv
set_option maxRecDepth 10000 in
theorem take (w0:World)(b:Nat)(c:Fin 6→Int)(s:Rs3)(rej:Nat)(K S:Value)(vs:List Value)(x:Sx)(sa:Option Addr)(sl sc:Nat)(htv:x.tv=.slice sa sl sc)(tags:List (List UInt8))(series sets:Nat)(hser:c 1=(series:Int))(hset:c 2=(sets:Int))(w:World)(h:Rw w0 w b c s.ks s.ss rej s.drp K S vs)(hw0:w0.heap.size≤w.heap.size)
  (hst:Strs w0.heap.size w x.tv tags) (hnb:x.nb.size≤16) (hn:tags.length≤4) (h8:∀y∈tags,y.length≤8) (hks:s.ks.length≤1000) (hdr:s.drp≤1000000000)
  (hrow:∀(i:Nat) l,s.ss[i]? = some l→l.length≤10000000∧(x.K=115→∀k,k≤l.length→(wordsOf (l.take k)).length≤1000)) (key:List UInt8) (hkey:key=B x.nb++[124]++B (ty x.K)++pt tags):
  Calls Tryz.prog 95 #[.pointer (some ⟨b,0,none⟩),.agg #[.string x.nb,.int .u8 x.K,.int .i64 x.v,.string x.wb,.int .i64 x.r,x.tv]] w fun e w'=>e=.returned (.tuple #[])∧Res w0 b c rej (rtake series sets key x s) w w':=by
 have hky:=Ra.key x.nb x.wb x.K x.v x.r sa sl sc tags w0.heap.size;rw[←htv,←hkey]at hky;obtain⟨i0,hi,hz0,hz1,hz2⟩:=info_parts infoStr';obtain⟨j0,hj,hy0,hy1,hy2⟩:=info_parts infoRow';obtain⟨m0,hm,hx0,hx1,hx2⟩:=info_parts infoSmp;have HC1:=hide hser;have HC2:=hide hset;have HROW:=hide hrow;have HTV:=hide htv;have HB1:=hide (below_new (w:=w) (.cells #[.string x.nb,.int .u8 x.K,.int .i64 x.v,.string x.wb,.int .i64 x.r,x.tv] 85));have HH1:=hide (h.keep HB1.out);have HX1:=hide (Sits.new w 85 #[.string x.nb,.int .u8 x.K,.int .i64 x.v,.string x.wb,.int .i64 x.r,x.tv]);have HKY:=hide (hky (w.alloc (.cells #[.string x.nb,.int .u8 x.K,.int .i64 x.v,.string x.wb,.int .i64 x.r,x.tv] 85)) (Strs.kept hst HB1.out) hnb hn h8);have HBW:=hide (HB1.out.mono hw0);clear hser hset hrow hky hst hnb hn h8 h htv hkey;go_enter Tryz.func95,Tryz.ntmps95
 go_upto_region 1 with fail
 obtain⟨X,hX⟩:∃X,w.heap.size=X:=⟨_,rfl⟩;rw[hX]at HX1;rw[hX];clear hX HB1;generalize w.alloc (.cells #[.string x.nb,.int .u8 x.K,.int .i64 x.v,.string x.wb,.int .i64 x.r,x.tv] 85)=w1 at *;obtain⟨b0,b1,b2,b3,b4,b5⟩:=cells6s HX1.out;go_wp2_with fail
 refine HKY.out.mono ?_;clear b0 b1 b2 b3 b4 b5;rintro e w2 ⟨⟨z,rfl,hz⟩,hb2⟩;have HH2:=hide (HH1.out.keep hb2);have HX2:=hide (HX1.out.below hb2 HX1.out.lt);have HB2:=hide (HBW.out.trans (hb2.mono (uK hw0 HBW.out.size)));have HZ:=hide hz;clear HKY HH1 HX1 HBW hb2;obtain⟨c1,c2,c6,c7,c8,c9,f6,f7,f8,f9⟩:=head10 HH2.out.head;have hpl:=place b K s.ks z w2 c6 (own_strs0 HH2.out.keys) hks;rw[hz]at hpl;clear hz;obtain⟨ka,kc,hKs⟩:=own_shape3 HH2.out.keys;have HKS:=hide hKs;rw[hKs]at c6;clear hKs;go_wp2_with fail
 refine hpl.mono ?_;clear hpl;rintro e w' ⟨rfl,hw'⟩;subst w';generalize hi':pl key s.ks=i at *;have HI:=hide hi';clear hi';go_upto_if 19 with fail
 rw[HC1.out]at c1;rw[HC2.out]at c2;have hze:z=⟨key.toArray⟩:=Bytes.B_inj (by rw[HZ.out];rfl);subst hze;have hpll:i≤s.ks.length:=by rw[←HI.out];exact List.findIdx_le_length
 obtain⟨ra,rc,hSs⟩:=own_shape3 HH2.out.rows;have HSS:=hide hSs;have hvl2:vs.length≤1000:=by rw[HH2.out.len];exact hks
 clear hSs;go_cut [] from 8 (fun wx=>∃K2 S2 vs2,i<(rplace key s).ks.length∧Hid (¬(i=s.ks.length∧series≤s.ks.length))∧Hid (Rw w0 wx b c (rplace key s).ks (rplace key s).ss rej s.drp K2 S2 vs2)∧Hid (Sits wx X 85 #[.string x.nb,.int .u8 x.K,.int .i64 x.v,.string x.wb,.int .i64 x.r,x.tv])∧Hid (Below w0.heap.size w wx))
 case first=>
  by_cases hf:i=s.ks.length
  ·have hfb:((i:Int)==(s.ks.length:Int))=true:=by simp[hf]
   by_cases hfull:series≤s.ks.length
   ·have hfz:(series:Int)≤(i:Int):=by omega
    have HE:=hide (show rtake series sets key x s=⟨s.ks,s.ss,s.drp+1⟩ by unfold rtake;rw[HI.out,if_pos ⟨hf,hfull⟩]);have HR9:=hide (HH2.out.set9 (s.drp+1));have HB9:=hide (HB2.out.setCell (p:=⟨b,9,none⟩) HH2.out.far (.int .i64 ((s.drp+1:Nat):Int)));rw[show ((s.drp+1:Nat):Int)=(s.drp:Int)+1 by omega]at HR9 HB9;clear hf;go_wp2_with fail
    try simp only[Exit.inBlock,Exit.then]
    refine bodyPost_ret (results_none rfl _ _ _) rfl ?_;refine⟨rfl,?_⟩;rw[HE.out];exact⟨⟨_,_,_,HR9.out⟩,HB9.out⟩
   ·have hfz:¬(series:Int)≤(i:Int):=by omega
    have HPL:=hide (show rplace key s=⟨s.ks++[key],s.ss++[[]],s.drp⟩ by unfold rplace;rw[HI.out,if_pos hf]);have HNF:=hide (show ¬(i=s.ks.length∧series≤s.ks.length) from fun h=>hfull h.2);have HLI:=hide (show i<s.ks.length+1 by omega);have hown1:w2.ownsRow w0.heap.size 9 1 (.slice ka s.ks.length kc) s.ks.length (enc s.ks):=HKS.out▸HH2.out.keys;have HO1:=hide hown1;have hsz2:=HB2.out.size;clear hown1 hf hfull;go_upto_region 7 with (at_builtin;refine wpList_append_own _ rfl _ _ 36 rfl w0.heap.size 9 i0 (.string ⟨#[]⟩) 1 16 Tryz.underlying36 hi hz0 hz1 hz2 rfl (by decide) _ _ _ rfl (HO1.out.alloc _) ⟨w2.heap.size,0,none⟩ 1 1 [_] rfl rfl (cell_one_new _ _ _) (fun x hx=>by simp at hx;subst hx;rfl) (by unfold maxLen;omega) (by omega) (by simp;omega) ?_;intro K2 w3 o2 g2 n2;have HG2:=hide (show (w2.alloc (.cells #[.string ⟨key.toArray⟩] 9)).grownBy w3 K.ownBlock from by rw[HKS.out];exact g2);have HO2:=hide o2;obtain⟨k2a,k2c,rfl⟩:=own_shape3 o2;have q6:=(head10 (HH2.out.key1 (K':=.slice k2a (s.ks.length+1) k2c) HG2.out).1).2.2.1;have qf:=(head10 (HH2.out.key1 (K':=.slice k2a (s.ks.length+1) k2c) HG2.out).1).2.2.2.2.2.2.1;clear o2 g2 n2)
    have HK2:=hide (HH2.out.key2 (K':=.slice k2a (s.ks.length+1) k2c) HG2.out);have HO3:=hide (show (w3.setCell ⟨b,6,none⟩ (.slice k2a (s.ks.length+1) k2c)).ownsRow w0.heap.size 144 1 (.slice ra vs.length rc) vs.length vs from HSS.out▸HK2.out.2);have q7:=(head10 HK2.out.1).2.2.2.1;rw[HSS.out]at q7;have HSZ3:=hide (show w0.heap.size≤(w3.setCell ⟨b,6,none⟩ (.slice k2a (s.ks.length+1) k2c)).heap.size from by
     have h1:=HG2.out.size;simp at h1 ⊢
     omega)
    clear q6 qf c6 c7 c8 c9 f6 f7 f8 f9 c1 c2;obtain⟨w3b,hw3⟩:∃w',w3.setCell ⟨b,6,none⟩ (.slice k2a (s.ks.length+1) k2c)=w':=⟨_,rfl⟩;rw[hw3]at HK2 HO3 q7 HSZ3 ⊢;have HW3:=hide hw3;clear hw3;go_wp2_with (at_builtin;refine wpList_append_own _ rfl _ _ 93 rfl w0.heap.size 144 j0 (.slice none 0 0) 1 24 Tryz.underlying93 hj hy0 hy1 hy2 rfl (by decide) _ _ _ rfl (HO3.out.alloc _) ⟨w3b.heap.size,0,none⟩ 1 1 [.slice none 0 0] rfl rfl (cell_one_new _ _ _) (fun x hx=>by simp at hx;subst hx;rfl) (by unfold maxLen;omega) (by omega) (by have:=HSZ3.out;simp;omega) ?_;intro S2 w4 o4 g4 n4;have HG4:=hide (show ((w3.setCell ⟨b,6,none⟩ (.slice k2a (s.ks.length+1) k2c)).alloc (.cells #[.slice none 0 0] 144)).grownBy w4 S.ownBlock from by rw[HSS.out,HW3.out];exact g4);have HO4:=hide o4;obtain⟨s2a,s2c,rfl⟩:=own_shape3 o4;have q7b:=(head10 (HH2.out.key3 HG2.out HG4.out)).2.2.2.1;have qfb:=(head10 (HH2.out.key3 HG2.out HG4.out)).2.2.2.2.2.2.2.1;clear o4 g4 n4)
    go_meet
    case rel=>
     have hmore:=HH2.out.more (uK hw0 (by have:=HB2.out.size;omega)) HO2.out HG2.out HO4.out HG4.out;refine⟨_,_,_,by rw[HPL.out,uD];exact HLI.out,HNF.out,by rw[HPL.out];exact hmore.1,HH2.out.box HG2.out HG4.out HX2.out,HB2.out.trans hmore.2⟩
  ·have hfb:((i:Int)==(s.ks.length:Int))=false:=by simp;omega
   have HPL:=hide (show rplace key s=s by unfold rplace;rw[HI.out,if_neg hf]);have HNF:=hide (show ¬(i=s.ks.length∧series≤s.ks.length) from fun h=>hf h.1);have HLI:=hide (show i<s.ks.length by omega);clear hf;go_wp2_with fail
   go_meet
   case rel=>exact⟨K,S,vs,by rw[HPL.out];exact HLI.out,HNF.out,by rw[HPL.out];exact HH2.out,HX2.out,HB2.out⟩
 case rest=>
 obtain⟨K2,S2,vs2,hil,HNF,HR,HX3,HB3⟩:=hcut;have HRT:=hide (show rtake series sets key x s=rin sets x i (rplace key s) by unfold rtake;rw[HI.out,if_neg HNF.out]);have HROWP:=hide (show ∀(j:Nat) l,(rplace key s).ss[j]? = some l→l.length≤10000000∧(x.K=115→∀k,k≤l.length→(wordsOf (l.take k)).length≤1000) by
  intro j l hl;unfold rplace at hl;split at hl
  ·by_cases hj:j<s.ss.length
   ·rw[uG hj]at hl;exact HROW.out j l hl
   ·rw[uF (by omega)]at hl;have:l=[]:=by
     cases hq:j - s.ss.length with
     | zero=>rw[hq]at hl;cases hl;rfl
     | succ n=>rw[hq]at hl;simp at hl
    subst this;exact⟨by simp,fun _ k _=>by simp[wordsOf]⟩
  ·exact HROW.out j l hl)
 have HPD:=hide (show (rplace key s).drp=s.drp by unfold rplace;split<;>rfl);have hpk:(rplace key s).ks.length≤1001:=by
  unfold rplace;split
  ·rw[uD];show s.ks.length+1≤1001;omega
  ·omega
 clear c1 c2 c6 c7 c8 c9 f6 f7 f8 f9 HH2 HX2 HB2 HKS HSS HZ HROW HNF hvl2;generalize rplace key s=p at *;have hvlen:=HR.out.len;have hslen:=HR.out.slen;have hiv:i<vs2.length:=by omega
 obtain⟨v,hv⟩:∃v,vs2[i]? = some v:=⟨_,uC hiv⟩;obtain⟨l,hl⟩:∃l,p.ss[i]? = some l:=⟨_,uC (by omega)⟩;have HV:=hide hv;have HL:=hide hl;have hrl:=HROWP.out i l hl;have HLD:=hide (show p.ss.getD i []=l by rw[List.getD_eq_getElem?_getD,hl];rfl);have hrowv:=HR.out.each i v l hv hl;obtain⟨va,vc,rfl⟩:=own_shape3 hrowv;have HRV:=hide hrowv;obtain⟨SB,Scap,hSeq,hScap,hScell⟩:∃SB Scap,S2=.slice (some ⟨SB,0,none⟩) vs2.length Scap∧vs2.length≤Scap∧wc.cell? ⟨SB,i,none⟩=some (.slice va l.length vc):=by
  rcases HR.out.rows.2 with ⟨_,h0⟩|⟨g,cp,cur,h1,h2,h3,h4,h5,h6,h7⟩
  ·omega
  ·refine⟨g,cp,h1,h4,?_⟩;have hs:Sits wc g 144 cur:=h3;refine hs.cell i _ ?_;have:(cur.toList.take (vs2.length*1))[i]? = some (.slice va l.length vc):=by rw[h7];exact hv
   rw[List.getElem?_take]at this;split at this
   ·simpa using this
   ·cases this
 have HSE:=hide hSeq;obtain⟨c1,c2,c6,c7,c8,c9,f6,f7,f8,f9⟩:=head10 HR.out.head;rw[HC2.out]at c2;rw[hSeq]at c7;have hvz:(i:Int)<(vs2.length:Int):=by omega
 obtain⟨b0,b1,b2,b3,b4,b5⟩:=cells6s HX3.out;have HVL:=hide hvlen;clear hv hl hrowv hSeq hvlen hslen c6;go_upto_if 55 with fail
 go_cut [] from 8 (fun wx=>Hid (¬(x.K=115∧B x.wb∉wordsOf l∧sets≤(wordsOf l).length))∧Hid (Rw w0 wx b c p.ks p.ss rej s.drp K2 S2 vs2)∧Hid (Sits wx X 85 #[.string x.nb,.int .u8 x.K,.int .i64 x.v,.string x.wb,.int .i64 x.r,x.tv])∧Hid (Below w0.heap.size w wx))
 case first=>
  by_cases h115:x.K=115
  ·have hkb:(x.K==115)=true:=by simp[h115]
   have hW:=hrl.2 h115;have hwd:=words _ l wc (smps_of HRV.out) (by omega) hW;have hlw:(wordsOf l).length≤1000:=by have:=hW l.length (uN _);rw[uL]at this;exact this
   have H115:=hide h115;clear h115 hW hrl;go_wp2_with fail
   refine hwd.mono ?_;clear hwd;rintro e w5 ⟨⟨u,rfl,hu⟩,hb5⟩;have HR5:=hide (HR.out.keep hb5);have HX5:=hide (HX3.out.below hb5 HX3.out.lt);have HB5:=hide (HB3.out.trans (hb5.mono (uK hw0 HB3.out.size)));have hhas:=has u (wordsOf l) x.wb w5 hu hlw;obtain⟨ua,uc,rfl⟩:=strs_shape hu;clear c1 c2 c7 c8 c9 f6 f7 f8 f9 b0 b1 b2 b3 b4 b5 hb5 hu hScell;obtain⟨c1,c2,c6,c7,c8,c9,f6,f7,f8,f9⟩:=head10 HR5.out.head;rw[HC2.out]at c2;obtain⟨b0,b1,b2,b3,b4,b5⟩:=cells6s HX5.out;go_wp2_with fail
   refine hhas.mono ?_;clear hhas;rintro e w' ⟨rfl,hw'⟩;subst w';by_cases hmem:B x.wb∈wordsOf l
   ·rw[decide_eq_true hmem];have HNO:=hide (show ¬(x.K=115∧B x.wb∉wordsOf l∧sets≤(wordsOf l).length) from fun h=>h.2.1 hmem);clear hmem;go_wp2_with fail
    go_meet
    case rel=>exact⟨HNO.out,HR5.out,HX5.out,HB5.out⟩
   ·rw[decide_eq_false hmem];by_cases hfull:sets≤(wordsOf l).length
    ·have hfz:(sets:Int)≤((wordsOf l).length:Int):=by omega
     have HE:=hide (show rin sets x i p=⟨p.ks,p.ss,p.drp+1⟩ by unfold rin;rw[HLD.out,if_pos ⟨H115.out,hmem,hfull⟩]);have HR9:=hide (HR5.out.set9 (s.drp+1));have HB9:=hide (HB5.out.setCell (p:=⟨b,9,none⟩) HR5.out.far (.int .i64 ((s.drp+1:Nat):Int)));rw[show ((s.drp+1:Nat):Int)=(s.drp:Int)+1 by omega]at HR9 HB9;clear hmem;go_wp2_with fail
     try simp only[Exit.inBlock,Exit.then]
     refine bodyPost_ret (results_none rfl _ _ _) rfl ?_;refine⟨rfl,?_⟩;rw[HRT.out,HE.out,HPD.out];exact⟨⟨_,_,_,HR9.out⟩,HB9.out⟩
    ·have hfz:¬(sets:Int)≤((wordsOf l).length:Int):=by omega
     have HNO:=hide (show ¬(x.K=115∧B x.wb∉wordsOf l∧sets≤(wordsOf l).length) from fun h=>hfull h.2.2);clear hmem;go_wp2_with fail
     go_meet
     case rel=>exact⟨HNO.out,HR5.out,HX5.out,HB5.out⟩
  ·have hkb:(x.K==115)=false:=by simp[h115]
   have HNO:=hide (show ¬(x.K=115∧B x.wb∉wordsOf l∧sets≤(wordsOf l).length) from fun h=>h115 h.1);clear h115;go_wp2_with fail
   go_meet
   case rel=>exact⟨HNO.out,HR.out,HX3.out,HB3.out⟩
 case rest=>
 clear c1 c2 c7 c8 c9 f6 f7 f8 f9 b0 b1 b2 b3 b4 b5 hScell HRV HR HX3 HB3;obtain⟨HNO,HR,HX3,HB3⟩:=hcut;have HE:=hide (show rin sets x i p=⟨p.ks,p.ss.set i (l++[x]),p.drp⟩ by unfold rin;rw[HLD.out,if_neg HNO.out]);have HRV:=hide (Apn.weaken (HR.out.each i _ l HV.out HL.out));have HRB:=hide (HR.out.each i _ l HV.out HL.out);obtain⟨c1,c2,c6,c7,c8,c9,f6,f7,f8,f9⟩:=head10 HR.out.head;rw[HSE.out]at c7;obtain⟨b0,b1,b2,b3,b4,b5⟩:=cells6s HX3.out;obtain⟨Scs,hScs⟩:=sits_row HR.out.rows (k:=SB) (by rw[HSE.out];simp[Value.ownBlock]);have hScell:wc.cell? ⟨SB,i,none⟩=some (.slice va l.length vc):=by
  rcases HR.out.rows.2 with ⟨h0,_⟩|⟨g,cp,cur,h1,h2,h3,h4,h5,h6,h7⟩
  ·rw[HSE.out]at h0;cases h0
  ·rw[HSE.out]at h1;injection h1 with e1 _ _;injection e1 with e1;injection e1 with e1;subst e1;have hs:Sits wc SB 144 cur:=h3;refine hs.cell i _ ?_;have:(cur.toList.take (vs2.length*1))[i]? = some (.slice va l.length vc):=by rw[h7];exact HV.out
   rw[List.getElem?_take]at this;split at this
   ·simpa using this
   ·cases this
 have HSCS:=hide hScs;have HONE:=hide (show x.tv.oneCell'=true by rw[HTV.out];rfl);have hXl:=HX3.out.lt;have hbl:=HR.out.head.lt;have hSl:=hScs.lt;have hll:=hrl.1;have HSNV:=hide (show SB∉(Value.slice va l.length vc).ownBlock.toList from row_ne_sits HRB.out hScs (by decide));have HHNV:=hide (show b∉(Value.slice va l.length vc).ownBlock.toList from row_ne_sits HRB.out HR.out.head (by decide));clear hScs c1 c2 c6 c8 c9 f6 f8 f9 hrl;go_upto_region 13 with fail
 go_region_law (refine Apn.step_any2 rfl (.tmp 98) (.tmp 100) 144 rfl 85 m0 (.agg #[.string ⟨#[]⟩,.int .u8 0,.int .i64 0,.string ⟨#[]⟩,.int .i64 0,.slice none 0 0]) 6 80 Tryz.underlying144 hm hx0 hx1 hx2 rfl (by decide) (.slice va l.length vc) _ _ rfl (own_drew HRV.out _) _ 1 1 [.string x.nb,.int .u8 x.K,.int .i64 x.v,.string x.wb,.int .i64 x.r,x.tv] rfl (src_sample _ x _ _ rfl HONE.out) (by unfold maxLen;omega) (by omega) ?_;intro v5 x5 o5 gr5 sm5 st5;obtain⟨va5,vc5,rfl⟩:=own_shape3 o5;have ho5:=grown_off (w:=wc.drew) gr5;have y7:=(head10 (Foot.Sits.off (w:=wc.drew) HR.out.head ho5 HHNV.out)).2.2.2.1;rw[HSE.out]at y7;have hS5:=Foot.Sits.off (w:=wc.drew) HSCS.out ho5 HSNV.out;have yf:=hS5.frozen i;have yc:=World.cell?_of_block (w:=wc.drew) (w':=x5) (a:=⟨SB,i,none⟩) (ho5.block SB hSl HSNV.out);rw[show wc.drew.cell? ⟨SB,i,none⟩=some (.slice va l.length vc) from hScell]at yc;have HO5:=hide o5;have HG5:=hide gr5;have HSM:=hide sm5;clear o5 gr5 sm5 st5 hS5 ho5)
 all_goals
  have HPT:=hide (HR.out.drew.put (x:=x) (v':=.slice va5 (l.length+1) vc5) (uK hw0 HB3.out.size) HSE.out HV.out HL.out (by
   refine own_base (by rw[scells_append];exact HO5.out) fun k hk=>?_
   rcases HSM.out with e|⟨g,e,hg⟩
   ·exact(HRB.out.lt k (e▸hk)).1
   ·rw[e]at hk;cases hk
    have:=HB3.out.size;simp at hg
    omega) HG5.out (by
   rcases HSM.out with e|⟨g,e,hg⟩
   ·exact Or.inl e
   ·refine Or.inr ⟨g,e,?_⟩;simp at hg
    show wc.drew.heap.size≤g;simp
    omega))
  go_wp2_with fail
  go_end0
  refine⟨rfl,?_⟩;rw[HRT.out,HE.out,HPD.out];exact⟨⟨_,_,_,HPT.out.1⟩,HB3.out.trans ((Below.refl _ _).drew.trans HPT.out.2)⟩
end Go.Proofs.YtenegfafjjknoaaGreatDoor.Ra
