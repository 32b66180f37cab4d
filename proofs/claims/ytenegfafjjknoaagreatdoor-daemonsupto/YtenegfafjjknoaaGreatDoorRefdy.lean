/- The walks of the document's numerals. -/
import Derived.Test.YtenegfafjjknoaaGreatDoorTextsy
import Derived.Lib.ItoaMem
import Derived.Laws.IdiomStrings
import Derived.Deep.RegionWith
import Derived.BigRegion
set_option maxHeartbeats 100000000
open List renaming takeWhile_cons → uA, take_add_one → uB
namespace Go.Proofs.YtenegfafjjknoaaGreatDoor.Refd
open Go.RowKit Bytes Numw Mem Plain
def one (c:Int):ByteArray:=⟨#[UInt8.ofNat c.toNat]⟩
theorem conv1 (c:Int)(h0:0≤c)(h1:c≤255)(W:World)(g:Nat)(hc:W.cell? ⟨g,0,none⟩=some (.int .u8 c)):
  (convert 97 9 (.slice (some ⟨g,0,none⟩) 1 1)).run Tryz.prog W=.ok (.string (one c)) W:=by
 refine run_convert_bytes_back (P:=Tryz.prog) W 97 9 5 ⟨g,0,none⟩ 1 [UInt8.ofNat c.toNat] Tryz.underlying97 Tryz.underlying5 Tryz.underlying9 fun j hj=>?_
 have hj0:j=0:=by simpa using hj
 subst hj0;have e:((UInt8.ofNat c.toNat).toNat:Int)=c:=by
  rw[UInt8.toNat_ofNat'];omega
 show W.cell? _=some (.int .u8 ((UInt8.ofNat c.toNat).toNat:Int));rw[e];exact hc
theorem B_one (c:Int):B (one c)=[UInt8.ofNat c.toNat]:=rfl
theorem digits_small (v:Int)(h0:0≤v)(h1:v<10)(w:World):
  Calls Tryz.prog 96 #[.int .i64 v] w fun e w'=>(∃z,e=.returned (.string z)∧B z=Lib.decDigits v.toNat)∧Below w.heap.size w w':=by
 have hcv:=conv1 (48+v) (by omega) (by omega);go_enter Tryz.func96,Tryz.ntmps96
 go_wp2_with fail
 go_ret
 refine⟨⟨_,rfl,?_⟩,below_new _⟩;rw[B_one,Lib.decDigits_one (by omega)]
 congr 2
 omega
theorem dec_step {v:Int}(h:10≤v):Lib.decDigits v.toNat=Lib.decDigits (v / 10).toNat++[UInt8.ofNat (48+v % 10).toNat]:=by
 rw[Lib.decDigits,dif_neg (by omega)]
 congr 2
 ·omega
 ·congr 1
  omega
theorem below_d {w w1:World}(h:Below w.drew.heap.size w.drew w1):Below w.heap.size w w1:=⟨h.os,h.tape,h.output,h.size,h.block⟩
theorem below_a {w w1:World}{o:Obj}(h:Below (w.alloc o).drew.heap.size (w.alloc o).drew w1):Below w.heap.size w w1:=
 ((below_new o).drew).trans (h.mono (by simp))
set_option maxRecDepth 100000 in
theorem digits_step (v:Int)(h0:10≤v)(h1:v≤1000000000)(w:World)
  (ih:∀W:World,Calls Tryz.prog 96 #[.int .i64 (v / 10)] W fun e w'=>(∃z,e=.returned (.string z)∧B z=Lib.decDigits (v / 10).toNat∧z.size≤20)∧Below W.heap.size W w'):
  Calls Tryz.prog 96 #[.int .i64 v] w fun e w'=>(∃z,e=.returned (.string z)∧B z=Lib.decDigits v.toNat)∧Below w.heap.size w w':=by
 have HI:=hide ih;clear ih;have hcv:=conv1 (48+v % 10) (by omega) (by omega);have hq:IntKind.i64.wrap (v.tdiv 10)=v / 10:=by
  rw[Int.tdiv_eq_ediv_of_nonneg (by omega)];exact IntWalk.i64_in _ (by omega)
 have hone:(one (48+v % 10)).size=1:=rfl;have hm:v.tmod 10=v % 10:=Int.tmod_eq_emod_of_nonneg (by omega);have ha:IntKind.i64.wrap (48+v % 10)=48+v % 10:=IntWalk.i64_in _ (by omega);have hu:IntKind.u8.wrap (48+v % 10)=48+v % 10:=IntWalk.u8_in _ (by omega);go_enter Tryz.func96,Tryz.ntmps96
 go_wp2_with fail
 go_region_with (go_at_call 96;refine(HI.out _).mono ?_;rintro e w1 ⟨⟨z,rfl,hz,hzz⟩,hb1⟩;try (have hcc:w1.cell? ⟨w.heap.size,0,none⟩=some (.int .u8 (48+v % 10)):=by rw[hb1.cell (p:=⟨w.heap.size,0,none⟩) (by simp)];simp))
 all_goals (go_wp2_with fail;go_ret;refine⟨⟨_,rfl,?_⟩,?_⟩)
 all_goals first|(rw[B_append,hz,B_one];exact(dec_step h0).symm)|exact(below_d hb1).alloc (below_d hb1).size _|exact below_a hb1
theorem digits_up (n:Nat):∀(v:Int),0≤v→v≤1000000000→v.toNat≤n→∀w:World,
  Calls Tryz.prog 96 #[.int .i64 v] w fun e w'=>(∃z,e=.returned (.string z)∧B z=Lib.decDigits v.toNat)∧Below w.heap.size w w':=by
 induction n with
 | zero=>
  intro v h0 h1 hn w;exact digits_small v h0 (by omega) w
 | succ n ih=>
  intro v h0 h1 hn w;by_cases h:v<10
  ·exact digits_small v h0 h w
  ·refine digits_step v (by omega) h1 w fun W=>(ih (v / 10) (by omega) (by omega) (by omega) W).mono fun e w' h=>?_
   obtain⟨⟨z,he,hz⟩,hb⟩:=h;refine⟨⟨z,he,hz,?_⟩,hb⟩;rw[size_B,hz,Lib.decDigits_length];exact Nat.le_trans (nd_le 9 _ (by have:(10:Nat) ^ (9+1)=10000000000:=(by decide);omega)) (by decide)
theorem digits (v:Int)(h0:0≤v)(h1:v≤1000000000)(w:World):
  Calls Tryz.prog 96 #[.int .i64 v] w fun e w'=>(∃z,e=.returned (.string z)∧B z=Lib.decDigits v.toNat∧z.size≤20)∧Below w.heap.size w w':=by
 refine(digits_up v.toNat v h0 h1 (Nat.le_refl _) w).mono fun e w' h=>?_
 obtain⟨⟨z,he,hz⟩,hb⟩:=h;refine⟨⟨z,he,hz,?_⟩,hb⟩;rw[size_B,hz,Lib.decDigits_length];exact Nat.le_trans (nd_le 9 _ (by have:(10:Nat) ^ (9+1)=10000000000:=(by decide);omega)) (by decide)
end Go.Proofs.YtenegfafjjknoaaGreatDoor.Refd
namespace Go.Proofs.YtenegfafjjknoaaGreatDoor.Refs
open Bytes Nums
def tw (t l:List UInt8):List UInt8:=l.takeWhile fun b=>!t.contains b
theorem tw_hit {t l:List UInt8}{j:Nat}{b:UInt8}(hb:l[j]? = some b)(hm:t.contains b=true)(h:(l.take j).all (fun b=>!t.contains b)=true):tw t l=l.take j:=by
 unfold tw
 induction l generalizing j with
 | nil=>simp at hb
 | cons x l ih=>
  cases j with
  | zero=>
   simp at hb
   subst hb;rw[uA,hm];rfl
  | succ j=>
   rw[List.take_succ_cons,List.all_cons,Bool.and_eq_true]at h;rw[uA,h.1,if_pos rfl,List.take_succ_cons,ih (by simpa using hb) h.2]
theorem tw_all {t l:List UInt8}(h:l.all (fun b=>!t.contains b)=true):tw t l=l:=by
 unfold tw
 induction l with
 | nil=>rfl
 | cons x l ih=>
  rw[List.all_cons,Bool.and_eq_true]at h;rw[uA,h.1,if_pos rfl,ih h.2]
def nstep (st:Int×Int×Int)(b:UInt8):Option (Int×Int×Int):=
 if dig b.toNat then
  (if st.2.2<0 then (if 6<st.2.1+1 then none else some (10*st.1+((b.toNat:Int) - 48),st.2.1+1,st.2.2))
  else (if 3<st.2.2+1 then none else some (10*st.1+((b.toNat:Int) - 48),st.2.1,st.2.2+1)))
 else if b=46∧st.2.2<0 then some (st.1,st.2.1,0) else none
def nrun:Int×Int×Int→List UInt8→Option (Int×Int×Int)
 | st,[]=>some st
 | st,b ::l=>(nstep st b).bind fun st'=>nrun st' l
theorem nrun_snoc (l:List UInt8)(b:UInt8):∀st,nrun st (l++[b])=(nrun st l).bind fun st'=>nstep st' b:=by
 induction l with
 | nil=>
  intro st;show (nstep st b).bind (fun st'=>some st')=nstep st b;cases nstep st b<;>rfl
 | cons x l ih=>
  intro st;show (nstep st x).bind (fun st'=>nrun st' (l++[b]))=((nstep st x).bind fun st'=>nrun st' l).bind _;cases nstep st x with
  | none=>rfl
  | some st'=>exact ih st'
theorem nrun_take {s:ByteArray}{k:Nat}(h:k<s.size)(st:Int×Int×Int):nrun st ((B s).take (k+1))=(nrun st ((B s).take k)).bind fun st'=>nstep st' s[k]:=by
 rw[uB,B_get h,Option.toList_some,nrun_snoc]
theorem nrun_append (l m:List UInt8):∀st,nrun st (l++m)=(nrun st l).bind fun st'=>nrun st' m:=by
 induction l with
 | nil=>intro st;rfl
 | cons x l ih=>
  intro st;show (nstep st x).bind (fun st'=>nrun st' (l++m))=((nstep st x).bind fun st'=>nrun st' l).bind _;cases nstep st x with
  | none=>rfl
  | some st'=>exact ih st'
theorem nrun_dead {l:List UInt8}{k:Nat}{st:Int×Int×Int}(h:nrun st (l.take k)=none):nrun st l=none:=by
 rw[←List.take_append_drop k l,nrun_append,h];rfl
def Small (v wh rs:Int):Prop:=(rs<0→v+1≤10 ^ wh.toNat)∧(0≤rs→v+1≤10 ^ (wh.toNat+rs.toNat))
theorem small_zero:Small 0 0 (-1):=⟨fun _=>by decide,fun h=>by omega⟩
theorem pow_nine {n:Nat}(h:n≤9):(10:Int) ^ n≤1000000000:=by
 have e:n=0∨n=1∨n=2∨n=3∨n=4∨n=5∨n=6∨n=7∨n=8∨n=9:=by omega
 rcases e with e|e|e|e|e|e|e|e|e|e<;>rw[e]<;>decide
theorem small_bound {v wh rs:Int}(h:Small v wh rs)(h6:wh≤6)(h3:rs≤3):v≤999999999:=by
 by_cases hr:rs<0
 ·have a:=h.1 hr;have b:=pow_nine (n:=wh.toNat) (by omega);omega
 ·have a:=h.2 (by omega);have b:=pow_nine (n:=wh.toNat+rs.toNat) (by omega);omega
theorem small_lead {v wh rs d:Int}(h:Small v wh rs)(h0:0≤wh)(hr:rs<0)(hd:d≤9):Small (10*v+d) (wh+1) rs:=by
 refine⟨fun _=>?_,fun h'=>by omega⟩;have a:=h.1 hr;rw[show (wh+1).toNat=wh.toNat+1 by omega,Int.pow_succ];omega
theorem small_tail {v wh rs d:Int}(h:Small v wh rs)(hr:0≤rs)(hd:d≤9):Small (10*v+d) wh (rs+1):=by
 refine⟨fun h'=>by omega,fun _=>?_⟩;have a:=h.2 hr;rw[show wh.toNat+(rs+1).toNat=(wh.toNat+rs.toNat)+1 by omega,Int.pow_succ];omega
theorem small_dot {v wh rs:Int}(h:Small v wh rs)(hr:rs<0):Small v wh 0:=by
 refine⟨fun h'=>by omega,fun _=>?_⟩;exact h.1 hr
def nend (st:Int×Int×Int):Int:=
 if st.2.1<1∨st.2.2=0 then -1 else if st.2.2<1 then st.1*1000 else if st.2.2=1 then st.1*100 else if st.2.2=2 then st.1*10 else st.1
def refNum (l:List UInt8):Int:=match nrun (0,0,-1) l with
 | none =>-1
 | some st=>nend st
def Inv (st:Int×Int×Int):Prop:=0≤st.1∧0≤st.2.1∧st.2.1≤6∧-1≤st.2.2∧st.2.2≤3∧Small st.1 st.2.1 st.2.2
theorem nstep_inv {st st':Int×Int×Int}{b:UInt8}(h:Inv st)(hs:nstep st b=some st'):Inv st':=by
 obtain⟨h1,h2,h3,h4,h5,h6⟩:=h;unfold nstep at hs;split at hs
 ·rename_i hd;have hd':=dig_iff.1 hd;split at hs
  ·rename_i hr;split at hs
   ·cases hs
   ·cases hs
    exact⟨by dsimp only;omega,by dsimp only;omega,by dsimp only;omega,h4,h5,small_lead h6 h2 hr (by omega)⟩
  ·split at hs
   ·cases hs
   ·cases hs
    exact⟨by dsimp only;omega,h2,h3,by dsimp only;omega,by dsimp only;omega,small_tail h6 (by omega) (by omega)⟩
 ·split at hs
  ·rename_i hr;cases hs
   exact⟨h1,h2,h3,by dsimp only;omega,by dsimp only;omega,small_dot h6 hr.2⟩
  ·cases hs
theorem nrun_inv (l:List UInt8):∀st st',Inv st→nrun st l=some st'→Inv st':=by
 induction l with
 | nil=>
  intro st st' h hs;cases hs
  exact h
 | cons b l ih=>
  intro st st' h hs;rw[nrun,Option.bind_eq_some_iff]at hs;obtain⟨st1,h1,h2⟩:=hs;exact ih st1 st' (nstep_inv h h1) h2
theorem nend_bound {st:Int×Int×Int}(h:Inv st):-1≤nend st∧nend st≤999999999:=by
 obtain⟨h1,h2,h3,h4,h5,h6⟩:=h;have p6:∀n:Nat,n≤6→(10:Int) ^ n≤1000000:=by
  intro n hn;have e:n=0∨n=1∨n=2∨n=3∨n=4∨n=5∨n=6:=by omega
  rcases e with e|e|e|e|e|e|e<;>rw[e]<;>decide
 have a:=p6 st.2.1.toNat (by omega);unfold nend;split
 ·omega
 ·split
  ·have:=h6.1 (by omega);omega
  ·have b:=h6.2 (by omega);rw[Int.pow_add]at b;split
   ·rename_i e;rw[e]at b;have:(10:Int) ^ (1:Int).toNat=10:=by decide
    rw[this]at b;omega
   ·split
    ·rename_i e;rw[e]at b;have:(10:Int) ^ (2:Int).toNat=100:=by decide
     rw[this]at b;omega
    ·have e:st.2.2=3:=by omega
     rw[e]at b;have:(10:Int) ^ (3:Int).toNat=1000:=by decide
     rw[this]at b;omega
theorem refNum_bound (l:List UInt8):-1≤refNum l∧refNum l≤999999999:=by
 unfold refNum;cases h:nrun (0,0,-1) l with
 | none=>exact⟨by decide,by decide⟩
 | some st=>exact nend_bound (nrun_inv l _ _ ⟨by decide,by decide,by decide,by decide,by decide,small_zero⟩ h)
def rsg (l:List UInt8):Int:=match l with
 | []=>0
 | b ::_=>if b=45 then 45 else if b=43 then 43 else 0
def rrest (l:List UInt8):List UInt8:=if rsg l=0 then l else l.drop 1
def refVal (k l:List UInt8)(rated:Bool):Option (Int×Int×List UInt8):=
 if k=[99] then (if 0≤refNum (rrest l)∧rsg l≠43 then some (99,if rsg l=45 then -refNum (rrest l) else refNum (rrest l),[]) else none)
 else if k=[103] then (if 0≤refNum (rrest l)∧rated=false then some (if rsg l=0 then 103 else 100,if rsg l=45 then -refNum (rrest l) else refNum (rrest l),[]) else none)
 else if k=[115] then (if made let_ 16 l=true∧rated=false then some (115,0,l) else none)
 else if k=[109,115]∨k=[104] then (if 0≤refNum (rrest l)∧rsg l=0 then some (109,refNum (rrest l),[]) else none)
 else none
end Go.Proofs.YtenegfafjjknoaaGreatDoor.Refs
namespace Go.Proofs.YtenegfafjjknoaaGreatDoor.Refw
open Go.RowKit Bytes Nums Refs Numw
theorem not_in {t:ByteArray}{k:Nat}{b:UInt8}(hk:k<t.size)(h:((B t).take k).contains b=false)(hb:¬(b.toNat:Int)=(t[k].toNat:Int)):((B t).take (k+1)).contains b=false:=by
 rw[uB,B_get hk,Option.toList_some,List.contains_append,h];have:b≠t[k]:=by
  rintro rfl;exact hb rfl
 simp[this]
theorem is_in {t:ByteArray}{k:Nat}{b:UInt8}(hk:k<t.size)(hb:(b.toNat:Int)=(t[k].toNat:Int)):(B t).contains b=true:=by
 have e:b=t[k]:=by
  apply UInt8.toNat_inj.1
  omega
 rw[e];simp only[List.contains_iff_mem];exact List.mem_of_getElem? (B_get hk)
theorem drop_get {s:ByteArray}{a i:Nat}(ha:a≤i)(hi:i<s.size):((B s).drop a)[i - a]? = some s[i]:=by
 rw[List.getElem?_drop,show a+(i - a)=i by omega,B_get hi]
theorem free_step {s t:ByteArray}{a i:Nat}(ha:a≤i)(hi:i<s.size)(h:(((B s).drop a).take (i - a)).all (fun b=>!(B t).contains b)=true)(hb:(B t).contains s[i]=false):(((B s).drop a).take (i+1 - a)).all (fun b=>!(B t).contains b)=true:=by
 rw[show i+1 - a=(i - a)+1 by omega,uB,drop_get ha hi,Option.toList_some,List.all_append,h];simp only[List.all_cons,List.all_nil,hb];rfl
theorem upTo (s t:ByteArray)(a:Nat)(ha:a≤s.size)(hs:s.size≤140737488355328)(ht:t.size≤2)(w:World):
  Calls Tryz.prog 80 #[.string s,.int .i64 a,.string t] w fun e w'=>(∃z,e=.returned (.tuple #[.string z,.int .i64 ((a+z.size:Nat):Int)])∧B z=tw (B t) ((B s).drop a)∧a+z.size≤s.size)∧∃n,w'=w.drewN n:=by
 go_enter Tryz.func80,Tryz.ntmps80
 go_wp2_with fail
 go_loopw [8] (fun s8 wr=>∃(i n:Nat),s8=.int .i64 (i:Int)∧a≤i∧i≤s.size∧wr=w.drewN n∧Hid ((((B s).drop a).take (i - a)).all (fun b=>!(B t).contains b)=true))
  (fun s8 _=>s.size - (intOf s8).toNat)
 case atStart=>exact⟨a,0,rfl,Nat.le_refl _,by omega,rfl,by rw[Nat.sub_self];rfl⟩
 case round=>
  obtain⟨i,n,rfl,hai,hj,rfl,HA⟩:=hrel;by_cases hlt:i<s.size
  ·have hltz:(i:Int)<(s.size:Int):=by omega
   go_wp2_with fail
   go_loopw [9] (fun s9 wr=>∃(k m:Nat),s9=.int .i64 (k:Int)∧k≤t.size∧wr=w.drewN m∧Hid (((B t).take k).contains s[i]=false))
    (fun s9 _=>t.size - (intOf s9).toNat)
   case atStart=>exact⟨0,n,rfl,Nat.zero_le _,rfl,rfl⟩
   case round=>
    obtain⟨k,m,rfl,hk,rfl,HK⟩:=hrel;by_cases hkt:k<t.size
    ·have hktz:(k:Int)<(t.size:Int):=by omega
     go_wp2_with fail
     go_quiet (fail)
     by_cases hb:(s[i].toNat:Int)=(t[k].toNat:Int)
     ·have hbe:((s[i].toNat:Int)==(t[k].toNat:Int))=true:=by simpa using hb
      go_wp2_with fail
      go_ret2
      have hz:a+(s.extract a i).size=i:=by
       rw[ByteArray.size_extract];omega
      refine⟨⟨s.extract a i,by rw[hz];rfl,?_,by omega⟩,_,rfl⟩;rw[B_extract];exact(tw_hit (drop_get hai hlt) (is_in hkt hb) HA.out).symm
     ·have hbe:((s[i].toNat:Int)==(t[k].toNat:Int))=false:=by simpa using hb
      go_wp2_with fail
      go_roundw
      case rel=>exact⟨k+1,_,by go_num,by omega,rfl,not_in hkt HK.out hb⟩
      case measure=>simp[intOf];omega
    ·have hktz:¬(k:Int)<(t.size:Int):=by omega
     have hkk:k=t.size:=by omega
     have hfree:(B t).contains s[i]=false:=by
      have:=HK.out;rwa [hkk,size_B,List.take_length]at this
     have HF:=hide hfree;clear hfree hkk;go_wp2_with fail
     go_roundw
     case rel=>exact⟨i+1,_,by go_num,by omega,by omega,rfl,free_step hai hlt HA.out HF.out⟩
     case measure=>simp[intOf];omega
  ·have hltz:¬(i:Int)<(s.size:Int):=by omega
   go_wp2_with fail
   go_ret2
   have hi:i=s.size:=by omega
   have hz:a+(s.extract a s.size).size=i:=by
    rw[ByteArray.size_extract];omega
   refine⟨⟨s.extract a s.size,congrArg (fun x:Int=>Ending.returned (.tuple #[.string (s.extract a s.size),.int .i64 x])) (by omega),?_,by omega⟩,_,rfl⟩;have e:B (s.extract a s.size)=(B s).drop a:=by
    rw[B_extract,List.take_of_length_le];rw[List.length_drop,size_B];exact Nat.le_refl _
   rw[e];refine(tw_all ?_).symm;have:=HA.out;rw[hi,List.take_of_length_le]at this
   ·exact this
   ·rw[List.length_drop,size_B];exact Nat.le_refl _
def wch (dots:Bool)(c:Int):Bool:=let_ c||(dots&&c==46)
theorem wch_f (c:Int):wch false c=let_ c:=by simp[wch]
theorem wch_t (c:Int):wch true c=nam c:=by simp[wch,nam]
theorem wch_bad {dots:Bool}{c:Int}(h1:let_ c=false)(h2:dots=false∨¬c=46):wch dots c=false:=by
 rcases h2 with h|h<;>simp[wch,h1,h]
theorem wch_letter {dots:Bool}{c:Int}(h1:let_ c=true):wch dots c=true:=by
 simp[wch,h1]
theorem wch_dot {c:Int}(h:c=46):wch true c=true:=by
 simp[wch,h]
theorem word (s:ByteArray)(most:Int)(dots:Bool)(hs:s.size≤140737488355328)(w:World):
  Calls Tryz.prog 81 #[.string s,.int .i64 most,.bool dots] w fun e w'=>e=.returned (.bool (made (wch dots) most (B s)))∧w=w':=by
 by_cases h0:s.size=0
 ·have h0z:((s.size:Int))<1:=by omega
  have he:s.toList.isEmpty=true:=by
   rw[B_nil];exact List.eq_nil_of_length_eq_zero (by rw[←size_B];exact h0)
  have hm:=made_empty (p:=wch dots) (most:=most) he;have HM:=hide hm;clear hm he h0;go_enter Tryz.func81,Tryz.ntmps81
  go_wp2_with fail
  go_ret
  exact Leaf.ret_bool HM.out.symm
 ·have h0z:¬((s.size:Int))<1:=by omega
  have he:s.toList.isEmpty=false:=by
   cases hc:s.toList.isEmpty with
   | false=>rfl
   | true=>
    rw[B_nil]at hc;rw[size_B,hc]at h0;exact absurd rfl h0
  have HE:=hide he;clear he;by_cases h1:most<(s.size:Int)
  ·go_enter Tryz.func81,Tryz.ntmps81
   go_wp2_with fail
   go_ret
   exact Leaf.ret_bool (made_long h1).symm
  ·go_enter Tryz.func81,Tryz.ntmps81
   go_wp2_with fail
   go_loop [7] (fun i=>∃k:Nat,i=.int .i64 k∧k≤s.size∧Hid (((B s).take k).all fun b=>wch dots b.toNat))
    (fun i=>s.size - (intOf i).toNat)
   case atStart=>exact⟨0,rfl,Nat.zero_le _,rfl⟩
   case round=>
    obtain⟨k,rfl,hk,HD⟩:=hrel;by_cases hlt:k<s.size
    ·have hltz:(k:Int)<(s.size:Int):=by omega
     cases hl:let_ (s[k].toNat:Int) with
     | true=>
      have HL:=hide hl;go_wp2_with (go_at_call 138;refine(Leaf.refLetter _ _).mono ?_;rintro e w' ⟨rfl,rfl⟩)
      go_round
      case rel=>exact⟨k+1,by go_num,by omega,all_step hlt HD.out (wch_letter HL.out)⟩
      case measure=>simp[intOf];omega
     | false=>
      cases dots with
      | false=>
       go_wp2_with (go_at_call 138;refine(Leaf.refLetter _ _).mono ?_;rintro e w' ⟨rfl,rfl⟩)
       go_ret
       exact Leaf.ret_bool (made_bad hlt (wch_bad hl (Or.inl rfl))).symm
      | true=>
       by_cases hd:(s[k].toNat:Int)=46
       ·have hdn:((s[k].toNat:Int) != 46)=false:=by simpa using hd
        have HL:=hide hd;clear hd;go_wp2_with (go_at_call 138;refine(Leaf.refLetter _ _).mono ?_;rintro e w' ⟨rfl,rfl⟩)
        go_round
        case rel=>exact⟨k+1,by go_num,by omega,all_step hlt HD.out (wch_dot HL.out)⟩
        case measure=>simp[intOf];omega
       ·have hdn:((s[k].toNat:Int) != 46)=true:=by simpa using hd
        go_wp2_with (go_at_call 138;refine(Leaf.refLetter _ _).mono ?_;rintro e w' ⟨rfl,rfl⟩)
        go_ret
        exact Leaf.ret_bool (made_bad hlt (wch_bad hl (Or.inr hd))).symm
    ·have hltz:¬(k:Int)<(s.size:Int):=by omega
     have hk2:k=s.size:=by omega
     subst hk2;go_wp2_with fail
     go_ret
     exact Leaf.ret_bool (made_good HE.out (by omega) HD.out).symm
end Go.Proofs.YtenegfafjjknoaaGreatDoor.Refw
namespace Go.Proofs.YtenegfafjjknoaaGreatDoor.Refn
open Go.RowKit Bytes Nums Refs Numw
theorem nstep_lead {st:Int×Int×Int}{b:UInt8}(hd:dig b.toNat=true)(h:st.2.2<0)(h6:¬6<st.2.1+1):nstep st b=some (10*st.1+((b.toNat:Int) - 48),st.2.1+1,st.2.2):=by
 rw[nstep,if_pos hd,if_pos h,if_neg h6]
theorem nstep_lead7 {st:Int×Int×Int}{b:UInt8}(hd:dig b.toNat=true)(h:st.2.2<0)(h6:6<st.2.1+1):nstep st b=none:=by
 rw[nstep,if_pos hd,if_pos h,if_pos h6]
theorem nstep_tail {st:Int×Int×Int}{b:UInt8}(hd:dig b.toNat=true)(h:¬st.2.2<0)(h3:¬3<st.2.2+1):nstep st b=some (10*st.1+((b.toNat:Int) - 48),st.2.1,st.2.2+1):=by
 rw[nstep,if_pos hd,if_neg h,if_neg h3]
theorem nstep_tail4 {st:Int×Int×Int}{b:UInt8}(hd:dig b.toNat=true)(h:¬st.2.2<0)(h3:3<st.2.2+1):nstep st b=none:=by
 rw[nstep,if_pos hd,if_neg h,if_pos h3]
theorem nstep_dot {st:Int×Int×Int}{b:UInt8}(hb:(b.toNat:Int)=46)(h:st.2.2<0):nstep st b=some (st.1,st.2.1,0):=by
 have e:b=46:=by
  apply UInt8.toNat_inj.1
  show b.toNat=46;omega
 subst e;rw[nstep,if_neg (by decide),if_pos ⟨rfl,h⟩]
theorem nstep_bad {st:Int×Int×Int}{b:UInt8}(hd:dig b.toNat=false)(h:¬((b.toNat:Int)=46∧st.2.2<0)):nstep st b=none:=by
 rw[nstep,hd];have e:¬(b=46∧st.2.2<0):=by
  rintro⟨rfl,h2⟩;exact h ⟨rfl,h2⟩
 simp only[Bool.false_eq_true,if_false,if_neg e]
theorem dead {s:ByteArray}{k:Nat}{v wh rs:Int}(hk:k<s.size)(h:nrun (0,0,-1) ((B s).take k)=some (v,wh,rs))(hb:nstep (v,wh,rs) s[k]=none):refNum (B s) = -1:=by
 have e:nrun (0,0,-1) ((B s).take (k+1))=none:=by
  rw[nrun_take hk,h];exact hb
 rw[refNum,nrun_dead e]
theorem alive {s:ByteArray}{k:Nat}{v wh rs:Int}{st:Int×Int×Int}(hk:k<s.size)(h:nrun (0,0,-1) ((B s).take k)=some (v,wh,rs))(hb:nstep (v,wh,rs) s[k]=some st):nrun (0,0,-1) ((B s).take (k+1))=some st:=by
 rw[nrun_take hk,h];exact hb
theorem done {s:ByteArray}{v wh rs:Int}(h:nrun (0,0,-1) ((B s).take s.size)=some (v,wh,rs)):refNum (B s)=nend (v,wh,rs):=by
 rw[size_B,List.take_length]at h;rw[refNum,h]
theorem ret_int {a b:Int}{w:World}(h:a=b):Ending.returned (.int .i64 a)=Ending.returned (.int .i64 b)∧w=w:=⟨by rw[h],rfl⟩
theorem number (s:ByteArray)(hs:s.size≤140737488355328)(w:World):
  Calls Tryz.prog 82 #[.string s] w fun e w'=>e=.returned (.int .i64 (refNum (B s)))∧w=w':=by
 go_enter Tryz.func82,Tryz.ntmps82
 go_wp2_with fail
 go_loop [3,4,5,6] (fun s3 s4 s5 s6=>∃(k:Nat) (v wh rs:Int),s3=.int .i64 v∧s4=.int .i64 wh∧s5=.int .i64 rs∧s6=.int .i64 k∧k≤s.size∧0≤wh∧wh≤6∧-1≤rs∧rs≤3∧0≤v∧v≤999999999999999∧Hid (nrun (0,0,-1) ((B s).take k)=some (v,wh,rs)∧Small v wh rs))
  (fun _ _ _ s6=>s.size - (intOf s6).toNat)
 case atStart=>exact⟨0,0,0,-1,rfl,rfl,rfl,rfl,Nat.zero_le _,by omega,by omega,by omega,by omega,by omega,by omega,⟨rfl,small_zero⟩⟩
 case round=>
  obtain⟨k,v,wh,rs,rfl,rfl,rfl,rfl,hk,a1,a2,a3,a4,a5,a6,HN⟩:=hrel;by_cases hlt:k<s.size
  ·have hltz:(k:Int)<(s.size:Int):=by omega
   cases hd:dig (s[k].toNat:Int) with
   | true=>
    have hdb:=dig_iff.1 hd;have HD:=hide hd;by_cases hr:rs<0
    ·by_cases h6:6<wh+1
     ·go_wp2_with (go_at_call 139;refine(Leaf.refDigit _ _).mono ?_;rintro e w' ⟨rfl,rfl⟩)
      go_ret
      exact ret_int (dead hlt HN.out.1 (nstep_lead7 HD.out hr h6)).symm
     ·go_wp2_with (go_at_call 139;refine(Leaf.refDigit _ _).mono ?_;rintro e w' ⟨rfl,rfl⟩)
      go_round
      case rel=>
       have hsm:=small_lead HN.out.2 a1 hr (d:=(s[k].toNat:Int) - 48) (by omega);have hb:=small_bound hsm (by omega) (by omega);exact⟨k+1,10*v+((s[k].toNat:Int) - 48),wh+1,rs,congrArg (Value.int .i64) (by omega),rfl,rfl,by go_num,by omega,by omega,by omega,by omega,by omega,by omega,by omega,⟨alive hlt HN.out.1 (nstep_lead HD.out (by dsimp only;omega) (by dsimp only;omega)),hsm⟩⟩
      case measure=>simp[intOf];omega
    ·by_cases h3:3<rs+1
     ·go_wp2_with (go_at_call 139;refine(Leaf.refDigit _ _).mono ?_;rintro e w' ⟨rfl,rfl⟩)
      go_ret
      exact ret_int (dead hlt HN.out.1 (nstep_tail4 HD.out (by dsimp only;omega) h3)).symm
     ·go_wp2_with (go_at_call 139;refine(Leaf.refDigit _ _).mono ?_;rintro e w' ⟨rfl,rfl⟩)
      go_round
      case rel=>
       have hsm:=small_tail HN.out.2 (by omega:0≤rs) (d:=(s[k].toNat:Int) - 48) (by omega);have hb:=small_bound hsm (by omega) (by omega);exact⟨k+1,10*v+((s[k].toNat:Int) - 48),wh,rs+1,congrArg (Value.int .i64) (by omega),rfl,rfl,by go_num,by omega,by omega,by omega,by omega,by omega,by omega,by omega,⟨alive hlt HN.out.1 (nstep_tail HD.out (by dsimp only;omega) (by dsimp only;omega)),hsm⟩⟩
      case measure=>simp[intOf];omega
   | false=>
    by_cases hb:(s[k].toNat:Int)=46
    ·have hbe:((s[k].toNat:Int)==46)=true:=by simpa using hb
     have HB:=hide hb;clear hb;by_cases hr:rs<0
     ·go_wp2_with (go_at_call 139;refine(Leaf.refDigit _ _).mono ?_;rintro e w' ⟨rfl,rfl⟩)
      go_round
      case rel=>
       exact⟨k+1,v,wh,0,rfl,rfl,rfl,by go_num,by omega,by omega,by omega,by omega,by omega,by omega,by omega,⟨alive hlt HN.out.1 (nstep_dot HB.out hr),small_dot HN.out.2 hr⟩⟩
      case measure=>simp[intOf];omega
     ·go_wp2_with (go_at_call 139;refine(Leaf.refDigit _ _).mono ?_;rintro e w' ⟨rfl,rfl⟩)
      go_ret
      exact ret_int (dead hlt HN.out.1 (nstep_bad hd (fun h=>by have:=h.2;dsimp only at this;omega))).symm
    ·have hbe:((s[k].toNat:Int)==46)=false:=by simpa using hb
     go_wp2_with (go_at_call 139;refine(Leaf.refDigit _ _).mono ?_;rintro e w' ⟨rfl,rfl⟩)
     go_ret
     exact ret_int (dead hlt HN.out.1 (nstep_bad hd (fun h=>hb h.1))).symm
  ·have hltz:¬(k:Int)<(s.size:Int):=by omega
   have hkk:k=s.size:=by omega
   subst hkk;have hE:=done HN.out.1;have HE:=hide hE;clear hE;by_cases hw1:wh<1
   ·go_wp2_with fail
    go_ret
    refine ret_int ?_;rw[HE.out,nend,if_pos (Or.inl hw1)]
   ·by_cases hr0:rs=0
    ·have hr0e:(rs==0)=true:=by simpa using hr0
     go_wp2_with fail
     go_ret
     refine ret_int ?_;rw[HE.out,nend,if_pos (Or.inr hr0)]
    ·have hr0e:(rs==0)=false:=by simpa using hr0
     have hsb:=small_bound HN.out.2 (by omega) (by omega);have hcases:rs = -1∨rs=1∨rs=2∨rs=3:=by omega
     have hend:refNum (B s)=(if rs = -1 then v*1000 else if rs=1 then v*100 else if rs=2 then v*10 else v):=by
      rw[HE.out,nend,if_neg (by dsimp only;omega)]
      dsimp only
      rcases hcases with e|e|e|e<;>rw[e]<;>rfl
     have HEND:=hide hend;clear hend HE HN;rcases hcases with e|e|e|e
     all_goals subst e
     ·go_wp2_with fail
      go_rounds 5
      go_ret
      refine ret_int ?_;rw[HEND.out];simp
      omega
     ·go_wp2_with fail
      go_rounds 3
      go_ret
      refine ret_int ?_;rw[HEND.out];simp
      omega
     ·go_wp2_with fail
      go_rounds 2
      go_ret
      refine ret_int ?_;rw[HEND.out];simp
      omega
     ·go_wp2_with fail
      go_rounds 1
      go_ret
      refine ret_int ?_;rw[HEND.out,if_neg (by decide),if_neg (by decide),if_neg (by decide)]
end Go.Proofs.YtenegfafjjknoaaGreatDoor.Refn
