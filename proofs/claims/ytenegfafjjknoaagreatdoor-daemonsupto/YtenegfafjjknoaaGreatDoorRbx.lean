/- The document's small functions: buckets, bounds, places, words, keys. The document's keys, and quantiles. The document's piles. The document's piles are the program's buckets. No Go in sight. -/
import Derived.Test.YtenegfafjjknoaaGreatDoorRa
import Derived.Test.YtenegfafjjknoaaGreatDoorRefiy
import Derived.Test.YtenegfafjjknoaaGreatDoorCqy
import Derived.WalkLawsBesides
import Derived.Handy
import Derived.Deep.QuietTactic
import Derived.BigQuiet
import Derived.Deep.Cut
import Derived.BigRegion
set_option maxHeartbeats 100000000
open List renaming getElem?_eq_getElem → uA, getElem?_eq_some_iff → uB, getElem?_cons_succ → uC, mem_cons_of_mem → uD, length_append → uE, mem_cons_self → uF, take_add_one → uG, mem_singleton → uI
open Nat renaming lt_of_lt_of_le → uH
namespace Go.Proofs.YtenegfafjjknoaaGreatDoor.Ra
open Go.RowKit Mem Foot
section
open Bnd
theorem refBucket0 (v:Int)(w:World):
  Calls Tryz.prog 257 #[.int .i64 v] w fun e w'=>(∃n s,e=.returned (.tuple #[.int .i64 n,.int .i64 s])∧IsB v n s)∧Below w.heap.size w w':=by
 by_cases c0:v<0
 ·go_enter Tryz.func257,Tryz.ntmps257
  go_wp2
  go_ret2
  exact⟨⟨_,_,rfl,Or.inl ⟨Or.inl c0,rfl,rfl⟩⟩,Below.refl _ _⟩
 ·by_cases c1:1000000000<v
  ·go_enter Tryz.func257,Tryz.ntmps257
   go_wp2
   go_ret2
   exact⟨⟨_,_,rfl,Or.inl ⟨Or.inr c1,rfl,rfl⟩⟩,Below.refl _ _⟩
  ·go_enter Tryz.func257,Tryz.ntmps257
   go_wp2
   go_loop [4,5,6] (fun lo hi n=>∃(l h:Int) (k:Nat),lo=.int .i64 l∧hi=.int .i64 h∧n=.int .i64 k∧0≤l∧l≤v∧l<h∧h≤2000000000∧(k:Int)≤l∧Hid (l=bnd k∧h=bnd (k+1)))
    (fun _ hi _=>(v+1 - intOf hi).toNat)
   case atStart=>exact⟨0,1,0,rfl,rfl,rfl,by omega,by omega,by omega,by omega,by omega,⟨rfl,rfl⟩⟩
   case round=>
    obtain⟨l,h,k,rfl,rfl,rfl,p1,p2,p3,p4,p5,HD⟩:=hrel;have r1:l≤1000000000:=by omega
    obtain⟨q1,q2⟩:=stand_room p1 r1 (by omega:0≤h) p4;go_wp2
    ·have t1:h≤v:=by assumption
     have t2:51*h / 49≤h:=by assumption
     have hn:h+1=nxt h:=by
      unfold nxt;omega
     go_round
     case rel=>exact⟨h,h+1,k+1,rfl,rfl,by go_num,by omega,t1,by omega,by omega,by omega,⟨HD.out.2,by rw[hn,HD.out.2];rfl⟩⟩
     case measure=>simp only[intOf];omega
    ·have t1:h≤v:=by assumption
     have t2:h<51*h / 49:=by assumption
     have hn:51*h / 49=nxt h:=by
      unfold nxt;omega
     go_round
     case rel=>exact⟨h,51*h / 49,k+1,rfl,rfl,by go_num,by omega,t1,by omega,by omega,by omega,⟨HD.out.2,by rw[hn,HD.out.2];rfl⟩⟩
     case measure=>simp only[intOf];omega
    ·have t1:v<h:=by assumption
     go_quiet (fail)
     go_wp2
     go_ret2
     refine⟨⟨_,_,rfl,Or.inr ⟨by omega,by omega,k,rfl,?_,?_,?_⟩⟩,?_⟩
     ·rw[←HD.out.1];exact p2
     ·rw[←HD.out.2];exact t1
     ·rw[←HD.out.1,←HD.out.2];rfl
     ·exact below_drewN' (Below.refl _ _)
end
open Bytes Tagw Refi Reft Wm Cq
theorem refBucket (v:Int)(w:World):
  Calls Tryz.prog 257 #[.int .i64 v] w fun e w'=>e=.returned (.tuple #[.int .i64 (bk v).1,.int .i64 (bk v).2])∧Below w.heap.size w w':=
 (refBucket0 v w).mono fun e w' ⟨⟨n,s,he,hb⟩,hg⟩=>⟨by rw[he,bk_of hb],hg⟩
theorem bound (v:Int)(w:World):Calls Tryz.prog 154 #[.int .i64 v] w fun e w'=>e=.returned (.int .i64 (Wm.bnd v))∧w'=w:=by
 by_cases h1:1000000000000000<v
 ·have e:Wm.bnd v=1000000000000000:=by unfold Wm.bnd Wm.top;omega
  rw[e];go_enter Tryz.func154,Tryz.ntmps154
  go_wp2_with fail
  go_ret
  exact⟨rfl,rfl⟩
 ·by_cases h2:v < -1000000000000000
  ·have e:Wm.bnd v = -1000000000000000:=by unfold Wm.bnd Wm.top;omega
   rw[e];go_enter Tryz.func154,Tryz.ntmps154
   go_wp2_with fail
   go_ret
   exact⟨rfl,rfl⟩
  ·have e:Wm.bnd v=v:=by unfold Wm.bnd Wm.top;omega
   rw[e];go_enter Tryz.func154,Tryz.ntmps154
   go_wp2_with fail
   go_ret
   exact⟨rfl,rfl⟩
def pl (t:List UInt8)(ls:List (List UInt8)):Nat:=ls.findIdx fun x=>x==t
theorem strs_cell {lo:Nat}{w:World}{v:Value}{ls:List (List UInt8)}(h:Strs lo w v ls){k:Nat}{x:List UInt8}(hx:ls[k]? = some x):∃g cap,v=.slice (some ⟨g,0,none⟩) ls.length cap∧lo≤g∧g<w.heap.size∧ls.length≤cap∧w.cell? ⟨g,k,none⟩=some (.string ⟨x.toArray⟩):=by
 rcases h with ⟨rfl,_⟩|⟨g,cap,h1,h2,h3,h4,h5⟩
 ·simp at hx
 ·exact⟨g,cap,h1,h2,h3,h4,h5 k x hx⟩
theorem strs_shape {lo:Nat}{w:World}{v:Value}{ls:List (List UInt8)}(h:Strs lo w v ls):∃a cap,v=.slice a ls.length cap:=by
 rcases h with ⟨rfl,rfl⟩|⟨g,cap,h1,_⟩
 ·exact⟨_,_,rfl⟩
 ·exact⟨_,_,h1⟩
theorem pl_not {t:List UInt8}{ls:List (List UInt8)}(h:∀(j:Nat) x,ls[j]? = some x→x≠t):pl t ls=ls.length:=by
 unfold pl;rw[List.findIdx_eq_length];intro x hx;obtain⟨j,hj⟩:=List.getElem?_of_mem hx;simpa using h j x hj
theorem pl_at {t:List UInt8}{ls:List (List UInt8)}{k:Nat}(hk:ls[k]? = some t)(h:∀(j:Nat) x,j<k→ls[j]? = some x→x≠t):pl t ls=k:=by
 unfold pl;have hl:=(uB.1 hk).1;rw[List.findIdx_eq hl];refine⟨by have:=(uB.1 hk).2;simp[this],fun j hj=>?_⟩;have:=h j ls[j] hj (uA (by omega));simpa using this
set_option maxRecDepth 10000 in
theorem place (b:Nat)(K:Value)(ks:List (List UInt8))(t:ByteArray)(w:World)(hc:w.cell? ⟨b,6,none⟩=some K)(hst:Strs 0 w K ks)(hn:ks.length≤1000):
  Calls Tryz.prog 98 #[.pointer (some ⟨b,0,none⟩),.string t] w fun e w'=>e=.returned (.int .i64 (pl (B t) ks:Int))∧w'=w:=by
 have HST:=hide hst;obtain⟨a,cap,rfl⟩:=strs_shape hst;clear hst;go_enter Tryz.func98,Tryz.ntmps98
 go_wp2_with fail
 go_loopw [5] (fun i wr=>∃k:Nat,i=.int .i64 (k:Int)∧k≤ks.length∧wr=w∧Hid (∀(j:Nat) x,j<k→ks[j]? = some x→x≠B t)) (fun i _=>ks.length - (intOf i).toNat)
 case atStart=>exact⟨0,rfl,by omega,rfl,fun j x h=>by omega⟩
 case round=>
  obtain⟨k,rfl,hk,rfl,HI⟩:=hrel;by_cases hkl:k<ks.length
  ·have hkz:(k:Int)<(ks.length:Int):=by omega
   obtain⟨x,hx⟩:∃x,ks[k]? = some x:=⟨_,uA hkl⟩;obtain⟨g,cp,hv,_,_,hcp,hcell⟩:=strs_cell HST.out hx;injection hv with e1 em e2;clear em;subst e1;subst e2;have HX:=hide hx;clear hx;by_cases he:x=B t
   ·have ht:(⟨x.toArray⟩:ByteArray)=t:=Bytes.B_inj (by rw[←he];rfl);rw[ht]at hcell;have HE:=hide he;clear he ht;go_wp2_with fail
    go_ret
    refine⟨?_,rfl⟩;rw[pl_at (k:=k) (by rw[←HE.out];exact HX.out) HI.out];rfl
   ·have ht:(x==t.toList)=false:=by
     rw[Lib.toList_data];exact beq_eq_false_iff_ne.2 he
    have HE:=hide he;clear he;go_wp2_with fail
    go_roundw
    case rel=>
     refine⟨k+1,by go_num,by omega,trivial,fun j y hj hy=>?_⟩;by_cases e:j=k
     ·subst e;rw[HX.out]at hy;cases hy
      exact HE.out
     ·exact HI.out j y (by omega) hy
    case measure=>simp only[intOf];omega
  ·have hkz:¬(k:Int)<(ks.length:Int):=by omega
   have hk2:k=ks.length:=by omega
   subst hk2;go_wp2_with fail
   go_ret
   refine⟨?_,rfl⟩;rw[pl_not fun j x hx=>HI.out j x (uB.1 hx).1 hx];rfl
set_option maxRecDepth 10000 in
theorem has (K:Value)(ks:List (List UInt8))(t:ByteArray)(w:World)(hst:Strs 0 w K ks)(hn:ks.length≤1000):
  Calls Tryz.prog 152 #[K,.string t] w fun e w'=>e=.returned (.bool (decide (B t∈ks)))∧w'=w:=by
 have HST:=hide hst;obtain⟨a,cap,rfl⟩:=strs_shape hst;clear hst;go_enter Tryz.func152,Tryz.ntmps152
 go_wp2_with fail
 go_loopw [5] (fun i wr=>∃k:Nat,i=.int .i64 (k:Int)∧k≤ks.length∧wr=w∧Hid (∀(j:Nat) x,j<k→ks[j]? = some x→x≠B t)) (fun i _=>ks.length - (intOf i).toNat)
 case atStart=>exact⟨0,rfl,by omega,rfl,fun j x h=>by omega⟩
 case round=>
  obtain⟨k,rfl,hk,rfl,HI⟩:=hrel;by_cases hkl:k<ks.length
  ·have hkz:(k:Int)<(ks.length:Int):=by omega
   obtain⟨x,hx⟩:∃x,ks[k]? = some x:=⟨_,uA hkl⟩;obtain⟨g,cp,hv,_,_,hcp,hcell⟩:=strs_cell HST.out hx;injection hv with e1 em e2;clear em;subst e1;subst e2;have HX:=hide hx;clear hx;by_cases he:x=B t
   ·have ht:(⟨x.toArray⟩:ByteArray)=t:=Bytes.B_inj (by rw[←he];rfl);rw[ht]at hcell;have HE:=hide he;clear he ht;go_wp2_with fail
    go_ret
    refine⟨?_,rfl⟩;rw[decide_eq_true (by rw[←HE.out];exact List.mem_of_getElem? HX.out)];rfl
   ·have ht:(x==t.toList)=false:=by
     rw[Lib.toList_data];exact beq_eq_false_iff_ne.2 he
    have HE:=hide he;clear he;go_wp2_with fail
    go_roundw
    case rel=>
     refine⟨k+1,by go_num,by omega,trivial,fun j y hj hy=>?_⟩;by_cases e:j=k
     ·subst e;rw[HX.out]at hy;cases hy
      exact HE.out
     ·exact HI.out j y (by omega) hy
    case measure=>simp only[intOf];omega
  ·have hkz:¬(k:Int)<(ks.length:Int):=by omega
   have hk2:k=ks.length:=by omega
   subst hk2;go_wp2_with fail
   go_ret
   refine⟨?_,rfl⟩;rw[decide_eq_false (fun hm=>by
    obtain⟨j,hj⟩:=List.getElem?_of_mem hm;exact HI.out j _ (uB.1 hj).1 hj rfl)]
   rfl
structure Sx where
 nb:ByteArray
 K:Int
 v:Int
 wb:ByteArray
 r:Int
 tv:Value
def scells:List Sx→List Value
 | []=>[]
 | x ::l=>.string x.nb ::.int .u8 x.K ::.int .i64 x.v ::.string x.wb ::.int .i64 x.r ::x.tv ::scells l
theorem scells_append (l m:List Sx):scells (l++m)=scells l++scells m:=by
 induction l with
 | nil=>rfl
 | cons s l ih=>simp[scells,ih]
theorem scells_get:∀{l:List Sx} {i:Nat} {x:Sx},l[i]? = some x→(scells l)[i*6+1]? = some (.int .u8 x.K)∧(scells l)[i*6+2]? = some (.int .i64 x.v)∧(scells l)[i*6+3]? = some (.string x.wb)∧(scells l)[i*6+4]? = some (.int .i64 x.r):=by
 intro l
 induction l with
 | nil=>intro i x h;simp at h
 | cons y l ih=>
  intro i x h;cases i with
  | zero=>
   rw[List.getElem?_cons_zero]at h;cases h
   exact⟨rfl,rfl,rfl,rfl⟩
  | succ i=>
   rw[uC]at h;obtain⟨a,b,c,d⟩:=ih h;have h0:∀j,(scells (y ::l))[(i+1)*6+j]? = (scells l)[i*6+j]? :=fun j=>by
    rw[scells,show (i+1)*6+j=i*6+j+1+1+1+1+1+1 by omega];simp
   exact⟨by rw[h0 1];exact a,by rw[h0 2];exact b,by rw[h0 3];exact c,by rw[h0 4];exact d⟩
def Smps (w:World)(v:Value)(l:List Sx):Prop:=∃a cap,v=.slice a l.length cap∧l.length≤cap∧∀(i:Nat) x,l[i]? = some x→∃g,a=some ⟨g,0,none⟩∧g<w.heap.size∧w.cell? ⟨g,i*6+1,none⟩=some (.int .u8 x.K)∧w.cell? ⟨g,i*6+2,none⟩=some (.int .i64 x.v)∧w.cell? ⟨g,i*6+3,none⟩=some (.string x.wb)∧w.cell? ⟨g,i*6+4,none⟩=some (.int .i64 x.r)
theorem Smps.below {w w':World}{v:Value}{l:List Sx}(h:Smps w v l)(hb:Below w.heap.size w w'):Smps w' v l:=by
 obtain⟨a,cap,h1,h2,h3⟩:=h;refine⟨a,cap,h1,h2,fun i x hx=>?_⟩;obtain⟨g,e1,e2,c1,c2,c3,c4⟩:=h3 i x hx;exact⟨g,e1,uH e2 hb.size,by rw[hb.cell (p:=⟨g,i*6+1,none⟩) e2];exact c1,by rw[hb.cell (p:=⟨g,i*6+2,none⟩) e2];exact c2,by rw[hb.cell (p:=⟨g,i*6+3,none⟩) e2];exact c3,by rw[hb.cell (p:=⟨g,i*6+4,none⟩) e2];exact c4⟩
theorem smps_of {w:World}{base:Nat}{v:Value}{l:List Sx}(h:w.ownsRow base 85 6 v l.length (scells l)):Smps w v l:=by
 rcases h.2 with ⟨rfl,h0⟩|⟨g,cap,cur,rfl,_,hg,hn,_,_,ht⟩
 ·have:l=[]:=List.eq_nil_of_length_eq_zero h0;subst this;exact⟨none,0,rfl,Nat.le_refl _,fun i x hx=>by simp at hx⟩
 ·have hs:Sits w g 85 cur:=hg;have hc:∀(j:Nat) u,(scells l)[j]? = some u→w.cell? ⟨g,j,none⟩=some u:=fun j u hu=>by
   rw[←ht,List.getElem?_take]at hu;split at hu
   ·exact hs.cell j u (by simpa using hu)
   ·cases hu
  refine⟨_,cap,rfl,hn,fun i x hx=>?_⟩;obtain⟨a,b,c,d⟩:=scells_get hx;exact⟨g,rfl,hs.lt,hc _ _ a,hc _ _ b,hc _ _ c,hc _ _ d⟩
def wordsOf (l:List Sx):List (List UInt8):=l.foldl (fun a x=>ins (B x.wb) a) []
theorem wordsOf_next {l:List Sx}{k:Nat}{x:Sx}(hx:l[k]? = some x):wordsOf (l.take (k+1))=ins (B x.wb) (wordsOf (l.take k)):=by
 unfold wordsOf;rw[uG,hx,List.foldl_append];rfl
theorem Strs.kept {lo:Nat}{w w':World}{v:Value}{ls:List (List UInt8)}(h:Strs lo w v ls)(hb:Below w.heap.size w w'):Strs lo w' v ls:=by
 rcases h with h|⟨g,cap,h1,h2,h3,h4,h5⟩
 ·exact Or.inl h
 ·exact Or.inr ⟨g,cap,h1,h2,uH h3 hb.size,h4,fun j x hx=>by rw[hb.cell (p:=⟨g,j,none⟩) h3];exact h5 j x hx⟩
set_option maxRecDepth 10000 in
theorem words (v:Value)(l:List Sx)(w:World)(h:Smps w v l)(hn:l.length≤100000000)(hW:∀k,k≤l.length→(wordsOf (l.take k)).length≤1000):
  Calls Tryz.prog 151 #[v] w fun e w'=>(∃u,e=.returned u∧Strs 0 w' u (wordsOf l))∧Below w.heap.size w w':=by
 have HST:=hide h;obtain⟨a,cap,rfl,hcap,_⟩:=h;have HW:=hide hW;clear hW;go_enter Tryz.func151,Tryz.ntmps151
 go_wp2_with fail
 go_loopw [3,4] (fun o i wr=>∃k:Nat,i=.int .i64 (k:Int)∧k≤l.length∧Hid (Strs 0 wr o (wordsOf (l.take k)))∧Hid (Below w.heap.size w wr)) (fun _ i _=>l.length - (intOf i).toNat)
 case atStart=>exact⟨0,rfl,by omega,Or.inl ⟨rfl,rfl⟩,Below.refl _ _⟩
 case round=>
  obtain⟨k,rfl,hk,HO,HB⟩:=hrel;by_cases hkl:k<l.length
  ·have hkz:(k:Int)<(l.length:Int):=by omega
   obtain⟨x,hx⟩:∃x,l[k]? = some x:=⟨_,uA hkl⟩;obtain⟨a2,cp,hv,hcp,hall⟩:=HST.out.below HB.out;injection hv with e1 em e2;clear em;subst e1;subst e2;obtain⟨g,rfl,hg,c1,c2,c3,c4⟩:=hall k x hx;clear hall;have HX:=hide hx;have hins:=insert 0 _ _ x.wb _ HO.out (HW.out k hk);clear hx;go_wp2_with fail
   refine hins.mono ?_;clear hins;rintro e w2 ⟨⟨u,rfl,hu⟩,hb2⟩;have HU:=hide hu;have HB2:=hide (HB.out.trans (hb2.mono HB.out.size));clear hu hb2 c1 c2 c3 c4;go_wp2_with fail
   go_roundw
   case rel=>exact⟨k+1,by go_num,by omega,by rw[wordsOf_next HX.out];exact HU.out.mono (Nat.zero_le _),HB2.out⟩
   case measure=>simp only[intOf];omega
  ·have hkz:¬(k:Int)<(l.length:Int):=by omega
   have hk2:k=l.length:=by omega
   subst hk2;have HO2:=hide (show Strs 0 wr _ (wordsOf l) by have:=HO.out;rw[List.take_length]at this;exact this);clear HO;go_wp2_with fail
   go_ret
   exact⟨⟨_,rfl,HO2.out⟩,HB.out⟩
end Go.Proofs.YtenegfafjjknoaaGreatDoor.Ra
namespace Go.Proofs.YtenegfafjjknoaaGreatDoor.Ra
open Go.RowKit Mem Foot Bytes Tagw Refi Reft Wm Cq Plain
set_option maxRecDepth 10000 in
theorem key (nb wb:ByteArray)(K v r:Int)(sa:Option Addr)(sl sc:Nat)(tags:List (List UInt8))(lo:Nat)(w:World)(hst:Strs lo w (.slice sa sl sc) tags)(hnb:nb.size≤16)(hn:tags.length≤4)(h8:∀x∈tags,x.length≤8):
  Calls Tryz.prog 150 #[.agg #[.string nb,.int .u8 K,.int .i64 v,.string wb,.int .i64 r,.slice sa sl sc]] w fun e w'=>(∃z,e=.returned (.string z)∧B z=B nb++[124]++B (ty K)++pt tags)∧Below w.heap.size w w':=by
 have hS:=Sits.new w 85 #[.string nb,.int .u8 K,.int .i64 v,.string wb,.int .i64 r,.slice sa sl sc];have HB1:=hide (below_new (w:=w) (.cells #[.string nb,.int .u8 K,.int .i64 v,.string wb,.int .i64 r,.slice sa sl sc] 85));have HT1:=hide (Strs.kept hst HB1.out);have hts:=ty_size K;go_enter Tryz.func150,Tryz.ntmps150
 go_wp2_with fail
 obtain⟨b,hb⟩:∃b,w.heap.size=b:=⟨_,rfl⟩;rw[hb]at hS ⊢;clear hb hst;generalize w.alloc (.cells #[.string nb,.int .u8 K,.int .i64 v,.string wb,.int .i64 r,.slice sa sl sc] 85)=w1 at *;have hbl:=hS.lt;have hK:∀s:Bw w1,Sits s.val b 85 #[.string nb,.int .u8 K,.int .i64 v,.string wb,.int .i64 r,.slice sa sl sc]:=fun s=>hS.below s.is hbl
 have C0:∀s:Bw w1,s.val.cell? ⟨b,0,none⟩=some (.string nb):=fun s=>(hK s).cell 0 _ rfl
 have C1:∀s:Bw w1,s.val.cell? ⟨b,1,none⟩=some (.int .u8 K):=fun s=>(hK s).cell 1 _ rfl
 have C2:∀s:Bw w1,s.val.cell? ⟨b,2,none⟩=some (.int .i64 v):=fun s=>(hK s).cell 2 _ rfl
 have C3:∀s:Bw w1,s.val.cell? ⟨b,3,none⟩=some (.string wb):=fun s=>(hK s).cell 3 _ rfl
 have C4:∀s:Bw w1,s.val.cell? ⟨b,4,none⟩=some (.int .i64 r):=fun s=>(hK s).cell 4 _ rfl
 have C5:∀s:Bw w1,s.val.cell? ⟨b,5,none⟩=some (.slice sa sl sc):=fun s=>(hK s).cell 5 _ rfl
 have HY:=hide (fun s:Bw w1=>call_cls (typeOf nb wb K v r sa sl sc s.val));obtain⟨z,hz⟩:∃z:ByteArray,B z=B nb++[124]++B (ty K)++pt tags:=⟨⟨(B nb++[124]++B (ty K)++pt tags).toArray⟩,rfl⟩;have HG:=hide (fun s:Bw w1=>call_cls (v:=.string z) ((tagged lo _ tags (nb++⟨#[124]⟩++ty K) s.val (Strs.kept HT1.out s.is) (by
  rw[ByteArray.size_append,ByteArray.size_append];have:(⟨#[124]⟩:ByteArray).size=1:=rfl;omega) hn h8).mono fun e w' ⟨⟨y,h1,h2⟩,h3⟩=>⟨by
   have:y=z:=Bytes.B_inj (by rw[h2,hz,Bytes.B_append,Bytes.B_append];rfl);rw[h1,this],by rw[←h3];exact Below.refl _ _⟩))
 have HZ:=hide hz;clear hS hK hz hn h8;generalize ty K=tk at hts HY HG ⊢;refine region_cls (by kernel_rfl) (by kernel_rfl) ?_;repeat (first
  | go_big_quiet_skip
  | (go_big_quiet_want;go_big_quiet_op;first|go_big_quiet_on|(apply Exists.intro;refine⟨fun _=>?_,?_⟩;(first|exact HY.out _|exact HG.out _);go_big_quiet_on)))
 refine wpQuiet_nil ?_;rintro _ ⟨s,rfl⟩;go_wp2_with fail
 go_ret
 exact⟨⟨z,rfl,HZ.out⟩,HB1.out.trans (s.is.mono HB1.out.size)⟩
def prow:List (Int×Cel)→List Value
 | []=>[]
 | x ::l=>.int .i64 x.1 ::.int .i64 x.2.stands ::.int .i64 x.2.weight ::prow l
theorem prow_append (l m:List (Int×Cel)):prow (l++m)=prow l++prow m:=by
 induction l with
 | nil=>rfl
 | cons s l ih=>simp[prow,ih]
theorem prow_get:∀{l:List (Int×Cel)} {i:Nat} {x:Int×Cel},l[i]? = some x→(prow l)[i*3]? = some (.int .i64 x.1)∧(prow l)[i*3+1]? = some (.int .i64 x.2.stands)∧(prow l)[i*3+2]? = some (.int .i64 x.2.weight):=by
 intro l
 induction l with
 | nil=>intro i x h;simp at h
 | cons y l ih=>
  intro i x h;cases i with
  | zero=>
   rw[List.getElem?_cons_zero]at h;cases h
   exact⟨rfl,rfl,rfl⟩
  | succ i=>
   rw[uC]at h;obtain⟨a,b,c⟩:=ih h;have h0:∀j,(prow (y ::l))[(i+1)*3+j]? = (prow l)[i*3+j]? :=fun j=>by
    rw[prow,show (i+1)*3+j=i*3+j+1+1+1 by omega];simp
   exact⟨by have:=h0 0;simp only[Nat.add_zero]at this;rw[this];exact a,by rw[h0 1];exact b,by rw[h0 2];exact c⟩
def Piles (w:World)(v:Value)(l:List (Int×Cel)):Prop:=∃a cap,v=.slice a l.length cap∧l.length≤cap∧∀(i:Nat) x,l[i]? = some x→∃g,a=some ⟨g,0,none⟩∧g<w.heap.size∧w.cell? ⟨g,i*3,none⟩=some (.int .i64 x.1)∧w.cell? ⟨g,i*3+1,none⟩=some (.int .i64 x.2.stands)∧w.cell? ⟨g,i*3+2,none⟩=some (.int .i64 x.2.weight)
theorem Piles.below {w w':World}{v:Value}{l:List (Int×Cel)}(h:Piles w v l)(hb:Below w.heap.size w w'):Piles w' v l:=by
 obtain⟨a,cap,h1,h2,h3⟩:=h;refine⟨a,cap,h1,h2,fun i x hx=>?_⟩;obtain⟨g,e1,e2,c1,c2,c3⟩:=h3 i x hx;exact⟨g,e1,uH e2 hb.size,by rw[hb.cell (p:=⟨g,i*3,none⟩) e2];exact c1,by rw[hb.cell (p:=⟨g,i*3+1,none⟩) e2];exact c2,by rw[hb.cell (p:=⟨g,i*3+2,none⟩) e2];exact c3⟩
theorem piles_of {w:World}{base:Nat}{v:Value}{l:List (Int×Cel)}(h:w.ownsRow base 322 3 v l.length (prow l)):Piles w v l:=by
 rcases h.2 with ⟨rfl,h0⟩|⟨g,cap,cur,rfl,_,hg,hn,_,_,ht⟩
 ·have:l=[]:=List.eq_nil_of_length_eq_zero h0;subst this;exact⟨none,0,rfl,Nat.le_refl _,fun i x hx=>by simp at hx⟩
 ·have hs:Sits w g 322 cur:=hg;have hc:∀(j:Nat) u,(prow l)[j]? = some u→w.cell? ⟨g,j,none⟩=some u:=fun j u hu=>by
   rw[←ht,List.getElem?_take]at hu;split at hu
   ·exact hs.cell j u (by simpa using hu)
   ·cases hu
  refine⟨_,cap,rfl,hn,fun i x hx=>?_⟩;obtain⟨a,b,c⟩:=prow_get hx;exact⟨g,rfl,hs.lt,hc _ _ a,hc _ _ b,hc _ _ c⟩
def psum (l:List (Int×Cel)):Int:=(l.map fun x=>x.2.weight).sum
theorem psum_next {l:List (Int×Cel)}{k:Nat}{x:Int×Cel}(hx:l[k]? = some x):psum (l.take (k+1))=psum (l.take k)+x.2.weight:=by
 unfold psum;rw[uG,hx,List.map_append,List.sum_append];simp
theorem upto_drop {K s:Int}{l:List (Int×Cel)}{k:Nat}{x:Int×Cel}(hx:l[k]? = some x):upto K s (l.drop k)=if K<s+x.2.weight then x.2.stands else upto K (s+x.2.weight) (l.drop (k+1)):=by
 have hl:=(uB.1 hx).1;have hd:l.drop k=x ::l.drop (k+1):=by
  rw[List.drop_eq_getElem_cons hl,(uB.1 hx).2]
 rw[hd,upto]
set_option maxRecDepth 10000 in
theorem quantile (v:Value)(l:List (Int×Cel))(count q:Int)(w:World)(h:Piles w v l)(hn:l.length≤1000)(hc0:1≤count)(hc1:count≤1000000000000000)(hq0:0≤q)(hq1:q≤100)(hS:∀k,k≤l.length→0≤psum (l.take k)∧psum (l.take k)≤1000000000000000000):
  Calls Tryz.prog 197 #[v,.int .i64 count,.int .i64 q] w fun e w'=>e=.returned (.int .i64 (upto (q*(count - 1) / 100) 0 l))∧w'=w:=by
 have HST:=hide h;obtain⟨a,cap,rfl,hcap,_⟩:=h;have HS:=hide hS;clear hS;have hm0:0≤q*(count - 1):=Int.mul_nonneg hq0 (by omega);have hm1:q*(count - 1)≤100*1000000000000000:=Int.mul_le_mul hq1 (by omega) (by omega) (by omega);have hd:(q*(count - 1)).tdiv 100=q*(count - 1) / 100:=Int.tdiv_eq_ediv_of_nonneg hm0;generalize hg:q*(count - 1)=p at *;have hp2:0≤p / 100∧p / 100≤1000000000000000:=by omega
 generalize p / 100=kk at *;go_enter Tryz.func197,Tryz.ntmps197
 go_wp2_with fail
 go_loopw [8,9] (fun s i wr=>∃k:Nat,i=.int .i64 (k:Int)∧k≤l.length∧wr=w∧s=.int .i64 (psum (l.take k))∧Hid (upto kk 0 l=upto kk (psum (l.take k)) (l.drop k))) (fun _ i _=>l.length - (intOf i).toNat)
 case atStart=>exact⟨0,rfl,by omega,rfl,rfl,rfl⟩
 case round=>
  obtain⟨k,rfl,hk,rfl,rfl,HI⟩:=hrel;have hs1:=HS.out k hk;by_cases hkl:k<l.length
  ·have hkz:(k:Int)<(l.length:Int):=by omega
   obtain⟨x,hx⟩:∃x,l[k]? = some x:=⟨_,uA hkl⟩;obtain⟨a2,cp,hv,hcp,hall⟩:=HST.out;injection hv with e1 em e2;clear em;subst e1;subst e2;obtain⟨g,rfl,hg,c1,c2,c3⟩:=hall k x hx;clear hall;have hs2:=HS.out (k+1) hkl;rw[psum_next hx]at hs2;have HI2:=hide (show upto kk 0 l=if kk<psum (l.take k)+x.2.weight then x.2.stands else upto kk (psum (l.take k)+x.2.weight) (l.drop (k+1)) by rw[HI.out,upto_drop hx]);have HX:=hide hx;clear hx;by_cases hlt:kk<psum (l.take k)+x.2.weight
   ·go_wp2_with fail
    go_ret
    refine⟨?_,rfl⟩;rw[HI2.out,if_pos hlt];rfl
   ·go_wp2_with fail
    go_roundw
    case rel=>exact⟨k+1,by go_num,by omega,trivial,by rw[psum_next HX.out],hide (by rw[HI2.out,if_neg hlt,psum_next HX.out])⟩
    case measure=>simp only[intOf];omega
  ·have hkz:¬(k:Int)<(l.length:Int):=by omega
   have hk2:k=l.length:=by omega
   subst hk2;go_wp2_with fail
   go_ret
   refine⟨?_,rfl⟩;rw[HI.out,List.drop_length];rfl
end Go.Proofs.YtenegfafjjknoaaGreatDoor.Ra
namespace Go.Proofs.YtenegfafjjknoaaGreatDoor.Ra
open Go.RowKit Mem Foot Bytes Wm
theorem infoPile:(Tryz.prog.info? 322).map (fun i=>(i.zero,i.size,i.bytes))=some (some (.agg #[.int .i64 0,.int .i64 0,.int .i64 0]),3,24):=by kernel_rfl
def fstep (n s wt:Int)(st:List (Int×Cel)×Bool)(x:Int×Cel):List (Int×Cel)×Bool:=
 ((if st.2=false∧n<x.1 then st.1++[(n,(⟨s,wt⟩:Cel))] else st.1)++[if x.1=n then (x.1,⟨x.2.stands,x.2.weight+wt⟩) else x],st.2||(decide (n<x.1)||decide (x.1=n)))
def fall (n s wt:Int)(l:List (Int×Cel)):List (Int×Cel):=
 if (l.foldl (fstep n s wt) ([],false)).2 then (l.foldl (fstep n s wt) ([],false)).1 else (l.foldl (fstep n s wt) ([],false)).1++[(n,(⟨s,wt⟩:Cel))]
def fellR (most:Nat)(L:List (Int×Cel)):List (Int×Cel)×Bool:=if most<L.length then (fold L,true) else (L,false)
theorem fstep_take {n s wt:Int}{l:List (Int×Cel)}{k:Nat}{x:Int×Cel}(hx:l[k]? = some x):(l.take (k+1)).foldl (fstep n s wt) ([],false)=fstep n s wt ((l.take k).foldl (fstep n s wt) ([],false)) x:=by
 rw[uG,hx,List.foldl_append];rfl
theorem cell_three_new (w:World)(a b c:Value)(t:TypeId):∀j u,[a,b,c][j]? = some u→(w.alloc (.cells #[a,b,c] t)).cell? ((⟨w.heap.size,0,none⟩:Addr).add j)=some u:=by
 intro j u hj
 match j,hj with
 | 0,hj=>simp at hj;subst hj;simp[Addr.add]
 | 1,hj=>simp at hj;subst hj;simp[Addr.add]
 | 2,hj=>simp at hj;subst hj;simp[Addr.add]
 | j+3,hj=>simp at hj
theorem own_grows3 {w wr w2:World}{base n:Nat}{v:Value}{e:TypeId}{size:Nat}{xs:List Value}{o:Obj}(hB:Below base w wr)(hbs:base≤wr.heap.size)(hr:wr.ownsRow base e size v n xs)(hg:(wr.alloc o).grownBy w2 v.ownBlock):Below base w w2:=
 (hB.alloc hbs _).grown hg (by simp;omega) (fun k hk=>(hr.lt k hk).1)
theorem own_shape3 {w:World}{base size n:Nat}{e:TypeId}{v:Value}{xs:List Value}(h:w.ownsRow base e size v n xs):∃a c,v=.slice a n c:=by
 rcases h.2 with ⟨rfl,rfl⟩|⟨g,cap,cur,rfl,_⟩
 ·exact⟨_,_,rfl⟩
 ·exact⟨_,_,rfl⟩
theorem cells3 {w:World}{b:Nat}{t:TypeId}{v0 v1 v2:Value}(h:Sits w b t #[v0,v1,v2]):w.cell? ⟨b,0,none⟩=some v0∧w.cell? ⟨b,1,none⟩=some v1∧w.cell? ⟨b,2,none⟩=some v2∧w.frozen? ⟨b,2,none⟩=false:=
 ⟨h.cell 0 _ rfl,h.cell 1 _ rfl,h.cell 2 _ rfl,h.frozen 2⟩
theorem own_on {w w':World}{base size n:Nat}{e:TypeId}{v:Value}{xs:List Value}(h:w.ownsRow base e size v n xs)(hb:∀g,v.ownBlock=some g→w'.heap[g]? = w.heap[g]?):w'.ownsRow base e size v n xs:=by
 refine⟨h.1,?_⟩;rcases h.2 with h1|⟨g,cap,cur,h1,h2,h3,h4⟩
 ·exact Or.inl h1
 ·exact Or.inr ⟨g,cap,cur,h1,h2,by rw[hb g (by rw[h1];rfl)];exact h3,h4⟩
theorem own_set3 {w:World}{base size n P i:Nat}{e:TypeId}{v x:Value}{xs:List Value}(h:w.ownsRow base e size v n xs)(hP:∀g,v.ownBlock=some g→g≠P):(w.setCell ⟨P,i,none⟩ x).ownsRow base e size v n xs:=
 own_on h fun g hg=>Below.heap_setCell _ _ _ _ (hP g hg)
theorem fstep_wt {n s wt:Int}{lo hi:Int}{l:List (Int×Cel)}(hwt:lo≤wt∧wt≤hi)(hz:0≤wt)(hl:∀p∈l,lo≤p.2.weight∧p.2.weight+wt≤hi):∀st:List (Int×Cel)×Bool,(∀p∈st.1,lo≤p.2.weight∧p.2.weight≤hi)→∀p∈(l.foldl (fstep n s wt) st).1,lo≤p.2.weight∧p.2.weight≤hi:=by
 induction l with
 | nil=>intro st h;exact h
 | cons x r ih=>
  intro st h;rw[List.foldl_cons];refine ih (fun p hp=>hl p (uD _ hp)) _ fun p hp=>?_
  have hx:=hl x (uF ..);unfold fstep at hp;simp only[List.mem_append,uI]at hp;rcases hp with hp|hp
  ·split at hp
   ·simp only[List.mem_append,uI]at hp;rcases hp with hp|hp
    ·exact h p hp
    ·rw[hp];exact hwt
   ·exact h p hp
  ·rw[hp];split
   ·simp only;omega
   ·omega
theorem fall_wt {n s wt:Int}{lo hi:Int}{l:List (Int×Cel)}(hwt:lo≤wt∧wt≤hi)(hz:0≤wt)(hl:∀p∈l,lo≤p.2.weight∧p.2.weight+wt≤hi):∀p∈fall n s wt l,lo≤p.2.weight∧p.2.weight≤hi:=by
 have h1:=fstep_wt (n:=n) (s:=s) hwt hz hl ([],false) (fun p hp=>by cases hp);intro p hp;unfold fall at hp;split at hp
 ·exact h1 p hp
 ·rcases List.mem_append.1 hp with hp|hp
  ·exact h1 p hp
  ·rw[uI.1 hp];exact hwt
set_option maxRecDepth 10000 in
theorem fell (v:Value)(l:List (Int×Cel))(x wt:Int)(most:Nat)(w:World)(h:Piles w v l)(hn:l.length≤100)(hm2:2≤most)(hm:most≤100)(hwt:0≤wt∧wt≤1000)(hw:∀p∈l,0≤p.2.weight∧p.2.weight≤1000000000000000000):
  Calls Tryz.prog 196 #[v,.int .i64 x,.int .i64 wt,.int .i64 (most:Int)] w fun e w'=>(∃u,e=.returned (.tuple #[u,.bool (fellR most (fall (bk x).1 (bk x).2 wt l)).2])∧Piles w' u (fellR most (fall (bk x).1 (bk x).2 wt l)).1)∧Below w.heap.size w w':=by
 have HST:=hide h;obtain⟨a,cap,rfl,hcap,_⟩:=h;obtain⟨i0,hi,hz0,hz1,hz2⟩:=info_parts infoPile;have hbk:=refBucket x w;have HW:=hide hw;have HWW:=hide (show ∀p∈fall (bk x).1 (bk x).2 wt l,0≤p.2.weight∧p.2.weight≤1000000000000002000 from fall_wt (by omega) hwt.1 (fun p hp=>by have:=hw p hp;omega));generalize (bk x).1=n at *;generalize (bk x).2=s at *;clear hw;go_enter Tryz.func196,Tryz.ntmps196
 go_wp2_with fail
 refine hbk.mono ?_;clear hbk;rintro e w1 ⟨rfl,hb1⟩;have HB1:=hide hb1;clear hb1;go_wp2_with fail
 go_loopw [12,13,14] (fun o pt i wr=>∃(k:Nat) (acc:List (Int×Cel)) (put:Bool),i=.int .i64 (k:Int)∧pt=.bool put∧k≤l.length∧acc.length≤2*k∧(∃a c,o=.slice a acc.length c)∧Hid ((l.take k).foldl (fstep n s wt) ([],false)=(acc,put))∧Hid (wr.ownsRow w.heap.size 322 3 o acc.length (prow acc))∧Hid (Below w.heap.size w wr)) (fun _ _ i _=>l.length - (intOf i).toNat)
 case atStart=>exact⟨0,[],false,rfl,rfl,by omega,by simp,⟨_,_,rfl⟩,rfl,World.ownsRow_nil _ _ _ _,HB1.out⟩
 case round=>
  obtain⟨k,acc,put,rfl,rfl,hk,hal,⟨oa,oc,rfl⟩,HF,HR,HB⟩:=hrel;have hsize:=HB.out.size;by_cases hkl:k<l.length
  ·have hkz:(k:Int)<(l.length:Int):=by omega
   obtain⟨y,hy⟩:∃y,l[k]? = some y:=⟨_,uA hkl⟩;obtain⟨a2,cp,hv,hcp,hall⟩:=HST.out.below HB.out;injection hv with e1 em e2;clear em;subst e1;subst e2;obtain⟨g,rfl,hg,c1,c2,c3⟩:=hall k y hy;clear hall;have hyw:=HW.out y (List.mem_of_getElem? hy);have HF2:=hide (show (l.take (k+1)).foldl (fstep n s wt) ([],false)=fstep n s wt (acc,put) y by rw[fstep_take hy,HF.out]);clear hy HF;have HS:=hide (Sits.new wr 322 #[.int .i64 y.1,.int .i64 y.2.stands,.int .i64 y.2.weight]);have HR1:=hide (HR.out.alloc (.cells #[.int .i64 y.1,.int .i64 y.2.stands,.int .i64 y.2.weight] 322));have HB2:=hide (HB.out.alloc hsize (.cells #[.int .i64 y.1,.int .i64 y.2.stands,.int .i64 y.2.weight] 322));have HPN:=hide (show ∀g,(Value.slice oa acc.length oc).ownBlock=some g→g≠wr.heap.size from fun g hg=>Nat.ne_of_lt (HR.out.lt g hg).2);obtain⟨P,hP⟩:∃P,wr.heap.size=P:=⟨_,rfl⟩;have hPw:w.heap.size≤P:=by omega
   rw[hP]at HS HPN;go_upto_region 8 with fail
   generalize wr.alloc (.cells #[.int .i64 y.1,.int .i64 y.2.stands,.int .i64 y.2.weight] 322)=wp at *;obtain⟨p0,p1,p2,f2⟩:=cells3 HS.out;have HRB:=hide (show wp.ownsRow w.heap.size 322 3 (.slice oa acc.length oc) acc.length (prow acc) from HR1.out);clear c1 c2 c3 HR HB HR1;by_cases hyn:y.1=n
   ·have HYN:=hide hyn;have hnlt:¬n<y.1:=by omega
    have heq:(y.1==n)=true:=by simp[hyn]
    have hsum:IntKind.i64.wrap (y.2.weight+wt)=y.2.weight+wt:=IntWalk.i64_in _ (by omega);have HS2:=hide (show Sits (wp.setCell ⟨P,2,none⟩ (.int .i64 (y.2.weight+wt))) P 322 #[.int .i64 y.1,.int .i64 y.2.stands,.int .i64 (y.2.weight+wt)] from HS.out.set 2 (.int .i64 (y.2.weight+wt)));have HR2:=hide (own_set3 (i:=2) (x:=.int .i64 (y.2.weight+wt)) HRB.out HPN.out);have HB3:=hide (HB2.out.setCell (p:=⟨P,2,none⟩) hPw (.int .i64 (y.2.weight+wt)));clear hyn;cases put with
    | true=>
      go_upto_region 13 with fail
      generalize wp.setCell ⟨P,2,none⟩ (.int .i64 (y.2.weight+wt))=ws at *;clear p0 p1 p2 f2;obtain⟨p0,p1,p2,f2⟩:=cells3 HS2.out;go_wp2_with (at_builtin;refine wpList_append_own _ rfl _ _ 263 rfl w.heap.size 322 i0 (.agg #[.int .i64 0,.int .i64 0,.int .i64 0]) 3 24 Tryz.underlying263 hi hz0 hz1 hz2 rfl (by decide) _ _ _ rfl (HR2.out.alloc _) ⟨ws.heap.size,0,none⟩ 1 1 [.int .i64 y.1,.int .i64 y.2.stands,.int .i64 (y.2.weight+wt)] rfl rfl (cell_three_new _ _ _ _ _) (fun x hx=>by simp at hx;rcases hx with rfl|rfl|rfl<;>rfl) (by unfold maxLen;omega) (by omega) (by have:=HB3.out.size;simp;omega) ?_;intro v2 w2 hown2 hg2 hn2)
      have HST':=hide (show fstep n s wt (acc,true) y=(acc++[(y.1,(⟨y.2.stands,y.2.weight+wt⟩:Cel))],true) by
       unfold fstep;simp[HYN.out])
      refine⟨⟨k+1,acc++[(y.1,(⟨y.2.stands,y.2.weight+wt⟩:Cel))],true,by go_num,rfl,by omega,by simp;omega,?_,hide (by rw[HF2.out,HST'.out]),?_,own_grows3 HB3.out HB3.out.size HR2.out hg2⟩,by simp only[intOf];omega⟩
      ·obtain⟨a3,c3,rfl⟩:=own_shape3 hown2;exact⟨a3,c3,by simp⟩
      ·show World.ownsRow _ _ _ _ _ _ _;rw[prow_append,uE];exact hown2
    | false=>
      go_upto_region 13 with fail
      generalize wp.setCell ⟨P,2,none⟩ (.int .i64 (y.2.weight+wt))=ws at *;clear p0 p1 p2 f2;obtain⟨p0,p1,p2,f2⟩:=cells3 HS2.out;go_wp2_with (at_builtin;refine wpList_append_own _ rfl _ _ 263 rfl w.heap.size 322 i0 (.agg #[.int .i64 0,.int .i64 0,.int .i64 0]) 3 24 Tryz.underlying263 hi hz0 hz1 hz2 rfl (by decide) _ _ _ rfl (HR2.out.alloc _) ⟨ws.heap.size,0,none⟩ 1 1 [.int .i64 y.1,.int .i64 y.2.stands,.int .i64 (y.2.weight+wt)] rfl rfl (cell_three_new _ _ _ _ _) (fun x hx=>by simp at hx;rcases hx with rfl|rfl|rfl<;>rfl) (by unfold maxLen;omega) (by omega) (by have:=HB3.out.size;simp;omega) ?_;intro v2 w2 hown2 hg2 hn2)
      have HST':=hide (show fstep n s wt (acc,false) y=(acc++[(y.1,(⟨y.2.stands,y.2.weight+wt⟩:Cel))],true) by
       unfold fstep;simp[HYN.out])
      refine⟨⟨k+1,acc++[(y.1,(⟨y.2.stands,y.2.weight+wt⟩:Cel))],true,by go_num,rfl,by omega,by simp;omega,?_,hide (by rw[HF2.out,HST'.out]),?_,own_grows3 HB3.out HB3.out.size HR2.out hg2⟩,by simp only[intOf];omega⟩
      ·obtain⟨a3,c3,rfl⟩:=own_shape3 hown2;exact⟨a3,c3,by simp⟩
      ·show World.ownsRow _ _ _ _ _ _ _;rw[prow_append,uE];exact hown2
   ·have hnE:(y.1==n)=false:=by simp[hyn]
    have HYN:=hide hyn;by_cases hcase:put=false∧n<y.1
    ·obtain⟨rfl,hlt⟩:=hcase;clear hyn;go_upto_region 11 with (at_builtin;refine wpList_append_own _ rfl _ _ 263 rfl w.heap.size 322 i0 (.agg #[.int .i64 0,.int .i64 0,.int .i64 0]) 3 24 Tryz.underlying263 hi hz0 hz1 hz2 rfl (by decide) _ _ _ rfl (HRB.out.alloc _) ⟨wp.heap.size,0,none⟩ 1 1 [.int .i64 n,.int .i64 s,.int .i64 wt] rfl rfl (cell_three_new _ _ _ _ _) (fun x hx=>by simp at hx;rcases hx with rfl|rfl|rfl<;>rfl) (by unfold maxLen;omega) (by omega) (by have:=HB2.out.size;simp;omega) ?_;intro v2 w2 hown2 hg2 hn2)
     have HB4:=hide (own_grows3 HB2.out HB2.out.size HRB.out hg2);have HO4:=hide (show w2.ownsRow w.heap.size 322 3 v2 (acc.length+1) (prow (acc++[(n,(⟨s,wt⟩:Cel))])) by
      rw[prow_append];exact hown2)
     have HS4:=hide (show Sits w2 P 322 #[.int .i64 y.1,.int .i64 y.2.stands,.int .i64 y.2.weight] by
      have h1:=hg2.block P (by simp;have:=HS.out.lt;omega) (fun e=>HPN.out P e.symm rfl);have h2:(wp.alloc (.cells #[.int .i64 n,.int .i64 s,.int .i64 wt] 322)).heap[P]? = wp.heap[P]? :=Below.heap_alloc _ _ _ HS.out.lt;exact h1.trans (h2.trans HS.out))
     obtain⟨a3,cc3,rfl⟩:=own_shape3 hown2;clear hown2 hg2 hn2 p0 p1 p2 f2;obtain⟨p0,p1,p2,f2⟩:=cells3 HS4.out;go_wp2_with (at_builtin;refine wpList_append_own _ rfl _ _ 263 rfl w.heap.size 322 i0 (.agg #[.int .i64 0,.int .i64 0,.int .i64 0]) 3 24 Tryz.underlying263 hi hz0 hz1 hz2 rfl (by decide) _ _ _ rfl (HO4.out.alloc _) ⟨w2.heap.size,0,none⟩ 1 1 [.int .i64 y.1,.int .i64 y.2.stands,.int .i64 y.2.weight] rfl rfl (cell_three_new _ _ _ _ _) (fun x hx=>by simp at hx;rcases hx with rfl|rfl|rfl<;>rfl) (by unfold maxLen;omega) (by omega) (by have:=HB4.out.size;simp;omega) ?_;intro v3 w3 hown3 hg3 hn3)
     have HST':=hide (show fstep n s wt (acc,false) y=(acc++[(n,(⟨s,wt⟩:Cel))]++[y],true) by
      unfold fstep;simp[HYN.out,hlt])
     refine⟨⟨k+1,acc++[(n,(⟨s,wt⟩:Cel))]++[y],true,by go_num,rfl,by omega,by simp;omega,?_,hide (by rw[HF2.out,HST'.out]),?_,own_grows3 HB4.out HB4.out.size HO4.out hg3⟩,by simp only[intOf];omega⟩
     ·obtain⟨a5,c5,rfl⟩:=own_shape3 hown3;exact⟨a5,c5,by simp⟩
     ·show World.ownsRow _ _ _ _ _ _ _;rw[prow_append,uE,uE];exact hown3
    ·clear hyn;cases put with
     | true=>
      go_wp2_with (at_builtin;refine wpList_append_own _ rfl _ _ 263 rfl w.heap.size 322 i0 (.agg #[.int .i64 0,.int .i64 0,.int .i64 0]) 3 24 Tryz.underlying263 hi hz0 hz1 hz2 rfl (by decide) _ _ _ rfl (HRB.out.alloc _) ⟨wp.heap.size,0,none⟩ 1 1 [.int .i64 y.1,.int .i64 y.2.stands,.int .i64 y.2.weight] rfl rfl (cell_three_new _ _ _ _ _) (fun x hx=>by simp at hx;rcases hx with rfl|rfl|rfl<;>rfl) (by unfold maxLen;omega) (by omega) (by have:=HB2.out.size;simp;omega) ?_;intro v2 w2 hown2 hg2 hn2)
      have HST':=hide (show fstep n s wt (acc,true) y=(acc++[y],true) by
       unfold fstep;simp[HYN.out])
      refine⟨⟨k+1,acc++[y],true,by go_num,rfl,by omega,by simp;omega,?_,hide (by rw[HF2.out,HST'.out]),?_,own_grows3 HB2.out HB2.out.size HRB.out hg2⟩,by simp only[intOf];omega⟩
      ·obtain⟨a3,c3,rfl⟩:=own_shape3 hown2;exact⟨a3,c3,by simp⟩
      ·show World.ownsRow _ _ _ _ _ _ _;rw[prow_append,uE];exact hown2
     | false=>
      have hnl:¬n<y.1:=fun h=>hcase ⟨rfl,h⟩
      go_wp2_with (at_builtin;refine wpList_append_own _ rfl _ _ 263 rfl w.heap.size 322 i0 (.agg #[.int .i64 0,.int .i64 0,.int .i64 0]) 3 24 Tryz.underlying263 hi hz0 hz1 hz2 rfl (by decide) _ _ _ rfl (HRB.out.alloc _) ⟨wp.heap.size,0,none⟩ 1 1 [.int .i64 y.1,.int .i64 y.2.stands,.int .i64 y.2.weight] rfl rfl (cell_three_new _ _ _ _ _) (fun x hx=>by simp at hx;rcases hx with rfl|rfl|rfl<;>rfl) (by unfold maxLen;omega) (by omega) (by have:=HB2.out.size;simp;omega) ?_;intro v2 w2 hown2 hg2 hn2)
      have HST':=hide (show fstep n s wt (acc,false) y=(acc++[y],false) by
       unfold fstep;simp[HYN.out,hnl])
      refine⟨⟨k+1,acc++[y],false,by go_num,rfl,by omega,by simp;omega,?_,hide (by rw[HF2.out,HST'.out]),?_,own_grows3 HB2.out HB2.out.size HRB.out hg2⟩,by simp only[intOf];omega⟩
      ·obtain⟨a3,c3,rfl⟩:=own_shape3 hown2;exact⟨a3,c3,by simp⟩
      ·show World.ownsRow _ _ _ _ _ _ _;rw[prow_append,uE];exact hown2
  ·have hkz:¬(k:Int)<(l.length:Int):=by omega
   have hk2:k=l.length:=by omega
   subst hk2;have hF:=HF.out;rw[List.take_length]at hF;cases put with
   | true=>
    have HFA:=hide (show fall n s wt l=acc by unfold fall;rw[hF];rfl);clear hF HF;go_upto_region 17 with fail
    have HWF:=hide (show ∀p∈acc,0≤p.2.weight∧p.2.weight≤1000000000000002000 by rw[←HFA.out];exact HWW.out);have HO:=HR;have HBW:=HB;obtain⟨F,hF⟩:∃F,acc=F:=⟨_,rfl⟩;rw[hF]at HO HFA HWF hal;rw[hF];clear hF HR HB;have hpo:=piles_of HO.out;have HSZW:=hide HBW.out.size;by_cases hlen:F.length≤most
    ·have hlz:(F.length:Int)≤(most:Int):=by omega
     have HL:=hide (show ¬most<F.length by omega);have HPO:=hide hpo;clear hlen hpo;go_wp2_with fail
     go_ret2
     refine⟨⟨.slice oa F.length oc,?_,?_⟩,HBW.out⟩
     ·rw[HFA.out,fellR,if_neg HL.out];rfl
     ·rw[HFA.out,fellR,if_neg HL.out];exact HPO.out
    ·have hlz:¬(F.length:Int)≤(most:Int):=by omega
     have HL:=hide (show most<F.length by omega);obtain⟨f0,f1,fr,hFe⟩:∃f0 f1 fr,F=f0 ::f1 ::fr:=by
      match F,hlen with
      | f0 ::f1 ::fr,_=>exact⟨f0,f1,fr,rfl⟩
      | [f0],h=>simp at h;omega
      | [],h=>simp at h
     have HFE:=hide hFe;have h2l:2≤F.length:=by rw[hFe];simp
     have h2z:(2:Int)≤(F.length:Int):=by omega
     obtain⟨pa,pc,hpv,hpcap,hpall⟩:=hpo;injection hpv with e1 em e2;clear em;subst e1;subst e2;obtain⟨g,rfl,hg,q0,q1,q2⟩:=hpall 0 f0 (by rw[hFe];rfl);obtain⟨g',hge,_,r0,r1,r2⟩:=hpall 1 f1 (by rw[hFe];rfl);injection hge with hge;injection hge with hge;subst hge;have HPALL:=hide hpall;clear hpall hlen hFe;have hf0:=HWF.out f0 (by rw[HFE.out];simp);have hf1:=HWF.out f1 (by rw[HFE.out];simp);have HS5:=hide (Sits.new wr 322 #[.int .i64 f1.1,.int .i64 f1.2.stands,.int .i64 f1.2.weight]);have HB5:=hide (HBW.out.alloc HSZW.out (.cells #[.int .i64 f1.1,.int .i64 f1.2.stands,.int .i64 f1.2.weight] 322));have HO5:=hide (HO.out.alloc (.cells #[.int .i64 f1.1,.int .i64 f1.2.stands,.int .i64 f1.2.weight] 322));have HP5:=hide ((piles_of HO.out).below (below_new (w:=wr) (.cells #[.int .i64 f1.1,.int .i64 f1.2.stands,.int .i64 f1.2.weight] 322)));obtain⟨S,hS⟩:∃S,wr.heap.size=S:=⟨_,rfl⟩;have hgS:g<S:=by rw[←hS];exact hg
     have hwS:w.heap.size≤S:=by rw[←hS];exact HSZW.out
     rw[hS]at HS5;go_upto_region 20 with fail
     generalize wr.alloc (.cells #[.int .i64 f1.1,.int .i64 f1.2.stands,.int .i64 f1.2.weight] 322)=W1 at *;clear q0 q1 q2 r0 r1 r2;obtain⟨s0,s1,s2,sf⟩:=cells3 HS5.out;obtain⟨pa5,pc5,hpv5,_,hpall5⟩:=HP5.out;injection hpv5 with e1 em e2;clear em;subst e1;subst e2;obtain⟨g5,hge5,hg5,q0,q1,q2⟩:=hpall5 0 f0 (by rw[HFE.out];rfl);injection hge5 with hge5;injection hge5 with hge5;subst hge5;clear hpall5;have hsm:IntKind.i64.wrap (f1.2.weight+f0.2.weight)=f1.2.weight+f0.2.weight:=IntWalk.i64_in _ (by omega);go_cut [] (fun wx=>Hid (wx=(W1.setCell ⟨S,2,none⟩ (.int .i64 (f1.2.weight+f0.2.weight))).drew))
     case first=>
      go_region
      all_goals
       go_wp2_with fail
       go_meet
       exact hide rfl
     case rest=>
     have hwc:=hcut.out;subst hwc;have HS6:=hide (show Sits (W1.setCell ⟨S,2,none⟩ (.int .i64 (f1.2.weight+f0.2.weight))).drew S 322 #[.int .i64 f1.1,.int .i64 f1.2.stands,.int .i64 (f1.2.weight+f0.2.weight)] from HS5.out.set 2 (.int .i64 (f1.2.weight+f0.2.weight)));have HB6:=hide ((HB5.out.setCell (p:=⟨S,2,none⟩) hwS (.int .i64 (f1.2.weight+f0.2.weight))).drew);have HP6:=hide (show Piles (W1.setCell ⟨S,2,none⟩ (.int .i64 (f1.2.weight+f0.2.weight))).drew (.slice (some ⟨g,0,none⟩) F.length oc) F from piles_of (base:=w.heap.size) (own_set3 (i:=2) (x:=.int .i64 (f1.2.weight+f0.2.weight)) HO5.out fun b hb=>by
      simp[Value.ownBlock]at hb
      omega))
     clear s0 s1 s2 sf q0 q1 q2 hcut HO5 HP5 HS5 HB5;generalize (W1.setCell ⟨S,2,none⟩ (.int .i64 (f1.2.weight+f0.2.weight))).drew=W2 at *;obtain⟨s0,s1,s2,sf⟩:=cells3 HS6.out;have HR7:=hide (show (W2.alloc (.cells #[.int .i64 f1.1,.int .i64 f1.2.stands,.int .i64 (f1.2.weight+f0.2.weight)] 322)).ownsRow W2.heap.size 322 3 (.slice (some ⟨W2.heap.size,0,none⟩) 1 1) 1 (prow [(f1.1,(⟨f1.2.stands,f1.2.weight+f0.2.weight⟩:Cel))]) from World.ownsRow_lit W2 _ 1 (Nat.le_refl _) (by decide) rfl);have HB7:=hide (below_new (w:=W2) (.cells #[.int .i64 f1.1,.int .i64 f1.2.stands,.int .i64 (f1.2.weight+f0.2.weight)] 322));go_upto_region 22 with fail
     generalize W2.alloc (.cells #[.int .i64 f1.1,.int .i64 f1.2.stands,.int .i64 (f1.2.weight+f0.2.weight)] 322)=W3 at *;clear s0 s1 s2 sf;have HSZ2:=hide HB7.out.size;go_wp2_with fail
     go_loopw [17,18] (fun o i wq=>∃k:Nat,i=.int .i64 (k:Int)∧2≤k∧k≤F.length∧(∃a c,o=.slice a (k - 1) c)∧Hid (wq.ownsRow W2.heap.size 322 3 o (k - 1) (prow ((f1.1,(⟨f1.2.stands,f1.2.weight+f0.2.weight⟩:Cel)) ::fr.take (k - 2))))∧Hid (Below W2.heap.size W2 wq)) (fun _ i _=>F.length - (intOf i).toNat)
     case atStart=>exact⟨2,rfl,by omega,h2l,⟨_,_,rfl⟩,HR7.out,HB7.out⟩
     case round=>
      obtain⟨k,rfl,hk2,hk,⟨oa5,oc5,rfl⟩,HRq,HBq⟩:=hrel;by_cases hkl:k<F.length
      ·have hkz:(k:Int)<(F.length:Int):=by omega
       obtain⟨y,hy⟩:∃y,F[k]? = some y:=⟨_,uA hkl⟩;obtain⟨pa6,pc6,hpv6,hpc6,hpall6⟩:=HP6.out.below HBq.out;injection hpv6 with e1 em e2;clear em;subst e1;subst e2;obtain⟨g6,hge6,hg6,q0,q1,q2⟩:=hpall6 k y hy;injection hge6 with hge6;injection hge6 with hge6;subst hge6;clear hpall6;have HTK:=hide (show fr.take (k+1 - 2)=fr.take (k - 2)++[y] by
        have h1:fr[k - 2]? = some y:=by
         rw[HFE.out,show k=(k - 2)+1+1 by omega,uC,uC]at hy;exact hy
        rw[show k+1 - 2=(k - 2)+1 by omega,uG,h1];rfl)
       clear hy;have hk1:k - 1≤300:=by omega
       go_wp2_with (at_builtin;refine wpList_append_own _ rfl _ _ 263 rfl W2.heap.size 322 i0 (.agg #[.int .i64 0,.int .i64 0,.int .i64 0]) 3 24 Tryz.underlying263 hi hz0 hz1 hz2 rfl (by decide) _ _ _ rfl (HRq.out.alloc _) ⟨wr.heap.size,0,none⟩ 1 1 [.int .i64 y.1,.int .i64 y.2.stands,.int .i64 y.2.weight] rfl rfl (cell_three_new _ _ _ _ _) (fun x hx=>by simp at hx;rcases hx with rfl|rfl|rfl<;>rfl) (by unfold maxLen;omega) (by omega) (by have:=HBq.out.size;simp;omega) ?_;intro v8 w8 hown8 hg8 hn8)
       refine⟨⟨k+1,by go_num,by omega,by omega,?_,?_,own_grows3 HBq.out HBq.out.size HRq.out hg8⟩,by simp only[intOf];omega⟩
       ·obtain⟨a3,c3,rfl⟩:=own_shape3 hown8;exact⟨a3,c3,by rw[show k - 1+1=k+1 - 1 by omega]⟩
       ·show World.ownsRow _ _ _ _ _ _ _;rw[HTK.out,←List.cons_append,prow_append,show k+1 - 1=k - 1+1 by omega];exact hown8
      ·have hkz:¬(k:Int)<(F.length:Int):=by omega
       have hkk:k=F.length:=by omega
       subst hkk;have HEND:=hide (show Piles wr (.slice oa5 (F.length - 1) oc5) (fold F) by
        have h1:=HRq.out;have h2:fr.take (F.length - 2)=fr:=by
         rw[HFE.out];simp
        rw[h2]at h1;have h3:fold F=(f1.1,(⟨f1.2.stands,f1.2.weight+f0.2.weight⟩:Cel)) ::fr:=by rw[HFE.out];rfl
        rw[h3];have h4:((f1.1,(⟨f1.2.stands,f1.2.weight+f0.2.weight⟩:Cel)) ::fr).length=F.length - 1:=by rw[HFE.out];simp
        refine piles_of (base:=W2.heap.size) ?_;rw[h4];exact h1)
       have HBE:=hide (HB6.out.trans (HBq.out.mono HB6.out.size));go_wp2_with fail
       go_ret2
       refine⟨⟨.slice oa5 (F.length - 1) oc5,?_,?_⟩,HBE.out⟩
       ·rw[HFA.out,fellR,if_pos HL.out];rfl
       ·rw[HFA.out,fellR,if_pos HL.out];exact HEND.out
   | false=>
    have HFA:=hide (show fall n s wt l=acc++[(n,(⟨s,wt⟩:Cel))] by unfold fall;rw[hF];rfl);clear hF HF;go_upto_region 17 with (at_builtin;refine wpList_append_own _ rfl _ _ 263 rfl w.heap.size 322 i0 (.agg #[.int .i64 0,.int .i64 0,.int .i64 0]) 3 24 Tryz.underlying263 hi hz0 hz1 hz2 rfl (by decide) _ _ _ rfl (HR.out.alloc _) ⟨wr.heap.size,0,none⟩ 1 1 [.int .i64 n,.int .i64 s,.int .i64 wt] rfl rfl (cell_three_new _ _ _ _ _) (fun x hx=>by simp at hx;rcases hx with rfl|rfl|rfl<;>rfl) (by unfold maxLen;omega) (by omega) (by have:=HB.out.size;simp;omega) ?_;intro v2 w2 hown2 hg2 hn2)
    have HBW:=hide (own_grows3 HB.out HB.out.size HR.out hg2);obtain⟨F,hF⟩:∃F,acc++[(n,(⟨s,wt⟩:Cel))]=F:=⟨_,rfl⟩;have hFl:F.length=acc.length+1:=by rw[←hF];simp
    have HO:=hide (show w2.ownsRow w.heap.size 322 3 v2 F.length (prow F) by
     rw[hFl,←hF,prow_append];exact hown2)
    rw[hF]at HFA;have HWF:=hide (show ∀p∈F,0≤p.2.weight∧p.2.weight≤1000000000000002000 by rw[←HFA.out];exact HWW.out);have hal:F.length≤2*l.length+1:=by omega
    clear hown2 hg2 hn2 hF HR HB hFl;obtain⟨oa,oc,rfl⟩:=own_shape3 HO.out;have hpo:=piles_of HO.out;have HSZW:=hide HBW.out.size;by_cases hlen:F.length≤most
    ·have hlz:(F.length:Int)≤(most:Int):=by omega
     have HL:=hide (show ¬most<F.length by omega);have HPO:=hide hpo;clear hlen hpo;go_wp2_with fail
     go_ret2
     refine⟨⟨.slice oa F.length oc,?_,?_⟩,HBW.out⟩
     ·rw[HFA.out,fellR,if_neg HL.out];rfl
     ·rw[HFA.out,fellR,if_neg HL.out];exact HPO.out
    ·have hlz:¬(F.length:Int)≤(most:Int):=by omega
     have HL:=hide (show most<F.length by omega);obtain⟨f0,f1,fr,hFe⟩:∃f0 f1 fr,F=f0 ::f1 ::fr:=by
      match F,hlen with
      | f0 ::f1 ::fr,_=>exact⟨f0,f1,fr,rfl⟩
      | [f0],h=>simp at h;omega
      | [],h=>simp at h
     have HFE:=hide hFe;have h2l:2≤F.length:=by rw[hFe];simp
     have h2z:(2:Int)≤(F.length:Int):=by omega
     obtain⟨pa,pc,hpv,hpcap,hpall⟩:=hpo;injection hpv with e1 em e2;clear em;subst e1;subst e2;obtain⟨g,rfl,hg,q0,q1,q2⟩:=hpall 0 f0 (by rw[hFe];rfl);obtain⟨g',hge,_,r0,r1,r2⟩:=hpall 1 f1 (by rw[hFe];rfl);injection hge with hge;injection hge with hge;subst hge;have HPALL:=hide hpall;clear hpall hlen hFe;have hf0:=HWF.out f0 (by rw[HFE.out];simp);have hf1:=HWF.out f1 (by rw[HFE.out];simp);have HS5:=hide (Sits.new w2 322 #[.int .i64 f1.1,.int .i64 f1.2.stands,.int .i64 f1.2.weight]);have HB5:=hide (HBW.out.alloc HSZW.out (.cells #[.int .i64 f1.1,.int .i64 f1.2.stands,.int .i64 f1.2.weight] 322));have HO5:=hide (HO.out.alloc (.cells #[.int .i64 f1.1,.int .i64 f1.2.stands,.int .i64 f1.2.weight] 322));have HP5:=hide ((piles_of HO.out).below (below_new (w:=w2) (.cells #[.int .i64 f1.1,.int .i64 f1.2.stands,.int .i64 f1.2.weight] 322)));obtain⟨S,hS⟩:∃S,w2.heap.size=S:=⟨_,rfl⟩;have hgS:g<S:=by rw[←hS];exact hg
     have hwS:w.heap.size≤S:=by rw[←hS];exact HSZW.out
     rw[hS]at HS5;go_upto_region 20 with fail
     generalize w2.alloc (.cells #[.int .i64 f1.1,.int .i64 f1.2.stands,.int .i64 f1.2.weight] 322)=W1 at *;clear q0 q1 q2 r0 r1 r2;obtain⟨s0,s1,s2,sf⟩:=cells3 HS5.out;obtain⟨pa5,pc5,hpv5,_,hpall5⟩:=HP5.out;injection hpv5 with e1 em e2;clear em;subst e1;subst e2;obtain⟨g5,hge5,hg5,q0,q1,q2⟩:=hpall5 0 f0 (by rw[HFE.out];rfl);injection hge5 with hge5;injection hge5 with hge5;subst hge5;clear hpall5;have hsm:IntKind.i64.wrap (f1.2.weight+f0.2.weight)=f1.2.weight+f0.2.weight:=IntWalk.i64_in _ (by omega);go_cut [] (fun wx=>Hid (wx=(W1.setCell ⟨S,2,none⟩ (.int .i64 (f1.2.weight+f0.2.weight))).drew))
     case first=>
      go_region
      all_goals
       go_wp2_with fail
       go_meet
       exact hide rfl
     case rest=>
     have hwc:=hcut.out;subst hwc;have HS6:=hide (show Sits (W1.setCell ⟨S,2,none⟩ (.int .i64 (f1.2.weight+f0.2.weight))).drew S 322 #[.int .i64 f1.1,.int .i64 f1.2.stands,.int .i64 (f1.2.weight+f0.2.weight)] from HS5.out.set 2 (.int .i64 (f1.2.weight+f0.2.weight)));have HB6:=hide ((HB5.out.setCell (p:=⟨S,2,none⟩) hwS (.int .i64 (f1.2.weight+f0.2.weight))).drew);have HP6:=hide (show Piles (W1.setCell ⟨S,2,none⟩ (.int .i64 (f1.2.weight+f0.2.weight))).drew (.slice (some ⟨g,0,none⟩) F.length oc) F from piles_of (base:=w.heap.size) (own_set3 (i:=2) (x:=.int .i64 (f1.2.weight+f0.2.weight)) HO5.out fun b hb=>by
      simp[Value.ownBlock]at hb
      omega))
     clear s0 s1 s2 sf q0 q1 q2 hcut HO5 HP5 HS5 HB5;generalize (W1.setCell ⟨S,2,none⟩ (.int .i64 (f1.2.weight+f0.2.weight))).drew=W2 at *;obtain⟨s0,s1,s2,sf⟩:=cells3 HS6.out;have HR7:=hide (show (W2.alloc (.cells #[.int .i64 f1.1,.int .i64 f1.2.stands,.int .i64 (f1.2.weight+f0.2.weight)] 322)).ownsRow W2.heap.size 322 3 (.slice (some ⟨W2.heap.size,0,none⟩) 1 1) 1 (prow [(f1.1,(⟨f1.2.stands,f1.2.weight+f0.2.weight⟩:Cel))]) from World.ownsRow_lit W2 _ 1 (Nat.le_refl _) (by decide) rfl);have HB7:=hide (below_new (w:=W2) (.cells #[.int .i64 f1.1,.int .i64 f1.2.stands,.int .i64 (f1.2.weight+f0.2.weight)] 322));go_upto_region 22 with fail
     generalize W2.alloc (.cells #[.int .i64 f1.1,.int .i64 f1.2.stands,.int .i64 (f1.2.weight+f0.2.weight)] 322)=W3 at *;clear s0 s1 s2 sf;have HSZ2:=hide HB7.out.size;go_wp2_with fail
     go_loopw [17,18] (fun o i wq=>∃k:Nat,i=.int .i64 (k:Int)∧2≤k∧k≤F.length∧(∃a c,o=.slice a (k - 1) c)∧Hid (wq.ownsRow W2.heap.size 322 3 o (k - 1) (prow ((f1.1,(⟨f1.2.stands,f1.2.weight+f0.2.weight⟩:Cel)) ::fr.take (k - 2))))∧Hid (Below W2.heap.size W2 wq)) (fun _ i _=>F.length - (intOf i).toNat)
     case atStart=>exact⟨2,rfl,by omega,h2l,⟨_,_,rfl⟩,HR7.out,HB7.out⟩
     case round=>
      obtain⟨k,rfl,hk2,hk,⟨oa5,oc5,rfl⟩,HRq,HBq⟩:=hrel;by_cases hkl:k<F.length
      ·have hkz:(k:Int)<(F.length:Int):=by omega
       obtain⟨y,hy⟩:∃y,F[k]? = some y:=⟨_,uA hkl⟩;obtain⟨pa6,pc6,hpv6,hpc6,hpall6⟩:=HP6.out.below HBq.out;injection hpv6 with e1 em e2;clear em;subst e1;subst e2;obtain⟨g6,hge6,hg6,q0,q1,q2⟩:=hpall6 k y hy;injection hge6 with hge6;injection hge6 with hge6;subst hge6;clear hpall6;have HTK:=hide (show fr.take (k+1 - 2)=fr.take (k - 2)++[y] by
        have h1:fr[k - 2]? = some y:=by
         rw[HFE.out,show k=(k - 2)+1+1 by omega,uC,uC]at hy;exact hy
        rw[show k+1 - 2=(k - 2)+1 by omega,uG,h1];rfl)
       clear hy;have hk1:k - 1≤300:=by omega
       go_wp2_with (at_builtin;refine wpList_append_own _ rfl _ _ 263 rfl W2.heap.size 322 i0 (.agg #[.int .i64 0,.int .i64 0,.int .i64 0]) 3 24 Tryz.underlying263 hi hz0 hz1 hz2 rfl (by decide) _ _ _ rfl (HRq.out.alloc _) ⟨wr.heap.size,0,none⟩ 1 1 [.int .i64 y.1,.int .i64 y.2.stands,.int .i64 y.2.weight] rfl rfl (cell_three_new _ _ _ _ _) (fun x hx=>by simp at hx;rcases hx with rfl|rfl|rfl<;>rfl) (by unfold maxLen;omega) (by omega) (by have:=HBq.out.size;simp;omega) ?_;intro v8 w8 hown8 hg8 hn8)
       refine⟨⟨k+1,by go_num,by omega,by omega,?_,?_,own_grows3 HBq.out HBq.out.size HRq.out hg8⟩,by simp only[intOf];omega⟩
       ·obtain⟨a3,c3,rfl⟩:=own_shape3 hown8;exact⟨a3,c3,by rw[show k - 1+1=k+1 - 1 by omega]⟩
       ·show World.ownsRow _ _ _ _ _ _ _;rw[HTK.out,←List.cons_append,prow_append,show k+1 - 1=k - 1+1 by omega];exact hown8
      ·have hkz:¬(k:Int)<(F.length:Int):=by omega
       have hkk:k=F.length:=by omega
       subst hkk;have HEND:=hide (show Piles wr (.slice oa5 (F.length - 1) oc5) (fold F) by
        have h1:=HRq.out;have h2:fr.take (F.length - 2)=fr:=by
         rw[HFE.out];simp
        rw[h2]at h1;have h3:fold F=(f1.1,(⟨f1.2.stands,f1.2.weight+f0.2.weight⟩:Cel)) ::fr:=by rw[HFE.out];rfl
        rw[h3];have h4:((f1.1,(⟨f1.2.stands,f1.2.weight+f0.2.weight⟩:Cel)) ::fr).length=F.length - 1:=by rw[HFE.out];simp
        refine piles_of (base:=W2.heap.size) ?_;rw[h4];exact h1)
       have HBE:=hide (HB6.out.trans (HBq.out.mono HB6.out.size));go_wp2_with fail
       go_ret2
       refine⟨⟨.slice oa5 (F.length - 1) oc5,?_,?_⟩,HBE.out⟩
       ·rw[HFA.out,fellR,if_pos HL.out];rfl
       ·rw[HFA.out,fellR,if_pos HL.out];exact HEND.out
end Go.Proofs.YtenegfafjjknoaaGreatDoor.Ra
namespace Go.Proofs.YtenegfafjjknoaaGreatDoor.Ra
open Wm Im
def layL (n s wt:Int):List (Int×Cel)→List (Int×Cel)
 | []=>[(n,⟨s,wt⟩)]
 | x ::r=>if n<x.1 then (n,⟨s,wt⟩) ::x ::r else if x.1=n then (x.1,⟨x.2.stands,x.2.weight+wt⟩) ::r else x ::layL n s wt r
theorem fold_put {n s wt:Int}(r:List (Int×Cel))(h:∀x∈r,n<x.1):∀acc,r.foldl (fstep n s wt) (acc,true)=(acc++r,true):=by
 induction r with
 | nil=>intro acc;simp
 | cons x r ih=>
  intro acc;have hx:=h x (uF ..);have e:fstep n s wt (acc,true) x=(acc++[x],true):=by
   unfold fstep;rw[if_neg (by simp),if_neg (by omega)];simp
  rw[List.foldl_cons,e,ih fun y hy=>h y (uD _ hy)];simp
theorem up_tail {x:Int×Cel}{r:List (Int×Cel)}(h:Up iLt (x ::r)):(∀y∈r,x.1<y.1)∧Up iLt r:=by
 obtain⟨h1,h2⟩:=List.pairwise_cons.1 h;exact⟨fun y hy=>by simpa[iLt] using h1 y hy,h2⟩
theorem fall_acc {n s wt:Int}(l:List (Int×Cel))(h:Up iLt l):∀acc,(if (l.foldl (fstep n s wt) (acc,false)).2 then (l.foldl (fstep n s wt) (acc,false)).1 else (l.foldl (fstep n s wt) (acc,false)).1++[(n,⟨s,wt⟩)])=acc++layL n s wt l:=by
 induction l with
 | nil=>intro acc;simp[layL]
 | cons x r ih=>
  intro acc;obtain⟨h1,h2⟩:=up_tail h;rw[List.foldl_cons,layL];by_cases c1:n<x.1
  ·have e:fstep n s wt (acc,false) x=(acc++[(n,(⟨s,wt⟩:Cel))]++[x],true):=by
    unfold fstep;rw[if_pos ⟨rfl,c1⟩,if_neg (by omega)];simp[c1]
   rw[e,fold_put r fun y hy=>by have:=h1 y hy;omega,if_pos rfl,if_pos c1];simp
  ·by_cases c2:x.1=n
   ·have e:fstep n s wt (acc,false) x=(acc++[(x.1,(⟨x.2.stands,x.2.weight+wt⟩:Cel))],true):=by
     unfold fstep;rw[if_neg (fun h=>c1 h.2),if_pos c2];simp[c2]
    rw[e,fold_put r fun y hy=>by have:=h1 y hy;omega,if_pos rfl,if_neg c1,if_pos c2];simp
   ·have e:fstep n s wt (acc,false) x=(acc++[x],false):=by
     unfold fstep;rw[if_neg (fun h=>c1 h.2),if_neg c2];simp[c1,c2]
    rw[e,ih h2,if_neg c1,if_neg c2];simp
theorem fall_is {n s wt:Int}{l:List (Int×Cel)}(h:Up iLt l):fall n s wt l=layL n s wt l:=by
 have:=fall_acc (n:=n) (s:=s) (wt:=wt) l h [];rw[List.nil_append]at this;exact this
theorem del_all {n:Int}{r:List (Int×Cel)}(h:∀x∈r,n<x.1):del n r=r:=by
 show r.filter _=r;rw[List.filter_eq_self];intro x hx;have:=h x hx;simp
 omega
theorem wgt_none {n:Int}{r:List (Int×Cel)}(h:∀x∈r,n<x.1):wgt n r=0:=by
 unfold wgt;have:getE n r=none:=by
  unfold getE;rw[List.find?_eq_none.2]
  ·rfl
  ·intro x hx;have:=h x hx;simp
   omega
 rw[this]
theorem ins_head {n:Int}{c:Cel}{r:List (Int×Cel)}(h:∀x∈r,n<x.1):ins iLt (n,c) r=(n,c) ::r:=by
 cases r with
 | nil=>rfl
 | cons x r=>rw[ins,if_pos (by simpa[iLt] using h x (uF ..))]
theorem layL_is {n s wt:Int}(l:List (Int×Cel))(h:Up iLt l)(hs:∀c∈l,c.1=n→c.2.stands=s):put iLt n ⟨s,wgt n l+wt⟩ l=layL n s wt l:=by
 induction l with
 | nil=>
  show ins iLt (n,(⟨s,wgt n []+wt⟩:Cel)) []=_;rw[wgt_none (by simp),Int.zero_add];rfl
 | cons x r ih=>
  obtain⟨h1,h2⟩:=up_tail h;rw[layL];by_cases c1:n<x.1
  ·have ha:∀y∈x ::r,n<y.1:=by
    intro y hy;rcases List.mem_cons.1 hy with rfl|hy
    ·exact c1
    ·have:=h1 y hy;omega
   rw[put,del_all ha,wgt_none ha,ins_head ha,if_pos c1,Int.zero_add]
  ·by_cases c2:x.1=n
   ·have ha:∀y∈r,n<y.1:=fun y hy=>by have:=h1 y hy;omega
    have hd:del n (x ::r)=r:=by
     show (x ::r).filter _=r;rw[List.filter_cons_of_neg (by simp[c2])];exact del_all ha
    have hw:wgt n (x ::r)=x.2.weight:=by
     unfold wgt;rw[getE_cons_eq c2]
    rw[put,hd,hw,ins_head ha,if_neg c1,if_pos c2,hs x (uF ..) c2,c2]
   ·have hd:del n (x ::r)=x ::del n r:=List.filter_cons_of_pos (by simp[c2]);have hw:wgt n (x ::r)=wgt n r:=by
     unfold wgt;rw[getE_cons_ne c2]
    rw[put,hd,hw,ins,if_neg (by simp[iLt];omega),if_neg c1,if_neg c2]
    congr 1
    exact ih h2 fun c hc=>hs c (uD _ hc)
def Std (l:List (Int×Cel)):Prop:=∀c∈l,∃v,0≤v∧v≤999999999∧bk v=(c.1,c.2.stands)
theorem bk_one {v v':Int}(h0:0≤v)(h1:v≤999999999)(_:0≤v')(_:v'≤999999999)(h:(bk v).1=(bk v').1):(bk v).2=(bk v').2:=by
 rcases bk_is v with ⟨a,_⟩|⟨_,_,k,e1,_,_,e2⟩
 ·omega
 ·rcases bk_is v' with ⟨a,_⟩|⟨_,_,k',e3,_,_,e4⟩
  ·omega
  ·have:k=k':=by omega
   subst this;rw[e2,e4]
theorem fall_lay {v wt:Int}{l:List (Int×Cel)}(h:Up iLt l)(hs:Std l)(h0:0≤v)(h1:v≤999999999):fall (bk v).1 (bk v).2 wt l=lay v wt l:=by
 rw[fall_is h];refine(layL_is l h fun c hc e=>?_).symm;obtain⟨v',k0,k1,hv⟩:=hs c hc;have:=bk_one h0 h1 k0 k1 (by rw[hv,e]);rw[this,hv]
theorem Std.lay {v wt:Int}{l:List (Int×Cel)}(hs:Std l)(h0:0≤v)(h1:v≤999999999):Std (Wm.lay v wt l):=by
 intro c hc;rcases mem_put hc with rfl|⟨hc,_⟩
 ·exact⟨v,h0,h1,rfl⟩
 ·exact hs c hc
theorem Std.fold {l:List (Int×Cel)}(hs:Std l):Std (Wm.fold l):=by
 match l,hs with
 | [],hs=>exact hs
 | [a],hs=>exact hs
 | a ::b ::r,hs=>
  intro c hc;rcases List.mem_cons.1 hc with rfl|hc
  ·exact hs b (uD _ (uF ..))
  ·exact hs c (uD _ (uD _ hc))
theorem fellR_tadd {most:Nat}{t:Tim}{v wt:Int}(h:Up iLt t.cells)(hs:Std t.cells)(h0:0≤v)(h1:v≤999999999):fellR most (fall (bk v).1 (bk v).2 wt t.cells)=((tadd most t v wt).cells,decide (most<(lay v wt t.cells).length)):=by
 rw[fall_lay h hs h0 h1];unfold fellR;by_cases hl:most<(lay v wt t.cells).length
 ·simp[tadd,hl]
 ·simp[tadd,hl]
theorem Std.tadd {most:Nat}{t:Tim}{v wt:Int}(hs:Std t.cells)(h0:0≤v)(h1:v≤999999999):Std (Wm.tadd most t v wt).cells:=by
 simp only[Wm.tadd];split
 ·exact(hs.lay h0 h1).fold
 ·exact hs.lay h0 h1
end Go.Proofs.YtenegfafjjknoaaGreatDoor.Ra
