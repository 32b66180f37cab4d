/- A tag among others: the document's list, and its walk. -/
import Derived.Test.YtenegfafjjknoaaGreatDoorTagwy
import Derived.Sort.Walk0
import Derived.Test.YtenegfafjjknoaaGreatDoorRefdy
import Derived.Test.YtenegfafjjknoaaGreatDoorImx
set_option maxHeartbeats 100000000
open List renaming length_append → uA, append_assoc → uB, take_add_one → uC
namespace Go.Proofs.YtenegfafjjknoaaGreatDoor.Refi
open Go.RowKit Bytes Numw Mem Tagw
def le' (t x:List UInt8):Bool:=Op.bytesLess t x||t==x
def step (t:List UInt8)(st:List (List UInt8)×Bool)(x:List UInt8):List (List UInt8)×Bool:=
 ((if st.2=false∧le' t x=true then st.1++[t] else st.1)++(if x=t then [] else [x]),st.2||le' t x)
def ins (t:List UInt8)(l:List (List UInt8)):List (List UInt8):=
 if (l.foldl (step t) ([],false)).2 then (l.foldl (step t) ([],false)).1 else (l.foldl (step t) ([],false)).1++[t]
def enc (ls:List (List UInt8)):List Value:=ls.map fun x=>.string ⟨x.toArray⟩
theorem enc_append (a b:List (List UInt8)):enc (a++b)=enc a++enc b:=List.map_append ..
theorem own_shape {w:World}{base:Nat}{v:Value}{n:Nat}{xs:List Value}(h:w.ownsRow base 9 1 v n xs):∃ao cv,v=.slice ao n cv:=by
 rcases h.2 with ⟨h1,h2⟩|⟨g,cap,cur,h1,_⟩
 ·exact⟨none,0,by rw[h1,h2]⟩
 ·exact⟨_,_,h1⟩
theorem own_strs {w:World}{base:Nat}{v:Value}{ls:List (List UInt8)}(h:w.ownsRow base 9 1 v ls.length (enc ls)):Strs base w v ls:=by
 rcases h.2 with ⟨h1,h2⟩|⟨g,cap,cur,h1,h2,h3,h4,h5,h6,h7⟩
 ·exact Or.inl ⟨List.eq_nil_of_length_eq_zero h2,h1⟩
 ·have hlt:g<w.heap.size:=(Array.getElem?_eq_some_iff.1 h3).1;refine Or.inr ⟨g,cap,h1,h2,hlt,h4,fun j x hx=>?_⟩;have hj:j<ls.length:=(List.getElem?_eq_some_iff.1 hx).1;have e:cur[j]? = some (.string ⟨x.toArray⟩):=by
   rw[←Array.getElem?_toList];have:(cur.toList.take (ls.length*1))[j]? = (enc ls)[j]? :=by rw[h7]
   rw[List.getElem?_take_of_lt (by omega)]at this;rw[this,enc,List.getElem?_map,hx];rfl
  have hS:Sits w g 9 cur:=h3;exact hS.cell j _ e
theorem take_snoc {ls:List (List UInt8)}{k:Nat}{x:List UInt8}(h:ls[k]? = some x)(t:List UInt8):(ls.take (k+1)).foldl (step t) ([],false)=step t ((ls.take k).foldl (step t) ([],false)) x:=by
 rw[uC,h,Option.toList_some,List.foldl_append];rfl
theorem mk_B (s:ByteArray):(⟨(B s).toArray⟩:ByteArray)=s:=Lib.mk_data s
theorem own_block {w:World}{base:Nat}{v:Value}{n:Nat}{xs:List Value}(h:w.ownsRow base 9 1 v n xs):∀k,v.ownBlock=some k→base≤k:=by
 intro k hk;rcases h.2 with ⟨h1,_⟩|⟨g,cap,cur,h1,h2,_⟩
 ·rw[h1]at hk;cases hk
 ·rw[h1]at hk;cases hk
  exact h2
theorem own_more {w:World}{base:Nat}{v:Value}{acc:List (List UInt8)}{xb:ByteArray}{x:List UInt8}(hx:B xb=x)(h:w.ownsRow base 9 1 v (acc.length+1) (enc acc++[.string xb])):w.ownsRow base 9 1 v (acc++[x]).length (enc (acc++[x])):=by
 have e:enc (acc++[x])=enc acc++[.string xb]:=by
  rw[enc_append,←hx];show enc acc++[Value.string ⟨(B xb).toArray⟩]=_;rw[mk_B]
 rw[e,uA];exact h
theorem below_more {w wr w2:World}{base:Nat}{o:Obj}{v:Value}{n:Nat}{xs:List Value}(hb:Below base w wr)(hB:base≤wr.heap.size)(ho:wr.ownsRow base 9 1 v n xs)(hg:(wr.alloc o).grownBy w2 v.ownBlock):Below base w w2:=
 (hb.alloc hB o).grown hg (by simp;omega) (own_block ho)
theorem later {w w2:World}{G k:Nat}{v:Value}(hb:Below w.heap.size w w2)(hG:G<w.heap.size)(h:w.cell? ⟨G,k,none⟩=some v):w2.cell? ⟨G,k,none⟩=some v:=by
 rw[hb.cell (p:=⟨G,k,none⟩) hG,h]
theorem own_back {w:World}{base:Nat}{v:Value}{acc:List (List UInt8)}{tb xb:ByteArray}(h:w.ownsRow base 9 1 v (acc.length+1+1) (enc acc++[.string tb]++[.string xb])):w.ownsRow base 9 1 v (acc.length+[B tb].length+1) (enc acc++enc [B tb]++[.string xb]):=by
 have e:enc [B tb]=[.string tb]:=by
  show [Value.string ⟨(B tb).toArray⟩]=_;rw[mk_B]
 rw[e];exact h
theorem le_iff {tb xb:ByteArray}{x:List UInt8}(hx:B xb=x):(Op.bytesLess tb.toList xb.toList||tb.toList==xb.toList)=le' (B tb) x:=by
 rw[←hx,Lib.toList_data,Lib.toList_data];rfl
theorem eq_iff' {tb xb:ByteArray}{x:List UInt8}(hx:B xb=x):(xb.toList==tb.toList)=(x==B tb):=by
 rw[←hx,Lib.toList_data,Lib.toList_data];rfl
theorem step_eq {t x:List UInt8}{acc:List (List UInt8)}{put l e:Bool}(hl:le' t x=l)(he:(x==t)=e):step t (acc,put) x=((if put=false∧l=true then acc++[t] else acc)++(if e=true then [] else [x]),put||l):=by
 subst hl;subst he;simp only[step,beq_iff_eq]
theorem ins_of {t:List UInt8}{ls acc:List (List UInt8)}{put:Bool}(h:(ls.take ls.length).foldl (step t) ([],false)=(acc,put)):ins t ls=if put then acc else acc++[t]:=by
 rw[List.take_length]at h;rw[ins,h]
theorem insert_some (G cap:Nat)(ls:List (List UInt8))(tb:ByteArray)(w:World)(hn:ls.length≤1000)(hG:G<w.heap.size)(_hc:ls.length≤cap)(hcell:∀j x,ls[j]? = some x→w.cell? ⟨G,j,none⟩=some (.string ⟨x.toArray⟩)):
  Calls Tryz.prog 84 #[.slice (some ⟨G,0,none⟩) ls.length cap,.string tb] w fun e w'=>(∃v,e=.returned v∧Strs w.heap.size w' v (ins (B tb) ls))∧Below w.heap.size w w':=by
 obtain⟨i0,hi,hz0,hz1,hz2⟩:=info_parts Split.hi9;have HC:=hide hcell;clear hcell;go_enter Tryz.func84,Tryz.ntmps84
 go_wp2_with fail
 go_loopw [5,6,7] (fun s5 s6 s7 wr=>∃(k:Nat) (acc:List (List UInt8)) (put:Bool) (ao:Option Addr) (cv:Nat),s5=.slice ao acc.length cv∧s6=.bool put∧s7=.int .i64 k∧k≤ls.length∧acc.length≤2*k∧wr.ownsRow w.heap.size 9 1 (.slice ao acc.length cv) acc.length (enc acc)∧Below w.heap.size w wr∧Hid ((ls.take k).foldl (step (B tb)) ([],false)=(acc,put)))
  (fun _ _ s7 _=>ls.length - (intOf s7).toNat)
 case atStart=>exact⟨0,[],false,none,0,rfl,rfl,rfl,Nat.zero_le _,by simp,World.ownsRow_nil _ _ _ _,Below.refl _ _,rfl⟩
 case round=>
  obtain⟨k,acc,put,ao,cv,rfl,rfl,rfl,hk,hal,hown,hbel,HF⟩:=hrel;have hsize:=hbel.size;by_cases hlt:k<ls.length
  ·obtain⟨x,hx⟩:∃x,ls[k]? = some x:=⟨_,List.getElem?_eq_getElem hlt⟩;obtain⟨xb,hxb⟩:∃xb:ByteArray,(⟨x.toArray⟩:ByteArray)=xb:=⟨_,rfl⟩;have hBx:B xb=x:=by
    rw[←hxb];rfl
   have hcx:wr.cell? ⟨G,k,none⟩=some (.string xb):=by
    rw[hbel.cell (p:=⟨G,k,none⟩) hG,HC.out k x hx,hxb]
   have hc0:w.cell? ⟨G,k,none⟩=some (.string xb):=by
    rw[HC.out k x hx,hxb]
   have HC0:=hide hc0;clear hc0;have hltz:(k:Int)<(ls.length:Int):=by omega
   have hst:=take_snoc hx (B tb);rw[HF.out]at hst;have HST:=hide hst;have HBX:=hide hBx;clear hx hxb hBx hst HF;have hsz3:=hsize;cases hle:(Op.bytesLess tb.toList xb.toList||tb.toList==xb.toList) with
   | true=>
    cases heq:(xb.toList==tb.toList) with
    | true=>
     have hne:(xb.toList != tb.toList)=false:=by simp[bne,heq]
     cases put with
     | true=>
      go_wp2_with fail
      go_roundw
      case rel=>exact⟨k+1,acc,true,ao,cv,rfl,rfl,by go_num,by omega,by omega,hown,hbel,hide (by rw[HST.out,step_eq ((le_iff HBX.out).symm.trans hle) ((eq_iff' HBX.out).symm.trans heq)];simp)⟩
      case measure=>simp[intOf];omega
     | false=>
      go_wp2_with (at_builtin;refine wpList_append_own _ rfl _ _ 36 rfl w.heap.size 9 i0 (.string ByteArray.empty) 1 16 Tryz.underlying36 hi hz0 hz1 hz2 rfl (by decide) _ _ _ rfl (hown.alloc _) ⟨wr.heap.size,0,none⟩ 1 1 [.string tb] rfl rfl (cell_one_new _ _ _) (fun x hx=>by simp at hx;subst hx;rfl) (by unfold maxLen;omega) (by omega) (by simp;omega) ?_;intro v2 w2 hown2 hg2 hn2;have hb2:=below_more hbel hsize hown hg2;have hcx2:=later hb2 hG HC0.out;have hsz2:=hb2.size)
      obtain⟨ao2,cv2,rfl⟩:=own_shape hown2;go_roundw
      case rel=>exact⟨k+1,acc++[B tb],true,ao2,cv2,by simp,rfl,by go_num,by omega,by simp;omega,by have h:=own_more (x:=B tb) rfl hown2;rw[uA]at h ⊢;exact h,below_more hbel hsize hown hg2,hide (by rw[HST.out,step_eq ((le_iff HBX.out).symm.trans hle) ((eq_iff' HBX.out).symm.trans heq)];simp)⟩
      case measure=>simp[intOf];omega
    | false=>
     have hne:(xb.toList != tb.toList)=true:=by simp[bne,heq]
     cases put with
     | true=>
      go_wp2_with (at_builtin;refine wpList_append_own _ rfl _ _ 36 rfl w.heap.size 9 i0 (.string ByteArray.empty) 1 16 Tryz.underlying36 hi hz0 hz1 hz2 rfl (by decide) _ _ _ rfl (hown.alloc _) ⟨wr.heap.size,0,none⟩ 1 1 [.string xb] rfl rfl (cell_one_new _ _ _) (fun x hx=>by simp at hx;subst hx;rfl) (by unfold maxLen;omega) (by omega) (by simp;omega) ?_;intro v3 w3 hown3 hg3 hn3)
      obtain⟨ao2,cv2,rfl⟩:=own_shape hown3;go_roundw
      case rel=>exact⟨k+1,acc++[x],true,ao2,cv2,by simp,rfl,by go_num,by omega,by simp;omega,by have h:=own_more HBX.out hown3;rw[uA]at h ⊢;exact h,below_more hbel hsize hown hg3,hide (by rw[HST.out,step_eq ((le_iff HBX.out).symm.trans hle) ((eq_iff' HBX.out).symm.trans heq)];simp)⟩
      case measure=>simp[intOf];omega
     | false=>
      go_wp2_with (first|(at_builtin;refine wpList_append_own _ rfl _ _ 36 rfl w.heap.size 9 i0 (.string ByteArray.empty) 1 16 Tryz.underlying36 hi hz0 hz1 hz2 rfl (by decide) _ _ _ rfl (hown2.alloc _) ⟨w2.heap.size,0,none⟩ 1 1 [.string xb] rfl rfl (cell_one_new _ _ _) (fun x hx=>by simp at hx;subst hx;rfl) (by unfold maxLen;omega) (by omega) (by simp;omega) ?_;intro v3 w3 hown3 hg3 hn3)|(at_builtin;refine wpList_append_own _ rfl _ _ 36 rfl w.heap.size 9 i0 (.string ByteArray.empty) 1 16 Tryz.underlying36 hi hz0 hz1 hz2 rfl (by decide) _ _ _ rfl (hown.alloc _) ⟨wr.heap.size,0,none⟩ 1 1 [.string tb] rfl rfl (cell_one_new _ _ _) (fun x hx=>by simp at hx;subst hx;rfl) (by unfold maxLen;omega) (by omega) (by simp;omega) ?_;intro v2 w2 hown2 hg2 hn2;have hb2:=below_more hbel hsize hown hg2;have hcx2:=later hb2 hG HC0.out;have hsz2:=hb2.size))
      obtain⟨ao2,cv2,rfl⟩:=own_shape hown3;go_roundw
      case rel=>exact⟨k+1,acc++[B tb]++[x],true,ao2,cv2,by simp,rfl,by go_num,by omega,by simp;omega,by have h:=own_more HBX.out (acc:=acc++[B tb]) (by have h2:=hown3;rw[enc_append,uA];exact own_back h2);rw[uA,uA]at h ⊢;exact h,below_more hb2 hb2.size hown2 hg3,hide (by rw[HST.out,step_eq ((le_iff HBX.out).symm.trans hle) ((eq_iff' HBX.out).symm.trans heq)];simp)⟩
      case measure=>simp[intOf];omega
   | false=>
    cases heq:(xb.toList==tb.toList) with
    | true=>
     exfalso
     rw[Bool.or_eq_false_iff]at hle;have h1:=hle.2;rw[beq_eq_false_iff_ne]at h1;exact h1 (by simpa using (beq_iff_eq.1 heq).symm)
    | false=>
     have hne:(xb.toList != tb.toList)=true:=by simp[bne,heq]
     cases put with
     | true=>
      go_wp2_with (at_builtin;refine wpList_append_own _ rfl _ _ 36 rfl w.heap.size 9 i0 (.string ByteArray.empty) 1 16 Tryz.underlying36 hi hz0 hz1 hz2 rfl (by decide) _ _ _ rfl (hown.alloc _) ⟨wr.heap.size,0,none⟩ 1 1 [.string xb] rfl rfl (cell_one_new _ _ _) (fun x hx=>by simp at hx;subst hx;rfl) (by unfold maxLen;omega) (by omega) (by simp;omega) ?_;intro v3 w3 hown3 hg3 hn3)
      obtain⟨ao2,cv2,rfl⟩:=own_shape hown3;go_roundw
      case rel=>exact⟨k+1,acc++[x],true,ao2,cv2,by simp,rfl,by go_num,by omega,by simp;omega,by have h:=own_more HBX.out hown3;rw[uA]at h ⊢;exact h,below_more hbel hsize hown hg3,hide (by rw[HST.out,step_eq ((le_iff HBX.out).symm.trans hle) ((eq_iff' HBX.out).symm.trans heq)];simp)⟩
      case measure=>simp[intOf];omega
     | false=>
      go_wp2_with (at_builtin;refine wpList_append_own _ rfl _ _ 36 rfl w.heap.size 9 i0 (.string ByteArray.empty) 1 16 Tryz.underlying36 hi hz0 hz1 hz2 rfl (by decide) _ _ _ rfl (hown.alloc _) ⟨wr.heap.size,0,none⟩ 1 1 [.string xb] rfl rfl (cell_one_new _ _ _) (fun x hx=>by simp at hx;subst hx;rfl) (by unfold maxLen;omega) (by omega) (by simp;omega) ?_;intro v3 w3 hown3 hg3 hn3)
      obtain⟨ao2,cv2,rfl⟩:=own_shape hown3;go_roundw
      case rel=>exact⟨k+1,acc++[x],false,ao2,cv2,by simp,rfl,by go_num,by omega,by simp;omega,by have h:=own_more HBX.out hown3;rw[uA]at h ⊢;exact h,below_more hbel hsize hown hg3,hide (by rw[HST.out,step_eq ((le_iff HBX.out).symm.trans hle) ((eq_iff' HBX.out).symm.trans heq)];simp)⟩
      case measure=>simp[intOf];omega
  ·have hltz:¬(k:Int)<(ls.length:Int):=by omega
   have hkk:k=ls.length:=by omega
   subst hkk;cases put with
   | true=>
    go_wp2_with fail
    go_ret
    refine⟨⟨_,rfl,?_⟩,hbel⟩;rw[ins_of HF.out,if_pos rfl];exact own_strs hown
   | false=>
    go_wp2_with (at_builtin;refine wpList_append_own _ rfl _ _ 36 rfl w.heap.size 9 i0 (.string ByteArray.empty) 1 16 Tryz.underlying36 hi hz0 hz1 hz2 rfl (by decide) _ _ _ rfl (hown.alloc _) ⟨wr.heap.size,0,none⟩ 1 1 [.string tb] rfl rfl (cell_one_new _ _ _) (fun x hx=>by simp at hx;subst hx;rfl) (by unfold maxLen;omega) (by omega) (by simp;omega) ?_;intro v2 w2 hown2 hg2 hn2)
    go_ret
    refine⟨⟨_,rfl,?_⟩,below_more hbel hsize hown hg2⟩;rw[ins_of HF.out];exact own_strs (own_more rfl hown2)
theorem insert_nil (tb:ByteArray)(w:World):
  Calls Tryz.prog 84 #[.slice none 0 0,.string tb] w fun e w'=>(∃v,e=.returned v∧Strs w.heap.size w' v [B tb])∧Below w.heap.size w w':=by
 obtain⟨i0,hi,hz0,hz1,hz2⟩:=info_parts Split.hi9;have hown:w.ownsRow w.heap.size 9 1 (.slice none 0 0) 0 []:=World.ownsRow_nil _ _ _ _;go_enter Tryz.func84,Tryz.ntmps84
 go_wp2_with fail
 refine wp_loop_rounds 1 ?_;rw[rounds_succ];go_wp2_with (at_builtin;refine wpList_append_own _ rfl _ _ 36 rfl w.heap.size 9 i0 (.string ByteArray.empty) 1 16 Tryz.underlying36 hi hz0 hz1 hz2 rfl (by decide) _ _ _ rfl (hown.alloc _) ⟨w.heap.size,0,none⟩ 1 1 [.string tb] rfl rfl (cell_one_new _ _ _) (fun x hx=>by simp at hx;subst hx;rfl) (by unfold maxLen;omega) (by omega) (by simp) ?_;intro v2 w2 hown2 hg2 hn2)
 go_ret
 refine⟨⟨_,rfl,?_⟩,below_more (Below.refl _ _) (Nat.le_refl _) hown hg2⟩;exact own_strs (own_more (acc:=[]) (x:=B tb) rfl hown2)
theorem insert (lo:Nat)(lv:Value)(ls:List (List UInt8))(tb:ByteArray)(w:World)(hst:Strs lo w lv ls)(hn:ls.length≤1000):
  Calls Tryz.prog 84 #[lv,.string tb] w fun e w'=>(∃v,e=.returned v∧Strs w.heap.size w' v (ins (B tb) ls))∧Below w.heap.size w w':=by
 rcases hst with ⟨rfl,rfl⟩|⟨g,cap,rfl,h1,h2,h3,h4⟩
 ·exact insert_nil tb w
 ·exact insert_some g cap ls tb w hn h2 h3 h4
end Go.Proofs.YtenegfafjjknoaaGreatDoor.Refi
namespace Go.Proofs.YtenegfafjjknoaaGreatDoor.Refe
open Go.RowKit Bytes Numw Mem Plain Refd Tagw
/-! ### Three digits without zeros at their end -/
theorem dd_three {r:Nat}(h:r<1000):(Lib.decDigits (1000+r)).drop 1=[UInt8.ofNat (48+r / 100),UInt8.ofNat (48+r / 10 % 10),UInt8.ofNat (48+r % 10)]:=by
 rw[Lib.decDigits,dif_neg (by omega),Lib.decDigits,dif_neg (by omega),Lib.decDigits,dif_neg (by omega),Lib.decDigits_one (by omega)];simp only[uB,List.singleton_append];have e1:(1000+r) / 10 / 10 % 10=r / 100:=by omega
 have e2:(1000+r) / 10 % 10=r / 10 % 10:=by omega
 have e3:(1000+r) % 10=r % 10:=by omega
 rw[e1,e2,e3];rfl
end Go.Proofs.YtenegfafjjknoaaGreatDoor.Refe
namespace Go.Proofs.YtenegfafjjknoaaGreatDoor.Reft
open Go.RowKit Bytes Numw Mem Plain Tagw Bounds
def ty (K:Int):ByteArray:=if K=99 then ⟨#[99]⟩ else if K=115 then ⟨#[115]⟩ else if K=109 then ⟨#[109,115]⟩ else ⟨#[103]⟩
theorem ty_size (K:Int):(ty K).size≤2:=by
 unfold ty;split
 ·decide
 ·split
  ·decide
  ·split<;>decide
theorem typeOf (nb wb:ByteArray)(K v r:Int)(sa:Option Addr)(sl sc:Nat)(w:World):
  Calls Tryz.prog 86 #[.agg #[.string nb,.int .u8 K,.int .i64 v,.string wb,.int .i64 r,.slice sa sl sc]] w fun e w'=>e=.returned (.string (ty K))∧Below w.heap.size w w':=by
 by_cases h1:K=99
 ·subst h1;go_enter Tryz.func86,Tryz.ntmps86
  go_wp2_with fail
  go_ret
  exact⟨rfl,below_new _⟩
 ·have k1:(K==99)=false:=by simpa using h1
  by_cases h2:K=115
  ·subst h2;go_enter Tryz.func86,Tryz.ntmps86
   go_wp2_with fail
   go_ret
   exact⟨rfl,below_new _⟩
  ·have k2:(K==115)=false:=by simpa using h2
   by_cases h3:K=109
   ·subst h3;go_enter Tryz.func86,Tryz.ntmps86
    go_wp2_with fail
    go_ret
    exact⟨rfl,below_new _⟩
   ·have k3:(K==109)=false:=by simpa using h3
    have e:ty K=⟨#[103]⟩:=by
     unfold ty;rw[if_neg h1,if_neg h2,if_neg h3]
    have HE:=hide e;clear e h1 h2 h3;go_enter Tryz.func86,Tryz.ntmps86
    go_wp2_with fail
    go_ret
    exact⟨by rw[HE.out];rfl,below_new _⟩
/-! ### Tags behind a text -/
theorem join_snoc (l:List (List UInt8))(x:List UInt8)(h:l≠[]):Lib.join (l++[x]) [44]=Lib.join l [44]++[44]++x:=by
 induction l with
 | nil=>exact absurd rfl h
 | cons y l ih=>
  cases l with
  | nil=>simp[Lib.join,List.intercalate,List.intersperse]
  | cons z l=>
   have e:∀(a b:List UInt8) (m:List (List UInt8)),Lib.join (a ::b ::m) [44]=a++[44]++Lib.join (b ::m) [44]:=by
    intro a b m;simp[Lib.join,List.intercalate,List.intersperse]
   have ih':=ih (by simp);simp only[List.cons_append]at ih' ⊢;rw[e,e,ih'];simp only[uB]
theorem pt_first (x:List UInt8):pt [x]=[124,35]++x:=by
 rw[pt,if_neg (by simp)];simp[Lib.join,List.intercalate]
theorem pt_snoc (l:List (List UInt8))(x:List UInt8)(h:l≠[]):pt (l++[x])=pt l++[44]++x:=by
 rw[pt,if_neg (by simp),pt,if_neg h,join_snoc l x h];simp
theorem take_pt_zero {ls:List (List UInt8)}{x:List UInt8}(h:ls[0]? = some x):pt (ls.take 1)=pt (ls.take 0)++[124,35]++x:=by
 rw[uC,h];show pt [x]=pt []++[124,35]++x;rw[pt_first];rfl
theorem take_pt {ls:List (List UInt8)}{k:Nat}{x:List UInt8}(h:ls[k]? = some x)(hk:k≠0):pt (ls.take (k+1))=pt (ls.take k)++[44]++x:=by
 rw[uC,h,Option.toList_some,pt_snoc];intro hn;have:=(List.getElem?_eq_some_iff.1 h).1;have hl:(ls.take k).length=0:=by rw[hn];rfl
 rw[List.length_take]at hl;omega
theorem tagged_some (G cap:Nat)(ls:List (List UInt8))(s:ByteArray)(w:World)(hs:s.size≤1000)(hn:ls.length≤4)(h8:∀x∈ls,x.length≤8)(hcell:∀j x,ls[j]? = some x→w.cell? ⟨G,j,none⟩=some (.string ⟨x.toArray⟩)):
  Calls Tryz.prog 87 #[.string s,.slice (some ⟨G,0,none⟩) ls.length cap] w fun e w'=>(∃z,e=.returned (.string z)∧B z=B s++pt ls)∧w=w':=by
 have HC:=hide hcell;have H8:=hide h8;clear hcell h8;go_enter Tryz.func87,Tryz.ntmps87
 go_wp2_with fail
 go_loop [0,5] (fun s0 s5=>∃(k:Nat) (u:ByteArray),s0=.string u∧s5=.int .i64 k∧k≤ls.length∧u.size≤1000+11*k∧Hid (B u=B s++pt (ls.take k)))
  (fun _ s5=>ls.length - (intOf s5).toNat)
 case atStart=>exact⟨0,s,rfl,rfl,Nat.zero_le _,by omega,hide (by show B s=B s++[];rw[List.append_nil])⟩
 case round=>
  obtain⟨k,u,rfl,rfl,hk,hu,HU⟩:=hrel;by_cases hlt:k<ls.length
  ·have hltz:(k:Int)<(ls.length:Int):=by omega
   obtain⟨x,hx⟩:∃x,ls[k]? = some x:=⟨_,List.getElem?_eq_getElem hlt⟩;obtain⟨xb,hxb⟩:∃xb:ByteArray,(⟨x.toArray⟩:ByteArray)=xb:=⟨_,rfl⟩;have hBx:B xb=x:=by
    rw[←hxb];rfl
   have hcx:w.cell? ⟨G,k,none⟩=some (.string xb):=by
    rw[HC.out k x hx,hxb]
   have hxz:xb.size≤8:=by
    rw[size_B,hBx];exact H8.out x (List.mem_of_getElem? hx)
   have HX:=hide hx;have HBX:=hide hBx;clear hx hxb hBx;by_cases hk0:k=0
   ·subst hk0;go_wp2_with fail
    go_round
    case rel=>
     refine⟨1,_,rfl,by go_num,by omega,?_,hide ?_⟩
     ·rw[size_B];refine Nat.le_trans (Nat.le_of_eq (congrArg List.length ((B_append _ _).trans (congrArg (·++B xb) (B_append _ _))))) ?_;simp only[uA,←size_B];show u.size+2+xb.size≤_;omega
     ·rw[take_pt_zero HX.out,←HBX.out];refine((B_append _ _).trans (congrArg (·++B xb) (B_append _ _))).trans ?_;rw[HU.out];simp only[uB];rfl
    case measure=>simp[intOf];omega
   ·have hkz:((k:Int)==0)=false:=by
     simp only[beq_eq_false_iff_ne];omega
    go_wp2_with fail
    go_round
    case rel=>
     refine⟨k+1,_,rfl,by go_num,by omega,?_,hide ?_⟩
     ·rw[size_B];refine Nat.le_trans (Nat.le_of_eq (congrArg List.length ((B_append _ _).trans (congrArg (·++B xb) (B_append _ _))))) ?_;simp only[uA,←size_B];show u.size+1+xb.size≤_;omega
     ·rw[take_pt HX.out hk0,←HBX.out];refine((B_append _ _).trans (congrArg (·++B xb) (B_append _ _))).trans ?_;rw[HU.out];simp only[uB];rfl
    case measure=>simp[intOf];omega
  ·have hltz:¬(k:Int)<(ls.length:Int):=by omega
   have hkk:k=ls.length:=by omega
   subst hkk;go_wp2_with fail
   go_ret
   refine⟨⟨_,rfl,?_⟩,rfl⟩;have:=HU.out;rwa [List.take_length]at this
theorem tagged_nil (s:ByteArray)(w:World):
  Calls Tryz.prog 87 #[.string s,.slice none 0 0] w fun e w'=>e=.returned (.string s)∧w=w':=by
 go_enter Tryz.func87,Tryz.ntmps87
 go_wp2_with fail
 go_rounds 1
 go_ret
 exact⟨rfl,rfl⟩
theorem tagged (lo:Nat)(lv:Value)(ls:List (List UInt8))(s:ByteArray)(w:World)(hst:Strs lo w lv ls)(hs:s.size≤1000)(hn:ls.length≤4)(h8:∀x∈ls,x.length≤8):
  Calls Tryz.prog 87 #[.string s,lv] w fun e w'=>(∃z,e=.returned (.string z)∧B z=B s++pt ls)∧w=w':=by
 rcases hst with ⟨rfl,rfl⟩|⟨g,cap,rfl,h1,h2,h3,h4⟩
 ·refine(tagged_nil s w).mono fun e w' h=>?_
  obtain⟨he,hw⟩:=h;exact⟨⟨s,he,by show B s=B s++[];rw[List.append_nil]⟩,hw⟩
 ·exact tagged_some g cap ls s w hs hn h8 h4
end Go.Proofs.YtenegfafjjknoaaGreatDoor.Reft
namespace Go.Proofs.YtenegfafjjknoaaGreatDoor.Refl
open Bytes Nums Refs Refi
structure Rs where
 name:List UInt8
 kind:Int
 value:Int
 word:List UInt8
 rate:Int
 tags:List (List UInt8)
def rtags (l:List UInt8):Nat→Nat→List (List UInt8)→Option (List (List UInt8))
 | 0,p,acc=>if p<l.length then none else some acc
 | k+1,p,acc=>if p<l.length then (if made let_ 8 (tw [44] (l.drop (p+1)))=true then rtags l k (p+1+(tw [44] (l.drop (p+1))).length) (ins (tw [44] (l.drop (p+1))) acc) else none) else some acc
def lastOk (l:List UInt8):Bool:=!(l.getLast? == some 44)&&!(l.getLast? == some 35)
def fin (l n v k:List UInt8)(rated:Bool)(r:Int)(p:Nat):Option Rs:=
 (refVal k v rated).bind fun x=>
  if p<l.length then
   (if l[p+1]? = some 35 then (rtags l 4 (p+1) []).bind fun t=>if lastOk l=true then some ⟨n,x.1,x.2.1,x.2.2,r,t⟩ else none else none)
  else some ⟨n,x.1,x.2.1,x.2.2,r,[]⟩
def rok (q:List UInt8):Option Int:=
 if q=[49] then some 1000 else if q.length<3∨q[0]?≠some 48∨q[1]?≠some 46∨refNum q<1 then none else some (refNum q)
def opt (l n v k:List UInt8)(p:Nat):Option Rs:=
 if l[p+1]? = some 64 then (rok (tw [124] (l.drop (p+2)))).bind fun r=>fin l n v k true r (p+2+(tw [124] (l.drop (p+2))).length)
 else fin l n v k false 1000 p
def val2 (l n:List UInt8)(p:Nat):Option Rs:=
 if p+1+(tw [124] (l.drop (p+1))).length<l.length then
  opt l n (tw [124] (l.drop (p+1))) (tw [124] (l.drop (p+1+(tw [124] (l.drop (p+1))).length+1))) (p+1+(tw [124] (l.drop (p+1))).length+1+(tw [124] (l.drop (p+1+(tw [124] (l.drop (p+1))).length+1))).length)
 else none
def refRd (l:List UInt8):Option Rs:=
 if made nam 16 (tw [58,124] l)=true∧l[(tw [58,124] l).length]? = some 58 then val2 l (tw [58,124] l) (tw [58,124] l).length else none
end Go.Proofs.YtenegfafjjknoaaGreatDoor.Refl
