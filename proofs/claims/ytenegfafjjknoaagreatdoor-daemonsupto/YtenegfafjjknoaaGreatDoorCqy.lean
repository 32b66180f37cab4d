/- Regions whose operations only read, and whose callees lay new memory behind: one walk serves every order. -/
import Derived.BigQuiet
import Derived.Laws.AppendOwn
import Derived.Test.YtenegfafjjknoaaGreatDoorMqx
import Derived.Test.YtenegfafjjknoaaGreatDoorLeaf
import Derived.Deep.QuietTactic
import Derived.Lib.MinMax
open List renaming getElem?_eq_some_iff → uA, getElem?_eq_getElem → uB, getElem?_cons_succ → uC, mem_cons_self → uD, mem_cons → uE, mem_of_getElem? → uF, mem_cons_of_mem → uG, pairwise_iff_getElem → uI, nodup_cons → uJ, pairwise_cons → uK, getElem_ofFn → uL, getElem?_map → uN
open Nat renaming le_refl → uH, le_trans → uM
namespace Go.Proofs.YtenegfafjjknoaaGreatDoor.Cq
open Go.RowKit
structure Bw (w:World) where
 val:World
 is:Below w.heap.size w val
instance (w:World):Nonempty (Bw w):=⟨⟨w,Below.refl _ _⟩⟩
theorem region_cls {P:Program}{id:Nat}{Q:Exit→Act→World→Prop}{a:Act}{w:World}{l:List Oper}(hm:P.follows .mixedOrders=true)(hB:Region.lexB .any l.toArray=true)
  (h:wpQuiet P l.toArray (fun w'=>∃s:Bw w,w'=s.val) (fun a'=>∀w',(∃s:Bw w,w'=s.val)→Q .normal a' w') l a):(Code.region id l.toArray true).wp P Q a w:=
 wp_region_quiet (C:=fun w'=>∃s:Bw w,w'=s.val) hm hB ⟨⟨_,(Below.refl w.heap.size w).drew⟩,rfl⟩ (by simpa using h)
theorem call_cls {P:Program}{f:FuncId}{args:Array Value}{w:World}{v:Value}{s:Bw w}(h:Calls P f args s.val fun e w'=>e=.returned v∧Below s.val.heap.size s.val w'):Calls P f args s.val fun e w'=>e=.returned v∧∃s':Bw w,w'=s'.val:=
 h.mono fun _ w' ⟨he,hb⟩=>⟨he,⟨w',s.is.trans (hb.mono s.is.size)⟩,rfl⟩
/-! ### Regions that begin so,and go on in one order -/
section
variable {P : Program} {ops : Array Oper} {md : Region.Mode} {C : World → Prop}
def edge (md:Region.Mode)(ops:Array Oper)(k i:Nat):Bool:=match ops[k]? with
 | some o=>o.after.any fun e=>Region.binds md e&&e.on==i
 | none=>false
def tailB (md:Region.Mode)(ops:Array Oper)(m:Nat):Bool:=
 ((List.range m).all fun i=>(List.range (m+1)).any fun k=>decide (i<k)&&edge md ops k i)&&((List.range ops.size).all fun j=>decide (j≤m)||edge md ops j (j - 1))
def DC (md:Region.Mode)(ops:Array Oper)(listed:Array Bool):Prop:=
 listed.size=ops.size∧∀j oj,ops[j]? = some oj→listed.getD j true=true→∀e∈oj.after,Region.binds md e=true→listed.getD e.on false=true
theorem edge_inv {k i:Nat}(h:edge md ops k i=true):∃o,ops[k]? = some o∧∃e∈o.after,Region.binds md e=true∧e.on=i:=by
 unfold edge at h;split at h
 ·rename_i o ho;obtain⟨e,he,hb⟩:=Array.any_eq_true'.1 h;simp only[Bool.and_eq_true,beq_iff_eq]at hb;exact⟨o,ho,e,he,hb⟩
 ·cases h
theorem getD_tf {l:Array Bool}{i:Nat}(h:l.getD i false=true):l.getD i true=true:=by
 unfold Array.getD at *;split at h
 ·rename_i hi;rw[dif_pos hi];exact h
 ·cases h
theorem ready_edge {listed:Array Bool}{j i:Nat}(hj:j∈Region.ready md ops listed)(he:edge md ops j i=true):listed.getD i false=true:=by
 obtain⟨_,o,ho,hall⟩:=mem_ready.1 hj;obtain⟨o',ho',e,he,hb,rfl⟩:=edge_inv he;rw[ho]at ho';cases ho'
 exact hall e he hb
theorem DC.edge {listed:Array Bool}(h:DC md ops listed){k i:Nat}(hk:listed.getD k false=true)(hed:Cq.edge md ops k i=true):listed.getD i false=true:=by
 obtain⟨o,ho,e,he,hb,rfl⟩:=edge_inv hed;exact h.2 k o ho (getD_tf hk) e he hb
theorem tail_all {m:Nat}(hB:tailB md ops m=true){listed:Array Bool}(hd:DC md ops listed){j:Nat}(hj:j∈Region.ready md ops listed)(hm:m≤j):∀i,i<m→listed.getD i false=true:=by
 simp only[tailB,Bool.and_eq_true,List.all_eq_true,List.mem_range,List.any_eq_true,decide_eq_true_eq,Bool.or_eq_true]at hB;obtain⟨h1,h2⟩:=hB;have hjs:j<ops.size:=by
  obtain⟨_,o,ho,_⟩:=mem_ready.1 hj;exact(Array.getElem?_eq_some_iff.1 ho).1
 have hD:∀i,edge md ops m i=true→listed.getD i false=true:=by
  by_cases e:j=m
  ·subst e;exact fun i he=>ready_edge hj he
  ·have hl:listed.getD (j - 1) false=true:=by
    rcases h2 j hjs with h|h
    ·omega
    ·exact ready_edge hj h
   have down:∀d,d≤j - 1 - m→listed.getD (j - 1 - d) false=true:=by
    intro d
    induction d with
    | zero=>intro _;exact hl
    | succ d ih=>
     intro hd';have h3:=ih (by omega);rcases h2 (j - 1 - d) (by omega) with h|h
     ·omega
     ·have h4:=hd.edge h3 h;rw[show j - 1 - (d+1)=j - 1 - d - 1 by omega];exact h4
   have hlm:=down (j - 1 - m) (uH _);rw[show j - 1 - (j - 1 - m)=m by omega]at hlm;exact fun i he=>hd.edge hlm he
 have key:∀d i,i<m→m - i≤d→listed.getD i false=true:=by
  intro d
  induction d with
  | zero=>intro i h h';omega
  | succ d ih=>
   intro i hi hd';obtain⟨k,hk,hik,he⟩:=h1 i hi;by_cases e:k=m
   ·subst e;exact hD i he
   ·exact hd.edge (ih k (by omega) (by omega)) he
 exact fun i hi=>key (m - i) i hi (uH _)
theorem DC.step {listed:Array Bool}(h:DC md ops listed){j:Nat}(hj:j∈Region.ready md ops listed):DC md ops (listed.setIfInBounds j true):=by
 refine⟨by simpa using h.1,fun j' oj' hoj hl e he hb=>?_⟩;by_cases hjj:j=j'
 ·subst hjj;obtain⟨_,o,ho,hall⟩:=mem_ready.1 hj;rw[ho]at hoj;cases hoj
  exact getD_set_true (hall e he hb)
 ·rw[getD_set_ne true hjj]at hl;exact getD_set_true (h.2 j' oj' hoj hl e he hb)
def wpPre (P:Program)(md:Region.Mode)(ops:Array Oper)(C:World→Prop)(m:Nat)(R:Array Bool→Act→Prop):Nat→Array Bool→Act→Prop
 | 0,listed,a=>R listed a∧∀j∈Region.ready md ops listed,m≤j
 | n+1,listed,a=>Region.ready md ops listed≠[]∧∀i∈Region.ready md ops listed,qOp P ops C i (wpPre P md ops C m R n (listed.setIfInBounds i true)) a
theorem wpAny_of_pre {m n:Nat}{R:Array Bool→Act→Prop}{Q:Exit→Act→World→Prop}(hR:∀lst a w,C w→R lst a→wpAny P md ops Q n lst a w):∀(fuel:Nat) (listed:Array Bool) (a:Act) (w:World),C w→
  wpPre P md ops C m R fuel listed a→wpAny P md ops Q (fuel+n) listed a w
 | 0,_,_,_,hw,h=>by
  rw[Nat.zero_add];exact hR _ _ _ hw h.1
 | fuel+1,listed,a,w,hw,h=>by
  rw[show fuel+1+n=(fuel+n)+1 by omega];exact⟨fun h0=>absurd h0 h.1,fun i hi=>wpOp_of_qOp hw (fun a' w' hw' hp=>wpAny_of_pre hR fuel _ a' w' hw' hp) (h.2 i hi)⟩
theorem pre_first {m:Nat}{R:Array Bool→Act→Prop}{i:Nat}{oi:Oper}{v:Value}(hB:tailB md ops m=true)(him:i<m)(hi:ops[i]? = some oi)(hsel:∀(j:Nat) (o:Oper) cs b,ops[j]? = some o→o.op≠.select cs b):
  ∀(fuel:Nat) (listed:Array Bool) (a:Act),DC md ops listed→
   (∀j oj,ops[j]? = some oj→j≠i→listed.getD j true=false→(∀e∈oj.after,Region.binds md e=true→e.on≠i)→oi.apart ops oj=true)→
   i∈Region.ready md ops listed→YieldsIn P ops C oi v a→
   wpPre P md ops C m R fuel (listed.setIfInBounds i true) (a.put oi.dst v)→wpPre P md ops C m R (fuel+1) listed a:=by
 have far:∀(listed:Array Bool) (j:Nat),DC md ops listed→i∈Region.ready md ops listed→j∈Region.ready md ops listed→j<m:=by
  intro listed j hd hr hj;rcases Nat.lt_or_ge j m with h|h
  ·exact h
  ·have h1:=getD_tf (tail_all hB hd hj h i him);have h0:=(mem_ready.1 hr).1;rw[h1]at h0;cases h0
 intro fuel
 induction fuel with
 | zero=>
  intro listed a hd _ hr hy H;refine⟨fun h=>(by rw[h]at hr;cases hr),fun j hj=>?_⟩;by_cases hji:j=i
  ·subst hji;exact hy.qOp hi H
  ·have h1:=far listed j hd hr hj;have h2:=H.2 j (ready_mono hj hji);omega
 | succ fuel ih=>
  intro listed a hd hfree hr hy H;refine⟨fun h=>(by rw[h]at hr;cases hr),fun j hj=>?_⟩;by_cases hji:j=i
  ·subst hji;exact hy.qOp hi H
  ·have h1:=H.2 j (ready_mono hj hji);obtain⟨hjun,oj,hoj,hall⟩:=mem_ready.1 hj;have hnot:∀e∈oj.after,Region.binds md e=true→e.on≠i:=fun e he hb heq=>by
    have h1:=getD_tf (hall e he hb);have h0:=(mem_ready.1 hr).1;rw[heq,h0]at h1;cases h1
   have h2:=qOp_put hoj (hfree j oj hoj hji hjun hnot) (fun cs b=>hsel i oi cs b hi) (fun cs b=>hsel j oj cs b hoj) hy h1;have hfree':∀k ok,ops[k]? = some ok→k≠i→(listed.setIfInBounds j true).getD k true=false→
     (∀e∈ok.after,Region.binds md e=true→e.on≠i)→oi.apart ops ok=true:=fun k ok hk hki hun hno=>by
    refine hfree k ok hk hki ?_ hno;by_cases hjk:j=k
    ·subst hjk;exact hjun
    ·rw[getD_set_ne true hjk]at hun;exact hun
   refine qOp_mono (fun a' h3=>ih (listed.setIfInBounds j true) a' (hd.step hj) hfree' (ready_mono hr (Ne.symm hji)) h3.1 ?_) h2;rw[Array.setIfInBounds_comm _ _ hji];exact h3.2
def finL:Nat→Nat→Array Bool→Array Bool
 | 0,_,l=>l
 | n+1,k,l=>finL n (k+1) (l.setIfInBounds k true)
def lexPre (md:Region.Mode)(ops:Array Oper)(m:Nat):Nat→Nat→Array Bool→Bool
 | 0,_,listed=>(Region.ready md ops listed).all fun j=>decide (m≤j)
 | n+1,k,listed=>(Region.ready md ops listed).contains k&&Region.free md ops listed k&&lexPre md ops m n (k+1) (listed.setIfInBounds k true)
theorem pre_lex {m:Nat}{Q:Act→Prop}(hs:Region.noSelect ops=true)(hB:tailB md ops m=true):∀(l:List Oper) (k:Nat) (listed:Array Bool) (a:Act),(∀j,j<l.length→l[j]? = ops[k+j]?)→k+l.length≤m→DC md ops listed→
  lexPre md ops m l.length k listed=true→wpQuiet P ops C Q l a→wpPre P md ops C m (fun lst a'=>lst=finL l.length k listed∧Q a') l.length listed a
 | [],_,_,_,_,_,_,hL,h=>⟨⟨rfl,h⟩,fun j hj=>by
   simp only[List.length_nil,lexPre,List.all_eq_true,decide_eq_true_eq]at hL;exact hL j hj⟩
 | o ::l,k,listed,a,hl,hkm,hd,hL,h=>by
  have h0:ops[k]? = some o:=by simpa using (hl 0 (by simp)).symm
  simp only[List.length_cons,lexPre,Bool.and_eq_true]at hL;obtain⟨⟨hr,hf⟩,hL'⟩:=hL;have hst:qOp P ops C k (wpQuiet P ops C Q l) a:=by
   unfold qOp;simp only[h0];exact h
  obtain⟨v,hy,hK⟩:=yieldsIn_of_qOp h0 hst;have hr':k∈Region.ready md ops listed:=by simpa using hr
  simp only[List.length_cons]at hkm;exact pre_first hB (by omega) h0 (Region.noSelect_spec hs) l.length listed a hd (Region.free_spec h0 hf) hr' hy
   (pre_lex hs hB l (k+1) _ _ (fun j hj=>by
    have:=hl (j+1) (by simp;omega);simpa[Nat.add_assoc,Nat.add_comm 1 j] using this) (by omega) (hd.step hr') hL' hK)
def seqB (md:Region.Mode)(ops:Array Oper):Nat→Nat→Array Bool→Bool
 | 0,_,lst=>(Region.ready md ops lst).isEmpty
 | n+1,k,lst=>(Region.ready md ops lst==[k])&&seqB md ops n (k+1) (lst.setIfInBounds k true)
theorem any_of_list {Q:Exit→Act→World→Prop}:∀(l:List Oper) (k:Nat) (lst:Array Bool) (a:Act) (w:World),(∀j,l[j]? = ops[k+j]?)→seqB md ops l.length k lst=true→wpList P ops Q l a w→wpAny P md ops Q l.length lst a w
 | [],_,_,_,_,_,hL,h=>⟨by simpa[seqB] using hL,h⟩
 | o ::l,k,lst,a,w,hl,hL,h=>by
  have h0:ops[k]? = some o:=by simpa using (hl 0).symm
  simp only[List.length_cons,seqB,Bool.and_eq_true,beq_iff_eq]at hL;obtain⟨hr,hL'⟩:=hL;have ih:∀a w,wpList P ops Q l a w→wpAny P md ops Q l.length (lst.setIfInBounds k true) a w:=fun a w h=>
   any_of_list l (k+1) _ a w (fun j=>by
    have:=hl (j+1);simpa[Nat.add_assoc,Nat.add_comm 1 j] using this) hL' h
  refine⟨fun e=>(by rw[hr]at e;cases e),fun i hi=>?_⟩;rw[hr]at hi;have hik:i=k:=by simpa using hi
  subst hik;unfold wpOp;simp only[h0];unfold wpList at h;split
  ·rename_i hw;rw[if_pos hw]at h;rcases h with h|h
   ·exact Or.inl (Oper.wp_mono ih h)
   ·exact Or.inr h
  ·rename_i hw;rw[if_neg hw]at h;exact ih _ _ h
def preB (ops:Array Oper)(m:Nat):Bool:=
 Region.noSelect ops&&(tailB .any ops m&&(decide (m≤ops.size)&&(lexPre .any ops m m 0 (Array.replicate ops.size false)&&seqB .any ops (ops.size - m) m (finL m 0 (Array.replicate ops.size false)))))
theorem region_pre {id:Nat}{Q:Exit→Act→World→Prop}{a:Act}{w:World}{l:List Oper}(m:Nat)(hm:P.follows .mixedOrders=true)(hB:preB l.toArray m=true)
  (h:wpQuiet P l.toArray (fun w'=>∃s:Bw w,w'=s.val) (fun a'=>∀s:Bw w,wpList P l.toArray Q (l.drop m) a' s.val) (l.take m) a):(Code.region id l.toArray true).wp P Q a w:=by
 simp only[preB,Bool.and_eq_true,decide_eq_true_eq]at hB;obtain⟨b1,b2,b3,b4,b5⟩:=hB;have b3':m≤l.length:=by simpa using b3
 have hlen:(l.take m).length=m:=by simp[b3']
 have hd0:DC .any l.toArray (Array.replicate l.toArray.size false):=by
  refine⟨by simp,fun j oj hoj hl=>?_⟩;have hj:=(Array.getElem?_eq_some_iff.1 hoj).1;simp[Array.getD]at hl
  simp at hj
  omega
 refine wp_region_any hm ?_;have hpre:=pre_lex (P:=P) (C:=fun w'=>∃s:Bw w,w'=s.val) (md:=.any) b1 b2 (l.take m) 0 (Array.replicate l.toArray.size false) a (fun j hj=>by
  rw[Nat.zero_add,List.getElem?_toArray,List.getElem?_take];rw[hlen]at hj;rw[if_pos hj]) (by omega) hd0 (by rw[hlen];exact b4) h
 rw[hlen]at hpre;have hsz:l.toArray.size=m+(l.drop m).length:=by simp;omega
 rw[hsz];refine wpAny_of_pre (C:=fun w'=>∃s:Bw w,w'=s.val) (n:=(l.drop m).length) (fun lst a' w' hw hR=>?_) m _ a _ ⟨⟨_,(Below.refl w.heap.size w).drew⟩,rfl⟩ (by rw[←hsz];exact hpre);obtain⟨rfl,hQ⟩:=hR;obtain⟨s,rfl⟩:=hw;refine any_of_list (l.drop m) m _ a' s.val (fun j=>by rw[List.getElem?_drop,List.getElem?_toArray]) ?_ (hQ s);rw[show (l.drop m).length=l.toArray.size - m by simp];exact b5
end
end Go.Proofs.YtenegfafjjknoaaGreatDoor.Cq
namespace Go.Proofs.YtenegfafjjknoaaGreatDoor.Dm
open Bytes
structure Seg where
 num:Int
 text:ByteArray
 syn:Nat
structure Dk where
 segs:List Seg
 left:Int
 room:Int
def fresh:Dk:=⟨[],-1,-1⟩
def used (l:List Seg):Nat:=(l.map (·.text.size)).sum
def place (n:Int):List Seg→Option Nat
 | []=>none
 | s ::l=>if s.num=n then some 0 else (place n l).map (·+1)
def op (S:Dk):Dk:={S with left:=if 0<S.left then S.left - 1 else S.left}
def turn (n:Int)(f:Seg→Seg)(l:List Seg):List Seg:=l.map fun s=>if s.num=n then f s else s
def ensure (n:Int):List Seg→List Seg
 | []=>[⟨n,⟨#[]⟩,0⟩]
 | s ::l=>if s.num=n then s ::l else if n<s.num then ⟨n,⟨#[]⟩,0⟩ ::s ::l else s ::ensure n l
def doAppend (S:Dk)(n:Int)(t:ByteArray):Dk×Int:=
 if S.left=0 then (S,8)
 else if n<0 then (op S,9)
 else if 0≤S.room∧S.room<(used S.segs:Int)+t.size then (op S,7)
 else ({op S with segs:=turn n (fun s=>{s with text:=s.text++t}) (ensure n S.segs)},0)
def doSync (S:Dk)(n:Int):Dk×Int:=
 if S.left=0 then (S,8)
 else match place n S.segs with
  | none=>(op S,9)
  | some _=>({op S with segs:=turn n (fun s=>{s with syn:=s.text.size}) S.segs},0)
def doDelete (S:Dk)(n:Int):Dk×Int:=
 if S.left=0 then (S,8)
 else match place n S.segs with
  | none=>(op S,9)
  | some i=>({op S with segs:=S.segs.eraseIdx i},0)
def doRead (S:Dk)(n:Int):ByteArray×Int:=
 if S.left=0 then (⟨#[]⟩,8)
 else match place n S.segs with
  | none=>(⟨#[]⟩,9)
  | some i=>(((S.segs[i]?).map (·.text)).getD ⟨#[]⟩,0)
def doList (S:Dk):List Int×Int:=if S.left=0 then ([],8) else (S.segs.map (·.num),0)
def doLimit (S:Dk)(a b:Int):Dk:={S with left:=if a<0 then -1 else a,room:=if b<0 then -1 else b}
structure Good (S:Dk):Prop where
 rise:S.segs.Pairwise fun a b=>a.num<b.num
 syn:∀s∈S.segs,s.syn≤s.text.size
 num:∀s∈S.segs,0≤s.num∧s.num≤9223372036854775807
 left:-1≤S.left∧S.left≤9223372036854775807
 room:-1≤S.room∧S.room≤9223372036854775807
end Go.Proofs.YtenegfafjjknoaaGreatDoor.Dm
namespace Go.Proofs.YtenegfafjjknoaaGreatDoor.Dm
open Bytes
theorem place_some {n:Int}:∀{l:List Seg} {i:Nat},place n l=some i→∃s,l[i]? = some s∧s.num=n:=by
 intro l
 induction l with
 | nil=>intro i h;cases h
 | cons s l ih=>
  intro i h;rw[place]at h;split at h
  ·cases h
   exact⟨s,rfl,by assumption⟩
  ·rw[Option.map_eq_some_iff]at h;obtain⟨j,hj,rfl⟩:=h;obtain⟨t,h1,h2⟩:=ih hj;exact⟨t,by rw[uC];exact h1,h2⟩
theorem place_none {n:Int}:∀{l:List Seg},place n l=none→∀s∈l,s.num≠n:=by
 intro l
 induction l with
 | nil=>intro _ s hs;cases hs
 | cons t l ih=>
  intro h s hs;rw[place]at h;split at h
  ·cases h
  ·rename_i hne;rw[Option.map_eq_none_iff]at h;rcases uE.1 hs with e|e
   ·subst e;exact hne
   ·exact ih h s e
theorem place_at {n:Int}:∀{l:List Seg} {i:Nat} {s:Seg},(∀j t,j<i→l[j]? = some t→t.num≠n)→l[i]? = some s→s.num=n→place n l=some i:=by
 intro l
 induction l with
 | nil=>intro i s _ h;simp at h
 | cons t l ih=>
  intro i s hb hs hn;rw[place];cases i with
  | zero=>
   rw[List.getElem?_cons_zero]at hs;cases hs
   rw[if_pos hn]
  | succ i=>
   have h0:=hb 0 t (by omega) rfl;rw[if_neg h0,ih (i:=i) (s:=s) (fun j u hj hu=>hb (j+1) u (by omega) (by rw[uC];exact hu)) (by rw[uC]at hs;exact hs) hn];rfl
theorem place_not {n:Int}:∀{l:List Seg},(∀(j:Nat) t,l[j]? = some t→t.num≠n)→place n l=none:=by
 intro l
 induction l with
 | nil=>intro _;rfl
 | cons t l ih=>
  intro hb;rw[place,if_neg (hb 0 t rfl),ih (fun j u hu=>hb (j+1) u (by rw[uC];exact hu))];rfl
theorem rise_once {l:List Seg}(h:l.Pairwise fun a b=>a.num<b.num){i j:Nat}{s t:Seg}(hi:l[i]? = some s)(hj:l[j]? = some t)(e:s.num=t.num):i=j:=by
 obtain⟨hi',rfl⟩:=uA.1 hi;obtain⟨hj',rfl⟩:=uA.1 hj;have hp:=uI.1 h;rcases Nat.lt_trichotomy i j with k|k|k
 ·have:=hp i j hi' hj' k;omega
 ·exact k
 ·have:=hp j i hj' hi' k;omega
theorem turn_set {n:Int}{f:Seg→Seg}{l:List Seg}(h:l.Pairwise fun a b=>a.num<b.num){i:Nat}{s:Seg}(hi:l[i]? = some s)(hn:s.num=n):turn n f l=l.set i (f s):=by
 refine List.ext_getElem? fun j=>?_
 rw[turn,uN,List.getElem?_set];by_cases hj:i=j
 ·subst hj;have hlt:i<l.length:=(uA.1 hi).1;rw[if_pos rfl,hi,if_pos hlt];show some (if s.num=n then f s else s)=_;rw[if_pos hn]
 ·rw[if_neg hj];cases ht:l[j]? with
  | none=>rfl
  | some t=>
   show some (if t.num=n then f t else t)=some t;rw[if_neg];intro e;exact hj (rise_once h hi ht (hn.trans e.symm))
theorem ensure_there {n:Int}:∀{l:List Seg} {i:Nat} {s:Seg},l.Pairwise (fun a b=>a.num<b.num)→l[i]? = some s→s.num=n→ensure n l=l:=by
 intro l
 induction l with
 | nil=>intro i s _ h;simp at h
 | cons t l ih=>
  intro i s hr hs hn;have hr':=uK.1 hr;rw[ensure];cases i with
  | zero=>
   rw[List.getElem?_cons_zero]at hs;cases hs
   rw[if_pos hn]
  | succ i=>
   rw[uC]at hs;have hlt:=hr'.1 s (uF hs);rw[if_neg (by omega),if_neg (by omega),ih hr'.2 hs hn]
theorem ensure_new {n:Int}:∀{l:List Seg},l.Pairwise (fun a b=>a.num<b.num)→(∀s∈l,s.num≠n)→ensure n l=l.filter (fun s=>decide (s.num<n))++⟨n,⟨#[]⟩,0⟩ ::l.filter (fun s=>decide (n<s.num)):=by
 intro l
 induction l with
 | nil=>intro _ _;rfl
 | cons t l ih=>
  intro hr hn;have hr':=uK.1 hr;have ht:=hn t (uD ..);rw[ensure,if_neg ht];by_cases hlt:n<t.num
  ·have e1:(t ::l).filter (fun s=>decide (s.num<n))=[]:=by
    rw[List.filter_eq_nil_iff];intro s hs;rcases uE.1 hs with e|e
    ·subst e;simp
     omega
    ·have:=hr'.1 s e;simp
     omega
   have e2:(t ::l).filter (fun s=>decide (n<s.num))=t ::l:=by
    rw[List.filter_eq_self];intro s hs;rcases uE.1 hs with e|e
    ·subst e;simp[hlt]
    ·have:=hr'.1 s e;simp
     omega
   rw[if_pos hlt,e1,e2];rfl
  ·rw[if_neg hlt,ih hr'.2 (fun s hs=>hn s (uG _ hs))];have h3:t.num<n:=by omega
   simp[h3,hlt]
theorem ensure_rise {n:Int}:∀{l:List Seg},l.Pairwise (fun a b=>a.num<b.num)→(ensure n l).Pairwise (fun a b=>a.num<b.num):=by
 intro l hr;by_cases h:∃s∈l,s.num=n
 ·obtain⟨s,hs,hn⟩:=h;obtain⟨i,hi⟩:=List.getElem?_of_mem hs;rw[ensure_there hr hi hn];exact hr
 ·have hne:∀s∈l,s.num≠n:=fun s hs e=>h ⟨s,hs,e⟩
  rw[ensure_new hr hne,List.pairwise_append];refine⟨hr.filter _,uK.2 ⟨fun s hs=>?_,hr.filter _⟩,fun a ha b hb=>?_⟩
  ·have:=(List.mem_filter.1 hs).2;simpa using this
  ·have h1:a.num<n:=by simpa using (List.mem_filter.1 ha).2
   rcases uE.1 hb with e|e
   ·subst e;exact h1
   ·have h2:n<b.num:=by simpa using (List.mem_filter.1 e).2
    omega
end Go.Proofs.YtenegfafjjknoaaGreatDoor.Dm
namespace Go.Proofs.YtenegfafjjknoaaGreatDoor.Dm
open Bytes
theorem ensure_sorted {n:Int}{l l':List Seg}(hr:l.Pairwise fun a b=>a.num<b.num)(hne:∀s∈l,s.num≠n)(hp:l'.Perm (l++[⟨n,⟨#[]⟩,0⟩]))(hs:l'.Pairwise fun a b=>a.num<b.num):l'=ensure n l:=by
 refine List.Perm.eq_of_pairwise (le:=fun a b=>a.num<b.num) (fun a b _ _ h1 h2=>by omega) hs (ensure_rise hr) (hp.trans ?_);rw[ensure_new hr hne];refine List.Perm.trans ?_ List.perm_middle.symm;refine List.perm_append_singleton _ _ |>.trans (List.Perm.cons _ ?_)
 have h:=(List.filter_append_perm (fun s:Seg=>decide (s.num<n)) l).symm;have e:l.filter (fun s=>!decide (s.num<n))=l.filter (fun s=>decide (n<s.num)):=by
  refine List.filter_congr fun s hs=>?_
  have:=hne s hs;by_cases h:s.num<n
  ·simp[h]
   omega
  ·simp[h]
   omega
 rw[e]at h;exact h
theorem used_nil:used []=0:=rfl
theorem used_cons (s:Seg)(l:List Seg):used (s ::l)=s.text.size+used l:=by simp[used]
theorem used_append (l m:List Seg):used (l++m)=used l+used m:=by simp[used]
theorem used_mem {l:List Seg}{s:Seg}(h:s∈l):s.text.size≤used l:=by
 induction l with
 | nil=>cases h
 | cons t l ih=>
  rw[used_cons];rcases uE.1 h with e|e
  ·subst e;omega
  ·have:=ih e;omega
theorem used_turn {n:Int}{f:Seg→Seg}{k:Nat}(hf:∀s,(f s).text.size≤s.text.size+k):∀{l:List Seg},l.Pairwise (fun a b=>a.num<b.num)→used (turn n f l)≤used l+k:=by
 intro l
 induction l with
 | nil=>intro _;show 0≤_;omega
 | cons t l ih=>
  intro hr;have hr':=uK.1 hr;show used ((if t.num=n then f t else t) ::turn n f l)≤_;rw[used_cons,used_cons];by_cases h:t.num=n
  ·rw[if_pos h];have e:turn n f l=l:=by
    rw[turn]
    conv=>rhs;rw[←List.map_id l]
    refine List.map_congr_left fun s hs=>?_
    have:=hr'.1 s hs;rw[if_neg (by omega)];rfl
   rw[e];have:=hf t;omega
  ·rw[if_neg h];have:=ih hr'.2;omega
theorem used_ensure {n:Int}:∀(l:List Seg),used (ensure n l)=used l:=by
 intro l
 induction l with
 | nil=>rfl
 | cons t l ih=>
  rw[ensure];split
  ·rfl
  ·split
   ·rw[used_cons];show 0+_=_;omega
   ·rw[used_cons,used_cons,ih]
theorem ensure_length {n:Int}:∀(l:List Seg),(ensure n l).length≤l.length+1:=by
 intro l
 induction l with
 | nil=>exact uH _
 | cons t l ih=>
  rw[ensure];split
  ·simp
  ·split
   ·simp
   ·simpa using ih
theorem used_erase:∀(l:List Seg) (i:Nat),used (l.eraseIdx i)≤used l:=by
 intro l
 induction l with
 | nil=>intro i;simp
 | cons t l ih=>
  intro i;cases i with
  | zero=>
   rw[List.eraseIdx_cons_zero,used_cons];omega
  | succ i=>
   have:=ih i;rw[List.eraseIdx_cons_succ,used_cons,used_cons];omega
theorem turn_mem {n:Int}{f:Seg→Seg}{l:List Seg}{s:Seg}(h:s∈turn n f l):s∈l∨∃t∈l,s=f t:=by
 rw[turn,List.mem_map]at h;obtain⟨t,ht,rfl⟩:=h;split
 ·exact Or.inr ⟨t,ht,rfl⟩
 ·exact Or.inl ht
theorem turn_rise {n:Int}{f:Seg→Seg}(hf:∀s,(f s).num=s.num){l:List Seg}(h:l.Pairwise fun a b=>a.num<b.num):(turn n f l).Pairwise fun a b=>a.num<b.num:=by
 rw[turn,List.pairwise_map];refine h.imp fun {a b} hab=>?_
 have e:∀s:Seg,(if s.num=n then f s else s).num=s.num:=fun s=>by
  split
  ·exact hf s
  ·rfl
 rw[e,e];exact hab
theorem ensure_mem {n:Int}:∀{l:List Seg} {s:Seg},s∈ensure n l→s∈l∨s=⟨n,⟨#[]⟩,0⟩:=by
 intro l
 induction l with
 | nil=>intro s h;rw[ensure]at h;exact Or.inr (by simpa using h)
 | cons t l ih=>
  intro s h;rw[ensure]at h;split at h
  ·exact Or.inl h
  ·split at h
   ·rcases uE.1 h with e|e
    ·exact Or.inr e
    ·exact Or.inl e
   ·rcases uE.1 h with e|e
    ·exact Or.inl (e▸uD ..)
    ·rcases ih e with e|e
     ·exact Or.inl (uG _ e)
     ·exact Or.inr e
theorem turn_length (n:Int)(f:Seg→Seg)(l:List Seg):(turn n f l).length=l.length:=List.length_map ..
theorem good_op {S:Dk}(h:Good S):Good (op S):=
 ⟨h.rise,h.syn,h.num,by
  have:=h.left;show -1≤(if 0<S.left then S.left - 1 else S.left)∧(if 0<S.left then S.left - 1 else S.left)≤_;split<;>omega,h.room⟩
theorem good_fresh:Good fresh:=⟨List.Pairwise.nil,fun s h=>by simp[fresh]at h,fun s h=>by simp[fresh]at h,by decide,by decide⟩
theorem good_turn {S:Dk}(h:Good S){n:Int}{f:Seg→Seg}(h1:∀s,(f s).num=s.num)(h2:∀s,s.syn≤s.text.size→(f s).syn≤(f s).text.size):Good {op S with segs:=turn n f S.segs}:=
 ⟨turn_rise h1 h.rise,fun s hs=>by
  rcases turn_mem hs with e|⟨t,ht,rfl⟩
  ·exact h.syn s e
  ·exact h2 t (h.syn t ht),fun s hs=>by
  rcases turn_mem hs with e|⟨t,ht,rfl⟩
  ·exact h.num s e
  ·rw[h1 t];exact h.num t ht,(good_op h).left,h.room⟩
structure Fit (S:Dk)(k u:Nat):Prop where
 good:Good S
 len:S.segs.length≤k
 use:used S.segs≤u
theorem Fit.op {S:Dk}{k u:Nat}(h:Fit S k u):Fit (Dm.op S) k u:=⟨good_op h.good,h.len,h.use⟩
theorem Fit.more {S:Dk}{k u k' u':Nat}(h:Fit S k u)(hk:k≤k')(hu:u≤u'):Fit S k' u':=⟨h.good,uM h.len hk,uM h.use hu⟩
theorem fit_append {S:Dk}{k u:Nat}(h:Fit S k u)(n:Int)(t:ByteArray)(hn:n≤9223372036854775807):Fit (doAppend S n t).1 (k+1) (u+t.size):=by
 rw[doAppend];split
 ·exact h.more (by omega) (by omega)
 ·split
  ·exact h.op.more (by omega) (by omega)
  ·split
   ·exact h.op.more (by omega) (by omega)
   ·rename_i h0 _;have hE:Good {S with segs:=ensure n S.segs}:=⟨ensure_rise h.good.rise,fun s hs=>by
     rcases ensure_mem hs with e|e
     ·exact h.good.syn s e
     ·subst e;exact uH _,fun s hs=>by
     rcases ensure_mem hs with e|e
     ·exact h.good.num s e
     ·subst e;show 0≤n∧n≤_;omega,h.good.left,h.good.room⟩
    have hT:=good_turn hE (n:=n) (f:=fun s=>{s with text:=s.text++t}) (fun _=>rfl) (fun s hs=>by
     show s.syn≤(s.text++t).size;rw[ByteArray.size_append];omega)
    refine⟨hT,?_,?_⟩
    ·show (turn _ _ (ensure n S.segs)).length≤_;rw[turn_length];have:=ensure_length (n:=n) S.segs;have:=h.len;omega
    ·show used (turn _ _ (ensure n S.segs))≤_;have:=used_turn (n:=n) (f:=fun s=>{s with text:=s.text++t}) (k:=t.size) (fun s=>by
      show (s.text++t).size≤_;rw[ByteArray.size_append];exact uH _) (ensure_rise (n:=n) h.good.rise)
     rw[used_ensure]at this;have:=h.use;omega
theorem fit_sync {S:Dk}{k u:Nat}(h:Fit S k u)(n:Int):Fit (doSync S n).1 k u:=by
 rw[doSync];split
 ·exact h
 ·split
  ·exact h.op
  ·refine⟨good_turn h.good (fun _=>rfl) (fun s _=>uH _),?_,?_⟩
   ·show (turn _ _ S.segs).length≤_;rw[turn_length];exact h.len
   ·exact uM (used_turn (n:=n) (f:=fun s=>{s with syn:=s.text.size}) (k:=0) (fun s=>uH _) h.good.rise) h.use
theorem fit_delete {S:Dk}{k u:Nat}(h:Fit S k u)(n:Int):Fit (doDelete S n).1 k u:=by
 rw[doDelete];split
 ·exact h
 ·split
  ·exact h.op
  ·refine⟨⟨h.good.rise.sublist (List.eraseIdx_sublist ..),fun s hs=>h.good.syn s (List.mem_of_mem_eraseIdx hs),fun s hs=>h.good.num s (List.mem_of_mem_eraseIdx hs),(good_op h.good).left,h.good.room⟩,?_,uM (used_erase _ _) h.use⟩;exact uM (List.eraseIdx_sublist ..).length_le h.len
end Go.Proofs.YtenegfafjjknoaaGreatDoor.Dm
namespace Go.Proofs.YtenegfafjjknoaaGreatDoor.Dm
def at_ {m:Nat}(l:List Seg)(hl:l.length=m+1)(d:List (Fin (m+1))):List Seg:=d.map fun i=>l[i.1]'(by rw[hl];exact i.2)
def bat {m:Nat}(l:List Nat)(hl:l.length=m+1)(d:List (Fin (m+1))):List Nat:=d.map fun i=>l[i.1]'(by rw[hl];exact i.2)
theorem at_all {m:Nat}(l:List Seg)(hl:l.length=m+1):at_ l hl (List.ofFn id)=l:=by
 rw[at_,List.map_ofFn];refine List.ext_getElem (by rw[List.length_ofFn,hl]) fun i h1 h2=>?_
 rw[uL];rfl
theorem bat_all {m:Nat}(l:List Nat)(hl:l.length=m+1):bat l hl (List.ofFn id)=l:=by
 rw[bat,List.map_ofFn];refine List.ext_getElem (by rw[List.length_ofFn,hl]) fun i h1 h2=>?_
 rw[uL];rfl
theorem at_get {m:Nat}{l:List Seg}{b:List Nat}{hl:l.length=m+1}{hb:b.length=m+1}{d:List (Fin (m+1))}{i:Nat}{s:Seg}{c:Nat}(h1:(bat b hb d)[i]? = some c)(h2:(at_ l hl d)[i]? = some s):∃j:Nat,b[j]? = some c∧l[j]? = some s:=by
 rw[bat,uN,Option.map_eq_some_iff]at h1;rw[at_,uN,Option.map_eq_some_iff]at h2;obtain⟨j,hj,rfl⟩:=h1;obtain⟨k,hk,rfl⟩:=h2;rw[hj]at hk;cases hk
 exact⟨j.1,uB _,uB _⟩
theorem at_sorted {m:Nat}{n:Int}{l:List Seg}(hl:(l++[(⟨n,⟨#[]⟩,0⟩:Seg)]).length=m+1)(hr:l.Pairwise fun a b=>a.num<b.num)(hne:∀s∈l,s.num≠n){d:List (Fin (m+1))}(hp:d.Perm (List.ofFn id))
  (hs:d.Pairwise fun i j=>¬((l++[(⟨n,⟨#[]⟩,0⟩:Seg)])[j.1]'(by rw[hl];exact j.2)).num<((l++[(⟨n,⟨#[]⟩,0⟩:Seg)])[i.1]'(by rw[hl];exact i.2)).num):
  at_ (l++[⟨n,⟨#[]⟩,0⟩]) hl d=ensure n l:=by
 have hnd:d.Nodup:=(hp.nodup_iff).2 (by
  rw[List.Nodup,uI];intro i j hi hj hij e;rw[uL,uL]at e;have:=congrArg Fin.val e;simp only[id]at this;omega)
 refine ensure_sorted hr hne ?_ ?_
 ·have:=hp.map fun i:Fin (m+1)=>(l++[(⟨n,⟨#[]⟩,0⟩:Seg)])[i.1]'(by rw[hl];exact i.2)
  have e:=at_all (l++[(⟨n,⟨#[]⟩,0⟩:Seg)]) hl;rw[at_]at e;rw[e]at this;exact this
 ·rw[at_,List.pairwise_map];refine(hs.and hnd).imp fun {i j} ⟨h1,h2⟩=>?_
  have hij:i.1≠j.1:=fun e=>h2 (Fin.ext e)
  refine Int.lt_iff_le_and_ne.2 ⟨by omega,fun e=>hij ?_⟩;have hil:i.1<l.length+1:=by have:=i.2;simp at hl;omega
  have hjl:j.1<l.length+1:=by have:=j.2;simp at hl;omega
  rw[List.getElem_append,List.getElem_append]at e;by_cases hi:i.1<l.length
  ·by_cases hj:j.1<l.length
   ·rw[dif_pos hi,dif_pos hj]at e;exact rise_once hr (uB hi) (uB hj) e
   ·rw[dif_pos hi,dif_neg hj]at e;have:(l[i.1]).num=n:=by simpa using e
    exact absurd this (hne _ (List.getElem_mem hi))
  ·by_cases hj:j.1<l.length
   ·rw[dif_neg hi,dif_pos hj]at e;have:(l[j.1]).num=n:=by simpa using e.symm
    exact absurd this (hne _ (List.getElem_mem hj))
   ·omega
end Go.Proofs.YtenegfafjjknoaaGreatDoor.Dm
namespace Go.Proofs.YtenegfafjjknoaaGreatDoor.Dm
open Go
def cells3 (s:Seg):List Value:=[.int .i64 s.num,.string s.text,.int .i64 (s.syn:Int)]
def rows:List Seg→List Value
 | []=>[]
 | s ::l=>.int .i64 s.num ::.string s.text ::.int .i64 (s.syn:Int) ::rows l
theorem erase_at (l:List Seg)(i:Nat):l.eraseIdx i=l.take i++l.drop (i+1):=List.eraseIdx_eq_take_drop_succ ..
end Go.Proofs.YtenegfafjjknoaaGreatDoor.Dm
namespace Go.Proofs.YtenegfafjjknoaaGreatDoor.Dh
open Go.RowKit Mem Foot Dm
def segCells (s:Seg):Array Value:=#[.int .i64 s.num,.string s.text,.int .i64 (s.syn:Int)]
def sl (ba:Nat)(n cap:Nat):Value:=if n=0 then .slice none 0 0 else .slice (some ⟨ba,0,none⟩) n cap
structure PD (w:World)(bx:Nat)(S:Dk)(ba cap:Nat)(bs:List Nat):Prop where
 head:Sits w bx 101 #[sl ba bs.length cap,.int .i64 S.left,.int .i64 S.room]
 len:bs.length=S.segs.length
 arr:bs≠[]→∃cs:Array Value,Sits w ba 146 cs∧cs.size=cap∧bs.length≤cap∧∀(i b:Nat),bs[i]? = some b→cs[i]? = some (Value.pointer (some ⟨b,0,none⟩))
 seg:∀(i b:Nat) (s:Seg),bs[i]? = some b→S.segs[i]? = some s→Sits w b 149 (segCells s)
 apart:(bx ::ba ::bs).Nodup
 capm:bs≠[]→cap≤maxLen
theorem head3 {w:World}{b:Nat}{t:TypeId}{v0 v1 v2:Value}(h:Sits w b t #[v0,v1,v2]):
  w.cell? ⟨b,0,none⟩=some v0∧w.cell? ⟨b,1,none⟩=some v1∧w.cell? ⟨b,2,none⟩=some v2∧w.frozen? ⟨b,0,none⟩=false∧w.frozen? ⟨b,1,none⟩=false∧w.frozen? ⟨b,2,none⟩=false:=
 ⟨h.cell 0 _ rfl,h.cell 1 _ rfl,h.cell 2 _ rfl,h.frozen 0,h.frozen 1,h.frozen 2⟩
theorem operation (bx:Nat)(S:Dk)(v:Value)(w:World)(hS:Sits w bx 101 #[v,.int .i64 S.left,.int .i64 S.room])(hg:-1≤S.left∧S.left≤9223372036854775807):
  Calls Tryz.prog 99 #[.pointer (some ⟨bx,0,none⟩)] w fun e w'=>e=.returned (.bool (!decide (S.left=0)))∧But bx w w'∧Sits w' bx 101 #[v,.int .i64 (if S.left=0 then S else op S).left,.int .i64 S.room]:=by
 obtain⟨c0,c1,c2,f0,f1,f2⟩:=head3 hS;have HS:=hide hS;clear hS;by_cases h0:S.left=0
 ·have h0b:(S.left==0)=true:=by simpa using h0
  go_enter Tryz.func99,Tryz.ntmps99
  go_wp2_with fail
  go_ret
  refine⟨by simp,But.refl _ _,?_⟩;have:=HS.out;rwa [h0]at this
 ·have h0b:(S.left==0)=false:=by simpa using h0
  by_cases hp:0<S.left
  ·go_enter Tryz.func99,Tryz.ntmps99
   go_wp2_with fail
   go_ret
   refine⟨by simp,(But.refl _ _).set _ _,?_⟩;have:=HS.out.set 1 (.int .i64 (S.left - 1));simpa[op,hp] using this
  ·have HE:=hide (show (op S).left=S.left from if_neg hp);go_enter Tryz.func99,Tryz.ntmps99
   go_wp2_with fail
   go_ret
   refine⟨by simp,But.refl _ _,?_⟩;rw[HE.out];exact HS.out
def ptr (S:Dk)(bs:List Nat)(n:Int):Option Addr:=((place n S.segs).bind fun i=>bs[i]?).map fun b=>⟨b,0,none⟩
theorem ptr_none {S:Dk}{bs:List Nat}{n:Int}(h:place n S.segs=none):ptr S bs n=none:=by
 rw[ptr,h];rfl
theorem ptr_at {S:Dk}{bs:List Nat}{n:Int}{k b:Nat}(h:place n S.segs=some k)(hb:bs[k]? = some b):ptr S bs n=some ⟨b,0,none⟩:=by
 rw[ptr,h];show (bs[k]?).map _=_;rw[hb];rfl
theorem find (bx ba cap:Nat)(bs:List Nat)(S:Dk)(n:Int)(w:World)(hP:PD w bx S ba cap bs)(hl:bs.length≤1000000000):
  Calls Tryz.prog 101 #[.pointer (some ⟨bx,0,none⟩),.int .i64 n] w fun e w'=>w=w'∧e=.returned (.pointer (ptr S bs n)):=by
 obtain⟨c0,c1,c2,f0,f1,f2⟩:=head3 hP.head;have HP:=hide hP;clear hP;unfold sl at c0;by_cases h0:bs.length=0
 ·rw[if_pos h0]at c0;have hsn:S.segs=[]:=List.eq_nil_of_length_eq_zero (HP.out.len▸h0);have HE:=hide (show ptr S bs n=none from ptr_none (by rw[hsn];rfl));clear h0 hsn;go_enter Tryz.func101,Tryz.ntmps101
  go_wp2_with fail
  go_loopw [12] (fun s12 wr=>s12=.int .i64 0∧wr=w) (fun _ _=>0)
  case atStart=>exact⟨rfl,rfl⟩
  case round=>
   obtain⟨rfl,rfl⟩:=hrel;go_wp2_with fail
   go_ret
   exact⟨rfl,congrArg (fun z=>Ending.returned (.pointer z)) HE.out.symm⟩
 ·rw[if_neg h0]at c0;obtain⟨cs,hA,hcs,hcap,hptr⟩:=HP.out.arr (fun e=>h0 (by rw[e];rfl));have HA:=hide hA;have HPT:=hide hptr;clear hA hptr hcs;go_enter Tryz.func101,Tryz.ntmps101
  go_wp2_with fail
  go_loopw [12] (fun s12 wr=>∃k:Nat,s12=.int .i64 (k:Int)∧wr=w∧k≤bs.length∧Hid (∀j t,j<k→S.segs[j]? = some t→t.num≠n)) (fun s12 _=>bs.length - (intOf s12).toNat)
  case atStart=>exact⟨0,rfl,rfl,by omega,fun j t h=>by omega⟩
  case round=>
   obtain⟨k,rfl,rfl,hk,HB⟩:=hrel;by_cases hkl:k<bs.length
   ·have hkz:(k:Int)<(bs.length:Int):=by omega
    obtain⟨b,hb⟩:∃b,bs[k]? = some b:=⟨_,uB hkl⟩;obtain⟨s,hs⟩:∃s,S.segs[k]? = some s:=⟨_,uB (by rw[←HP.out.len];exact hkl)⟩;have a0:=HA.out.cell k _ (HPT.out k b hb);obtain⟨b0,b1,b2,g0,g1,g2⟩:=head3 (HP.out.seg k b s hb hs);have HT:=hide (show s.num=n→ptr S bs n=some ⟨b,0,none⟩ from fun hn=>ptr_at (place_at HB.out hs hn) hb);have HF:=hide (show ¬s.num=n→∀j t,j<k+1→S.segs[j]? = some t→t.num≠n from fun hn j t hj ht=>by
     by_cases e:j=k
     ·subst e;rw[hs]at ht;cases ht
      exact hn
     ·exact HB.out j t (by omega) ht)
    clear hb hs;go_wp2_with fail
    ·have hnb:(s.num==n)=true:=by assumption
     go_ret
     exact⟨rfl,congrArg (fun z=>Ending.returned (.pointer z)) (HT.out (by simpa using hnb)).symm⟩
    ·have hnb:(s.num==n)=false:=by assumption
     go_roundw
     case rel=>exact⟨k+1,by go_num,trivial,by omega,HF.out (by simpa using hnb)⟩
     case measure=>simp[intOf];omega
   ·have hkz:¬(k:Int)<(bs.length:Int):=by omega
    have HE:=hide (show ptr S bs n=none from ptr_none (place_not (fun j t ht=>HB.out j t (by have:=(uA.1 ht).1;have:=HP.out.len;omega) ht)));go_wp2_with fail
    go_ret
    exact⟨rfl,congrArg (fun z=>Ending.returned (.pointer z)) HE.out.symm⟩
end Go.Proofs.YtenegfafjjknoaaGreatDoor.Dh
namespace Go.Proofs.YtenegfafjjknoaaGreatDoor.Dh
open Go.RowKit Mem Foot Dm
theorem PD.ne_arr {w:World}{bx ba cap:Nat}{bs:List Nat}{S:Dk}(h:PD w bx S ba cap bs):ba≠bx:=by
 have:=h.apart;rw[uJ]at this;exact fun e=>this.1 (e▸uD ..)
theorem PD.ne_seg {w:World}{bx ba cap:Nat}{bs:List Nat}{S:Dk}(h:PD w bx S ba cap bs){b:Nat}(hb:b∈bs):b≠bx∧b≠ba:=by
 have:=h.apart;rw[uJ,uJ]at this;exact⟨fun e=>this.1 (e▸uG _ hb),fun e=>this.2.1 (e▸hb)⟩
theorem PD.turned {w w':World}{bx ba cap:Nat}{bs:List Nat}{S:Dk}{a b:Int}(h:PD w bx S ba cap bs)(hb:But bx w w')(hs:Sits w' bx 101 #[sl ba bs.length cap,.int .i64 a,.int .i64 b]):PD w' bx ⟨S.segs,a,b⟩ ba cap bs:=
 ⟨hs,h.len,fun hne=>by
  obtain⟨cs,h1,h2,h3,h4⟩:=h.arr hne;exact⟨cs,h1.but hb h.ne_arr,h2,h3,h4⟩,fun i c s hi hS=>(h.seg i c s hi hS).but hb (h.ne_seg (uF hi)).1,h.apart,h.capm⟩
theorem PD.seg_turned {w w':World}{bx ba cap:Nat}{bs:List Nat}{S:Dk}{k c:Nat}{s':Seg}(h:PD w bx S ba cap bs)(hk:bs[k]? = some c)(hb:But c w w')(hs:Sits w' c 149 (segCells s')):PD w' bx ⟨S.segs.set k s',S.left,S.room⟩ ba cap bs:=by
 have hc:=h.ne_seg (uF hk);refine⟨h.head.but hb (fun e=>hc.1 e.symm),by rw[List.length_set];exact h.len,fun hne=>?_,fun i d s hi hS=>?_,h.apart,h.capm⟩
 ·obtain⟨cs,h1,h2,h3,h4⟩:=h.arr hne;exact⟨cs,h1.but hb (fun e=>hc.2 e.symm),h2,h3,h4⟩
 ·rw[List.getElem?_set]at hS;by_cases e:k=i
  ·subst e;rw[hk]at hi;cases hi
   rw[if_pos rfl]at hS;split at hS
   ·cases hS
    exact hs
   ·cases hS
  ·rw[if_neg e]at hS;have hne:d≠c:=by
    intro hd;subst hd;have hn:=h.apart;rw[uJ,uJ]at hn;have h1:=(uA.1 hk);have h2:=(uA.1 hi);obtain⟨h1l,h1e⟩:=h1;obtain⟨h2l,h2e⟩:=h2;have hp:=uI.1 hn.2.2;rcases Nat.lt_trichotomy k i with q|q|q
    ·exact hp k i h1l h2l q (h1e.trans h2e.symm)
    ·exact e q
    ·exact hp i k h2l h1l q (h2e.trans h1e.symm)
   exact(h.seg i d s hi hS).but hb hne
end Go.Proofs.YtenegfafjjknoaaGreatDoor.Dh
namespace Go.Proofs.YtenegfafjjknoaaGreatDoor.Dh
open Go.RowKit Mem Foot Dm
theorem op_left {S:Dk}(h:¬S.left=0):(if S.left=0 then S else op S)=op S:=if_neg h
theorem sync (bx ba cap:Nat)(bs:List Nat)(S:Dk)(n:Int)(w:World)(hP:PD w bx S ba cap bs)(hG:Dm.Good S)(hl:bs.length≤1000000000):
  Calls Tryz.prog 50 #[.pointer (some ⟨bx,0,none⟩),.int .i64 n] w fun e w'=>e=.returned (.int .i64 (doSync S n).2)∧Off (bx ::bs) w w'∧PD w' bx (doSync S n).1 ba cap bs:=by
 have HP:=hide hP;have HG:=hide hG;clear hP hG;go_enter Tryz.func50,Tryz.ntmps50
 go_wp2_with fail
 refine(operation bx S _ w HP.out.head HG.out.left).mono ?_;rintro e w1 ⟨rfl,hb1,hs1⟩;by_cases h0:S.left=0
 ·have hd:decide (S.left=0)=true:=decide_eq_true h0;have HE:=hide (show doSync S n=(S,8) from if_pos h0);rw[if_pos h0]at hs1;have HQ:=hide (HP.out.turned hb1 hs1);have HB:=hide hb1;clear hb1 hs1 h0;rw[hd];go_wp2_with fail
  go_ret
  rw[HE.out];exact⟨rfl,Off.of_but HB.out (uD ..),HQ.out⟩
 ·have hd:decide (S.left=0)=false:=decide_eq_false h0;rw[op_left h0]at hs1;have HQ:=hide (HP.out.turned hb1 hs1);have HB:=hide hb1;have H0:=hide h0;clear hb1 hs1 h0;rw[hd];go_wp2_with fail
  refine(find bx ba cap bs (op S) n w1 HQ.out hl).mono ?_;rintro e w2 ⟨rfl,rfl⟩;cases hp:place n S.segs with
  | none=>
   have HE:=hide (show doSync S n=(op S,9) by rw[doSync,if_neg H0.out,hp]);rw[ptr_none (S:=op S) hp];clear hp;go_wp2_with fail
   go_ret
   rw[HE.out];exact⟨rfl,Off.of_but HB.out (uD ..),HQ.out⟩
  | some k=>
   obtain⟨s,hs,hn⟩:=place_some hp;obtain⟨b,hb⟩:∃b,bs[k]? = some b:=⟨_,uB (by rw[HP.out.len];exact(uA.1 hs).1)⟩;have HE:=hide (show doSync S n=(⟨S.segs.set k {s with syn:=s.text.size},(op S).left,S.room⟩,0) by rw[doSync,if_neg H0.out,hp,turn_set HG.out.rise hs hn];rfl);rw[ptr_at (S:=op S) hp hb];have hS:=HQ.out.seg k b s hb hs;obtain⟨b0,b1,b2,g0,g1,g2⟩:=head3 hS;have HS:=hide hS;have HK:=hide hb;clear hp hs hn hb hS;go_wp2_with fail
   go_ret
   rw[HE.out];have hmem:b∈bx ::bs:=uG _ (uF HK.out);exact⟨rfl,(Off.of_but HB.out (uD ..)).set hmem _ _,HQ.out.seg_turned HK.out ((But.refl _ _).set _ _) (HS.out.set 2 _)⟩
end Go.Proofs.YtenegfafjjknoaaGreatDoor.Dh
namespace Go.Proofs.YtenegfafjjknoaaGreatDoor.Dh
open Go.RowKit Mem Foot Dm
theorem new (w:World):Calls Tryz.prog 26 #[] w fun e w'=>e=.returned (.pointer (some ⟨w.heap.size,0,none⟩))∧w'=w.alloc (.cells #[.slice none 0 0,.int .i64 (-1),.int .i64 (-1)] 101):=by
 go_enter Tryz.func26,Tryz.ntmps26
 go_wp2_with fail
 go_ret
 exact⟨rfl,rfl⟩
theorem read (bx ba cap:Nat)(bs:List Nat)(S:Dk)(n:Int)(w:World)(hP:PD w bx S ba cap bs)(hl:bs.length≤1000000000):
  Calls Tryz.prog 48 #[.pointer (some ⟨bx,0,none⟩),.int .i64 n] w fun e w'=>e=.returned (.tuple #[.string (doRead S n).1,.int .i64 (doRead S n).2])∧w=w':=by
 obtain⟨c0,c1,c2,f0,f1,f2⟩:=head3 hP.head;have HP:=hide hP;clear hP;by_cases h0:S.left=0
 ·have h0b:(S.left==0)=true:=by simpa using h0
  have HE:=hide (show doRead S n=(⟨#[]⟩,8) from if_pos h0);go_enter Tryz.func48,Tryz.ntmps48
  go_wp2_with fail
  go_ret2
  rw[HE.out];exact⟨rfl,rfl⟩
 ·have h0b:(S.left==0)=false:=by simpa using h0
  have H0:=hide h0;clear h0;go_enter Tryz.func48,Tryz.ntmps48
  go_wp2_with fail
  refine(find bx ba cap bs S n w HP.out hl).mono ?_;rintro e w2 ⟨rfl,rfl⟩;cases hp:place n S.segs with
  | none=>
   have HE:=hide (show doRead S n=(⟨#[]⟩,9) by rw[doRead,if_neg H0.out,hp]);rw[ptr_none (S:=S) hp];clear hp;go_wp2_with fail
   go_ret2
   rw[HE.out];exact⟨rfl,rfl⟩
  | some k=>
   obtain⟨s,hs,hn⟩:=place_some hp;obtain⟨b,hb⟩:∃b,bs[k]? = some b:=⟨_,uB (by rw[HP.out.len];exact(uA.1 hs).1)⟩;have HE:=hide (show doRead S n=(s.text,0) by rw[doRead,if_neg H0.out,hp];show (((S.segs[k]?).map (·.text)).getD ⟨#[]⟩,(0:Int))=_;rw[hs];rfl);rw[ptr_at (S:=S) hp hb];obtain⟨b0,b1,b2,g0,g1,g2⟩:=head3 (HP.out.seg k b s hb hs);clear hp hs hn hb;go_wp2_with fail
   go_ret2
   rw[HE.out];exact⟨rfl,rfl⟩
end Go.Proofs.YtenegfafjjknoaaGreatDoor.Dh
namespace Go.Proofs.YtenegfafjjknoaaGreatDoor.Dh
open Go.RowKit Mem Foot Dm
theorem limit (bx ba cap:Nat)(bs:List Nat)(S:Dk)(a b:Int)(w:World)(hP:PD w bx S ba cap bs):
  Calls Tryz.prog 57 #[.pointer (some ⟨bx,0,none⟩),.int .i64 a,.int .i64 b] w fun e w'=>e=.returned (.tuple #[])∧But bx w w'∧PD w' bx (doLimit S a b) ba cap bs:=by
 obtain⟨c0,c1,c2,f0,f1,f2⟩:=head3 hP.head;have HP:=hide hP;clear hP;have ha:(if a<0 then -1 else a)=max a (-1):=by omega
 have hb:(if b<0 then -1 else b)=max b (-1):=by omega
 have HE:=hide (show doLimit S a b=⟨S.segs,max a (-1),max b (-1)⟩ by rw[doLimit,ha,hb]);clear ha hb;go_enter Tryz.func57,Tryz.ntmps57
 go_wp2_with fail
 go_end0
 rw[HE.out];have hB:=((But.refl bx w).set 1 (.int .i64 (max a (-1)))).set 2 (.int .i64 (max b (-1)));exact⟨rfl,hB,HP.out.turned hB ((HP.out.head.set 1 _).set 2 _)⟩
end Go.Proofs.YtenegfafjjknoaaGreatDoor.Dh
namespace Go.Proofs.YtenegfafjjknoaaGreatDoor.Dh
open Go.RowKit Mem Foot Dm
end Go.Proofs.YtenegfafjjknoaaGreatDoor.Dh
namespace Go.Proofs.YtenegfafjjknoaaGreatDoor.Dh
open Go.RowKit Mem Foot Dm
end Go.Proofs.YtenegfafjjknoaaGreatDoor.Dh
namespace Go.Proofs.YtenegfafjjknoaaGreatDoor.Dh
open Go.RowKit Mem Foot Dm
end Go.Proofs.YtenegfafjjknoaaGreatDoor.Dh
