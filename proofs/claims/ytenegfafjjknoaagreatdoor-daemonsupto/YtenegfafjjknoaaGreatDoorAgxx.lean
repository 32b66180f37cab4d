/- A plain form is read as what it was made of. No Go in sight. Windows: lines laid into datagrams; counters and timers in any order. No Go in sight. Windows: counters and timers do not ask which came first. No Go in sight. The program's window in memory; a sample's key. The series of a sample. A window takes a line. A window takes a line: the walk. -/
import Derived.Test.YtenegfafjjknoaaGreatDoorHjxx
import Derived.Test.YtenegfafjjknoaaGreatDoorPlainvy
set_option maxHeartbeats 100000000
open List renaming mem_cons → uA, mem_append → uB, mem_cons_self → uC, mem_cons_of_mem → uD, nodup_append → uE, mem_flatMap → uF, map_cons → uG, nodup_cons → uH, flatMap_cons → uI, mem_map → uJ, mem_append_left → uK, mem_singleton → uL
namespace Go.Proofs.YtenegfafjjknoaaGreatDoor.Ag
open Bytes Nums Vals Opts Tags Spl Plain
theorem dig_ofNat {d:Nat}(h:d<10):dig ((UInt8.ofNat (48+d)).toNat:Int)=true∧((UInt8.ofNat (48+d)).toNat:Int) - 48=d:=by
 rw[UInt8.toNat_ofNat'];refine⟨dig_iff.2 ⟨?_,?_⟩,?_⟩<;>omega
theorem dd_val:∀n:Nat,digs (Lib.decDigits n)=true∧val (Lib.decDigits n)=n:=by
 intro n
 induction n using Nat.strongRecOn with
 | _ n ih=>
  rw[Lib.decDigits];by_cases h:n<10
  ·obtain⟨h1,h2⟩:=dig_ofNat h;rw[dif_pos h];refine⟨by simp only[digs,List.all_cons,List.all_nil,Bool.and_true];exact h1,?_⟩;show 0*10+_=_;omega
  ·rw[dif_neg h];obtain⟨a,b⟩:=ih (n / 10) (by omega);obtain⟨h1,h2⟩:=dig_ofNat (show n % 10<10 by omega);refine⟨?_,?_⟩
   ·unfold digs at a ⊢;rw[List.all_append,a];simp only[List.all_cons,List.all_nil,Bool.and_true,Bool.true_and];exact h1
   ·rw[val_snoc,b,h2];omega
theorem dd_ne (n:Nat):Lib.decDigits n≠[]:=by
 rw[Lib.decDigits];split<;>simp
theorem digs_made {l:List UInt8}{most:Nat}(h:digs l=true)(h0:l≠[])(hl:l.length≤most):made dig most l=true:=by
 unfold made;unfold digs at h;rw[h];cases l with
 | nil=>exact absurd rfl h0
 | cons a l=>
  simp only[List.isEmpty_cons,Bool.not_false,Bool.true_and,Bool.and_true,decide_eq_true_eq];exact_mod_cast hl
theorem digs_not {l:List UInt8}(h:digs l=true){c:UInt8}(hc:dig (c.toNat:Int)=false):c∉l:=by
 intro hm;unfold digs at h;rw[List.all_eq_true]at h;have:=h c hm;rw[hc]at this;cases this
theorem has_not {l:List UInt8}{c:UInt8}(h:c∉l):has c l=false:=by
 unfold has;simpa using h
theorem has_mid {a b:List UInt8}{c:UInt8}:has c (a++c ::b)=true:=by
 unfold has;simp
set_option maxRecDepth 100000 in
theorem dec_three:∀r:Fin 1000,r.val=0∨(dec (Lib.trimRightB [UInt8.ofNat (48+r.val / 100),UInt8.ofNat (48+r.val / 10 % 10),UInt8.ofNat (48+r.val % 10)] 48)=some (r.val:Int)∧digs (Lib.trimRightB [UInt8.ofNat (48+r.val / 100),UInt8.ofNat (48+r.val / 10 % 10),UInt8.ofNat (48+r.val % 10)] 48)=true):=by decide +kernel
theorem dd_three {r:Nat}(h:r<1000):(Lib.decDigits (1000+r)).drop 1=[UInt8.ofNat (48+r / 100),UInt8.ofNat (48+r / 10 % 10),UInt8.ofNat (48+r % 10)]:=by
 rw[Lib.decDigits,dif_neg (by omega),Lib.decDigits,dif_neg (by omega),Lib.decDigits,dif_neg (by omega),Lib.decDigits_one (by omega)];simp only[List.append_assoc,List.singleton_append];have e1:(1000+r) / 10 / 10 % 10=r / 100:=by omega
 have e2:(1000+r) / 10 % 10=r / 10 % 10:=by omega
 have e3:(1000+r) % 10=r % 10:=by omega
 rw[e1,e2,e3];rfl
theorem dec_zero':dec [48]=some 0:=by decide +kernel
theorem num_wn {a:Nat}(h:a≤999999999):num (wnAbs a)=some (a:Int)∧(∀c∈wnAbs a,dig (c.toNat:Int)=true∨c=46)∧wnAbs a≠[]∧(∃c l,wnAbs a=c ::l∧dig (c.toNat:Int)=true):=by
 obtain⟨hd,hv⟩:=dd_val (a / 1000);have hl:(Lib.decDigits (a / 1000)).length≤6:=by
  rw[Lib.decDigits_length];exact nd_le 5 _ (by omega)
 have hm:=digs_made hd (dd_ne _) hl;have hno:(46:UInt8)∉Lib.decDigits (a / 1000):=digs_not hd rfl;have hall:∀l:List UInt8,digs l=true→∀c∈l,dig (c.toNat:Int)=true:=fun l hl c hc=>by
  unfold digs at hl;rw[List.all_eq_true]at hl;exact hl c hc
 have hhead:∀r:List UInt8,∃c l,Lib.decDigits (a / 1000)++r=c ::l∧dig (c.toNat:Int)=true:=fun r=>by
  cases e:Lib.decDigits (a / 1000) with
  | nil=>exact absurd e (dd_ne _)
  | cons c l=>exact⟨c,l++r,rfl,hall _ hd c (by rw[e];exact uC ..)⟩
 unfold wnAbs;by_cases h0:a % 1000=0
 ·rw[if_pos h0,List.append_nil];refine⟨?_,fun c hc=>Or.inl (hall _ hd c hc),dd_ne _,by simpa using hhead []⟩;have hf:fore 46 (Lib.decDigits (a / 1000))=Lib.decDigits (a / 1000):=Wm.fore_all hno;rw[num_plain (by rw[hf];exact hm) (has_not hno),dec_zero',hf,hv];simp
  omega
 ·rw[if_neg h0,dd_three (by omega)];obtain⟨hdec,hdg⟩:=(dec_three ⟨a % 1000,by omega⟩).resolve_left h0;have hf:∀r,fore 46 (Lib.decDigits (a / 1000)++46 ::r)=Lib.decDigits (a / 1000):=fun r=>Wm.fore_append hno
  refine⟨?_,fun c hc=>?_,by simp,hhead _⟩
  ·rw[num_point (by rw[hf];exact hm) has_mid,Wm.aft_append hno,hdec,hf,hv];simp
   omega
  ·rcases uB.1 hc with hc|hc
   ·exact Or.inl (hall _ hd c hc)
   ·rcases uA.1 hc with hc|hc
    ·exact Or.inr hc
    ·exact Or.inl (hall _ hdg c hc)
/-! ### Values -/
theorem sg_none (l:List UInt8):sg [] l=[]:=by
 unfold sg;split<;>simp[has]
theorem wn_nonneg {v:Int}(h:0≤v):wn v=wnAbs v.natAbs:=by
 unfold wn;rw[if_neg (by omega),List.nil_append]
theorem wn_neg' {v:Int}(h:v<0):wn v=45 ::wnAbs v.natAbs:=by
 unfold wn;rw[if_pos h];rfl
theorem signed_plain {t:List UInt8}{v:Int}(h0:0≤v)(h1:v≤999999999)(ht:∀c∈t,dig (c.toNat:Int)=false):signed t (wn v)=some ([],v):=by
 obtain⟨hn,_,_,c,l,hc,hd⟩:=num_wn (a:=v.natAbs) (by omega);rw[wn_nonneg h0];have e:sg t (wnAbs v.natAbs)=[]:=by
  rw[hc];unfold sg;have:has c t=false:=has_not fun hm=>by rw[ht c hm]at hd;cases hd
  simp[this]
 unfold signed;rw[e];simp only[List.length_nil,List.drop_zero,hn];simp
 omega
theorem wn_no {v:Int}(h1:-999999999≤v)(h2:v≤999999999){c:UInt8}(hc:dig (c.toNat:Int)=false)(hp:c≠46)(hm:c≠45):c∉wn v:=by
 obtain⟨_,hn,_⟩:=num_wn (a:=v.natAbs) (by omega);have h3:c∉wnAbs v.natAbs:=fun hmem=>by
  rcases hn c hmem with e|e
  ·rw[hc]at e;cases e
  ·exact hp e
 by_cases hv:v<0
 ·rw[wn_neg' hv];simp only[uA,not_or];exact⟨hm,h3⟩
 ·rw[wn_nonneg (by omega)];exact h3
/-! ### Rates -/
/-! ### Tags -/
def Rises (ls:List (List UInt8)):Prop:=ls.Pairwise (·<·)
theorem tri' {a b:List UInt8}(h:¬a<b)(k:¬b<a):a=b:=List.le_antisymm (List.not_lt.1 k) (List.not_lt.1 h)
theorem compact_ss (zs:List (List UInt8))(h:zs.Pairwise (·≤·)):Rises (Lib.compact zs):=by
 unfold Lib.compact Lib.compactUpTo Rises;rw[List.pairwise_map];have hr:(List.range zs.length).Pairwise (·<·):=List.pairwise_lt_range;refine(hr.filter _).imp_of_mem fun {i j} hi hj hij=>?_
 rw[List.mem_filter,List.mem_range]at hi hj;have ei:zs.toArray[i]! = zs[i]:=by simp[hi.1]
 have ej:zs.toArray[j]! = zs[j]:=by simp[hj.1]
 have hp:=List.pairwise_iff_getElem.1 h;have hk:=hj.2;have hne:zs.toArray[j]!≠zs.toArray[j - 1]! :=by
  unfold Lib.keeps at hk;have hk':=of_decide_eq_true hk;rcases hk' with h0|h0
  ·omega
  ·exact h0
 have ej1:zs.toArray[j - 1]! = zs[j - 1]'(by omega):=by simp[show j - 1<zs.length by omega]
 rw[ei,ej];have h1:zs[j - 1]'(by omega)≤zs[j]:=hp (j - 1) j (by omega) hj.1 (by omega);have h2:zs[i]≤zs[j - 1]'(by omega):=by
  by_cases e:i=j - 1
  ·subst e;exact List.le_refl _
  ·exact hp i (j - 1) hi.1 (by omega) (by omega)
 have h3:zs[j - 1]'(by omega)<zs[j]:=by
  by_cases k:zs[j - 1]'(by omega)<zs[j]
  ·exact k
  ·exfalso
   apply hne
   rw[ej,ej1];exact tri' (List.not_lt.2 h1) k
 by_cases e:zs[i]<zs[j - 1]'(by omega)
 ·exact List.lt_trans e h3
 ·have:zs[i]=zs[j - 1]'(by omega):=tri' e (List.not_lt.2 h2);rw[this];exact h3
/-! ### Lines -/
end Go.Proofs.YtenegfafjjknoaaGreatDoor.Ag
namespace Go.Proofs.YtenegfafjjknoaaGreatDoor.Wm
open Im Opts
theorem lines_ne (l:Bs):lines l≠[]:=by
 cases l with
 | nil=>simp[lines]
 | cons c r=>
  rw[lines];split
  ·simp
  ·split<;>simp
theorem lines_join (a b:Bs):lines (a++10 ::b)=lines a++lines b:=by
 induction a with
 | nil=>simp[lines]
 | cons c r ih=>
  rw[List.cons_append,lines,lines,ih];by_cases h:c=10
  ·simp[h]
  ·simp only[h,if_false];cases hr:lines r with
   | nil=>exact absurd hr (lines_ne r)
   | cons x y=>rfl
theorem wline_nil (L:Lim)(w:Win):wline L w []=w:=by rw[wline,if_pos rfl]
theorem lines_one {l:Bs}(h:(10:UInt8)∉l):lines l=[l]:=by
 induction l with
 | nil=>rfl
 | cons c r ih=>
  have h1:c≠10:=fun e=>h (by simp[e])
  rw[lines,if_neg h1,ih fun e=>h (uD _ e)]
theorem itoa_pos (n:Int):1≤(Lib.itoa n).length:=by
 unfold Lib.itoa;have h:∀m,1≤(Lib.decDigits m).length:=fun m=>by
  rw[Lib.decDigits_length];exact Lib.nDigits_pos _
 split
 ·simp
 ·exact h _
theorem whead_len (n:Int)(r d:Nat):27≤(whead n r d).length:=by
 have h1:=itoa_pos n;have h2:=itoa_pos r;have h3:=itoa_pos d;simp only[whead,List.length_append,List.length_cons,List.length_nil];omega
end Go.Proofs.YtenegfafjjknoaaGreatDoor.Wm
namespace Go.Proofs.YtenegfafjjknoaaGreatDoor.Wm
open Im Opts
section
variable {κ β : Type} [DecidableEq κ] {lt : κ → κ → Bool}
theorem getE_ins_ne {x:κ×β}{k:κ}(h:x.1≠k)(l:List (κ×β)):getE k (ins lt x l)=getE k l:=by
 induction l with
 | nil=>rw[ins,getE_cons_ne h]
 | cons y r ih=>
  rw[ins];split
  ·rw[getE_cons_ne h]
  ·by_cases e:y.1=k
   ·rw[getE_cons_eq e,getE_cons_eq e]
   ·rw[getE_cons_ne e,getE_cons_ne e,ih]
theorem getE_ins_eq {x:κ×β}{l:List (κ×β)}(h:x.1∉l.map (·.1)):getE x.1 (ins lt x l)=some x.2:=by
 induction l with
 | nil=>rw[ins,getE_cons_eq rfl]
 | cons y r ih=>
  rw[ins];split
  ·rw[getE_cons_eq rfl]
  ·have h1:y.1≠x.1:=fun e=>h (by simp[e])
   rw[getE_cons_ne h1,ih fun e=>h (by simp only[uG,uA];exact Or.inr e)]
theorem getE_del {k k':κ}(l:List (κ×β)):getE k' (del k l)=if k'=k then none else getE k' l:=by
 induction l with
 | nil=>simp[del,getE]
 | cons y r ih=>
  by_cases e:y.1=k
  ·have:del k (y ::r)=del k r:=List.filter_cons_of_neg (by simp[e]);rw[this,ih];by_cases e':k'=k
   ·simp[e']
   ·rw[if_neg e',if_neg e',getE_cons_ne (by rw[e];exact fun h=>e' h.symm)]
  ·have:del k (y ::r)=y ::del k r:=List.filter_cons_of_pos (by simp[e]);rw[this];by_cases e':y.1=k'
   ·rw[getE_cons_eq e',getE_cons_eq e',if_neg (by rw[←e'];exact e)]
   ·rw[getE_cons_ne e',getE_cons_ne e',ih]
theorem getE_put {k k':κ}{b:β}(l:List (κ×β)):getE k' (put lt k b l)=if k'=k then some b else getE k' l:=by
 by_cases e:k'=k
 ·subst e;rw[if_pos rfl,put];refine getE_ins_eq (x:=(k',b)) ?_;intro hm;obtain⟨p,hp,e⟩:=uJ.1 hm;have:=(List.mem_filter.1 hp).2;simp only[Bool.not_eq_true',decide_eq_false_iff_not]at this;exact this e
 ·rw[if_neg e,put,getE_ins_ne (fun h=>e h.symm),getE_del,if_neg e]
theorem getE_of_mem {l:List (κ×β)}(hn:(l.map (·.1)).Nodup){p:κ×β}(h:p∈l):getE p.1 l=some p.2:=by
 induction l with
 | nil=>cases h
 | cons y r ih=>
  rw[uG,uH]at hn;rcases uA.1 h with rfl|h
  ·rw[getE_cons_eq rfl]
  ·have:y.1≠p.1:=fun e=>hn.1 (by rw[e];exact uJ.2 ⟨p,h,rfl⟩)
   rw[getE_cons_ne this,ih hn.2 h]
theorem up_ext (htr:∀a b c,lt a b=true→lt b c=true→lt a c=true)(hir:∀a,lt a a=false){l r:List (κ×β)}(hl:Up lt l)(hr:Up lt r)(h:∀k,getE k l=getE k r):l=r:=by
 have hm:∀p,p∈l↔p∈r:=fun p=>by
  constructor
  ·intro hp;have:=getE_of_mem (Up.nodup hir hl) hp;rw[h]at this;exact getE_mem this
  ·intro hp;have:=getE_of_mem (Up.nodup hir hr) hp;rw[←h]at this;exact getE_mem this
 clear h
 induction l generalizing r with
 | nil=>
  cases r with
  | nil=>rfl
  | cons y r=>exact absurd ((hm y).2 (uC ..)) (by simp)
 | cons x l ih=>
  cases r with
  | nil=>exact absurd ((hm x).1 (uC ..)) (by simp)
  | cons y r=>
   obtain⟨h1,h2⟩:=List.pairwise_cons.1 hl;obtain⟨h3,h4⟩:=List.pairwise_cons.1 hr;have hxy:x=y:=by
    rcases uA.1 ((hm x).1 (uC ..)) with e|e
    ·exact e
    ·rcases uA.1 ((hm y).2 (uC ..)) with k|k
     ·exact k.symm
     ·have:=htr _ _ _ (h1 y k) (h3 x e);rw[hir]at this;cases this
   subst hxy;rw[ih h2 h4];intro p;have hne:∀q:List (κ×β),(∀p∈q,lt x.1 p.1=true)→x∉q:=fun q hq hx=>by
    have:=hq x hx;rw[hir]at this;cases this
   constructor
   ·intro hp;rcases uA.1 ((hm p).1 (uD _ hp)) with rfl|e
    ·exact absurd hp (hne _ h1)
    ·exact e
   ·intro hp;rcases uA.1 ((hm p).2 (uD _ hp)) with rfl|e
    ·exact absurd hp (hne _ h3)
    ·exact e
end
theorem sub_length {l r:List Int}(hn:l.Nodup)(hs:∀x∈l,x∈r):l.length≤r.length:=by
 induction l generalizing r with
 | nil=>exact Nat.zero_le _
 | cons x l ih=>
  rw[uH]at hn;have hx:=hs x (uC ..);have h1:=ih (r:=r.erase x) hn.2 fun y hy=>by
   have hne:y≠x:=fun e=>hn.1 (e▸hy)
   exact(List.mem_erase_of_ne hne).2 (hs y (uD _ hy))
  rw[List.length_erase_of_mem hx]at h1;have:0<r.length:=List.length_pos_of_mem hx;simp only[List.length_cons];omega
/-! ### Counters and timers -/
noncomputable def thirty:List Int:=(List.range 30).map fun x:Nat=>(bk (1000*(x:Int))).1
structure TOk (t:Tim):Prop where
 count:0≤t.count
 sum:0≤t.sum
 up:Up iLt t.cells
 sub:∀c∈t.cells,c.1∈thirty
def Tv (v:Int):Prop:=∃x:Nat,x<30∧v=1000*(x:Int)
theorem Tv.fit {v:Int}(h:Tv v):0≤v∧v≤999999999:=by
 obtain⟨x,h1,rfl⟩:=h;omega
theorem Tv.bk {v:Int}(h:Tv v):(bk v).1∈thirty:=by
 obtain⟨x,h1,rfl⟩:=h;exact uJ.2 ⟨x,List.mem_range.2 h1,rfl⟩
theorem lay_sub {v wt:Int}{l:List (Int×Cel)}(h:∀c∈l,c.1∈thirty)(hv:Tv v):∀c∈lay v wt l,c.1∈thirty:=by
 intro c hc;rcases mem_put hc with rfl|⟨hc,_⟩
 ·exact hv.bk
 ·exact h c hc
theorem sub_len {l:List (Int×Cel)}(hu:Up iLt l)(h:∀c∈l,c.1∈thirty):l.length≤30:=by
 have:=sub_length (l:=l.map (·.1)) (r:=thirty) (Up.nodup iLt_irr hu) fun x hx=>by
  obtain⟨c,hc,rfl⟩:=uJ.1 hx;exact h c hc
 simpa[thirty] using this
theorem tadd_is {t:Tim}(h:TOk t){v:Int}(hv:Tv v):tadd 64 t v 1=⟨bnd (t.count+1),bnd (t.sum+v),if t.count=0 then v else min t.least v,if t.count=0 then v else max t.greatest v,lay v 1 t.cells,t.folded⟩:=by
 have hl:=sub_len (up_lay (v:=v) (wt:=1) h.up) (lay_sub (wt:=1) h.sub hv);have h1:¬64<(lay v 1 t.cells).length:=by omega
 simp[tadd,h1]
theorem TOk.add {t:Tim}(h:TOk t){v:Int}(hv:Tv v):TOk (tadd 64 t v 1):=by
 rw[tadd_is h hv];have hf:=hv.fit;have h1:=h.count;have h2:=h.sum;exact⟨by simp only[bnd,top];omega,by simp only[bnd,top];omega,up_lay h.up,lay_sub h.sub hv⟩
theorem TOk.zero:TOk ⟨0,0,0,0,[],false⟩:=⟨by simp,by simp,List.Pairwise.nil,by simp⟩
def cSmp (v:Int):Smp:=⟨[99],[99],false,v,[],1000,[]⟩
def kc:Bs:=[99,124,99]
def kt:Bs:=[116,124,109,115]
theorem key_c (v:Int):key (cSmp v)=kc:=rfl
structure WOk (w:Win):Prop where
 up:Up sLt w.ser
 keys:∀p∈w.ser,p.1=kc∨p.1=kt
 c:∀s,getE kc w.ser=some s→∃n,0≤n∧s=.num n
 t:∀s,getE kt w.ser=some s→∃t,TOk t∧s=.tim t
theorem WOk.len {w:Win}(h:WOk w):w.ser.length≤2:=by
 have hn:=Up.nodup sLt_irr h.up;have key:∀l:List (Bs×Ser),(l.map (·.1)).Nodup→(∀p∈l,p.1=kc∨p.1=kt)→l.length≤2:=by
  intro l hn hk
  match l with
  | []=>simp
  | [a]=>simp
  | [a,b]=>simp
  | a ::b ::c ::r=>
   exfalso
   simp only[uG,uH,uA,not_or]at hn;have h1:=hk a (by simp);have h2:=hk b (by simp);have h3:=hk c (by simp);obtain⟨⟨n1,n2,_⟩,⟨n3,_⟩,_⟩:=hn;rcases h1 with e1|e1<;>rcases h2 with e2|e2<;>rcases h3 with e3|e3<;>rw[e1,e2]at n1<;>rw[e1,e3]at n2<;>rw[e2,e3]at n3<;>first|exact n1 rfl|exact n2 rfl|exact n3 rfl
 exact key _ hn h.keys
def was (w:Win)(m:Smp):Ser:=(getE (key m) w.ser).getD (ser0 m.kind)
theorem wtake_is {L:Lim}(hL:3≤L.series){w:Win}(h:WOk w){m:Smp}(hk:(stake L m (was w m)).2=true):wtake L w m=⟨w.rejects,w.drops,put sLt (key m) (stake L m (was w m)).1 w.ser⟩:=by
 unfold wtake was at *;have:=h.len;split
 ·rename_i s hs;rw[hs]at hk;simp only[Option.getD_some]at hk ⊢;rw[hs];simp[hk]
 ·rename_i hs;rw[hs]at hk;simp only[Option.getD_none]at hk;rw[if_neg (by omega),hs];simp[hk]
def L32 (sets:Nat):Lim:=⟨32,sets,64⟩
theorem stake_c (s:Nat)(v n:Int):stake (L32 s) (cSmp v) (.num n)=(.num (bnd (v+n)),true):=by
 have e:(v*1000).tdiv 1000=v:=Int.mul_tdiv_cancel _ (by decide);show (Ser.num (bnd (if ([99]:Bs)=[99] then (v*1000).tdiv 1000+n else _)),true)=_;rw[if_pos rfl,e]
theorem take_c {s:Nat}{w:Win}(h:WOk w){v n:Int}(hn:was w (cSmp v)=.num n):wtake (L32 s) w (cSmp v)=⟨w.rejects,w.drops,put sLt kc (.num (bnd (v+n))) w.ser⟩:=by
 have e:(stake (L32 s) (cSmp v) (was w (cSmp v)))=(.num (bnd (v+n)),true):=by rw[hn,stake_c]
 rw[wtake_is (L:=L32 s) (show 3≤32 by decide) h (by rw[e]),e,key_c]
theorem WOk.zero:WOk win0:=⟨List.Pairwise.nil,by simp[win0],by simp[win0,getE],by simp[win0,getE]⟩
end Go.Proofs.YtenegfafjjknoaaGreatDoor.Wm
namespace Go.Proofs.YtenegfafjjknoaaGreatDoor.Wi
open Go.RowKit Go.Maps Mem Foot Im Wm Hk Hb Hi Hn Plainw Cq Hs Sh Readw
theorem str_add (a b:ByteArray):Bytes.B (a++b)=Bytes.B a++Bytes.B b:=Bytes.B_append a b
set_option maxRecDepth 10000 in
theorem keyW (nb kb wb:ByteArray)(sg:Bool)(v r:Int)(lo:Nat)(ls:List Bs)(sa:Option Addr)(sl sc:Nat)(w:World)(hst:Tagw.Strs lo w (.slice sa sl sc) ls)(hl:ls.length≤4)(hz:(Lib.join ls [44]).length≤1000)(h1:nb.size≤1000)(h2:kb.size≤1000):
  Calls Tryz.prog 242 #[smp nb kb sg v wb r (.slice sa sl sc)] w fun e w'=>(∃z,e=.returned (.string z)∧Bytes.B z=Bytes.B nb++[124]++Bytes.B kb++Plain.pt ls)∧Below w.heap.size w w':=by
 unfold smp;have hN:=Sits.new w 80 #[.string nb,.string kb,.bool sg,.int .i64 v,.string wb,.int .i64 r,.slice sa sl sc];have hB:=below_new (w:=w) (.cells #[.string nb,.string kb,.bool sg,.int .i64 v,.string wb,.int .i64 r,.slice sa sl sc] 80);have hpt:(Plain.pt ls).length≤1002:=by
  unfold Plain.pt;split<;>simp<;>omega
 go_enter Tryz.func242,Tryz.ntmps242
 go_wp2_with fail
 generalize w.alloc (.cells #[.string nb,.string kb,.bool sg,.int .i64 v,.string wb,.int .i64 r,.slice sa sl sc] 80)=w1 at *;obtain⟨B,hBe⟩:∃B,w.heap.size=B:=⟨_,rfl⟩;rw[hBe]at hN;rw[hBe];have C:∀(j:Nat) u,#[Value.string nb,.string kb,.bool sg,.int .i64 v,.string wb,.int .i64 r,.slice sa sl sc][j]? = some u→∀s:Bw w1,s.val.cell? ⟨B,j,none⟩=some u:=fun j u hu s=>(hN.below s.is hN.lt).cell j _ hu
 have C0:=C 0 _ rfl;have C1:=C 1 _ rfl;have C2:=C 2 _ rfl;have C3:=C 3 _ rfl;have C4:=C 4 _ rfl;have C5:=C 5 _ rfl;have C6:=C 6 _ rfl;have HT:=hide (fun s:Bw w1=>call_cls (v:=.string ⟨(Plain.pt ls).toArray⟩) ((Plainv.plainTags nb kb wb sg v r lo ls (.slice sa sl sc) s.val ((hst.below hB).below s.is) (by omega) (by omega)).mono fun e w' ⟨⟨z,h1,h2,_⟩,h3⟩=>⟨by
  have:z=⟨(Plain.pt ls).toArray⟩:=Bytes.B_inj (by rw[h2];rfl);rw[h1,this],h3⟩))
 have HB:=hide hB;have hts:(⟨(Plain.pt ls).toArray⟩:ByteArray).size≤1002:=by rw[Bytes.size_B];exact hpt
 clear C hN hB hst;refine region_cls (by kernel_rfl) (by kernel_rfl) ?_;repeat (first
  | go_big_quiet_skip
  | (go_big_quiet_want;go_big_quiet_op;first|go_big_quiet_on|(apply Exists.intro;refine⟨fun _=>?_,?_⟩;exact HT.out _;go_big_quiet_on)))
 refine wpQuiet_nil ?_;rintro _ ⟨s,rfl⟩;go_wp2_with fail
 go_ret
 refine⟨⟨_,rfl,?_⟩,HB.out.trans (s.is.mono HB.out.size)⟩;rw[str_add,str_add,str_add];rfl
theorem SeAt.nodup {w:World}{L:Lim}{k:Bs}{g:Gh}{s:Ser}(h:SeAt w L k g s):(gf g s).Nodup:=by
 cases s with
 | num n=>simp[gf]
 | set ws=>
  have e1:g.X≠g.A:=sits_ne h.1 h.2.head (by decide);have e2:g.X≠g.b:=map_sits h.2.map h.1;have e3:g.A≠g.b:=map_sits h.2.map h.2.head;simp[gf,e1,e2,e3]
 | tim t=>
  have e1:g.X≠g.A:=sits_ne h.1 h.2.head (by decide);have e2:g.X≠g.S:=sits_ne h.1 h.2.sk.head (by decide);have e3:g.A≠g.S:=sits_ne h.2.head h.2.sk.head (by decide);have e4:g.X≠g.b:=map_sits h.2.sk.map h.1;have e5:g.A≠g.b:=map_sits h.2.sk.map h.2.head;have e6:g.S≠g.b:=map_sits h.2.sk.map h.2.sk.head;simp[gf,e1,e2,e3,e4,e5,e6]
/-! ### Windows -/
structure WI where
 P:Nat
 M:Nat
 R:Nat
 bs:List Nat
 c:Fin 6→Int
abbrev Ent:=Bs×(Gh×Ser)
def serOf (E:List Ent):List (Bs×Ser):=E.map fun p=>(p.1,p.2.2)
def ptrOf (E:List Ent):List (Bs×Nat):=E.map fun p=>(p.1,p.2.1.X)
def efoot (E:List Ent):List Nat:=E.flatMap fun p=>gf p.2.1 p.2.2
def wfoot (p:WI)(E:List Ent):List Nat:=(p.P ::shf p.M p.R p.bs)++efoot E
structure WiAt (w:World)(p:WI)(L:Lim)(rj dr:Nat)(E:List Ent):Prop where
 head:Sits w p.P 137 #[.int .i64 (p.c 0),.int .i64 (p.c 1),.int .i64 (p.c 2),.int .i64 (p.c 3),.int .i64 (p.c 4),.int .i64 (p.c 5),.pointer (some ⟨p.M,0,none⟩),.int .i64 (rj:Int),.int .i64 (dr:Int)]
 sh:ShAt w p.M p.R p.bs (ptrOf E)
 ser:∀x∈E,SeAt w L x.1 x.2.1 x.2.2
 apart:(wfoot p E).Nodup
 c1:p.c 1=L.series
 c2:p.c 2=L.sets
 c3:p.c 3=L.buckets
theorem map_ins {κ β γ:Type}{lt:κ→κ→Bool}(f:β→γ)(x:κ×β)(l:List (κ×β)):(ins lt x l).map (fun p=>(p.1,f p.2))=ins lt (x.1,f x.2) (l.map fun p=>(p.1,f p.2)):=by
 induction l with
 | nil=>rfl
 | cons y r ih=>
  rw[ins,uG,ins];by_cases h:lt x.1 y.1=true
  ·simp[h]
  ·simp only[h,Bool.false_eq_true,if_false,uG];rw[ih]
theorem map_del {κ β γ:Type}[DecidableEq κ](f:β→γ)(k:κ)(l:List (κ×β)):(del k l).map (fun p=>(p.1,f p.2))=del k (l.map fun p=>(p.1,f p.2)):=by
 unfold del;rw[List.filter_map];rfl
theorem map_put {κ β γ:Type}[DecidableEq κ]{lt:κ→κ→Bool}(f:β→γ)(k:κ)(b:β)(l:List (κ×β)):(put lt k b l).map (fun p=>(p.1,f p.2))=put lt k (f b) (l.map fun p=>(p.1,f p.2)):=by
 rw[put,put,map_ins,map_del]
theorem getE_map {κ β γ:Type}[DecidableEq κ](f:β→γ)(k:κ)(l:List (κ×β)):getE k (l.map fun p=>(p.1,f p.2))=(getE k l).map f:=by
 induction l with
 | nil=>rfl
 | cons y r ih=>
  rw[uG];by_cases h:y.1=k
  ·rw[getE_cons_eq (x:=(y.1,f y.2)) h,getE_cons_eq h];rfl
  ·rw[getE_cons_ne (x:=(y.1,f y.2)) h,getE_cons_ne h,ih]
theorem up_map {κ β γ:Type}{lt:κ→κ→Bool}(f:β→γ){l:List (κ×β)}:Up lt (l.map fun p=>(p.1,f p.2))↔Up lt l:=by
 unfold Up;rw[List.pairwise_map]
theorem gf_stake (L:Lim)(m:Opts.Smp)(g:Gh)(s:Ser):gf g (stake L m s).1=gf g s:=by
 cases s with
 | num n=>rfl
 | tim t=>rfl
 | set ws=>
  simp only[stake];split
  ·rfl
  ·split<;>rfl
theorem WiAt.off {F:List Nat}{w w':World}{p:WI}{L:Lim}{rj dr:Nat}{E:List Ent}(h:WiAt w p L rj dr E)(ho:Off F w w')(hF:∀x∈wfoot p E,x∉F):WiAt w' p L rj dr E:=
 ⟨Foot.Sits.off h.head ho (hF _ (by simp[wfoot])),h.sh.off ho (fun x hx=>hF x (by simp only[wfoot,uB,uA];exact Or.inl (Or.inr hx))),
  fun x hx=>(h.ser x hx).off ho (fun y hy=>hF y (by simp only[wfoot,uB,efoot,uF];exact Or.inr ⟨x,hx,hy⟩)),h.apart,h.c1,h.c2,h.c3⟩
theorem WiAt.keep {w w':World}{p:WI}{L:Lim}{rj dr:Nat}{E:List Ent}(h:WiAt w p L rj dr E)(hb:Below w.heap.size w w'):WiAt w' p L rj dr E:=
 h.off (F:=[]) (Off.of_below hb) (by simp)
theorem WiAt.lt {w:World}{p:WI}{L:Lim}{rj dr:Nat}{E:List Ent}(h:WiAt w p L rj dr E):∀x∈wfoot p E,x<w.heap.size:=by
 intro x hx;simp only[wfoot,uB,uA,efoot,uF]at hx;rcases hx with (rfl|hx)|⟨y,hy,hx⟩
 ·exact h.head.lt
 ·exact h.sh.lt x hx
 ·exact(h.ser y hy).lt x hx
theorem efoot_perm {E E':List Ent}(h:E.Perm E'):(efoot E).Perm (efoot E'):=h.flatMap_right _
theorem ptr_length (E:List Ent):(ptrOf E).length=E.length:=by simp[ptrOf]
theorem ser_length (E:List Ent):(serOf E).length=E.length:=by simp[serOf]
theorem up_ser {E:List Ent}:Up sLt (serOf E)↔Up sLt E:=up_map (f:=fun q:Gh×Ser=>q.2)
theorem up_ptr {E:List Ent}:Up sLt (ptrOf E)↔Up sLt E:=up_map (f:=fun q:Gh×Ser=>q.1.X)
theorem get_ser (k:Bs)(E:List Ent):getE k (serOf E)=(getE k E).map (·.2):=getE_map (fun q:Gh×Ser=>q.2) k E
theorem get_ptr (k:Bs)(E:List Ent):getE k (ptrOf E)=(getE k E).map (·.1.X):=getE_map (fun q:Gh×Ser=>q.1.X) k E
theorem put_ser (k:Bs)(q:Gh×Ser)(E:List Ent):serOf (put sLt k q E)=put sLt k q.2 (serOf E):=map_put (fun q:Gh×Ser=>q.2) k q E
theorem put_ptr (k:Bs)(q:Gh×Ser)(E:List Ent):ptrOf (put sLt k q E)=put sLt k q.1.X (ptrOf E):=map_put (fun q:Gh×Ser=>q.1.X) k q E
theorem ptr_same {k:Bs}{g:Gh}{s s':Ser}{E:List Ent}(hu:Up sLt E)(h:getE k E=some (g,s)):ptrOf (put sLt k (g,s') E)=ptrOf E:=by
 rw[put_ptr];refine up_ext sLt_trans sLt_irr ((up_ptr.2 hu).put sLt_trans sLt_total _ _) (up_ptr.2 hu) fun k'=>?_
 rw[getE_put];by_cases e:k'=k
 ·subst e;rw[if_pos rfl,get_ptr,h];rfl
 ·rw[if_neg e]
theorem WiAt.turned {w w':World}{p:WI}{L:Lim}{rj dr:Nat}{E:List Ent}{k:Bs}{g:Gh}{s s':Ser}(h:WiAt w p L rj dr E)(hu:Up sLt E)(hk:getE k E=some (g,s))(ho:Off (gf g s) w w')(hs:SeAt w' L k g s')(hg:gf g s'=gf g s):
  WiAt w' p L rj dr (put sLt k (g,s') E)∧Off (wfoot p E) w w'∧∀x,x∈wfoot p (put sLt k (g,s') E)↔x∈wfoot p E:=by
 obtain⟨r,p1,p2⟩:=put_perm_some (lt:=sLt) (b':=(g,s')) (Up.nodup sLt_irr hu) hk;have hp:(efoot (put sLt k (g,s') E)).Perm (efoot E):=by
  refine(efoot_perm p2).trans (List.Perm.trans ?_ (efoot_perm p1).symm);have e:efoot ((k,(g,s')) ::r)=efoot ((k,(g,s)) ::r):=by
   simp only[efoot,uI];rw[hg]
  rw[e]
 have hwp:(wfoot p (put sLt k (g,s') E)).Perm (wfoot p E):=hp.append_left _;have hnd:=h.apart;have hnd2:(wfoot p ((k,(g,s)) ::r)).Nodup:=((efoot_perm p1).append_left (p.P ::shf p.M p.R p.bs)).nodup_iff.1 hnd;rw[wfoot,uE]at hnd2;obtain⟨_,n2,n3⟩:=hnd2;simp only[efoot,uI]at n2 n3;rw[uE]at n2;obtain⟨_,_,n4⟩:=n2;have hA:∀x,x∈p.P ::shf p.M p.R p.bs→x∉gf g s:=fun x hx hx'=>n3 x hx x (uK _ hx') rfl
 refine⟨⟨Foot.Sits.off h.head ho (hA _ (uC ..)),?_,fun x hx=>?_,hwp.nodup_iff.2 hnd,h.c1,h.c2,h.c3⟩,ho.mono fun x _ hx=>?_,fun x=>hwp.mem_iff⟩
 ·rw[ptr_same hu hk];exact h.sh.off ho fun x hx=>hA x (uD _ hx)
 ·rcases mem_put hx with rfl|⟨hx,hne⟩
  ·exact hs
  ·have hxr:x∈r:=by
    rcases uA.1 (p1.mem_iff.1 hx) with e|e
    ·rw[e]at hne;exact absurd rfl hne
    ·exact e
   refine(h.ser x hx).off ho fun y hy hy'=>n4 y hy' y (uF.2 ⟨x,hxr,hy⟩) rfl
 ·simp only[wfoot,uB];exact Or.inr ((efoot_perm p1).mem_iff.2 (by simp only[efoot,uI,uB];exact Or.inl hx))
theorem WiAt.more {w w1 w':World}{p:WI}{L:Lim}{rj dr:Nat}{E:List Ent}{k:Bs}{g:Gh}{s:Ser}(h:WiAt w p L rj dr E)(hk:getE k E=none)(hb:Below w.heap.size w w1)(hs:SeAt w1 L k g s)(hg:∀x∈gf g s,w.heap.size≤x)(hgn:(gf g s).Nodup)
  (ho:Off (shf p.M p.R p.bs) w1 w') (hsh:ShAt w' p.M p.R p.bs (put sLt k g.X (ptrOf E))):
  WiAt w' p L rj dr (put sLt k (g,s) E)∧Off (wfoot p E) w w'∧∀x,x∈wfoot p (put sLt k (g,s) E)→x∈wfoot p E∨w.heap.size≤x:=by
 have p2:=put_perm_none (lt:=sLt) (b':=(g,s)) hk;have hwp:(wfoot p (put sLt k (g,s) E)).Perm ((p.P ::shf p.M p.R p.bs)++(gf g s++efoot E)):=by
  refine List.Perm.append_left _ ((efoot_perm p2).trans ?_);simp only[efoot,uI];exact List.Perm.refl _
 have hnd:=h.apart;have hlt:=h.lt;have hnew:∀x∈gf g s,x∉wfoot p E:=fun x hx hx'=>by
  have h1:=hg x hx;have h2:=hlt x hx';omega
 have hb1:=h.keep hb;rw[wfoot,uE]at hnd;obtain⟨n1,n2,n3⟩:=hnd;have hsub:∀x,x∈shf p.M p.R p.bs→x∈wfoot p E:=fun x hx=>by
  simp only[wfoot,uB,uA];exact Or.inl (Or.inr hx)
 refine⟨⟨Foot.Sits.off hb1.head ho ?_,by rw[put_ptr];exact hsh,fun x hx=>?_,?_,h.c1,h.c2,h.c3⟩,(Off.of_below hb).trans (ho.mono fun x _ hx=>hsub x hx),fun x hx=>?_⟩
 ·exact(uH.1 n1).1
 ·rcases mem_put hx with rfl|⟨hx,_⟩
  ·exact hs.off ho fun y hy hy'=>hnew y hy (hsub y hy')
  ·exact(hb1.ser x hx).off ho fun y hy hy'=>n3 y (uD _ hy') y (uF.2 ⟨x,hx,hy⟩) rfl
 ·rw[hwp.nodup_iff,uE];refine⟨n1,?_,fun a ha b hb'=>?_⟩
  ·rw[uE];refine⟨hgn,n2,fun a ha b hb' e=>hnew a ha ?_⟩;rw[e,wfoot];exact List.mem_append_right _ hb'
  ·rcases uB.1 hb' with hb'|hb'
   ·intro e;exact hnew b hb' (by rw[←e,wfoot];exact uK _ ha)
   ·exact n3 a ha b hb'
 ·rcases uB.1 (hwp.mem_iff.1 hx) with hx|hx
  ·exact Or.inl (by rw[wfoot];exact uK _ hx)
  ·rcases uB.1 hx with hx|hx
   ·exact Or.inr (hg x hx)
   ·exact Or.inl (by rw[wfoot];exact List.mem_append_right _ hx)
end Go.Proofs.YtenegfafjjknoaaGreatDoor.Wi
namespace Go.Proofs.YtenegfafjjknoaaGreatDoor.Wi
open Go.RowKit Go.Maps Mem Foot Im Wm Hk Hb Hi Hn Plainw Cq Hs Sh Readw
theorem cells9 {w:World}{b:Nat}{t:TypeId}{v0 v1 v2 v3 v4 v5 v6 v7 v8:Value}(h:Sits w b t #[v0,v1,v2,v3,v4,v5,v6,v7,v8]):
  w.cell? ⟨b,0,none⟩=some v0∧w.cell? ⟨b,1,none⟩=some v1∧w.cell? ⟨b,2,none⟩=some v2∧w.cell? ⟨b,3,none⟩=some v3∧w.cell? ⟨b,4,none⟩=some v4∧w.cell? ⟨b,5,none⟩=some v5∧w.cell? ⟨b,6,none⟩=some v6∧w.cell? ⟨b,7,none⟩=some v7∧w.cell? ⟨b,8,none⟩=some v8:=
 ⟨h.cell 0 _ rfl,h.cell 1 _ rfl,h.cell 2 _ rfl,h.cell 3 _ rfl,h.cell 4 _ rfl,h.cell 5 _ rfl,h.cell 6 _ rfl,h.cell 7 _ rfl,h.cell 8 _ rfl⟩
structure Held (w:World)(l:Bs)(m:Opts.Smp)(lo:Nat)(nb kb wb:ByteArray)(sa:Option Addr)(sl sc:Nat):Prop where
 rd:Opts.rd l=some m
 name:Bytes.B nb=m.name
 kind:Bytes.B kb=m.kind
 word:Bytes.B wb=m.word
 tags:Tagw.Strs lo w (.slice sa sl sc) m.tags
theorem Held.keep {w w':World}{l:Bs}{m:Opts.Smp}{lo:Nat}{nb kb wb:ByteArray}{sa:Option Addr}{sl sc:Nat}(h:Held w l m lo nb kb wb sa sl sc)(hb:Below w.heap.size w w'):Held w' l m lo nb kb wb sa sl sc:=
 ⟨h.rd,h.name,h.kind,h.word,h.tags.below hb⟩
theorem heldKey {w:World}{l:Bs}{m:Opts.Smp}{lo:Nat}{nb kb wb:ByteArray}{sa:Option Addr}{sl sc:Nat}(h:Held w l m lo nb kb wb sa sl sc):
  Calls Tryz.prog 242 #[smp nb kb m.signed m.value wb m.rate (.slice sa sl sc)] w fun e w'=>(∃z,e=.returned (.string z)∧Bytes.B z=key m∧z.size≤64)∧Below w.heap.size w w':=by
 obtain⟨h1,h2,_,_,_,h5,h6⟩:=Bounds.rd_short h.rd;have hj:=Bounds.join_len m.tags h6;refine(keyW nb kb wb m.signed m.value m.rate lo m.tags sa sl sc w h.tags h5 (by omega) (by rw[Bytes.size_B,h.name];omega) (by rw[Bytes.size_B,h.kind];omega)).mono ?_;rintro e w' ⟨⟨z,he,hz⟩,hb⟩;have e1:Bytes.B z=key m:=by rw[hz,h.name,h.kind];rfl
 exact⟨⟨z,he,e1,by rw[Bytes.size_B,e1];exact key_len h.rd⟩,hb⟩
def Found (w w':World)(e:Ending)(p:WI)(L:Lim)(rj dr:Nat)(E:List Ent)(m:Opts.Smp):Prop:=
 (∃g s,getE (key m) E=some (g,s)∧e=.returned (.tuple #[.pointer (some ⟨g.X,0,none⟩),.bool true])∧Below w.heap.size w w')∨
 (getE (key m) E=none∧L.series≤E.length∧e=.returned (.tuple #[.pointer none,.bool false])∧Below w.heap.size w w')∨
 (getE (key m) E=none∧E.length<L.series∧∃g:Gh,e=.returned (.tuple #[.pointer (some ⟨g.X,0,none⟩),.bool true])∧WiAt w' p L rj dr (put sLt (key m) (g,ser0 m.kind) E)∧Off (wfoot p E) w w'∧∀x,x∈wfoot p (put sLt (key m) (g,ser0 m.kind) E)→x∈wfoot p E∨w.heap.size≤x)
set_option maxRecDepth 10000 in
theorem seriesOf (p:WI)(L:Lim)(rj dr:Nat)(E:List Ent)(l:Bs)(m:Opts.Smp)(lo:Nat)(nb kb wb:ByteArray)(sa:Option Addr)(sl sc:Nat)(w:World)(h:WiAt w p L rj dr E)(hu:Up sLt E)(hE:E.length≤32)(hd:Held w l m lo nb kb wb sa sl sc):
  Calls Tryz.prog 187 #[.pointer (some ⟨p.P,0,none⟩),smp nb kb m.signed m.value wb m.rate (.slice sa sl sc)] w fun e w'=>Found w w' e p L rj dr E m:=by
 have HW:=hide h;have HU:=hide hu;have HD:=hide hd;clear h hu hd;have hN:=Sits.new w 80 #[.string nb,.string kb,.bool m.signed,.int .i64 m.value,.string wb,.int .i64 m.rate,.slice sa sl sc];have hB:=below_new (w:=w) (.cells #[.string nb,.string kb,.bool m.signed,.int .i64 m.value,.string wb,.int .i64 m.rate,.slice sa sl sc] 80);have hkc:=heldKey (HD.out.keep hB);obtain⟨k0,k1,k2,k3,k4,k5,k6⟩:=cells7 hN;have HB0:=hide hB;have HN0:=hide hN;clear hB hN;unfold smp at hkc ⊢;go_enter Tryz.func187,Tryz.ntmps187
 go_wp2_with fail
 refine hkc.mono ?_;clear hkc k0 k1 k2 k3 k4 k5 k6;rintro e w1 ⟨⟨z,rfl,hz,hzs⟩,hb1⟩;have HB1:=hide (HB0.out.trans (hb1.mono HB0.out.size));have HN1:=hide (HN0.out.below hb1 HN0.out.lt);have HW1:=hide (HW.out.keep HB1.out);clear HB0 HN0 hb1;obtain⟨c0,c1,c2,c3,c4,c5,c6,c7,c8⟩:=cells9 HW1.out.head;have hget:=Sh.get p.M p.R p.bs (ptrOf E) z (by omega) w1 HW1.out.sh;rw[hz]at hget;have HZ:=hide hz;clear hz c0 c1 c2 c3 c4 c5 c7 c8;obtain⟨B,hBe⟩:∃B,w.heap.size=B:=⟨_,rfl⟩;have HBE:=hide hBe;rw[hBe]at HN1;rw[hBe];clear hBe;cases hg:getE (key m) E with
 | some q=>
  obtain⟨g,s⟩:=q;have e1:Im.elemOf pv (.pointer none) (key m) (ptrOf E)=.pointer (some ⟨g.X,0,none⟩):=by
   unfold Im.elemOf;rw[get_ptr,hg];rfl
  have e2:Im.has (key m) (ptrOf E)=true:=by rw[has_getE,get_ptr,hg];rfl
  rw[e1,e2]at hget;have HG:=hide hg;clear hg e1 e2;go_wp2_with fail
  refine hget.mono ?_;clear hget;rintro e w2 ⟨rfl,hb2⟩;have HB2:=hide (HB1.out.trans (hb2.mono HB1.out.size));clear hb2;go_wp2_with fail
  go_ret2
  exact Or.inl ⟨g,s,HG.out,rfl,HB2.out⟩
 | none=>
  have e1:Im.elemOf pv (.pointer none) (key m) (ptrOf E)=.pointer none:=by
   unfold Im.elemOf;rw[get_ptr,hg];rfl
  have e2:Im.has (key m) (ptrOf E)=false:=by rw[has_getE,get_ptr,hg];rfl
  rw[e1,e2]at hget;have HG:=hide hg;clear hg e1 e2;go_wp2_with fail
  refine hget.mono ?_;clear hget;rintro e w2 ⟨rfl,hb2⟩;have HB2:=hide (HB1.out.trans (hb2.mono HB1.out.size));have HN2:=hide (HN1.out.below hb2 HN1.out.lt);have HW2:=hide (HW.out.keep HB2.out);clear hb2 c6;go_wp2_with fail
  have C6:∀s:Bw w2,s.val.cell? ⟨p.P,6,none⟩=some (.pointer (some ⟨p.M,0,none⟩)):=fun s=>(HW2.out.keep s.is).head.cell 6 _ rfl
  have C1:∀s:Bw w2,s.val.cell? ⟨p.P,1,none⟩=some (.int .i64 (p.c 1)):=fun s=>(HW2.out.keep s.is).head.cell 1 _ rfl
  have HLn:=hide (fun s:Bw w2=>call_cls (v:=.int .i64 (E.length:Int)) ((Sh.len p.M p.R p.bs (ptrOf E) s.val (HW2.out.keep s.is).sh).mono fun e w' ⟨h1,h2⟩=>⟨by rw[h1,ptr_length],by rw[h2];exact Below.refl _ _⟩));have hc1:=HW2.out.c1;refine region_cls (by kernel_rfl) (by kernel_rfl) ?_;repeat (first
   | go_big_quiet_skip
   | (go_big_quiet_want;go_big_quiet_op;first|go_big_quiet_on|(apply Exists.intro;refine⟨fun _=>?_,?_⟩;exact HLn.out _;go_big_quiet_on)))
  refine wpQuiet_nil ?_;rintro _ ⟨s,rfl⟩;have HB3:=hide (HB2.out.trans (s.is.mono HB2.out.size));have HN3:=hide (HN2.out.below s.is HN2.out.lt);have HW3:=hide (HW.out.keep HB3.out);clear C6 C1 HLn HB2 HN2 HW2;generalize s.val=w3 at *;by_cases hle:L.series≤E.length
  ·have hz1:(L.series:Int)≤(E.length:Int):=by omega
   go_wp2_with fail
   go_ret2
   exact Or.inr (Or.inl ⟨HG.out,hle,rfl,HB3.out⟩)
  ·have hz1:¬(L.series:Int)≤(E.length:Int):=by omega
   have hlt:E.length<L.series:=by omega
   go_wp2_with fail
   have D:∀(j:Nat) u,#[Value.int .i64 (p.c 0),.int .i64 (p.c 1),.int .i64 (p.c 2),.int .i64 (p.c 3),.int .i64 (p.c 4),.int .i64 (p.c 5)][j]? = some u→∀s:Bw w3,s.val.cell? ⟨p.P,j,none⟩=some u:=fun j u hu s=>(HW3.out.keep s.is).head.cell j _ (by
    match j,hu with
    | 0,hu=>exact hu
    | 1,hu=>exact hu
    | 2,hu=>exact hu
    | 3,hu=>exact hu
    | 4,hu=>exact hu
    | 5,hu=>exact hu
    | j+6,hu=>simp at hu)
   have D0:=D 0 _ rfl;have D1:=D 1 _ rfl;have D2:=D 2 _ rfl;have D3:=D 3 _ rfl;have D4:=D 4 _ rfl;have D5:=D 5 _ rfl;have DB:∀s:Bw w3,s.val.cell? ⟨B,1,none⟩=some (.string kb):=fun s=>(HN3.out.below s.is HN3.out.lt).cell 1 _ rfl
   clear D hc1;refine region_pre 6 (by kernel_rfl) (by kernel_rfl) ?_;simp only[List.take_succ_cons,List.take_zero,List.drop_succ_cons,List.drop_zero];repeat (first
    | go_big_quiet_skip
    | (go_big_quiet_want;go_big_quiet_op;go_big_quiet_on))
   refine wpQuiet_nil ?_;intro s4;have HB4:=hide (HB3.out.trans (s4.is.mono HB3.out.size));clear D0 D1 D2 D3 D4 D5 DB HB3 HN3 HW3;generalize s4.val=w4 at *;have HW4:=hide (HW.out.keep HB4.out);have hnew:=newSeries kb p.c L l m HD.out.rd HD.out.kind HW4.out.c2 HW4.out.c3 w4;unfold cfg at hnew;go_wp2_with fail
   refine hnew.mono ?_;clear hnew;rintro e w5 ⟨g,rfl,hse,hgf,hb5⟩;have HB5:=hide hb5;have HSE:=hide hse;have HGF:=hide hgf;have HW5:=hide (HW4.out.keep hb5);obtain⟨c0,c1,c2,c3,c4,c5,c6,c7,c8⟩:=cells9 HW5.out.head;have hput:=Sh.put_ p.M p.R p.bs (ptrOf E) z g.X (by omega) w5 HW5.out.sh (up_ptr.2 HU.out) (by rw[HZ.out,get_ptr,HG.out];rfl) (by rw[ptr_length];omega);rw[HZ.out]at hput;clear hse hgf hb5 c0 c1 c2 c3 c4 c5 c7 c8;go_wp2_with fail
   refine hput.mono ?_;clear hput;rintro e w6 ⟨rfl,ho6,hs6⟩;have hmore:=WiAt.more (HW4.out) HG.out HB5.out HSE.out HGF.out (Wi.SeAt.nodup HSE.out) ho6 hs6;have HM:=hide hmore;clear hmore ho6 hs6 c6;go_wp2_with fail
   go_ret2
   obtain⟨m1,m2,m3⟩:=HM.out;refine Or.inr (Or.inr ⟨HG.out,hlt,g,rfl,m1,(Off.of_below HB4.out).trans m2,fun x hx=>?_⟩);have:=HB4.out.size;exact(m3 x hx).imp id (fun h=>by omega)
end Go.Proofs.YtenegfafjjknoaaGreatDoor.Wi
namespace Go.Proofs.YtenegfafjjknoaaGreatDoor.Wi
open Go.RowKit Go.Maps Mem Foot Im Wm Hk Hb Hi Hn Plainw Cq Hs Sh Readw
def winOf (rj dr:Nat)(E:List Ent):Win:=⟨rj,dr,serOf E⟩
def Took (w w':World)(p:WI)(L:Lim)(rj dr:Nat)(E:List Ent)(l:Bs):Prop:=
 ∃rj' dr' E',WiAt w' p L rj' dr' E'∧winOf rj' dr' E'=wline L (winOf rj dr E) l∧Off (wfoot p E) w w'∧∀x,x∈wfoot p E'→x∈wfoot p E∨w.heap.size≤x
theorem WiAt.set {w:World}{p:WI}{L:Lim}{rj dr:Nat}{E:List Ent}(h:WiAt w p L rj dr E)(j:Nat)(v:Value){rj' dr':Nat}(hh:(#[Value.int .i64 (p.c 0),.int .i64 (p.c 1),.int .i64 (p.c 2),.int .i64 (p.c 3),.int .i64 (p.c 4),.int .i64 (p.c 5),.pointer (some ⟨p.M,0,none⟩),.int .i64 (rj:Int),.int .i64 (dr:Int)]:Array Value).setIfInBounds j v=#[.int .i64 (p.c 0),.int .i64 (p.c 1),.int .i64 (p.c 2),.int .i64 (p.c 3),.int .i64 (p.c 4),.int .i64 (p.c 5),.pointer (some ⟨p.M,0,none⟩),.int .i64 (rj':Int),.int .i64 (dr':Int)]):
  WiAt (w.setCell ⟨p.P,j,none⟩ v) p L rj' dr' E∧Off (wfoot p E) w (w.setCell ⟨p.P,j,none⟩ v):=by
 have ho:Off [p.P] w (w.setCell ⟨p.P,j,none⟩ v):=(Off.refl _ _).set (by simp) _ _;have hnd:=h.apart;rw[wfoot,uE]at hnd;obtain⟨n1,_,n3⟩:=hnd;refine⟨⟨by rw[←hh];exact h.head.set j v,h.sh.off ho fun x hx hx'=>?_,fun x hx=>(h.ser x hx).off ho fun y hy hy'=>?_,h.apart,h.c1,h.c2,h.c3⟩,ho.mono fun x _ hx=>?_⟩
 ·rw[uL]at hx';subst hx';exact(uH.1 n1).1 hx
 ·rw[uL]at hy';subst hy';exact n3 p.P (uC ..) p.P (uF.2 ⟨x,hx,hy⟩) rfl
 ·rw[uL]at hx;subst hx;simp[wfoot]
theorem Took.ahead {w w1 w':World}{p:WI}{L:Lim}{rj dr:Nat}{E:List Ent}{l:Bs}(hb:Below w.heap.size w w1)(h:Took w1 w' p L rj dr E l):Took w w' p L rj dr E l:=by
 obtain⟨rj',dr',E',h1,h2,h3,h4⟩:=h;refine⟨rj',dr',E',h1,h2,(Off.of_below hb).trans h3,fun x hx=>(h4 x hx).imp id fun h=>?_⟩;have:=hb.size;omega
theorem took_reject {w:World}{p:WI}{L:Lim}{rj dr:Nat}{E:List Ent}{l:Bs}(h:WiAt w p L rj dr E)(hl:l≠[])(hr:Opts.rd l=none):Took w (w.setCell ⟨p.P,7,none⟩ (.int .i64 ((rj:Int)+1))) p L rj dr E l:=by
 obtain⟨h1,h2⟩:=h.set 7 (.int .i64 ((rj:Int)+1)) (rj':=rj+1) (dr':=dr) rfl;refine⟨rj+1,dr,E,h1,?_,h2,fun x hx=>Or.inl hx⟩;rw[wline,if_neg hl,hr];rfl
theorem wtake_some {L:Lim}{rj dr:Nat}{E:List Ent}{m:Opts.Smp}{g:Gh}{s:Ser}(hk:getE (key m) E=some (g,s)):wtake L (winOf rj dr E) m=⟨rj,if (stake L m s).2 then dr else dr+1,put sLt (key m) (stake L m s).1 (serOf E)⟩:=by
 unfold wtake winOf;simp only;rw[get_ser,hk];rfl
theorem wtake_full {L:Lim}{rj dr:Nat}{E:List Ent}{m:Opts.Smp}(hk:getE (key m) E=none)(hl:L.series≤E.length):wtake L (winOf rj dr E) m=⟨rj,dr+1,serOf E⟩:=by
 unfold wtake winOf;simp only;rw[get_ser,hk];simp only[Option.map_none];rw[if_pos (by rw[ser_length];exact hl)]
theorem put_put {κ β:Type}[DecidableEq κ]{lt:κ→κ→Bool}(htr:∀a b c,lt a b=true→lt b c=true→lt a c=true)(hto:∀a b,a≠b→lt a b=false→lt b a=true)(hir:∀a,lt a a=false){l:List (κ×β)}(hu:Up lt l)(k:κ)(a b:β):put lt k b (put lt k a l)=put lt k b l:=by
 refine up_ext htr hir ((hu.put htr hto _ _).put htr hto _ _) (hu.put htr hto _ _) fun k'=>?_
 rw[getE_put,getE_put,getE_put];by_cases e:k'=k<;>simp[e]
theorem wtake_new {L:Lim}{rj dr:Nat}{E:List Ent}{m:Opts.Smp}{g:Gh}(hu:Up sLt E)(hk:getE (key m) E=none)(hl:E.length<L.series):wtake L (winOf rj dr E) m=⟨rj,if (stake L m (ser0 m.kind)).2 then dr else dr+1,put sLt (key m) (stake L m (ser0 m.kind)).1 (serOf (put sLt (key m) (g,ser0 m.kind) E))⟩:=by
 rw[put_ser,put_put sLt_trans sLt_total sLt_irr (up_ser.2 hu)];unfold wtake winOf;simp only;rw[get_ser,hk];simp only[Option.map_none];rw[if_neg (by rw[ser_length];omega)]
end Go.Proofs.YtenegfafjjknoaaGreatDoor.Wi
namespace Go.Proofs.YtenegfafjjknoaaGreatDoor.Wi
open Go.RowKit Go.Maps Mem Foot Im Wm Hk Hb Hi Hn Plainw Cq Hs Sh Readw
structure LOk (L:Lim):Prop where
 s:L.series≤32
 t:L.sets≤16
 b0:2≤L.buckets
 b1:L.buckets≤64
theorem took_yes {w w':World}{p:WI}{L:Lim}{rj dr:Nat}{E E':List Ent}{l:Bs}{m:Opts.Smp}(hl:l≠[])(hr:Opts.rd l=some m)(h:WiAt w' p L rj dr E')(he:wtake L (winOf rj dr E) m=⟨rj,dr,serOf E'⟩)(ho:Off (wfoot p E) w w')(hx:∀x,x∈wfoot p E'→x∈wfoot p E∨w.heap.size≤x):Took w w' p L rj dr E l:=by
 refine⟨rj,dr,E',h,?_,ho,hx⟩;rw[wline,if_neg hl,hr];exact he.symm
theorem took_no {w w':World}{p:WI}{L:Lim}{rj dr:Nat}{E E':List Ent}{l:Bs}{m:Opts.Smp}(hl:l≠[])(hr:Opts.rd l=some m)(h:WiAt w' p L rj dr E')(he:wtake L (winOf rj dr E) m=⟨rj,dr+1,serOf E'⟩)(ho:Off (wfoot p E) w w')(hx:∀x,x∈wfoot p E'→x∈wfoot p E∨w.heap.size≤x):Took w (w'.setCell ⟨p.P,8,none⟩ (.int .i64 ((dr:Int)+1))) p L rj dr E l:=by
 obtain⟨h1,_⟩:=h.set 8 (.int .i64 ((dr:Int)+1)) (rj':=rj) (dr':=dr+1) rfl;refine⟨rj,dr+1,E',h1,?_,ho.set (by simp[wfoot]) _ _,hx⟩;rw[wline,if_neg hl,hr];exact he.symm
theorem take_in {w w':World}{p:WI}{L:Lim}{rj dr:Nat}{E:List Ent}{m:Opts.Smp}{g:Gh}{s:Ser}(h:WiAt w p L rj dr E)(hu:Up sLt E)(hk:getE (key m) E=some (g,s))(ho:Off (gf g s) w w')(hs:SeAt w' L (key m) g (stake L m s).1):
  WiAt w' p L rj dr (put sLt (key m) (g,(stake L m s).1) E)∧serOf (put sLt (key m) (g,(stake L m s).1) E)=put sLt (key m) (stake L m s).1 (serOf E)∧Off (wfoot p E) w w'∧∀x,x∈wfoot p (put sLt (key m) (g,(stake L m s).1) E)↔x∈wfoot p E:=by
 obtain⟨h1,h2,h3⟩:=h.turned hu hk ho hs (gf_stake L m g s);exact⟨h1,put_ser _ _ _,h2,h3⟩
theorem sfit_of {L:Lim}{n rj dr:Nat}{E:List Ent}{k:Bs}{g:Gh}{s:Ser}(h:WFit L n (winOf rj dr E))(hk:getE k E=some (g,s)):SFit L n k s:=
 h.ser (k,s) (uJ.2 ⟨(k,(g,s)),getE_mem hk,rfl⟩)
set_option maxRecDepth 10000 in
theorem takeLine (p:WI)(L:Lim)(n rj dr:Nat)(E:List Ent)(s:ByteArray)(w:World)(h:WiAt w p L rj dr E)(hf:WFit L n (winOf rj dr E))(hn:n≤1000000000000)(hL:LOk L)(hs:s.size≤140737488355328)(hne:Bytes.B s≠[]):
  Calls Tryz.prog 142 #[.pointer (some ⟨p.P,0,none⟩),.string s] w fun e w'=>e=.returned (.tuple #[])∧Took w w' p L rj dr E (Bytes.B s):=by
 have HW:=hide h;have HF:=hide hf;have HNE:=hide hne;have hcnt:rj+dr≤n:=hf.cnt;clear h hf hne;go_enter Tryz.func142,Tryz.ntmps142
 go_wp2_with fail
 refine(read s hs w).mono ?_;rintro e w1 ⟨hb1,⟨hr,rfl⟩|⟨m,nb,kb,wb,tv,hr,hnm,hk,hw,hst,rfl⟩⟩
 ·have HR:=hide hr;have HB1:=hide (hb1.trans ((below_new (w:=w1) (.cells zeros 80)).mono hb1.size));have HW1:=hide (HW.out.keep HB1.out);unfold zeros at HB1 HW1;obtain⟨c0,c1,c2,c3,c4,c5,c6,c7,c8⟩:=cells9 HW1.out.head;have f7:=HW1.out.head.frozen 7;clear hb1 hr c0 c1 c2 c3 c4 c5 c6 c8;unfold nothing;go_wp2_with fail
  refine bodyPost_ret (results_none rfl _ _ _) rfl ?_;exact⟨rfl,(took_reject HW1.out HNE.out HR.out).ahead HB1.out⟩
 ·obtain⟨sa,sl,sc,rfl⟩:=hst.shape;have HD1:=hide (show Held w1 (Bytes.B s) m w.heap.size nb kb wb sa sl sc from⟨hr,hnm,hk,hw,hst⟩);have HB2:=hide (hb1.trans ((below_new (w:=w1) (.cells #[.string nb,.string kb,.bool m.signed,.int .i64 m.value,.string wb,.int .i64 m.rate,.slice sa sl sc] 80)).mono hb1.size));have HN2:=hide (Sits.new w1 80 #[.string nb,.string kb,.bool m.signed,.int .i64 m.value,.string wb,.int .i64 m.rate,.slice sa sl sc]);have HD2:=hide (HD1.out.keep (below_new (.cells #[.string nb,.string kb,.bool m.signed,.int .i64 m.value,.string wb,.int .i64 m.rate,.slice sa sl sc] 80)));have HW2:=hide (HW.out.keep HB2.out);have HU:=hide (up_ser.1 HF.out.up);have hE:E.length≤32:=by
   have h1:=HF.out.len;have h2:(winOf rj dr E).ser.length=E.length:=ser_length E;have h3:=hL.s;omega
  have HB1:=hide hb1;clear hb1 hr hnm hk hw hst HD1;unfold smp;go_wp2_with fail
  have hso:=seriesOf p L rj dr E (Bytes.B s) m w.heap.size nb kb wb sa sl sc _ HW2.out HU.out hE HD2.out;unfold smp at hso;generalize w1.alloc (.cells #[.string nb,.string kb,.bool m.signed,.int .i64 m.value,.string wb,.int .i64 m.rate,.slice sa sl sc] 80)=w2 at *;refine hso.mono ?_;clear hso;rintro e w3 (⟨g,sr,hk,rfl,hb3⟩|⟨hk,hfull,rfl,hb3⟩|⟨hk,hlt,g,rfl,hw3,ho3,hf3⟩)
  ·have HK:=hide hk;have HB3:=hide (HB2.out.trans (hb3.mono HB2.out.size));have HW3:=hide (HW.out.keep HB3.out);have HN3:=hide (HN2.out.below hb3 HN2.out.lt);have htk:=seTake L n (key m) (Bytes.B s) g sr m nb kb wb sa sl sc w3 (HW3.out.ser _ (getE_mem hk)) (sfit_of HF.out hk) HD2.out.rd (kindOf_key HD2.out.rd) HD2.out.kind HD2.out.word (by omega) hL.b0 hL.b1 (by have:=hL.t;omega);unfold smp at htk;obtain⟨k0,k1,k2,k3,k4,k5,k6⟩:=cells7 HN3.out;clear hk hb3;go_wp2_with fail
   refine htk.mono ?_;clear htk k0 k1 k2 k3 k4 k5 k6;rintro e w4 ⟨rfl,ho4,hs4⟩;have HT:=hide (take_in HW3.out HU.out HK.out ho4 hs4);clear ho4 hs4;obtain⟨c0,c1,c2,c3,c4,c5,c6,c7,c8⟩:=cells9 HT.out.1.head;have f8:=HT.out.1.head.frozen 8;have HE:=hide (wtake_some (L:=L) (rj:=rj) (dr:=dr) HK.out);clear c0 c1 c2 c3 c4 c5 c6 c7;cases hb:(stake L m sr).2 with
   | true=>
    rw[hb]at HE;clear hb;go_wp2_with fail
    go_end0
    obtain⟨t1,t2,t3,t4⟩:=HT.out;exact⟨rfl,took_yes HNE.out HD2.out.rd t1 (by rw[HE.out,t2];rfl) ((Off.of_below HB3.out).trans t3) fun x hx=>Or.inl ((t4 x).1 hx)⟩
   | false=>
    rw[hb]at HE;clear hb;go_wp2_with fail
    go_end0
    obtain⟨t1,t2,t3,t4⟩:=HT.out;exact⟨rfl,took_no HNE.out HD2.out.rd t1 (by rw[HE.out,t2];rfl) ((Off.of_below HB3.out).trans t3) fun x hx=>Or.inl ((t4 x).1 hx)⟩
  ·have HB3:=hide (HB2.out.trans (hb3.mono HB2.out.size));have HW3:=hide (HW.out.keep HB3.out);have HE:=hide (wtake_full (rj:=rj) (dr:=dr) hk hfull);obtain⟨c0,c1,c2,c3,c4,c5,c6,c7,c8⟩:=cells9 HW3.out.head;have f8:=HW3.out.head.frozen 8;clear hk hfull hb3 c0 c1 c2 c3 c4 c5 c6 c7;go_wp2_with fail
   go_end0
   exact⟨rfl,took_no HNE.out HD2.out.rd HW3.out HE.out (Off.of_below HB3.out) fun x hx=>Or.inl hx⟩
  ·have HK:=hide hk;have HW3:=hide hw3;have HO3:=hide ((Off.of_below HB2.out).trans ho3);have HF3:=hide hf3;have hNn:w1.heap.size∉wfoot p E:=fun hx=>by
    have h1:=HW.out.lt _ hx;have h2:=HB1.out.size;omega
   have HN3:=hide (Foot.Sits.off HN2.out ho3 hNn);have hg3:getE (key m) (put sLt (key m) (g,ser0 m.kind) E)=some (g,ser0 m.kind):=by rw[getE_put,if_pos rfl]
   have HG3:=hide hg3;have HU3:=hide (HU.out.put sLt_trans sLt_total (key m) (g,ser0 m.kind));have htk:=seTake L n (key m) (Bytes.B s) g (ser0 m.kind) m nb kb wb sa sl sc w3 (HW3.out.ser _ (getE_mem hg3)) (SFit.zero HD2.out.rd) HD2.out.rd (kindOf_key HD2.out.rd) HD2.out.kind HD2.out.word (by omega) hL.b0 hL.b1 (by have:=hL.t;omega);unfold smp at htk;obtain⟨k0,k1,k2,k3,k4,k5,k6⟩:=cells7 HN3.out;have HE:=hide (wtake_new (L:=L) (rj:=rj) (dr:=dr) (g:=g) HU.out hk hlt);clear hk hw3 ho3 hf3 hg3 hlt hNn;go_wp2_with fail
   refine htk.mono ?_;clear htk k0 k1 k2 k3 k4 k5 k6;rintro e w4 ⟨rfl,ho4,hs4⟩;have HT:=hide (take_in HW3.out HU3.out HG3.out ho4 hs4);clear ho4 hs4;obtain⟨c0,c1,c2,c3,c4,c5,c6,c7,c8⟩:=cells9 HT.out.1.head;have f8:=HT.out.1.head.frozen 8;have HX:=hide (show (Off (wfoot p E) w w4)∧∀x,x∈wfoot p (put sLt (key m) (g,(stake L m (ser0 m.kind)).1) (put sLt (key m) (g,ser0 m.kind) E))→x∈wfoot p E∨w.heap.size≤x from by
    obtain⟨_,_,t3,t4⟩:=HT.out;have hsz2:=HB2.out.size;refine⟨⟨t3.os.trans HO3.out.os,t3.tape.trans HO3.out.tape,t3.output.trans HO3.out.output,Nat.le_trans HO3.out.size t3.size,fun x hx hxn=>?_⟩,fun x hx=>(HF3.out x ((t4 x).1 hx)).imp id fun h=>by omega⟩;refine(t3.block x (Nat.lt_of_lt_of_le hx HO3.out.size) fun hx'=>?_).trans (HO3.out.block x hx hxn);rcases HF3.out x hx' with h|h
    ·exact hxn h
    ·omega)
   clear c0 c1 c2 c3 c4 c5 c6 c7;cases hb:(stake L m (ser0 m.kind)).2 with
   | true=>
    rw[hb]at HE;clear hb;go_wp2_with fail
    go_end0
    obtain⟨t1,t2,t3,t4⟩:=HT.out;exact⟨rfl,took_yes HNE.out HD2.out.rd t1 (by rw[HE.out,t2];rfl) HX.out.1 HX.out.2⟩
   | false=>
    rw[hb]at HE;clear hb;go_wp2_with fail
    go_end0
    obtain⟨t1,t2,t3,t4⟩:=HT.out;exact⟨rfl,took_no HNE.out HD2.out.rd t1 (by rw[HE.out,t2];rfl) HX.out.1 HX.out.2⟩
end Go.Proofs.YtenegfafjjknoaaGreatDoor.Wi
