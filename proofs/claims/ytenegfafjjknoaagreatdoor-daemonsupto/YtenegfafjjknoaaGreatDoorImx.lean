/- Maps in memory, by the list of their entries. Texts as a map's keys: their order. The boundaries of the document's buckets, as plain numbers: they rise, a value lies in one bucket only, and what a bucket stands for is near to what is in it. No Go in sight. Windows, with no Go in sight: what lines come to, and the text that tells it. What is read is short. No Go in sight. Windows: what holds of them throughout. -/
import Derived.Maps.OwnSet
import Derived.Maps.Views
import Derived.Test.YtenegfafjjknoaaGreatDoorSply
open List renaming mem_cons_of_mem → uA, mem_cons_self → uB, pairwise_cons → uC, filter_cons_of_neg → uD, filter_cons_of_pos → uE, filter_eq_self → uF, length_append → uG
namespace Go.Proofs.YtenegfafjjknoaaGreatDoor.Im
open Go
def exE (ok:Value→Bool)(v:Value):Option (DataW Value×List MemPlace):=if ok v=true then some (.held v,[]) else none
theorem exE_mk {ok:Value→Bool}{v:Value}(h:ok v=true):exE ok v=some (.held v,[]):=by simp[exE,h]
theorem exE_inv {ok:Value→Bool}{v:Value}{z:DataW Value×List MemPlace}(h:exE ok v=some z):ok v=true∧z=(.held v,[]):=by
 unfold exE at h;split at h
 ·rename_i h1;injection h with h;exact⟨h1,h.symm⟩
 ·cases h
section
variable {κ β : Type} {lit : κ → Lit} {lt : κ → κ → Bool} {f : β → Value}
def mp (lit:κ→Lit)(f:β→Value)(l:List (κ×β)):DataW Value:=.map (l.map fun p=>(lit p.1,.held (f p.2)))
def ins (lt:κ→κ→Bool)(x:κ×β):List (κ×β)→List (κ×β)
 | []=>[x]
 | y ::r=>if lt x.1 y.1 then x ::y ::r else y ::ins lt x r
theorem mp_size (l:List (κ×β)):Maps.size (mp lit f l)=l.length:=by
 show (l.map fun p=>(lit p.1,DataW.held (f p.2))).length=_;simp
theorem mp_ins (hb:∀a b,(lit a).before (lit b)=lt a b)(x:κ×β)(l:List (κ×β)):DataW.insert (lit x.1,DataW.held (f x.2)) (l.map fun p=>(lit p.1,DataW.held (f p.2)))=(ins lt x l).map fun p=>(lit p.1,DataW.held (f p.2)):=by
 induction l with
 | nil=>rfl
 | cons y r ih=>
  rw[List.map_cons,DataW.insert,ins];by_cases h:lt x.1 y.1=true
  ·simp[hb,h]
  ·simp[hb,h,ih]
theorem mem_ins (x:κ×β)(l:List (κ×β))(y:κ×β):y∈ins lt x l↔y=x∨y∈l:=by
 induction l with
 | nil=>simp[ins]
 | cons p r ih=>
  rw[ins];by_cases h:lt x.1 p.1=true
  ·simp[h]
  ·simp only[h,Bool.false_eq_true,if_false,List.mem_cons,ih];constructor
   ·rintro(h|h|h)
    ·exact Or.inr (Or.inl h)
    ·exact Or.inl h
    ·exact Or.inr (Or.inr h)
   ·rintro(h|h|h)
    ·exact Or.inr (Or.inl h)
    ·exact Or.inl h
    ·exact Or.inr (Or.inr h)
theorem ins_length (x:κ×β)(l:List (κ×β)):(ins lt x l).length=l.length+1:=by
 induction l with
 | nil=>rfl
 | cons p r ih=>
  rw[ins];by_cases h:lt x.1 p.1=true
  ·simp[h]
  ·simp[h,ih]
theorem ins_perm (x:κ×β)(l:List (κ×β)):(ins lt x l).Perm (x ::l):=by
 induction l with
 | nil=>exact List.Perm.refl _
 | cons p r ih=>
  rw[ins];by_cases h:lt x.1 p.1=true
  ·simp[h]
  ·simp only[h,Bool.false_eq_true,if_false];exact(List.Perm.cons p ih).trans (List.Perm.swap x p r)
def Up (lt:κ→κ→Bool)(l:List (κ×β)):Prop:=l.Pairwise fun p q=>lt p.1 q.1=true
theorem Up.ins (htr:∀a b c,lt a b=true→lt b c=true→lt a c=true)(hto:∀a b,a≠b→lt a b=false→lt b a=true){l:List (κ×β)}(h:Up lt l)(x:κ×β)(hx:∀p∈l,p.1≠x.1):Up lt (ins lt x l):=by
 induction l with
 | nil=>exact List.pairwise_singleton _ _
 | cons p r ih=>
  obtain⟨h1,h2⟩:=uC.1 h;rw[Im.ins];by_cases hl:lt x.1 p.1=true
  ·simp only[hl,if_true];refine uC.2 ⟨fun q hq=>?_,h⟩;rcases List.mem_cons.1 hq with rfl|hq
   ·exact hl
   ·exact htr _ _ _ hl (h1 q hq)
  ·simp only[hl,Bool.false_eq_true,if_false];refine uC.2 ⟨fun q hq=>?_,ih h2 fun q hq=>hx q (uA _ hq)⟩;rcases (mem_ins x r q).1 hq with rfl|hq
   ·exact hto _ _ (fun e=>hx p (uB ..) e.symm) (by simpa using hl)
   ·exact h1 q hq
theorem Up.nodup (hir:∀a,lt a a=false){l:List (κ×β)}(h:Up lt l):(l.map (·.1)).Nodup:=by
 rw[List.nodup_iff_pairwise_ne,List.pairwise_map];refine h.imp fun {p q} hpq e=>?_
 rw[e,hir]at hpq;cases hpq
end
section
variable {κ β : Type} [DecidableEq κ] {lit : κ → Lit} {lt : κ → κ → Bool} {f : β → Value}
def del (k:κ)(l:List (κ×β)):List (κ×β):=l.filter fun p=>!decide (p.1=k)
def put (lt:κ→κ→Bool)(k:κ)(b:β)(l:List (κ×β)):List (κ×β):=ins lt (k,b) (del k l)
def getE (k:κ)(l:List (κ×β)):Option β:=(l.find? fun p=>decide (p.1=k)).map (·.2)
def has (k:κ)(l:List (κ×β)):Bool:=l.any fun p=>decide (p.1=k)
theorem mp_has (hs:∀a b,(lit a).sameKey (lit b)=decide (a=b))(k:κ)(l:List (κ×β)):Maps.has (mp lit f l) (lit k)=has k l:=by
 show (l.map fun p=>(lit p.1,DataW.held (f p.2))).any (fun p=>p.1.sameKey (lit k))=_;rw[List.any_map];simp[has,hs,Function.comp_def]
theorem mp_at (hs:∀a b,(lit a).sameKey (lit b)=decide (a=b))(k:κ)(l:List (κ×β))(z:DataW Value):(mp lit f l).atKey (lit k) z=match getE k l with|some b=>.held (f b)|none=>z:=by
 simp only[mp,DataW.atKey];unfold getE
 induction l with
 | nil=>rfl
 | cons p r ih=>
  by_cases h:p.1=k
  ·simp[hs,h]
  ·simpa[hs,h] using ih
theorem mp_del (hs:∀a b,(lit a).sameKey (lit b)=decide (a=b))(k:κ)(l:List (κ×β)):(mp lit f l).del (lit k)=mp lit f (del k l):=by
 show DataW.map ((l.map fun p=>(lit p.1,DataW.held (f p.2))).filter fun p=>!p.1.sameKey (lit k))=_;unfold mp del;rw[List.filter_map]
 congr 2
 simp[hs,Function.comp_def]
theorem mp_put (hs:∀a b,(lit a).sameKey (lit b)=decide (a=b))(hb:∀a b,(lit a).before (lit b)=lt a b)(k:κ)(b:β)(l:List (κ×β)):(mp lit f l).put (lit k) (.held (f b))=mp lit f (put lt k b l):=by
 show DataW.map (DataW.insert (lit k,DataW.held (f b)) ((l.map fun p=>(lit p.1,DataW.held (f p.2))).filter fun p=>!p.1.sameKey (lit k)))=_;have e:((l.map fun p=>(lit p.1,DataW.held (f p.2))).filter fun p=>!p.1.sameKey (lit k))=(del k l).map fun p=>(lit p.1,DataW.held (f p.2)):=by
  unfold del;rw[List.filter_map]
  congr 1
  simp[hs,Function.comp_def]
 rw[e,mp_ins hb (k,b)];rfl
theorem has_getE (k:κ)(l:List (κ×β)):has k l=(getE k l).isSome:=by
 unfold has getE
 induction l with
 | nil=>rfl
 | cons p r ih=>
  by_cases h:p.1=k
  ·simp[h]
  ·simpa[h] using ih
theorem has_iff (k:κ)(l:List (κ×β)):has k l=true↔k∈l.map (·.1):=by
 unfold has;simp
theorem has_false (k:κ)(l:List (κ×β)):has k l=false↔k∉l.map (·.1):=by
 rw[←has_iff];simp
theorem del_of_not (k:κ)(l:List (κ×β))(h:has k l=false):del k l=l:=by
 unfold del;rw[uF];intro p hp;have:=(has_false k l).1 h;simp only[Bool.not_eq_true',decide_eq_false_iff_not];intro e;exact this (List.mem_map.2 ⟨p,hp,e⟩)
theorem Up.del {l:List (κ×β)}(h:Up lt l)(k:κ):Up lt (del k l):=h.filter _
theorem Up.put (htr:∀a b c,lt a b=true→lt b c=true→lt a c=true)(hto:∀a b,a≠b→lt a b=false→lt b a=true){l:List (κ×β)}(h:Up lt l)(k:κ)(b:β):Up lt (put lt k b l):=by
 refine Up.ins htr hto (h.del k) (k,b) fun p hp=>?_
 have:=(List.mem_filter.1 hp).2;simpa using this
end
theorem own_tight {P:Program}{k:TypeId}{R:Value→Option (DataW Value×List MemPlace)}{w:World}{b n:Nat}{D:DataW Value}(h:w.ownsMap P k R b n D):w.ownsMap P k R b (Maps.size D) D:=by
 obtain⟨es,clock,hb,F,_,rfl⟩:=h;exact⟨es,clock,hb,F,by simp[Maps.size,length_sorted],rfl⟩
def iLit (k:Int):Lit:=.int .i64 k
def iLt (a b:Int):Bool:=decide (a<b)
theorem iLit_same (a b:Int):(iLit a).sameKey (iLit b)=decide (a=b):=by simp[iLit,Lit.sameKey]
theorem iLit_before (a b:Int):(iLit a).before (iLit b)=iLt a b:=by simp[iLit,Lit.before,iLt]
theorem iLt_trans (a b c:Int)(h:iLt a b=true)(h':iLt b c=true):iLt a c=true:=by
 simp[iLt]at *
 omega
theorem iLt_total (a b:Int)(hne:a≠b)(h:iLt a b=false):iLt b a=true:=by
 simp[iLt]at *
 omega
theorem iLt_irr (a:Int):iLt a a=false:=by simp[iLt]
end Go.Proofs.YtenegfafjjknoaaGreatDoor.Im
namespace Go.Proofs.YtenegfafjjknoaaGreatDoor.Im
open Go
abbrev Bs:=List UInt8
theorem bb:∀a b:Bs,bytesBefore a b=decide (a<b)
 | [],[]=>by simp[bytesBefore]
 | [],b ::s=>by simp[bytesBefore]
 | a ::r,[]=>by simp[bytesBefore]
 | a ::r,b ::s=>by
  rw[bytesBefore,bb r s];by_cases h:a<b
  ·simp[h,List.cons_lt_cons_iff]
  ·by_cases h':a=b
   ·subst h';simp
   ·simp[h,h',List.cons_lt_cons_iff]
def sLit (k:Bs):Lit:=.string k
def sLt (a b:Bs):Bool:=decide (a<b)
theorem sLit_same (a b:Bs):(sLit a).sameKey (sLit b)=decide (a=b):=by
 simp only[sLit,Lit.sameKey];rw[Bool.eq_iff_iff];simp
theorem sLit_before (a b:Bs):(sLit a).before (sLit b)=sLt a b:=by simp[sLit,Lit.before,sLt,bb]
theorem sLt_trans (a b c:Bs)(h:sLt a b=true)(h':sLt b c=true):sLt a c=true:=by
 simp only[sLt,decide_eq_true_eq]at *;exact List.lt_trans h h'
theorem sLt_total (a b:Bs)(hne:a≠b)(h:sLt a b=false):sLt b a=true:=by
 simp only[sLt,decide_eq_true_eq,decide_eq_false_iff_not]at *;rcases List.le_total b a with h1|h1
 ·exact(List.le_iff_lt_or_eq.1 h1).resolve_right (fun e=>hne e.symm)
 ·exact absurd ((List.le_iff_lt_or_eq.1 h1).resolve_right hne) h
theorem sLt_irr (a:Bs):sLt a a=false:=by
 simp only[sLt,decide_eq_false_iff_not];exact List.lt_irrefl a
end Go.Proofs.YtenegfafjjknoaaGreatDoor.Im
namespace Go.Proofs.YtenegfafjjknoaaGreatDoor.Bnd
def nxt (b:Int):Int:=max (51*b / 49) (b+1)
def bnd:Nat→Int
 | 0=>0
 | n+1=>nxt (bnd n)
def stand (l h:Int):Int:=2*l*h / (l+h)
def IsB (v n s:Int):Prop:=
 ((v<0∨1000000000<v)∧n = -1∧s=0)∨
 (0≤v∧v≤1000000000∧∃k:Nat,n=(k:Int)∧bnd k≤v∧v<bnd (k+1)∧s=stand (bnd k) (bnd (k+1)))
theorem nxt_gt (b:Int):b+1≤nxt b:=by
 unfold nxt;omega
theorem bnd_step (k:Nat):bnd k+1≤bnd (k+1):=nxt_gt _
theorem bnd_ge (k:Nat):(k:Int)≤bnd k:=by
 induction k with
 | zero=>simp[bnd]
 | succ k ih=>
  have:=bnd_step k;omega
theorem bnd_nonneg (k:Nat):0≤bnd k:=by
 have:=bnd_ge k;omega
theorem bnd_mono {j k:Nat}(h:j≤k):bnd j≤bnd k:=by
 induction h with
 | refl=>exact Int.le_refl _
 | step _ ih=>
  rename_i m _;have:bnd m+1≤bnd m.succ:=bnd_step m;omega
theorem bnd_one {v:Int}{j k:Nat}(hj:bnd j≤v)(hj':v<bnd (j+1))(hk:bnd k≤v)(hk':v<bnd (k+1)):j=k:=by
 rcases Nat.lt_trichotomy j k with h|h|h
 ·have:=bnd_mono (j:=j+1) (k:=k) h;omega
 ·exact h
 ·have:=bnd_mono (j:=k+1) (k:=j) h;omega
theorem isB_one {v n s m t:Int}(h:IsB v n s)(g:IsB v m t):n=m∧s=t:=by
 rcases h with ⟨h1,rfl,rfl⟩|⟨h1,h2,k,rfl,h3,h4,rfl⟩<;>rcases g with ⟨g1,rfl,rfl⟩|⟨g1,g2,j,rfl,g3,g4,rfl⟩
 ·exact⟨rfl,rfl⟩
 ·omega
 ·omega
 ·have e:=bnd_one h3 h4 g3 g4;subst e;exact⟨rfl,rfl⟩
/-! ### What a bucket stands for -/
theorem stand_lo {l h:Int}(hl:0≤l)(hh:l<h):stand l h*(l+h)≤2*l*h:=
 Int.ediv_mul_le _ (by omega)
theorem stand_hi {l h:Int}(hl:0≤l)(hh:l<h):2*l*h<(stand l h+1)*(l+h):=by
 have:=Int.lt_ediv_add_one_mul_self (2*l*h) (b:=l+h) (by omega);exact this
theorem stand_nonneg {l h:Int}(hl:0≤l)(hh:l<h):0≤stand l h:=
 Int.ediv_nonneg (Int.mul_nonneg (by omega) (by omega)) (by omega)
theorem bnd_cases (k:Nat):bnd (k+1)=bnd k+1∨49*bnd (k+1)≤51*bnd k:=by
 show nxt (bnd k)=_∨49*nxt (bnd k)≤_;unfold nxt;omega
theorem near_wide {l h x q:Int}(hl:0≤l)(hx:l≤x)(hxh:x<h)(hr:49*h≤51*l)(h1:q*(l+h)≤2*l*h)(h2:2*l*h<(q+1)*(l+h)):
  50*(q - x)≤x+50∧50*(x - q)≤x+50:=by
 have hp:0<l+h:=by omega
 constructor
 ·-- 50 q≤51 l,since 100 l h≤51 l (l+h)
  have a:50*q≤51*l:=by
   refine Int.le_of_mul_le_mul_right (a:=l+h) ?_ hp;have b:0≤l*(51*l - 49*h):=Int.mul_nonneg hl (by omega);rw[Int.mul_sub]at b;have c1:50*q*(l+h)=50*(q*(l+h)):=Int.mul_assoc _ _ _;have c2:51*l*(l+h)=51*(l*l)+51*(l*h):=by
    rw[Int.mul_assoc,Int.mul_add];omega
   have c3:l*(51*l)=51*(l*l):=by
    rw[Int.mul_left_comm]
   have c4:l*(49*h)=49*(l*h):=by
    rw[Int.mul_left_comm]
   have c5:2*l*h=2*(l*h):=Int.mul_assoc _ _ _;omega
  omega
 ·-- 49 h≤50 (q+1),since 49 h (l+h)≤100 l h
  have a:49*h<50*(q+1):=by
   refine Int.lt_of_mul_lt_mul_right (a:=l+h) ?_ (by omega);have b:0≤h*(51*l - 49*h):=Int.mul_nonneg (by omega) (by omega);rw[Int.mul_sub]at b;have c1:50*(q+1)*(l+h)=50*((q+1)*(l+h)):=Int.mul_assoc _ _ _;have c2:49*h*(l+h)=49*(l*h)+49*(h*h):=by
    rw[Int.mul_assoc,Int.mul_add,Int.mul_comm h l];omega
   have c3:h*(51*l)=51*(l*h):=by
    rw[Int.mul_left_comm,Int.mul_comm h l]
   have c4:h*(49*h)=49*(h*h):=by
    rw[Int.mul_left_comm]
   have c5:2*l*h=2*(l*h):=Int.mul_assoc _ _ _;omega
  omega
theorem near_slim {l q:Int}(hl:0≤l)(h1:q*(l+(l+1))≤2*l*(l+1))(h2:2*l*(l+1)<(q+1)*(l+(l+1))):q=l:=by
 have hp:0<l+(l+1):=by omega
 have e:2*l*(l+1)=l*(l+(l+1))+l:=by
  have c1:2*l*(l+1)=2*(l*l)+2*l:=by
   rw[Int.mul_add,Int.mul_one,Int.mul_assoc]
  have c2:l*(l+(l+1))=l*l+(l*l+l):=by
   rw[Int.mul_add,Int.mul_add,Int.mul_one]
  omega
 have a:q<l+1:=by
  refine Int.lt_of_mul_lt_mul_right (a:=l+(l+1)) ?_ (by omega);rw[Int.add_mul];omega
 have b:l<q+1:=by
  refine Int.lt_of_mul_lt_mul_right (a:=l+(l+1)) ?_ (by omega);omega
 omega
theorem near {x n e:Int}(h:IsB x n e)(h0:0≤x)(hm:x≤1000000000):0≤n∧n≤x∧50*(e - x)≤x+50∧50*(x - e)≤x+50∧0≤e∧e≤2000000000:=by
 rcases h with ⟨h1,rfl,rfl⟩|⟨h1,h2,k,rfl,h3,h4,rfl⟩
 ·omega
 ·have g:=bnd_ge k;have hl:=bnd_nonneg k;have hs:=bnd_step k;have s1:=stand_lo hl (by omega:bnd k<bnd (k+1));have s2:=stand_hi hl (by omega:bnd k<bnd (k+1));have s0:=stand_nonneg hl (by omega:bnd k<bnd (k+1));rcases bnd_cases k with hc|hc
  ·rw[hc]at s1 s2 s0 h4 ⊢;have e:=near_slim hl s1 s2;omega
  ·have e:=near_wide hl h3 h4 hc s1 s2;omega
/-! ### Bounds for the walks -/
theorem stand_room {l h:Int}(hl:0≤l)(hl':l≤1000000000)(hh:0≤h)(hh':h≤2000000000):0≤2*l*h∧2*l*h≤4000000000000000000:=by
 constructor
 ·exact Int.mul_nonneg (by omega) hh
 ·have a:2*l*h≤2000000000*2000000000:=Int.mul_le_mul (by omega) hh' hh (by omega);omega
theorem nxt_room {b:Int}(h1:0≤b)(h2:b≤1000000000):nxt b≤2000000000:=by
 unfold nxt;omega
end Go.Proofs.YtenegfafjjknoaaGreatDoor.Bnd
namespace Go.Proofs.YtenegfafjjknoaaGreatDoor.Wm
open Im Opts
def top:Int:=1000000000000000
def bnd (n:Int):Int:=min (max n (-top)) top
structure Cel where
 stands:Int
 weight:Int
structure Tim where
 count:Int
 sum:Int
 least:Int
 greatest:Int
 cells:List (Int×Cel)
 folded:Bool
inductive Ser where
 | num (n:Int)
 | set (ws:List (Bs×Unit))
 | tim (t:Tim)
open Classical in
noncomputable def bk (v:Int):Int×Int:=if h:∃p:Int×Int,Bnd.IsB v p.1 p.2 then Classical.choose h else (-1,0)
theorem bk_of {v n s:Int}(h:Bnd.IsB v n s):bk v=(n,s):=by
 have hx:∃p:Int×Int,Bnd.IsB v p.1 p.2:=⟨(n,s),h⟩;unfold bk;rw[dif_pos hx];obtain⟨h1,h2⟩:=Bnd.isB_one (Classical.choose_spec hx) h;exact Prod.ext h1 h2
def fold:List (Int×Cel)→List (Int×Cel)
 | a ::b ::r=>(b.1,⟨b.2.stands,b.2.weight+a.2.weight⟩) ::r
 | l=>l
def wgt (n:Int)(l:List (Int×Cel)):Int:=match getE n l with
 | some c=>c.weight
 | none=>0
noncomputable def lay (v wt:Int)(l:List (Int×Cel)):List (Int×Cel):=put iLt (bk v).1 ⟨(bk v).2,wgt (bk v).1 l+wt⟩ l
noncomputable def tadd (mx:Nat)(t:Tim)(v wt:Int):Tim:=
 {count:=bnd (t.count+wt),sum:=bnd (t.sum+v*wt),least:=if t.count=0 then v else min t.least v,greatest:=if t.count=0 then v else max t.greatest v,
  cells:=if mx<(lay v wt t.cells).length then fold (lay v wt t.cells) else lay v wt t.cells,folded:=t.folded||decide (mx<(lay v wt t.cells).length)}
def upto (k:Int):Int→List (Int×Cel)→Int
 | _,[]=>0
 | s,c ::r=>if k<s+c.2.weight then c.2.stands else upto k (s+c.2.weight) r
def quant (t:Tim)(q:Int):Int:=upto (q*(t.count - 1) / 100) 0 t.cells
def tnums (t:Tim):List Int:=[t.count,t.sum,t.least,t.greatest,quant t 50,quant t 90,quant t 99,if t.folded then 1 else 0]
def stext:Ser→Bs
 | .num n=>Lib.itoa n
 | .set ws=>Lib.itoa ws.length
 | .tim t=>Lib.join ((tnums t).map Lib.itoa) [32]
structure Lim where
 series:Nat
 sets:Nat
 buckets:Nat
def ser0 (k:Bs):Ser:=if k=[115] then .set [] else if k=[109,115] then .tim ⟨0,0,0,0,[],false⟩ else .num 0
noncomputable def stake (L:Lim)(m:Smp):Ser→Ser×Bool
 | .set ws=>if has m.word ws then (.set ws,true) else if L.sets≤ws.length then (.set ws,false) else (.set (put sLt m.word () ws),true)
 | .tim t=>(.tim (tadd L.buckets t m.value (1000 / m.rate)),true)
 | .num n=>(.num (bnd (if m.kind=[99] then (m.value*1000).tdiv m.rate+n else if m.signed then m.value+n else m.value)),true)
def key (m:Smp):Bs:=m.name++[124]++m.kind++Plain.pt m.tags
structure Win where
 rejects:Nat
 drops:Nat
 ser:List (Bs×Ser)
def win0:Win:=⟨0,0,[]⟩
noncomputable def wtake (L:Lim)(w:Win)(m:Smp):Win:=match getE (key m) w.ser with
 | some s=>⟨w.rejects,if (stake L m s).2 then w.drops else w.drops+1,put sLt (key m) (stake L m s).1 w.ser⟩
 | none=>if L.series≤w.ser.length then ⟨w.rejects,w.drops+1,w.ser⟩
  else ⟨w.rejects,if (stake L m (ser0 m.kind)).2 then w.drops else w.drops+1,put sLt (key m) (stake L m (ser0 m.kind)).1 w.ser⟩
noncomputable def wline (L:Lim)(w:Win)(l:Bs):Win:=if l=[] then w else match rd l with
 | none=>⟨w.rejects+1,w.drops,w.ser⟩
 | some m=>wtake L w m
def lines:Bs→List Bs
 | []=>[[]]
 | c ::r=>if c=10 then [] ::lines r else match lines r with
  | []=>[[c]]
  | x ::y=>(c ::x) ::y
noncomputable def wgram (L:Lim)(w:Win)(d:Bs):Win:=(lines d).foldl (wline L) w
noncomputable def wsum (L:Lim)(ds:List Bs):Win:=ds.foldl (wgram L) win0
def stexts:List (Bs×Ser)→Bs
 | []=>[]
 | p ::r=>p.1++[61]++stext p.2++[10]++stexts r
def whead (n:Int)(r d:Nat):Bs:=[119,105,110,100,111,119,32]++Lib.itoa n++[32,114,101,106,101,99,116,115,32]++Lib.itoa r++[32,100,114,111,112,115,32]++Lib.itoa d++[10]
def wtext (n:Int)(w:Win):Bs:=whead n w.rejects w.drops++stexts w.ser
end Go.Proofs.YtenegfafjjknoaaGreatDoor.Wm
namespace Go.Proofs.YtenegfafjjknoaaGreatDoor.Bounds
open Bytes Nums Spl Tags Vals Opts Plain
theorem made_len {p:Int→Bool}{most:Int}{l:List UInt8}(h:made p most l=true):(l.length:Int)≤most:=by
 simp only[made,Bool.and_eq_true,decide_eq_true_eq]at h;exact h.2.1
theorem compact_mem {zs:List (List UInt8)}{x:List UInt8}(h:x∈Lib.compact zs):x∈zs:=by
 unfold Lib.compact Lib.compactUpTo at h;rw[List.mem_map]at h;obtain⟨j,hj,rfl⟩:=h;rw[List.mem_filter,List.mem_range]at hj;have e:zs.toArray[j]! = zs[j]:=by simp[hj.1]
 rw[e];exact List.getElem_mem hj.1
theorem compact_le (zs:List (List UInt8)):(Lib.compact zs).length≤zs.length:=by
 unfold Lib.compact Lib.compactUpTo;rw[List.length_map];have:=List.length_filter_le (Lib.keeps zs.toArray) (List.range zs.length);rwa [List.length_range]at this
theorem tags_short {l:List UInt8}{ls:List (List UInt8)}(h:tagsOf l=some ls):ls.length≤4∧∀x∈ls,x.length≤8:=by
 unfold tagsOf at h;split at h
 ·split at h
  ·split at h
   ·rename_i h4 ha;cases h
    refine⟨?_,fun x hx=>?_⟩
    ·have:=compact_le ((spl 4 (l.drop 1)).mergeSort fun x y=>decide (x≤y));rw[List.length_mergeSort]at this;omega
    ·have hm:=compact_mem hx;rw[List.mem_mergeSort]at hm;have:=made_len (List.all_eq_true.1 ha x hm);omega
   ·cases h
  ·cases h
 ·cases h
theorem opts_short {k l:List UInt8}{r:Int}{ls:List (List UInt8)}(h:opts k l=some (r,ls)):1≤r∧r≤1000∧ls.length≤4∧∀x∈ls,x.length≤8:=by
 unfold opts at h;split at h
 ·split at h
  ·cases h
  ·rw[Option.bind_eq_some_iff]at h;obtain⟨q,hq,h⟩:=h;have hr:=rate_some hq;split at h
   ·rw[Option.map_eq_some_iff]at h;obtain⟨t,ht,h⟩:=h;cases h
    exact⟨hr.1,hr.2,tags_short ht⟩
   ·cases h
    exact⟨hr.1,hr.2,by simp,by simp⟩
 ·rw[Option.map_eq_some_iff]at h;obtain⟨t,ht,h⟩:=h;cases h
  exact⟨by omega,by omega,tags_short ht⟩
theorem signed_short {t l:List UInt8}{x:List UInt8×Int}(h:signed t l=some x):-999999999≤x.2∧x.2≤999999999:=by
 unfold signed at h;rw[Option.map_eq_some_iff]at h;obtain⟨n,hn,rfl⟩:=h;have hv:=num_some hn
 dsimp only
 split<;>omega
theorem rv_short {k l k' x:List UInt8}{g:Bool}{v:Int}(h:rv k l=some (k',g,v,x)):k'.length≤2∧-999999999≤v∧v≤999999999∧x.length≤16:=by
 unfold rv at h;split at h
 ·split at h
  ·rename_i hm;have:=made_len hm;cases h
   exact⟨by simp,by omega,by omega,by omega⟩
  ·cases h
 ·split at h
  ·rw[Option.map_eq_some_iff]at h;obtain⟨y,hy,h⟩:=h;have:=signed_short hy;cases h
   exact⟨by simp,this.1,this.2,by simp⟩
  ·split at h
   ·rw[Option.map_eq_some_iff]at h;obtain⟨y,hy,h⟩:=h;have:=signed_short hy;cases h
    exact⟨by simp,this.1,this.2,by simp⟩
   ·split at h
    ·rw[Option.map_eq_some_iff]at h;obtain⟨y,hy,h⟩:=h;have:=signed_short hy;cases h
     exact⟨by simp,this.1,this.2,by simp⟩
    ·cases h
theorem rd_short {l:List UInt8}{m:Smp}(h:rd l=some m):m.name.length≤16∧m.kind.length≤2∧m.word.length≤16∧(-999999999≤m.value∧m.value≤999999999)∧(1≤m.rate∧m.rate≤1000)∧m.tags.length≤4∧∀x∈m.tags,x.length≤8:=by
 unfold rd at h;split at h
 ·split at h
  ·rename_i hm;have hl:=made_len hm;unfold rdBehind at h;split at h
   ·rw[Option.bind_eq_some_iff]at h;obtain⟨x,hx,h⟩:=h;have hv:=rv_short (k':=x.1) (g:=x.2.1) (v:=x.2.2.1) (x:=x.2.2.2) hx;split at h
    ·rw[Option.map_eq_some_iff]at h;obtain⟨o,ho,rfl⟩:=h;have hop:=opts_short (r:=o.1) (ls:=o.2) ho;exact⟨by dsimp only;omega,hv.1,hv.2.2.2,⟨hv.2.1,hv.2.2.1⟩,⟨hop.1,hop.2.1⟩,hop.2.2⟩
    ·cases h
     exact⟨by dsimp only;omega,hv.1,hv.2.2.2,⟨hv.2.1,hv.2.2.1⟩,⟨by dsimp only;omega,by dsimp only;omega⟩,by simp,by simp⟩
   ·cases h
  ·cases h
 ·cases h
theorem join_len (ls:List (List UInt8))(h:∀x∈ls,x.length≤8):(Lib.join ls [44]).length≤9*ls.length:=by
 induction ls with
 | nil=>simp[Lib.join]
 | cons x l ih=>
  have hx:=h x (uB ..);have hi:=ih fun y hy=>h y (uA _ hy)
  cases l with
  | nil=>
   simp[Lib.join]
   omega
  | cons y l=>
   have e:Lib.join (x ::y ::l) [44]=x++[44]++Lib.join (y ::l) [44]:=by
    simp[Lib.join,List.intercalate,List.intersperse]
   rw[e,uG,uG];simp only[List.length_cons,List.length_nil]at hi ⊢;omega
end Go.Proofs.YtenegfafjjknoaaGreatDoor.Bounds
namespace Go.Proofs.YtenegfafjjknoaaGreatDoor.Wm
open Im Opts
theorem isB_some (v:Int):∃n s,Bnd.IsB v n s:=by
 by_cases h:0≤v∧v≤1000000000
 ·have key:∀m:Nat,v<Bnd.bnd (m+1)→∃k:Nat,Bnd.bnd k≤v∧v<Bnd.bnd (k+1):=by
   intro m
   induction m with
   | zero=>intro hm;exact⟨0,by simpa[Bnd.bnd] using h.1,hm⟩
   | succ m ih=>
    intro hm;by_cases h2:v<Bnd.bnd (m+1)
    ·exact ih h2
    ·exact⟨m+1,by omega,hm⟩
  obtain⟨k,h1,h2⟩:=key v.toNat (by have:=Bnd.bnd_ge (v.toNat+1);omega);exact⟨k,_,Or.inr ⟨h.1,h.2,k,rfl,h1,h2,rfl⟩⟩
 ·exact⟨-1,0,Or.inl ⟨by omega,rfl,rfl⟩⟩
theorem bk_is (v:Int):Bnd.IsB v (bk v).1 (bk v).2:=by
 obtain⟨n,s,h⟩:=isB_some v;rw[bk_of h];exact h
theorem bk_fit {v:Int}(h0:0≤v)(h1:v≤999999999):0≤(bk v).1∧(bk v).1≤1000000000∧0≤(bk v).2∧(bk v).2≤2000000000:=by
 obtain⟨a,b,_,_,c,d⟩:=Bnd.near (bk_is v) h0 (by omega);exact⟨a,by omega,c,d⟩
def tot:List (Int×Cel)→Int
 | []=>0
 | c ::r=>c.2.weight+tot r
theorem tot_perm {l r:List (Int×Cel)}(h:l.Perm r):tot l=tot r:=by
 induction h with
 | nil=>rfl
 | cons x _ ih=>simp[tot,ih]
 | swap x y l=>simp only[tot];omega
 | trans _ _ h1 h2=>rw[h1,h2]
section
variable {κ β : Type} [DecidableEq κ] {lt : κ → κ → Bool}
theorem getE_cons_eq {k:κ}{x:κ×β}{l:List (κ×β)}(h:x.1=k):getE k (x ::l)=some x.2:=by simp[getE,h]
theorem getE_cons_ne {k:κ}{x:κ×β}{l:List (κ×β)}(h:x.1≠k):getE k (x ::l)=getE k l:=by simp[getE,h]
theorem getE_mem {k:κ}{l:List (κ×β)}{b:β}(h:getE k l=some b):(k,b)∈l:=by
 induction l with
 | nil=>cases h
 | cons x r ih=>
  by_cases e:x.1=k
  ·rw[getE_cons_eq e]at h;cases h
   subst e;exact uB ..
  ·rw[getE_cons_ne e]at h;exact uA _ (ih h)
theorem getE_none {k:κ}{l:List (κ×β)}(h:getE k l=none):k∉l.map (·.1):=by
 have:=has_getE k l;rw[h]at this;exact(has_false k l).1 this
theorem del_perm {l:List (κ×β)}(hn:(l.map (·.1)).Nodup){k:κ}{b:β}(h:getE k l=some b):l.Perm ((k,b) ::del k l):=by
 induction l with
 | nil=>cases h
 | cons x r ih=>
  rw[List.map_cons,List.nodup_cons]at hn;by_cases e:x.1=k
  ·rw[getE_cons_eq e]at h;cases h
   subst e;have h1:del x.1 (x ::r)=r:=by
    show (x ::r).filter _=r;rw[uD (by simp)];exact del_of_not x.1 r ((has_false x.1 r).2 hn.1)
   rw[h1]
  ·rw[getE_cons_ne e]at h;have h1:del k (x ::r)=x ::del k r:=uE (by simp[e]);rw[h1];exact(List.Perm.cons x (ih hn.2 h)).trans (List.Perm.swap _ _ _)
theorem put_perm_some {l:List (κ×β)}(hn:(l.map (·.1)).Nodup){k:κ}{b b':β}(h:getE k l=some b):∃r,l.Perm ((k,b) ::r)∧(put lt k b' l).Perm ((k,b') ::r):=
 ⟨del k l,del_perm hn h,ins_perm _ _⟩
theorem put_perm_none {l:List (κ×β)}{k:κ}{b':β}(h:getE k l=none):(put lt k b' l).Perm ((k,b') ::l):=by
 have h1:has k l=false:=by rw[has_getE,h];rfl
 have:put lt k b' l=ins lt (k,b') l:=by rw[put,del_of_not k l h1]
 rw[this];exact ins_perm _ _
theorem put_length_some {l:List (κ×β)}(hn:(l.map (·.1)).Nodup){k:κ}{b b':β}(h:getE k l=some b):(put lt k b' l).length=l.length:=by
 obtain⟨r,h1,h2⟩:=put_perm_some (lt:=lt) (b':=b') hn h;rw[h1.length_eq,h2.length_eq];rfl
theorem put_length_none {l:List (κ×β)}{k:κ}{b':β}(h:getE k l=none):(put lt k b' l).length=l.length+1:=by
 rw[(put_perm_none h).length_eq];rfl
theorem put_length_le {l:List (κ×β)}(hn:(l.map (·.1)).Nodup){k:κ}{b':β}:l.length≤(put lt k b' l).length∧(put lt k b' l).length≤l.length+1:=by
 cases h:getE k l with
 | none=>rw[put_length_none h];omega
 | some b=>rw[put_length_some hn h];omega
theorem mem_put {l:List (κ×β)}{k:κ}{b:β}{p:κ×β}(h:p∈put lt k b l):p=(k,b)∨(p∈l∧p.1≠k):=by
 rcases (mem_ins _ _ _).1 h with h|h
 ·exact Or.inl h
 ·exact Or.inr (by simpa[del] using h)
end
theorem tot_lay {v wt:Int}{l:List (Int×Cel)}(h:Up iLt l):tot (lay v wt l)=tot l+wt:=by
 have hn:=Up.nodup iLt_irr h;unfold lay wgt;cases hg:getE (bk v).1 l with
 | none=>
  rw[tot_perm (put_perm_none hg)];simp only[tot];omega
 | some b=>
  obtain⟨r,h1,h2⟩:=put_perm_some (lt:=iLt) (b':=⟨(bk v).2,b.weight+wt⟩) hn hg;rw[tot_perm h1,tot_perm h2];simp only[tot];omega
theorem up_lay {v wt:Int}{l:List (Int×Cel)}(h:Up iLt l):Up iLt (lay v wt l):=h.put iLt_trans iLt_total _ _
theorem tot_fold (l:List (Int×Cel)):tot (fold l)=tot l:=by
 match l with
 | []=>rfl
 | [a]=>rfl
 | a ::b ::r=>
  simp only[fold,tot];omega
theorem up_fold {l:List (Int×Cel)}(h:Up iLt l):Up iLt (fold l):=by
 match l,h with
 | [],h=>exact h
 | [a],h=>exact h
 | a ::b ::r,h=>
  obtain⟨_,h2⟩:=uC.1 h;obtain⟨h3,h4⟩:=uC.1 h2;exact uC.2 ⟨h3,h4⟩
theorem fold_length {l:List (Int×Cel)}(h:2≤l.length):(fold l).length+1=l.length:=by
 match l,h with
 | a ::b ::r,h=>simp[fold]
theorem fold_is {a b:Int×Cel}{r:List (Int×Cel)}(h:Up iLt (a ::b ::r)):del a.1 (put iLt b.1 ⟨b.2.stands,b.2.weight+a.2.weight⟩ (a ::b ::r))=fold (a ::b ::r):=by
 obtain⟨h1,h2⟩:=uC.1 h;obtain⟨h3,h4⟩:=uC.1 h2;have hab:a.1<b.1:=by simpa[iLt] using h1 b (uB ..)
 have hr:∀x∈r,b.1<x.1:=fun x hx=>by simpa[iLt] using h3 x hx
 have e1:del b.1 (a ::b ::r)=a ::r:=by
  show (a ::b ::r).filter _=_;rw[uE (by simp;omega),uD (by simp),uF.2];intro x hx;have:=hr x hx;simp
  omega
 have e2:ins iLt (b.1,(⟨b.2.stands,b.2.weight+a.2.weight⟩:Cel)) (a ::r)=a ::(b.1,⟨b.2.stands,b.2.weight+a.2.weight⟩) ::r:=by
  rw[ins,if_neg (by simp[iLt];omega)]
  congr 1
  cases r with
  | nil=>rfl
  | cons x r=>rw[ins,if_pos (by simpa[iLt] using hr x (uB ..))]
 rw[put,e1,e2];show (a ::_ ::r).filter _=_;rw[uD (by simp),uE (by simp;omega),uF.2]
 ·rfl
 ·intro x hx;have:=hr x hx;simp
  omega
structure TFit (L:Lim)(n:Nat)(t:Tim):Prop where
 count:0≤t.count∧t.count≤top
 sum:0≤t.sum∧t.sum≤top
 least:0≤t.least∧t.least≤999999999
 greatest:0≤t.greatest∧t.greatest≤999999999
 up:Up iLt t.cells
 len:t.cells.length≤L.buckets
 tot:tot t.cells≤1000*n
 cel:∀c∈t.cells,0≤c.1∧c.1≤1000000000∧0≤c.2.stands∧c.2.stands≤2000000000∧0≤c.2.weight
theorem wgt_le {k:Int}{l:List (Int×Cel)}(h:∀c∈l,0≤c.2.weight):0≤wgt k l∧wgt k l≤tot l:=by
 have h0:∀l:List (Int×Cel),(∀c∈l,0≤c.2.weight)→0≤tot l:=by
  intro l
  induction l with
  | nil=>intro _;exact Int.le_refl _
  | cons x r ih=>
   intro h;have h1:=h x (uB ..);have h2:=ih fun c hc=>h c (uA _ hc)
   simp only[tot];omega
 induction l with
 | nil=>exact⟨Int.le_refl _,Int.le_refl _⟩
 | cons x r ih=>
  have h1:=h x (uB ..);have h2:=h0 r fun c hc=>h c (uA _ hc)
  have h3:=ih fun c hc=>h c (uA _ hc)
  unfold wgt at h3 ⊢;by_cases e:x.1=k
  ·rw[getE_cons_eq e];simp only[tot];omega
  ·rw[getE_cons_ne e];simp only[tot];omega
theorem bnd_fit (n:Int):-top≤bnd n∧bnd n≤top:=by
 unfold bnd top;omega
theorem TFit.add {L:Lim}{n:Nat}{t:Tim}(h:TFit L n t)(hL:2≤L.buckets){v wt:Int}(h0:0≤v)(h1:v≤999999999)(h2:1≤wt)(h3:wt≤1000):TFit L (n+1) (tadd L.buckets t v wt):=by
 have hp:0≤v*wt:=Int.mul_nonneg h0 (by omega);have hlen:=put_length_le (lt:=iLt) (k:=(bk v).1) (b':=⟨(bk v).2,wgt (bk v).1 t.cells+wt⟩) (Up.nodup iLt_irr h.up);have hlay:(lay v wt t.cells).length≤t.cells.length+1:=hlen.2;have hw:=wgt_le (k:=(bk v).1) (fun c hc=>(h.cel c hc).2.2.2.2);obtain⟨b1,b2,b3,b4⟩:=bk_fit h0 h1;have hcel:∀c∈lay v wt t.cells,0≤c.1∧c.1≤1000000000∧0≤c.2.stands∧c.2.stands≤2000000000∧0≤c.2.weight:=by
  intro c hc;rcases mem_put hc with rfl|⟨hc,_⟩
  ·exact⟨b1,b2,b3,b4,by show 0≤wgt _ _+wt;omega⟩
  ·exact h.cel c hc
 have htot:=tot_lay (v:=v) (wt:=wt) h.up;have hup:=up_lay (v:=v) (wt:=wt) h.up;have q1:=h.count;have q2:=h.sum;have q3:=h.least;have q4:=h.greatest;have q5:=h.len;have q6:=h.tot;refine⟨?_,?_,?_,?_,?_,?_,?_,?_⟩
 ·simp only[tadd,bnd,top]at *;omega
 ·simp only[tadd,bnd,top]at *;omega
 ·simp only[tadd];split<;>omega
 ·simp only[tadd];split<;>omega
 ·simp only[tadd];split
  ·exact up_fold hup
  ·exact hup
 ·simp only[tadd];split
  ·have:=fold_length (l:=lay v wt t.cells) (by omega);omega
  ·omega
 ·simp only[tadd];split
  ·rw[tot_fold,htot];omega
  ·rw[htot];omega
 ·simp only[tadd];split
  ·intro c hc;generalize lay v wt t.cells=l at *
   match l,hc,hcel with
   | [],hc,hcel=>exact hcel c hc
   | [a],hc,hcel=>exact hcel c hc
   | a ::b ::r,hc,hcel=>
    rcases List.mem_cons.1 hc with rfl|hc
    ·have x1:=hcel a (uB ..);have x2:=hcel b (uA _ (uB ..));exact⟨x2.1,x2.2.1,x2.2.2.1,x2.2.2.2.1,by show 0≤b.2.weight+a.2.weight;omega⟩
    ·exact hcel c (uA _ (uA _ hc))
  ·exact hcel
theorem TFit.zero (L:Lim)(n:Nat):TFit L n ⟨0,0,0,0,[],false⟩:=
 ⟨by simp[top],by simp[top],by simp,by simp,List.Pairwise.nil,Nat.zero_le _,by simp only[Wm.tot];omega,by simp⟩
theorem TFit.mono {L:Lim}{n m:Nat}{t:Tim}(h:TFit L n t)(hm:n≤m):TFit L m t:=
 ⟨h.count,h.sum,h.least,h.greatest,h.up,h.len,by have:=h.tot;omega,h.cel⟩
def kindOf (k:Bs):Bs:=Bytes.fore 124 (Bytes.aft 124 k)
def fits (k:Bs):Ser→Prop
 | .set _=>k=[115]
 | .tim _=>k=[109,115]
 | .num _=>k=[99]∨k=[103]
def sok (L:Lim)(n:Nat):Ser→Prop
 | .num x =>-top≤x∧x≤top
 | .set ws=>Up sLt ws∧ws.length≤L.sets
 | .tim t=>TFit L n t
structure SFit (L:Lim)(n:Nat)(k:Bs)(s:Ser):Prop where
 kind:fits (kindOf k) s
 klen:k.length≤64
 ok:sok L n s
theorem SFit.mono {L:Lim}{n m:Nat}{k:Bs}{s:Ser}(h:SFit L n k s)(hm:n≤m):SFit L m k s:=by
 refine⟨h.kind,h.klen,?_⟩;have:=h.ok;cases s with
 | num x=>exact this
 | set ws=>exact this
 | tim t=>exact TFit.mono this hm
structure WFit (L:Lim)(n:Nat)(w:Win):Prop where
 cnt:w.rejects+w.drops≤n
 up:Up sLt w.ser
 len:w.ser.length≤L.series
 ser:∀p∈w.ser,SFit L n p.1 p.2
theorem WFit.zero (L:Lim):WFit L 0 win0:=⟨Nat.le_refl _,List.Pairwise.nil,Nat.zero_le _,by simp[win0]⟩
theorem WFit.mono {L:Lim}{n m:Nat}{w:Win}(h:WFit L n w)(hm:n≤m):WFit L m w:=⟨by have:=h.cnt;omega,h.up,h.len,fun p hp=>(h.ser p hp).mono hm⟩
/-! ### Samples -/
theorem fore_append {c:UInt8}{a b:Bs}(h:c∉a):Bytes.fore c (a++c ::b)=a:=by
 induction a with
 | nil=>simp[Bytes.fore]
 | cons x a ih=>
  have h1:c≠x:=fun e=>h (by simp[e])
  have h2:=ih fun e=>h (uA _ e)
  unfold Bytes.fore at *;rw[List.cons_append,List.takeWhile_cons_of_pos (by simpa using fun e=>h1 e.symm),h2]
theorem fore_all {c:UInt8}{a:Bs}(h:c∉a):Bytes.fore c a=a:=by
 induction a with
 | nil=>rfl
 | cons x a ih=>
  have h1:c≠x:=fun e=>h (by simp[e])
  have h2:=ih fun e=>h (uA _ e)
  unfold Bytes.fore at *;rw[List.takeWhile_cons_of_pos (by simpa using fun e=>h1 e.symm),h2]
theorem aft_append {c:UInt8}{a b:Bs}(h:c∉a):Bytes.aft c (a++c ::b)=b:=by
 induction a with
 | nil=>simp[Bytes.aft]
 | cons x a ih=>
  have h1:c≠x:=fun e=>h (by simp[e])
  have h2:=ih fun e=>h (uA _ e)
  unfold Bytes.aft at *;rw[List.cons_append,List.dropWhile_cons_of_pos (by simpa using fun e=>h1 e.symm),h2]
theorem name_no {most:Int}{l:Bs}(h:Bytes.made Bytes.nam most l=true):(124:UInt8)∉l:=by
 intro hm;simp only[Bytes.made,Bool.and_eq_true,List.all_eq_true]at h;have:=h.2.2 124 hm
 revert this
 decide
theorem rv_kind {k l k' x:Bs}{g:Bool}{v:Int}(h:Vals.rv k l=some (k',g,v,x)):(k'=[115]∨k'=[99]∨k'=[103]∨(k'=[109,115]∧0≤v)):=by
 unfold Vals.rv at h;split at h
 ·split at h
  ·cases h;exact Or.inl rfl
  ·cases h
 ·split at h
  ·simp only[Option.map_eq_some_iff]at h;obtain⟨_,_,h⟩:=h;cases h;exact Or.inr (Or.inl rfl)
  ·split at h
   ·simp only[Option.map_eq_some_iff]at h;obtain⟨_,_,h⟩:=h;cases h;exact Or.inr (Or.inr (Or.inl rfl))
   ·split at h
    ·simp only[Option.map_eq_some_iff]at h;obtain⟨y,hy,h⟩:=h;cases h
     refine Or.inr (Or.inr (Or.inr ⟨rfl,?_⟩));unfold Vals.signed at hy;simp only[Option.map_eq_some_iff]at hy;obtain⟨n,hn,rfl⟩:=hy;have e:Nums.sg [] l=[]:=by
      unfold Nums.sg;split<;>simp[Bytes.has]
     rw[e]at hn ⊢;have:=(Nums.num_some hn).1;simpa using this
    ·cases h
theorem rd_kind {l:Bs}{m:Smp}(h:rd l=some m):(124:UInt8)∉m.name∧(m.kind=[115]∨m.kind=[99]∨m.kind=[103]∨(m.kind=[109,115]∧0≤m.value)):=by
 unfold rd at h;split at h
 ·split at h
  ·rename_i hm;unfold rdBehind at h;split at h
   ·simp only[Option.bind_eq_some_iff]at h;obtain⟨⟨k',g,v,x⟩,hx,h⟩:=h;have hk:=rv_kind hx;split at h
    ·simp only[Option.map_eq_some_iff]at h;obtain⟨o,_,rfl⟩:=h;exact⟨name_no hm,hk⟩
    ·cases h
     exact⟨name_no hm,hk⟩
   ·cases h
  ·cases h
 ·cases h
theorem kindOf_key {l:Bs}{m:Smp}(h:rd l=some m):kindOf (key m)=m.kind:=by
 obtain⟨h1,h2⟩:=rd_kind h;have h3:(124:UInt8)∉m.kind:=by
  rcases h2 with e|e|e|⟨e,_⟩<;>rw[e]<;>decide
 unfold kindOf key;rw[List.append_assoc,List.append_assoc,List.singleton_append,aft_append h1];unfold Plain.pt;split
 ·rw[List.append_nil,fore_all h3]
 ·exact fore_append h3
theorem key_len {l:Bs}{m:Smp}(h:rd l=some m):(key m).length≤64:=by
 obtain⟨h1,h2,_,_,_,h5,h6⟩:=Bounds.rd_short h;have hj:=Bounds.join_len m.tags h6;unfold key Plain.pt;split<;>simp only[uG,List.length_cons,List.length_nil]<;>omega
theorem SFit.take {L:Lim}{n:Nat}{k l:Bs}{s:Ser}{m:Smp}(h:SFit L n k s)(hL:2≤L.buckets)(hr:rd l=some m)(hk:kindOf k=m.kind):SFit L (n+1) k (stake L m s).1:=by
 obtain⟨_,hkd⟩:=rd_kind hr;obtain⟨_,_,_,hv,hra,_⟩:=Bounds.rd_short hr;have hok:=h.ok;have hkk:=h.kind;refine⟨?_,h.klen,?_⟩
 ·cases s with
  | num x=>exact hkk
  | tim t=>exact hkk
  | set ws=>
   simp only[stake];split
   ·exact hkk
   ·split<;>exact hkk
 ·cases s with
  | num x=>exact bnd_fit _
  | tim t=>
   have e:m.kind=[109,115]:=by rw[←hk];exact hkk
   have h0:0≤m.value:=by
    rcases hkd with e'|e'|e'|⟨_,e'⟩
    ·rw[e]at e';cases e'
    ·rw[e]at e';cases e'
    ·rw[e]at e';cases e'
    ·exact e'
   refine TFit.add hok hL h0 hv.2 ?_ ?_
   ·exact Int.le_ediv_of_mul_le (by omega) (by omega)
   ·exact Int.ediv_le_self _ (by omega)
  | set ws=>
   by_cases h1:has m.word ws=true
   ·simp only[stake,h1,if_true];exact hok
   ·by_cases h2:L.sets≤ws.length
    ·simp only[stake,h1,h2,if_true,if_false,Bool.false_eq_true];exact hok
    ·simp only[stake,h1,h2,if_false,Bool.false_eq_true];have hok:Up sLt ws∧ws.length≤L.sets:=hok;refine⟨hok.1.put sLt_trans sLt_total _ _,?_⟩;have:=(put_length_le (lt:=sLt) (k:=m.word) (b':=()) (Up.nodup sLt_irr hok.1)).2;omega
theorem SFit.zero {L:Lim}{n:Nat}{l:Bs}{m:Smp}(hr:rd l=some m):SFit L n (key m) (ser0 m.kind):=by
 obtain⟨_,hkd⟩:=rd_kind hr;refine⟨?_,key_len hr,?_⟩
 ·rw[kindOf_key hr];rcases hkd with e|e|e|⟨e,_⟩<;>rw[e]<;>simp[ser0,fits]
 ·rcases hkd with e|e|e|⟨e,_⟩<;>rw[e]
  ·exact⟨List.Pairwise.nil,Nat.zero_le _⟩
  ·exact⟨by decide,by decide⟩
  ·exact⟨by decide,by decide⟩
  ·exact TFit.zero _ _
theorem WFit.take {L:Lim}{n:Nat}{w:Win}{l:Bs}{m:Smp}(h:WFit L n w)(hL:2≤L.buckets)(hr:rd l=some m):WFit L (n+1) (wtake L w m):=by
 have hc:=h.cnt;have hput:∀s,SFit L (n+1) (key m) s→∀p∈put sLt (key m) s w.ser,SFit L (n+1) p.1 p.2:=fun s hs p hp=>by
  rcases mem_put hp with rfl|⟨hp,_⟩
  ·exact hs
  ·exact(h.ser p hp).mono (Nat.le_succ _)
 have hup:=fun s:Ser=>h.up.put sLt_trans sLt_total (key m) s
 unfold wtake;split
 ·rename_i s hs;have h1:=h.ser _ (getE_mem hs);refine⟨by simp only;split<;>omega,hup _,?_,hput _ (h1.take hL hr (kindOf_key hr))⟩;simp only[put_length_some (Up.nodup sLt_irr h.up) hs];exact h.len
 ·rename_i hs;split
  ·exact⟨by simp only;omega,h.up,h.len,fun p hp=>(h.ser p hp).mono (Nat.le_succ _)⟩
  ·refine⟨by simp only;split<;>omega,hup _,?_,hput _ ((SFit.zero hr).take hL hr (kindOf_key hr))⟩;simp only[put_length_none hs];omega
theorem WFit.line {L:Lim}{n:Nat}{w:Win}(h:WFit L n w)(hL:2≤L.buckets)(l:Bs):WFit L (n+1) (wline L w l):=by
 unfold wline;split
 ·exact h.mono (Nat.le_succ _)
 ·split
  ·have:=h.cnt;exact⟨by simp only;omega,h.up,h.len,fun p hp=>(h.ser p hp).mono (Nat.le_succ _)⟩
  ·rename_i m hr;exact h.take hL hr
end Go.Proofs.YtenegfafjjknoaaGreatDoor.Wm
