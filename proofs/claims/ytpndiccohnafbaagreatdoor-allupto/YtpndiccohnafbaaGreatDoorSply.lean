/- A text cut at its commas, into five pieces at most: no Go in sight. -/
import Derived.Test.YtpndiccohnafbaaGreatDoorBytesy
import Derived.Lib.Split
import Derived.Lib.IndexBytes
import Derived.Lib.SlicesCompact
import Derived.Lib.ItoaMem
import Derived.Lib.TrimByte
import Derived.Lib.Join
import Derived.Test.YtpndiccohnafbaaGreatDoorImy
open Option renaming none->Y
open Go renaming bytesBefore->ca
namespace Go.Proofs.YtpndiccohnafbaaGreatDoor
namespace Spl
open Bytes
def kI:Nat->List UInt8->List (List UInt8)
 | 0,l=>[l]
 | k+1,l=>if has 44 l then aM 44 l ::kI k (cO 44 l) else [l]
theorem Jl (k:Nat):∀l:List UInt8,l.length<=k->kI (k+1) l=kI k l:=by
 induction k with
 | zero=>
  intro l a;rw[List.eq_nil_of_length_eq_zero (Nat.le_zero.1 a)];rfl
 | succ k e=>
  intro l a;show (if has 44 l=true then aM 44 l ::kI (k+1) (cO 44 l) else [l])=(if has 44 l=true then aM 44 l ::kI k (cO 44 l) else [l]);rcases eR l 44 with ⟨_,c,_⟩|⟨o,_,b,_,_,d⟩
  .grind
  grind
theorem Mh (j:Nat):∀l:List UInt8,kI (min j l.length) l=kI j l:=by
 induction j with
 | zero=>
  intro l;grind
 | succ j a=>
  intro l;grind [Jl]
theorem Ba (k:Nat):∀s:ByteArray,(Lib.splitB ⟨#[44]⟩ 0 k s).map B=kI k (B s):=by
 induction k with
 | zero=>intro s;rfl
 | succ k f=>
  intro s;rw[kI];have e:Lib.indexB s ⟨#[44]⟩=Lib.indexByte (B s) 44:=Lib.index_one _ _;rcases eR (B s) 44 with ⟨a,b,_⟩|⟨o,a,g,b,c,d⟩
  .grind [Lib.splitB_miss]
  rw[Lib.splitB_hit _ _ _ _ o (by rw[e,a]),b,List.map_cons,f,c,d,bu,bu,if_pos rfl];grind [aj,B,List.length_drop]
theorem AZ (k:Nat)(s:ByteArray):(Lib.splitB ⟨#[44]⟩ 0 k s).length<=k+1:=Lib.splitB_length_le _ _ _ _
theorem yD (k:Nat):∀(s:ByteArray) (x:ByteArray),x∈Lib.splitB ⟨#[44]⟩ 0 k s->x.size<=s.size:=by
 induction k with
 | zero=>grind [Lib.splitB_zero]
 | succ k h=>
  intro s x c;have e:Lib.indexB s ⟨#[44]⟩=Lib.indexByte (B s) 44:=Lib.index_one _ _;rcases eR (B s) 44 with ⟨a,b,_⟩|⟨o,a,d,b,f,g⟩
  .grind [Lib.splitB_miss]
  rw[Lib.splitB_hit _ _ _ _ o (by rw[e,a]),List.mem_cons]at c;grind [ByteArray.size_extract]
end Spl
namespace Tags
open Bytes Spl
def cX (a:List UInt8):Option (List (List UInt8)):=
 if [35].isPrefixOf a then
  (if (kI 4 (a.drop 1)).length<=4 then (if (kI 4 (a.drop 1)).all (made dm 8) then some (Lib.compact ((kI 4 (a.drop 1)).mergeSort λx y=>decide (x<=y))) else Y) else Y)
 else Y
variable {a:List UInt8}
theorem yO (b:[35].isPrefixOf a=true)(h:4<(kI 4 (a.drop 1)).length):cX a=Y:=by
 rw[cX,if_pos b,if_neg (by omega)]
theorem Bg (b:[35].isPrefixOf a=true)(h:(kI 4 (a.drop 1)).all (made dm 8)=false):cX a=Y:=by grind [cX]
theorem pW (c:[35].isPrefixOf a=true)(b:(kI 4 (a.drop 1)).length<=4)(h:(kI 4 (a.drop 1)).all (made dm 8)=true):cX a=some (Lib.compact ((kI 4 (a.drop 1)).mergeSort λx y=>decide (x<=y))):=by grind [cX]
theorem sK (b:[35].isPrefixOf a=false):cX a=Y:=by
 rw[cX,b];rfl
end Tags
namespace Vals
open Bytes Nums
def signed (t l:List UInt8):Option (List UInt8×Int):=
 (num (l.drop (sg t l).length)).map λn=>(sg t l,if sg t l=[45] then -n else n)
def rv (k l:List UInt8):Option (List UInt8×Bool×Int×List UInt8):=
 if k=[115] then (if made dm 16 l then some ([115],false,0,l) else Y)
 else if k=[99] then (signed [45] l).map λx=>([99],false,x.2,[])
 else if k=[103] then (signed [43,45] l).map λx=>([103],!x.1.isEmpty,x.2,[])
 else if k=[104]\/k=[109,115] then (signed [] l).map λx=>([109,115],false,x.2,[])
 else Y
variable {a b c:List UInt8}{d:Int}
theorem bH {s:ByteArray}  (h:¬B s=a):(s.toList==a)=false:=by
 rw[Lib.toList_data];exact beq_eq_false_iff_ne.2 h
theorem Ja (l:List UInt8):sg [45] l=[]\/sg [45] l=[45]:=by
 cases l with
 | nil=>exact Or.inl rfl
 | cons b l=>grind [sg,has]
theorem Mb (l:List UInt8):sg [43,45] l=[]\/sg [43,45] l=[43]\/sg [43,45] l=[45]:=by
 cases l with
 | nil=>exact Or.inl rfl
 | cons b l=>grind [sg,has]
theorem vG (l:List UInt8):sg [] l=[]:=by
 cases l with
 | nil=>rfl
 | cons b l=>simp[sg,has]
theorem eQ (e:sg a b=c)(d:num (b.drop c.length)=Y):signed a b=Y:=by
 simp[signed,e,d]
theorem gi (g:sg a b=c)(e:c=[])(f:num (b.drop 0)=some d):signed a b=some ([],d):=by grind [signed]
theorem yy (e:sg a b=[43])(c:num (b.drop 1)=some d):signed a b=some ([43],d):=by grind [signed]
theorem oe (e:sg a b=[45])(c:num (b.drop 1)=some d):signed a b=some ([45],-d):=by grind [signed]
theorem QK (h:a=[115]):rv a b=(if made dm 16 b then some ([115],false,0,b) else Y):=by
 simp[rv,h]
theorem IT (h:a=[99]):rv a b=(signed [45] b).map λx=>([99],false,x.2,[]):=by
 simp[rv,h]
theorem AS (h:a=[103]):rv a b=(signed [43,45] b).map λx=>([103],!x.1.isEmpty,x.2,[]):=by
 simp[rv,h]
theorem IU (h:a=[104]\/a=[109,115]):rv a b=(signed [] b).map λx=>([109,115],false,x.2,[]):=by
 rcases h with h|h<;>simp[rv,h]
end Vals
namespace Opts
open Bytes Nums Spl Tags Vals
def opts (k l:List UInt8):Option (Int×List (List UInt8)):=
 if [64].isPrefixOf l then
  (if k=[103]\/k=[115] then Y
  else (cw (aM 124 (l.drop 1))).bind λr=>if has 124 (l.drop 1) then (cX (cO 124 (l.drop 1))).map λt=>(r,t) else some (r,[]))
 else (cX l).map λt=>(1000,t)
theorem oY {k l:List UInt8}(h:[64].isPrefixOf l=false):opts k l=(cX l).map λt=>(1000,t):=by
 rw[opts,h];rfl
theorem xV {k l:List UInt8}(h:[64].isPrefixOf l=true)(a:k=[103]\/k=[115]):opts k l=Y:=by
 rw[opts,if_pos h,if_pos a]
theorem uk {k l:List UInt8}(h:[64].isPrefixOf l=true)(a:¬(k=[103]\/k=[115])):opts k l=(cw (aM 124 (l.drop 1))).bind λr=>if has 124 (l.drop 1) then (cX (cO 124 (l.drop 1))).map λt=>(r,t) else some (r,[]):=by
 rw[opts,if_pos h,if_neg a]
structure jv where
 name:List UInt8
 kind:List UInt8
 signed:Bool
 value:Int
 word:List UInt8
 cw:Int
 tags:List (List UInt8)
def fE (n l:List UInt8):Option jv:=
 if has 124 l then
  (rv (aM 124 (cO 124 l)) (aM 124 l)).bind λx=>
   if has 124 (cO 124 l) then (opts x.1 (cO 124 (cO 124 l))).map λo=>⟨n,x.1,x.2.1,x.2.2.1,x.2.2.2,o.1,o.2⟩
   else some ⟨n,x.1,x.2.1,x.2.2.1,x.2.2.2,1000,[]⟩
 else Y
def rd (l:List UInt8):Option jv:=
 if has 58 l then (if made oA 16 (aM 58 l) then fE (aM 58 l) (cO 58 l) else Y) else Y
end Opts
namespace Plain
open Bytes Nums Opts
def ou (a:Nat):List UInt8:=Lib.decDigits (a / 1000)++(if a % 1000=0 then [] else 46 ::Lib.trimRightB ((Lib.decDigits (1000+a % 1000)).drop 1) 48)
def wn (n:Int):List UInt8:=(if n<0 then [45] else [])++ou n.natAbs
theorem iW (k:Nat):∀u:Nat,u<10 ^ (k+1)->Lib.nDigits u<=k+1:=by
 induction k with
 | zero=>grind [Lib.nDigits_small]
 | succ k a=>grind [Lib.nDigits_big]
def pv (m:jv):List UInt8:=if m.kind=[115] then m.word else if m.signed/\0<=m.value then 43 ::wn m.value else wn m.value
def pt (a:List (List UInt8)):List UInt8:=if a=[] then [] else 124 ::35 ::Lib.join a [44]
def plain (m:jv):List UInt8:=m.name++[58]++pv m++[124]++m.kind++(if m.cw=1000 then [] else 124 ::64 ::wn m.cw)++pt m.tags
end Plain
namespace Im
open Go
abbrev Bs:=List UInt8
theorem bb:∀a b:Bs,ca a b=decide (a<b)
 | [],[]=>by simp[ca]
 | [],b ::s=>by simp[ca]
 | a ::r,[]=>by simp[ca]
 | a ::r,b ::s=>by
  rw[ca,bb r s];grind [List.cons_lt_cons_iff]
def jl (k:Bs):Lit:=.string k
def cA (a b:Bs):Bool:=decide (a<b)
theorem jT (a b:Bs):(jl a).sameKey (jl b)=decide (a=b):=by grind [jl,Lit.sameKey]
theorem pR (a b:Bs):(jl a).before (jl b)=cA a b:=by simp[jl,Lit.before,cA,bb]
theorem dE (a b c:Bs)(h:cA a b=true)(d:cA b c=true):cA a c=true:=by grind [cA]
theorem fU (a b:Bs)(c:a≠b)(h:cA a b=false):cA b a=true:=by grind [cA]
theorem dO (a:Bs):cA a a=false:=by grind [cA]
end Im
end Go.Proofs.YtpndiccohnafbaaGreatDoor
