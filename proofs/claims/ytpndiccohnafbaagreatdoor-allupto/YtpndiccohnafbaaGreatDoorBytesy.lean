/- Texts as lists of bytes, and what the readers ask of them: no Go in sight. -/
import Derived.Lib.Strings
import Derived.Lib.Bytealg
import Derived.Lib.IndexLaws
open Go.Lib renaming toList_data->ca,indexByte->Ua
open Bool renaming and_eq_true->Va
namespace Go.Proofs.YtpndiccohnafbaaGreatDoor
namespace Bytes
def B (s:ByteArray):List UInt8:=s.data.toList
theorem aj (s:ByteArray):s.size=(B s).length:=Lib.size_eq s
variable {a:ByteArray}{b:Int -> Bool}{c:Int}{d:Nat}
theorem bo {t:ByteArray}(h:B a=B t):a=t:=by
 have e:=Lib.mk_data a;unfold B at h;rw[h,Lib.mk_data t]at e;exact e.symm
theorem gO (h:d<a.size):(B a)[d]? = some a[d]:=by
 obtain⟨⟨l⟩⟩:=a;simp only[B];rw[List.getElem?_eq_getElem (by exact h)];rfl
theorem bu (s:ByteArray)(a b:Nat):B (s.extract a b)=((B s).drop a).take (b - a):=Lib.extract_data s a b
theorem nh:a.toList.isEmpty=true↔B a=[]:=by
 rw[ca];simp[B]
theorem bp (s t:ByteArray):B (s++t)=B s++B t:=by
 obtain⟨⟨l⟩⟩:=s;obtain⟨⟨m⟩⟩:=t;simp[B]
def dig (c:Int):Bool:=decide (48<=c)&&decide (c<=57)
def dm (c:Int):Bool:=(decide (97<=c)&&decide (c<=122))||dig c||(c==95)
def oA (c:Int):Bool:=dm c||(c==46)
def made (p:Int->Bool)(a:Int)(l:List UInt8):Bool:=!l.isEmpty&&(decide ((l.length:Int)<=a)&&l.all λb=>p b.toNat)
theorem ky {p:Int->Bool}{most:Int}  (h:a.toList.isEmpty=true):made p most (B a)=false:=by grind [nh,made]
theorem mi (h:c<(a.size:Int)):made b c (B a)=false:=by grind [aj,made]
theorem lI (f:d<a.size)(h:b (a[d].toNat:Int)=false):made b c (B a)=false:=by
 have e:=gO f;grind [made]
theorem mh (e:a.toList.isEmpty=false)(f:(a.size:Int)<=c)(h:((B a).take a.size).all (λd=>b d.toNat)=true):made b c (B a)=true:=by grind [ca,aj,B,made]
theorem kZ (e:d<a.size)(h:((B a).take d).all (λc=>b c.toNat)=true)(f:b (a[d].toNat:Int)=true):((B a).take (d+1)).all (λc=>b c.toNat)=true:=by grind [gO,List.take_add_one]
def aM (c:UInt8)(l:List UInt8):List UInt8:=l.takeWhile (· != c)
def cO (c:UInt8)(l:List UInt8):List UInt8:=(l.dropWhile (· != c)).drop 1
def has (c:UInt8)(l:List UInt8):Bool:=l.contains c
theorem eR (l:List UInt8)(c:UInt8):
  (Ua l c = -1/\has c l=false/\aM c l=l/\cO c l=[])\/
  (∃o:Nat,Ua l c=(o:Int)/\o<l.length/\has c l=true/\aM c l=l.take o/\cO c l=l.drop (o+1)):=by
 induction l with
 | nil=>exact Or.inl ⟨rfl,rfl,rfl,rfl⟩
 | cons b l k=>
  by_cases d:b=c
  .subst d;exact Or.inr ⟨0,by simp[Ua],by simp,by simp[has],by simp[aM],by simp[cO]⟩
  have i:(b==c)=false:=by simpa using d
  have j:(c==b)=false:=by grind
  rcases k with ⟨e,g,a,h⟩|⟨o,e,f,g,a,h⟩
  .refine Or.inl ⟨?_,?_,?_,?_⟩
   .simp[Ua,d,e]
   .grind [has]
   .simp only[aM]at a ⊢;simp[d,a]
   grind [cO,List.dropWhile_cons]
  refine Or.inr ⟨o+1,?_,by simpa using f,?_,?_,?_⟩
  .grind [Ua]
  .grind [has]
  .simp only[aM]at a ⊢;simp[d,a]
  grind [cO,List.dropWhile_cons]
end Bytes
namespace Nums
open Bytes
def val (l:List UInt8):Int:=l.foldl (λn b=>n*10+((b.toNat:Int) - 48)) 0
theorem sT (l:List UInt8)(b:UInt8):val (l++[b])=val l*10+((b.toNat:Int) - 48):=by
 simp[val,List.foldl_append]
def dQ (l:List UInt8):Bool:=l.all λb=>dig b.toNat
variable {a:List UInt8}{c:ByteArray}{d:Int}
theorem nz:dig d=true↔48<=d/\d<=57:=by
 simp[dig]
theorem zc (n:Nat):∀l:List UInt8,l.length=n->dQ l=true->0<=val l/\val l+1<=(10:Int) ^ n:=by
 induction n with
 | zero=>grind [val]
 | succ n c=>
  intro l f h;have a:l≠[]:=by grind
  have e:=(List.dropLast_concat_getLast a).symm;rw[e]at h ⊢;simp only[dQ,List.all_append,Va]at h;obtain⟨b,d⟩:=h;obtain⟨g,i⟩:=c l.dropLast (by grind) b;grind [nz,sT]
theorem CY (l:List UInt8)(h:dQ l=true):0<=val l/\val l+1<=(10:Int) ^ l.length:=zc _ l rfl h
theorem qH (h:dQ a=true)(b:a.length<=6):0<=val a/\val a<=999999:=by
 have d:=CY a h;have c:(10:Int) ^ a.length<=1000000:=by
  have e:a.length=0\/a.length=1\/a.length=2\/a.length=3\/a.length=4\/a.length=5\/a.length=6:=by omega
  grind
 omega
theorem Fk (h:dQ a=true)(b:a.length<=3):0<=val a/\val a<=999:=by
 have d:=CY a h;have c:(10:Int) ^ a.length<=1000:=by
  have e:a.length=0\/a.length=1\/a.length=2\/a.length=3:=by omega
  grind
 omega
theorem Dz (k:Nat)(h:dQ a=true):dQ (a.take k)=true:=by grind [dQ]
theorem lJ (h:made dig d a=true):dQ a=true/\(a.length:Int)<=d/\a≠[]:=by
 simp only[made,Va,decide_eq_true_eq]at h;refine⟨h.2.2,h.2.1,?_⟩;grind
theorem NZ {k:Nat}(a:dQ (B c)=true)(h:k<c.size):48<=(c[k].toNat:Int)/\(c[k].toNat:Int)<=57:=by
 rw[<-nz];simp only[dQ,List.all_eq_true]at a;exact a _ (List.mem_of_getElem? (gO h))
theorem JU {k:Nat}(h:k<c.size):val ((B c).take (k+1))=val ((B c).take k)*10+((c[k].toNat:Int) - 48):=by
 rw[List.take_add_one,gO h,Option.toList_some,sT]
theorem JV {k:Nat}(a:dQ (B c)=true)(b:c.size<=6):0<=val ((B c).take k)/\val ((B c).take k)<=999999:=by
 refine qH (Dz k a) ?_;grind [aj]
def dec (l:List UInt8):Option Int:=if made dig 3 l then some (val (l++List.replicate (3 - l.length) 48)) else none
def num (l:List UInt8):Option Int:=
 if made dig 6 (aM 46 l) then (dec (if has 46 l then cO 46 l else [48])).map λp=>val (aM 46 l)*1000+p else none
def cw (l:List UInt8):Option Int:=
 if l=[49] then some 1000 else if [48,46].isPrefixOf l then (dec (l.drop 2)).filter λn=>decide (0<n) else none
theorem nT (h:made dig 6 (aM 46 a)=false):num a=none:=by
 simp[num,h]
theorem jP (h:made dig 6 (aM 46 a)=true)(b:has 46 a=true):num a=(dec (cO 46 a)).map λp=>val (aM 46 a)*1000+p:=by
 simp[num,h,b]
theorem mn (h:made dig 6 (aM 46 a)=true)(b:has 46 a=false):num a=(dec [48]).map λp=>val (aM 46 a)*1000+p:=by
 simp[num,h,b]
def sg (t l:List UInt8):List UInt8:=match l with
 | []=>[]
 | b ::_=>if has b t then [b] else []
theorem Jb (h:c.toList.isEmpty=true):sg a (B c)=[]:=by
 rw[nh]at h;rw[h];rfl
theorem uN (h:0<c.size):B c=c[0] ::(B c).drop 1:=by
 have e:=gO h;cases a:B c with
 | nil=>simp[a]at e
 | cons x l=>grind
theorem Jc (h:0<c.size)(b:has c[0] a=true):sg a (B c)=[c[0]]:=by
 rw[uN h];simp[sg,b]
theorem Nt (h:0<c.size)(b:has c[0] a=false):sg a (B c)=[]:=by
 rw[uN h];simp[sg,b]
theorem Iy (h:(c.toList==[49])=true):cw (B c)=some 1000:=by grind [ca,B,cw]
theorem xZ (h:(c.toList==[49])=false)(a:Lib.hasPrefix c.data.toList [48,46]=true):cw (B c)=(dec ((B c).drop 2)).filter λn=>decide (0<n):=by
 have e:B c≠[49]:=by grind [ca,B]
 have b:[48,46].isPrefixOf (B c)=true:=a;grind [cw]
theorem Ix (h:(c.toList==[49])=false)(b:Lib.hasPrefix c.data.toList [48,46]=false):cw (B c)=none:=by
 have e:B c≠[49]:=by grind [ca,B]
 have a:[48,46].isPrefixOf (B c)=false:=b;simp[cw,e,a]
theorem wM (n:Nat)(h:dQ a=true):dQ (a++List.replicate n 48)=true:=by
 simp only[dQ,List.all_append,Va]at h ⊢;refine⟨h,?_⟩;rw[List.all_eq_true];intro x b;rw[List.eq_of_mem_replicate b];rfl
theorem lu (h:dec a=some d):0<=d/\d<=999:=by
 unfold dec at h;split at h
 .rename_i c;obtain⟨b,e,_⟩:=lJ c;cases h;refine Fk (wM _ b) ?_;grind
 cases h
theorem fv (h:num a=some d):0<=d/\d<=999999999:=by
 unfold num at h;split at h
 .rename_i c;obtain⟨b,f,_⟩:=lJ c;rw[Option.map_eq_some_iff]at h;obtain⟨p,e,rfl⟩:=h;have g:=lu e;have i:=qH b (by omega);omega
 cases h
theorem Ex (h:cw a=some d):1<=d/\d<=1000:=by
 unfold cw at h;split at h
 .grind
 split at h
 .rw[Option.filter_eq_some_iff]at h;have b:=lu h.1;grind
 cases h
end Nums
end Go.Proofs.YtpndiccohnafbaaGreatDoor
