/- Windows, with no Go in sight: what lines come to, and the text that tells it. -/
import Derived.Test.YtpndiccohnafbaaGreatDoorSply
import Derived.Maps.Own
import Derived.Test.YtpndiccohnafbaaGreatDoorApo
import Derived.BigRegion
import Derived.BigQuiet
import Derived.StringKeys
set_option maxHeartbeats 9000000
open Option renaming some->Z,map_eq_some_iff->ca,bind_eq_some_iff->Xa
open Go.Value renaming int->I
open Go.IntKind renaming i64->O
open Go renaming World->N,Value->C,TypeId->Uc
open Go.Proofs.Tryz renaming prog->Ua,underlying250->Wa,underlying9->Ub
open List renaming pairwise_cons->Va,takeWhile_cons_of_pos->Za,filter_cons_of_neg->Vb,filter_cons_of_pos->Wb
open Go.Lib renaming join->Ya,itoa->qb,compact->Yb
open List.Pairwise renaming nil->eb
open Go.Ending renaming returned->Xb
open Nat renaming le_succ->Zb
open Go.Maps renaming Keyed->Vc
namespace Go.Proofs.YtpndiccohnafbaaGreatDoor
namespace Wm
open Im Opts
def top:Int:=1000000000000000
def dW (n:Int):Int:=min (max n (-top)) top
structure cL where
 aL:Int
 weight:Int
structure pZ where
 count:Int
 sum:Int
 least:Int
 al:Int
 cells:List (Int×cL)
 folded:Bool
inductive Ser where
 | num (n:Int)
 | set (ws:List (Bs×Unit))
 | tim (t:pZ)
open Classical in
noncomputable def bk (v:Int):Int×Int:=if h:∃p:Int×Int,mH.Kh v p.1 p.2 then Classical.choose h else (-1,0)
theorem FP {v n s:Int}(h:mH.Kh v n s):bk v=(n,s):=by
 have a:∃p:Int×Int,mH.Kh v p.1 p.2:=⟨(n,s),h⟩;grind [mH.Le,bk]
def fold:List (Int×cL)->List (Int×cL)
 | a ::b ::r=>(b.1,⟨b.2.aL,b.2.weight+a.2.weight⟩) ::r
 | l=>l
def qI (n:Int)(l:List (Int×cL)):Int:=match aS n l with
 | some c=>c.weight
 | none=>0
noncomputable def lay (v wt:Int)(l:List (Int×cL)):List (Int×cL):=put dJ (bk v).1 ⟨(bk v).2,qI (bk v).1 l+wt⟩ l
noncomputable def dq (a:Nat)(t:pZ)(v wt:Int):pZ:=
 {count:=dW (t.count+wt),sum:=dW (t.sum+v*wt),least:=if t.count=0 then v else min t.least v,al:=if t.count=0 then v else max t.al v,
  cells:=if a<(lay v wt t.cells).length then fold (lay v wt t.cells) else lay v wt t.cells,folded:=t.folded||decide (a<(lay v wt t.cells).length)}
def upto (k:Int):Int->List (Int×cL)->Int
 | _,[]=>0
 | s,c ::r=>if k<s+c.2.weight then c.2.aL else upto k (s+c.2.weight) r
def dz (t:pZ)(q:Int):Int:=upto (q*(t.count - 1) / 100) 0 t.cells
def jV (t:pZ):List Int:=[t.count,t.sum,t.least,t.al,dz t 50,dz t 90,dz t 99,if t.folded then 1 else 0]
def gV:Ser->Bs
 | .num n=>qb n
 | .set a=>qb a.length
 | .tim t=>Ya ((jV t).map qb) [32]
structure cZ where
 series:Nat
 sets:Nat
 buckets:Nat
def ik (k:Bs):Ser:=if k=[115] then .set [] else if k=[109,115] then .tim ⟨0,0,0,0,[],false⟩ else .num 0
noncomputable def ch (b:cZ)(m:jv):Ser->Ser×Bool
 | .set a=>if has m.word a then (.set a,true) else if b.sets<=a.length then (.set a,false) else (.set (put cA m.word () a),true)
 | .tim t=>(.tim (dq b.buckets t m.value (1000 / m.cw)),true)
 | .num n=>(.num (dW (if m.kind=[99] then (m.value*1000).tdiv m.cw+n else if m.signed then m.value+n else m.value)),true)
def key (m:jv):Bs:=m.name++[124]++m.kind++Plain.pt m.tags
structure jh where
 dN:Nat
 iL:Nat
 fO:List (Bs×Ser)
def gC:jh:=⟨0,0,[]⟩
noncomputable def gu (a:cZ)(w:jh)(m:jv):jh:=match aS (key m) w.fO with
 | some s=>⟨w.dN,if (ch a m s).2 then w.iL else w.iL+1,put cA (key m) (ch a m s).1 w.fO⟩
 | none=>if a.series<=w.fO.length then ⟨w.dN,w.iL+1,w.fO⟩
  else ⟨w.dN,if (ch a m (ik m.kind)).2 then w.iL else w.iL+1,put cA (key m) (ch a m (ik m.kind)).1 w.fO⟩
noncomputable def fX (a:cZ)(w:jh)(l:Bs):jh:=if l=[] then w else match rd l with
 | none=>⟨w.dN+1,w.iL,w.fO⟩
 | some m=>gu a w m
def lines:Bs->List Bs
 | []=>[[]]
 | c ::r=>if c=10 then [] ::lines r else match lines r with
  | []=>[[c]]
  | x ::y=>(c ::x) ::y
noncomputable def ju (a:cZ)(w:jh)(d:Bs):jh:=(lines d).foldl (fX a) w
noncomputable def oy (a:cZ)(b:List Bs):jh:=b.foldl (ju a) gC
def ff:List (Bs×Ser)->Bs
 | []=>[]
 | p ::r=>p.1++[61]++gV p.2++[10]++ff r
def jY (n:Int)(r d:Nat):Bs:=[119,105,110,100,111,119,32]++qb n++[32,114,101,106,101,99,116,115,32]++qb r++[32,100,114,111,112,115,32]++qb d++[10]
def ir (n:Int)(w:jh):Bs:=jY n w.dN w.iL++ff w.fO
end Wm
namespace Bounds
open Bytes Nums Spl Tags Vals Opts Plain
theorem rP {p:Int->Bool}{a:Int}{l:List UInt8}(h:made p a l=true):(l.length:Int)<=a:=by grind [made]
theorem pE {a:List (List UInt8)}{x:List UInt8}(h:x∈Yb a):x∈a:=by grind [Yb,Lib.compactUpTo]
theorem zG (a:List (List UInt8)):(Yb a).length<=a.length:=by grind [Yb,Lib.compactUpTo]
theorem sL {l:List UInt8}{a:List (List UInt8)}(h:cX l=Z a):a.length<=4/\∀x∈a,x.length<=8:=by
 unfold cX at h;split at h
 .split at h
  .split at h
   .rename_i e c;cases h;refine⟨by grind [zG,List.length_mergeSort],λx d=>?_⟩;have b:=pE d;rw[List.mem_mergeSort]at b;have:=rP (List.all_eq_true.1 c x b);omega
   cases h
  cases h
 cases h
theorem AF {k l:List UInt8}{r:Int}{ls:List (List UInt8)}(h:opts k l=Z (r,ls)):1<=r/\r<=1000/\ls.length<=4/\∀x∈ls,x.length<=8:=by
 unfold opts at h;split at h
 .split at h
  .cases h
  rw[Xa]at h;obtain⟨q,a,h⟩:=h;have b:=Ex a;grind [sL,ca]
 grind [sL,ca]
theorem signed_short {t l:List UInt8}{x:List UInt8×Int}(h:signed t l=Z x):-999999999<=x.2/\x.2<=999999999:=by
 unfold signed at h;rw[ca]at h;obtain⟨n,a,rfl⟩:=h;have b:=fv a;omega
theorem IV {k l k' x:List UInt8}{g:Bool}{v:Int}(h:rv k l=Z (k',g,v,x)):k'.length<=2/\-999999999<=v/\v<=999999999/\x.length<=16:=by
 unfold rv at h;split at h
 .split at h
  .rename_i b;have:=rP b;grind
  cases h
 split at h
 .rw[ca]at h;obtain⟨y,a,h⟩:=h;have:=signed_short a;grind
 split at h
 .rw[ca]at h;obtain⟨y,a,h⟩:=h;have:=signed_short a;grind
 split at h
 .rw[ca]at h;obtain⟨y,a,h⟩:=h;have:=signed_short a;grind
 cases h
theorem jS {l:List UInt8}{m:jv}(h:rd l=Z m):m.name.length<=16/\m.kind.length<=2/\m.word.length<=16/\(-999999999<=m.value/\m.value<=999999999)/\(1<=m.cw/\m.cw<=1000)/\m.tags.length<=4/\∀x∈m.tags,x.length<=8:=by
 unfold rd at h;split at h
 .split at h
  .rename_i a;have e:=rP a;unfold fE at h;split at h
   .rw[Xa]at h;obtain⟨x,d,h⟩:=h;have f:=IV (k':=x.1) (g:=x.2.1) (v:=x.2.2.1) (x:=x.2.2.2) d;split at h
    .rw[ca]at h;obtain⟨o,b,rfl⟩:=h;have c:=AF (r:=o.1) (ls:=o.2) b;grind
    grind
   cases h
  cases h
 cases h
theorem xn (a:List (List UInt8))(h:∀x∈a,x.length<=8):(Ya a [44]).length<=9*a.length:=by
 induction a with
 | nil=>simp[Ya]
 | cons x l c=>
  have f:=h x (List.mem_cons_self ..);have d:=c λy b=>h y (List.mem_cons_of_mem _ b)
  cases l with
  | nil=>
   simp[Ya];omega
  | cons y l=>
   have e:Ya (x ::y ::l) [44]=x++[44]++Ya (y ::l) [44]:=by
    simp[Ya,List.intercalate,List.intersperse]
   grind
end Bounds
namespace Wm
open Im Opts
theorem GR (v:Int):∃n s,mH.Kh v n s:=by
 by_cases h:0<=v/\v<=1000000000
 .have key:∀m:Nat,v<mH.dW (m+1)->∃k:Nat,mH.dW k<=v/\v<mH.dW (k+1):=by
   intro m
   induction m with
   | zero=>intro c;grind [mH.dW]
   | succ m d=>
    intro c;grind
  obtain⟨k,a,b⟩:=key v.toNat (by have:=mH.zy (v.toNat+1);omega);exact⟨k,_,Or.inr ⟨h.1,h.2,k,rfl,a,b,rfl⟩⟩
 exact⟨-1,0,Or.inl ⟨by omega,rfl,rfl⟩⟩
theorem FO (v:Int):mH.Kh v (bk v).1 (bk v).2:=by
 obtain⟨n,s,h⟩:=GR v;rw[FP h];exact h
theorem zw {v:Int}(e:0<=v)(f:v<=999999999):0<=(bk v).1/\(bk v).1<=1000000000/\0<=(bk v).2/\(bk v).2<=2000000000:=by
 obtain⟨a,b,_,_,c,d⟩:=mH.Sp (FO v) e (by omega);omega
def gB:List (Int×cL)->Int
 | []=>0
 | c ::r=>c.2.weight+gB r
theorem sQ {l r:List (Int×cL)}(h:l.Perm r):gB l=gB r:=by
 induction h with
 | nil=>rfl
 | cons x _ c=>simp[gB,c]
 | swap x y l=>simp only[gB];omega
 | trans _ _ a b=>rw[a,b]
section
variable {κ β : Type} [DecidableEq κ] {lt : κ -> κ -> Bool}
theorem bc {k:κ}{x:κ×β}{l:List (κ×β)}(h:x.1=k):aS k (x ::l)=Z x.2:=by simp[aS,h]
theorem aV {k:κ}{x:κ×β}{l:List (κ×β)}(h:x.1≠k):aS k (x ::l)=aS k l:=by simp[aS,h]
theorem dj {k:κ}{l:List (κ×β)}{b:β}(h:aS k l=Z b):(k,b)∈l:=by
 induction l with
 | nil=>cases h
 | cons x r a=>grind [bc,aV]
theorem jL {k:κ}{l:List (κ×β)}(h:aS k l=none):k∉l.map (·.1):=by
 have:=gR k l;grind [eE]
theorem Gi {l:List (κ×β)}(c:(l.map (·.1)).Nodup){k:κ}{b:β}(h:aS k l=Z b):l.Perm ((k,b) ::del k l):=by
 induction l with
 | nil=>cases h
 | cons x r d=>
  rw[List.map_cons,List.nodup_cons]at c;by_cases e:x.1=k
  .rw[bc e]at h;cases h;subst e;have a:del x.1 (x ::r)=r:=by
    show (x ::r).filter _=r;rw[Vb (by simp)];exact dZ x.1 r ((eE x.1 r).2 c.1)
   rw[a]
  rw[aV e]at h;have a:del k (x ::r)=x ::del k r:=Wb (by simp[e]);rw[a];exact(List.Perm.cons x (d c.2 h)).trans (List.Perm.swap _ _ _)
theorem jC {l:List (κ×β)}(a:(l.map (·.1)).Nodup){k:κ}{b b':β}(h:aS k l=Z b):∃r,l.Perm ((k,b) ::r)/\(put lt k b' l).Perm ((k,b') ::r):=
 ⟨del k l,Gi a h,rD _ _⟩
theorem jB {l:List (κ×β)}{k:κ}{b':β}(h:aS k l=none):(put lt k b' l).Perm ((k,b') ::l):=by grind [gR,dZ,rD,put]
theorem kQ {l:List (κ×β)}(e:(l.map (·.1)).Nodup){k:κ}{b a:β}(h:aS k l=Z b):(put lt k a l).length=l.length:=by
 obtain⟨r,c,d⟩:=jC (lt:=lt) (b':=a) e h;rw[c.length_eq,d.length_eq];rfl
theorem fI {l:List (κ×β)}{k:κ}{b':β}(h:aS k l=none):(put lt k b' l).length=l.length+1:=by
 rw[(jB h).length_eq];rfl
theorem gL {l:List (κ×β)}(a:(l.map (·.1)).Nodup){k:κ}{b':β}:l.length<=(put lt k b' l).length/\(put lt k b' l).length<=l.length+1:=by
 cases h:aS k l with
 | none=>rw[fI h];omega
 | some b=>rw[kQ a h];omega
theorem eT {l:List (κ×β)}{k:κ}{b:β}{p:κ×β}(h:p∈put lt k b l):p=(k,b)\/(p∈l/\p.1≠k):=by
 rcases (kA _ _ _).1 h with h|h
 .exact Or.inl h
 grind [del]
end
variable {c:cZ}{d:jv}{g:UInt8}
theorem CU {v wt:Int}{l:List (Int×cL)}(h:Up dJ l):gB (lay v wt l)=gB l+wt:=by
 have e:=Up.nodup qt h;unfold lay qI;cases a:aS (bk v).1 l with
 | none=>
  rw[sQ (jB a)];grind [gB]
 | some b=>
  obtain⟨r,c,d⟩:=jC (lt:=dJ) (b':=⟨(bk v).2,b.weight+wt⟩) e a;rw[sQ c,sQ d];grind [gB]
theorem JH {v wt:Int}{l:List (Int×cL)}(h:Up dJ l):Up dJ (lay v wt l):=h.put oO oN _ _
theorem JF (l:List (Int×cL)):gB (fold l)=gB l:=by
 match l with
 | []=>rfl
 | [a]=>rfl
 | a ::b ::r=>grind [fold,gB]
theorem Mw {l:List (Int×cL)}(h:Up dJ l):Up dJ (fold l):=by
 match l,h with
 | [],h=>exact h
 | [a],h=>exact h
 | a ::b ::r,h=>
  obtain⟨_,c⟩:=Va.1 h;obtain⟨d,e⟩:=Va.1 c;exact Va.2 ⟨d,e⟩
theorem wS {l:List (Int×cL)}(h:2<=l.length):(fold l).length+1=l.length:=by
 match l,h with
 | a ::b ::r,h=>simp[fold]
theorem KN {a b:Int×cL}{r:List (Int×cL)}(h:Up dJ (a ::b ::r)):del a.1 (put dJ b.1 ⟨b.2.aL,b.2.weight+a.2.weight⟩ (a ::b ::r))=fold (a ::b ::r):=by
 obtain⟨k,e⟩:=Va.1 h;obtain⟨f,l⟩:=Va.1 e;have g:a.1<b.1:=by grind [dJ]
 have i:∀x∈r,b.1<x.1:=λx j=>by simpa[dJ] using f x j
 have c:del b.1 (a ::b ::r)=a ::r:=by
  show (a ::b ::r).filter _=_;grind [List.filter_eq_self]
 have d:ins dJ (b.1,(⟨b.2.aL,b.2.weight+a.2.weight⟩:cL)) (a ::r)=a ::(b.1,⟨b.2.aL,b.2.weight+a.2.weight⟩) ::r:=by
  rw[ins,if_neg (by simp[dJ];omega)];congr 1;cases r with
  | nil=>rfl
  | cons x r=>rw[ins,if_pos (by simpa[dJ] using i x (List.mem_cons_self ..))]
 rw[put,c,d];show (a ::_ ::r).filter _=_;rw[Vb (by simp),Wb (by simp;omega),List.filter_eq_self.2]
 .rfl
 grind
structure iu (L:cZ)(n:Nat)(t:pZ):Prop where
 count:0<=t.count/\t.count<=top
 sum:0<=t.sum/\t.sum<=top
 least:0<=t.least/\t.least<=999999999
 al:0<=t.al/\t.al<=999999999
 up:Up dJ t.cells
 len:t.cells.length<=L.buckets
 gB:gB t.cells<=1000*n
 tJ:∀c∈t.cells,0<=c.1/\c.1<=1000000000/\0<=c.2.aL/\c.2.aL<=2000000000/\0<=c.2.weight
theorem vV {k:Int}{l:List (Int×cL)}(h:∀c∈l,0<=c.2.weight):0<=qI k l/\qI k l<=gB l:=by
 have b:∀l:List (Int×cL),(∀c∈l,0<=c.2.weight)->0<=gB l:=by
  intro l
  induction l with
  | nil=>intro _;exact Int.le_refl _
  | cons x r a=>
   intro h;grind [gB]
 induction l with
 | nil=>exact⟨Int.le_refl _,Int.le_refl _⟩
 | cons x r a=>grind [bc,aV,qI,gB]
theorem BG (n:Int):-top<=dW n/\dW n<=top:=by
 unfold dW top;omega
theorem iu.add {n:Nat}{t:pZ}(h:iu c n t)(y:2<=c.buckets){v wt:Int}(g:0<=v)(s:v<=999999999)(w:1<=wt)(x:wt<=1000):iu c (n+1) (dq c.buckets t v wt):=by
 have z:0<=v*wt:=Int.mul_nonneg g (by omega);have hlen:=gL (lt:=dJ) (k:=(bk v).1) (b':=⟨(bk v).2,qI (bk v).1 t.cells+wt⟩) (Up.nodup qt h.up);have i:(lay v wt t.cells).length<=t.cells.length+1:=hlen.2;have A:=vV (k:=(bk v).1) (λf e=>(h.tJ f e).2.2.2.2);obtain⟨m,o,p,q⟩:=zw g s;have d:∀f∈lay v wt t.cells,0<=f.1/\f.1<=1000000000/\0<=f.2.aL/\f.2.aL<=2000000000/\0<=f.2.weight:=by
  intro f e;rcases eT e with rfl|⟨e,_⟩
  .exact⟨m,o,p,q,by grind⟩
  exact h.tJ f e
 have j:=CU (v:=v) (wt:=wt) h.up;have u:=JH (v:=v) (wt:=wt) h.up;have q1:=h.count;have B:=h.sum;have D:=h.least;have E:=h.al;have F:=h.len;have G:=h.gB;refine⟨by grind [dq,dW],by grind [dq,dW],by grind [dq],by grind [dq],by grind [Mw,dq],by grind [wS,dq],by grind [JF,dq],?_⟩;simp only[dq];split
 .intro f e;generalize lay v wt t.cells=l at *
  match l,e,d with
  | [],e,d=>exact d f e
  | [a],e,d=>exact d f e
  | a ::b ::r,e,d=>
   rcases List.mem_cons.1 e with rfl|e
   .grind
   grind
 exact d
theorem iu.zero (L:cZ)(n:Nat):iu L n ⟨0,0,0,0,[],false⟩:=
 ⟨by simp[top],by simp[top],by simp,by simp,eb,Nat.zero_le _,by simp only[Wm.gB];omega,by simp⟩
theorem iu.mono {n m:Nat}{t:pZ}(h:iu c n t)(a:n<=m):iu c m t:=
 ⟨h.count,h.sum,h.least,h.al,h.up,h.len,by have:=h.gB;omega,h.tJ⟩
def kindOf (k:Bs):Bs:=Bytes.aM 124 (Bytes.cO 124 k)
def fits (k:Bs):Ser->Prop
 | .set _=>k=[115]
 | .tim _=>k=[109,115]
 | .num _=>k=[99]\/k=[103]
def To (a:cZ)(n:Nat):Ser->Prop
 | .num x =>-top<=x/\x<=top
 | .set b=>Up cA b/\b.length<=a.sets
 | .tim t=>iu a n t
structure kT (L:cZ)(n:Nat)(k:Bs)(s:Ser):Prop where
 kind:fits (kindOf k) s
 DS:k.length<=64
 ok:To L n s
theorem kT.mono {n m:Nat}{k:Bs}{s:Ser}(h:kT c n k s)(a:n<=m):kT c m k s:=by
 refine⟨h.kind,h.DS,?_⟩;have:=h.ok;cases s with
 | num x=>exact this
 | set b=>exact this
 | tim t=>exact iu.mono this a
structure eX (L:cZ)(n:Nat)(w:jh):Prop where
 cnt:w.dN+w.iL<=n
 up:Up cA w.fO
 len:w.fO.length<=L.series
 fO:∀p∈w.fO,kT L n p.1 p.2
theorem eX.zero (L:cZ):eX L 0 gC:=⟨Nat.le_refl _,eb,Nat.zero_le _,by simp[gC]⟩
theorem eX.mono {n m:Nat}{w:jh}(h:eX c n w)(a:n<=m):eX c m w:=⟨by have:=h.cnt;omega,h.up,h.len,λp b=>(h.fO p b).mono a⟩
theorem pJ {a b:Bs}(h:g∉a):Bytes.aM g (a++g ::b)=a:=by
 induction a with
 | nil=>simp[Bytes.aM]
 | cons x a c=>grind [Bytes.aM,Za]
theorem wT {a:Bs}(h:g∉a):Bytes.aM g a=a:=by
 induction a with
 | nil=>rfl
 | cons x a b=>grind [Bytes.aM,Za]
theorem qO {a b:Bs}(h:g∉a):Bytes.cO g (a++g ::b)=b:=by
 induction a with
 | nil=>simp[Bytes.cO]
 | cons x a c=>grind [Bytes.cO,List.dropWhile_cons_of_pos]
theorem Ci {a:Int}{l:Bs}(h:Bytes.made Bytes.oA a l=true):(124:UInt8)∉l:=by
 intro b;simp only[Bytes.made,Bool.and_eq_true,List.all_eq_true]at h;have:=h.2.2 124 b
 revert this
 decide
theorem vF {k l a x:Bs}{g:Bool}{v:Int}(h:Vals.rv k l=Z (a,g,v,x)):(a=[115]\/a=[99]\/a=[103]\/(a=[109,115]/\0<=v)):=by
 unfold Vals.rv at h;split at h
 .grind
 split at h
 .grind [ca]
 split at h
 .grind [ca]
 split at h
 .simp only[ca]at h;obtain⟨y,b,h⟩:=h;cases h;refine Or.inr (Or.inr (Or.inr ⟨rfl,?_⟩));unfold Vals.signed at b;simp only[ca]at b;obtain⟨n,c,rfl⟩:=b;have e:Nums.sg [] l=[]:=by
   unfold Nums.sg;split<;>simp[Bytes.has]
  rw[e]at c ⊢;have:=(Nums.fv c).1;simpa using this
 cases h
theorem mq {l:Bs}  (h:rd l=Z d):(124:UInt8)∉d.name/\(d.kind=[115]\/d.kind=[99]\/d.kind=[103]\/(d.kind=[109,115]/\0<=d.value)):=by
 unfold rd at h;split at h
 .split at h
  .rename_i c;unfold fE at h;split at h
   .simp only[Xa]at h;obtain⟨⟨e,g,v,x⟩,a,h⟩:=h;have b:=vF a;grind [Ci,ca]
   cases h
  cases h
 cases h
theorem eo {l:Bs}  (h:rd l=Z d):kindOf (key d)=d.kind:=by grind [mq,qO,wT,pJ,kindOf,key,Plain.pt]
theorem Cc {l:Bs}  (h:rd l=Z d):(key d).length<=64:=by grind [Bounds.jS,Bounds.xn,key,Plain.pt]
theorem kT.take {n:Nat}{k l:Bs}{s:Ser}  (h:kT c n k s)(o:2<=c.buckets)(j:rd l=Z d)(p:kindOf k=d.kind):kT c (n+1) k (ch c d s).1:=by
 obtain⟨_,q⟩:=mq j;obtain⟨_,_,_,u,r,_⟩:=Bounds.jS j;have a:=h.ok;have b:=h.kind;refine⟨?_,h.DS,?_⟩
 .cases s with
  | num x=>exact b
  | tim t=>exact b
  | set f=>
   simp only[ch];split
   .exact b
   split<;>exact b
 cases s with
 | num x=>exact BG _
 | tim t=>
  have e:d.kind=[109,115]:=by rw[<-p];exact b
  have m:0<=d.value:=by grind
  exact iu.add a o m u.2 (Int.le_ediv_of_mul_le (by omega) (by omega)) (Int.ediv_le_self _ (by omega))
 | set f=>
  by_cases g:has d.word f=true
  .simp only[ch,g,if_true];exact a
  by_cases i:c.sets<=f.length
  .simp only[ch,g,i,if_true,if_false,Bool.false_eq_true];exact a
  simp only[ch,g,i,if_false,Bool.false_eq_true];have a:Up cA f/\f.length<=c.sets:=a;refine⟨a.1.put dE fU _ _,?_⟩;grind [gL,Up.nodup,dO]
theorem kT.zero {L:cZ}{n:Nat}{l:Bs}  (b:rd l=Z d):kT L n (key d) (ik d.kind):=by
 obtain⟨_,a⟩:=mq b;refine⟨by grind [eo,ik,fits],Cc b,?_⟩;rcases a with e|e|e|⟨e,_⟩<;>rw[e]
 .exact⟨eb,Nat.zero_le _⟩
 .exact⟨by decide,by decide⟩
 .exact⟨by decide,by decide⟩
 exact iu.zero _ _
theorem eX.take {n:Nat}{w:jh}{l:Bs}  (h:eX c n w)(i:2<=c.buckets)(e:rd l=Z d):eX c (n+1) (gu c w d):=by
 have k:=h.cnt;have a:∀s,kT c (n+1) (key d) s->∀p∈put cA (key d) s w.fO,kT c (n+1) p.1 p.2:=λs f p b=>by
  rcases eT b with rfl|⟨b,_⟩
  .exact f
  exact(h.fO p b).mono (Zb _)
 have g:=λs:Ser=>h.up.put dE fU (key d) s
 unfold gu;split
 .rename_i s f;have j:=h.fO _ (dj f);refine⟨by grind,g _,?_,a _ (j.take i e (eo e))⟩;simp only[kQ (Up.nodup dO h.up) f];exact h.len
 rename_i f;split
 .exact⟨by simp only;omega,h.up,h.len,λp b=>(h.fO p b).mono (Zb _)⟩
 refine⟨by grind,g _,?_,a _ ((kT.zero e).take i e (eo e))⟩;grind [fI]
theorem eX.line {n:Nat}{w:jh}(h:eX c n w)(a:2<=c.buckets)(l:Bs):eX c (n+1) (fX c w l):=by
 unfold fX;split
 .exact h.mono (Zb _)
 split
 .have:=h.cnt;exact⟨by simp only;omega,h.up,h.len,λp b=>(h.fO p b).mono (Zb _)⟩
 rename_i m d;exact h.take a d
end Wm
namespace Im
open Go
section
variable {P : Program} {k e t : Uc} {κ β : Type} {lit : κ -> Lit} {f : β -> C} {ok : C -> Bool} {w : N} {b n : Nat} {l : List (κ × β)}
theorem oZ {w':N}{R:C->Option (DataW C×List MemPlace)}{D:DataW C}(h:w.ownsMap P k R b n D)(f:w'.heap[b]? = w.heap[b]?):w'.ownsMap P k R b n D:=by
 obtain⟨c,a,d,e⟩:=h;exact⟨c,a,f.trans d,e⟩
theorem nQ (h:w.ownsMap P k (kg ok) b n (mp lit f l))(d:P.underlying t=Z (.map k e))(ty:Uc):∀a:N,a.heap[b]? = w.heap[b]?->(Builtin.len_ #[t] ty #[.map (Z b)]).run P a=.ok (I O l.length) a:=by
 intro a c;have:=(oZ h c).len d ty;grind [gK]
def fL (P:Program)(k:Uc)(ok:C->Bool)(lit:κ->Lit)(f:β->C)(w:N)(b:Nat)(l:List (κ×β)):Prop:=w.ownsMap P k (kg ok) b l.length (mp lit f l)
theorem fL.below (h:fL P k ok lit f w b l):b<w.heap.size:=World.ownsMap.lt h
theorem fL.at {a:N}(h:fL P k ok lit f w b l)(c:a.heap[b]? = w.heap[b]?):fL P k ok lit f a b l:=oZ h c
theorem fL.of (h:w.ownsMap P k (kg ok) b n (mp lit f l)):fL P k ok lit f w b l:=by
 have:=jR h;rwa [gK]at this
theorem oU (w:N):fL P k ok lit f (w.alloc (.map #[] 0)) w.heap.size ([]:List (κ×β)):=World.ownsMap_made w P k (kg ok)
end
section
variable {P : Program} {k e t : Uc} {κ β : Type} [DecidableEq κ] {lit : κ -> Lit} {lt : κ -> κ -> Bool} {f : β -> C} {ok : C -> Bool} {w : N} {b n : Nat} {l : List (κ × β)}
def elemOf (f:β->C)(z:C)(a:κ)(l:List (κ×β)):Value:=match aS a l with
 | some x=>f x
 | none=>z
theorem iU (h:w.ownsMap P k (kg ok) b n (mp lit f l))(K:Vc P k)(p:P.underlying t=Z (.map k e)){z:C}(hz:∀w,(zeroValue e).run P w=.ok z w)(g:ok z=true)(o:∀a b,(lit a).sameKey (lit b)=decide (a=b)){key:C}{a:κ}(c:keyOf P k key=Z (lit a)):
  ∀d:N,d.heap[b]? = w.heap[b]?->(Instr.lookup t (.map (Z b)) key false).run P d=.ok (elemOf f z a l) d:=by
 intro d m;obtain⟨v,r,i,q⟩:=(oZ h m).lookup K p (hz d) (kr g) c;obtain⟨_,j⟩:=mc q;rw[Hg o]at j;grind [elemOf]
theorem pO (h:w.ownsMap P k (kg ok) b n (mp lit f l))(K:Vc P k)(p:P.underlying t=Z (.map k e)){z:C}(hz:∀w,(zeroValue e).run P w=.ok z w)(g:ok z=true)(o:∀a b,(lit a).sameKey (lit b)=decide (a=b)){key:C}{a:κ}(c:keyOf P k key=Z (lit a)):
  ∀d:N,d.heap[b]? = w.heap[b]?->(Instr.lookup t (.map (Z b)) key true).run P d=.ok (.tuple #[elemOf f z a l,.bool (has a l)]) d:=by
 intro d m;obtain⟨v,r,i,q⟩:=(oZ h m).look_ok K p (hz d) (kr g) c;obtain⟨_,j⟩:=mc q;rw[Hg o]at j;grind [Hh,elemOf]
theorem qG (h:fL P k ok lit f w b l)(K:Vc P k)(i:P.underlying t=Z (.map k e))(q:∀a b,(lit a).sameKey (lit b)=decide (a=b))(p:∀a b,(lit a).before (lit b)=lt a b)(g:l.length<maxLen){key:C}{a:κ}(c:keyOf P k key=Z (lit a))(x:β)(j:ok (f x)=true):
  ∃d,(Instr.mapUpdate t (.map (Z b)) key (f x)).run P w=.ok () d/\fL P k ok lit f d b (put lt a x l)/\w.grownBy d (Z b):=by
 obtain⟨d,m,n,o⟩:=World.ownsMap.update h K i g c (kr j);grind [vq,fL.of]
theorem KC (h:fL P k ok lit f w b l)(K:Vc P k)(g:P.underlying t=Z (.map k e))(n:∀a b,(lit a).sameKey (lit b)=decide (a=b)){key:C}{a:κ}(c:keyOf P k key=Z (lit a))(ty:Uc):
  ∃d,(Builtin.delete_ #[t,k] ty #[.map (Z b),key]).run P w=.ok (.tuple #[]) d/\fL P k ok lit f d b (del a l)/\w.grownBy d (Z b):=by
 obtain⟨d,i,j,m⟩:=World.ownsMap.drop h K g c ty;grind [vp,fL.of,World.mapTurned.grown]
end
end Im
namespace Hk
open Go.RowKit Go.Maps Mem Foot Im Wm
def cv (c:cL):Value:=.agg #[I O c.aL,I O c.weight]
def SQ:C->Bool
 | .agg a=>match a.toList with
  | [I O _,I O _]=>true
  | _=>false
 | _=>false
def zC:Value:=.agg #[I O 0,I O 0]
def Cells (w:N)(b:Nat)(l:List (Int×cL)):Prop:=fL Ua 3 SQ jk cv w b l
theorem Dc (w:N):(zeroValue 340).run Ua w=.ok zC w:=Tryz.zeroValue340 w
structure jj (w:N)(S b:Nat)(mx:Nat)(l:List (Int×cL))(folded:Bool):Prop where
 head:af w S 303 #[I O mx,.map (Z b),.bool folded]
 map:Cells w b l
theorem de {F:List Nat}{w a:N}{b:Nat}(h:w.grownBy a (Z b))(f:b∈F):an F w a:=
 ⟨h.os,h.tape,h.output,h.size,λk d c=>h.block k d (λe=>c (by grind))⟩
theorem Cells.off {F:List Nat}{w a:N}{b:Nat}{l:List (Int×cL)}(h:Cells w b l)(d:an F w a)(c:b∉F):Cells a b l:=fL.at h (d.block b h.below c)
theorem jj.off {F:List Nat}{w d:N}{S b c:Nat}{l:List (Int×cL)}{f:Bool}(h:jj w S b c l f)(a:an F w d)(e:S∉F)(g:b∉F):jj d S b c l f:=
 ⟨Foot.af.off h.head a e,h.map.off a g⟩
theorem QS (a:Nat)(w:N):Calls Ua 263 #[I O a] w λe b=>e=.returned (.pointer (Z ⟨w.heap.size+1,0,none⟩))/\jj b (w.heap.size+1) w.heap.size a [] false/\Below w.heap.size w b:=by
 have c:=@run_makeMap Ua;go_in;go_wp2_with fail;go_ret;exact⟨by simp,⟨by have:=af.new (w.alloc (.map #[] 0)) 303 #[I O a,.map (Z w.heap.size),.bool false];simpa using this,fL.at (oU w) (Below.heap_alloc _ _ _ (by simp))⟩,(ai _).alloc (by simp) _⟩
theorem bounded (n:Int)(w:N):Calls Ua 182 #[I O n] w λe a=>e=.returned (I O (Wm.dW n))/\a=w:=by
 by_cases b:n < -1000000000000000
 .go_in;go_wp2;go_ret;refine⟨congrArg (λz=>Xb (I O z)) ?_,rfl⟩;grind [dW,top]
 by_cases c:n<=1000000000000000
 .go_in;go_wp2;go_ret;refine⟨congrArg (λz=>Xb (I O z)) ?_,rfl⟩;grind [dW,top]
 go_in;go_wp2;go_ret;refine⟨congrArg (λz=>Xb (I O z)) ?_,rfl⟩;grind [dW,top]
theorem folded (S b a:Nat)(l:List (Int×cL))(f:Bool)(w:N)(h:jj w S b a l f):Calls Ua 157 #[.pointer (Z ⟨S,0,none⟩)] w λe c=>e=.returned (.bool f)/\c=w:=by
 have c2:=h.head.Ri 2;go_in;go_wp2_with fail;go_ret;simp_all
def Tk:C->Bool
 | .agg a=>a.size==0
 | _=>false
def uv (_:Unit):Value:=.agg #[]
def Words (w:N)(b:Nat)(l:List (Bs×Unit)):Prop:=fL Ua 9 Tk jl uv w b l
theorem Rz (w:N):(zeroValue 322).run Ua w=.ok (.agg #[]) w:=Tryz.zeroValue322 w
structure qa (w:N)(S b:Nat)(mx:Nat)(l:List (Bs×Unit)):Prop where
 head:af w S 252 #[I O mx,.map (Z b)]
 map:Words w b l
theorem qa.off {F:List Nat}{w d:N}{S b c:Nat}{l:List (Bs×Unit)}(h:qa w S b c l)(a:an F w d)(e:S∉F)(f:b∉F):qa d S b c l:=
 ⟨Foot.af.off h.head a e,fL.at h.map (a.block b h.map.below f)⟩
theorem Rx (a:Nat)(w:N):Calls Ua 227 #[I O a] w λe b=>e=.returned (.pointer (Z ⟨w.heap.size+1,0,none⟩))/\qa b (w.heap.size+1) w.heap.size a []/\Below w.heap.size w b:=by
 have c:=@run_makeMap Ua;go_in;go_wp2_with fail;go_ret;exact⟨by simp,⟨by have:=af.new (w.alloc (.map #[] 0)) 252 #[I O a,.map (Z w.heap.size)];simpa using this,fL.at (oU w) (Below.heap_alloc _ _ _ (by simp))⟩,(ai _).alloc (by simp) _⟩
theorem Rv (S b d:Nat)(l:List (Bs×Unit))(w:N)(h:qa w S b d l):Calls Ua 121 #[.pointer (Z ⟨S,0,none⟩)] w λe f=>e=.returned (I O l.length)/\f=w:=by
 have c1:=h.head.Ri 1;have a:=nQ h.map Wa;have c:=λty=>a ty w rfl
 clear a;go_in;go_wp2_with fail;go_ret;simp_all
theorem qa.keep {w c:N}{S b a:Nat}{l:List (Bs×Unit)}(h:qa w S b a l)(d:Below w.heap.size w c):qa c S b a l:=
 h.off (F:=[]) (an.ag d) (by simp) (by simp)
def px (a:Nat)(x:Bs)(l:List (Bs×Unit)):List (Bs×Unit)×Bool:=if has x l then (l,true) else if a<=l.length then (l,false) else (put cA x () l,true)
theorem dp {w:N}{b k:Nat}{t:Uc}{c:Array C}{κ β:Type}{K:Uc}{ok:C->Bool}{lit:κ->Lit}{f:β->C}{l:List (κ×β)}(h:fL Ua K ok lit f w b l)(i:af w k t c):k≠b:=by
 intro e;subst e;obtain⟨d,a,g,_⟩:=h;grind [af]
set_option maxRecDepth 10000 in
theorem Ru (S b f:Nat)(l:List (Bs×Unit))(s:ByteArray)(w:N)(h:qa w S b f l)(G:l.length<1000)(A:s.size<=1000):Calls Ua 180 #[.pointer (Z ⟨S,0,none⟩),.string s] w λe x=>
  e=.returned (.bool (px f (Bytes.B s) l).2)/\an [b] w x/\qa x S b f (px f (Bytes.B s) l).1:=by
 have g:keyOf Ua 9 (.string s)=Z (jl (Bytes.B s)):=Go.WideMaps.keyOf_string_mk Ub (by unfold maxLen;omega);have a:=pO h.map (string_keyed Ub) Wa Rz rfl jT g;have y:=aa h;have z:Im.elemOf uv (.agg #[]) (Bytes.B s) l=.agg #[]:=by
  unfold Im.elemOf;split<;>rfl
 rw[z]at a;have j:=a w rfl;have c1:=h.head.Ri 1;cases m:has (Bytes.B s) l with
 | true=>
  rw[m]at j;have i:px f (Bytes.B s) l=(l,true):=by rw[px,if_pos m]
  rw[i];clear a h;go_in;go_wp2_with fail;go_ret;have k:Below w.heap.size w (w.alloc (.cells #[] 322)):=ai _;exact⟨rfl,an.ag k,y.keep k⟩
 | false=>
  rw[m]at j;have k:Below w.heap.size w (w.alloc (.cells #[] 322)):=ai _;have p:=aa k;have c:=aa (h.keep k);change Hid _ at m;clear a h k;go_in;go_wp2_with fail;clear j c1;generalize w.alloc (.cells #[] 322)=o at *;have u:=c.head.Ri 0;have c1:=c.head.Ri 1;have hlen:=λty=>nQ c.map Wa ty o.drew rfl
  by_cases H:f<=l.length
  .have hz:(f:Int)<=(l.length:Int):=by omega
   have i:px f (Bytes.B s) l=(l,false):=by grind [Hid,px]
   change Hid _ at i;go_region
   all_goals
    go_wp2_with fail;go_ret;rw[i.out];exact⟨rfl,(an.ag p).drewN 1,c.keep (ax (n:=1) (Below.refl _ _))⟩
  have hz:(l.length:Int)<(f:Int):=by omega
  have i:px f (Bytes.B s) l=(put cA (Bytes.B s) () l,true):=by grind [Hid,px]
  change Hid _ at i;go_region
  all_goals
   have d:Hid (qa (o.drew) S b f l):=c.keep (ax (n:=1) (Below.refl _ _));have q:Hid (an [b] w (o.drew)):=(an.ag p).drewN 1;clear u c1 hlen p c;generalize o.drew=E at *;have u:=d.head.Ri 0;have c1:=d.head.Ri 1;obtain⟨J,D,t,r⟩:=qG (lt:=cA) d.map (string_keyed Ub) Wa jT pR (by unfold maxLen;omega) g () rfl;simp only[uv]at D;change Hid _ at t r;go_wp2_with fail;go_ret;have v:=de (F:=[b]) r (by simp);rw[i.out];refine⟨rfl,q.trans v,Foot.af.off d.head v ?_,t⟩;simpa using dp d.map d.head
end Hk
end Go.Proofs.YtpndiccohnafbaaGreatDoor
