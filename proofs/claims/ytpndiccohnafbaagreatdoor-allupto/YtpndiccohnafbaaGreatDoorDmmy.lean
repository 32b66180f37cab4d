/- A disk, as the document has it: no Go in sight. Places and turns in a disk's list: no Go in sight. A disk's measures, and what stays good: no Go in sight. Segments that have been sorted, by their places: no Go in sight. Segments as a row of cells, three a segment. -/
import Derived.Laws.AppendOwn
import Derived.Test.YtpndiccohnafbaaGreatDoorMemy
import Derived.Test.YtpndiccohnafbaaGreatDoorLeaf
import Derived.Deep.QuietTactic
import Derived.BigQuiet
import Derived.Lib.MinMax
open Option renaming none->Y,some->Z,map_eq_some_iff->Vb
open Go.Value renaming int->I,pointer->ca
open Go.IntKind renaming i64->O
open Go.Ending renaming returned->Ua,returned->Yb
open List renaming getElem?_eq_getElem->Va,mem_of_getElem?->Wa,mem_cons_self->Xa,mem_cons_of_mem->Za,pairwise_iff_getElem->eb,pairwise_cons->qb,eq_nil_of_length_eq_zero->Wb,mem_of_mem_eraseIdx->Xb,eraseIdx_sublist->Zb
open Nat renaming le_trans->Ya
open Go.Proofs.Tryz renaming prog->Ub
open Go renaming World->N
namespace Go.Proofs.YtpndiccohnafbaaGreatDoor
namespace Dm
open Bytes
structure bM where
 num:Int
 text:ByteArray
 cJ:Nat
structure Dk where
 ah:List bM
 left:Int
 room:Int
def fresh:Dk:=⟨[],-1,-1⟩
def used (l:List bM):Nat:=(l.map (·.text.size)).sum
def place (n:Int):List bM->Option Nat
 | []=>Y
 | s ::l=>if s.num=n then Z 0 else (place n l).map (·+1)
def op (S:Dk):Dk:={S with left:=if 0<S.left then S.left - 1 else S.left}
def bT (n:Int)(f:bM->bM)(l:List bM):List bM:=l.map λs=>if s.num=n then f s else s
def bJ (n:Int):List bM->List bM
 | []=>[⟨n,⟨#[]⟩,0⟩]
 | s ::l=>if s.num=n then s ::l else if n<s.num then ⟨n,⟨#[]⟩,0⟩ ::s ::l else s ::bJ n l
def aB (S:Dk)(n:Int)(t:ByteArray):Dk×Int:=
 if S.left=0 then (S,8)
 else if n<0 then (op S,9)
 else if 0<=S.room/\S.room<(used S.ah:Int)+t.size then (op S,7)
 else ({op S with ah:=bT n (λs=>{s with text:=s.text++t}) (bJ n S.ah)},0)
def bz (S:Dk)(n:Int):Dk×Int:=
 if S.left=0 then (S,8)
 else match place n S.ah with
  | none=>(op S,9)
  | some _=>({op S with ah:=bT n (λs=>{s with cJ:=s.text.size}) S.ah},0)
def cx (S:Dk)(n k:Int):Dk×Int:=
 if S.left=0 then (S,8)
 else match place n S.ah with
  | none=>(op S,9)
  | some i=>
   if 0<=k/\k<=((S.ah[i]?).map (λs=>(s.text.size:Int))).getD (-1) then ({op S with ah:=bT n (λs=>{s with text:=s.text.extract 0 k.toNat,cJ:=min s.cJ k.toNat}) S.ah},0)
   else (op S,9)
def aF (S:Dk)(n:Int):Dk×Int:=
 if S.left=0 then (S,8)
 else match place n S.ah with
  | none=>(op S,9)
  | some i=>({op S with ah:=S.ah.eraseIdx i},0)
def dt (S:Dk)(n:Int):ByteArray×Int:=
 if S.left=0 then (⟨#[]⟩,8)
 else match place n S.ah with
  | none=>(⟨#[]⟩,9)
  | some i=>(((S.ah[i]?).map (·.text)).getD ⟨#[]⟩,0)
def fM (S:Dk):List Int×Int:=if S.left=0 then ([],8) else (S.ah.map (·.num),0)
def fH (S:Dk)(a b:Int):Dk:={S with left:=if a<0 then -1 else a,room:=if b<0 then -1 else b}
def dT (t:Int)(s:bM):bM:=
 if t<(s.text.size:Int) - s.cJ then {s with text:=s.text.extract 0 (s.cJ+t.toNat),cJ:=s.cJ+t.toNat} else {s with cJ:=s.text.size}
def eH (S:Dk)(t:Int):Dk:=⟨S.ah.map (dT (if t<0 then 0 else t)),-1,-1⟩
structure Good (S:Dk):Prop where
 bQ:S.ah.Pairwise λa b=>a.num<b.num
 cJ:∀s∈S.ah,s.cJ<=s.text.size
 num:∀s∈S.ah,0<=s.num/\s.num<=9223372036854775807
 left:-1<=S.left/\S.left<=9223372036854775807
 room:-1<=S.room/\S.room<=9223372036854775807
variable {a b:Nat}{c:Int}{d:Dk}{e:List bM}{g:bM}{h:bM -> bM}
theorem gA:∀{l:List bM} {i:Nat},place c l=Z i->∃s,l[i]? = Z s/\s.num=c:=by
 intro l
 induction l with
 | nil=>intro i h;cases h
 | cons s l a=>grind [place,Vb]
theorem kB:∀{l:List bM},place c l=Y->∀s∈l,s.num≠c:=by
 intro l
 induction l with
 | nil=>grind
 | cons t l a=>grind [place,Option.map_eq_none_iff]
theorem lN:∀{l:List bM} {i:Nat} {s:bM},(∀j t,j<i->l[j]? = Z t->t.num≠c)->l[i]? = Z s->s.num=c->place c l=Z i:=by
 intro l
 induction l with
 | nil=>grind
 | cons t l f=>
  intro i s a e d;rw[place];cases i with
  | zero=>grind
  | succ i=>
   have b:=a 0 t (by omega) rfl;grind
theorem um:∀{l:List bM},(∀(j:Nat) t,l[j]? = Z t->t.num≠c)->place c l=Y:=by
 intro l
 induction l with
 | nil=>intro _;rfl
 | cons t l b=>
  intro a;rw[place,if_neg (a 0 t rfl),b (λj u d=>a (j+1) u (by grind))];rfl
theorem iH (h:e.Pairwise λc d=>c.num<d.num)  {t:bM}(i:e[a]? = Z g)(j:e[b]? = Z t)(f:g.num=t.num):a=b:=by grind [eb]
theorem fG (f:e.Pairwise λd b=>d.num<b.num)   (i:e[a]? = Z g)(k:g.num=c):bT c h e=e.set a (h g):=by
 refine List.ext_getElem? λj=>?_
 grind [iH,bT]
theorem ix:∀{l:List bM} {i:Nat} {s:bM},l.Pairwise (λa b=>a.num<b.num)->l[i]? = Z s->s.num=c->bJ c l=l:=by
 intro l
 induction l with
 | nil=>grind
 | cons t l d=>grind [bJ,qb]
theorem mN:∀{l:List bM},l.Pairwise (λa b=>a.num<b.num)->(∀s∈l,s.num≠c)->bJ c l=l.filter (λs=>decide (s.num<c))++⟨c,⟨#[]⟩,0⟩ ::l.filter (λs=>decide (c<s.num)):=by
 intro l
 induction l with
 | nil=>intro _ _;rfl
 | cons t l d=>grind [bJ,qb,List.filter_eq_nil_iff,List.filter_eq_self]
theorem fR {n:Int}:∀{l:List bM},l.Pairwise (λa b=>a.num<b.num)->(bJ n l).Pairwise (λa b=>a.num<b.num):=by
 intro l d;by_cases h:∃s∈l,s.num=n
 .grind [ix,List.getElem?_of_mem]
 have c:∀s∈l,s.num≠n:=λs f e=>h ⟨s,f,e⟩
 rw[mN d c,List.pairwise_append];refine⟨d.filter _,qb.2 ⟨λs f=>?_,d.filter _⟩,λa g b i=>?_⟩
 .grind
 grind
theorem tl {f:List bM}(g:e.Pairwise λa b=>a.num<b.num)(d:∀s∈e,s.num≠c)(j:f.Perm (e++[⟨c,⟨#[]⟩,0⟩]))(i:f.Pairwise λa b=>a.num<b.num):f=bJ c e:=by
 refine List.Perm.eq_of_pairwise (le:=λa b=>a.num<b.num) (λa b _ _ l m=>by omega) i (fR g) (j.trans ?_);rw[mN g d];refine List.Perm.trans ?_ List.perm_middle.symm;refine List.perm_append_singleton _ _ |>.trans (List.Perm.cons _ ?_)
 have h:=(List.filter_append_perm (λs:bM=>decide (s.num<c)) e).symm;have k:e.filter (λs=>!decide (s.num<c))=e.filter (λs=>decide (c<s.num)):=by
  refine List.filter_congr λs i=>?_
  grind
 grind
theorem JM:used []=0:=rfl
theorem cC (s:bM)(l:List bM):used (s ::l)=s.text.size+used l:=by simp[used]
theorem gW (l m:List bM):used (l++m)=used l+used m:=by simp[used]
theorem gn (h:g∈e):g.text.size<=used e:=by
 induction e with
 | nil=>cases h
 | cons t e a=>grind [cC]
theorem pw {n:Int}{f:bM->bM}{k:Nat}(c:∀s,(f s).text.size<=s.text.size+k):∀{l:List bM},l.Pairwise (λa b=>a.num<b.num)->used (bT n f l)<=used l+k:=by
 intro l
 induction l with
 | nil=>intro _;show 0<=_;omega
 | cons t l e=>
  intro d;grind [used,bT,qb,List.map_congr_left]
theorem pX:∀(l:List bM),used (bJ c l)=used l:=by
 intro l
 induction l with
 | nil=>rfl
 | cons t l a=>
  rw[bJ];split
  .rfl
  split
  .rw[cC];show 0+_=_;omega
  grind [cC]
theorem ti {n:Int}:∀(l:List bM),(bJ n l).length<=l.length+1:=by
 intro l
 induction l with
 | nil=>exact Nat.le_refl _
 | cons t l a=>grind [bJ]
theorem sS:∀(l:List bM) (i:Nat),used (l.eraseIdx i)<=used l:=by
 intro l
 induction l with
 | nil=>intro i;simp
 | cons t l a=>
  intro i;cases i with
  | zero=>grind [cC]
  | succ i=>grind [cC]
theorem Fi (t:Int):∀(l:List bM),used (l.map (dT t))<=used l:=by
 intro l
 induction l with
 | nil=>simp
 | cons s l a=>
  rw[List.map_cons,cC,cC];have:(dT t s).text.size<=s.text.size:=by
   rw[dT];split
   .simp;omega
   grind
  omega
theorem yW (a:g∈bT c h e):g∈e\/∃t∈e,g=h t:=by grind [bT]
theorem Fe (f:∀s,(h s).num=s.num)  (d:e.Pairwise λa b=>a.num<b.num):(bT c h e).Pairwise λa b=>a.num<b.num:=by grind [bT]
theorem rh:∀{l:List bM} {s:bM},s∈bJ c l->s∈l\/s=⟨c,⟨#[]⟩,0⟩:=by
 intro l
 induction l with
 | nil=>grind [bJ]
 | cons t l a=>grind [bJ]
theorem fW (n:Int)(f:bM->bM)(l:List bM):(bT n f l).length=l.length:=List.length_map ..
theorem ve (h:Good d):Good (op d):=
 ⟨h.bQ,h.cJ,h.num,by
  have:=h.left;show -1<=(if 0<d.left then d.left - 1 else d.left)/\(if 0<d.left then d.left - 1 else d.left)<=_;split<;>omega,h.room⟩
theorem rr:Good fresh:=⟨List.Pairwise.nil,λs h=>by simp[fresh]at h,λs h=>by simp[fresh]at h,by decide,by decide⟩
theorem oL (h:Good d){n:Int}{f:bM->bM}(c:∀s,(f s).num=s.num)(g:∀s,s.cJ<=s.text.size->(f s).cJ<=(f s).text.size):Good {op d with ah:=bT n f d.ah}:=
 ⟨Fe c h.bQ,λs a=>by
  rcases yW a with e|⟨t,b,rfl⟩
  .exact h.cJ s e
  .exact g t (h.cJ t b),λs a=>by
  rcases yW a with e|⟨t,b,rfl⟩
  .exact h.num s e
  rw[c t];exact h.num t b,(ve h).left,h.room⟩
structure Fit (S:Dk)(k u:Nat):Prop where
 aJ:Good S
 len:S.ah.length<=k
 use:used S.ah<=u
theorem Fit.op (h:Fit d a b):Fit (Dm.op d) a b:=⟨ve h.aJ,h.len,h.use⟩
theorem Fit.more { c e:Nat}(h:Fit d a b)(f:a<=c)(g:b<=e):Fit d c e:=⟨h.aJ,Ya h.len f,Ya h.use g⟩
theorem gz (h:Fit d a b)(n:Int)(t:ByteArray)(k:n<=9223372036854775807):Fit (aB d n t).1 (a+1) (b+t.size):=by
 rw[aB];split
 .exact h.more (by omega) (by omega)
 split
 .exact h.op.more (by omega) (by omega)
 split
 .exact h.op.more (by omega) (by omega)
 rename_i j _;have g:Good {d with ah:=bJ n d.ah}:=⟨fR h.aJ.bQ,λs c=>by
  rcases rh c with e|e
  .exact h.aJ.cJ s e
  grind,λs c=>by
  rcases rh c with e|e
  .exact h.aJ.num s e
  grind,h.aJ.left,h.aJ.room⟩
 have i:=oL g (n:=n) (f:=λs=>{s with text:=s.text++t}) (λ_=>rfl) (λs c=>by grind);refine⟨i,?_,?_⟩
 .show (bT _ _ (bJ n d.ah)).length<=_;rw[fW];have:=ti (n:=n) d.ah;have:=h.len;omega
 show used (bT _ _ (bJ n d.ah))<=_;have:=pw (n:=n) (f:=λs=>{s with text:=s.text++t}) (k:=t.size) (λs=>by grind) (fR (n:=n) h.aJ.bQ);rw[pX]at this;have:=h.use;omega
theorem jK (h:Fit d a b)(n:Int):Fit (bz d n).1 a b:=by
 rw[bz];split
 .exact h
 split
 .exact h.op
 exact⟨oL h.aJ (λ_=>rfl) (λs _=>Nat.le_refl _),by show (bT _ _ d.ah).length<=_;rw[fW];exact h.len,Ya (pw (n:=n) (f:=λs=>{s with cJ:=s.text.size}) (k:=0) (λs=>Nat.le_refl _) h.aJ.bQ) h.use⟩
theorem DF (h:Fit d a b)(n m:Int):Fit (cx d n m).1 a b:=by
 rw[cx];split
 .exact h
 split
 .exact h.op
 rename_i i k;obtain⟨s,c,f⟩:=gA k;have l:=h.aJ.cJ s (Wa c);split
 .rename_i e;rw[c]at e;have j:m<=(s.text.size:Int):=e.2;have g:bT n (λs=>{s with text:=s.text.extract 0 m.toNat,cJ:=min s.cJ m.toNat}) d.ah=bT n (λs=>{s with text:=s.text.extract 0 m.toNat,cJ:=min (min s.cJ m.toNat) (s.text.extract 0 m.toNat).size}) d.ah:=by
   rw[fG h.aJ.bQ c f,fG h.aJ.bQ c f];simp_all
  refine⟨by show Good {Dm.op d with ah:=bT n _ d.ah};rw[g];exact oL h.aJ (λ_=>rfl) (λs _=>Nat.min_le_right _ _),by show (bT _ _ d.ah).length<=_;rw[fW];exact h.len,?_⟩;refine Ya (pw (k:=0) (λs=>?_) h.aJ.bQ) h.use;show (s.text.extract 0 m.toNat).size<=s.text.size+0;simp;omega
 exact h.op
theorem fit_delete (h:Fit d a b)(n:Int):Fit (aF d n).1 a b:=by
 rw[aF];split
 .exact h
 split
 .exact h.op
 refine⟨⟨h.aJ.bQ.sublist (Zb ..),λs c=>h.aJ.cJ s (Xb c),λs c=>h.aJ.num s (Xb c),(ve h.aJ).left,h.aJ.room⟩,?_,Ya (sS _ _) h.use⟩;exact Ya (Zb ..).length_le h.len
theorem jJ (h:Fit d a b)(c e:Int)(f:c<=9223372036854775807)(g:e<=9223372036854775807):Fit (fH d c e) a b:=
 ⟨⟨h.aJ.bQ,h.aJ.cJ,h.aJ.num,by
  show -1<=(if c<0 then -1 else c)/\(if c<0 then -1 else c)<=_;split<;>omega,by
  show -1<=(if e<0 then -1 else e)/\(if e<0 then -1 else e)<=_;split<;>omega⟩,h.len,h.use⟩
theorem jI (h:Fit d a b)(t:Int):Fit (eH d t) a b:=by
 have c:∀(t:Int) (s:bM),(dT t s).num=s.num:=λt s=>by grind [dT]
 refine⟨⟨?_,λs e=>?_,λs e=>?_,⟨by show -1<=(-1:Int);omega,by show (-1:Int)<=_;omega⟩,⟨by show -1<=(-1:Int);omega,by show (-1:Int)<=_;omega⟩⟩,by show (d.ah.map _).length<=_;rw[List.length_map];exact h.len,Ya (Fi _ _) h.use⟩
 .show (d.ah.map _).Pairwise _;rw[List.pairwise_map];refine h.aJ.bQ.imp λ{i j} g=>?_
  grind
 .obtain⟨x,f,rfl⟩:=List.mem_map.1 e;have:=h.aJ.cJ x f;generalize (if t<0 then 0 else t)=k;rw[dT];split
  .simp;omega
  grind
 obtain⟨x,f,rfl⟩:=List.mem_map.1 e;rw[c];exact h.aJ.num x f
end Dm
namespace Dm
def at_ {m:Nat}(l:List bM)(a:l.length=m+1)(d:List (Fin (m+1))):List bM:=d.map λi=>l[i.1]'(by omega)
def tI {m:Nat}(l:List Nat)(a:l.length=m+1)(d:List (Fin (m+1))):List Nat:=d.map λi=>l[i.1]'(by omega)
variable {a:Nat}
theorem NN (l:List bM)(b:l.length=a+1):at_ l b (List.ofFn id)=l:=by grind [at_,List.ext_getElem,List.length_ofFn]
theorem Ks (l:List Nat)(b:l.length=a+1):tI l b (List.ofFn id)=l:=by grind [tI,List.ext_getElem,List.length_ofFn]
theorem FI {l:List bM}{b:List Nat}{hl:l.length=a+1}{h:b.length=a+1}{d:List (Fin (a+1))}{i:Nat}{s:bM}{c:Nat}(e:(tI b h d)[i]? = Z c)(f:(at_ l hl d)[i]? = Z s):∃j:Nat,b[j]? = Z c/\l[j]? = Z s:=by
 rw[tI,List.getElem?_map,Vb]at e;rw[at_,List.getElem?_map,Vb]at f;obtain⟨j,m,rfl⟩:=e;obtain⟨k,g,rfl⟩:=f;rw[m]at g;cases g;exact⟨j.1,Va _,Va _⟩
theorem tH {n:Int}{l:List bM}(m:(l++[(⟨n,⟨#[]⟩,0⟩:bM)]).length=a+1)(p:l.Pairwise λq b=>q.num<b.num)(g:∀s∈l,s.num≠n){d:List (Fin (a+1))}(o:d.Perm (List.ofFn id))
  (v:d.Pairwise λi j=>¬((l++[(⟨n,⟨#[]⟩,0⟩:bM)])[j.1]'(by omega)).num<((l++[(⟨n,⟨#[]⟩,0⟩:bM)])[i.1]'(by omega)).num):
  at_ (l++[⟨n,⟨#[]⟩,0⟩]) m d=bJ n l:=by
 have f:d.Nodup:=(o.nodup_iff).2 (by grind [eb]);refine tl p g ?_ ?_
 .have:=o.map λi:Fin (a+1)=>(l++[(⟨n,⟨#[]⟩,0⟩:bM)])[i.1]'(by omega)
  have e:=NN (l++[(⟨n,⟨#[]⟩,0⟩:bM)]) m;grind [at_]
 rw[at_,List.pairwise_map];refine(v.and f).imp λ{i j} ⟨w,r⟩=>?_
 have c:i.1≠j.1:=λe=>r (Fin.ext e)
 refine Int.lt_iff_le_and_ne.2 ⟨by omega,λe=>c ?_⟩;have t:i.1<l.length+1:=by grind
 have u:j.1<l.length+1:=by grind
 rw[List.getElem_append,List.getElem_append]at e;by_cases h:i.1<l.length
 .by_cases k:j.1<l.length
  .rw[dif_pos h,dif_pos k]at e;exact iH p (Va h) (Va k) e
  grind
 grind
end Dm
namespace Dm
open Go
def km (s:bM):List Value:=[I O s.num,.string s.text,I O (s.cJ:Int)]
def rows:List bM->List Value
 | []=>[]
 | s ::l=>I O s.num ::.string s.text ::I O (s.cJ:Int) ::rows l
theorem Gq (l:List bM)(i:Nat):l.eraseIdx i=l.take i++l.drop (i+1):=List.eraseIdx_eq_take_drop_succ ..
end Dm
namespace Dh
open Go.RowKit Mem Foot Dm
def od (s:bM):Array Value:=#[I O s.num,.string s.text,I O (s.cJ:Int)]
def sl (b:Nat)(n a:Nat):Value:=if n=0 then .slice Y 0 0 else .slice (Z ⟨b,0,Y⟩) n a
structure PD (w:N)(bx:Nat)(S:Dk)(ba cap:Nat)(bs:List Nat):Prop where
 head:af w bx 62 #[sl ba bs.length cap,I O S.left,I O S.room]
 len:bs.length=S.ah.length
 arr:bs≠[]->∃cs:Array Value,af w ba 102 cs/\cs.size=cap/\bs.length<=cap/\∀(i b:Nat),bs[i]? = Z b->cs[i]? = Z (Value.pointer (Z ⟨b,0,Y⟩))
 seg:∀(i b:Nat) (s:bM),bs[i]? = Z b->S.ah[i]? = Z s->af w b 104 (od s)
 apart:(bx ::ba ::bs).Nodup
 zF:bs≠[]->cap<=maxLen
variable {a b c d:Nat}{e f:N}{g:List Nat}{h:Dk}{i:Int}
theorem eA {t:TypeId}{b c d:Value}(h:af e a t #[b,c,d]):
  e.cell? ⟨a,0,Y⟩=Z b/\e.cell? ⟨a,1,Y⟩=Z c/\e.cell? ⟨a,2,Y⟩=Z d/\e.frozen? ⟨a,0,Y⟩=false/\e.frozen? ⟨a,1,Y⟩=false/\e.frozen? ⟨a,2,Y⟩=false:=
 ⟨h.Ri 0,h.Ri 1,h.Ri 2,h.frozen 0,h.frozen 1,h.frozen 2⟩
theorem operation (a:Nat)(S:Dk)(v:Value)(w:N)(c:af w a 62 #[v,I O S.left,I O S.room])(n:-1<=S.left/\S.left<=9223372036854775807):
  Calls Ub 85 #[ca (Z ⟨a,0,Y⟩)] w λe f=>e=Ua (.bool (!decide (S.left=0)))/\bS a w f/\af f a 62 #[v,I O (if S.left=0 then S else op S).left,I O S.room]:=by
 obtain⟨j,c1,c2,k,l,m⟩:=eA c;have g:=aa c;clear c;by_cases d:S.left=0
 .have b:(S.left==0)=true:=by simpa using d
  go_in;go_wp2_with fail;go_ret;refine⟨by simp,bS.refl _ _,?_⟩;grind [Hid]
 have b:(S.left==0)=false:=by simpa using d
 by_cases h:0<S.left
 .go_in;go_wp2_with fail;go_ret;refine⟨by simp,(bS.refl _ _).set _ _,?_⟩;have:=g.set 1 (I O (S.left - 1));grind [op]
 have i:Hid ((op S).left=S.left):=if_neg h;go_in;go_wp2_with fail;go_ret;refine⟨by simp,bS.refl _ _,?_⟩;grind [Hid]
def ptr (S:Dk)(a:List Nat)(n:Int):Option Addr:=((place n S.ah).bind λi=>a[i]?).map λb=>⟨b,0,Y⟩
theorem jc {S:Dk}   (h:place i S.ah=Y):ptr S g i=Y:=by
 rw[ptr,h];rfl
theorem ph {S:Dk}    (h:place i S.ah=Z a)(c:g[a]? = Z b):ptr S g i=Z ⟨b,0,Y⟩:=by grind [ptr]
theorem find (D K v:Nat)(a:List Nat)(S:Dk)(n:Int)(w:N)(x:PD w D S K v a)(hl:a.length<=1000000000):
  Calls Ub 84 #[ca (Z ⟨D,0,Y⟩),I O n] w λe M=>w=M/\e=Ua (ca (ptr S a n)):=by
 obtain⟨u,c1,c2,W,X,f2⟩:=eA x.head;have f:=aa x;clear x;unfold sl at u;by_cases i:a.length=0
 .rw[if_pos i]at u;have m:S.ah=[]:=Wb (f.len▸i);have r:Hid (ptr S a n=Y):=jc (by rw[m];rfl);clear i m;go_in;go_wp2_with fail;go_loopw [12] (λc wr=>c=I O 0/\wr=w) (λ_ _=>0)
  case atStart=>exact⟨rfl,rfl⟩
  case round=>
   obtain⟨rfl,rfl⟩:=hrel;go_wp2_with fail;go_ret;exact⟨rfl,congrArg (λz=>Yb (ca z)) r.symm⟩
 rw[if_neg i]at u;obtain⟨V,E,y,F,g⟩:=f.arr (λe=>i (by rw[e];rfl));have HA:=aa E;change Hid _ at g;clear E y;go_in;go_wp2_with fail;go_loopw [12] (λc wr=>∃k:Nat,c=I O (k:Int)/\wr=w/\k<=a.length/\Hid (∀j t,j<k->S.ah[j]? = Z t->t.num≠n)) (λc _=>a.length - (intOf c).toNat)
 case atStart=>exact⟨0,rfl,rfl,by omega,λj t h=>by omega⟩
 case round=>
  obtain⟨k,rfl,rfl,hk,q⟩:=hrel;by_cases l:k<a.length
  .have A:(k:Int)<(a.length:Int):=by omega
   obtain⟨b,o⟩:∃b,a[k]? = Z b:=⟨_,Va l⟩;obtain⟨s,B⟩:∃s,S.ah[k]? = Z s:=⟨_,Va (by rw[<-f.len];exact l)⟩;have P:=HA.cell k _ (g.out k b o);obtain⟨R,T,U,g0,g1,g2⟩:=eA (f.seg k b s o B);have J:=aa (show s.num=n->ptr S a n=Z ⟨b,0,Y⟩ from λG=>ph (lN q B G) o);have H:=aa (show ¬s.num=n->∀j t,j<k+1->S.ah[j]? = Z t->t.num≠n from λG j t hj p=>by
    by_cases e:j=k
    .grind
    exact q.out j t (by omega) p)
   clear o B;go_wp2_with fail
   .have d:(s.num==n)=true:=by assumption
    go_ret;exact⟨rfl,congrArg (λz=>Yb (ca z)) (J.out (by simpa using d)).symm⟩
   have d:(s.num==n)=false:=by assumption
   go_roundw
   case rel=>exact⟨k+1,by go_num,trivial,by omega,H.out (by simpa using d)⟩
   grind [intOf]
  have A:¬(k:Int)<(a.length:Int):=by omega
  have r:Hid (ptr S a n=Y):=jc (um (λj t p=>q.out j t (by have:=(List.getElem?_eq_some_iff.1 p).1;have:=f.len;omega) p));go_wp2_with fail;go_ret;exact⟨rfl,congrArg (λz=>Yb (ca z)) r.symm⟩
theorem PD.vr (d:PD e a h b c g):b≠a:=by
 have:=d.apart;grind
theorem PD.mS (f:PD e a h b c g)  (i:d∈g):d≠a/\d≠b:=by
 have:=f.apart;grind
theorem PD.fQ {k:Int}(d:PD e a h b c g)(l:bS a e f)(v:af f a 62 #[sl b g.length c,I O i,I O k]):PD f a ⟨h.ah,i,k⟩ b c g:=
 ⟨v,d.len,λj=>by
  obtain⟨o,p,q,r,t⟩:=d.arr j;exact⟨o,p.but l d.vr,q,r,t⟩,λw n s m u=>(d.seg w n s m u).but l (d.mS (Wa m)).1,d.apart,d.zF⟩
theorem PD.eP {m:Nat}{s':bM}(j:PD e a h b c g)(z:g[d]? = Z m)(o:bS m e f)(B:af f m 104 (od s')):PD f a ⟨h.ah.set d s',h.left,h.room⟩ b c g:=by
 have q:=j.mS (Wa z);refine⟨j.head.but o (λl=>q.1 l.symm),by grind [len],λk=>?_,λi p s y n=>?_,j.apart,j.zF⟩
 .obtain⟨r,t,u,v,w⟩:=j.arr k;exact⟨r,t.but o (λl=>q.2 l.symm),u,v,w⟩
 rw[List.getElem?_set]at n;by_cases l:d=i
 .grind
 rw[if_neg l]at n;have k:p≠m:=by
  intro x;subst x;have A:=j.apart;grind [eb]
 exact(j.seg i p s y n).but o k
theorem qz (a:¬h.left=0):(if h.left=0 then h else op h)=op h:=if_neg a
theorem sync (g q h:Nat)(f:List Nat)(S:Dk)(n:Int)(w:N)(y:PD w g S q h f)(x:Dm.Good S)(D:f.length<=1000000000):
  Calls Ub 57 #[ca (Z ⟨g,0,Y⟩),I O n] w λe A=>e=Ua (I O (bz S n).2)/\an (g ::f) w A/\PD A g (bz S n).1 q h f:=by
 have p:=aa y;have v:=aa x;clear y x;go_in;go_wp2_with fail;refine(operation g S _ w p.head v.left).mono ?_;rintro e E ⟨rfl,d,a⟩;by_cases c:S.left=0
 .have t:decide (S.left=0)=true:=decide_eq_true c;have l:Hid (bz S n=(S,8)):=if_pos c;rw[if_pos c]at a;have j:=aa (p.fQ d a);change Hid _ at d;clear a;rw[t];go_wp2_with fail;go_ret;rw[l.out];exact⟨rfl,an.cV d (Xa ..),j⟩
 have t:decide (S.left=0)=false:=decide_eq_false c;rw[qz c]at a;have j:=aa (p.fQ d a);change Hid _ at d c;clear a;rw[t];go_wp2_with fail;refine(find g q h f (op S) n E j D).mono ?_;rintro e P ⟨rfl,rfl⟩;cases i:place n S.ah with
 | none=>
  have l:=aa (show bz S n=(op S,9) by rw[bz,if_neg c.out,i]);rw[jc (S:=op S) i];clear i;go_wp2_with fail;go_ret;rw[l.out];exact⟨rfl,an.cV d (Xa ..),j⟩
 | some k=>
  obtain⟨s,u,z⟩:=gA i;obtain⟨b,m⟩:∃b,f[k]? = Z b:=⟨_,Va (by rw[p.len];grind)⟩;have l:=aa (show bz S n=(⟨S.ah.set k {s with cJ:=s.text.size},(op S).left,S.room⟩,0) by rw[bz,if_neg c.out,i,fG v.bQ u z];rfl);rw[ph (S:=op S) i m];have r:=j.seg k b s m u;obtain⟨F,G,H,J,K,M⟩:=eA r;have B:=aa r;change Hid _ at m;clear i u z r;go_wp2_with fail;go_ret;rw[l.out];have o:b∈g ::f:=Za _ (Wa m);exact⟨rfl,(an.cV d (Xa ..)).set o _ _,j.eP m ((bS.refl _ _).set _ _) (B.set 2 _)⟩
theorem new (w:N):Calls Ub 12 #[] w λe a=>e=Ua (ca (Z ⟨w.heap.size,0,Y⟩))/\a=w.alloc (.cells #[.slice Y 0 0,I O (-1),I O (-1)] 62):=by
 go_in;go_wp2_with fail;go_ret;simp_all
theorem read (i o f:Nat)(g:List Nat)(S:Dk)(n:Int)(w:N)(l:PD w i S o f g)(q:g.length<=1000000000):
  Calls Ub 55 #[ca (Z ⟨i,0,Y⟩),I O n] w λe t=>e=Ua (.tuple #[.string (dt S n).1,I O (dt S n).2])/\w=t:=by
 obtain⟨y,c1,c2,z,A,B⟩:=eA l.head;have h:=aa l;clear l;by_cases c:S.left=0
 .have j:(S.left==0)=true:=by simpa using c
  have d:Hid (dt S n=(⟨#[]⟩,8)):=if_pos c;go_in;go_wp2_with fail;go_ret2;rw[d.out];simp_all
 have j:(S.left==0)=false:=by simpa using c
 change Hid _ at c;go_in;go_wp2_with fail;refine(find i o f g S n w h q).mono ?_;rintro e G ⟨rfl,rfl⟩;cases a:place n S.ah with
 | none=>
  have d:=aa (show dt S n=(⟨#[]⟩,9) by rw[dt,if_neg c.out,a]);rw[jc (S:=S) a];clear a;go_wp2_with fail;go_ret2;rw[d.out];simp_all
 | some k=>
  obtain⟨s,p,r⟩:=gA a;obtain⟨b,m⟩:∃b,g[k]? = Z b:=⟨_,Va (by rw[h.len];grind)⟩;have d:=aa (show dt S n=(s.text,0) by grind [dt]);rw[ph (S:=S) a m];obtain⟨u,v,x,D,E,F⟩:=eA (h.seg k b s m p);clear a p r m;go_wp2_with fail;go_ret2;rw[d.out];simp_all
theorem lG (c h d:Nat)(i:List Nat)(S:Dk)(a b:Int)(w:N)(f:PD w c S h d i):
  Calls Ub 14 #[ca (Z ⟨c,0,Y⟩),I O a,I O b] w λe m=>e=Ua (.tuple #[])/\bS c w m/\PD m c (fH S a b) h d i:=by
 obtain⟨o,c1,c2,p,q,r⟩:=eA f.head;have g:=aa f;clear f;have k:(if a<0 then -1 else a)=max a (-1):=by omega
 have l:(if b<0 then -1 else b)=max b (-1):=by omega
 have n:=aa (show fH S a b=⟨S.ah,max a (-1),max b (-1)⟩ by rw[fH,k,l]);clear k l;go_in;go_wp2_with fail;go_end0;rw[n.out];have j:=((bS.refl c w).set 1 (I O (max a (-1)))).set 2 (I O (max b (-1)));exact⟨rfl,j,g.fQ j ((g.head.set 1 _).set 2 _)⟩
theorem truncate (o A p:Nat)(l:List Nat)(S:Dk)(n m:Int)(w:N)(H:PD w o S A p l)(G:Dm.Good S)(P:l.length<=1000000000):
  Calls Ub 152 #[ca (Z ⟨o,0,Y⟩),I O n,I O m] w λe K=>e=Ua (I O (cx S n m).2)/\an (o ::l) w K/\PD K o (cx S n m).1 A p l:=by
 have v:=aa H;have E:=aa G;clear H G;go_in;go_wp2_with fail;refine(operation o S _ w v.head E.left).mono ?_;rintro e R ⟨rfl,c,a⟩;by_cases f:S.left=0
 .have D:decide (S.left=0)=true:=decide_eq_true f;have d:Hid (cx S n m=(S,8)):=if_pos f;rw[if_pos f]at a;have g:=aa (v.fQ c a);change Hid _ at c;clear a;rw[D];go_wp2_with fail;go_ret;rw[d.out];exact⟨rfl,an.cV c (Xa ..),g⟩
 have D:decide (S.left=0)=false:=decide_eq_false f;rw[qz f]at a;have g:=aa (v.fQ c a);change Hid _ at c f;clear a;rw[D];go_wp2_with fail;refine(find o A p l (op S) n R g P).mono ?_;rintro e w2 ⟨rfl,rfl⟩;cases q:place n S.ah with
 | none=>
  have d:=aa (show cx S n m=(op S,9) by rw[cx,if_neg f.out,q]);rw[jc (S:=op S) q];clear q;go_wp2_with fail;go_ret;rw[d.out];exact⟨rfl,an.cV c (Xa ..),g⟩
 | some k=>
  obtain⟨s,y,J⟩:=gA q;obtain⟨b,x⟩:∃b,l[k]? = Z b:=⟨_,Va (by rw[v.len];grind)⟩;rw[ph (S:=op S) q x];have B:=g.seg k b s x y;obtain⟨T,U,V,W,X,g2⟩:=eA B;have M:=aa B;have F:=aa x;have t:((S.ah[k]?).map (λs=>(s.text.size:Int))).getD (-1)=(s.text.size:Int):=by rw[y];rfl
  have r:cx S n m=if 0<=m/\m<=(s.text.size:Int) then (⟨S.ah.set k {s with text:=s.text.extract 0 m.toNat,cJ:=min s.cJ m.toNat},(op S).left,S.room⟩,0) else (op S,9):=by
   rw[cx,if_neg f.out,q];show (if 0<=m/\m<=((S.ah[k]?).map (λs=>(s.text.size:Int))).getD (-1) then _ else _)=_;rw[t,fG E.bQ y J];rfl
  have i:=aa r;have u:((min s.cJ m.toNat:Nat):Int)=min (s.cJ:Int) (m.toNat:Int):=by omega
  clear q y J x B t r;by_cases h1:m<0
  .have d:=aa (show cx S n m=(op S,9) by rw[i.out,if_neg (by omega)]);go_wp2_with fail;go_ret;rw[d.out];exact⟨rfl,an.cV c (Xa ..),g⟩
  by_cases h2:(s.text.size:Int)<m
  .have d:=aa (show cx S n m=(op S,9) by rw[i.out,if_neg (by omega)]);go_wp2_with fail;go_ret;rw[d.out];exact⟨rfl,an.cV c (Xa ..),g⟩
  obtain⟨j,rfl⟩:∃j:Nat,m=(j:Int):=⟨m.toNat,by omega⟩;have h3:j<=s.text.size:=by omega
  have d:=aa (show cx S n (j:Int)=(⟨S.ah.set k {s with text:=s.text.extract 0 j,cJ:=min s.cJ j},(op S).left,S.room⟩,0) by grind [Hid]);have z:=aa (show ((min s.cJ j:Nat):Int)=min (s.cJ:Int) (j:Int) by omega);clear u i;go_wp2_with fail;go_ret;rw[d.out];have h:b∈o ::l:=Za _ (Wa F);refine⟨rfl,((an.cV c (Xa ..)).set h _ _).set h _ _,g.eP F (((bS.refl _ _).set _ _).set _ _) ?_⟩;have:=(M.set 1 (.string (s.text.extract 0 j))).set 2 (I O (min (s.cJ:Int) (j:Int)));rw[<-z.out]at this ⊢;exact this
def kM (t:Int)(k:Nat)(l:List bM):List bM:=(l.take k).map (dT t)++l.drop k
theorem Bh (t:Int)(l:List bM):kM t l.length l=l.map (dT t):=by
 simp[kM]
theorem Bi {l:List bM}{s:bM}(h:l[a]? = Z s):(kM i a l)[a]? = Z s:=by grind [kM]
theorem Bj {t:Int}  {l:List bM}{s:bM}(h:l[a]? = Z s):(kM t a l).set a (dT t s)=kM t (a+1) l:=by grind [kM,List.take_add_one,List.drop_eq_getElem_cons]
theorem pG (h y m:Nat)(a:List Nat)(S:Dk)(t:Int)(w:N)(z:PD w h S y m a)(R:Dm.Good S)(hl:a.length<=1000000000)(H:∀s∈S.ah,s.text.size<=1000000000000):
  Calls Ub 30 #[ca (Z ⟨h,0,Y⟩),I O t] w λe V=>e=Ua (.tuple #[])/\an (h ::a) w V/\PD V h (eH S t) y m a:=by
 obtain⟨o,c1,c2,J,K,M⟩:=eA z.head;have n:=aa z;have W:=aa R;change Hid _ at H;clear z R;unfold sl at o;obtain⟨u,G⟩:∃u:Nat,(u:Int)=max t 0:=⟨(max t 0).toNat,by omega⟩;have E:=aa (show eH S t=⟨S.ah.map (dT (u:Int)),-1,-1⟩ by grind [eH]);by_cases v:a.length=0
 .rw[if_pos v]at o;have x:S.ah=[]:=Wb (n.len▸v);change Hid _ at x;go_in;go_wp2_with fail;go_loopw [13] (λc wr=>c=I O 0/\wr=w) (λ_ _=>0)
  case atStart=>exact⟨rfl,rfl⟩
  case round=>
   obtain⟨rfl,rfl⟩:=hrel;go_wp2_with fail;go_end0;rw[E.out];have d:=((bS.refl h wr).set 1 (I O (-1))).set 2 (I O (-1));have hT:=n.fQ d ((n.head.set 1 _).set 2 _);grind [Hid,an.cV]
 rw[if_neg v]at o;change Hid _ at G;go_in;go_wp2_with fail;rw[<-G.out];go_loopw [13] (λc wr=>∃k:Nat,c=I O (k:Int)/\k<=a.length/\Hid (PD wr h ⟨kM (u:Int) k S.ah,S.left,S.room⟩ y m a/\an (h ::a) w wr)) (λc _=>a.length - (intOf c).toNat)
 case atStart=>exact⟨0,rfl,by omega,n,an.refl _ _⟩
 case round=>
  clear o c1 c2 J K M;obtain⟨k,rfl,hk,g⟩:=hrel;obtain⟨o,c1,c2,J,K,M⟩:=eA g.1.head;by_cases p:k<a.length
  .have D:(k:Int)<(a.length:Int):=by omega
   obtain⟨b,j⟩:∃b,a[k]? = Z b:=⟨_,Va p⟩;obtain⟨s,r⟩:∃s,S.ah[k]? = Z s:=⟨_,Va (by rw[<-n.len];exact p)⟩;obtain⟨cs,P,B,T,i⟩:=g.1.arr (λe=>v (by rw[e];rfl));have a0:=P.cell k _ (i k b j);have A:=g.1.seg k b s j (Bi r);obtain⟨b0,b1,b2,g0,g1,g2⟩:=eA A;have F:=aa A;have a1:=W.cJ s (Wa r);have a2:=H.out s (Wa r);have HT:=aa (Bj (t:=(u:Int)) r);change Hid _ at j;clear r P i A B;by_cases U:(u:Int)<(s.text.size:Int) - (s.cJ:Int)
   .have l:Hid (dT (u:Int) s={s with text:=s.text.extract 0 (s.cJ+u),cJ:=s.cJ+u}):=if_pos U;go_wp2_with fail;go_quiet (fail);go_wp2_with fail;go_region
    go_wp2_with fail;have q:min (s.cJ+u) s.text.size=s.cJ+u:=by omega
    rw[q];have d:bS b wr (((wr.drewN (nq+1)).setCell ⟨b,1,Y⟩ (.string (s.text.extract 0 (s.cJ+u)))).setCell ⟨b,2,Y⟩ (I O ((s.cJ+u:Nat):Int))):=((((bS.refl b wr).drewN _).set _ _).set _ _);refine⟨⟨k+1,by go_num,by omega,?_,g.2.trans (an.cV d (Za _ (Wa j)))⟩,by simp[intOf];omega⟩;have X:=g.1.eP (s':=dT (u:Int) s) j d (by rw[l.out];exact((F.drewN (nq+1)).set 1 _).set 2 _);grind [Hid]
   have l:Hid (dT (u:Int) s={s with cJ:=s.text.size}):=if_neg U;go_wp2_with fail;go_quiet (fail);go_wp2_with fail;have d:bS b wr ((wr.drewN nq).setCell ⟨b,2,Y⟩ (I O (s.text.size:Int))):=(((bS.refl b wr).drewN _).set _ _);refine⟨⟨k+1,by go_num,by omega,?_,g.2.trans (an.cV d (Za _ (Wa j)))⟩,by simp[intOf];omega⟩;have X:=g.1.eP (s':=dT (u:Int) s) j d (by rw[l.out];exact(F.drewN nq).set 2 _);grind [Hid]
  have D:¬(k:Int)<(a.length:Int):=by omega
  obtain rfl:k=S.ah.length:=by have:=n.len;omega
  have f:=g;rw[Bh]at f;go_wp2_with fail;go_end0;rw[E.out];have d:=((bS.refl h wr).set 1 (I O (-1))).set 2 (I O (-1));exact⟨rfl,f.2.trans (an.cV d (Xa ..)),f.1.fQ d ((f.1.head.set 1 _).set 2 _)⟩
end Dh
end Go.Proofs.YtpndiccohnafbaaGreatDoor
