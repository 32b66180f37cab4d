/- A sink in memory: NewSink and Take. -/
import Derived.Test.YtpndiccohnafbaaGreatDoorMsvy
import Derived.Deep.RegionLaw
import Derived.WalkSpells
import Derived.Shelf.SlSortCmp.WholeK
import Derived.Shelf.Small.Bits
import Derived.Test.YtpndiccohnafbaaGreatDoorProg
open Option renaming some->Z
open Go.IntKind renaming i64->O
open Go.Proofs.Tryz renaming prog->ca
open Go renaming World->N,Value->C
open Array renaming extract_eq_self_of_le->Ua
open Go.Proofs renaming sortWorldK->Va
open Go.Sort renaming ahead->Wa
open List renaming mem_map->Xa
namespace Go.Proofs.YtpndiccohnafbaaGreatDoor.Sk
open Go.RowKit Go.Maps Go.Shelf Mem Foot Im
variable {a:List Ms}{b:Nat}{c:N}
theorem Hc {P:Program}  (t k e:TypeId)(p:Keyed P k)(r:P.underlying t=Z (.map k e)){z:C}(hz:∀W,(zeroValue e).run P W=.ok z W){h:C->Bool}(g:h z=true)
  {n:Nat} {D:DataW C} (d:c.ownsMap P k (kg h) b n D) {key:C} {o:Lit} (a:keyOf P k key=Z o):
  ∃v,h v=true/\D.atKey o (.held z)=.held v/\∀W:N,W.heap[b]? = c.heap[b]?->(Instr.lookup t (.map (Z b)) key true).run P W=.ok (.tuple #[v,.bool (Maps.has D o)]) W:=by
 obtain⟨v,F,q,A⟩:=d.look_ok p r (hz c) (kr g) a;obtain⟨u,i⟩:=mc A;injection i with i _;refine⟨v,u,i,λW y=>?_⟩;obtain⟨s,f,w,x⟩:=d;have j:W.ownsMap P k (kg h) b n D:=⟨s,f,y.trans w,x⟩;obtain⟨G,B,l,m⟩:=j.look_ok p r (hz W) (kr g) a;obtain⟨_,E⟩:=mc m;grind
def iR (m:Ms):List Ms->List Ms
 | []=>[m]
 | x ::r=>if m.k<x.k then m ::x ::r else x ::iR m r
theorem oJ (m:Ms)(l:List Ms):aG (iR m l)=ins dJ (m.k,m) (aG l):=by
 induction l with
 | nil=>rfl
 | cons x r a=>grind [aG,iR,ins,dJ]
def kh (l:List Ms):Prop:=l.Pairwise λa b=>a.k<b.k
theorem kh.nodup (h:kh a):(a.map (·.k)).Nodup:=by
 rw[List.nodup_iff_pairwise_ne,List.pairwise_map];exact h.imp λ{d b} c e=>by omega
theorem CC:kh a↔Up dJ (aG a):=by grind [kh,Up,aG,dJ]
theorem kh.ins (h:kh a){m:Ms}(b:m.k∉a.map (·.k)):kh (iR m a):=by
 rw[CC,oJ];refine(CC.1 h).ins oO oN (m.k,m) λp c e=>b ?_
 obtain⟨x,d,rfl⟩:=Xa.1 c;grind
theorem xh (m:Ms)(l:List Ms):(iR m l).length=l.length+1:=by grind [oJ,Ad,aG]
theorem MZ {m:Ms}  (c:m.k∉a.map (·.k)):(D a).put (.int O m.k) (.held (mv m))=D (iR m a):=by
 have h:has m.k (aG a)=false:=by
  rw[eE];intro e;obtain⟨p,b,e⟩:=Xa.1 e;obtain⟨x,d,rfl⟩:=Xa.1 b;grind
 rw[D,show Lit.int O m.k=jk m.k from rfl,vq cB gS,D,oJ,put,dZ _ _ h]
theorem PH (k:Int)(l:List Ms):Maps.has (D l) (.int O k)=decide (k∈l.map (·.k)):=by
 rw[D,show Lit.int O k=jk k from rfl,Hh cB,Bool.eq_iff_iff,qq,decide_eq_true_iff];simp[aG]
theorem Qj (w:N):(zeroValue 47).run ca w=.ok (.agg #[.int O 0,.string ⟨#[]⟩]) w:=Tryz.zeroValue47 w
theorem ic.off {F:List Nat}{w e:N}{d:Option Nat}  (h:ic w d a)(l:an F w e)(j:∀b,d=Z b->b∉F):ic e d a:=by
 cases d with
 | none=>exact h
 | some b=>
  obtain⟨m,h⟩:=h;have k:=h.lt;obtain⟨f,c,g,i⟩:=h;exact⟨m,f,c,by rw[l.block b k (j b rfl)];exact g,i⟩
theorem de {F:List Nat}{a:N}  (h:c.grownBy a (Z b))(g:b∈F):an F c a:=
 ⟨h.os,h.tape,h.output,h.size,λk f d=>h.block k f (λe=>d (by grind))⟩
theorem ic.tight (h:ic c (Z b) a):c.ownsMap ca 3 (kg wa) b a.length (D a):=by
 obtain⟨d,h⟩:=h;grind [jR,Fz]
end Go.Proofs.YtpndiccohnafbaaGreatDoor.Sk
namespace Go.Proofs
open Go.Shelf
def Tryz.EM:Go.Shelf.Ren:=⟨fun|6=>71|15=>108|14=>107|28=>146|29=>147|20=>138|21=>139|22=>140|23=>141|24=>142|25=>143|26=>144|27=>145|46=>191|47=>192|48=>193|49=>194|50=>195|57=>236|n=>n,fun|22=>31|24=>47|25=>89|3=>3|39=>173|0=>0|53=>235|55=>237|4=>4|46=>228|45=>227|50=>232|5=>5|9=>9|66=>288|70=>292|76=>330|77=>331|n=>n,fun|n=>n⟩
theorem Tryz.Nw:Go.Proofs.SlLaysF0.n6 ca Tryz.EM:=by
 constructor
 kernel_rfl
 exact⟨Tryz.f71.name,by decide,Tryz.func71.trans (congrArg Z (by kernel_rfl))⟩;exact⟨Tryz.f107.name,by decide,Tryz.func107.trans (congrArg Z (by kernel_rfl))⟩;exact Tryz.func108.trans (congrArg Z (by kernel_rfl));exact⟨Tryz.f138.name,by decide,Tryz.func138.trans (congrArg Z (by kernel_rfl))⟩;exact⟨Tryz.f139.name,by decide,Tryz.func139.trans (congrArg Z (by kernel_rfl))⟩;exact⟨Tryz.f140.name,by decide,Tryz.func140.trans (congrArg Z (by kernel_rfl))⟩;exact⟨Tryz.f141.name,by decide,Tryz.func141.trans (congrArg Z (by kernel_rfl))⟩;exact⟨Tryz.f142.name,by decide,Tryz.func142.trans (congrArg Z (by kernel_rfl))⟩;exact⟨Tryz.f143.name,by decide,Tryz.func143.trans (congrArg Z (by kernel_rfl))⟩;exact⟨Tryz.f144.name,by decide,Tryz.func144.trans (congrArg Z (by kernel_rfl))⟩;exact⟨Tryz.f145.name,by decide,Tryz.func145.trans (congrArg Z (by kernel_rfl))⟩;exact Tryz.func146.trans (congrArg Z (by kernel_rfl));exact Tryz.func147.trans (congrArg Z (by kernel_rfl));exact⟨Tryz.f191.name,by decide,Tryz.func191.trans (congrArg Z (by kernel_rfl))⟩;exact Tryz.func192.trans (congrArg Z (by kernel_rfl));exact Tryz.func193.trans (congrArg Z (by kernel_rfl));exact⟨Tryz.f194.name,by decide,Tryz.func194.trans (congrArg Z (by kernel_rfl))⟩;exact⟨Tryz.f195.name,by decide,Tryz.func195.trans (congrArg Z (by kernel_rfl))⟩;exact⟨Tryz.f236.name,by decide,Tryz.func236.trans (congrArg Z (by kernel_rfl))⟩;all_goals repeat' first|kernel_rfl|decide|intro _|constructor
end Go.Proofs
namespace Go.Proofs.YtpndiccohnafbaaGreatDoor.Sk
open Go.RowKit Go.Maps Go.Shelf Mem Foot Im Go.Sort
theorem isNaN (a:Int)(w:N):Calls ca 109 #[.int O a] w λe b=>e=.returned (.bool false)/\b=w:=by
 go_in;go_wp2_with fail;go_ret;exact⟨by simp,rfl⟩
def Kv (a b:Int):Int:=if a<b then -1 else if b<a then 1 else 0
theorem compare (a b:Int)(w:N):Calls ca 73 #[.int O a,.int O b] w λe c=>e=.returned (.int O (Kv a b))/\c=w:=by
 unfold Kv;by_cases h:a<b
 .rw[if_pos h];go_in;go_wp2_with (go_at_call 109;refine(isNaN _ _).mono ?_;rintro e c ⟨rfl,rfl⟩)
  go_ret;exact⟨rfl,rfl⟩
 rw[if_neg h];by_cases d:b<a
 .rw[if_pos d];go_in;go_wp2_with (go_at_call 109;refine(isNaN _ _).mono ?_;rintro e c ⟨rfl,rfl⟩)
  go_ret;exact⟨rfl,rfl⟩
 rw[if_neg d];go_in;go_wp2_with (go_at_call 109;refine(isNaN _ _).mono ?_;rintro e c ⟨rfl,rfl⟩)
 go_ret;exact⟨rfl,rfl⟩
def enc (m:Ms):List Value:=[.int O m.k,.string m.t]
def cf (a b:Ms):Int:=Kv a.k b.k
theorem FR (a b:Ms)(w:N):Calls ca 50 #[.agg (enc a).toArray,.agg (enc b).toArray] w λe d=>e=.returned (.int O (cf a b))/\∃q c,d=grow (w.drewN q) c:=by
 simp only[enc];go_in;go_wp2_with (go_at_call 73;refine(compare _ _ _).mono ?_;rintro e d ⟨rfl,rfl⟩)
 go_ret;exact⟨rfl,0,#[.cells #[.int O a.k,.string a.t] 47,.cells #[.int O b.k,.string b.t] 47],by
  rw[alloc_eq_grow,alloc_eq_grow,grow_grow];rfl⟩
theorem oV:∀{l:List Ms} {i:Nat} {m:Ms},l[i]? = Z m->(aH l)[i*2]? = Z (.int O m.k)/\(aH l)[i*2+1]? = Z (.string m.t):=by
 intro l
 induction l with
 | nil=>intro i m h;simp at h
 | cons x l a=>grind [aH]
theorem BR [Inhabited Ms](l:List Ms):flatK enc 2 l.toArray=(aH l).toArray:=by
 refine ext_get! (by simp[cP]) λt e=>?_
 have a:t<l.length*2:=by simpa using e
 rw[get_flatK _ _ _ t (by simpa using a)];obtain⟨m,d⟩:∃m,l[t / 2]? = Z m:=⟨_,List.getElem?_eq_getElem (by omega)⟩;have c:l.toArray[t / 2]! = m:=by grind
 rw[c];obtain⟨f,g⟩:=oV d;have b:∀v,(aH l)[t]? = Z v->(aH l).toArray[t]! = v:=λv i=>by grind
 rcases Nat.mod_two_eq_zero_or_one t with h|h
 .rw[h,b (.int O m.k) (by grind)];rfl
 rw[h,b (.string m.t) (by grind)];rfl
theorem Cg (a b:Ms):ltOf cf a b=decide (a.k<b.k):=by grind [ltOf,cf,Kv]
theorem Ph:SWO (ltOf cf) where
 irrefl x:=by rw[Cg];simp
 trans x y z h1 h2:=by grind [Cg]
 ntrans x y z h1 h2:=by grind [Cg]
theorem AX [Inhabited Ms]{w:N}{g:Nat}(n:Nat)(b:Array Obj)(d:Array Ms):bS g w (Va enc 2 w g 0 n d b):=by
 refine⟨rfl,rfl,rfl,by simp[Va,grow,putRowK,putRow,mapBlock,Wa],λk c a=>?_⟩;grind [heap_grow_old,Va,putRowK,putRow,mapBlock,Wa]
theorem yC [Inhabited Ms]{w:N}{g:Nat}{a:Array C}(n:Nat)(e:Array Obj)(d:Array Ms)(b:af w g 47 a):af (Va enc 2 w g 0 n d e) g 47 (putCells id 0 (flatK enc 2 d) a):=by
 have c:=b.lt;unfold af at b ⊢;unfold Va;rw[heap_grow_old _ _ (by simpa[putRowK,putRow,mapBlock,Wa] using c)];simp[putRowK,putRow,mapBlock,Wa,Array.getElem?_modify,b,onCells]
theorem Iw (F a:Array C)(h:F.size<=a.size):(putCells id 0 F a).toList.take F.size=F.toList:=by
 apply List.ext_getElem?;intro i;grind [putCells]
theorem EO {d c:List Ms}(e:d.Perm c)(f:kh c)(j:d.Pairwise λa b=>¬b.k<a.k):d=c:=by
 refine List.Perm.eq_of_pairwise (le:=λa b=>¬b.k<a.k) (λa b g i l m=>?_) j (f.imp λ{a b} h=>by omega) e;exact uniq f.nodup (e.mem_iff.1 g) i (by omega)
theorem OY [Inhabited Ms](g q:Nat)(c p:List Ms)(U:c.Perm p)(V:kh p)(w:N)(d:Array C)(t:af w g 47 d)(W:c.length*2<=d.size)(D:d.toList.take (c.length*2)=aH c)(T:c.length<4611686018427387904):
  Calls ca 71 #[.slice (Z ⟨g,0,none⟩) c.length q,.func (.func 50) #[] #[]] w λe A=>e=.returned (.tuple #[])/\bS g w A/\∃f:Array C,af A g 47 f/\f.size=d.size/\f.toList.take (p.length*2)=aH p:=by
 have H:∀m w,(callFunc 50 m).run ca w=.ok (.enter 50 m) w:=enters_of Tryz.func50 (by kernel_rfl) rfl;have r:CmpLays ca 50 #[] enc 2 cf g 0 c.toArray.size w:=λk z X _ x y=>FR x y _
 have P:HoldsK enc 2 w g 0 c.toArray:=by
  unfold HoldsK;rw[BR];intro j E;have S:j<(aH c).length:=by simpa using E
  refine⟨?_,t.frozen _⟩;rw[Nat.zero_add];refine t.cell j _ ?_;grind
 have l:=AnyQ.slices_SortFunc Tryz.Nw 2 (λw=>Tryz.isAgg47 w) (λw=>Tryz.sizeOf47 w) enc (λ_=>rfl) (λx v F=>by simp[enc]at F;rcases F with rfl|rfl<;>rfl) cf Ph 50 #[] g 0 q c.toArray w H r P t.lt (by simpa using T);rw[List.size_toArray]at l;change Calls ca 71 _ _ _ at l;refine l.mono λe A ⟨R,o,n,z,s,hst,G⟩=>⟨R,by subst G;exact AX n z o,?_⟩
 subst G;have h1:o.size=c.length:=by simpa using s.1
 have B:o.toList.Perm c:=by
  have h:=s.2.2;rw[Ua (by omega),Ua (by simp)]at h;simpa using h
 have J:o.toList.Pairwise λa b=>¬b.k<a.k:=by
  rw[List.pairwise_iff_getElem];intro i j hi E u;have B:=hst i j (Nat.zero_le _) u (by grind);grind [Cg]
 have K:o.toList=p:=EO (B.trans U) V J;have M:flatK enc 2 o=(aH p).toArray:=by
  rw[<-K,<-BR]
 refine⟨_,yC n z o t,by simp[putCells],?_⟩;rw[M];have:=Iw (aH p).toArray d (by grind [cP]);grind [cP]
end Go.Proofs.YtpndiccohnafbaaGreatDoor.Sk
