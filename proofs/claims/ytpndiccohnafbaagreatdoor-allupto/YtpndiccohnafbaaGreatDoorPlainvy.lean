/- The walk of a sample's plain form. -/
import Derived.Test.YtpndiccohnafbaaGreatDoorPlainw
import Derived.Test.YtpndiccohnafbaaGreatDoorWmy
open Go.Value renaming string->L
open Go.Lib renaming decDigits->ca
open UInt8 renaming ofNat->Ua
namespace Go.Proofs.YtpndiccohnafbaaGreatDoor
namespace Plainv
open Go.RowKit Bytes Nums Numw Mem Tags Tagw Opts Plain Readw Plainw
theorem GU (G b:Nat)(a:List (List UInt8))(w:World)(c:G<w.heap.size)(i:a.length<=b)(k:∀j x,a[j]? = some x->w.cell? ⟨G,j,none⟩=some (L ⟨x.toArray⟩))(n:a.length<=140737488355328)(hz:(Lib.join a [44]).length<=140737488355328):
  Calls Tryz.prog 207 #[.slice (some ⟨G,0,none⟩) a.length b,L ⟨#[44]⟩] w λe g=>(∃z,e=.returned (L z)/\B z=Lib.join a [44]/\z.size<=140737488355328)/\Below w.heap.size w g:=by
 have d:(a.map λx=>(⟨x.toArray⟩:ByteArray)).map (λx=>x.data.toList)=a:=by
  rw[List.map_map];exact List.map_id a
 have f:=Tryz.strings_Join G 0 b (a.map λx=>⟨x.toArray⟩) ⟨#[44]⟩ w (λj x o=>by grind) c (by grind) (by grind) (by rw[d];exact hz);rw[List.length_map,d]at f;refine f.mono λe g h=>?_
 obtain⟨m,l⟩:=h;refine⟨⟨_,m,rfl,?_⟩,l⟩;rw[aj];exact hz
theorem Ev (m kb o:ByteArray)(g:Bool)(v r:Int)(E:Nat)(a:List (List UInt8))(n:Value)(w:World)(hst:Strs E w n a)(t:a.length<=140737488355328)(hz:(Lib.join a [44]).length<=140737488355328):
  Calls Tryz.prog 225 #[.agg #[L m,L kb,.bool g,.int .i64 v,L o,.int .i64 r,n]] w λe F=>(∃z,e=.returned (L z)/\B z=pt a/\z.size<=140737488355340)/\Below w.heap.size w F:=by
 rcases hst with ⟨rfl,rfl⟩|⟨G,b,rfl,s,c,d,f⟩
 .go_in;go_wp2_with fail;go_ret;exact⟨⟨_,rfl,rfl,by decide⟩,ai _⟩
 by_cases l:a=[]
 .subst l;go_in;go_wp2_with fail;go_ret;exact⟨⟨_,rfl,rfl,by decide⟩,ai _⟩
 have u:1<=a.length:=by grind
 have k:=GU G b a (w.alloc (.cells #[L m,L kb,.bool g,.int .i64 v,L o,.int .i64 r,.slice (some ⟨G,0,none⟩) a.length b] 206)) (by simp;omega) d (λj x A=>by
   rw[(ai _).cell (p:=⟨G,j,none⟩) c];exact f j x A) t hz
 have q:=aa k;clear k;have y:((a.length:Int)==0)=false:=by grind
 go_in;go_wp2_with (go_at_call 207;refine q.mono ?_;rintro e H ⟨⟨z,rfl,i,D⟩,h⟩)
 go_ret;refine⟨⟨_,rfl,by rw[pt,if_neg l,<-i];exact bp _ _,?_⟩,(ai _).trans (h.mono (by simp))⟩;rw[aj];refine Nat.le_trans (Nat.le_of_eq (congrArg List.length (bp _ _))) ?_;rw[List.length_append,<-aj z];show 2+z.size<=_;omega
end Plainv
namespace Ag
open Bytes Nums Vals Opts Tags Spl Plain
variable {a:List UInt8}{b:Nat}{c:UInt8}
theorem tL (h:b<10):dig ((Ua (48+b)).toNat:Int)=true/\((Ua (48+b)).toNat:Int) - 48=b:=by grind [nz,UInt8.toNat_ofNat']
theorem NY:∀n:Nat,dQ (ca n)=true/\val (ca n)=n:=by
 intro n
 induction n using Nat.strongRecOn with
 | _ n c=>
  rw[ca];by_cases h:n<10
  .obtain⟨d,e⟩:=tL h;rw[dif_pos h];refine⟨by grind [dQ],?_⟩;show 0*10+_=_;omega
  rw[dif_neg h];obtain⟨a,b⟩:=c (n / 10) (by omega);grind [tL,sT,dQ]
theorem wJ (n:Nat):ca n≠[]:=by
 rw[ca];split<;>simp
theorem Dy (h:dQ a=true)(c:a≠[])(d:a.length<=b):made dig b a=true:=by grind [made,dQ]
theorem Gj (h:dQ a=true)  (b:dig (c.toNat:Int)=false):c∉a:=by
 intro d;grind [dQ]
theorem BW (h:c∉a):has c a=false:=by grind [has]
theorem KU {b:List UInt8} : has c (a++c ::b)=true:=by
 unfold has;simp
set_option maxRecDepth 100000 in
theorem Dv:∀r:Fin 1000,r.val=0\/(dec (Lib.trimRightB [Ua (48+r.val / 100),Ua (48+r.val / 10 % 10),Ua (48+r.val % 10)] 48)=some (r.val:Int)/\dQ (Lib.trimRightB [Ua (48+r.val / 100),Ua (48+r.val / 10 % 10),Ua (48+r.val % 10)] 48)=true):=by decide +kernel
theorem wK (h:b<1000):(ca (1000+b)).drop 1=[Ua (48+b / 100),Ua (48+b / 10 % 10),Ua (48+b % 10)]:=by
 rw[ca,dif_neg (by omega),ca,dif_neg (by omega),ca,dif_neg (by omega),Lib.decDigits_one (by omega)];simp only[List.append_assoc,List.singleton_append];have a:(1000+b) / 10 / 10 % 10=b / 100:=by omega
 grind
theorem Dw:dec [48]=some 0:=by decide +kernel
theorem OE (h:b<=999999999):num (ou b)=some (b:Int)/\(∀c∈ou b,dig (c.toNat:Int)=true\/c=46)/\ou b≠[]/\(∃c l,ou b=c ::l/\dig (c.toNat:Int)=true):=by
 obtain⟨f,q⟩:=NY (b / 1000);have m:(ca (b / 1000)).length<=6:=by
  rw[Lib.decDigits_length];exact iW 5 _ (by omega)
 have p:=Dy f (wJ _) m;have j:(46:UInt8)∉ca (b / 1000):=Gj f rfl;have d:∀l:List UInt8,dQ l=true->∀c∈l,dig (c.toNat:Int)=true:=λl m c i=>by grind [dQ]
 have a:∀r:List UInt8,∃c l,ca (b / 1000)++r=c ::l/\dig (c.toNat:Int)=true:=λr=>by
  cases e:ca (b / 1000) with
  | nil=>exact absurd e (wJ _)
  | cons c l=>exact⟨c,l++r,rfl,d _ f c (by grind)⟩
 unfold ou;by_cases g:b % 1000=0
 .rw[if_pos g,List.append_nil];refine⟨?_,λc i=>Or.inl (d _ f c i),wJ _,by simpa using a []⟩;grind [Wm.wT,mn,BW,Dw]
 rw[if_neg g,wK (by omega)];obtain⟨k,n⟩:=(Dv ⟨b % 1000,by omega⟩).resolve_left g;have o:∀r,aM 46 (ca (b / 1000)++46 ::r)=ca (b / 1000):=λr=>Wm.pJ j
 refine⟨?_,λc i=>?_,by simp,a _⟩
 .grind [jP,KU,Wm.qO]
 grind
theorem vG (l:List UInt8):sg [] l=[]:=by
 unfold sg;split<;>simp[has]
theorem Fu {v:Int}(h:0<=v):wn v=ou v.natAbs:=by grind [wn]
theorem gi {v:Int}(b:0<=v)(d:v<=999999999)(e:∀c∈a,dig (c.toNat:Int)=false):signed a (wn v)=some ([],v):=by grind [OE,Fu,sg,ou,has,signed]
def Na (a:List (List UInt8)):Prop:=a.Pairwise (·<·)
theorem qU (a:List (List UInt8))(h:a.Pairwise (·<=·)):Na (Lib.compact a):=by
 unfold Lib.compact Lib.compactUpTo Na;rw[List.pairwise_map];have e:(List.range a.length).Pairwise (·<·):=List.pairwise_lt_range;refine(e.filter _).imp_of_mem λ{i j} b c d=>?_
 rw[List.mem_filter,List.mem_range]at b c;have f:a.toArray[i]! = a[i]:=by simp[b.1]
 have g:a.toArray[j]! = a[j]:=by simp[c.1]
 have k:=List.pairwise_iff_getElem.1 h;grind [Lib.keeps]
def behind (r:Int)(a:List (List UInt8)):List UInt8:=(if r=1000 then [] else [124,64]++wn r)++pt a
end Ag
end Go.Proofs.YtpndiccohnafbaaGreatDoor
