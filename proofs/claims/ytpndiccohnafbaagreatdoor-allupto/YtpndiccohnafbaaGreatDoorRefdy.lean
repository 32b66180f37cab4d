/- The walks of the document's numerals. -/
import Derived.Test.YtpndiccohnafbaaGreatDoorTextsy
import Derived.Lib.ItoaMem
import Derived.Laws.IdiomStrings
import Derived.Deep.RegionWith
import Derived.BigRegion
set_option maxHeartbeats 9000000
open Option renaming none->Y,some->Z,toList_some->Xa
open Go.Value renaming int->I,string->L
open Go.IntKind renaming i64->O
open Go.Ending renaming returned->ca,returned->Za
open Go.Lib renaming decDigits->Ua
open Go.Proofs.Tryz renaming prog->Va
open UInt8 renaming ofNat->Wa
open Go renaming World->N
open List renaming take_add_one->Ya,take_of_length_le->Ub
open Nat renaming le_refl->eb
open ByteArray renaming size_extract->qb
namespace Go.Proofs.YtpndiccohnafbaaGreatDoor
namespace Refd
open Go.RowKit Bytes Numw Mem Plain
def one (c:Int):ByteArray:=⟨#[Wa c.toNat]⟩
theorem wF (c:Int)(f:0<=c)(h:c<=255)(W:N)(g:Nat)(b:W.cell? ⟨g,0,Y⟩=Z (I .u8 c)):
  (convert 140 9 (.slice (Z ⟨g,0,Y⟩) 1 1)).run Va W=.ok (L (one c)) W:=by
 refine run_convert_bytes_back (P:=Va) W 140 9 5 ⟨g,0,Y⟩ 1 [Wa c.toNat] Tryz.underlying140 Tryz.underlying5 Tryz.underlying9 λj d=>?_
 have a:j=0:=by simpa using d
 subst a;have e:((Wa c.toNat).toNat:Int)=c:=by
  rw[UInt8.toNat_ofNat'];omega
 show W.cell? _=Z (I .u8 ((Wa c.toNat).toNat:Int));rw[e];exact b
theorem MY (c:Int):B (one c)=[Wa c.toNat]:=rfl
theorem nA (v:Int)(c:0<=v)(d:v<10)(w:N):
  Calls Va 134 #[I O v] w λe b=>(∃z,e=ca (L z)/\B z=Ua v.toNat)/\Below w.heap.size w b:=by
 have a:=wF (48+v) (by omega) (by omega);go_in;go_wp2_with fail;go_ret;refine⟨⟨_,rfl,?_⟩,ai _⟩;rw[MY,Lib.decDigits_one (by omega)];congr 2;omega
variable {a b:N}
theorem Gc {v:Int}(h:10<=v):Ua v.toNat=Ua (v / 10).toNat++[Wa (48+v % 10).toNat]:=by
 rw[Ua,dif_neg (by omega)];congr 2
 .omega
 congr 1;omega
theorem uQ (h:Below a.drew.heap.size a.drew b):Below a.heap.size a b:=⟨h.os,h.tape,h.output,h.size,h.block⟩
theorem Kt {o:Obj}(h:Below (a.alloc o).drew.heap.size (a.alloc o).drew b):Below a.heap.size a b:=
 ((ai o).drew).trans (h.mono (by simp))
set_option maxRecDepth 100000 in
theorem wL (v:Int)(f:10<=v)(k:v<=1000000000)(w:N)
  (c:∀W:N,Calls Va 134 #[I O (v / 10)] W λe b=>(∃z,e=ca (L z)/\B z=Ua (v / 10).toNat/\z.size<=20)/\Below W.heap.size W b):
  Calls Va 134 #[I O v] w λe b=>(∃z,e=ca (L z)/\B z=Ua v.toNat)/\Below w.heap.size w b:=by
 change Hid _ at c;have h:=wF (48+v % 10) (by omega) (by omega);have n:IntKind.i64.wrap (v.tdiv 10)=v / 10:=by
  rw[Int.tdiv_eq_ediv_of_nonneg (by omega)];exact IntWalk.i64_in _ (by omega)
 have d:(one (48+v % 10)).size=1:=rfl;have m:v.tmod 10=v % 10:=Int.tmod_eq_emod_of_nonneg (by omega);have l:IntKind.i64.wrap (48+v % 10)=48+v % 10:=IntWalk.i64_in _ (by omega);have o:IntKind.u8.wrap (48+v % 10)=48+v % 10:=IntWalk.u8_in _ (by omega);go_in;go_wp2_with fail;go_region_with (go_at_call 134;refine(c.out _).mono ?_;rintro e j ⟨⟨z,rfl,hz,i⟩,a⟩;try (have g:j.cell? ⟨w.heap.size,0,Y⟩=Z (I .u8 (48+v % 10)):=by rw[a.cell (p:=⟨w.heap.size,0,Y⟩) (by simp)];simp))
 all_goals (go_wp2_with fail;go_ret;refine⟨⟨_,rfl,?_⟩,?_⟩)
 all_goals first|(rw[bp,hz,MY];exact(Gc f).symm)|exact(uQ a).alloc (uQ a).size _|exact Kt a
theorem Dx (n:Nat):∀(v:Int),0<=v->v<=1000000000->v.toNat<=n->∀w:N,
  Calls Va 134 #[I O v] w λe c=>(∃z,e=ca (L z)/\B z=Ua v.toNat)/\Below w.heap.size w c:=by
 induction n with
 | zero=>
  intro v a b g w;exact nA v a (by omega) w
 | succ n i=>
  intro v a b g w;by_cases h:v<10
  .exact nA v a h w
  refine wL v (by omega) b w λW=>(i (v / 10) (by omega) (by omega) (by omega) W).mono λe c h=>?_
  obtain⟨⟨z,f,hz⟩,d⟩:=h;refine⟨⟨z,f,hz,?_⟩,d⟩;rw[aj,hz,Lib.decDigits_length];exact Nat.le_trans (iW 9 _ (by have:(10:Nat) ^ (9+1)=10000000000:=(by decide);omega)) (by decide)
theorem digits (v:Int)(b:0<=v)(c:v<=1000000000)(w:N):
  Calls Va 134 #[I O v] w λe a=>(∃z,e=ca (L z)/\B z=Ua v.toNat/\z.size<=20)/\Below w.heap.size w a:=by
 refine(Dx v.toNat v b c (eb _) w).mono λe a h=>?_
 obtain⟨⟨z,f,hz⟩,d⟩:=h;refine⟨⟨z,f,hz,?_⟩,d⟩;rw[aj,hz,Lib.decDigits_length];exact Nat.le_trans (iW 9 _ (by have:(10:Nat) ^ (9+1)=10000000000:=(by decide);omega)) (by decide)
end Refd
namespace Refs
open Bytes Nums
def tw (t l:List UInt8):List UInt8:=l.takeWhile λb=>!t.contains b
variable {a c e:Int}{f g:List UInt8}{h:Int × Int × Int}{i:Nat}
theorem Pq {b:UInt8}(a:g[i]? = Z b)(c:f.contains b=true)(h:(g.take i).all (λb=>!f.contains b)=true):tw f g=g.take i:=by
 unfold tw
 induction g generalizing i with
 | nil=>simp at a
 | cons x g d=>
  cases i with
  | zero=>simp_all
  | succ i=>grind [List.takeWhile_cons]
theorem Pp (h:g.all (λb=>!f.contains b)=true):tw f g=g:=by
 unfold tw
 induction g with
 | nil=>rfl
 | cons x g a=>simp_all
def cU (a:Int×Int×Int)(b:UInt8):Option (Int×Int×Int):=
 if dig b.toNat then
  (if a.2.2<0 then (if 6<a.2.1+1 then Y else Z (10*a.1+((b.toNat:Int) - 48),a.2.1+1,a.2.2))
  else (if 3<a.2.2+1 then Y else Z (10*a.1+((b.toNat:Int) - 48),a.2.1,a.2.2+1)))
 else if b=46/\a.2.2<0 then Z (a.1,a.2.1,0) else Y
def et:Int×Int×Int->List UInt8->Option (Int×Int×Int)
 | st,[]=>Z st
 | st,b ::l=>(cU st b).bind λa=>et a l
theorem Ei (l:List UInt8)(b:UInt8):∀c,et c (l++[b])=(et c l).bind λa=>cU a b:=by
 induction l with
 | nil=>
  intro c;show (cU c b).bind (λa=>Z a)=cU c b;grind
 | cons x l d=>
  intro c;grind [cU,et]
theorem ug {s:ByteArray}  (h:i<s.size)(b:Int×Int×Int):et b ((B s).take (i+1))=(et b ((B s).take i)).bind λa=>cU a s[i]:=by
 rw[Ya,gO h,Xa,Ei]
theorem js (l m:List UInt8):∀a,et a (l++m)=(et a l).bind λb=>et b m:=by
 induction l with
 | nil=>intro a;rfl
 | cons x l c=>
  intro a;grind [cU,et]
theorem Eh (a:et h (f.take i)=Y):et h f=Y:=by grind [js,List.take_append_drop]
def Small (v b a:Int):Prop:=(a<0->v+1<=10 ^ b.toNat)/\(0<=a->v+1<=10 ^ (b.toNat+a.toNat))
theorem sC:Small 0 0 (-1):=⟨λ_=>by decide,λh=>by omega⟩
theorem xY {n:Nat}(h:n<=9):(10:Int) ^ n<=1000000000:=by
 have e:n=0\/n=1\/n=2\/n=3\/n=4\/n=5\/n=6\/n=7\/n=8\/n=9:=by omega
 grind
theorem lS (h:Small a c e)(i:c<=6)(g:e<=3):a<=999999999:=by
 by_cases f:e<0
 .have d:=h.1 f;have b:=xY (n:=c.toNat) (by omega);omega
 have d:=h.2 (by omega);have b:=xY (n:=c.toNat+e.toNat) (by omega);omega
theorem sA {v b c d:Int}(h:Small v b c)(g:0<=b)(e:c<0)(i:d<=9):Small (10*v+d) (b+1) c:=by
 refine⟨λ_=>?_,λf=>by omega⟩;have a:=h.1 e;rw[show (b+1).toNat=b.toNat+1 by omega,Int.pow_succ];omega
theorem sB {v c b d:Int}(h:Small v c b)(e:0<=b)(g:d<=9):Small (10*v+d) c (b+1):=by
 refine⟨λf=>by omega,λ_=>?_⟩;have a:=h.2 e;rw[show c.toNat+(b+1).toNat=(c.toNat+b.toNat)+1 by omega,Int.pow_succ];omega
theorem uu (h:Small a c e)(b:e<0):Small a c 0:=by
 refine⟨λd=>by omega,λ_=>?_⟩;exact h.1 b
def jO (a:Int×Int×Int):Int:=
 if a.2.1<1\/a.2.2=0 then -1 else if a.2.2<1 then a.1*1000 else if a.2.2=1 then a.1*100 else if a.2.2=2 then a.1*10 else a.1
def aw (l:List UInt8):Int:=match et (0,0,-1) l with
 | none =>-1
 | some a=>jO a
def Inv (a:Int×Int×Int):Prop:=0<=a.1/\0<=a.2.1/\a.2.1<=6/\-1<=a.2.2/\a.2.2<=3/\Small a.1 a.2.1 a.2.2
theorem Ek {c:Int×Int×Int}{b:UInt8}(i:Inv h)(a:cU h b=Z c):Inv c:=by
 obtain⟨j,d,g,k,l,e⟩:=i;unfold cU at a;split at a
 .rename_i m;have n:=nz.1 m;split at a
  .rename_i f;split at a
   .cases a
   cases a;exact⟨by omega,by grind,by grind,k,l,sA e d f (by omega)⟩
  split at a
  .cases a
  cases a;exact⟨by omega,d,g,by grind,by grind,sB e (by omega) (by omega)⟩
 split at a
 .rename_i f;cases a;exact⟨j,d,g,by grind,by grind,uu e f.2⟩
 cases a
theorem Hv (l:List UInt8):∀c a,Inv c->et c l=Z a->Inv a:=by
 induction l with
 | nil=>
  intro c a h d;cases d;exact h
 | cons b l e=>grind [Ek,et,Option.bind_eq_some_iff]
theorem Aw (d:Inv h):-1<=jO h/\jO h<=999999999:=by
 obtain⟨g,i,j,k,l,c⟩:=d;have f:∀n:Nat,n<=6->(10:Int) ^ n<=1000000:=by
  intro n m;have e:n=0\/n=1\/n=2\/n=3\/n=4\/n=5\/n=6:=by omega
  grind
 have a:=f h.2.1.toNat (by omega);unfold jO;split
 .omega
 split
 .have:=c.1 (by omega);omega
 have b:=c.2 (by omega);grind
theorem iB (l:List UInt8):-1<=aw l/\aw l<=999999999:=by
 unfold aw;cases h:et (0,0,-1) l with
 | none=>exact⟨by decide,by decide⟩
 | some a=>exact Aw (Hv l _ _ ⟨by decide,by decide,by decide,by decide,by decide,sC⟩ h)
def qC (l:List UInt8):Int:=match l with
 | []=>0
 | b ::_=>if b=45 then 45 else if b=43 then 43 else 0
def eB (l:List UInt8):List UInt8:=if qC l=0 then l else l.drop 1
def bK (k l:List UInt8)(a:Bool):Option (Int×Int×List UInt8):=
 if k=[99] then (if 0<=aw (eB l)/\qC l≠43 then Z (99,if qC l=45 then -aw (eB l) else aw (eB l),[]) else Y)
 else if k=[103] then (if 0<=aw (eB l)/\a=false then Z (if qC l=0 then 103 else 100,if qC l=45 then -aw (eB l) else aw (eB l),[]) else Y)
 else if k=[115] then (if made dm 16 l=true/\a=false then Z (115,0,l) else Y)
 else if k=[109,115]\/k=[104] then (if 0<=aw (eB l)/\qC l=0 then Z (109,aw (eB l),[]) else Y)
 else Y
end Refs
namespace Refw
open Go.RowKit Bytes Nums Refs Numw
variable {a b:Nat}{c:ByteArray}{d:Int}
theorem OD {b:UInt8}(e:a<c.size)(h:((B c).take a).contains b=false)(d:¬(b.toNat:Int)=(c[a].toNat:Int)):((B c).take (a+1)).contains b=false:=by
 rw[Ya,gO e,Xa,List.contains_append,h];have:b≠c[a]:=by
  rintro rfl;exact d rfl
 simp[this]
theorem Qk {b:UInt8}(d:a<c.size)(f:(b.toNat:Int)=(c[a].toNat:Int)):(B c).contains b=true:=by
 have e:b=c[a]:=by
  apply UInt8.toNat_inj.1;omega
 rw[e];simp only[List.contains_iff_mem];exact List.mem_of_getElem? (gO d)
theorem wN (e:a<=b)(d:b<c.size):((B c).drop a)[b - a]? = Z c[b]:=by
 rw[List.getElem?_drop,show a+(b - a)=b by omega,gO d]
theorem DM {t:ByteArray}  (e:a<=b)(g:b<c.size)(h:(((B c).drop a).take (b - a)).all (λd=>!(B t).contains d)=true)(f:(B t).contains c[b]=false):(((B c).drop a).take (b+1 - a)).all (λd=>!(B t).contains d)=true:=by
 rw[show b+1 - a=(b - a)+1 by omega,Ya,wN e g,Xa,List.all_append,h];simp only[List.all_cons,List.all_nil,f];rfl
theorem Mv (s t:ByteArray)(a:Nat)(A:a<=s.size)(F:s.size<=140737488355328)(G:t.size<=2)(w:N):
  Calls Va 131 #[L s,I O a,L t] w λe y=>(∃z,e=ca (.tuple #[L z,I O ((a+z.size:Nat):Int)])/\B z=tw (B t) ((B s).drop a)/\a+z.size<=s.size)/\∃n,y=w.drewN n:=by
 go_in;go_wp2_with fail;go_loopw [8] (λp wr=>∃(i n:Nat),p=I O (i:Int)/\a<=i/\i<=s.size/\wr=w.drewN n/\Hid ((((B s).drop a).take (i - a)).all (λb=>!(B t).contains b)=true))
  (λp _=>s.size - (intOf p).toNat)
 case atStart=>exact⟨a,0,rfl,eb _,by omega,rfl,by rw[Nat.sub_self];rfl⟩
 case round=>
  obtain⟨i,n,rfl,c,D,rfl,HA⟩:=hrel;by_cases h:i<s.size
  .have j:(i:Int)<(s.size:Int):=by omega
   go_wp2_with fail;go_loopw [9] (λq wr=>∃(k m:Nat),q=I O (k:Int)/\k<=t.size/\wr=w.drewN m/\Hid (((B t).take k).contains s[i]=false))
    (λq _=>t.size - (intOf q).toNat)
   case atStart=>exact⟨0,n,rfl,Nat.zero_le _,rfl,rfl⟩
   case round=>
    obtain⟨k,m,rfl,E,rfl,u⟩:=hrel;by_cases f:k<t.size
    .have g:(k:Int)<(t.size:Int):=by omega
     go_wp2_with fail;go_quiet (fail);by_cases l:(s[i].toNat:Int)=(t[k].toNat:Int)
     .have o:((s[i].toNat:Int)==(t[k].toNat:Int))=true:=by simpa using l
      go_wp2_with fail;go_ret2;have hz:a+(s.extract a i).size=i:=by
       rw[qb];omega
      refine⟨⟨s.extract a i,by rw[hz];rfl,?_,by omega⟩,_,rfl⟩;rw[bu];exact(Pq (wN c h) (Qk f l) HA).symm
     have o:((s[i].toNat:Int)==(t[k].toNat:Int))=false:=by simpa using l
     go_wp2_with fail;go_roundw
     case rel=>exact⟨k+1,_,by go_num,by omega,rfl,OD f u l⟩
     case measure=>simp[intOf];omega
    have g:¬(k:Int)<(t.size:Int):=by omega
    have d:k=t.size:=by omega
    have r:(B t).contains s[i]=false:=by
     have:=u.out;rwa [d,aj,List.take_length]at this
    change Hid _ at r;clear d;go_wp2_with fail;go_roundw
    case rel=>exact⟨i+1,_,by go_num,by omega,by omega,rfl,DM c h HA r⟩
    case measure=>simp[intOf];omega
  have j:¬(i:Int)<(s.size:Int):=by omega
  go_wp2_with fail;go_ret2;have v:i=s.size:=by omega
  have hz:a+(s.extract a s.size).size=i:=by
   rw[qb];omega
  refine⟨⟨s.extract a s.size,congrArg (λx:Int=>Za (.tuple #[L (s.extract a s.size),I O x])) (by omega),?_,by omega⟩,_,rfl⟩;have e:B (s.extract a s.size)=(B s).drop a:=by
   rw[bu,Ub];rw[List.length_drop,aj];exact eb _
  rw[e];refine(Pp ?_).symm;have:=HA.out;rw[v,Ub]at this
  .exact this
  rw[List.length_drop,aj];exact eb _
def Br (a:Bool)(c:Int):Bool:=dm c||(a&&c==46)
theorem Rr (c:Int):Br false c=dm c:=by simp[Br]
theorem Rt (c:Int):Br true c=oA c:=by simp[Br,oA]
theorem Da {a:Bool}  (b:dm d=false)(c:a=false\/¬d=46):Br a d=false:=by
 rcases c with h|h<;>simp[Br,b,h]
theorem Bt {a:Bool}  (b:dm d=true):Br a d=true:=by
 simp[Br,b]
theorem MS (h:d=46):Br true d=true:=by
 simp[Br,h]
theorem word (s:ByteArray)(c:Int)(a:Bool)(z:s.size<=140737488355328)(w:N):
  Calls Va 183 #[L s,I O c,.bool a] w λe h=>e=ca (.bool (made (Br a) c (B s)))/\w=h:=by
 by_cases l:s.size=0
 .have n:((s.size:Int))<1:=by omega
  have j:s.toList.isEmpty=true:=by
   rw[nh];exact List.eq_nil_of_length_eq_zero (by rw[<-aj];exact l)
  have u:=ky (p:=Br a) (most:=c) j;have v:=aa u;clear u l;go_in;go_wp2_with fail;go_ret;exact Leaf.cq v.symm
 have n:¬((s.size:Int))<1:=by omega
 have j:s.toList.isEmpty=false:=by
  cases t:s.toList.isEmpty with
  | false=>rfl
  | true=>
   rw[nh]at t;rw[aj,t]at l;exact absurd rfl l
 change Hid _ at j;by_cases x:c<(s.size:Int)
 .go_in;go_wp2_with fail;go_ret;exact Leaf.cq (mi x).symm
 go_in;go_wp2_with fail;go_loop [7] (λi=>∃k:Nat,i=I O k/\k<=s.size/\Hid (((B s).take k).all λb=>Br a b.toNat))
  (λi=>s.size - (intOf i).toNat)
 case atStart=>exact⟨0,rfl,Nat.zero_le _,rfl⟩
 case round=>
  obtain⟨k,rfl,y,m⟩:=hrel;by_cases d:k<s.size
  .have g:(k:Int)<(s.size:Int):=by omega
   cases r:dm (s[k].toNat:Int) with
   | true=>
    have f:=aa r;go_wp2_with (go_at_call 230;refine(Leaf.mu _ _).mono ?_;rintro e h ⟨rfl,rfl⟩)
    go_round
    case rel=>exact⟨k+1,by go_num,by omega,kZ d m (Bt f)⟩
    case measure=>simp[intOf];omega
   | false=>
    cases a with
    | false=>
     go_wp2_with (go_at_call 230;refine(Leaf.mu _ _).mono ?_;rintro e h ⟨rfl,rfl⟩)
     go_ret;exact Leaf.cq (lI d (Da r (Or.inl rfl))).symm
    | true=>
     by_cases f:(s[k].toNat:Int)=46
     .have o:((s[k].toNat:Int) != 46)=false:=by simpa using f
      change Hid _ at f;go_wp2_with (go_at_call 230;refine(Leaf.mu _ _).mono ?_;rintro e h ⟨rfl,rfl⟩)
      go_round
      case rel=>exact⟨k+1,by go_num,by omega,kZ d m (MS f)⟩
      case measure=>simp[intOf];omega
     have o:((s[k].toNat:Int) != 46)=true:=by simpa using f
     go_wp2_with (go_at_call 230;refine(Leaf.mu _ _).mono ?_;rintro e h ⟨rfl,rfl⟩)
     go_ret;exact Leaf.cq (lI d (Da r (Or.inr f))).symm
  have g:¬(k:Int)<(s.size:Int):=by omega
  have q:k=s.size:=by omega
  subst q;go_wp2_with fail;go_ret;exact Leaf.cq (mh j (by omega) m).symm
end Refw
namespace Refn
open Go.RowKit Bytes Nums Refs Numw
variable {a b c:Int}{e:Int × Int × Int}{f:UInt8}{g:ByteArray}
theorem Az (b:dig f.toNat=true)(h:e.2.2<0)(a:¬6<e.2.1+1):cU e f=Z (10*e.1+((f.toNat:Int) - 48),e.2.1+1,e.2.2):=by
 rw[cU,if_pos b,if_pos h,if_neg a]
theorem xO (b:dig f.toNat=true)(h:e.2.2<0)(a:6<e.2.1+1):cU e f=Y:=by
 rw[cU,if_pos b,if_pos h,if_pos a]
theorem AA (b:dig f.toNat=true)(h:¬e.2.2<0)(a:¬3<e.2.2+1):cU e f=Z (10*e.1+((f.toNat:Int) - 48),e.2.1,e.2.2+1):=by
 rw[cU,if_pos b,if_neg h,if_neg a]
theorem xP (b:dig f.toNat=true)(h:¬e.2.2<0)(a:3<e.2.2+1):cU e f=Y:=by
 rw[cU,if_pos b,if_neg h,if_pos a]
theorem Ej (b:(f.toNat:Int)=46)(h:e.2.2<0):cU e f=Z (e.1,e.2.1,0):=by
 have a:f=46:=by
  apply UInt8.toNat_inj.1;show f.toNat=46;omega
 subst a;rw[cU,if_neg (by decide),if_pos ⟨rfl,h⟩]
theorem uh (c:dig f.toNat=false)(h:¬((f.toNat:Int)=46/\e.2.2<0)):cU e f=Y:=by
 rw[cU,c];have a:¬(f=46/\e.2.2<0):=by
  rintro⟨rfl,b⟩;exact h ⟨rfl,b⟩
 simp only[Bool.false_eq_true,if_false,if_neg a]
theorem dead {k:Nat}  (f:k<g.size)(h:et (0,0,-1) ((B g).take k)=Z (a,b,c))(d:cU (a,b,c) g[k]=Y):aw (B g) = -1:=by
 have e:et (0,0,-1) ((B g).take (k+1))=Y:=by
  rw[ug f,h];exact d
 rw[aw,Eh e]
theorem alive {k:Nat}   (f:k<g.size)(h:et (0,0,-1) ((B g).take k)=Z (a,b,c))(d:cU (a,b,c) g[k]=Z e):et (0,0,-1) ((B g).take (k+1))=Z e:=by
 rw[ug f,h];exact d
theorem done (h:et (0,0,-1) ((B g).take g.size)=Z (a,b,c)):aw (B g)=jO (a,b,c):=by
 rw[aj,List.take_length]at h;rw[aw,h]
theorem gM {w:N}(h:a=b):Za (I O a)=Za (I O b)/\w=w:=⟨by rw[h],rfl⟩
theorem number (s:ByteArray)(W:s.size<=140737488355328)(w:N):
  Calls Va 184 #[L s] w λe l=>e=ca (I O (aw (B s)))/\w=l:=by
 go_in;go_wp2_with fail;go_loop [3,4,5,6] (λJ K M A=>∃(k:Nat) (v j a:Int),J=I O v/\K=I O j/\M=I O a/\A=I O k/\k<=s.size/\0<=j/\j<=6/\-1<=a/\a<=3/\0<=v/\v<=999999999999999/\Hid (et (0,0,-1) ((B s).take k)=Z (v,j,a)/\Small v j a))
  (λ_ _ _ A=>s.size - (intOf A).toNat)
 case atStart=>exact⟨0,0,0,-1,rfl,rfl,rfl,rfl,Nat.zero_le _,by omega,by omega,by omega,by omega,by omega,by omega,⟨rfl,sC⟩⟩
 case round=>
  obtain⟨k,v,j,a,rfl,rfl,rfl,rfl,V,D,P,R,S,T,U,g⟩:=hrel;by_cases c:k<s.size
  .have p:(k:Int)<(s.size:Int):=by omega
   cases u:dig (s[k].toNat:Int) with
   | true=>
    have G:=nz.1 u;have t:=aa u;by_cases q:a<0
    .by_cases F:6<j+1
     .go_wp2_with (go_at_call 231;refine(Leaf.gU _ _).mono ?_;rintro e l ⟨rfl,rfl⟩)
      go_ret;exact gM (dead c g.1 (xO t q F)).symm
     go_wp2_with (go_at_call 231;refine(Leaf.gU _ _).mono ?_;rintro e l ⟨rfl,rfl⟩)
     go_round
     case rel=>
      have i:=sA g.2 D q (d:=(s[k].toNat:Int) - 48) (by omega);have m:=lS i (by omega) (by omega);exact⟨k+1,10*v+((s[k].toNat:Int) - 48),j+1,a,congrArg (Value.int O) (by omega),rfl,rfl,by go_num,by omega,by omega,by omega,by omega,by omega,by omega,by omega,⟨alive c g.1 (Az t (by dsimp only;omega) (by dsimp only;omega)),i⟩⟩
     case measure=>simp[intOf];omega
    by_cases E:3<a+1
    .go_wp2_with (go_at_call 231;refine(Leaf.gU _ _).mono ?_;rintro e l ⟨rfl,rfl⟩)
     go_ret;exact gM (dead c g.1 (xP t (by dsimp only;omega) E)).symm
    go_wp2_with (go_at_call 231;refine(Leaf.gU _ _).mono ?_;rintro e l ⟨rfl,rfl⟩)
    go_round
    case rel=>
     have i:=sB g.2 (by omega:0<=a) (d:=(s[k].toNat:Int) - 48) (by omega);have m:=lS i (by omega) (by omega);exact⟨k+1,10*v+((s[k].toNat:Int) - 48),j,a+1,congrArg (Value.int O) (by omega),rfl,rfl,by go_num,by omega,by omega,by omega,by omega,by omega,by omega,by omega,⟨alive c g.1 (AA t (by dsimp only;omega) (by dsimp only;omega)),i⟩⟩
    case measure=>simp[intOf];omega
   | false=>
    by_cases m:(s[k].toNat:Int)=46
    .have x:((s[k].toNat:Int)==46)=true:=by simpa using m
     change Hid _ at m;by_cases q:a<0
     .go_wp2_with (go_at_call 231;refine(Leaf.gU _ _).mono ?_;rintro e l ⟨rfl,rfl⟩)
      go_round
      case rel=>
       exact⟨k+1,v,j,0,rfl,rfl,rfl,by go_num,by omega,by omega,by omega,by omega,by omega,by omega,by omega,⟨alive c g.1 (Ej m q),uu g.2 q⟩⟩
      case measure=>simp[intOf];omega
     go_wp2_with (go_at_call 231;refine(Leaf.gU _ _).mono ?_;rintro e l ⟨rfl,rfl⟩)
     go_ret;exact gM (dead c g.1 (uh u (λh=>by have:=h.2;dsimp only at this;omega))).symm
    have x:((s[k].toNat:Int)==46)=false:=by simpa using m
    go_wp2_with (go_at_call 231;refine(Leaf.gU _ _).mono ?_;rintro e l ⟨rfl,rfl⟩)
    go_ret;exact gM (dead c g.1 (uh u (λh=>m h.1))).symm
  have p:¬(k:Int)<(s.size:Int):=by omega
  have y:k=s.size:=by omega
  subst y;have o:=done g.1;change Hid _ at o;by_cases z:j<1
  .go_wp2_with fail;go_ret;refine gM ?_;rw[o.out,jO,if_pos (Or.inl z)]
  by_cases n:a=0
  .have r:(a==0)=true:=by simpa using n
   go_wp2_with fail;go_ret;refine gM ?_;rw[o.out,jO,if_pos (Or.inr n)]
  have r:(a==0)=false:=by simpa using n
  have H:=lS g.2 (by omega) (by omega);have f:a = -1\/a=1\/a=2\/a=3:=by omega
  have b:aw (B s)=(if a = -1 then v*1000 else if a=1 then v*100 else if a=2 then v*10 else v):=by
   rw[o.out,jO,if_neg (by dsimp only;omega)];dsimp only;rcases f with e|e|e|e<;>rw[e]<;>rfl
  change Hid _ at b;clear o g;rcases f with e|e|e|e
  all_goals subst e
  .go_wp2_with fail;go_rounds 5
   go_ret;refine gM ?_;rw[b.out];simp;omega
  .go_wp2_with fail;go_rounds 3
   go_ret;refine gM ?_;rw[b.out];simp;omega
  .go_wp2_with fail;go_rounds 2
   go_ret;refine gM ?_;rw[b.out];simp;omega
  go_wp2_with fail;go_rounds 1
  go_ret;refine gM ?_;rw[b.out,if_neg (by decide),if_neg (by decide),if_neg (by decide)]
end Refn
end Go.Proofs.YtpndiccohnafbaaGreatDoor
