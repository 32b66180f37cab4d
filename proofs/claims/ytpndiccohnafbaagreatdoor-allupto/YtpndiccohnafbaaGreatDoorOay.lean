/- A record read: with no Go in sight. -/
import Derived.Test.YtpndiccohnafbaaGreatDoorHiy
import Derived.Lib.AtoiAll
import Derived.Shelf.Strings.Builder1
import Derived.Shelf.Strings.Builder2
import Derived.Shelf.Strings.OnBuilder
import Derived.Shelf.Strings.Trim
import Derived.Shelf.Small.Bits
import Derived.Shelf.Small.Strs
import Derived.Shelf.Small.Wraps
import Derived.Shelf.Strings.BuilderF
import Derived.Shelf.Strconv.Itoa0
import Derived.Shelf.Strconv.Itoa1
import Derived.Shelf.LaysM
import Derived.Shelf.Strconv.Itoa2
import Derived.Shelf.Strconv.Itoa3
import Derived.Shelf.Strings.Search1
import Derived.Shelf.Strings.Search2
import Derived.Shelf.Strings.Search3
import Derived.Shelf.Strings.Cut
import Derived.Shelf.Strings.Count
import Derived.Shelf.Sort.Plain
import Derived.Shelf.Strings.Prefix
import Derived.Shelf.Strings.Split
import Derived.Shelf.Strings.SplitShaped
import Derived.Shelf.Unicode.Decode
import Derived.Shelf.Strings.RuneCount
import Derived.Shelf.Strings.Explode
import Derived.Shelf.Bits.Mul64
import Derived.Shelf.Strings.Repeat
import Derived.Shelf.Slices.CompactS
import Derived.Shelf.Slices.Cells
import Derived.Shelf.Slices.In.SortNone
import Derived.Test.YtpndiccohnafbaaGreatDoorProg
import Derived.Shelf.Strconv.AtoiAll
import Derived.Shelf.LaysC
import Derived.Shelf.Slices.SearchI
import Derived.Shelf.Slices.Empties
import Derived.Test.YtpndiccohnafbaaGreatDoorCr
set_option maxHeartbeats 9000000
open Go.Value renaming string->L,int->I
open Go.Ending renaming returned->ca
open Go.IntKind renaming i64->O
open Option renaming none->Y,some->Z
open Go.Lib renaming atoiAll->Ua,decDigits->Wa,itoa->Ya,hasPrefix->Za,parseUint10->eb
open Go renaming bodyPost_ret->Va,World->N,Calls->Wb
open Go.Proofs.Tryz renaming prog->Xa
open List renaming length_eq_zero_iff->qb,append_nil->Vb
open Go.World renaming block_lt_of_cell?->Ub
namespace Go.Proofs.YtpndiccohnafbaaGreatDoor.Jr
open Bytes
abbrev Bs:=List UInt8
def nX (s:Bs):(Bs×Int×Bs)×Bool:=
 match Ua (aM 58 (cO 58 s)) with
 | .ok n=>
  if n<0\/((cO 58 (cO 58 s)).length:Int)<n\/aM 58 s=[] then (([],0,[]),false)
  else match Ua ((aM 58 s).drop 1) with
   | .ok a=>
    if a<0\/1000000000<a then (([],0,[]),false)
    else (((aM 58 s).take 1,a,(cO 58 (cO 58 s)).take n.toNat),Za s (bC ((aM 58 s).take 1) a ((cO 58 (cO 58 s)).take n.toNat)))
   | _=>(([],0,[]),false)
 | _=>(([],0,[]),false)
variable {a b:Bs}{c d:Int}
theorem lZ {d:Nat}(h:d<10):(UInt8.ofNat (48+d)).toNat=48+d:=by
 rw[UInt8.toNat_ofNat'];omega
theorem tK (u:Nat):∀b∈Wa u,48<=b.toNat/\b.toNat<=57:=by
 induction u using Nat.strongRecOn with
 | _ u a=>grind [lZ,Wa]
theorem Ik (u:Nat):∀r,u<18446744073709551616->eb 0 (Wa u++r)=eb u r:=by
 induction u using Nat.strongRecOn with
 | _ u b=>
  intro r a;rw[Wa];grind [lZ,eb]
theorem wJ (u:Nat):Wa u≠[]:=by
 rw[Wa];split<;>simp
theorem jM (h:0<=c):Ya c=Wa c.toNat:=by grind [Ya]
theorem lX (d:0<=c)(g:c<9223372036854775808):Ua (Ya c)=.ok c:=by
 rw[jM d];have f:=Ik c.toNat [] (by omega);rw[Vb,eb]at f;have i:=tK c.toNat;have b:=wJ c.toNat;obtain⟨a,r,e⟩:∃a r,Wa c.toNat=a ::r:=by
  cases h:Wa c.toNat with
  | nil=>exact absurd h b
  | cons a r=>exact⟨a,r,rfl⟩
 grind [Ua,Lib.parseMag]
theorem tS {n:Int}(h:0<=n):∀b∈Ya n,b≠58:=λb a e=>by
 rw[jM h]at a;have:=tK _ b a;simp_all
theorem nH {c:UInt8}(h:∀b∈a,b≠c)(r:Bs):aM c (a++c ::r)=a/\cO c (a++c ::r)=r:=by
 unfold aM cO;simp_all
theorem DJ (c:UInt8)(s:Bs):∀b∈aM c s,b≠c:=by
 unfold aM
 induction s with
 | nil=>simp
 | cons x s a=>grind [List.takeWhile_cons]
theorem MX (k:Bs)(n:Int)(t x:Bs):bC k n t++x=(k++Ya n)++58 ::(Ya t.length++58 ::(t++10 ::x)):=by grind [bC]
theorem qX {k:Bs}  (f:∀b∈k,b≠58)(g:0<=c)(t x:Bs):aM 58 (bC k c t++x)=k++Ya c/\aM 58 (cO 58 (bC k c t++x))=Ya t.length/\cO 58 (cO 58 (bC k c t++x))=t++10 ::x:=by
 have a:∀b∈k++Ya c,b≠58:=λb e=>by grind [tS]
 have d:=tS (n:=(t.length:Int)) (by omega);grind [MX,nH]
theorem mC:Za a b=true↔∃x,a=b++x:=by
 unfold Za;rw[List.isPrefixOf_iff_prefix];exact⟨λ⟨x,h⟩=>⟨x,h.symm⟩,λ⟨x,h⟩=>⟨x,h.symm⟩⟩
theorem Ez {b:UInt8}   (e:b≠58)(d:0<=c)(j:c<=1000000000)(l:a.length<9223372036854775808)(x:Bs):nX (bC [b] c a++x)=(([b],c,a),true):=by
 obtain⟨c1,c2,c3⟩:=qX (k:=[b]) (λy f=>(List.mem_singleton.1 f)▸e) d a x;unfold nX;rw[c2,lX (by omega) (by omega)];simp only;rw[c1,c3,if_neg (by simp;omega)];have g:([b]++Ya c).drop 1=Ya c:=rfl;have h:([b]++Ya c).take 1=[b]:=rfl;have i:(a++10 ::x).take (a.length:Int).toNat=a:=by simp
 grind [lX,mC]
theorem GS (e:0<=c)(a:c<9223372036854775808)(f:0<=d)(b:d<9223372036854775808)(h:Ya c=Ya d):c=d:=by grind [lX]
theorem Kc {t i r:Bs}(n:∀e∈a,e≠58)(f:∀e∈b,e≠58)(o:0<=c)(g:0<=d)(s:t.length<9223372036854775808)(p:i.length<9223372036854775808)(h:bC a c t=bC b d i++r):r=[]:=by
 obtain⟨_,j,k⟩:=qX n o t [];obtain⟨_,l,m⟩:=qX f g i r;rw[Vb,h,l]at j;rw[Vb,h,m]at k;have q:=GS (by omega) (by omega) (by omega) (by omega) j;grind [List.length_append,qb]
theorem IA {k y z t:Bs}{n:Int}(d:∀b∈k,b≠58)(e:0<=n)(j:(bC k n t).length<9223372036854775808)(h:bC k n t=y++z)(hz:z≠[]):(nX y).2=false:=by
 rcases a:(nX y).2 with _|_
 .rfl
 exfalso;have i:y.length<9223372036854775808:=by grind
 have f:t.length<9223372036854775808:=by grind [bC]
 unfold nX at a;split at a
 .split at a
  .cases a
  split at a
  .split at a
   .cases a
   obtain⟨x,g⟩:=mC.1 a;rw[g,List.append_assoc]at h;have:=Kc d (λb c=>DJ 58 y b (List.mem_of_mem_take c)) e (by omega) f (by grind [cO,List.dropWhile_suffix]) h;grind [List.append_eq_nil_iff]
  cases a
 cases a
end Go.Proofs.YtpndiccohnafbaaGreatDoor.Jr
namespace Go.Proofs
open Go.Shelf
def Tryz.vj:Go.Shelf.Ren:=⟨fun|172=>196|244=>237|245=>238|247=>267|279=>268|280=>269|281=>270|282=>271|287=>292|316=>293|171=>80|205=>294|321=>305|322=>306|243=>117|246=>154|283=>200|284=>201|285=>202|286=>203|129=>147|317=>240|318=>241|319=>242|320=>243|337=>272|338=>273|n=>n,fun|9=>9|3=>3|75=>97|76=>143|4=>4|5=>5|167=>349|37=>140|0=>0|85=>350|2=>2|168=>352|53=>237|175=>370|46=>173|210=>374|127=>198|145=>386|143=>384|21=>21|171=>296|173=>298|212=>335|51=>235|20=>20|213=>336|232=>375|233=>376|80=>118|n=>n,fun|15=>4|16=>5|17=>0|18=>6|19=>7|n=>n⟩
theorem Tryz.rJ:Go.Proofs.LaysC.n172 Xa Tryz.vj:=by repeat' first|kernel_rfl|decide|intro _|constructor
open Go.RowKit in
theorem Tryz.strconv_Atoi_ok (s:ByteArray)(a:s.size<=9223372036854775806)(v:Int)(h:Ua s.data.toList=.ok v)(w:N):
  Wb Xa 196 #[L s] w λe b=>e=ca (.tuple #[I O v,.nilIface])/\(b=w\/∃t,b=Lib.bytesWorld w 5 t):=Any.strconv_Atoi_ok Tryz.rJ s a v h w
open Go.RowKit in
theorem Tryz.strconv_Atoi_syntax (s:ByteArray)(b:s.size<=281474976710656)(h:Ua s.data.toList=.«syntax»)(a:Value)(w:N)(g:w.cell? ⟨4,0,Y⟩=Z a)(d:a=.nilIface\/∃j i,a=.iface j i):
  Wb Xa 196 #[L s] w λe f=>∃c,e=ca (.tuple #[I O (0),.iface 352 (.pointer (Z ⟨c,0,Y⟩))])/\w.heap.size<=c/\f.heap[c]? = Z (.cells #[L ⟨#[65,116,111,105]⟩,L s,a] 374 (0,0))/\Below w.heap.size w f:=Any.strconv_Atoi_syntax Tryz.rJ s b h a w g d
open Go.RowKit in
theorem Tryz.strconv_Atoi_range (s:ByteArray)(b:s.size<=281474976710656)(h:Ua s.data.toList=.range)(a:Value)(w:N)(g:w.cell? ⟨5,0,Y⟩=Z a)(d:a=.nilIface\/∃j i,a=.iface j i):
  Wb Xa 196 #[L s] w λe f=>∃c,e=ca (.tuple #[I O (Lib.atoiSat s.data.toList),.iface 352 (.pointer (Z ⟨c,0,Y⟩))])/\w.heap.size<=c/\f.heap[c]? = Z (.cells #[L ⟨#[65,116,111,105]⟩,L s,a] 374 (0,0))/\Below w.heap.size w f:=Any.strconv_Atoi_range Tryz.rJ s b h a w g d
def Tryz.Al:Go.Shelf.Ren:=⟨fun|99=>197|206=>239|n=>n,fun|9=>9|4=>4|3=>3|n=>n,fun|n=>n⟩
theorem Tryz.Ow:Go.Proofs.Lays.n99 Xa Tryz.Al:=by repeat' first|kernel_rfl|decide|intro _|constructor
open Go.RowKit Go.Lib in
theorem Tryz.strings_HasPrefix (s p:ByteArray)(w:N):
  Wb Xa 197 #[L s,L p] w λe a=>e=ca (.bool (Za s.data.toList p.data.toList))/\a=w:=Any.strings_HasPrefix Tryz.Ow s p w
def Tryz.tq:Go.Shelf.Ren:=⟨fun|25=>151|31=>198|32=>199|37=>109|n=>n,fun|22=>35|3=>3|4=>4|40=>173|0=>0|n=>n,fun|n=>n⟩
theorem Tryz.tZ:Go.Proofs.Lays2.n25 Xa Tryz.tq:=by repeat' first|kernel_rfl|decide|intro _|constructor
open Go.RowKit Go.Lib in
theorem Tryz.slices_BinarySearch_int (b a n c:Nat)(d:List Int)(x:Int)(w:N)(hz:n<=d.length)(f:n<4611686018427387904)(g:∀j,j<d.length->w.cell? ⟨b,a+j,Y⟩=Z (I O (d.getD j 0)))(h:(d.take n).Pairwise (·<=·)):
  Wb Xa 151 #[.slice (Z ⟨b,a,Y⟩) n c,I O x] w λe i=>e=ca (.tuple #[I O ((d.take n).countP (·<x):Nat),.bool ((d.take n).contains x)])/\∃q,i=w.drewN q:=Any.slices_BinarySearch_int Tryz.tZ b a n c d x w hz f g h
open Go.RowKit Go.Lib in
theorem Tryz.slices_BinarySearch_int_empty (a:Option Addr)(c:Nat)(x:Int)(w:N):
  Wb Xa 151 #[.slice a 0 c,I O x] w λe b=>e=ca (.tuple #[I O 0,.bool false])/\b=w:=Any.slices_BinarySearch_int_empty Tryz.tZ a c x w
end Go.Proofs
namespace Go.Proofs.YtpndiccohnafbaaGreatDoor.Jr
open Go.RowKit Go.Maps Mem Foot Bytes Im Wm Hi Plainw Cq
def oC (w:N):Prop:=∃a b,w.cell? ⟨4,0,Y⟩=Z a/\w.cell? ⟨5,0,Y⟩=Z b/\(a=.nilIface\/∃d c,a=.iface d c)/\(b=.nilIface\/∃d c,b=.iface d c)
variable {a b:N}{c:Nat}
theorem oC.below (h:oC a)(d:Below c a b)(e:4<c/\5<c):oC b:=by
 obtain⟨f,g,i,j,k,l⟩:=h;exact⟨f,g,(d.cell (p:=⟨4,0,Y⟩) e.1).trans i,(d.cell (p:=⟨5,0,Y⟩) e.2).trans j,k,l⟩
theorem oC.lt (h:oC a):4<a.heap.size/\5<a.heap.size:=by
 obtain⟨e,b,c,d,f,g⟩:=h;exact⟨Ub a _ c,Ub a _ d⟩
theorem oC.keep (h:oC a)(c:Below a.heap.size a b):oC b:=h.below c h.lt
theorem FJ (s:ByteArray)(b:s.size<=281474976710656)(v:Int)(h:Ua (B s)=.ok v)(w:N):
  Wb Xa 196 #[L s] w λe a=>e=ca (.tuple #[I O v,.nilIface])/\Below w.heap.size w a:=by
 refine(Tryz.strconv_Atoi_ok s (by omega) v h w).mono ?_;grind [Below.refl,Lib.bytesWorld_below]
theorem qj (s:ByteArray)(d:s.size<=281474976710656)(h:∀v,Ua (B s)≠.ok v)(w:N)(l:oC w):
  Wb Xa 196 #[L s] w λe n=>(∃m t f,e=ca (.tuple #[I O m,.iface t (.pointer (Z ⟨f,0,Y⟩))]))/\Below w.heap.size w n:=by
 obtain⟨a,b,g,i,j,k⟩:=l;rcases c:Ua (B s) with v|_|_
 .exact absurd c (h v)
 .refine(Tryz.strconv_Atoi_syntax s d c a w g j).mono ?_;grind
 refine(Tryz.strconv_Atoi_range s d c b w i k).mono ?_;grind
def Rd (e:Ending)(R:(Bs×Int×Bs)×Bool):Prop:=∃k t,e=ca (.tuple #[.agg #[L k,I O R.1.2.1,L t],.bool R.2])/\B k=R.1.1/\B t=R.1.2.2
theorem dH {P:Program}{fn:Func}{p u:Tmp}{ty:TypeId}(h:fn.results=#[.cell p ty,.tmp u])(b:Array Value)(w:N)(a:Addr)(v:Value)(e:b.getD p undef=.pointer (Z a))(d:(loadVar ty a).run P w=.ok v w):(results fn b).run P w=.ok (.tuple #[v,b.getD u undef]) w:=by
 have c:b[p]?.getD undef=.pointer (Z a):=by simpa using e
 simp[results,h,c,asAddr,d]
theorem ft {u v:ByteArray}{n:Int}(h:af a c 158 #[L u,I O n,L v]):(loadVar 158 ⟨c,0,Y⟩).run Xa a=.ok (.agg #[L u,I O n,L v]) a:=
 run_loadVar_row a c 158 158 _ (0,0) _ h Tryz.underlying158 rfl (by kernel_rfl)
theorem Tw (h:af a c 158 #[L ⟨#[]⟩,I O 0,L ⟨#[]⟩])(f:Below a.heap.size a b)(d:ByteArray)(n:Int)(e:ByteArray):
  b.frozen? ⟨c,0,Y⟩=false/\b.frozen? ⟨c,1,Y⟩=false/\b.frozen? ⟨c,2,Y⟩=false/\b.cell? ⟨c,0,Y⟩=Z (L ⟨#[]⟩)/\b.cell? ⟨c,1,Y⟩=Z (I O 0)/\b.cell? ⟨c,2,Y⟩=Z (L ⟨#[]⟩)/\
   Hid (af (((b.setCell ⟨c,0,Y⟩ (L d)).setCell ⟨c,1,Y⟩ (I O n)).setCell ⟨c,2,Y⟩ (L e)) c 158 #[L d,I O n,L e])/\Hid (bS c b (((b.setCell ⟨c,0,Y⟩ (L d)).setCell ⟨c,1,Y⟩ (I O n)).setCell ⟨c,2,Y⟩ (L e))):=
 have k:=Mem.af.below h f h.lt
 ⟨k.frozen 0,k.frozen 1,k.frozen 2,k.Ri 0,k.Ri 1,k.Ri 2,((k.set 0 (L d)).set 1 (I O n)).set 2 (L e),(((bS.refl c b).set 0 (L d)).set 1 (I O n)).set 2 (L e)⟩
set_option maxRecDepth 10000 in
theorem AL (s:ByteArray)(hs:s.size<=140737488355328)(w:N)(hT:gp w)(hE:oC w):
  Wb Xa 149 #[L s] w λe w'=>Rd e (nX (B s))/\Below w.heap.size w w':=by
 have hN:=af.new w 158 #[L ⟨#[]⟩,I O 0,L ⟨#[]⟩];have f:=aa (ai (w:=w) (.cells #[L ⟨#[]⟩,I O 0,L ⟨#[]⟩] 158));have F:=aa hN;have HT:=aa hT;have HE:=aa hE;clear hN hT hE;go_in;go_upto_region 1 with fail;generalize w.alloc (.cells #[L ⟨#[]⟩,I O 0,L ⟨#[]⟩] 158)=w1 at *;generalize a7:w.heap.size=a at F ⊢;have a5:=aa a7;clear a7;go_wp2_with fail;refine(Texts.Kx s 58 (by omega) w1).mono ?_;rintro e w2 ⟨⟨k,rs,rfl,b1,hrs,e2,e5⟩,n2,b8⟩;have c6:Hid (Below w1.heap.size w1 w2):=b8▸ax (Below.refl _ _);clear b8;go_wp2_with fail;refine(Texts.Kx rs 58 (by omega) w2).mono ?_;rintro e w3 ⟨⟨ln,H,rfl,a2,a3,e3,e4⟩,n3,b9⟩;have q:Hid (Below w1.heap.size w1 w3):=b9▸ax c6;clear b9;rw[hrs]at a2 a3;have T:=aa b1;have a0:=aa a2;have c7:=aa a3;clear b1 hrs a2 a3;generalize Bytes.has 58 (B s)=q1 at *;generalize Bytes.has 58 (B rs)=q2 at *;have c5:(H.size:Int)=((cO 58 (cO 58 (B s))).length:Int):=by rw[<-c7.out,<-Bytes.aj]
 have d4:=aa c5;clear c5;have o:=aa (show ∀(W W':N),Below w1.heap.size w1 W->af W' a 158 #[L ⟨#[]⟩,I O 0,L ⟨#[]⟩]->bS a W W'->nX (B s)=(([],0,[]),false)->Rd (ca (.tuple #[.agg #[L ⟨#[]⟩,I O 0,L ⟨#[]⟩],.bool false])) (nX (B s))/\Below w.heap.size w W' from λW W' hb _ c9 hr=>by
  rw[hr];have h1:=f.trans (hb.mono f.size);exact⟨⟨⟨#[]⟩,⟨#[]⟩,rfl,rfl,rfl⟩,h1.trans (c9.below (Nat.le_of_eq a5) h1.size)⟩)
 rcases n:Ua (B ln) with v|_|_
 .have d:=FJ ln (by omega) v n w3;have HA:Hid (Ua (aM 58 (cO 58 (B s)))=.ok v):=a0.out▸n;clear n;go_wp2_with fail;refine d.mono ?_;clear d;rintro e A ⟨rfl,r⟩;have b:=aa (q.trans (r.mono q.size));clear r;by_cases d0:v<0
  .obtain⟨M,P,R,J,c1,c2,g,c⟩:=Tw F b ⟨#[]⟩ 0 ⟨#[]⟩;go_wp2_with fail;generalize ((A.setCell ⟨a,0,Y⟩ (L ⟨#[]⟩)).setCell ⟨a,1,Y⟩ (I O 0)).setCell ⟨a,2,Y⟩ (L ⟨#[]⟩)=p at *;refine Va (dH rfl _ _ ⟨a,0,Y⟩ _ rfl (ft g)) rfl ?_;exact o.out A p b g c (by unfold nX;grind [Hid])
  by_cases d9:(H.size:Int)<v
  .obtain⟨M,P,R,J,c1,c2,g,c⟩:=Tw F b ⟨#[]⟩ 0 ⟨#[]⟩;go_wp2_with fail;generalize ((A.setCell ⟨a,0,Y⟩ (L ⟨#[]⟩)).setCell ⟨a,1,Y⟩ (I O 0)).setCell ⟨a,2,Y⟩ (L ⟨#[]⟩)=p at *;refine Va (dH rfl _ _ ⟨a,0,Y⟩ _ rfl (ft g)) rfl ?_;exact o.out A p b g c (by unfold nX;grind [Hid])
  by_cases X:k=⟨#[]⟩
  .subst X;obtain⟨M,P,R,J,c1,c2,g,c⟩:=Tw F b ⟨#[]⟩ 0 ⟨#[]⟩;go_wp2_with fail;generalize ((A.setCell ⟨a,0,Y⟩ (L ⟨#[]⟩)).setCell ⟨a,1,Y⟩ (I O 0)).setCell ⟨a,2,Y⟩ (L ⟨#[]⟩)=p at *;refine Va (dH rfl _ _ ⟨a,0,Y⟩ _ rfl (ft g)) rfl ?_;exact o.out A p b g c (by unfold nX;rw[HA.out];exact if_pos (Or.inr (Or.inr T.symm)))
  have d6:(1:Int)<=(k.size:Int):=by
   have h1:k.size≠0:=λe=>X (Bytes.bo (by
    have h2:(B k).length=0:=by rw[<-Bytes.aj];exact e
    exact qb.1 h2))
   omega
  have e0:k.toList.isEmpty=false:=by
   rcases h:k.toList.isEmpty with _|_
   .rfl
   exact absurd (Bytes.bo (Bytes.nh.1 h)) X
  have c4:B (k.extract 1 k.size)=(aM 58 (B s)).drop 1:=by
   rw[Bytes.bu,T.out,Bytes.aj,T.out,List.take_of_length_le (by grind)]
  have a1:=aa c4;have a4:(k.extract 1 k.size).size<=281474976710656:=by grind [aj,Hid]
  have d2:=aa (show ¬(v<0\/((cO 58 (cO 58 (B s))).length:Int)<v\/aM 58 (B s)=[]) from by
   rintro(h|h|h)
   .exact d0 h
   .grind [Hid]
   rw[<-T.out]at h;exact X (Bytes.bo h))
  clear c4;rcases n:Ua (B (k.extract 1 k.size)) with u|_|_
  .have d:=FJ (k.extract 1 k.size) a4 u n A;have HU:Hid (Ua ((aM 58 (B s)).drop 1)=.ok u):=a1.out▸n;clear n;go_wp2_with fail;refine d.mono ?_;clear d;rintro e y ⟨rfl,x⟩;have l:=aa (b.trans (x.mono b.size));clear x;by_cases d7:u<0
   .obtain⟨M,P,R,J,c1,c2,g,c⟩:=Tw F l ⟨#[]⟩ 0 ⟨#[]⟩;go_wp2_with fail;generalize ((y.setCell ⟨a,0,Y⟩ (L ⟨#[]⟩)).setCell ⟨a,1,Y⟩ (I O 0)).setCell ⟨a,2,Y⟩ (L ⟨#[]⟩)=p at *;refine Va (dH rfl _ _ ⟨a,0,Y⟩ _ rfl (ft g)) rfl ?_;exact o.out y p l g c (by unfold nX;grind [Hid])
   by_cases d8:1000000000<u
   .obtain⟨M,P,R,J,c1,c2,g,c⟩:=Tw F l ⟨#[]⟩ 0 ⟨#[]⟩;go_wp2_with fail;generalize ((y.setCell ⟨a,0,Y⟩ (L ⟨#[]⟩)).setCell ⟨a,1,Y⟩ (I O 0)).setCell ⟨a,2,Y⟩ (L ⟨#[]⟩)=p at *;refine Va (dH rfl _ _ ⟨a,0,Y⟩ _ rfl (ft g)) rfl ?_;exact o.out y p l g c (by unfold nX;grind [Hid])
   have d5:v<=(H.size:Int):=by omega
   have e1:0<=v:=by omega
   go_upto_region 9 with fail;go_region
   have b5:=af.new y 158 #[L (k.extract 0 1),I O u,L (H.extract 0 v.toNat)];have a8:=ai (w:=y) (.cells #[L (k.extract 0 1),I O u,L (H.extract 0 v.toNat)] 158);have U:Hid (af ((y.alloc (.cells #[L (k.extract 0 1),I O u,L (H.extract 0 v.toNat)] 158)).drew) y.heap.size 158 #[L (k.extract 0 1),I O u,L (H.extract 0 v.toNat)]):=b5;have D:=aa (l.trans ((a8.mono l.size).drew));clear b5 a8;generalize (y.alloc (.cells #[L (k.extract 0 1),I O u,L (H.extract 0 v.toNat)] 158)).drew=w6 at *;generalize y.heap.size=rb at *;have b2:B (k.extract 0 1)=(aM 58 (B s)).take 1:=by grind [bu,Hid]
   have b6:B (H.extract 0 v.toNat)=(cO 58 (cO 58 (B s))).take v.toNat:=by grind [bu,Hid]
   have d1:=aa b2;have d3:=aa b6;have b3:(k.extract 0 1).size<=1000:=by grind [aj]
   have b7:(H.extract 0 v.toNat).size<=140737488355328:=by grind [aj]
   have a6:=aa (And.intro b3 b7);clear b2 b6 b3 b7;generalize k.extract 0 1=kb at *;generalize H.extract 0 v.toNat=tb at *;go_upto_region 10 with fail;refine dS (λW=>Below w6.heap.size w6 W) 5 (by kernel_rfl) ?_;have E:Hid (Below w6.heap.size w6 w6.drew):=(Below.refl _ _).drew;generalize w6.drew=wd at *;refine Tu (i:=0) (v:=.agg #[L kb,I O u,L tb]) rfl (by intro W hW;have V:=Mem.af.below U hW U.lt;have k0:=V.Ri 0;have k1:=V.Ri 1;have k2:=V.Ri 2;clear V;go_simp) E ?_;refine Tu (i:=1) (v:=L s) rfl (by intro W hW;go_simp) E ?_;refine Tu (i:=2) (v:=.agg #[L kb,I O u,L tb]) rfl (by intro W hW;have V:=Mem.af.below U hW U.lt;have k0:=V.Ri 0;have k1:=V.Ri 1;have k2:=V.Ri 2;clear V;go_simp) E ?_;have c3:=written kb u tb wd (HT.below (f.trans ((D.trans (E.mono D.size)).mono f.size))) a6.1 (by omega) (by omega) a6.2;refine aW (j:=3) (λK G=>?_);go_simp;refine c3.mono ?_;clear c3;rintro e w7 ⟨⟨z,rfl,hz⟩,a9⟩;have S:=aa (E.trans (a9.mono E.size));have HZ:=aa hz;refine G _ _ (λ_=>S) ?_;clear G K a9 hz;have b4:=Tryz.strings_HasPrefix s z w7;refine aW (j:=4) (λK G=>?_);go_simp;refine b4.mono ?_;clear b4;rintro e w8 ⟨rfl,rfl⟩;refine G _ _ (λ_=>S) ?_;clear G K;obtain⟨M,P,R,J,c1,c2,g,c⟩:=Tw F (D.trans (S.mono D.size)) kb u tb;refine aW (j:=5) (λK G=>?_);go_simp;refine G _ _ (λh=>absurd h (by decide)) ?_;clear G K;refine aW (j:=6) (λK G=>?_);go_simp;refine G _ _ (λh=>absurd h (by decide)) ?_;clear G K;refine Tz ?_;clear M P R J c1 c2;generalize ((w8.setCell ⟨a,0,Y⟩ (L kb)).setCell ⟨a,1,Y⟩ (I O u)).setCell ⟨a,2,Y⟩ (L tb)=p at *;go_wp2_with fail;refine Va (dH rfl _ _ ⟨a,0,Y⟩ _ rfl (ft g)) rfl ?_;have b0:=f.trans ((D.trans (S.mono D.size)).mono f.size);have hR:nX (B s)=((B kb,u,B tb),Za (B s) (bC (B kb) u (B tb))):=by
    unfold nX;grind [Hid]
   refine⟨⟨kb,tb,?_,?_,?_⟩,b0.trans (c.below (Nat.le_of_eq a5) b0.size)⟩
   .rw[hR,<-HZ.out];rfl
   .rw[hR]
   rw[hR]
  .have d:=qj (k.extract 1 k.size) a4 (λv e=>by rw[e]at n;cases n) A (HE.below (f.trans (b.mono f.size)) HE.lt);have HU:Hid (Ua ((aM 58 (B s)).drop 1)=.«syntax»):=a1.out▸n;clear n;go_wp2_with fail;refine d.mono ?_;clear d;rintro e y ⟨⟨m,t,c8,rfl⟩,x⟩;have l:=aa (b.trans (x.mono b.size));clear x;obtain⟨M,P,R,J,c1,c2,g,c⟩:=Tw F l ⟨#[]⟩ 0 ⟨#[]⟩;go_wp2_with fail;generalize ((y.setCell ⟨a,0,Y⟩ (L ⟨#[]⟩)).setCell ⟨a,1,Y⟩ (I O 0)).setCell ⟨a,2,Y⟩ (L ⟨#[]⟩)=p at *;refine Va (dH rfl _ _ ⟨a,0,Y⟩ _ rfl (ft g)) rfl ?_;exact o.out y p l g c (by unfold nX;grind [Hid])
  have d:=qj (k.extract 1 k.size) a4 (λv e=>by rw[e]at n;cases n) A (HE.below (f.trans (b.mono f.size)) HE.lt);have HU:Hid (Ua ((aM 58 (B s)).drop 1)=.range):=a1.out▸n;clear n;go_wp2_with fail;refine d.mono ?_;clear d;rintro e y ⟨⟨m,t,c8,rfl⟩,x⟩;have l:=aa (b.trans (x.mono b.size));clear x;obtain⟨M,P,R,J,c1,c2,g,c⟩:=Tw F l ⟨#[]⟩ 0 ⟨#[]⟩;go_wp2_with fail;generalize ((y.setCell ⟨a,0,Y⟩ (L ⟨#[]⟩)).setCell ⟨a,1,Y⟩ (I O 0)).setCell ⟨a,2,Y⟩ (L ⟨#[]⟩)=p at *;refine Va (dH rfl _ _ ⟨a,0,Y⟩ _ rfl (ft g)) rfl ?_;exact o.out y p l g c (by unfold nX;grind [Hid])
 .have d:=qj ln (by omega) (λv e=>by rw[e]at n;cases n) w3 (HE.below (f.trans (q.mono f.size)) HE.lt);have HA:Hid (Ua (aM 58 (cO 58 (B s)))=.«syntax»):=a0.out▸n;clear n;go_wp2_with fail;refine d.mono ?_;clear d;rintro e A ⟨⟨m,t,c8,rfl⟩,r⟩;have b:=aa (q.trans (r.mono q.size));clear r;obtain⟨M,P,R,J,c1,c2,g,c⟩:=Tw F b ⟨#[]⟩ 0 ⟨#[]⟩;go_wp2_with fail;generalize ((A.setCell ⟨a,0,Y⟩ (L ⟨#[]⟩)).setCell ⟨a,1,Y⟩ (I O 0)).setCell ⟨a,2,Y⟩ (L ⟨#[]⟩)=p at *;refine Va (dH rfl _ _ ⟨a,0,Y⟩ _ rfl (ft g)) rfl ?_;exact o.out A p b g c (by unfold nX;rw[HA.out])
 have d:=qj ln (by omega) (λv e=>by rw[e]at n;cases n) w3 (HE.below (f.trans (q.mono f.size)) HE.lt);have HA:Hid (Ua (aM 58 (cO 58 (B s)))=.range):=a0.out▸n;clear n;go_wp2_with fail;refine d.mono ?_;clear d;rintro e A ⟨⟨m,t,c8,rfl⟩,r⟩;have b:=aa (q.trans (r.mono q.size));clear r;obtain⟨M,P,R,J,c1,c2,g,c⟩:=Tw F b ⟨#[]⟩ 0 ⟨#[]⟩;go_wp2_with fail;generalize ((A.setCell ⟨a,0,Y⟩ (L ⟨#[]⟩)).setCell ⟨a,1,Y⟩ (I O 0)).setCell ⟨a,2,Y⟩ (L ⟨#[]⟩)=p at *;refine Va (dH rfl _ _ ⟨a,0,Y⟩ _ rfl (ft g)) rfl ?_;exact o.out A p b g c (by unfold nX;rw[HA.out])
end Go.Proofs.YtpndiccohnafbaaGreatDoor.Jr
