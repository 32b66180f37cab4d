/- Texts cut at one byte, as the library cuts them. -/
import Derived.Test.YtpndiccohnafbaaGreatDoorLeaf
import Derived.Test.YtpndiccohnafbaaGreatDoorShelf
import Derived.Deep.QuietTactic
import Derived.BigQuiet
import Derived.Test.YtpndiccohnafbaaGreatDoorSply
import Derived.Lib.Walk
import Derived.Laws.Strings3
import Derived.Deep.OwnRows
import Derived.Deep.LoopGhost
set_option maxHeartbeats 9000000
open Go.Value renaming string->L,tuple->ca,bool->bO,int->I,pointer->G
open Go.Ending renaming returned->H
open Go.IntKind renaming i64->O
open Option renaming some->Z,none->Y
open Go.Proofs.Tryz renaming prog->Ua,stringslite_Index_one->Ub,strings_CutPrefix->Yb,strings_IndexByte->Zb
open Go renaming Calls->Va,World->Wa,Value->C
open List renaming replicate->Xa
open Or renaming inr->Ya,inl->qb
open Go.Lib renaming splitB->Za,cellsOf->eb,hasPrefix->Uc
open Go.RowKit.Below renaming refl->Vb
open ByteArray renaming empty->Wb
open Nat renaming le_refl->Xb
namespace Go.Proofs.YtpndiccohnafbaaGreatDoor
namespace Texts
open Go.RowKit Bytes
theorem Kx (s:ByteArray)(c:UInt8)(y:s.size<=9223372036854775807)(w:Wa):
  Va Ua 171 #[L s,L ⟨#[c]⟩] w λe d=>(∃a b,e=H (ca #[L a,L b,bO (has c (B s))])/\B a=aM c (B s)/\B b=cO c (B s)/\a.size<=s.size/\b.size<=s.size)/\∃n,d=w.drewN n:=by
 have hz:=aj s;rcases eR (B s) c with ⟨h,i,k,l⟩|⟨o,h,v,i,k,l⟩
 .have f:∀w,Va Ua 215 #[L s,L ⟨#[c]⟩] w λe d=>e=H (I O (-1))/\w=d:=λw=>(Ub s c w).mono λe d ⟨m,p⟩=>⟨by rw[m,<-h];rfl,p.symm⟩
  rw[i];have j:Hid (∀w,Va Ua 215 #[L s,L ⟨#[c]⟩] w λe d=>e=H (I O (-1))/\w=d):=f;clear f;go_in;go_wp2_with (first
   | (go_at_call 216;go_in)
   | (go_at_call 215;refine(j.out _).mono ?_;rintro e d ⟨rfl,rfl⟩))
  go_ret3
  exact⟨⟨s,⟨#[]⟩,rfl,k.symm,l.symm,Xb _,Nat.zero_le _⟩,0,rfl⟩
 have f:∀w,Va Ua 215 #[L s,L ⟨#[c]⟩] w λe d=>e=H (I O (o:Int))/\w=d:=λw=>(Ub s c w).mono λe d ⟨m,p⟩=>⟨by rw[m,<-h];rfl,p.symm⟩
 rw[i];have j:Hid (∀w,Va Ua 215 #[L s,L ⟨#[c]⟩] w λe d=>e=H (I O (o:Int))/\w=d):=f;clear f;have x:o+1<=s.size:=by omega
 have q:B (s.extract 0 o)=aM c (B s):=by grind [bu]
 have r:B (s.extract (o+1) s.size)=cO c (B s):=by grind [bu,List.length_drop]
 have t:(s.extract 0 o).size<=s.size:=by grind [aj]
 have u:(s.extract (o+1) s.size).size<=s.size:=by simp_all
 have g:Hid (B (s.extract 0 o)=aM c (B s)/\B (s.extract (o+1) s.size)=cO c (B s)/\(s.extract 0 o).size<=s.size/\(s.extract (o+1) s.size).size<=s.size):=⟨q,r,t,u⟩;clear q r t u h i k l v hz;go_in;go_wp2_with (first
  | (go_at_call 216;go_in)
  | (go_at_call 215;refine(j.out _).mono ?_;rintro e d ⟨rfl,rfl⟩))
 go_quiet (fail);go_wp2;go_ret3
 exact⟨⟨_,_,rfl,g.1,g.2.1,g.2.2.1,g.2.2.2⟩,_,rfl⟩
end Texts
namespace Split
open Go.RowKit Bytes Spl Go.Lib
theorem aa {p:Prop}(h:p):Hid p:=h
theorem RF:(Ua.info? 9).map (λi=>(i.zero,i.size,i.bytes))=Z (Z (L Wb),1,16):=by kernel_rfl
set_option maxRecDepth 1000000 in
theorem GA (s:ByteArray)(N:Nat)(w:Wa)(E:s.size<=140737488355328)(t:N=min 5 (s.size+1)):
  Va Ua 126 #[L s,L ⟨#[44]⟩,I O 0,I O 5] w λe d=>
   e=H (.slice (Z ⟨w.heap.size,0,Y⟩) (Za ⟨#[44]⟩ 0 (N - 1) s).length N)/\d=w.alloc (.cells (eb (Za ⟨#[44]⟩ 0 (N - 1) s) N) 9):=by
 have l:∀(x:ByteArray) (w:Wa),Va Ua 170 #[L x,L ⟨#[44]⟩] w λe d=>e=H (I O (Lib.indexB x ⟨#[44]⟩))/\d=w:=λx w=>
  (Tryz.strings_Index_one x 44 w).mono λe d ⟨z,j⟩=>⟨by rw[z,<-Lib.index_one],j⟩
 have r:min (5:Int) ((s.size:Int)+1)=(N:Int):=by omega
 have y:(N:Int)<=(s.size:Int)+1:=by omega
 have u:(1:Int)<=(N:Int):=by omega
 have v:(N:Int)<=5:=by omega
 clear t;have p:=run_make_row' (P:=Ua) 32 9 (L Wb) 16 Tryz.underlying32 RF rfl .i64 .i64 N (by omega) (by omega);change Hid _ at l;go_in;go_wp2_with fail;clear p;go_loopg [0,10] (N - 1) (λg B q wr=>∃(done:List ByteArray) (rest:ByteArray),B=L rest/\q=I O done.length/\done.length<=N - 1/\g=N - 1 - done.length/\rest.size<=s.size/\
  wr=w.alloc (.cells (eb done N) 9)/\done++Za ⟨#[44]⟩ 0 (N - 1 - done.length) rest=Za ⟨#[44]⟩ 0 (N - 1) s)
 case atStart=>exact⟨[],s,rfl,rfl,Nat.zero_le _,rfl,Xb _,by rw[Lib.cellsOf_nil],rfl⟩
 case round=>
  obtain⟨done,rest,rfl,rfl,D,rfl,hrs,rfl,m⟩:=hrel;have hnext:(eb done N)[done.length]? = Z (L Wb):=Lib.cellsOf_next (by omega);change Hid _ at m;have b:Za ⟨#[44]⟩ 0 (N - 1 - done.length) rest=[rest]->(Za ⟨#[44]⟩ 0 (N - 1) s).length=done.length+1/\(eb done N).setIfInBounds done.length (L rest)=eb (Za ⟨#[44]⟩ 0 (N - 1) s) N:=λh=>by
   have e:=m.out;rw[h]at e;rw[<-e];exact⟨by simp,Lib.cellsOf_set (by omega) rest⟩
  change Hid _ at b;by_cases A:done.length<N - 1
  .have f:((done.length:Nat):Int)<(N:Int) - 1:=by omega
   rcases Lib.indexB_cases rest ⟨#[44]⟩ with c|⟨i,c,a⟩
   .change Hid _ at c;go_wp2_with (go_at_call 170;refine(l.out rest _).mono ?_;rintro e d ⟨rfl,j⟩;rw[j,c.out])
    go_ret;obtain⟨n,o⟩:=b.out (Lib.splitB_miss _ 0 _ rest c);rw[n,<-o];exact⟨by first|rfl|(congr 2<;>omega),rfl⟩
   have k:i+1<=rest.size:=a;change Hid _ at c;clear a;go_wp2_with (go_at_call 170;refine(l.out rest _).mono ?_;rintro e d ⟨rfl,j⟩;rw[j,c.out])
   go_roundg (N - 1 - (done.length+1))
   case measure=>omega
   case rel=>
    refine⟨done++[rest.extract 0 i],rest.extract (i+1) rest.size,rfl,by simp,by simp;omega,by simp,by rw[ByteArray.size_extract];omega,by rw[<-Lib.cellsOf_set (by omega)],?_⟩;rw[<-m.out,show N - 1 - done.length=(N - 1 - (done.length+1))+1 by omega,Lib.splitB_hit _ 0 _ rest i c];simp;rfl
  have f:¬(((done.length:Nat):Int)<(N:Int) - 1):=by omega
  go_wp2_with fail;go_ret;obtain⟨n,o⟩:=b.out (by rw[show N - 1 - done.length=0 by omega];rfl);rw[n,<-o];exact⟨by first|rfl|(congr 2<;>omega),rfl⟩
theorem splitN (s:ByteArray)(g:s.size<=140737488355328)(w:Wa):
  Va Ua 260 #[L s,L ⟨#[44]⟩,I O 5] w λe d=>∃(a:List ByteArray) (b:Nat),a.map B=kI 4 (B s)/\a.length<=b/\b<=5/\(∀x∈a,x.size<=s.size)/\e=H (.slice (Z ⟨w.heap.size,0,Y⟩) a.length b)/\d=w.alloc (.cells (eb a b) 9):=by
 have c:=GA s (min 5 (s.size+1)) w g rfl;have f:=aa c;clear c;go_in;go_wp2_with (go_at_call 126;refine f.mono ?_;rintro e d ⟨rfl,h⟩;rw[h])
 go_ret;refine⟨_,_,?_,by grind [AZ],by omega,λx i=>yD _ _ _ i,rfl,rfl⟩;rw[Ba,<-Mh 4,<-aj];congr 1;omega
end Split
namespace Numw
open Go.RowKit Bytes Nums
theorem aa {p:Prop}(h:p):Hid p:=h
theorem CB (n:Nat):B ⟨(Lib.repeatL (⟨#[48]⟩:ByteArray).data.toList n).toArray⟩=Xa n 48:=by
 simp only[B]
 induction n with
 | zero=>rfl
 | succ n a=>
  rw[List.replicate_succ,<-a];rfl
theorem lz (s:ByteArray)(f:dQ (B s)=true)(m:s.size<=6)(w:Wa):
  Va Ua 258 #[L s] w λe o=>e=H (I O (val (B s)))/\w=o:=by
 have c:Hid (dQ (B s)=true):=f;clear f;go_in;go_wp2;go_loop [3,7] (λn i=>∃(k:Nat) (v:Int),i=I O k/\n=I O v/\k<=s.size/\0<=v/\v<=999999/\Hid (v=val ((B s).take k)))
  (λ_ i=>s.size - (intOf i).toNat)
 case atStart=>exact⟨0,0,rfl,rfl,Nat.zero_le _,by omega,by omega,rfl⟩
 case round=>
  obtain⟨k,v,rfl,rfl,r,p,q,j⟩:=hrel;have b:∀h:k<s.size,48<=(s[k].toNat:Int)/\(s[k].toNat:Int)<=57:=λh=>NZ c h
  have g:Hid (∀h:k<s.size,48<=(s[k].toNat:Int)/\(s[k].toNat:Int)<=57):=b;clear b;go_wp2
  .have a:k<s.size:=by assumption
   have b:=g.out a;have d:v*10+((s[k].toNat:Int) - 48) % 256=val ((B s).take (k+1)):=by
    rw[JU a,<-j.out];omega
   have t:=JV (k:=k+1) c m;grind [intOf]
  have l:¬k<s.size:=by assumption
  have d:v=val (B s):=by grind [Hid,aj]
  go_ret;exact⟨congrArg (λz=>Ending.returned (I O z)) d,rfl⟩
theorem kC (s:ByteArray)(k:s.size<=9223372036854775807)(w:Wa):
  Va Ua 257 #[L s] w λe a=>((∃v,dec (B s)=Z v/\e=H (ca #[I O v,bO true]))\/(dec (B s)=Y/\e=H (ca #[I O 0,bO false])))/\Below w.heap.size w a:=by
 cases b:made dig 3 (B s) with
 | false=>
  have o:dec (B s)=Y:=by simp[dec,b]
  have c:∀w,Va Ua 256 #[L s,I O 3] w λe a=>e=H (bO false)/\w=a:=λw=>by rw[<-b];exact Leaf.nN s 3 k w
  have d:=aa c;clear c b;go_in;go_wp2_with (go_at_call 256;refine(d.out _).mono ?_;rintro e a ⟨rfl,rfl⟩)
  go_ret2;exact⟨Ya ⟨o,rfl⟩,Vb _ _⟩
 | true=>
  obtain⟨i,j,n⟩:=lJ b;have t:dec (B s)=Z (val (B s++Xa (3 - (B s).length) 48)):=by simp[dec,b]
  have c:∀w,Va Ua 256 #[L s,I O 3] w λe a=>e=H (bO true)/\w=a:=λw=>by rw[<-b];exact Leaf.nN s 3 k w
  have d:=aa c;rw[<-aj]at j;have hz:s.size<=3:=by omega
  have h:∀w,Va Ua 289 #[L ⟨#[48]⟩,I O (3 - (s.size:Int))] w λe a=>(∃z,e=H (L z)/\B z=Xa (3 - s.size) 48/\z.size<=3)/\Below w.heap.size w a:=λw=>by
   have e:(3 - (s.size:Int))=((3 - s.size:Nat):Int):=by omega
   rw[e];refine(Tryz.strings_Repeat ⟨#[48]⟩ (3 - s.size) w (by omega) ?_).mono λe a ⟨p,q⟩=>⟨⟨_,p,?_,?_⟩,q⟩
   .show 1*(3 - s.size)<=_;omega
   .exact CB _
   grind [aj,CB]
  change Hid _ at h;have l:∀z w,B z=Xa (3 - s.size) 48->Va Ua 258 #[L (s++z)] w λe a=>e=H (I O (val (B s++Xa (3 - (B s).length) 48)))/\w=a:=λz w f=>by
   have e:B (s++z)=B s++Xa (3 - (B s).length) 48:=by rw[bp,f,aj]
   rw[<-e];refine lz (s++z) ?_ ?_ w
   .rw[e];exact wM _ i
   grind [aj]
  have m:=aa l;clear c l b i n j;go_in;go_wp2_with (first
   | (go_at_call 256;refine(d.out _).mono ?_;rintro e a ⟨rfl,rfl⟩)
   | (go_at_call 289;refine(h.out _).mono ?_;rintro e a ⟨⟨z,rfl,g,r⟩,u⟩)
   | (go_at_call 258;refine(m.out _ _ g).mono ?_;rintro e a ⟨rfl,rfl⟩))
  go_ret2;simp_all
theorem Hu {b:Bool}(h:(!b)=true):b=false:=by simpa using h
theorem rR {b:Bool}(h:(!b)=false):b=true:=by simpa using h
theorem wH (s:ByteArray)(d:s.size<=9223372036854775807)(f:Bool)(c:has 46 (B s)=f)(w:Wa):
  Va Ua 171 #[L s,L ⟨#[46]⟩] w λe g=>(∃a b,e=H (ca #[L a,L b,bO f])/\B a=aM 46 (B s)/\B b=cO 46 (B s)/\a.size<=s.size/\b.size<=s.size)/\∃n,g=w.drewN n:=by
 rw[<-c];exact Texts.Kx s 46 d w
theorem bD {w a:Wa}{n:Nat}(h:Below (w.drewN n).heap.size (w.drewN n) a):Below w.heap.size w a:=
 ⟨h.os,h.tape,h.output,h.size,h.block⟩
theorem fN (s:ByteArray)(y:s.size<=9223372036854775807)(w:Wa):
  Va Ua 221 #[L s] w λe j=>((∃v,num (B s)=Z v/\e=H (ca #[I O v,bO true]))\/(num (B s)=Y/\e=H (ca #[I O 0,bO false])))/\Below w.heap.size w j:=by
 cases k:has 46 (B s) with
 | true=>
  change Hid _ at k;go_in;go_wp2_with (first
   | (go_at_call 171;refine(wH s y true k _).mono ?_;rintro e j ⟨⟨a,b,rfl,f,l,m,o⟩,n,rfl⟩)
   | (go_at_call 256;refine(Leaf.nN a 6 (by omega) _).mono ?_;rintro e j ⟨rfl,rfl⟩)
   | (go_at_call 257;refine(kC b (by omega) _).mono ?_;rintro e j ⟨⟨v,g,rfl⟩|⟨g,rfl⟩,c⟩))
  .have d:(!made dig 6 (aM 46 (B s)))=true:=by assumption
   go_ret2;exact⟨Ya ⟨nT (Hu d),rfl⟩,bD (Vb _ _)⟩
  .have d:(!made dig 6 (aM 46 (B s)))=false:=by assumption
   obtain⟨i,r,t⟩:=lJ (rR d);have q:=qH i (by omega);have p:=lu g;have h:num (B s)=Z (val (aM 46 (B s))*1000+v):=by grind [jP,Hid]
   refine(lz a (by rw[f];exact i) (by rw[aj,f];omega) _).mono ?_;rintro e u ⟨rfl,rfl⟩;rw[f];clear g i r t f l;change Hid _ at h;generalize val (aM 46 (B s))=x at q h;go_wp2_with fail;go_ret2;exact⟨qb ⟨_,h,rfl⟩,bD c⟩
  have d:(!made dig 6 (aM 46 (B s)))=false:=by assumption
  go_ret2;refine⟨Ya ⟨?_,rfl⟩,bD c⟩;grind [jP,Hid]
 | false=>
  change Hid _ at k;go_in;go_wp2_with (first
   | (go_at_call 171;refine(wH s y false k _).mono ?_;rintro e j ⟨⟨a,b,rfl,f,l,m,o⟩,n,rfl⟩)
   | (go_at_call 256;refine(Leaf.nN a 6 (by omega) _).mono ?_;rintro e j ⟨rfl,rfl⟩)
   | (go_at_call 257;refine(kC ⟨#[48]⟩ (by decide) _).mono ?_;rintro e j ⟨⟨v,g,rfl⟩|⟨g,rfl⟩,c⟩))
  .have d:(!made dig 6 (aM 46 (B s)))=true:=by assumption
   go_ret2;exact⟨Ya ⟨nT (Hu d),rfl⟩,bD (Vb _ _)⟩
  .have d:(!made dig 6 (aM 46 (B s)))=false:=by assumption
   obtain⟨i,r,t⟩:=lJ (rR d);have q:=qH i (by omega);have p:=lu g;have h:num (B s)=Z (val (aM 46 (B s))*1000+v):=by
    rw[mn (rR d) k];exact Option.map_eq_some_iff.2 ⟨v,g,rfl⟩
   refine(lz a (by rw[f];exact i) (by rw[aj,f];omega) _).mono ?_;rintro e u ⟨rfl,rfl⟩;rw[f];clear g i r t f l;change Hid _ at h;generalize val (aM 46 (B s))=x at q h;go_wp2_with fail;go_ret2;exact⟨qb ⟨_,h,rfl⟩,bD c⟩
  have d:(!made dig 6 (aM 46 (B s)))=false:=by assumption
  go_ret2;refine⟨Ya ⟨?_,rfl⟩,bD c⟩;rw[mn (rR d) k];exact Option.map_eq_none_iff.2 (g)
theorem ql (s p:ByteArray)(n:Nat)(d:p.size=n)(c:Uc s.data.toList p.data.toList=true)(w:Wa):
  Va Ua 222 #[L s,L p] w λe b=>(∃a,e=H (ca #[L a,bO true])/\B a=(B s).drop n/\a.size<=s.size)/\w=b:=by
 refine(Yb s p w).mono λe b h=>?_
 grind [aj,B,Lib.trimPrefix]
theorem uS (s p:ByteArray)(c:Uc s.data.toList p.data.toList=false)(w:Wa):
  Va Ua 222 #[L s,L p] w λe b=>(∃a,e=H (ca #[L a,bO false])/\a.size<=s.size)/\w=b:=by
 refine(Yb s p w).mono λe b h=>?_
 grind [aj,B,Lib.trimPrefix]
theorem IB (s:ByteArray)(n:s.size<=9223372036854775807)(w:Wa):
  Va Ua 224 #[L s] w λe f=>((∃v,cw (B s)=Z v/\e=H (ca #[I O v,bO true]))\/(cw (B s)=Y/\e=H (ca #[I O 0,bO false])))/\Below w.heap.size w f:=by
 cases d:s.toList==[49] with
 | true=>
  go_in;go_wp2_with fail;go_ret2;exact⟨qb ⟨_,Iy d,rfl⟩,Vb _ _⟩
 | false=>
  cases b:Uc s.data.toList [48,46] with
  | false=>
   change Hid _ at b;go_in;go_wp2_with (go_at_call 222;refine(uS s ⟨#[48,46]⟩ b _).mono ?_;rintro e f ⟨⟨a,rfl,h⟩,rfl⟩)
   go_ret2;exact⟨Ya ⟨Ix d b,rfl⟩,Vb _ _⟩
  | true=>
   change Hid _ at b;go_in;go_wp2_with (first
    | (go_at_call 222;refine(ql s ⟨#[48,46]⟩ 2 rfl b _).mono ?_;rintro e f ⟨⟨a,rfl,i,h⟩,rfl⟩)
    | (go_at_call 257;refine(kC a (by omega) _).mono ?_;rintro e f ⟨⟨v,c,rfl⟩|⟨c,rfl⟩,j⟩))
   .have m:=lu c;rw[i]at c;have g:=xZ d b;rw[c]at g;by_cases k:0<v
    .go_ret2;simp_all
    have l:v=0:=by omega
    go_ret2;simp_all
   rw[i]at c;have g:=xZ d b;rw[c]at g;go_ret2;simp_all
theorem byte_back (b:UInt8):((b.toNat:Nat):Int).toNat.toUInt8=b:=by
 simp
theorem Kz (s t:ByteArray)(k:s.size<=9223372036854775807)(w:Wa):
  Va Ua 220 #[L s,L t] w λe c=>(∃a b,e=H (ca #[L a,L b])/\B a=sg (B t) (B s)/\B b=(B s).drop (sg (B t) (B s)).length/\b.size<=s.size)/\∃n,c=w.drewN n:=by
 cases j:s.toList.isEmpty with
 | true=>
  go_in;go_wp2_with fail;go_ret2;exact⟨⟨_,_,rfl,by rw[Jb j];rfl,by rw[Jb j];rfl,Xb _⟩,0,rfl⟩
 | false=>
  have hz:0<s.size:=by grind [aj,Lib.toList_data,B]
  rcases eR (B t) s[0] with ⟨g,d,-,-⟩|⟨o,g,-,d,-,-⟩
  .have f:∀w,Va Ua 255 #[L t,I .u8 (s[0].toNat:Int)] w λe c=>e=H (I O (-1))/\w=c:=λw=>(Zb t _ w).mono λe c ⟨h,i⟩=>⟨by rw[h,byte_back,<-g];rfl,i.symm⟩
   change Hid _ at f d;clear g;go_in;go_wp2_with (go_at_call 255;refine(f.out _).mono ?_;rintro e c ⟨rfl,rfl⟩)
   go_ret2;exact⟨⟨_,_,rfl,by rw[Nt hz d];rfl,by rw[Nt hz d];rfl,Xb _⟩,0,rfl⟩
  have f:∀w,Va Ua 255 #[L t,I .u8 (s[0].toNat:Int)] w λe c=>e=H (I O (o:Int))/\w=c:=λw=>(Zb t _ w).mono λe c ⟨h,i⟩=>⟨by rw[h,byte_back,<-g];rfl,i.symm⟩
  change Hid _ at f d;clear g;go_in;go_wp2_with (go_at_call 255;refine(f.out _).mono ?_;rintro e c ⟨rfl,rfl⟩)
  go_quiet (fail);go_wp2_with fail;go_ret2;refine⟨⟨_,_,rfl,?_,?_,?_⟩,_,rfl⟩
  .rw[Jc hz d,bu,uN hz];rfl
  .grind [Jc,Hid,bu,aj,List.length_drop]
  simp_all
end Numw
namespace Valw
open Go.RowKit Bytes Nums Numw Mem Vals
theorem gy (s t x:ByteArray)(b:s.size<=9223372036854775807)(c:sg (B t) (B s)=B x)(w:Wa):
  Va Ua 220 #[L s,L t] w λe a=>(∃r,e=H (ca #[L x,L r])/\B r=(B s).drop (B x).length/\r.size<=s.size)/\∃n,a=w.drewN n:=by
 refine(Kz s t b w).mono λe a h=>?_
 grind [bo]
theorem tC (b:Nat)(g:ByteArray)(A:g.size<=9223372036854775807)(p q s:C)(w:Wa)(m:sg (B ⟨#[45]⟩) (B g)=B ⟨#[]⟩)
  (o:af w b 206 #[p,L ⟨#[]⟩,bO false,I O 0,L ⟨#[]⟩,q,s]):
  Va Ua 173 #[G (Z ⟨b,0,Y⟩),L ⟨#[99]⟩,L g] w λe h=>bS b w h/\
   ((num ((B g).drop 0)=Y/\e=H (bO false))\/(∃v,num ((B g).drop 0)=Z v/\e=H (bO true)/\af h b 206 #[p,L ⟨#[99]⟩,bO false,I O (v),L ⟨#[]⟩,q,s])):=by
 have k:=aa o;change Hid _ at m;clear o;go_in;go_wp2_with (go_at_call 220;refine(gy g ⟨#[45]⟩ ⟨#[]⟩ A m _).mono ?_;rintro e h ⟨⟨r,rfl,z,D⟩,n,rfl⟩)
 go_at_call 221
 refine(fN r (by omega) _).mono ?_;have j:B r=(B g).drop 0:=z;rintro e h ⟨⟨v,d,rfl⟩|⟨d,rfl⟩,c⟩
 .rw[j]at d;have f:Below w.heap.size w h:=bD c;have a:=k.below f k.lt;have i:=aa a;have t:=a.frozen 1;have u:=a.frozen 2;have x:=a.frozen 3;have c1:=a.Ri 1;have c2:=a.Ri 2;have c3:=a.Ri 3;have y:=fv d;have l:=aa d;change Hid _ at f;clear d a c;go_wp2_with fail;go_ret;refine⟨(((bS.ag f).set 1 _).set 3 _).set 2 _,Ya ⟨v,l,rfl,((i.set 1 _).set 3 _).set 2 _⟩⟩
 rw[j]at d;have f:Below w.heap.size w h:=bD c;have a:=k.below f k.lt;have i:=aa a;have t:=a.frozen 1;have u:=a.frozen 2;have x:=a.frozen 3;have c1:=a.Ri 1;have c2:=a.Ri 2;have c3:=a.Ri 3;have l:=aa d;change Hid _ at f;clear d a c;go_wp2_with fail;go_ret;refine⟨(((bS.ag f).set 1 _).set 3 _).set 2 _,qb ⟨l,rfl⟩⟩
theorem tB (b:Nat)(g:ByteArray)(A:g.size<=9223372036854775807)(p q s:C)(w:Wa)(m:sg (B ⟨#[45]⟩) (B g)=B ⟨#[45]⟩)
  (o:af w b 206 #[p,L ⟨#[]⟩,bO false,I O 0,L ⟨#[]⟩,q,s]):
  Va Ua 173 #[G (Z ⟨b,0,Y⟩),L ⟨#[99]⟩,L g] w λe h=>bS b w h/\
   ((num ((B g).drop 1)=Y/\e=H (bO false))\/(∃v,num ((B g).drop 1)=Z v/\e=H (bO true)/\af h b 206 #[p,L ⟨#[99]⟩,bO false,I O (-v),L ⟨#[]⟩,q,s])):=by
 have k:=aa o;change Hid _ at m;clear o;go_in;go_wp2_with (go_at_call 220;refine(gy g ⟨#[45]⟩ ⟨#[45]⟩ A m _).mono ?_;rintro e h ⟨⟨r,rfl,z,D⟩,n,rfl⟩)
 go_at_call 221
 refine(fN r (by omega) _).mono ?_;have j:B r=(B g).drop 1:=z;rintro e h ⟨⟨v,d,rfl⟩|⟨d,rfl⟩,c⟩
 .rw[j]at d;have f:Below w.heap.size w h:=bD c;have a:=k.below f k.lt;have i:=aa a;have t:=a.frozen 1;have u:=a.frozen 2;have x:=a.frozen 3;have c1:=a.Ri 1;have c2:=a.Ri 2;have c3:=a.Ri 3;have y:=fv d;have l:=aa d;change Hid _ at f;clear d a c;go_wp2_with fail;go_ret;refine⟨(((bS.ag f).set 1 _).set 3 _).set 2 _,Ya ⟨v,l,rfl,((i.set 1 _).set 3 _).set 2 _⟩⟩
 rw[j]at d;have f:Below w.heap.size w h:=bD c;have a:=k.below f k.lt;have i:=aa a;have t:=a.frozen 1;have u:=a.frozen 2;have x:=a.frozen 3;have c1:=a.Ri 1;have c2:=a.Ri 2;have c3:=a.Ri 3;have l:=aa d;change Hid _ at f;clear d a c;go_wp2_with fail;go_ret;refine⟨(((bS.ag f).set 1 _).set 3 _).set 2 _,qb ⟨l,rfl⟩⟩
theorem tE (b:Nat)(g:ByteArray)(A:g.size<=9223372036854775807)(p q s:C)(w:Wa)(m:sg (B ⟨#[43,45]⟩) (B g)=B ⟨#[]⟩)
  (o:af w b 206 #[p,L ⟨#[]⟩,bO false,I O 0,L ⟨#[]⟩,q,s]):
  Va Ua 173 #[G (Z ⟨b,0,Y⟩),L ⟨#[103]⟩,L g] w λe h=>bS b w h/\
   ((num ((B g).drop 0)=Y/\e=H (bO false))\/(∃v,num ((B g).drop 0)=Z v/\e=H (bO true)/\af h b 206 #[p,L ⟨#[103]⟩,bO false,I O (v),L ⟨#[]⟩,q,s])):=by
 have k:=aa o;change Hid _ at m;clear o;go_in;go_wp2_with (go_at_call 220;refine(gy g ⟨#[43,45]⟩ ⟨#[]⟩ A m _).mono ?_;rintro e h ⟨⟨r,rfl,z,D⟩,n,rfl⟩)
 go_at_call 221
 refine(fN r (by omega) _).mono ?_;have j:B r=(B g).drop 0:=z;rintro e h ⟨⟨v,d,rfl⟩|⟨d,rfl⟩,c⟩
 .rw[j]at d;have f:Below w.heap.size w h:=bD c;have a:=k.below f k.lt;have i:=aa a;have t:=a.frozen 1;have u:=a.frozen 2;have x:=a.frozen 3;have c1:=a.Ri 1;have c2:=a.Ri 2;have c3:=a.Ri 3;have y:=fv d;have l:=aa d;change Hid _ at f;clear d a c;go_wp2_with fail;go_ret;refine⟨(((bS.ag f).set 1 _).set 3 _).set 2 _,Ya ⟨v,l,rfl,((i.set 1 _).set 3 _).set 2 _⟩⟩
 rw[j]at d;have f:Below w.heap.size w h:=bD c;have a:=k.below f k.lt;have i:=aa a;have t:=a.frozen 1;have u:=a.frozen 2;have x:=a.frozen 3;have c1:=a.Ri 1;have c2:=a.Ri 2;have c3:=a.Ri 3;have l:=aa d;change Hid _ at f;clear d a c;go_wp2_with fail;go_ret;refine⟨(((bS.ag f).set 1 _).set 3 _).set 2 _,qb ⟨l,rfl⟩⟩
theorem vS (b:Nat)(g:ByteArray)(A:g.size<=9223372036854775807)(p q s:C)(w:Wa)(m:sg (B ⟨#[43,45]⟩) (B g)=B ⟨#[43]⟩)
  (o:af w b 206 #[p,L ⟨#[]⟩,bO false,I O 0,L ⟨#[]⟩,q,s]):
  Va Ua 173 #[G (Z ⟨b,0,Y⟩),L ⟨#[103]⟩,L g] w λe h=>bS b w h/\
   ((num ((B g).drop 1)=Y/\e=H (bO false))\/(∃v,num ((B g).drop 1)=Z v/\e=H (bO true)/\af h b 206 #[p,L ⟨#[103]⟩,bO true,I O (v),L ⟨#[]⟩,q,s])):=by
 have k:=aa o;change Hid _ at m;clear o;go_in;go_wp2_with (go_at_call 220;refine(gy g ⟨#[43,45]⟩ ⟨#[43]⟩ A m _).mono ?_;rintro e h ⟨⟨r,rfl,z,D⟩,n,rfl⟩)
 go_at_call 221
 refine(fN r (by omega) _).mono ?_;have j:B r=(B g).drop 1:=z;rintro e h ⟨⟨v,d,rfl⟩|⟨d,rfl⟩,c⟩
 .rw[j]at d;have f:Below w.heap.size w h:=bD c;have a:=k.below f k.lt;have i:=aa a;have t:=a.frozen 1;have u:=a.frozen 2;have x:=a.frozen 3;have c1:=a.Ri 1;have c2:=a.Ri 2;have c3:=a.Ri 3;have y:=fv d;have l:=aa d;change Hid _ at f;clear d a c;go_wp2_with fail;go_ret;refine⟨(((bS.ag f).set 1 _).set 3 _).set 2 _,Ya ⟨v,l,rfl,((i.set 1 _).set 3 _).set 2 _⟩⟩
 rw[j]at d;have f:Below w.heap.size w h:=bD c;have a:=k.below f k.lt;have i:=aa a;have t:=a.frozen 1;have u:=a.frozen 2;have x:=a.frozen 3;have c1:=a.Ri 1;have c2:=a.Ri 2;have c3:=a.Ri 3;have l:=aa d;change Hid _ at f;clear d a c;go_wp2_with fail;go_ret;refine⟨(((bS.ag f).set 1 _).set 3 _).set 2 _,qb ⟨l,rfl⟩⟩
theorem tD (b:Nat)(g:ByteArray)(A:g.size<=9223372036854775807)(p q s:C)(w:Wa)(m:sg (B ⟨#[43,45]⟩) (B g)=B ⟨#[45]⟩)
  (o:af w b 206 #[p,L ⟨#[]⟩,bO false,I O 0,L ⟨#[]⟩,q,s]):
  Va Ua 173 #[G (Z ⟨b,0,Y⟩),L ⟨#[103]⟩,L g] w λe h=>bS b w h/\
   ((num ((B g).drop 1)=Y/\e=H (bO false))\/(∃v,num ((B g).drop 1)=Z v/\e=H (bO true)/\af h b 206 #[p,L ⟨#[103]⟩,bO true,I O (-v),L ⟨#[]⟩,q,s])):=by
 have k:=aa o;change Hid _ at m;clear o;go_in;go_wp2_with (go_at_call 220;refine(gy g ⟨#[43,45]⟩ ⟨#[45]⟩ A m _).mono ?_;rintro e h ⟨⟨r,rfl,z,D⟩,n,rfl⟩)
 go_at_call 221
 refine(fN r (by omega) _).mono ?_;have j:B r=(B g).drop 1:=z;rintro e h ⟨⟨v,d,rfl⟩|⟨d,rfl⟩,c⟩
 .rw[j]at d;have f:Below w.heap.size w h:=bD c;have a:=k.below f k.lt;have i:=aa a;have t:=a.frozen 1;have u:=a.frozen 2;have x:=a.frozen 3;have c1:=a.Ri 1;have c2:=a.Ri 2;have c3:=a.Ri 3;have y:=fv d;have l:=aa d;change Hid _ at f;clear d a c;go_wp2_with fail;go_ret;refine⟨(((bS.ag f).set 1 _).set 3 _).set 2 _,Ya ⟨v,l,rfl,((i.set 1 _).set 3 _).set 2 _⟩⟩
 rw[j]at d;have f:Below w.heap.size w h:=bD c;have a:=k.below f k.lt;have i:=aa a;have t:=a.frozen 1;have u:=a.frozen 2;have x:=a.frozen 3;have c1:=a.Ri 1;have c2:=a.Ri 2;have c3:=a.Ri 3;have l:=aa d;change Hid _ at f;clear d a c;go_wp2_with fail;go_ret;refine⟨(((bS.ag f).set 1 _).set 3 _).set 2 _,qb ⟨l,rfl⟩⟩
theorem tF (b:Nat)(g:ByteArray)(A:g.size<=9223372036854775807)(p q s:C)(w:Wa)(m:sg (B ⟨#[]⟩) (B g)=B ⟨#[]⟩)
  (o:af w b 206 #[p,L ⟨#[]⟩,bO false,I O 0,L ⟨#[]⟩,q,s]):
  Va Ua 173 #[G (Z ⟨b,0,Y⟩),L ⟨#[104]⟩,L g] w λe h=>bS b w h/\
   ((num ((B g).drop 0)=Y/\e=H (bO false))\/(∃v,num ((B g).drop 0)=Z v/\e=H (bO true)/\af h b 206 #[p,L ⟨#[109,115]⟩,bO false,I O (v),L ⟨#[]⟩,q,s])):=by
 have k:=aa o;change Hid _ at m;clear o;go_in;go_wp2_with (go_at_call 220;refine(gy g ⟨#[]⟩ ⟨#[]⟩ A m _).mono ?_;rintro e h ⟨⟨r,rfl,z,D⟩,n,rfl⟩)
 go_at_call 221
 refine(fN r (by omega) _).mono ?_;have j:B r=(B g).drop 0:=z;rintro e h ⟨⟨v,d,rfl⟩|⟨d,rfl⟩,c⟩
 .rw[j]at d;have f:Below w.heap.size w h:=bD c;have a:=k.below f k.lt;have i:=aa a;have t:=a.frozen 1;have u:=a.frozen 2;have x:=a.frozen 3;have c1:=a.Ri 1;have c2:=a.Ri 2;have c3:=a.Ri 3;have y:=fv d;have l:=aa d;change Hid _ at f;clear d a c;go_wp2_with fail;go_ret;refine⟨(((bS.ag f).set 1 _).set 3 _).set 2 _,Ya ⟨v,l,rfl,((i.set 1 _).set 3 _).set 2 _⟩⟩
 rw[j]at d;have f:Below w.heap.size w h:=bD c;have a:=k.below f k.lt;have i:=aa a;have t:=a.frozen 1;have u:=a.frozen 2;have x:=a.frozen 3;have c1:=a.Ri 1;have c2:=a.Ri 2;have c3:=a.Ri 3;have l:=aa d;change Hid _ at f;clear d a c;go_wp2_with fail;go_ret;refine⟨(((bS.ag f).set 1 _).set 3 _).set 2 _,qb ⟨l,rfl⟩⟩
theorem sU (b:Nat)(g:ByteArray)(A:g.size<=9223372036854775807)(p q s:C)(w:Wa)(m:sg (B ⟨#[]⟩) (B g)=B ⟨#[]⟩)
  (o:af w b 206 #[p,L ⟨#[]⟩,bO false,I O 0,L ⟨#[]⟩,q,s]):
  Va Ua 173 #[G (Z ⟨b,0,Y⟩),L ⟨#[109,115]⟩,L g] w λe h=>bS b w h/\
   ((num ((B g).drop 0)=Y/\e=H (bO false))\/(∃v,num ((B g).drop 0)=Z v/\e=H (bO true)/\af h b 206 #[p,L ⟨#[109,115]⟩,bO false,I O (v),L ⟨#[]⟩,q,s])):=by
 have k:=aa o;change Hid _ at m;clear o;go_in;go_wp2_with (go_at_call 220;refine(gy g ⟨#[]⟩ ⟨#[]⟩ A m _).mono ?_;rintro e h ⟨⟨r,rfl,z,D⟩,n,rfl⟩)
 go_at_call 221
 refine(fN r (by omega) _).mono ?_;have j:B r=(B g).drop 0:=z;rintro e h ⟨⟨v,d,rfl⟩|⟨d,rfl⟩,c⟩
 .rw[j]at d;have f:Below w.heap.size w h:=bD c;have a:=k.below f k.lt;have i:=aa a;have t:=a.frozen 1;have u:=a.frozen 2;have x:=a.frozen 3;have c1:=a.Ri 1;have c2:=a.Ri 2;have c3:=a.Ri 3;have y:=fv d;have l:=aa d;change Hid _ at f;clear d a c;go_wp2_with fail;go_ret;refine⟨(((bS.ag f).set 1 _).set 3 _).set 2 _,Ya ⟨v,l,rfl,((i.set 1 _).set 3 _).set 2 _⟩⟩
 rw[j]at d;have f:Below w.heap.size w h:=bD c;have a:=k.below f k.lt;have i:=aa a;have t:=a.frozen 1;have u:=a.frozen 2;have x:=a.frozen 3;have c1:=a.Ri 1;have c2:=a.Ri 2;have c3:=a.Ri 3;have l:=aa d;change Hid _ at f;clear d a c;go_wp2_with fail;go_ret;refine⟨(((bS.ag f).set 1 _).set 3 _).set 2 _,qb ⟨l,rfl⟩⟩
theorem Fl (b:Nat)(c:ByteArray)(j:c.size<=9223372036854775807)(f g h:C)(w:Wa)
  (a:af w b 206 #[f,L ⟨#[]⟩,bO false,I O 0,L ⟨#[]⟩,g,h]):
  Va Ua 173 #[G (Z ⟨b,0,Y⟩),L ⟨#[115]⟩,L c] w λe d=>bS b w d/\
   e=H (bO (made dm 16 (B c)))/\af d b 206 #[f,L ⟨#[115]⟩,bO false,I O 0,L c,g,h]:=by
 have i:=aa a;have l:=a.frozen 1;have m:=a.frozen 4;have c1:=a.Ri 1;have k:=a.Ri 4;clear a;go_in;go_wp2_with (go_at_call 219;refine(Leaf.isWord c 16 j _).mono ?_;rintro e d ⟨rfl,rfl⟩)
 go_ret;exact⟨((bS.refl _ _).set 1 _).set 4 _,rfl,(i.set 1 _).set 4 _⟩
theorem Bq (b:Nat)(a c:ByteArray)(w:Wa)(f:(a.toList==[115])=false)(g:(a.toList==[99])=false)(h:(a.toList==[103])=false)(i:(a.toList==[104])=false)(j:(a.toList==[109,115])=false):
  Va Ua 173 #[G (Z ⟨b,0,Y⟩),L a,L c] w λe d=>e=H (bO false)/\w=d:=by
 go_in;go_wp2_with fail;go_ret;exact⟨rfl,rfl⟩
end Valw
end Go.Proofs.YtpndiccohnafbaaGreatDoor
