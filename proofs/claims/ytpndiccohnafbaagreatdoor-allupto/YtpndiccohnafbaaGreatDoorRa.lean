/- The document's numbers, written: at every number. -/
import Derived.Test.YtpndiccohnafbaaGreatDoorWmy
import Derived.Test.YtpndiccohnafbaaGreatDoorLeaf
import Derived.Lib.ItoaNum
import Derived.Deep.RegionWith
import Derived.Laws.BytesArg
set_option maxHeartbeats 9000000
open Go.Value renaming int->I,string->L
open Go.AllReady renaming cons->ca,nil->Ua
open Go renaming strOfNums->Va,wpAny_ready->Wa,wpAny_take->Ub,World->N
open Go.Lib renaming decDigits->Xa,itoa->eb
open Int renaming tmod_eq_emod_of_nonneg->Ya,tdiv_eq_ediv_of_nonneg->Vb
open Go.Proofs.Tryz renaming prog->Za
open UInt8 renaming ofNat->qb
namespace Go.Proofs.YtpndiccohnafbaaGreatDoor.Ra
open Go.RowKit Mem Foot
theorem wF (x:Int)(W:N)(b:Nat)(h:W.cell? ⟨b,0,none⟩=some (I .u8 x)):(convert 140 9 (.slice (some ⟨b,0,none⟩) 1 1)).run Za W=.ok (L (Va [x])) W:=
 run_convert_bytes_arg W 140 5 Tryz.underlying140 Tryz.underlying5 b 0 1 1 [x] rfl (λi a=>by
  obtain rfl:i=0:=by omega
  exact h) 9 Tryz.underlying9
theorem qV (x:Int)(W:N):(convert 140 9 (.slice (some ⟨W.heap.size,0,none⟩) 1 1)).run Za (W.alloc (.cells #[I .u8 x] 5))=.ok (L (Va [x])) (W.alloc (.cells #[I .u8 x] 5)):=
 wF x _ _ ((af.new W 5 #[I .u8 x]).Ri 0)
theorem uO (x:Int):Bytes.B (Va [x])=[qb x.toNat]:=by
 simp[Va,Bytes.B]
theorem BK {v:Nat}(h:¬v<10):Xa v=Xa (v / 10)++[qb (48+v % 10)]:=by
 rw[Xa,dif_neg h]
theorem Ga {u:Nat}(h:u<=9223372036854775808):(Xa u).length<=100:=by
 rw[Lib.decDigits_length];have:=Plain.iW 18 u (by omega);omega
def Wr (v:Int)(w:N):Prop:=Calls Za 134 #[I .i64 v] w λe a=>(∃z,e=.returned (L z)/\Bytes.B z=eb v)/\Below w.heap.size w a
theorem jM (u:Nat):eb (u:Int)=Xa u:=by
 unfold eb;rw[if_neg (by omega)];rfl
theorem kx {u:Nat}(h:u≠0):eb (-(u:Int))=45 ::Xa u:=by
 unfold eb;rw[if_pos (by omega)];congr 2;omega
set_option maxRecDepth 10000 in
theorem small (u:Nat)(h:u<10)(w:N):Wr (u:Int) w:=by
 have hz:(u:Int)<10:=by omega
 have c:¬(u:Int)<0:=by omega
 have b:=qV (48+(u:Int)) w;have a:Bytes.B (Va [48+(u:Int)])=eb (u:Int):=by
  rw[uO,jM,Lib.decDigits_one h];congr
 change Hid _ at a;generalize Va [48+(u:Int)]=z at *;unfold Wr;go_in;go_wp2_with fail;go_ret;exact⟨⟨z,rfl,a⟩,ai _⟩
set_option maxRecDepth 10000 in
theorem less (u:Nat)(h:u<10)(d:u≠0)(w:N):Wr (-(u:Int)) w:=by
 have hz:-(u:Int)<0:=by omega
 have f:-10 < -(u:Int):=by omega
 have i:(-(u:Int)).tmod 10 = -(u:Int):=by rw[Int.neg_tmod,Ya (by omega)];omega
 have e:=qV (48+(u:Int)) w;have a:Bytes.B (Va [48+(u:Int)])=[qb (48+u)]:=by
  rw[uO];congr
 have c:=aa a;have g:(Va [48+(u:Int)]).size=1:=by
  rw[Bytes.aj,a];rfl
 have b:(48:Int) - -(u:Int)=48+(u:Int):=by omega
 clear a;generalize Va [48+(u:Int)]=z at *;unfold Wr;go_in;go_wp2_with fail;go_ret;refine⟨⟨_,rfl,?_⟩,ai _⟩;rw[Bytes.bp,c.out,kx d,Lib.decDigits_one h];rfl
set_option maxRecDepth 10000 in
theorem lower (u:Nat)(h:¬u<10)(E:u<=9223372036854775808)(k:∀w,Wr (-((u / 10:Nat):Int)) w)(w:N):Wr (-(u:Int)) w:=by
 have hz:-(u:Int)<0:=by omega
 have v:¬-10 < -(u:Int):=by omega
 have D:(-(u:Int)).tmod 10 = -((u % 10:Nat):Int):=by rw[Int.neg_tmod,Ya (by omega)];omega
 have A:(-(u:Int)).tdiv 10 = -((u / 10:Nat):Int):=by rw[Int.neg_tdiv,Vb (by omega)];omega
 have r:-922337203685477581<=-((u / 10:Nat):Int)/\-((u / 10:Nat):Int)<=0:=by omega
 have s:((u % 10:Nat):Int)<=9:=by omega
 have o:=qV (48+((u % 10:Nat):Int)) w;have f:Bytes.B (Va [48+((u % 10:Nat):Int)])=[qb (48+u % 10)]:=by
  rw[uO];congr
 have x:(Va [48+((u % 10:Nat):Int)]).size=1:=by
  rw[Bytes.aj,f];rfl
 have j:(48:Int) - -((u % 10:Nat):Int)=48+((u % 10:Nat):Int):=by omega
 have l:=aa f;have g:=aa (k (w.alloc (.cells #[I .u8 (48+((u % 10:Nat):Int))] 5)));have n:=aa (show eb (-(u:Int))=eb (-((u / 10:Nat):Int))++[qb (48+u % 10)] by
  rw[kx (by omega),kx (by omega),BK h];rfl)
 have b:=aa (show (eb (-((u / 10:Nat):Int))).length<=101 by
  rw[kx (by omega),List.length_cons];have:=Ga (u:=u / 10) (by omega);omega)
 clear f k;generalize Va [48+((u % 10:Nat):Int)]=z at *;generalize p:u / 10=d at *;generalize q:u % 10=m at *;clear p q;unfold Wr at g ⊢;go_in;go_wp2_with fail;refine g.mono ?_;rintro e F ⟨⟨y,rfl,c⟩,i⟩;have t:y.size<=101:=by rw[Bytes.aj,c];exact b
 change Hid _ at c;have a:=aa i;clear i;go_wp2_with fail;go_ret;refine⟨⟨_,rfl,?_⟩,(ai _).trans (a.mono (by simp))⟩;rw[Bytes.bp,l.out,c.out,n.out]
set_option maxRecDepth 10000 in
theorem upper (v:Nat)(h:¬v<10)(P:v<=9223372036854775807)(q:∀w:N,Calls Za 134 #[I .i64 ((v / 10:Nat):Int)] w λe d=>(∃z,e=.returned (L z)/\Bytes.B z=Xa (v / 10))/\Below w.heap.size w d)(w:N):
  Calls Za 134 #[I .i64 (v:Int)] w λe d=>(∃z,e=.returned (L z)/\Bytes.B z=Xa v)/\Below w.heap.size w d:=by
 have l:=q;have hz:¬(v:Int)<10:=by omega
 have G:¬(v:Int)<0:=by omega
 have hlen:(Xa (v / 10)).length<=100:=by
  rw[Lib.decDigits_length];have:=Plain.iW 18 (v / 10) (by omega);omega
 have J:(v:Int).tdiv 10=((v / 10:Nat):Int):=by rw[Vb (by omega)];omega
 have y:(v:Int) / 10=((v / 10:Nat):Int):=by omega
 have M:(v:Int).tmod 10=((v % 10:Nat):Int):=by rw[Ya (by omega)];omega
 have A:(v:Int) % 10=((v % 10:Nat):Int):=by omega
 have k:=aa (show Bytes.B (Va [48+((v % 10:Nat):Int)])=[qb (48+v % 10)] by
  rw[uO];congr)
 have n:=aa (BK h);have D:((v % 10:Nat):Int)<=9:=by omega
 have F:((v / 10:Nat):Int)<=922337203685477580:=by omega
 have f:=wF (48+((v % 10:Nat):Int));have H:(Va [48+((v % 10:Nat):Int)]).size=1:=by
  rw[Bytes.aj,k.out];rfl
 change Hid _ at f l;clear q;generalize Va [48+((v % 10:Nat):Int)]=p at *;generalize E:v / 10=u at *;generalize x:v % 10=m at *;clear E x;go_in;go_wp2_with fail;refine wp_region_any (by kernel_rfl) ?_;refine Ub (i:=0) (v:=I .i64 (v:Int)) rfl (by kernel_rfl) (by kernel_rfl) (by kernel_rfl) (λ_ _ _ h=>h) (Or.inl ⟨by rfl,by intro W;go_simp⟩) ?_;refine Ub (i:=1) (v:=I .i64 (u:Int)) rfl (by kernel_rfl) (by kernel_rfl) (by kernel_rfl) (λ_ _ _ h=>h) (Or.inl ⟨by rfl,by intro W;go_simp;exact IntWalk.i64_in _ (by omega)⟩) ?_;refine Ub (i:=3) (v:=I .i64 (v:Int)) rfl (by kernel_rfl) (by kernel_rfl) (by kernel_rfl) (λ_ _ _ h=>h) (Or.inl ⟨by rfl,by intro W;go_simp⟩) ?_;refine Ub (i:=4) (v:=I .i64 (m:Int)) rfl (by kernel_rfl) (by kernel_rfl) (by kernel_rfl) (λ_ _ _ h=>h) (Or.inl ⟨by rfl,by intro W;go_simp⟩) ?_;refine Ub (i:=5) (v:=I .i64 (48+(m:Int))) rfl (by kernel_rfl) (by kernel_rfl) (by kernel_rfl) (λ_ _ _ h=>h) (Or.inl ⟨by rfl,by intro W;go_simp;exact IntWalk.i64_in _ (by omega)⟩) ?_;refine Ub (i:=6) (v:=I .u8 (48+(m:Int))) rfl (by kernel_rfl) (by kernel_rfl) (by kernel_rfl) (λ_ _ _ h=>h) (Or.inl ⟨by rfl,by intro W;go_simp;exact IntWalk.u8_in _ (by omega)⟩) ?_;refine Wa (rs:=[2,7]) (by kernel_rfl) (by simp) ?_;refine ca rfl (λK a=>?_) (ca rfl (λK a=>?_) Ua)
 .go_simp;refine(l.out _).mono ?_;rintro e d ⟨⟨z,rfl,b⟩,g⟩;have j:z.size<=100:=by rw[Bytes.aj,b];exact hlen
  change Hid _ at b;have c:=aa g;clear g;refine a _ _ ?_;clear a K;refine Wa (rs:=[7]) (by kernel_rfl) (by simp) (ca rfl (λK a=>?_) Ua);go_simp;refine a _ _ ?_;clear a K;have r:(convert 140 9 (.slice (some ⟨d.heap.size,0,none⟩) 1 1)).run Za (d.alloc (.cells #[I .u8 (48+(m:Int))] 5))=.ok (L p) (d.alloc (.cells #[I .u8 (48+(m:Int))] 5)):=f.out _ _ ((af.new d 5 #[I .u8 (48+(m:Int))]).Ri 0);refine Wa (rs:=[8]) (by kernel_rfl) (by simp) (ca rfl (λK a=>?_) Ua);go_simp;refine a _ _ ?_;clear a K r;refine Wa (rs:=[9]) (by kernel_rfl) (by simp) (ca rfl (λK a=>?_) Ua);go_simp;rw[if_neg (by omega)];go_simp;refine a _ _ ?_;clear a K;refine Wa (rs:=[10]) (by kernel_rfl) (by simp) (ca rfl (λK a=>?_) Ua);go_simp;refine a _ _ ?_;clear a K;refine wpAny_done (by kernel_rfl) ?_ _;go_wp2_with fail;go_ret;exact⟨⟨_,rfl,by rw[Bytes.bp,b.out,k.out,n.out]⟩,((Below.refl w.heap.size w).drew).trans (c.alloc c.size _)⟩
 go_simp;refine a _ _ ?_;clear a K;have o:af (w.alloc (.cells #[I .u8 (48+(m:Int))] 5)).drew w.heap.size 5 #[I .u8 (48+(m:Int))]:=af.new w 5 #[I .u8 (48+(m:Int))];refine Wa (rs:=[2,8]) (by kernel_rfl) (by simp) ?_;refine ca rfl (λK a=>?_) (ca rfl (λK a=>?_) Ua)
 .go_simp;refine(l.out _).mono ?_;rintro e d ⟨⟨z,rfl,b⟩,g⟩;have j:z.size<=100:=by rw[Bytes.aj,b];exact hlen
  change Hid _ at b;have c:=aa g;have t:(convert 140 9 (.slice (some ⟨w.heap.size,0,none⟩) 1 1)).run Za d=.ok (L p) d:=f.out _ _ ((o.below g o.lt).Ri 0);clear g;refine a _ _ ?_;clear a K;refine Wa (rs:=[8]) (by kernel_rfl) (by simp) (ca rfl (λK a=>?_) Ua);go_simp;refine a _ _ ?_;clear a K t;refine Wa (rs:=[9]) (by kernel_rfl) (by simp) (ca rfl (λK a=>?_) Ua);go_simp;rw[if_neg (by omega)];go_simp;refine a _ _ ?_;clear a K;refine Wa (rs:=[10]) (by kernel_rfl) (by simp) (ca rfl (λK a=>?_) Ua);go_simp;refine a _ _ ?_;clear a K;refine wpAny_done (by kernel_rfl) ?_ _;go_wp2_with fail;go_ret;exact⟨⟨_,rfl,by rw[Bytes.bp,b.out,k.out,n.out]⟩,(ai (w:=w) _).drew.trans (c.mono (by simp))⟩
 have s:(convert 140 9 (.slice (some ⟨w.heap.size,0,none⟩) 1 1)).run Za (w.alloc (.cells #[I .u8 (48+(m:Int))] 5)).drew=.ok (L p) (w.alloc (.cells #[I .u8 (48+(m:Int))] 5)).drew:=f.out _ _ (o.Ri 0);go_simp;refine a _ _ ?_;clear a K s;refine Wa (rs:=[2]) (by kernel_rfl) (by simp) (ca rfl (λK a=>?_) Ua);go_simp;refine(l.out _).mono ?_;rintro e d ⟨⟨z,rfl,b⟩,g⟩;have j:z.size<=100:=by rw[Bytes.aj,b];exact hlen
 change Hid _ at b;have c:=aa g;clear g;refine a _ _ ?_;clear a K;refine Wa (rs:=[9]) (by kernel_rfl) (by simp) (ca rfl (λK a=>?_) Ua);go_simp;rw[if_neg (by omega)];go_simp;refine a _ _ ?_;clear a K;refine Wa (rs:=[10]) (by kernel_rfl) (by simp) (ca rfl (λK a=>?_) Ua);go_simp;refine a _ _ ?_;clear a K;refine wpAny_done (by kernel_rfl) ?_ _;go_wp2_with fail;go_ret;exact⟨⟨_,rfl,by rw[Bytes.bp,b.out,k.out,n.out]⟩,(ai (w:=w) _).drew.trans (c.mono (by simp))⟩
theorem digits (v:Int)(d:-9223372036854775808<=v)(g:v<=9223372036854775807)(w:N):Wr v w:=by
 have f:∀n u:Nat,u<=n->u<=9223372036854775807->∀w,Wr (u:Int) w:=by
  intro n
  induction n with
  | zero=>intro u b _ w;exact small u (by omega) w
  | succ n c=>
   intro u b a w;by_cases h:u<10
   .exact small u h w
   have:=upper u h a (λw=>by
    have:=c (u / 10) (by omega) (by omega) w;unfold Wr at this;rw[jM]at this;exact this) w
   unfold Wr;rw[jM];exact this
 have e:∀n u:Nat,u<=n->u≠0->u<=9223372036854775808->∀w,Wr (-(u:Int)) w:=by
  intro n
  induction n with
  | zero=>intro u b h _ w;omega
  | succ n c=>
   intro u b d a w;by_cases h:u<10
   .exact less u h d w
   exact lower u h a (λw=>c (u / 10) (by omega) (by omega) (by omega) w) w
 by_cases h:0<=v
 .obtain⟨u,rfl⟩:∃u:Nat,v=(u:Int):=⟨v.toNat,by omega⟩;exact f u u (Nat.le_refl _) (by omega) w
 obtain⟨u,rfl⟩:∃u:Nat,v = -(u:Int):=⟨v.natAbs,by omega⟩;exact e u u (Nat.le_refl _) (by omega) (by omega) w
end Go.Proofs.YtpndiccohnafbaaGreatDoor.Ra
