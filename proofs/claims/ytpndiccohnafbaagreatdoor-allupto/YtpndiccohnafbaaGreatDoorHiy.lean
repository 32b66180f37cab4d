/- Numbers written; a timer's text. -/
import Derived.Test.YtpndiccohnafbaaGreatDoorHby
import Derived.Test.YtpndiccohnafbaaGreatDoorPlainw
import Derived.Laws.MakeOwn
import Derived.Test.YtpndiccohnafbaaGreatDoorCq
import Derived.Deep.RegionWith
import Derived.Deep.QuietTactic
import Derived.BigQuiet
set_option maxHeartbeats 9000000
open Go.Value renaming int->I,string->L
open Go.IntKind renaming i64->O
open Go.Ending renaming returned->ca
open Option renaming some->Z,none->Y
open Go.Lib renaming itoa->Ua,decDigits_length->Wa,join->Xa
open Go.Proofs.Tryz renaming prog->Va
open Go renaming World->N,Value->C,Calls->Za
open List renaming getElem?_eq_some_iff->Ya
namespace Go.Proofs.YtpndiccohnafbaaGreatDoor
namespace Hi
open Go.RowKit Go.Maps Mem Foot Im Wm Hk Hb Plainw
theorem wI {u:Nat}(h:u<10 ^ 19):(Lib.decDigits u).length<=19:=by
 rw[Wa];exact Plain.iW 18 _ h
theorem eM {n:Int}(a:-9223372036854775808<=n)(b:n<=9223372036854775807):(Ua n).length<=20:=by grind [wI,Ua]
theorem tR (n:Int)(a:-9223372036854775808<=n)(b:n<=9223372036854775807)(w:N)(f:gp w):
  Za Va 80 #[I O n] w λe c=>(∃z,e=ca (L z)/\Bytes.B z=Ua n/\z.size<=20)/\Below w.heap.size w c:=by
 refine(Tryz.strconv_Itoa n a b w f).mono λe c h=>?_
 obtain⟨d,k,g,rfl⟩:=h;refine⟨⟨_,d,rfl,?_⟩,zv _ _ _⟩;rw[Bytes.aj];exact eM a b
theorem Af (G b:Nat)(a:List (List UInt8))(w:N)(c:G<w.heap.size)(i:a.length<=b)(k:∀j x,a[j]? = Z x->w.cell? ⟨G,j,Y⟩=Z (L ⟨x.toArray⟩))(n:a.length<=140737488355328)(hz:(Xa a [32]).length<=140737488355328):
  Za Va 207 #[.slice (Z ⟨G,0,Y⟩) a.length b,L ⟨#[32]⟩] w λe g=>(∃z,e=ca (L z)/\Bytes.B z=Xa a [32])/\Below w.heap.size w g:=by
 have d:(a.map λx=>(⟨x.toArray⟩:ByteArray)).map (λx=>x.data.toList)=a:=by
  rw[List.map_map];exact List.map_id a
 have f:=Tryz.strings_Join G 0 b (a.map λx=>⟨x.toArray⟩) ⟨#[32]⟩ w (λj x o=>by grind) c (by grind) (by grind) (by rw[d];exact hz);rw[List.length_map,d]at f;refine f.mono λe g h=>?_
 obtain⟨m,l⟩:=h;exact⟨⟨_,m,rfl⟩,l⟩
theorem made (t e:TypeId)(z:C)(a:Nat)(f:Va.underlying t=Z (.slice e))(b:(Va.info? e).map (λi=>(i.zero,i.size,i.bytes))=Z (Z z,1,a))(n:Nat)(k:a*n<=281474976710656)(l:n<=281474976710656)(w:N):
  ∃d:Array C,d.size=n/\(Instr.makeSlice t (I O (n:Int)) (I O (n:Int))).run Va w=.ok (.slice (Z ⟨w.heap.size,0,Y⟩) n n) (w.alloc (.cells d e)):=by
 obtain⟨i,b,c,g,j⟩:=info_parts b;have h:=run_make (P:=Va) w t e i z f b c O O (n:Int) (n:Int) (by omega) (Int.le_refl _) (by grind) (by omega);grind [size_madeCells]
theorem Qi:(Va.info? 9).map (λi=>(i.zero,i.size,i.bytes))=Z (Z (L ⟨#[]⟩),1,16):=by kernel_rfl
set_option maxRecDepth 10000 in
theorem Om (g s:Nat)(d:List Int)(w:N)(ht:gp w)(hg:g<w.heap.size)(a4:d.length<=s)(f:∀(j:Nat) x,d[j]? = Z x->w.cell? ⟨g,j,Y⟩=Z (I O x))(V:∀x∈d,-9223372036854775808<=x/\x<=9223372036854775807)(hn:d.length=8):
  Za Va 158 #[.slice (Z ⟨g,0,Y⟩) 8 s] w λe w'=>(∃z,e=ca (L z)/\Bytes.B z=Xa (d.map Ua) [32])/\Below w.heap.size w w':=by
 have HT:=aa ht;change Hid _ at f V;clear ht;obtain⟨c,J,v⟩:=made 32 9 _ 16 Tryz.underlying32 Qi 8 (by omega) (by omega) w;obtain⟨G,hG⟩:∃G,w.heap.size=G:=⟨_,rfl⟩;have H:=aa (af.new w 9 c);have S:=aa (ai (w:=w) (.cells c 9));have U:=aa hG;rw[hG]at v H;have a5:(Instr.makeSlice 32 (I O 8) (I O 8)).run Va w=.ok (.slice (Z ⟨G,0,Y⟩) 8 8) (w.alloc (.cells c 9)):=v;clear v hG;generalize w.alloc (.cells c 9)=w0 at *;go_in;go_wp2_with fail;go_loopw [11] (λi wr=>∃k:Nat,i=I O (k:Int)/\k<=8/\Hid (∃D:Array C,af wr G 9 D/\D.size=8/\(∀(j:Nat) x,j<k->d[j]? = Z x->D[j]? = Z (L ⟨(Ua x).toArray⟩))/\Below w.heap.size w wr)) (λi _=>8 - (intOf i).toNat)
 case atStart=>exact⟨0,rfl,by omega,c,H,J,λj x h=>by omega,S⟩
 case round=>
  obtain⟨k,rfl,hk,HI⟩:=hrel;by_cases a2:k<8
  .have a3:(k:Int)<8:=by omega
   obtain⟨D,E,A,a,t⟩:=HI.out;obtain⟨x,m⟩:∃x,d[k]? = Z x:=⟨_,List.getElem?_eq_getElem (by omega)⟩;have gc:wr.cell? ⟨g,k,Y⟩=Z (I O x):=(t.cell (p:=⟨g,k,Y⟩) hg).trans (f.out k x m);obtain⟨P,R⟩:=V.out x (List.mem_of_getElem? m);have n:gp wr:=HT.below t;have K:=tR x P R wr n;have HS:=aa E;have T:=aa a;have F:=aa t;have W:=aa m;have a0:k<s:=by omega
   clear E a t m n P R;go_wp2_with fail;refine K.mono ?_;clear K;rintro e w2 ⟨⟨z,rfl,hz,a6⟩,b⟩;have X:=aa hz;have q:=aa (HS.below b HS.lt);have o:=aa (F.trans (b.mono F.size));have c0:=q.cell k (D[k]'(by omega)) (by simp[A,a2]);have f0:=q.frozen k;clear hz b gc;go_wp2_with fail;go_roundw
   case rel=>
    refine⟨k+1,by go_num,by omega,_,q.set k _,by simp[A],λj y hj l=>?_,o.setCell (p:=⟨G,k,Y⟩) (by have:=U.out;simp;omega) _⟩;by_cases e:j=k
    .subst e;rw[W.out]at l;cases l;have:z=⟨(Ua x).toArray⟩:=Bytes.bo (by rw[X.out];rfl);grind
    rw[Array.getElem?_setIfInBounds_ne (λh=>e h.symm)];exact T.out j y (by omega) l
   case measure=>simp only[intOf];omega
  have a3:¬(k:Int)<8:=by omega
  have a1:k=8:=by omega
  subst a1;obtain⟨D,E,A,a,t⟩:=HI.out;have hlen:(d.map Ua).length=8:=by simpa using hn
  have u:=Af G 8 (d.map Ua) wr E.lt (by omega) (λj x f=>by
   rw[List.getElem?_map,Option.map_eq_some_iff]at f;obtain⟨y,l,rfl⟩:=f;have hj:j<d.length:=(Ya.1 l).1;exact E.cell j _ (a j y (by omega) l)) (by omega) (by
   have:∀M:List (List UInt8),(∀x∈M,x.length<=20)->(Xa M [32]).length<=21*M.length:=by
    intro M
    induction M with
    | nil=>intro _;simp[Lib.join_nil]
    | cons x r ih=>
     intro f;have h1:=f x (List.mem_cons_self ..);have h2:=ih λy l=>f y (List.mem_cons_of_mem _ l)
     cases r with
     | nil=>grind [Lib.join_one]
     | cons y r=>
      have e:Xa (x ::y ::r) [32]=x++32 ::Xa (y ::r) [32]:=by simp[Xa]
      grind
   have:=this (d.map Ua) λy l=>by
    obtain⟨x,f,rfl⟩:=List.mem_map.1 l;obtain⟨P,R⟩:=V.out x f;exact eM P R
   omega)
  rw[hlen]at u;have F:=aa t;clear E a t hlen;go_wp2_with fail;refine u.mono ?_;clear u;rintro e w2 ⟨⟨z,rfl,hz⟩,b⟩;have X:=aa hz;have o:=aa (F.trans (b.mono F.size));clear hz b;go_wp2_with fail;go_ret;exact⟨⟨z,rfl,X⟩,o⟩
end Hi
namespace Jr
open Go.RowKit Mem Foot Bytes Im Wm Hi Plainw Cq
def bC (k:List UInt8)(n:Int)(t:List UInt8):List UInt8:=k++Ua n++[58]++Ua t.length++[58]++t++[10]
theorem eM {v:Int}(a:-9223372036854775808<=v)(b:v<=9223372036854775807):(Ua v).length<=20:=by
 unfold Ua;split
 .have:=Plain.iW 18 v.natAbs (by omega);grind [Wa]
 have:=Plain.iW 18 v.toNat (by omega);rw[Wa];omega
set_option maxRecDepth 10000 in
theorem written (kb:ByteArray)(n:Int)(a:ByteArray)(w:N)(u:gp w)(R:kb.size<=1000)(p:-9223372036854775808<=n)(r:n<=9223372036854775807)(S:a.size<=140737488355328):
  Za Va 91 #[.agg #[L kb,I O n,L a]] w λe k=>(∃z,e=ca (L z)/\B z=bC (B kb) n (B a))/\Below w.heap.size w k:=by
 have t:=aa u;have g:=aa (af.new w 158 #[L kb,I O n,L a]);have b:=aa (ai (w:=w) (.cells #[L kb,I O n,L a] 158));clear u;go_in;go_upto_region 1 with fail;generalize J:w.heap.size=X at g ⊢;clear J;generalize w.alloc (.cells #[L kb,I O n,L a] 158)=h at *;obtain⟨i,c⟩:∃i:ByteArray,B i=Ua n:=⟨⟨(Ua n).toArray⟩,rfl⟩;obtain⟨j,f⟩:∃j:ByteArray,B j=Ua (a.size:Int):=⟨⟨(Ua (a.size:Int)).toArray⟩,rfl⟩;have s:∀(v:Int) (d:ByteArray),B d=Ua v->-9223372036854775808<=v->v<=9223372036854775807->∀W:N,gp W->Za Va 80 #[I O v] W λe k=>e=ca (L d)/\Below W.heap.size W k:=λv d P F G W H=>
  (tR v F G W H).mono λe k ⟨⟨z,K,M,_⟩,E⟩=>⟨by grind [bo],E⟩
 have T:i.size<=20:=by grind [aj,eM]
 have U:j.size<=20:=by grind [aj,eM]
 have l:=aa (λq:Bw h=>aT (s n i c p r q.val ((t.below b).below q.is)));have m:=aa (λq:Bw h=>aT (s (a.size:Int) j f (by omega) (by omega) q.val ((t.below b).below q.is)));have D:∀q:Bw h,af q.val X 158 _:=λq=>Mem.af.below g q.is g.lt
 have x:∀q:Bw h,q.val.cell? ⟨X,0,Y⟩=Z (L kb):=λq=>(D q).Ri 0
 have y:∀q:Bw h,q.val.cell? ⟨X,1,Y⟩=Z (I O n):=λq=>(D q).Ri 1
 have A:∀q:Bw h,q.val.cell? ⟨X,2,Y⟩=Z (L a):=λq=>(D q).Ri 2
 change Hid _ at c f;clear D s;refine aU ?_;repeat go_big_quiet_step ((go_at_call 80;first|exact l.out _|exact m.out _))
 refine wpQuiet_nil ?_;rintro _ ⟨q,rfl⟩;have o:=aa (b.trans (q.is.mono b.size));clear x y A;go_wp2_with fail;go_ret;refine⟨⟨_,rfl,?_⟩,o⟩;unfold bC;rw[<-Bytes.aj a];simp only[Bytes.bp,c.out,f.out,List.append_assoc];rfl
def fj (w:N)(v:C)(n:Int):Prop:=(n=0/\v=.nilIface)\/(n≠0/\∃b z,v=.iface 212 (.pointer (Z ⟨b,0,Y⟩))/\af w b 214 #[L z,.iface 64 (I O n)])
theorem fj.below {w c:N}{v:C}{n:Int}(h:fj w v n)(f:Below w.heap.size w c):fj c v n:=by
 rcases h with h|⟨d,b,z,e,a⟩
 .exact Or.inl h
 exact Or.inr ⟨d,b,z,e,Mem.af.below a f a.lt⟩
theorem iM (z:ByteArray)(n:Int)(w:N):Za Va 99 #[L z,I O n] w λe b=>(∃v,e=ca v/\fj b v n)/\Below w.heap.size w b:=by
 by_cases a:n=0
 .subst a;go_in;go_wp2_with fail;go_ret;exact⟨⟨_,rfl,Or.inl ⟨rfl,rfl⟩⟩,Below.refl _ _⟩
 have c:=aa a;go_in;go_wp2_with fail;go_ret;exact⟨⟨_,rfl,Or.inr ⟨c,_,z,rfl,af.new w _ _⟩⟩,ai _⟩
structure Jn where
 most:Int
 ae:List (Int×List Int)
 aN:List Int
 synced:Nat
 bU:ByteArray
 next:Int
 al:Int
structure JA (w:N)(jb bx:Nat)(J:Jn)(mv ov:C):Prop where
 head:af w jb 137 #[.pointer (Z ⟨bx,0,Y⟩),I O J.most,mv,ov,I O (J.synced:Int),L J.bU,I O J.next,I O J.al]
 aN:w.ownsRow 0 3 1 ov J.aN.length (J.aN.map (Value.int O))
theorem iK {w:N}{b:Nat}{t:TypeId}{a c d e f g i j:C}(h:af w b t #[a,c,d,e,f,g,i,j]):
  w.cell? ⟨b,0,Y⟩=Z a/\w.cell? ⟨b,1,Y⟩=Z c/\w.cell? ⟨b,2,Y⟩=Z d/\w.cell? ⟨b,3,Y⟩=Z e/\w.cell? ⟨b,4,Y⟩=Z f/\w.cell? ⟨b,5,Y⟩=Z g/\w.cell? ⟨b,6,Y⟩=Z i/\w.cell? ⟨b,7,Y⟩=Z j:=
 ⟨h.Ri 0,h.Ri 1,h.Ri 2,h.Ri 3,h.Ri 4,h.Ri 5,h.Ri 6,h.Ri 7⟩
theorem eO {w:N}{base:Nat}{v:C}{l:List Int}(h:w.ownsRow base 3 1 v l.length (l.map (Value.int O))){i:Nat}{x:Int}(f:l[i]? = Z x):∃g a,v=.slice (Z ⟨g,0,Y⟩) l.length a/\l.length<=a/\g<w.heap.size/\w.cell? ⟨g,i,Y⟩=Z (I O x):=by
 have o:=(Ya.1 f).1;rcases h.2 with ⟨_,m⟩|⟨g,a,c,rfl,n,e,j,_,_,k⟩
 .omega
 have d:af w g 3 c:=e;have b:(l.map (Value.int O))[i]? = Z (I O x):=by grind
 rw[<-k,List.getElem?_take]at b;split at b
 .exact⟨g,a,rfl,j,d.lt,d.cell i _ (by simpa using b)⟩
 cases b
theorem last (w:N)(f i:Nat)(J:Jn)(mv o:C)(h:JA w f i J mv o)(l:List Int)(x:Int)(d:J.aN=l++[x])(v:J.aN.length<=1000000000):
  Za Va 98 #[.pointer (Z ⟨f,0,Y⟩)] w λe p=>e=ca (I O x)/\∃n,p=w.drewN n:=by
 have hlen:J.aN.length=l.length+1:=by rw[d];simp
 have c:J.aN[l.length]? = Z x:=by grind
 obtain⟨g,j,rfl,a,y,b⟩:=eO h.aN c;obtain⟨q,c1,c2,c3,r,s,t,u⟩:=iK h.head;rw[hlen]at c3 a;have k:l.length<=1000000000:=by omega
 have m:IntKind.i64.wrap (l.length:Int)=(l.length:Int):=IntWalk.i64_in _ (by omega);clear d c h hlen;go_in;go_wp2_with fail;go_quiet (fail);go_wp2_with fail;go_ret;exact⟨rfl,_,rfl⟩
def aZ (J:Jn):List UInt8:=if J.al = -1 then [] else bC [98] J.al []
theorem head (w:N)(i j:Nat)(J:Jn)(mv r:C)(h:JA w i j J mv r)(q:gp w)(o:-9223372036854775808<=J.al)(p:J.al<=9223372036854775807):
  Za Va 93 #[.pointer (Z ⟨i,0,Y⟩)] w λe s=>(∃z,e=ca (L z)/\B z=aZ J)/\Below w.heap.size w s:=by
 obtain⟨k,c1,c2,c3,l,m,n,g⟩:=iK h.head;have c:=written ⟨#[98]⟩ J.al ⟨#[]⟩ w q (by decide) o p (by decide);by_cases a:J.al = -1
 .have b:=aa (show aZ J=[] by unfold aZ;rw[if_pos a]);rw[a]at g;clear c a h;go_in;go_wp2_with fail;go_ret;exact⟨⟨_,rfl,by rw[b.out];rfl⟩,Below.refl _ _⟩
 have b:=aa (show aZ J=bC [98] J.al [] by unfold aZ;rw[if_neg a]);clear h;go_in;go_wp2_with fail;refine c.mono ?_;clear c;rintro e t ⟨⟨z,rfl,f⟩,d⟩;change Hid _ at f d;clear k c1 c2 c3 l m n g;go_wp2_with fail;go_ret;exact⟨⟨_,rfl,by rw[b.out,f.out];rfl⟩,d⟩
def ie (z:ByteArray)(n:Int):ByteArray:=z++⟨#[32,115,101,103,109,101,110,116,32]⟩++⟨(Ua n).toArray⟩
theorem about (z:ByteArray)(hz:z.size<=1000)(n:Int)(c:-9223372036854775808<=n)(d:n<=9223372036854775807)(w:N)(h:gp w):
  Za Va 100 #[L z,I O n] w λe i=>e=ca (L (ie z n))/\Below w.heap.size w i:=by
 have a:=tR n c d w h;go_in;go_wp2_with fail;refine a.mono ?_;clear a;rintro e k ⟨⟨y,rfl,b,j⟩,f⟩;change Hid _ at f;have g:Hid (y=⟨(Ua n).toArray⟩):=Bytes.bo (by rw[b];rfl);clear b;go_wp2_with fail;go_ret;refine⟨?_,f⟩;unfold ie;rw[<-g.out];rfl
end Jr
end Go.Proofs.YtpndiccohnafbaaGreatDoor
