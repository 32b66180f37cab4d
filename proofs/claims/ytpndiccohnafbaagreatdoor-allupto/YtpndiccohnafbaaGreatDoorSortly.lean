/- The contract of slices.SortFunc at this program's segments: laid by the guide's own tool, in plain words. -/
import Derived.Shelf.SlSortCmp.Whole1
import Derived.Shelf.Small.Bits
import Derived.Test.YtpndiccohnafbaaGreatDoorProg
import Derived.Test.YtpndiccohnafbaaGreatDoorDhn
set_option maxHeartbeats 9000000
open Option renaming some->Z,none->Y
open Go.Value renaming int->I,pointer->ca,slice->Q,pointer->Uc
open Go.IntKind renaming i64->O
open List renaming mem_of_getElem?->Ua,getElem?_eq_getElem->Va,getElem?_append_left->Xa,ofFn->Ya,mem_cons_of_mem->Za,nodup_cons->eb,getElem?_append_right->Xb,mem_append->Zb
open Go.Proofs.Tryz renaming prog->Wa
open Nat renaming le_trans->qb
open Go.Proofs renaming sortWorld->Ub
open Array renaming extract_eq_self_of_le->Vb
open Or renaming inl->Wb
open Go.RowKit.Below renaming heap_alloc->Yb
open Go renaming World->N
namespace Go.Proofs
open Go.Shelf
def Tryz.yA:Go.Shelf.Ren:=⟨fun|6=>87|15=>108|14=>123|28=>146|29=>147|20=>160|21=>161|22=>162|23=>163|24=>164|25=>165|26=>166|27=>167|46=>209|47=>192|48=>193|49=>210|50=>211|57=>248|n=>n,fun|22=>60|24=>102|25=>154|3=>3|39=>173|0=>0|53=>235|55=>237|4=>4|46=>228|45=>227|50=>232|5=>5|9=>9|66=>288|70=>292|76=>330|77=>331|n=>n,fun|n=>n⟩
theorem Tryz.Md:Go.Proofs.SlLaysF.n6 Wa Tryz.yA:=by
 constructor
 kernel_rfl
 exact⟨Tryz.f87.name,by decide,Tryz.func87.trans (congrArg Z (by kernel_rfl))⟩;exact⟨Tryz.f123.name,by decide,Tryz.func123.trans (congrArg Z (by kernel_rfl))⟩;exact Tryz.func108.trans (congrArg Z (by kernel_rfl));exact⟨Tryz.f160.name,by decide,Tryz.func160.trans (congrArg Z (by kernel_rfl))⟩;exact⟨Tryz.f161.name,by decide,Tryz.func161.trans (congrArg Z (by kernel_rfl))⟩;exact⟨Tryz.f162.name,by decide,Tryz.func162.trans (congrArg Z (by kernel_rfl))⟩;exact⟨Tryz.f163.name,by decide,Tryz.func163.trans (congrArg Z (by kernel_rfl))⟩;exact⟨Tryz.f164.name,by decide,Tryz.func164.trans (congrArg Z (by kernel_rfl))⟩;exact⟨Tryz.f165.name,by decide,Tryz.func165.trans (congrArg Z (by kernel_rfl))⟩;exact⟨Tryz.f166.name,by decide,Tryz.func166.trans (congrArg Z (by kernel_rfl))⟩;exact⟨Tryz.f167.name,by decide,Tryz.func167.trans (congrArg Z (by kernel_rfl))⟩;exact Tryz.func146.trans (congrArg Z (by kernel_rfl));exact Tryz.func147.trans (congrArg Z (by kernel_rfl));exact⟨Tryz.f209.name,by decide,Tryz.func209.trans (congrArg Z (by kernel_rfl))⟩;exact Tryz.func192.trans (congrArg Z (by kernel_rfl));exact Tryz.func193.trans (congrArg Z (by kernel_rfl));exact⟨Tryz.f210.name,by decide,Tryz.func210.trans (congrArg Z (by kernel_rfl))⟩;exact⟨Tryz.f211.name,by decide,Tryz.func211.trans (congrArg Z (by kernel_rfl))⟩;exact⟨Tryz.f248.name,by decide,Tryz.func248.trans (congrArg Z (by kernel_rfl))⟩;all_goals repeat' first|kernel_rfl|decide|intro _|constructor
end Go.Proofs
namespace Go.Proofs.YtpndiccohnafbaaGreatDoor.Dh
open Go.RowKit Mem Foot Dm Go.Sort
theorem closure (x y:Nat)(a b:Int)(W:N)(d:W.cell? ⟨x,0,Y⟩=Z (I O a))(f:W.cell? ⟨y,0,Y⟩=Z (I O b)):
  Calls Wa 88 #[ca (Z ⟨x,0,Y⟩),ca (Z ⟨y,0,Y⟩)] W λe c=>e=.returned (I O (if a<b then -1 else 1))/\∃q,c=W.drewN q:=by
 by_cases h:a<b
 .rw[if_pos h];go_in;go_wp2_with fail;go_quiet (fail);go_wp2_with fail;go_ret;exact⟨rfl,_,rfl⟩
 rw[if_neg h];go_in;go_wp2_with fail;go_quiet (fail);go_wp2_with fail;go_ret;exact⟨rfl,_,rfl⟩
section
variable {m : Nat}
def num {l:List bM}(a:l.length=m+1)(i:Fin (m+1)):Int:=(l[i.1]'(by rw[a];exact i.2)).num
def blk {l:List Nat}(a:l.length=m+1)(i:Fin (m+1)):Nat:=l[i.1]'(by rw[a];exact i.2)
def cmp {l:List bM}(a:l.length=m+1)(i j:Fin (m+1)):Int:=if num a i<num a j then -1 else 1
def enc {l:List Nat}(a:l.length=m+1)(i:Fin (m+1)):Value:=ca (Z ⟨blk a i,0,Y⟩)
theorem vm {l:List bM}(a:l.length=m+1)(i j:Fin (m+1)):ltOf (cmp a) i j=decide (num a i<num a j):=by grind [ltOf,cmp]
theorem swo {l:List bM}(a:l.length=m+1):SWO (ltOf (cmp a)) where
 irrefl x:=by rw[vm];simp
 trans x y z h1 h2:=by grind [vm]
 ntrans x y z h1 h2:=by grind [vm]
theorem oh {w:N}{g:Nat}{a:List Nat}(b:a.length=m+1)(n:Nat)(e:Array Obj)(d:Array (Fin (m+1))):bS g w (Ub (enc b) w g 0 n d e):=by
 refine⟨rfl,rfl,rfl,by simp[Ub],λk f c=>?_⟩;grind [heap_grow_old,Ub,putRow,mapBlock,Sort.ahead]
theorem AY {w:N}{g:Nat}{a:Array Value}{e:List Nat}(b:e.length=m+1)(n:Nat)(h:Array Obj)(d:Array (Fin (m+1)))(c:af w g 102 a):af (Ub (enc b) w g 0 n d h) g 102 (putCells (enc b) 0 d a):=by
 have f:=c.lt;unfold af at c ⊢;unfold Ub;grind [heap_grow_old,putRow,mapBlock,Sort.ahead,onCells]
theorem sort (g A:Nat)(z:List Nat)(sg:List bM)(o:z.length=m+1)(t:sg.length=m+1)(w:N)(l:Array Value)(G:af w g 102 l)(a0:m+1<=l.size)
  (D:∀(i b:Nat),z[i]? = Z b->l[i]? = Z (Uc (Z ⟨b,0,Y⟩))) (E:∀(i b:Nat) (s:bM),z[i]? = Z b->sg[i]? = Z s->w.cell? ⟨b,0,Y⟩=Z (I O s.num)) (R:∀b∈z,b≠g) (hm:m+1<4611686018427387904):
  Calls Wa 87 #[Q (Z ⟨g,0,Y⟩) (m+1) A,.func (.func 88) #[] #[]] w λe T=>e=.returned (.tuple #[])/\∃d:List (Fin (m+1)),d.Perm (Ya id)/\(d.Pairwise λi j=>¬num t j<num t i)/\bS g w T/\∃c:Array Value,af T g 102 c/\c.size=l.size/\∀(i b:Nat),(tI z o d)[i]? = Z b->c[i]? = Z (Uc (Z ⟨b,0,Y⟩)):=by
 have eg:∀p w,(callFunc 88 p).run Wa w=.ok (.enter 88 p) w:=enters_of Tryz.func88 (by kernel_rfl) rfl;have v:∀i:Fin (m+1),z[i.1]? = Z (blk o i):=λi=>Va _
 have S:∀i:Fin (m+1),∃s,sg[i.1]? = Z s/\s.num=num t i:=λi=>⟨_,Va (by rw[t];exact i.2),rfl⟩
 have B:CmpReads Wa 88 #[] (enc o) (cmp t) g 0 (m+1) w:=by
  intro k J U _ x y;have X:∀i:Fin (m+1),(Ub (enc o) w g 0 k U J).cell? ⟨blk o i,0,Y⟩=Z (I O (num t i)):=by
   intro i;obtain⟨s,F,V⟩:=S i;have W:=E i.1 _ s (v i) F;rw[<-V,<-W];exact World.cell?_of_block ((oh o k J U).block _ (World.block_lt_of_cell? w _ W) (R _ (Ua (v i))))
  exact closure _ _ _ _ _ (X x) (X y)
 have a:(Ya (id:Fin (m+1)->Fin (m+1))).toArray.size=m+1:=by simp
 have hH:Holds (enc o) w g 0 (Ya (id:Fin (m+1)->Fin (m+1))).toArray:=by
  intro j r;rw[a]at r;refine⟨?_,G.frozen _⟩;rw[Nat.zero_add];refine G.cell j _ ?_;rw[getElem!_pos _ j (by rw[a];exact r),D j _ (v ⟨j,r⟩)];have e:(Ya (id:Fin (m+1)->Fin (m+1))).toArray[j]'(by rw[a];exact r)=⟨j,r⟩:=by grind
  rw[e];rfl
 have f:=Any.slices_SortFunc Tryz.Md (enc o) (λ_=>rfl) (cmp t) (swo t) 88 #[] g 0 A (Ya (id:Fin (m+1)->Fin (m+1))).toArray w eg (by rw[a];exact B.lays) hH G.lt (by rw[a];exact hm);rw[a]at f;change Calls Wa 87 _ _ _ at f;refine f.mono λe T ⟨he,u,n,J,H,hst,hw⟩=>⟨he,u.toList,by have h:=H.2.2;have F:u.size=m+1:=H.1.trans a;rwa [Vb (by omega),Vb (by omega)]at h,?_,by grind [oh],?_⟩
 .rw[List.pairwise_iff_getElem];intro i j K r M;have F:u.size=m+1:=H.1.trans a;have V:=hst i j (Nat.zero_le _) M (by grind);grind [vm]
 subst hw;refine⟨_,AY o n J u G,by simp[putCells],λi b K=>?_⟩;have F:u.size=m+1:=H.1.trans a;rw[tI,List.getElem?_map,Option.map_eq_some_iff]at K;obtain⟨j,r,rfl⟩:=K;have P:=(List.getElem?_eq_some_iff.1 r).1;have q:i<u.size:=by simpa using P
 rw[putCells,Array.getElem?_mapIdx,Array.getElem?_eq_getElem (by omega)];simp only[Option.map_some,Nat.zero_le,Nat.zero_add,q,and_self,if_true,Nat.sub_zero];congr 1;rw[getElem!_pos _ i q];have e:u[i]=j:=by grind
 rw[e];rfl
end
end Go.Proofs.YtpndiccohnafbaaGreatDoor.Dh
namespace Go.Proofs.YtpndiccohnafbaaGreatDoor.Dh
open Go.RowKit Mem Foot Dm
def pf (a c:Nat):List Nat->List Nat
 | []=>[a]
 | b ::bs=>a ::c ::b ::bs
theorem iA (b c:Nat)(a:List Nat):b∈pf b c a:=by
 cases a<;>simp[pf]
variable {a c d:Nat}{e:List Nat}{f h:N}{i:Dk}{j:Int}
theorem vx (h:d∈e):d∈pf a c e:=by
 cases e with
 | nil=>cases h
 | cons b l=>exact Za _ (Za _ h)
theorem Ip (h:e≠[]):c∈pf a c e:=by
 cases e with
 | nil=>exact absurd rfl h
 | cons b l=>exact Za _ (List.mem_cons_self ..)
theorem PD.owns (h:PD f a i c d e):f.ownsRow 0 102 1 (sl c e.length d) e.length (fD e):=by
 refine⟨by simp[fD],?_⟩;by_cases hz:e.length=0
 .exact Wb ⟨by rw[sl,if_pos hz],hz⟩
 have b:e≠[]:=λj=>hz (by rw[j];rfl)
 obtain⟨g,k,l,m,n⟩:=h.arr b;refine Or.inr ⟨c,d,g,by rw[sl,if_neg hz],Nat.zero_le _,k,m,h.zF b,by rw[l,Nat.mul_one],?_⟩;refine List.ext_getElem? λo=>?_
 grind [fD]
theorem PD.drewN (h:PD f a i c d e)(n:Nat):PD (f.drewN n) a i c d e:=⟨h.head,h.len,h.arr,h.seg,h.apart,h.zF⟩
theorem Cr {v b:Value}{c:List Value}(h:f.ownsRow 0 102 1 v a c)(e:v=b)(o p:Obj):((f.alloc o).alloc p).ownsRow 0 102 1 b a c:=by
 subst e;exact(h.alloc o).alloc p
theorem CN (w:N)(x:Nat)(t:TypeId)(b:Nat)(c:b=w.heap.size):Apn.Src (w.alloc (.cells #[ca (Z ⟨x,0,Y⟩)] t)) 1 (Z ⟨b,0,Y⟩) 1 [ca (Z ⟨x,0,Y⟩)]:=by
 subst c;exact⟨rfl,λu a=>by simp at a;subst a;rfl,Or.inr ⟨_,rfl,cell_one_new w _ t⟩⟩
theorem PD.lt (h:PD f a i c d e){b:Nat}(j:b∈e):b<f.heap.size:=by
 obtain⟨g,k⟩:=List.getElem?_of_mem j;obtain⟨s,l⟩:∃s,i.ah[g]? = Z s:=⟨_,Va (by grind [len])⟩;exact(h.seg g b s k l).lt
theorem PD.FH (h:PD f a i c d e)(g:e≠[]):c<f.heap.size:=by
 obtain⟨j,b,_⟩:=h.arr g;exact b.lt
theorem grown {c t v cv d:Nat}    {z u:Option Addr}{p:Obj}(n:PD f c i t v e)(X:sl t e.length v=Q z e.length cv)
  (o2:h.ownsRow 0 102 1 (Q u (e.length+1) d) (e.length+1) (fD e++[ca (Z ⟨f.heap.size,0,Y⟩)]))
  (m:((f.alloc (.cells #[I O j,.string ⟨#[]⟩,I O 0] 104)).alloc p).grownBy h (Value.slice z e.length cv).ownBlock)
  (a0:Apn.Same ((f.alloc (.cells #[I O j,.string ⟨#[]⟩,I O 0] 104)).alloc p) (Q z e.length cv) (Q u (e.length+1) d)):
  ∃l,u=Z ⟨l,0,Y⟩/\h.cell? ⟨c,0,Y⟩=Z (Q z e.length cv)/\h.frozen? ⟨c,0,Y⟩=false/\
   PD (h.setCell ⟨c,0,Y⟩ (Q (Z ⟨l,0,Y⟩) (e.length+1) d)) c ⟨i.ah++[⟨j,⟨#[]⟩,0⟩],i.left,i.room⟩ l d (e++[f.heap.size])/\
   an (pf c t e) f (h.setCell ⟨c,0,Y⟩ (Q (Z ⟨l,0,Y⟩) (e.length+1) d))/\(l∈pf c t e\/f.heap.size<=l):=by
 have J:=n.head.lt;have r:∀k,Z k=(Value.slice z e.length cv).ownBlock->k=t/\e≠[]:=by grind [sl,Value.ownBlock]
 have a4:((f.alloc (.cells #[I O j,.string ⟨#[]⟩,I O 0] 104)).alloc p).heap.size=f.heap.size+2:=by simp
 have q:∀k,k<f.heap.size->¬(k=t/\e≠[])->h.heap[k]? = f.heap[k]? :=by
  intro k U W;rw[m.block k (by omega) (λa=>W (r k a)),Yb _ _ _ (by simp;omega),Yb _ _ _ U]
 have A:af h f.heap.size 104 (od ⟨j,⟨#[]⟩,0⟩):=by
  unfold af;rw[m.block f.heap.size (by omega) (λa=>by
   have:=r _ a;have:=n.FH this.2;omega),Yb _ _ _ (by simp)]
  exact af.new f 104 _
 have x:af h c 62 #[sl t e.length v,I O i.left,I O i.room]:=by
  unfold af;rw[q c J (λa=>n.vr a.1.symm)];exact n.head
 have H:=n.apart;rw[eb,eb]at H;rcases o2.2 with ⟨_,h0⟩|⟨l,a1,F,hv,_,hg,V,K,M,htk⟩
 .omega
 injection hv with G e2 e3;subst G;subst e3;have P:(l=t/\e≠[])\/f.heap.size+2<=l:=by
  rcases a0 with a|⟨g,a,a3⟩
  .exact Wb (r l a)
  grind [Value.ownBlock]
 have R:l≠c:=by grind
 have hP:fD e++[ca (Z ⟨f.heap.size,0,Y⟩)]=fD (e++[f.heap.size]):=by grind [fD]
 have o:bS c h (h.setCell ⟨c,0,Y⟩ (Q (Z ⟨l,0,Y⟩) (e.length+1) d)):=(bS.refl c h).set _ _;have hlen:=n.len;refine⟨l,rfl,?_,x.frozen 0,⟨?_,by simp[n.len],λ_=>⟨F,af.but (w:=h) hg o R,by simpa using M,by simpa using V,λB b y=>?_⟩,λB b s y E=>?_,?_,λ_=>K⟩,?_,?_⟩
 .rw[<-X];exact x.Ri 0
 .have:=x.set 0 (Q (Z ⟨l,0,Y⟩) (e.length+1) d);grind [sl]
 .have h1:(fD (e++[f.heap.size]))[B]? = Z (ca (Z ⟨b,0,Y⟩)):=by rw[fD,List.getElem?_map,y];rfl
  grind
 .by_cases T:B<e.length
  .rw[Xa T]at y;rw[Xa (by omega)]at E;have hS:=n.seg B b s y E;have D:=n.mS (Ua y);refine af.but (w:=h) ?_ o D.1;unfold af;rw[q b hS.lt (λa=>D.2 a.1)];exact hS
  have S:B=e.length:=by grind
  subst S;rw[Xb (Nat.le_refl _),Nat.sub_self]at y;rw[Xb (by omega),show e.length - i.ah.length=0 by omega]at E;cases y;cases E;exact A.but o (by omega)
 .have a2:∀b∈e,b<f.heap.size:=λb D=>n.lt D
  rw[eb,eb];refine⟨λa=>?_,λa=>?_,?_⟩
  .grind
  .rcases Zb.1 a with a|a
   .grind
   rw[List.mem_singleton]at a;rcases P with ⟨G,e2⟩|G
   .have:=n.FH e2;omega
   omega
  grind
 .have ho:an (pf c t e) f h:=⟨m.os,m.tape,m.output,by have:=m.size;omega,λk U hF=>q k U (λa=>hF (by rw[a.1];exact Ip a.2))⟩;exact ho.set (iA ..) _ _
 grind [Ip]
theorem xX {B p o m:Nat}  {sg:List bM}{b:Int}(n:PD f B ⟨sg,j,b⟩ p o e)(g:e.length=m+1)(F:sg.length=m+1){d:List (Fin (m+1))}(E:d.Perm (Ya id))(k:bS p f h){a l:Array Value}
  (U:af f p 102 l) (x:af h p 102 a) (A:a.size=l.size) (q:∀(i b:Nat),(tI e g d)[i]? = Z b->a[i]? = Z (Uc (Z ⟨b,0,Y⟩))):PD h B ⟨at_ sg F d,j,b⟩ p o (tI e g d):=by
 have t:e≠[]:=λu=>by rw[u]at g;simp at g
 have D:d.length=m+1:=by rw[E.length_eq,List.length_ofFn]
 have v:(tI e g d).length=m+1:=by rw[tI,List.length_map,D]
 have z:(tI e g d).Perm e:=by
  have:=E.map λi:Fin (m+1)=>e[i.1]'(by rw[g];exact i.2)
  have u:=Ks e g;grind [tI]
 obtain⟨G,R,H,S,T⟩:=n.arr t;have w:G=l:=by grind [af]
 subst w;have K:=n.apart;refine⟨?_,by rw[v,at_,List.length_map,D],λ_=>⟨a,x,by rw[A,H],by omega,q⟩,λi c s M J=>?_,?_,λ_=>n.zF t⟩
 .have:=n.head.but k (λu=>n.vr u.symm);grind
 .obtain⟨P,r,y⟩:=FI (hl:=F) M J;exact(n.seg P c s r y).but k (n.mS (Ua r)).2
 grind
theorem qw { i:N}  (b:an e f h)(c:bS a h i)(l:a∈e\/f.heap.size<=a):an e f i:=
 ⟨c.os.trans b.os,c.tape.trans b.tape,c.output.trans b.output,qb b.size c.size,λk g d=>(c.block k (Nat.lt_of_lt_of_le g b.size) (λj=>by grind)).trans (b.block k g d)⟩
theorem OB {l:List bM}(d:l.Pairwise λa b=>a.num<b.num)(c:∀s∈l,s.num≠j):∃k:Nat,(bJ j l)[k]? = Z ⟨j,⟨#[]⟩,0⟩:=
 ⟨(l.filter λs=>decide (s.num<j)).length,by grind [mN]⟩
theorem uf {m g:Nat}  {l:List bM}  (h:(e++[g]).length=m+1)(v:(l++[(⟨j,⟨#[]⟩,0⟩:bM)]).length=m+1)(u:l.Pairwise λa b=>a.num<b.num)(f:∀s∈l,s.num≠j){d:List (Fin (m+1))}(t:d.Perm (Ya id))(q:at_ (l++[⟨j,⟨#[]⟩,0⟩]) v d=bJ j l):
  ∃k:Nat,(bJ j l)[k]? = Z ⟨j,⟨#[]⟩,0⟩/\(tI (e++[g]) h d)[k]? = Z g:=by
 obtain⟨k,i⟩:=OB u f;refine⟨k,i,?_⟩;have y:d.length=m+1:=by rw[t.length_eq,List.length_ofFn]
 have n:k<(tI (e++[g]) h d).length:=by grind [at_,tI]
 obtain⟨c,p⟩:∃c,(tI (e++[g]) h d)[k]? = Z c:=⟨_,Va n⟩;rw[<-q]at i;obtain⟨w,x,o⟩:=FI p i;by_cases r:w<l.length
 .rw[Xa r]at o;exact absurd rfl (f _ (Ua o))
 grind
theorem BF {m:Nat}  (b:e.length=m+1){d:List (Fin (m+1))}  (h:a∈tI e b d):a∈e:=by grind [tI]
theorem gg {d g f B:Nat}{a:List Nat}(h:g∈pf d f e\/B<=g)(i:∀b∈a,b∈pf d f e\/B<=b):∀b∈pf d g a,b∈pf d f e\/B<=b:=by
 intro b j;cases a with
 | nil=>grind [iA,pf]
 | cons c l=>grind [iA,pf]
set_option maxRecDepth 10000 in
theorem append (q D r:Nat)(a:List Nat)(S:Dk)(n:Int)(t:ByteArray)(w:N)(hP:PD w q S D r a)(hG:Dm.Good S)(hl:a.length<=1000000000)(hu:Dm.used S.ah+t.size<=1000000000000):
  Calls Wa 56 #[ca (Z ⟨q,0,Y⟩),I O n,.string t] w λe w'=>e=.returned (I O (aB S n t).2)/\an (pf q D a) w w'/\∃d2 d4 d3,PD w' q (aB S n t).1 d2 d4 d3/\∀b∈pf q d2 d3,b∈pf q D a\/w.heap.size<=b:=by
 have HP:=aa hP;have V:=aa hG;clear hP hG;go_in;go_wp2_with fail;refine(operation q S _ w HP.head V.left).mono ?_;rintro e J ⟨rfl,P,U⟩;by_cases H0:S.left=0
 .have R:decide (S.left=0)=true:=decide_eq_true H0;have K:Hid (aB S n t=(S,8)):=if_pos H0;rw[if_pos H0]at U;have M:=aa (HP.fQ P U);have HB:=aa P;clear P U;rw[R];go_wp2_with fail;go_ret;rw[K.out];exact⟨rfl,an.cV HB (iA ..),D,r,a,M,λ_ h=>Wb h⟩
 have R:decide (S.left=0)=false:=decide_eq_false H0;rw[qz H0]at U;have M:=aa (HP.fQ P U);have HB:=aa P;change Hid _ at H0;clear P U;rw[R];by_cases a9:n<0
 .have K:=aa (show aB S n t=(op S,9) by rw[aB,if_neg H0.out,if_pos a9]);go_wp2_with fail;go_ret;rw[K.out];exact⟨rfl,an.cV HB (iA ..),D,r,a,M,λ_ h=>Wb h⟩
 obtain⟨c0,c1,c2,f0,f1,f2⟩:=eA M.head;have d7:Dm.used S.ah<=1000000000000:=by omega
 by_cases c7:0<=S.room
 .by_cases d6:S.room<(Dm.used S.ah:Int)+(t.size:Int)
  .have K:=aa (show aB S n t=(op S,7) by rw[aB,if_neg H0.out,if_neg a9,if_pos ⟨c7,d6⟩]);have c3:=aa (show ∀m,Calls Wa 86 #[ca (Z ⟨q,0,Y⟩)] (J.drewN m) λe w'=>e=.returned (I O (Dm.used S.ah:Int))/\w'=J.drewN m from λm=>(used q D r a (op S) (J.drewN m) (M.drewN m) hl d7).mono λe w' ⟨h1,h2⟩=>⟨h2,h1.symm⟩);go_wp2_with fail;go_quiet (first|(go_at_call 86;refine Calls.quiet_of_same (c3.out _)));go_wp2_with fail;go_ret;rw[K.out];exact⟨rfl,(an.cV HB (iA ..)).drewN _,D,r,a,M.drewN _,λ_ h=>Wb h⟩
  have HD:=aa (show aB S n t=({op S with ah:=bT n (λs=>{s with text:=s.text++t}) (bJ n S.ah)},0) by rw[aB,if_neg H0.out,if_neg a9,if_neg (λh=>d6 h.2)]);have c3:=aa (show ∀m,Calls Wa 86 #[ca (Z ⟨q,0,Y⟩)] (J.drewN m) λe w'=>e=.returned (I O (Dm.used S.ah:Int))/\w'=J.drewN m from λm=>(used q D r a (op S) (J.drewN m) (M.drewN m) hl d7).mono λe w' ⟨h1,h2⟩=>⟨h2,h1.symm⟩);go_wp2_with fail;go_quiet (first|(go_at_call 86;refine Calls.quiet_of_same (c3.out _)));go_wp2_with fail;refine(find q D r a (op S) n (J.drewN nq) (M.drewN nq) hl).mono ?_;rintro e u ⟨rfl,rfl⟩;have HO:=aa ((an.cV HB (iA q D a)).drewN nq);have E:=aa (M.drewN nq);have x:=aa HB.size;clear c0 c1 c2 f0 f1 f2;rw[show J.heap.size=(J.drewN nq).heap.size from rfl]at x;generalize J.drewN nq=u at *;clear M HB;obtain⟨c0,c1,c2,f0,f1,f2⟩:=eA E.head;cases T:place n S.ah with
  | some k=>
   obtain⟨s,hs,hn⟩:=gA T;obtain⟨b,f⟩:∃b,a[k]? = Z b:=⟨_,Va (by rw[HP.len];grind)⟩;have K:=aa (show aB S n t=(⟨S.ah.set k {s with text:=s.text++t},(op S).left,S.room⟩,0) by rw[HD.out,ix V.bQ hs hn,fG V.bQ hs hn];rfl);rw[ph (S:=op S) T f];have hS:=E.seg k b s f hs;obtain⟨b0,b1,b2,g0,g1,g2⟩:=eA hS;have hst:s.text.size+t.size<=1000000000000:=by
    have:=gn (Ua hs);omega
   have HS:=aa hS;change Hid _ at f;clear T hs hn hS;go_wp2_with fail;go_ret;rw[K.out];exact⟨rfl,HO.set (vx (Ua f)) _ _,D,r,a,E.eP f ((bS.refl _ _).set _ _) (HS.set 1 _),λ_ h=>Wb h⟩
  | none=>
   rw[jc (S:=op S) T];have X:=aa (kB T);clear T;obtain⟨ao,cv,H⟩:=Own.shape E.owns;have b7:=aa E.owns;have a0:=aa H;have d9:=E.head.lt;obtain⟨i0,hi,c8,c9,d0⟩:=info_parts GI;rw[H]at c0;clear H;go_wp2_with (at_builtin;refine Apn.gD _ rfl _ _ 60 rfl 102 i0 (ca Y) 1 8 Tryz.underlying60 hi c8 c9 d0 rfl (by decide) _ _ (fD a) rfl (Cr b7 a0 _ _) _ 1 1 [ca (Z ⟨u.heap.size,0,Y⟩)] rfl (CN _ _ _ _ (by simp)) (by unfold maxLen;omega) (by omega) ?_;intro v2 w3 o2 a1 a8 d1;obtain⟨d8,F,rfl⟩:=Own.shape o2;obtain⟨ga,rfl,c4,c6,a7,a6,a4⟩:=grown E a0 o2 a1 a8;have v:=aa a7;have b5:=aa a6;have W:=aa a4;clear a7 a6 a4 o2 a1 a8 d1)
   clear c0 c1 c2 f0 f1 f2 c4 c6;have j:(a++[u.heap.size]).length=a.length+1:=by simp
   have p:(S.ah++[(⟨n,⟨#[]⟩,0⟩:bM)]).length=a.length+1:=by simp[HP.len]
   generalize w3.setCell ⟨q,0,Y⟩ (Q (Z ⟨ga,0,Y⟩) (a.length+1) F)=w4 at *;obtain⟨cs,hA,c5,a2,A⟩:=v.arr (by simp);refine(sort ga F (a++[u.heap.size]) (S.ah++[(⟨n,⟨#[]⟩,0⟩:bM)]) j p w4 cs hA (by omega) A (λi b s h1 h2=>(v.seg i b s h1 h2).Ri 0) (λb f=>(v.mS f).2) (by omega)).mono ?_;rintro e w5 ⟨rfl,d,R,a3,c,d5,a5,B,l⟩;have G:at_ (S.ah++[(⟨n,⟨#[]⟩,0⟩:bM)]) p d=bJ n S.ah:=tH p V.bQ X R a3;obtain⟨k,y,z⟩:=uf (g:=u.heap.size) j p V.bQ X R G;have o:=xX v j p R c hA a5 B l;rw[G]at o;obtain⟨b0,b1,b2,g0,g1,g2⟩:=eA (o.seg k u.heap.size _ z y);have b9:=aa (o.seg k u.heap.size _ z y);have b8:=aa o;have b4:=aa z;have b6:=aa (qw (HO.trans (b5.mono λk _ h=>h)) c (W.imp id (qb x)));have K:=aa (show aB S n t=(⟨(bJ n S.ah).set k {(⟨n,⟨#[]⟩,0⟩:bM) with text:=⟨#[]⟩++t},(op S).left,S.room⟩,0) by rw[HD.out,fG (fR V.bQ) y rfl];rfl);have e0:t.size<=1000000000000:=by omega
   have b3:Hid (∀b∈pf q ga (tI (a++[u.heap.size]) j d),b∈pf q D a\/w.heap.size<=b):=gg (W.imp id (qb x)) λb f=>by
    rcases Zb.1 (BF j f) with e|e
    .exact Wb (vx e)
    grind [Hid]
   clear R a3 c a5 B l G y z o hA c5 a2 A;go_wp2_with fail;go_ret;rw[K.out];have f:bS u.heap.size w5 (w5.setCell ⟨u.heap.size,1,Y⟩ (.string (⟨#[]⟩++t))):=(bS.refl _ _).set _ _;exact⟨rfl,qw b6 f (Or.inr x),ga,F,_,b8.eP b4 f (b9.set 1 _),b3⟩
 have HD:=aa (show aB S n t=({op S with ah:=bT n (λs=>{s with text:=s.text++t}) (bJ n S.ah)},0) by rw[aB,if_neg H0.out,if_neg a9,if_neg (λh=>c7 h.1)]);have e1:decide (0<=S.room)=false:=decide_eq_false c7;go_wp2_with fail;go_quiet (fail);go_wp2_with fail;refine(find q D r a (op S) n (J.drewN nq) (M.drewN nq) hl).mono ?_;rintro e u ⟨rfl,rfl⟩;have HO:=aa ((an.cV HB (iA q D a)).drewN nq);have E:=aa (M.drewN nq);have x:=aa HB.size;clear c0 c1 c2 f0 f1 f2;rw[show J.heap.size=(J.drewN nq).heap.size from rfl]at x;generalize J.drewN nq=u at *;clear M HB;obtain⟨c0,c1,c2,f0,f1,f2⟩:=eA E.head;cases T:place n S.ah with
 | some k=>
  obtain⟨s,hs,hn⟩:=gA T;obtain⟨b,f⟩:∃b,a[k]? = Z b:=⟨_,Va (by rw[HP.len];grind)⟩;have K:=aa (show aB S n t=(⟨S.ah.set k {s with text:=s.text++t},(op S).left,S.room⟩,0) by rw[HD.out,ix V.bQ hs hn,fG V.bQ hs hn];rfl);rw[ph (S:=op S) T f];have hS:=E.seg k b s f hs;obtain⟨b0,b1,b2,g0,g1,g2⟩:=eA hS;have hst:s.text.size+t.size<=1000000000000:=by
   have:=gn (Ua hs);omega
  have HS:=aa hS;change Hid _ at f;clear T hs hn hS;go_wp2_with fail;go_ret;rw[K.out];exact⟨rfl,HO.set (vx (Ua f)) _ _,D,r,a,E.eP f ((bS.refl _ _).set _ _) (HS.set 1 _),λ_ h=>Wb h⟩
 | none=>
  rw[jc (S:=op S) T];have X:=aa (kB T);clear T;obtain⟨ao,cv,H⟩:=Own.shape E.owns;have b7:=aa E.owns;have a0:=aa H;have d9:=E.head.lt;obtain⟨i0,hi,c8,c9,d0⟩:=info_parts GI;rw[H]at c0;clear H;go_wp2_with (at_builtin;refine Apn.gD _ rfl _ _ 60 rfl 102 i0 (ca Y) 1 8 Tryz.underlying60 hi c8 c9 d0 rfl (by decide) _ _ (fD a) rfl (Cr b7 a0 _ _) _ 1 1 [ca (Z ⟨u.heap.size,0,Y⟩)] rfl (CN _ _ _ _ (by simp)) (by unfold maxLen;omega) (by omega) ?_;intro v2 w3 o2 a1 a8 d1;obtain⟨d8,F,rfl⟩:=Own.shape o2;obtain⟨ga,rfl,c4,c6,a7,a6,a4⟩:=grown E a0 o2 a1 a8;have v:=aa a7;have b5:=aa a6;have W:=aa a4;clear a7 a6 a4 o2 a1 a8 d1)
  clear c0 c1 c2 f0 f1 f2 c4 c6;have j:(a++[u.heap.size]).length=a.length+1:=by simp
  have p:(S.ah++[(⟨n,⟨#[]⟩,0⟩:bM)]).length=a.length+1:=by simp[HP.len]
  generalize w3.setCell ⟨q,0,Y⟩ (Q (Z ⟨ga,0,Y⟩) (a.length+1) F)=w4 at *;obtain⟨cs,hA,c5,a2,A⟩:=v.arr (by simp);refine(sort ga F (a++[u.heap.size]) (S.ah++[(⟨n,⟨#[]⟩,0⟩:bM)]) j p w4 cs hA (by omega) A (λi b s h1 h2=>(v.seg i b s h1 h2).Ri 0) (λb f=>(v.mS f).2) (by omega)).mono ?_;rintro e w5 ⟨rfl,d,R,a3,c,d5,a5,B,l⟩;have G:at_ (S.ah++[(⟨n,⟨#[]⟩,0⟩:bM)]) p d=bJ n S.ah:=tH p V.bQ X R a3;obtain⟨k,y,z⟩:=uf (g:=u.heap.size) j p V.bQ X R G;have o:=xX v j p R c hA a5 B l;rw[G]at o;obtain⟨b0,b1,b2,g0,g1,g2⟩:=eA (o.seg k u.heap.size _ z y);have b9:=aa (o.seg k u.heap.size _ z y);have b8:=aa o;have b4:=aa z;have b6:=aa (qw (HO.trans (b5.mono λk _ h=>h)) c (W.imp id (qb x)));have K:=aa (show aB S n t=(⟨(bJ n S.ah).set k {(⟨n,⟨#[]⟩,0⟩:bM) with text:=⟨#[]⟩++t},(op S).left,S.room⟩,0) by rw[HD.out,fG (fR V.bQ) y rfl];rfl);have e0:t.size<=1000000000000:=by omega
  have b3:Hid (∀b∈pf q ga (tI (a++[u.heap.size]) j d),b∈pf q D a\/w.heap.size<=b):=gg (W.imp id (qb x)) λb f=>by
   rcases Zb.1 (BF j f) with e|e
   .exact Wb (vx e)
   grind [Hid]
  clear R a3 c a5 B l G y z o hA c5 a2 A;go_wp2_with fail;go_ret;rw[K.out];have f:bS u.heap.size w5 (w5.setCell ⟨u.heap.size,1,Y⟩ (.string (⟨#[]⟩++t))):=(bS.refl _ _).set _ _;exact⟨rfl,qw b6 f (Or.inr x),ga,F,_,b8.eP b4 f (b9.set 1 _),b3⟩
end Go.Proofs.YtpndiccohnafbaaGreatDoor.Dh
