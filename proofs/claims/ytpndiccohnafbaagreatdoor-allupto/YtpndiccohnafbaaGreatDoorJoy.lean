/- Going backward through a row of numbers; segments deleted one by one. -/
import Derived.Test.YtpndiccohnafbaaGreatDoorJcy
import Derived.RangeFuncBound
import Derived.RangeFuncCalls
import Derived.RangeFuncLeaves
import Derived.RangeFuncNested
import Derived.RangeFuncFrom
import Derived.LoopNIn
import Derived.TacticsInMore
set_option maxHeartbeats 9000000
open List renaming mem_cons_self->ca,mem_cons_of_mem->Ua,mem_flatMap->Wa,mem_filter->Xa,mem_cons->Ya
open Go renaming World->N,Value->C
open Or renaming inl->Va
open Go.Proofs.Tryz renaming prog->Za
namespace Go.Proofs.YtpndiccohnafbaaGreatDoor.Jr
open Go.RowKit Go.Maps Mem Foot Bytes Im Wm Hi Plainw Cq Dm Dh
def bh (S:Dk):List Int->Dk×Int
 | []=>(S,0)
 | n ::l=>if (aF S n).2≠0 then aF S n else bh (aF S n).1 l
theorem iy (S:Dk)(a b:List Int):bh S (a++b)=if (bh S a).2≠0 then bh S a else bh (bh S a).1 b:=by
 induction a generalizing S with
 | nil=>simp[bh]
 | cons n a c=>grind [bh]
theorem tU (S:Dk)(n:Int):bh S [n]=aF S n:=by grind [bh]
variable {a b c d e:Nat}{f g:N}{h:List Nat}{i:C}{j:my}{k:Array C}{m:Dk}{o:Jn}{p:TypeId}
theorem oQ (h:Fit m a b)(l:List Int):Fit (bh m l).1 a b:=by
 induction l generalizing m with
 | nil=>exact h
 | cons n l c=>grind [fit_delete,bh]
def fY (J:Jn)(S:Dk)(a:Int):Jn×Dk×Int:=
 if (bh S ((aS a J.ae).getD []).reverse).2≠0 then (J,(bh S ((aS a J.ae).getD []).reverse).1,(bh S ((aS a J.ae).getD []).reverse).2)
 else ({J with ae:=del a J.ae},(bh S ((aS a J.ae).getD []).reverse).1,0)
def aO (J:Jn)(S:Dk)(a:Int):Jn×Dk×Int:=
 if a=J.al then (if (bR J S).2.2≠0 then bR J S else fY (bR J S).1 (bR J S).2.1 a) else fY J S a
abbrev Yd:={x:Int×Int // -9223372036854775808<=x.2/\x.2<=9223372036854775807}
def cI (l:List Yd):List Int:=l.map λx=>x.1.2
theorem lL (a b:List Yd):cI (a++b)=cI a++cI b:=by simp[cI]
def KB (b:List Nat)(W a:N):Prop:=∀k∈b,a.heap[k]? = W.heap[k]?
theorem KB.trans {A B a:N}(c:KB h A B)(k:KB h B a):KB h A a:=λi b=>(k i b).trans (c i b)
theorem Mc (b:af f a p k)(d:KB h f g)(c:a∈h):af g a p k:=(d a c).trans b
theorem OR {m:List C}(l:f.ownsRow a p b i c m)(t:KB h f g)(r:∀k∈i.ownBlock.toList,k∈h):g.ownsRow a p b i c m:=by
 refine⟨l.1,?_⟩;rcases l.2 with n|⟨j,d,e,rfl,o,s,q⟩
 .exact Va n
 exact Or.inr ⟨j,d,e,rfl,o,(t j (r j (by simp[Value.ownBlock]))).trans s,q⟩
theorem Nb (a:Option Addr)(n c:Nat)(w:N):Calls Za 102 #[.slice a n c] w λe b=>e=.returned (.func (.func 130) #[] #[.pointer (some ⟨w.heap.size,0,none⟩)])/\b=w.alloc (.cells #[.slice a n c] 35):=by
 go_in;go_wp2_with fail;go_ret;exact⟨rfl,rfl⟩
set_option maxRecDepth 10000 in
theorem BE (m:Nat)(hm:1<=m)(u:Nat)(z:C)(l:List Int)(w:N)(d:af w u 35 #[z])(i:w.ownsRow 0 3 1 z l.length (l.map (Value.int .i64)))(S:∀x∈l,-9223372036854775808<=x/\x<=9223372036854775807)(hl:l.length<=1000000000):
  SeqStopsK Fence.wide m Za 130 #[.pointer (some ⟨u,0,none⟩)] (λx:Yd=>#[.int .i64 x.1.1,.int .i64 x.1.2]) (KB (u ::z.ownBlock.toList)) (λxs=>cI xs=l.reverse) (λb=>∃f,cI b++f=l.reverse) l.length w:=by
 intro lp J Jx W G hJ F T M;have n:=aa (Mem.af.below d G d.lt);have q:=aa (aE i G);change Hid _ at T M S;clear d i G hJ F;obtain⟨oa,oc,j⟩:=ak q;have v:=n.Ri 0;rw[j]at v;have a1:=aa j;have K:IntKind.i64.wrap ((l.length:Int) - 1)=(l.length:Int) - 1:=IntWalk.i64_in _ (by omega);clear j;refine callsIn_of_wp Tryz.func130 rfl trivial ?_ rfl;simp only[Tryz.ntmps130,List.size_toArray,List.length_cons,List.length_nil,Nat.reduceAdd,Nat.reduceSub,Array.replicate_succ,Array.replicate_zero,List.push_toArray,List.append_toArray,List.nil_append,List.cons_append];gi_wp2_with fail;clear K v;gi_loopw [3] (λa wr=>∃(b:List Yd) (k:Nat),a=.int .i64 ((k:Int) - 1)/\Hid (cI b=(l.drop k).reverse)/\k+b.length=l.length/\Hid (J b wr)/\Hid (KB (u ::z.ownBlock.toList) W wr)) (λa _=>(intOf a+1).toNat)
 case atStart=>exact⟨[],l.length,rfl,by simp[cI,Hid],by simp,M,λ_ _=>rfl⟩
 case round=>
  obtain⟨b,k,rfl,R,o,P,A⟩:=hrel;cases k with
  | zero=>
   gi_wp2_with fail;go_end0;exact⟨⟨_,rfl⟩,.inl ⟨b,by rw[R.out];simp,P⟩⟩
  | succ k=>
   have s:((k+1:Nat):Int) - 1=(k:Int):=by omega
   rw[s];have y:l[k]? = some (l[k]'(by omega)):=List.getElem?_eq_getElem _;generalize t:l[k]'(by omega)=x at y;have h:=S.out x (List.mem_of_getElem? y);obtain⟨g,a2,X,V,hg,H⟩:=eO (OR q A (λk hk=>Ua _ hk)) y;have v:=(Mc n A (ca ..)).Ri 0;rw[X]at v;have a4:(k:Int)<(l.length:Int):=by omega
   have a3:¬(k:Int)<0:=by omega
   obtain⟨fn,a0,assign,body,hy,U⟩:=T.out b ⟨((k:Int),x),h⟩ wr P (by omega);have E:=aa U;have p:=aa (show cI (b++[(⟨((k:Int),x),h⟩:Yd)])=(l.drop k).reverse by
    rw[lL,R.out,List.drop_eq_getElem_cons (by omega:k<l.length),List.reverse_cons,t];rfl)
   simp only at hy;change Hid _ at o;have D:=aa (show ∃f,cI (b++[(⟨((k:Int),x),h⟩:Yd)])++f=l.reverse from⟨(l.take k).reverse,by
    rw[p.out,<-List.reverse_append,List.take_append_drop]⟩)
   clear U s t X y;gi_wp2_with fail;refine E.mono ?_;rintro e W4 (⟨rfl,c,r⟩|⟨rfl,c⟩)
   .change Hid _ at c;have B:=aa (A.trans r);clear r;gi_wp2_with fail;go_roundw
    case rel=>exact⟨b++[⟨((k:Int),x),h⟩],k,rfl,p,by have:=o.out;simp;omega,c,B⟩
    case measure=>simp only[intOf];omega
   change Hid _ at c;gi_wp2_with fail;refine bodyPost_ret (results_none rfl _ _ _) rfl ?_;exact⟨⟨_,rfl⟩,.inr ⟨_,D,c⟩⟩
theorem fF {P:Program}{fn:Func}{p:Tmp}{ty:TypeId}(h:fn.results=#[.cell p ty])(b:Array C)(w:N)(a:Addr)(v:C)(e:b.getD p undef=.pointer (some a))(d:(loadVar ty a).run P w=.ok v w):(results fn b).run P w=.ok v w:=by
 have c:b[p]?.getD undef=.pointer (some a):=by simpa using e
 simp[results,h,c,asAddr,d]
theorem lH (h:f.cell? ⟨a,0,none⟩=some i):(loadVar 97 ⟨a,0,none⟩).run Za f=.ok i f:=by
 simp[loadVar,h]
theorem JW.LF (l:JW f a b c o j i)(n:PD f b m d e h)(p:an (pf b d h) f g):JW g a b c o j i:=
 ⟨l.ja.off n p,l.sm.off p (λs=>by
  obtain⟨t,r,q⟩:=fx n s;exact dD l.sm.own q rfl) (λk u=>by
  obtain⟨r,q⟩:=l.sm.il u;grind [PD.not]),l.eq,l.apart⟩
theorem JW.QE {r:Nat}   (n:JW f a b c o j i)(x:PD f b m e r h)(y:af f d 97 k)(w:an (d ::pf b e h) f g):JW g a b c o j i:=by
 have z:∀{p:Nat} {t:TypeId} {l:Array C},af f p t l->t≠97->t≠62->t≠102->t≠104->p∉d ::pf b e h:=λ{p t l} q A B D E v=>by grind [aA,PD.not]
 refine⟨n.ja.OH w (z n.ja.head (by decide) (by decide) (by decide) (by decide)) λp u=>?_,n.sm.off w (λv=>?_) λp u=>?_,n.eq,n.apart⟩
 .obtain⟨l,q⟩:=au n.ja.aN u;grind
 .rcases Ya.1 v with s|s
  .exact dD n.sm.own y s
  obtain⟨t,l,q⟩:=fx x s;exact dD n.sm.own q rfl
 obtain⟨l,q⟩:=n.sm.il u;grind
theorem uT {k:Int}   (h:a∈gh (del k j)):a∈gh j:=by
 obtain⟨p,c,b⟩:=Wa.1 h;exact Wa.2 ⟨p,(Xa.1 c).1,b⟩
theorem JW.less (h:JW f a b c o j i)(r:an [c] f g){l:Int}  (v:g.ownsMap Za 3 (kg Em) c d (sD (del l j))):JW g a b c {o with ae:=del l o.ae} (del l j) i:=by
 have s:∀{k:Nat} {t:TypeId} {q:Array C},af f k t q->k∉[c]:=λn e=>dD h.sm.own n (List.mem_singleton.1 e).symm
 refine⟨⟨Foot.af.off h.ja.head r (s h.ja.head),aq h.ja.aN r λk m=>?_⟩,⟨by grind [jR,gK,sD],h.sm.up.del _,λp u=>aq (h.sm.rows p (Xa.1 u).1) r λk m=>?_⟩,by show del l o.ae=(del l j).map sl;rw[Jh,h.eq];rfl,λk m=>h.apart k (uT m)⟩
 .obtain⟨q,n⟩:=au h.ja.aN m;exact s n
 obtain⟨q,n⟩:=au (h.sm.rows p (Xa.1 u).1) m;exact s n
theorem AI {f:List Nat}(j:∀g∈f,g∈h)(i:c=b\/d<=c):∀g∈pf a c f,g∈pf a b h\/d<=g:=by
 intro g k;cases f with
 | nil=>exact Va (gg (List.mem_singleton.1 k▸ca ..))
 | cons x r=>
  cases h with
  | nil=>exact absurd (j x (ca ..)) (by simp)
  | cons y l=>
   rcases Ya.1 k with e|e
   .exact Va (e▸ca ..)
   rcases Ya.1 e with e|e
   .rcases i with i|i
    .exact Va (by rw[e,i];exact Ua _ (ca ..))
    omega
   exact Va (Ua _ (Ua _ (j g e)))
def rowOf (a:Int)(b:my):Value:=Im.elemOf (λp:C×List Int=>p.1) (.slice none 0 0) a b
theorem SM.row (h:SM f a j){J:Jn}(i:J.ae=j.map λp=>(p.1,p.2.2))(c:Int):
  f.ownsRow 0 3 1 (rowOf c j) ((aS c J.ae).getD []).length (((aS c J.ae).getD []).map (Value.int .i64))/\(∀k∈(rowOf c j).ownBlock.toList,k∈gh j)/\((aS c J.ae).getD []=[]\/∃p∈J.ae,p.2=(aS c J.ae).getD []):=by
 have d:aS c J.ae=(aS c j).map (·.2):=by
  rw[i];unfold aS;rw[List.find?_map,Option.map_map,Option.map_map];rfl
 unfold rowOf Im.elemOf;cases g:aS c j with
 | none=>
  rw[d,g];exact⟨⟨rfl,Va ⟨rfl,rfl⟩⟩,by simp[Value.ownBlock],Va rfl⟩
 | some b=>
  rw[d,g];have e:(c,b)∈j:=by grind [aS,Option.map_eq_some_iff]
  refine⟨h.rows _ e,λk l=>Wa.2 ⟨_,e,l⟩,Or.inr ⟨(c,b.2),?_,rfl⟩⟩;grind
theorem KeepsOthers.vu (h:Below f.heap.size f g):KeepsOthers f g:=
 ⟨h.size,λk _ a _=>(h.block k (Array.getElem?_eq_some_iff.1 a).1).trans a⟩
def Inv (S:Dk)(f g:Nat)(h:List Nat)(i:N)(e:List Yd)(W:N):Prop:=
 (bh S (cI e)).2=0/\an (pf f g h) i W/\∃a d c,PD W f (bh S (cI e)).1 a d c/\∀b∈pf f a c,b∈pf f g h\/i.heap.size<=b
def Out (S:Dk)(g h:Nat)(i:List Nat)(k:N)(j:Nat)(c:Code)(a:List Yd)(W:N):Prop:=
 c=.ret/\(∃v,W.cell? ⟨j,0,none⟩=some v/\fj W v (bh S (cI a)).2/\(bh S (cI a)).2≠0)/\an (j ::pf g h i) k W/\∃d f e,PD W g (bh S (cI a)).1 d f e/\∀b∈pf g d e,b∈pf g h i\/k.heap.size<=b
theorem cu {a:Option Nat}(h:f.grownBy g a):an a.toList f g:=
 ⟨h.os,h.tape,h.output,h.size,λk c b=>h.block k c (λe=>b (by simp[<-e]))⟩
theorem kG {b:Option Nat}{B:Nat}(h:∀r,b=some r->B<=r/\∃o:Obj,f.heap[r]? = some o/\o.isCells=false)    (d:af f a p k):a∉b.toList:=by
 intro e;obtain⟨_,o,c,g⟩:=h a (by simpa using e);unfold af at d;rw[d]at c;cases c;cases g
theorem Ca (S:Dk)(l i:Nat)(j:List Nat)(h:N):OwnFrom h.heap.size (Inv S l i j h):=by
 intro u W w v ⟨m,n,c,a,d,e,o⟩ q g;have f:=cu q;refine⟨m,aP n (λb p=>Or.inr (g b (by simpa using p)).1) f,c,a,d,cm e f λk r=>?_,o⟩;obtain⟨t,x,s⟩:=fx e r;exact kG g s
theorem Cp (S:Dk)(x u:Nat)(w:List Nat)(o:N)(f:Nat)(m:f<o.heap.size)(c:Code):OwnFrom o.heap.size (Out S x u w o f c):=by
 intro K W M n ⟨B,⟨v,R,y,A⟩,p,g,a,i,q,D⟩ E l;have d:=cu E;refine⟨B,⟨v,?_,?_,A⟩,aP p (λb r=>Or.inr (l b (by simpa using r)).1) d,g,a,i,cm q d λk F=>?_,D⟩
 .have j:f∉n.toList:=λe=>by grind
  have r:=d.block f (Nat.lt_of_lt_of_le m p.size) j;grind [World.cell?]
 .rcases y with h|⟨H,b,z,J,s⟩
  .exact Va h
  exact Or.inr ⟨H,b,z,J,Foot.af.off s d (kG l s)⟩
 obtain⟨t,P,G⟩:=fx q F;exact kG l G
end Go.Proofs.YtpndiccohnafbaaGreatDoor.Jr
