/- A daemon in memory: where all of it lies, and what stays. -/
import Derived.Test.YtpndiccohnafbaaGreatDoorWzy
import Derived.Test.YtpndiccohnafbaaGreatDoorMsy
import Derived.Test.YtpndiccohnafbaaGreatDoorJs
import Derived.Test.YtpndiccohnafbaaGreatDoorCr
set_option maxHeartbeats 9000000
open Go.Value renaming int->I,pointer->ca,string->L,slice->Q,string->Xb,slice->Ze
open Go.IntKind renaming i64->O
open Option renaming some->Z,none->Y
open Go.Ending renaming returned->Ua
open List renaming mem_singleton->Va,mem_cons_of_mem->Wa,mem_cons_self->Xa,mem_cons->Za,mem_append_left->eb,mem_append_right->qb,mem_append->Ub,getElem?_take->Yb,getElem?_eq_some_iff->Xc,getElem?_of_mem->ed,mem_map->vd,length_append->zd,mem_flatMap->Zd,getElem?_eq_getElem->te,take_length->Ue,take_append_drop->Ve,length_filter_le->Xe
open Go renaming World->N,Value->C,results_cell_row->Wc,bodyPost_ret->Yc,Calls->Zc
open Go.Proofs.Tryz renaming prog->Ya,underlying34->Uc,underlying31->Vd
open Or renaming inl->Vb
open Nat renaming le_refl->Wb,le_succ_of_le->Zb,zero_le->ad,le_trans->Xd
open Go.World renaming size_alloc->Vc,ownsRow_nil->Ud
open List.Pairwise renaming filter->Ye
namespace Go.Proofs.YtpndiccohnafbaaGreatDoor
namespace Dd
open Go.RowKit Go.Maps Mem Foot Bytes Im Wm Hi Plainw Cq Dm Dh Jr Wi Sk Hn
structure Dn where
 c:Fin 6->Int
 J:Jn
 S:Dk
 clock:Int
 num:Int
 count:Nat
 W:jh
 due:List Ms
 cD:Bool
structure Pl where
 jb:Nat
 bx:Nat
 mb:Nat
 sv:my
 ov:C
 ba:Nat
 cap:Nat
 bs:List Nat
 p:WI
 rj:Nat
 dr:Nat
 E:List fh
 db:Nat
def Pl.kf (q:Pl):List Nat:=Jr.kf q.jb q.bx q.mb q.sv q.ov q.ba q.bs
def Pl.wf (q:Pl):List Nat:=bj q.p q.E
def df (X:Nat)(q:Pl):List Nat:=X ::q.db ::(q.kf++q.wf)
structure DA (w:N)(X:Nat)(D:Dn)(q:Pl):Prop where
 head:af w X 59 #[I O (D.c 0),I O (D.c 1),I O (D.c 2),I O (D.c 3),I O (D.c 4),I O (D.c 5),ca (Z ⟨q.jb,0,Y⟩),I O D.clock,I O D.num,I O (D.count:Int),ca (Z ⟨q.p.P,0,Y⟩),.map (Z q.db),.bool D.cD]
 jw:JW w q.jb q.bx q.mb D.J q.sv q.ov
 pd:PD w q.bx D.S q.ba q.cap q.bs
 wi:dP w q.p (bP D.c) q.rj q.dr q.E
 win:cE q.rj q.dr q.E=D.W
 due:ic w (Z q.db) D.due
 bQ:kh D.due
 a1:∀k∈q.kf,k∉q.wf
 aX:X∉q.kf/\X∉q.wf/\X≠q.db
 aD:q.db∉q.kf/\q.db∉q.wf
variable {a:Nat}{b:Pl}
theorem mj {w:N}  {b:List Ms}(h:ic w (Z a) b):a<w.heap.size:=by
 obtain⟨n,h⟩:=h;exact h.lt
theorem Cd {w:N}{b g:Nat}{J:Jn}{j:my}{i:C}{S:Dk}{d c:Nat}{f:List Nat}(h:JW w a b g J j i)(l:PD w b S d c f):∀k∈Jr.kf a b g j i d f,k<w.heap.size:=by
 intro k m;rcases Za.1 m with e|e
 .exact e▸h.sm.own.lt
 rcases Ub.1 e with e|e
 .exact su h.sm e
 obtain⟨t,o,n⟩:=iS h.ja l e;exact n.lt
theorem DA.lt {w:N}  {D:Dn}  (h:DA w a D b):∀k∈df a b,k<w.heap.size:=by
 intro k c;rcases Za.1 c with e|e
 .exact e▸h.head.lt
 rcases Za.1 e with e|e
 .exact e▸mj h.due
 rcases Ub.1 e with e|e
 .exact Cd h.jw h.pd k e
 exact h.wi.lt k e
theorem DA.off {F:List Nat}{w w':N}  {D:Dn}  (h:DA w a D b)(d:an F w w')(f:∀k∈df a b,k∉F):DA w' a D b:=by
 have c:∀k∈b.kf,k∉F:=λk c=>f k (Wa _ (Wa _ (eb _ c)))
 have i:∀k∈b.wf,k∉F:=λk c=>f k (Wa _ (Wa _ (qb _ c)))
 exact⟨Foot.af.off h.head d (f a (Xa ..)),h.jw.off (ba:=b.ba) (bs:=b.bs) d c,cm h.pd d λk g=>c k (gq g),h.wi.off d i,h.win,
  h.due.off d (λj e=>by cases e;exact f _ (Wa _ (Xa ..))),h.bQ,h.a1,h.aX,h.aD⟩
theorem DA.keep {w w':N}  {D:Dn}  (h:DA w a D b)(c:Below w.heap.size w w'):DA w' a D b:=
 h.off (F:=[]) (an.ag c) (λ_ _=>by simp)
structure Dq (w w':N)(X:Nat)(D:Dn)(F:List Nat)(B:Nat):Prop where
 ex:∃q,DA w' X D q/\q.bx=B/\∀b∈df X q,b∈F\/w.heap.size<=b
 off:an F w w'
theorem Dq.of {w:N}  {D:Dn}  (h:DA w a D b){w':N}(c:Below w.heap.size w w'):Dq w w' a D (df a b) b.bx:=
 ⟨⟨b,h.keep c,rfl,λ_ c=>Vb c⟩,an.ag c⟩
theorem Dq.trans {w w1 d:N}{X B:Nat}{D:Dn}{F G:List Nat}(c:an F w w1)(a:∀b∈G,b∈F\/w.heap.size<=b)(h:Dq w1 d X D G B):Dq w d X D F B:=by
 obtain⟨q,g,f,i⟩:=h.ex;refine⟨⟨q,g,f,λb j=>?_⟩,aP c a h.off⟩;rcases i b j with e|e
 .exact a b e
 exact Or.inr (Xd c.size e)
theorem DA.GV {w w':N}  {D:Dn}  (h:DA w a D b){n:Jn}{o:Dk}(d:Kq w w' b.jb b.bx b.mb n o b.kf):
  ∃c:Pl,DA w' a {D with J:=n,S:=o} c/\(∀g∈df a c,g∈df a b\/w.heap.size<=g)/\an (df a b) w w'/\c.p=b.p/\c.E=b.E/\c.rj=b.rj/\c.dr=b.dr/\c.db=b.db/\c.jb=b.jb/\c.bx=b.bx/\c.mb=b.mb:=by
 obtain⟨t,s,q,l,r,u,v,x⟩:=d.ex;have m:=h.wi.lt;have f:∀k∈Jr.kf b.jb b.bx b.mb t s q r,k∈b.kf\/w.heap.size<=k:=x;refine⟨{b with sv:=t,ov:=s,ba:=q,cap:=l,bs:=r},⟨Foot.af.off h.head d.off h.aX.1,u,v,h.wi.off d.off (λk j i=>h.a1 k i j),h.win,h.due.off d.off (λg e=>by cases e;exact h.aD.1),h.bQ,λk d j=>?_,⟨λi=>?_,h.aX.2⟩,⟨λi=>?_,h.aD.2⟩⟩,λg y=>?_,d.off.mono λk _ d=>Wa _ (Wa _ (eb _ d)),rfl,rfl,rfl,rfl,rfl,rfl,rfl,rfl⟩
 .rcases f k d with e|e
  .exact h.a1 k e j
  have:=m k j;omega
 .rcases f a i with e|e
  .exact h.aX.1 e
  have:=h.head.lt;omega
 .rcases f b.db i with e|e
  .exact h.aD.1 e
  have:=mj h.due;omega
 rcases Za.1 y with e|e
 .exact Vb (e▸Xa ..)
 rcases Za.1 e with e|e
 .exact Vb (e▸Wa _ (Xa ..))
 rcases Ub.1 e with e|e
 .exact(f g e).imp (λh=>Wa _ (Wa _ (eb _ h))) id
 exact Vb (Wa _ (Wa _ (qb _ e)))
theorem DA.RZ {w w':N}  {D:Dn}  (h:DA w a D b){o:jh}(u:ji w w' b.p (bP D.c) b.E o):
  ∃j:Pl,DA w' a {D with W:=o} j/\(∀f∈df a j,f∈df a b\/w.heap.size<=f)/\an (df a b) w w'/\j.jb=b.jb/\j.db=b.db/\j.bx=b.bx:=by
 obtain⟨v,q,E,r,s,g,l⟩:=u;have m:=Cd h.jw h.pd;refine⟨{b with rj:=v,dr:=q,E:=E},⟨Foot.af.off h.head g h.aX.2.1,h.jw.off (ba:=b.ba) (bs:=b.bs) g (λk d i=>h.a1 k d i),cm h.pd g (λk d i=>h.a1 k (gq d) i),r,s,h.due.off g (λf e=>by cases e;exact h.aD.2),h.bQ,λk d i=>?_,⟨h.aX.1,λn=>?_,h.aX.2.2⟩,⟨h.aD.1,λn=>?_⟩⟩,λf t=>?_,g.mono λk _ d=>Wa _ (Wa _ (qb _ d)),rfl,rfl,rfl⟩
 .rcases l k i with e|e
  .exact h.a1 k d e
  have:=m k d;omega
 .rcases l a n with e|e
  .exact h.aX.2.1 e
  have:=h.head.lt;omega
 .rcases l b.db n with e|e
  .exact h.aD.2 e
  have:=mj h.due;omega
 rcases Za.1 t with e|e
 .exact Vb (e▸Xa ..)
 rcases Za.1 e with e|e
 .exact Vb (e▸Wa _ (Xa ..))
 rcases Ub.1 e with e|e
 .exact Vb (Wa _ (Wa _ (eb _ e)))
 exact(l f e).imp (λh=>Wa _ (Wa _ (qb _ h))) id
theorem DA.put {w w':N}  {D D':Dn}  (h:DA w a D b)(f:an [a] w w')(n:af w' a 59 #[I O (D'.c 0),I O (D'.c 1),I O (D'.c 2),I O (D'.c 3),I O (D'.c 4),I O (D'.c 5),ca (Z ⟨b.jb,0,Y⟩),I O D'.clock,I O D'.num,I O (D'.count:Int),ca (Z ⟨b.p.P,0,Y⟩),.map (Z b.db),.bool D'.cD])
  (g:D'.J=D.J) (i:D'.S=D.S) (j:D'.W=D.W) (m:D'.due=D.due) (l:D'.c=D.c):DA w' a D' b:=by
 have d:∀k∈b.kf,k∉[a]:=λk d e=>h.aX.1 (Va.1 e▸d)
 have q:∀k∈b.wf,k∉[a]:=λk d e=>h.aX.2.1 (Va.1 e▸d)
 refine⟨n,?_,?_,?_,?_,?_,?_,h.a1,h.aX,h.aD⟩
 .rw[g];exact h.jw.off (ba:=b.ba) (bs:=b.bs) f d
 .rw[i];exact cm h.pd f λk o=>d k (gq o)
 .rw[l];exact h.wi.off f q
 .rw[j];exact h.win
 .rw[m];exact h.due.off f (λr e=>by cases e;exact λe=>h.aX.2.2 (Va.1 e).symm)
 grind [bQ]
end Dd
namespace Jr
open Bytes Im Dm
structure bL (J:Jn)(S:Dk):Prop where
 left:S.left = -1
 room:S.room = -1
 aJ:Dm.Good S
 perm:(S.ah.map (·.num)).Perm (J.ae.flatMap (·.2)++J.aN)
 below:∀n∈S.ah.map (·.num),n<J.next
 mE:0<=J.next
 last:J.aN≠[]->∃s∈S.ah,s.num=aC J/\s.text.size=J.synced+J.bU.size
variable {a:Dk}{b:Jn}{c:bM}{d:Int}{e:List bM}
theorem qy (h:a.left = -1):Dm.op a=a:=by
 cases a;simp only at h;subst h;rfl
theorem mo (d:e.Pairwise λa b=>a.num<b.num)  (f:c∈e):∃i,place c.num e=Z i/\e[i]? = Z c:=by grind [lN,iH,ed]
theorem pj (d:a.left = -1)(b:Dm.Good a)  (e:c∈a.ah):dt a c.num=(c.text,0):=by grind [mo,Good.bQ,dt]
theorem gP (b:a.left = -1)(d:a.room = -1){n:Int}(c:0<=n)(t:ByteArray):aB a n t=({a with ah:=bT n (λs=>{s with text:=s.text++t}) (bJ n a.ah)},0):=by grind [qy,aB]
theorem ko (d:a.left = -1)(b:Dm.Good a)  (e:c∈a.ah):bz a c.num=({a with ah:=bT c.num (λc=>{c with cJ:=c.text.size}) a.ah},0):=by grind [mo,Good.bQ,qy,bz]
theorem lY {S:Dk}(b:S.left = -1)(a:Dm.Good S)  (d:c∈S.ah):∃i,S.ah[i]? = Z c/\aF S c.num=({S with ah:=S.ah.eraseIdx i},0):=by grind [mo,Good.bQ,qy,aF]
theorem uI (n:Int){f:bM->bM}(a:∀s,(f s).num=s.num)(l:List bM):(bT n f l).map (·.num)=l.map (·.num):=by grind [bT,List.map_congr_left]
theorem mW (n:Int)(t:ByteArray)(l:List bM):(bT n (λs=>{s with text:=s.text++t}) l).map (·.num)=l.map (·.num):=uI n (f:=λs=>{s with text:=s.text++t}) (λ_=>rfl) l
theorem sR (n:Int)(l:List bM):(bT n (λs=>{s with cJ:=s.text.size}) l).map (·.num)=l.map (·.num):=uI n (f:=λs=>{s with cJ:=s.text.size}) (λ_=>rfl) l
theorem JN:∀{l:List bM} {i:Nat} {s:bM} (a:bM),l[i]? = Z s->used (l.set i a)+s.text.size=used l+a.text.size:=by
 intro l
 induction l with
 | nil=>grind
 | cons x l b=>
  intro i s a h;cases i with
  | zero=>grind [cC]
  | succ i=>grind [cC]
theorem uJ (f:e.Pairwise λa b=>a.num<b.num)  (g:c∈e)(t:ByteArray):used (bT c.num (λc=>{c with text:=c.text++t}) e)=used e+t.size:=by
 obtain⟨i,d⟩:=ed g;rw[fG f d rfl];grind [JN]
theorem Fh (n:Int){f:bM->bM}(a:∀s,(f s).text=s.text)(l:List bM):used (bT n f l)=used l:=by grind [used,bT,List.map_congr_left]
theorem vO {n:Int}{f:bM->bM}   (b:c∈e)(a:c.num=n):f c∈bT n f e:=
 vd.2 ⟨c,b,by rw[if_pos a]⟩
theorem wQ {n:Int}:∀{l:List bM},(∀s∈l,s.num≠n)->(bJ n l).Perm (⟨n,⟨#[]⟩,0⟩ ::l):=by
 intro l
 induction l with
 | nil=>intro _;exact List.Perm.refl _
 | cons s l b=>
  intro h;rw[bJ,if_neg (h s (Xa ..))];split
  .exact List.Perm.refl _
  exact((b λx a=>h x (Wa _ a)).cons s).trans (List.Perm.swap ..)
theorem pI (d:e.Pairwise λa b=>a.num<b.num)  (f:c∈e):bJ c.num e=e:=by grind [ix,ed]
theorem dC (h:Dm.Good a):Fit a a.ah.length (used a.ah):=⟨h,Wb _,Wb _⟩
theorem jN (h:b.aN≠[]):aC b∈b.aN:=by grind [aC,List.getLast?_eq_some_getLast]
theorem mP {l:List Int}  (h:b.aN=l++[d]):aC b=d:=by grind [aC]
theorem bL.Js (h:bL b a)(c:b.aN≠[]):b.synced+b.bU.size<=used a.ah:=by
 obtain⟨s,e,_,d⟩:=h.last c;rw[<-d];exact gn e
theorem bL.num (h:bL b a)  (f:d∈b.ae.flatMap (·.2)++b.aN):0<=d/\d<=9223372036854775807:=by
 obtain⟨s,c,e⟩:=vd.1 (h.perm.mem_iff.2 f);rw[<-e];exact h.aJ.num s c
theorem bL.Nl (h:bL b a):0<=aC b/\aC b<=9223372036854775807:=by
 by_cases c:b.aN=[]
 .grind [aC]
 exact h.num (qb _ (jN c))
theorem bL.len (h:bL b a):b.aN.length<=a.ah.length:=by
 have:=h.perm.length_eq;grind
theorem bL.rows (h:bL b a):∀p∈b.ae,p.2.length<=a.ah.length/\∀x∈p.2,0<=x/\x<=9223372036854775807:=by
 intro p c;refine⟨?_,λx f=>h.num (eb _ (Zd.2 ⟨p,c,f⟩))⟩;have d:=h.perm.length_eq;rw[List.length_map,zd]at d;have j:p.2.length<=(b.ae.flatMap (·.2)).length:=by
  obtain⟨g,i,e⟩:=List.append_of_mem c;grind
 omega
theorem bL.rQ (h:bL b a)(c:b.aN≠[]):cQ b a=(a,0):=by
 obtain⟨s,f,d,e⟩:=h.last c;grind [pj,left,aJ,cQ,mD]
theorem bL.add (h:bL b a)(e:b.aN≠[])(t:ByteArray):
  ∃g,cM b a t=({b with bU:=b.bU++t},g,0)/\bL {b with bU:=b.bU++t} g/\used g.ah=used a.ah+t.size/\g.ah.length=a.ah.length:=by
 obtain⟨s,f,c,l⟩:=h.last e;have j:0<=aC b:=by rw[<-c];exact(h.aJ.num s f).1
 have k:aC b<=9223372036854775807:=by rw[<-c];exact(h.aJ.num s f).2
 have i:=gP h.left h.room j t;have d:=(gz (dC h.aJ) (aC b) t k).aJ;rw[i]at d;rw[<-c,pI h.aJ.bQ f,c]at i d;exact⟨{a with ah:=bT (aC b) (λs=>{s with text:=s.text++t}) a.ah},by unfold cM;rw[h.rQ e,if_neg (by simp),i,if_neg (by simp)],⟨h.left,h.room,d,by show ((bT (aC b) _ a.ah).map (·.num)).Perm _;rw[mW];exact h.perm,by show ∀n∈(bT (aC b) _ a.ah).map (·.num),n<b.next;rw[mW];exact h.below,h.mE,λ_=>by refine⟨_,vO f c,c,?_⟩;grind⟩,by show used (bT (aC b) _ a.ah)=_;rw[<-c];exact uJ h.aJ.bQ f t,fW ..⟩
theorem bL.sync (h:bL b a):
  ∃c g,aQ b a=(c,g,0)/\bL c g/\used g.ah=used a.ah/\c.aN=b.aN/\c.ae=b.ae/\c.next=b.next/\c.al=b.al/\c.most=b.most/\c.synced+c.bU.size=b.synced+b.bU.size/\c.bU.size<=b.bU.size/\g.ah.length=a.ah.length:=by
 by_cases e:b.aN=[]
 .grind [aQ]
 obtain⟨s,k,i,l⟩:=h.last e;have j:=ko h.left h.aJ k;have d:=(jK (dC h.aJ) s.num).aJ;rw[j]at d;rw[i]at j d;exact⟨{b with synced:=b.synced+b.bU.size,bU:=⟨#[]⟩},{a with ah:=bT (aC b) (λs=>{s with cJ:=s.text.size}) a.ah},by unfold aQ;rw[if_neg e,h.rQ e,if_neg (by simp),j,if_neg (by simp)],⟨h.left,h.room,d,by grind [sR,perm],by show ∀n∈(bT (aC b) _ a.ah).map (·.num),n<b.next;rw[sR];exact h.below,h.mE,λ_=>⟨_,vO k i,i,l⟩⟩,Fh _ (f:=λs=>{s with cJ:=s.text.size}) (λ_=>rfl) _,rfl,rfl,rfl,rfl,rfl,by rfl,ad _,fW ..⟩
theorem bL.begin (h:bL b a)(o:b.next<=9223372036854775807)(t:ByteArray):
  ∃g,bf b a t=({b with aN:=b.aN++[b.next],next:=b.next+1,synced:=0,bU:=t},g,0)/\bL {b with aN:=b.aN++[b.next],next:=b.next+1,synced:=0,bU:=t} g/\used g.ah=used a.ah+t.size/\g.ah.length=a.ah.length+1:=by
 have k:=gP h.left h.room h.mE t;have c:=(gz (dC h.aJ) b.next t o).aJ;rw[k]at c;have i:∀s∈a.ah,s.num≠b.next:=λs m e=>by
  have:=h.below s.num (vd.2 ⟨s,m,rfl⟩);omega
 have j:=wQ i;have d:(⟨b.next,⟨#[]⟩,0⟩:bM)∈bJ b.next a.ah:=j.mem_iff.2 (Xa ..);have f:(bT b.next (λs=>{s with text:=s.text++t}) (bJ b.next a.ah)).map (·.num)=(bJ b.next a.ah).map (·.num):=mW ..;have hp2:((bJ b.next a.ah).map (·.num)).Perm (b.next ::a.ah.map (·.num)):=j.map _;refine⟨{a with ah:=bT b.next (λs=>{s with text:=s.text++t}) (bJ b.next a.ah)},by grind [bf],⟨h.left,h.room,c,?_,?_,by have:=h.mE;grind,λ_=>?_⟩,by show used (bT b.next _ (bJ b.next a.ah))=_;have:=uJ (fR h.aJ.bQ) d t;grind [pX],by show (bT b.next _ (bJ b.next a.ah)).length=_;rw[fW,j.length_eq];rfl⟩
 .show ((bT b.next _ (bJ b.next a.ah)).map (·.num)).Perm (b.ae.flatMap (·.2)++(b.aN++[b.next]));rw[f];refine hp2.trans ((h.perm.cons _).trans ?_);grind
 .show ∀n∈(bT b.next _ (bJ b.next a.ah)).map (·.num),n<b.next+1;rw[f];intro n l;rcases Za.1 (hp2.mem_iff.1 l) with e|e
  .omega
  have:=h.below n e;omega
 refine⟨_,vO d rfl,(mP rfl).symm,?_⟩;show ((⟨#[]⟩:ByteArray)++t).size=0+t.size;rw[ByteArray.size_append];rfl
theorem rF:∀{l:List Int} {S:Dk} {rest:List Int},S.left = -1->Dm.Good S->(S.ah.map (·.num)).Perm (l++rest)->
  (bh S l).2=0/\(bh S l).1.left = -1/\(bh S l).1.room=S.room/\Dm.Good (bh S l).1/\((bh S l).1.ah.map (·.num)).Perm rest/\used (bh S l).1.ah<=used S.ah/\(∀s∈S.ah,s.num∈rest->s∈(bh S l).1.ah)/\(bh S l).1.ah.length<=S.ah.length:=by
 intro l
 induction l with
 | nil=>intro S rest g c f;exact⟨rfl,g,rfl,c,f,Wb _,λs j _=>j,Wb _⟩
 | cons n l w=>
  intro S rest g c f;have h:(S.ah.map (·.num)).Nodup:=by
   rw[List.nodup_iff_pairwise_ne,List.pairwise_map];exact c.bQ.imp λ{a b} p e=>by omega
  have o:=f.nodup_iff.1 h;obtain⟨s,j,k⟩:=vd.1 (f.mem_iff.2 (eb _ (Xa (a:=n) (l:=l))));obtain⟨i,q,m⟩:=lY g c j;have d:=(fit_delete (dC c) s.num).aJ;rw[m]at d;simp only[k]at m d;have r:=(Xc.1 q).1;have t:S.ah.Perm (s ::S.ah.eraseIdx i):=by grind [Gq,List.drop_eq_getElem_cons,Ve,List.perm_middle]
  have u:((S.ah.eraseIdx i).map (·.num)).Perm (l++rest):=by
   have v:(S.ah.map (·.num)).Perm (n ::(S.ah.eraseIdx i).map (·.num)):=by grind
   grind
  have e:bh S (n ::l)=bh {S with ah:=S.ah.eraseIdx i} l:=by grind [bh]
  grind [sS,List.length_eraseIdx]
theorem Io {b:List Int}:∀{l:List (Int×List Int)},(l.map (·.1)).Nodup->aS d l=Z b->l.Perm ((d,b) ::del d l):=by
 intro l
 induction l with
 | nil=>grind [aS]
 | cons p l c=>
  intro a h;rw[List.map_cons,List.nodup_cons]at a;grind [eE,dZ,aS,del]
theorem bL.fin (h:bL b a)(u:(b.ae.map (·.1)).Nodup)  {r:List Int}(w:aS d b.ae=Z r):
  ∃f,fY b a d=({b with ae:=del d b.ae},f,0)/\bL {b with ae:=del d b.ae} f/\used f.ah<=used a.ah/\f.ah.length<=a.ah.length:=by
 have y:=Io u w;have e:(a.ah.map (·.num)).Perm (r.reverse++((del d b.ae).flatMap (·.2)++b.aN)):=by
  refine h.perm.trans ?_;rw[<-List.append_assoc];grind [List.Perm.append_right]
 obtain⟨x,k,l,m,i,o,p,q⟩:=rF h.left h.aJ e;refine⟨(bh a r.reverse).1,by grind [fY],⟨k,l.trans h.room,m,i,λn t=>h.below n (e.mem_iff.2 (qb _ (i.mem_iff.1 t))),h.mE,λc=>?_⟩,o,q⟩;obtain⟨s,v,g,j⟩:=h.last c;exact⟨s,p s v (qb _ (g▸jN c)),g,j⟩
theorem dY (l:List UInt8):(bytesOf l).size=l.length:=by
 show l.toArray.size=_;grind
theorem bL.write (h:bL b a)(q:b.next<=9223372036854775807)(c:Int)(t:ByteArray):
  ∃d e,aY b a c t=(d,e,0)/\bL d e/\used e.ah<=used a.ah+(aZ b).length+(bC [100] c (B t)).length/\d.ae=b.ae/\d.aN≠[]/\d.al=b.al/\d.most=b.most/\d.next<=b.next+1/\b.next<=d.next/\e.ah.length<=a.ah.length+1:=by
 unfold aY;by_cases f:b.aN=[]
 .obtain⟨e,g,i,j,k⟩:=h.begin q (bytesOf (aZ b)++bytesOf (bC [100] c (B t)));grind [dY]
 rw[if_neg f];split
 .obtain⟨e,g,i,j,k⟩:=h.add f (bytesOf (bC [100] c (B t)));grind [dY]
 obtain⟨v,w,g,i,j,k,n,x,o,p,y,l,m⟩:=h.sync;obtain⟨e,r,s,u,z⟩:=i.begin (by omega) (bytesOf (bC [100] c (B t)));rw[g,if_neg (by simp),r];rw[dY]at u;exact⟨_,_,rfl,s,by omega,n,by simp,o,p,by grind,by grind,by omega⟩
theorem bL.sw (h:bL b a)(f:b.aN≠[]){win:Int}(w:win∉b.ae.map (·.1)):
  ∃c e,bE b a win=(c,e,0)/\bL c e/\used e.ah=used a.ah+(bC [115] win []).length/\c.ae=put dJ win b.aN b.ae/\c.aN=[]/\c.al=win/\c.most=b.most/\c.next=b.next/\e.ah.length=a.ah.length/\c.synced+c.bU.size<=used e.ah:=by
 obtain⟨u,i,j,k,v⟩:=h.add f (bytesOf (bC [115] win []));obtain⟨t,g,m,d,x,p,q,r,y,s,z,n,o⟩:=j.sync;rw[dY]at k;unfold bE;rw[i,if_neg (by simp),m,if_neg (by simp)];refine⟨_,_,rfl,⟨d.left,d.room,d.aJ,?_,d.below,d.mE,λl=>absurd rfl l⟩,by grind,rfl,rfl,rfl,s,r,by grind,d.Js (by grind)⟩;show (g.ah.map (·.num)).Perm ((put dJ win b.aN b.ae).flatMap (·.2)++[]);rw[List.append_nil];refine d.perm.trans ?_;rw[p,q];show (b.ae.flatMap (·.2)++b.aN).Perm _;unfold put;grind [dZ,eE,rD]
theorem bL.keep (h:bL b a)(f:b.next<=9223372036854775807):
  ∃c d,bR b a=(c,d,0)/\bL c d/\used d.ah<=used a.ah+(aZ b).length/\c.ae=b.ae/\c.al=b.al/\c.most=b.most/\c.next<=b.next+1/\b.next<=c.next/\d.ah.length<=a.ah.length+1/\
   ((c.aN=b.aN/\c.synced+c.bU.size=b.synced+b.bU.size)\/(b.aN=[]/\c.aN=[b.next]/\c.synced+c.bU.size=(aZ b).length)):=by
 unfold bR;by_cases e:b.aN=[]
 .obtain⟨g,i,j,k,l⟩:=h.begin f (bytesOf (aZ b));grind [sync,dY]
 grind [sync]
theorem bL.forget (h:bL b a)(n:b.next<=9223372036854775807)(m:(b.ae.map (·.1)).Nodup)  {r:List Int}(f:aS d b.ae=Z r):
  ∃c e,aO b a d=(c,e,0)/\bL c e/\used e.ah<=used a.ah+(aZ b).length/\c.ae=del d b.ae/\c.al=b.al/\c.most=b.most/\c.next<=b.next+1/\b.next<=c.next/\e.ah.length<=a.ah.length+1/\
   ((c.aN=b.aN/\c.synced+c.bU.size=b.synced+b.bU.size)\/(b.aN=[]/\c.aN=[b.next]/\c.synced+c.bU.size=(aZ b).length)):=by
 unfold aO;split
 .obtain⟨s,t,u,p,v,q,w,x,y,z,A,o⟩:=h.keep n;obtain⟨g,i,j,k,l⟩:=p.fin (by grind) (by rw[q];exact f);grind
 obtain⟨g,i,j,k,l⟩:=h.fin m f;grind
theorem bL.small (h:bL b a)(g:b.ae=[]){n:Nat}(f:b.aN=[]\/∃x,b.aN=[x]/\b.synced+b.bU.size<=n):used a.ah<=n:=by
 have c:=h.perm;rw[g]at c;rcases f with e|⟨x,e,l⟩
 .rw[e]at c;have:a.ah=[]:=List.map_eq_nil_iff.1 (List.perm_nil.1 c);rw[this];exact ad _
 rw[e]at c;have d:a.ah.map (·.num)=[x]:=List.perm_singleton.1 c;obtain⟨s,i,_,j⟩:=h.last (by rw[e];simp);have k:a.ah.length=1:=by
  have:=congrArg List.length d;simpa using this
 grind [cC,JM,List.length_eq_one_iff]
end Jr
namespace Dd
open Go.RowKit Bytes Im Wm Dm Jr Sk Mem Foot Wi Kr
variable {a:List Bs}{b:Int}{d:List Ms}
theorem dig {v:Int}(b:0<=v)(k:Nat)(a:v.toNat<10 ^ (k+1)):(Lib.itoa v).length<=k+1:=by
 unfold Lib.itoa;rw[if_neg (by omega),Lib.decDigits_length];exact Plain.iW k v.toNat a
theorem LO (k:List UInt8)  (a:0<=b)(e:b<=1000000000){t:List UInt8}(f:t.length<=256):(bC k b t).length<=k.length+t.length+16:=by
 have c:=dig a 9 (by omega);have d:=dig (v:=(t.length:Int)) (by omega) 2 (by omega);grind [bC]
theorem nY (k:List UInt8){win:Int}(a:0<=win)(d:win<=1000000000):(bC k win []).length<=k.length+14:=by
 have b:=dig a 9 (by omega);have c:=dig (v:=0) (by omega) 0 (by decide);grind [bC]
theorem ru {J:Jn}(a:-1<=J.al)(b:J.al<=1000000000):(aZ J).length<=15:=by grind [nY,aZ]
noncomputable def fq (D:Dn):ByteArray:=⟨(ir D.num D.W).toArray⟩
noncomputable def bA (D:Dn):Dn:=
 if D.clock / D.c 0<=D.num then D
 else if 0<D.count then {D with J:=(bE D.J D.S D.num).1,S:=(bE D.J D.S D.num).2.1,due:=iR ⟨D.num,fq D⟩ D.due,num:=D.clock / D.c 0,count:=0,W:=gC}
 else {D with num:=D.clock / D.c 0,count:=0,W:=gC}
noncomputable def ig (D:Dn)(s:ByteArray):Dn:=
 {D with J:=(aY D.J D.S D.num s).1,S:=(aY D.J D.S D.num s).2.1,W:=ju (bP D.c) D.W (B s),count:=D.count+1}
def jm (D:Dn):Dn:={D with J:=(aQ D.J D.S).1,S:=(aQ D.J D.S).2.1}
def qY (D:Dn)(a:Int):Dn:={D with J:=(aO D.J D.S a).1,S:=(aO D.J D.S a).2.1,due:=D.due.filter λm=>!decide (m.k=a)}
structure qL (D:Dn)(ds:List Bs)(n:Nat):Prop where
 ll:oz D.c
 calm:bL D.J D.S
 zn:0<=D.clock/\D.clock<=1000000000
 num:0<=D.num/\D.num<=1000000000
 cnt:D.count=ds.length
 win:D.W=ds.foldl (ju (bP D.c)) gC
 keys:D.J.ae.map (·.1)=D.due.map (·.k)
 lt:∀m∈D.due,m.k<D.num
 low:∀m∈D.due,0<=m.k
 bQ:kh D.due
 fZ:-1<=D.J.al/\D.J.al<D.num
 aN:0<D.count->D.J.aN≠[]
 free:D.count=0->D.J.aN=[]\/∃x,D.J.aN=[x]/\D.J.synced+D.J.bU.size<=64
 cD:D.cD=false
 next:D.J.next<=n
 ah:D.S.ah.length<=n
 used:Dm.used D.S.ah<=500*n
 dues:D.due.length<=n
 sz:D.J.synced+D.J.bU.size<=500*n
 len:ds.length<=n
 lines:jE ds<=n
 short:∀d∈ds,d.length<=256
theorem oz.pos {c:Fin 6->Int}(h:oz c):0<c 0:=by have:=h.w;omega
theorem qL.mono {D:Dn}  {n m:Nat}(h:qL D a n)(b:n<=m):qL D a m:=
 {h with next:=by have:=h.next;omega,ah:=by have:=h.ah;omega,used:=by have:=h.used;omega,dues:=by have:=h.dues;omega,sz:=by have:=h.sz;omega,len:=by have:=h.len;omega,lines:=by have:=h.lines;omega}
theorem qL.nodup {D:Dn}  {n:Nat}(h:qL D a n):(D.J.ae.map (·.1)).Nodup:=by
 rw[h.keys];exact h.bQ.nodup
theorem lP {f:List Int}{l:List (Int×List Int)}{m:Ms}(g:m.k=b)  (c:l.map (·.1)=d.map (·.k))(e:b∉l.map (·.1)):(put dJ b f l).map (·.1)=(iR m d).map (·.k):=by
 unfold put;rw[dZ _ _ ((eE b l).2 e)];clear e
 induction l generalizing d with
 | nil=>
  cases d with
  | nil=>simp[ins,iR,g]
  | cons a r=>simp at c
 | cons p l h=>
  cases d with
  | nil=>simp at c
  | cons a r=>grind [ins,iR,dJ]
theorem xK {m x:Ms}  (h:x∈iR m d):x=m\/x∈d:=by
 induction d with
 | nil=>simpa[iR] using h
 | cons a d b=>grind [iR]
theorem qL.bT {D:Dn}  {n:Nat}(h:qL D a n):
  qL (bA D) (if D.clock / D.c 0<=D.num then a else []) (n+1)/\Dm.used (bA D).S.ah<=Dm.used D.S.ah+(if D.num<D.clock / D.c 0/\0<D.count then 15 else 0)/\
   (0<D.count->(bE D.J D.S D.num).2.2=0)/\(bA D).clock=D.clock/\(bA D).c=D.c/\D.clock / D.c 0<=(bA D).num:=by
 have q:=oz.pos h.ll;have k:0<=D.clock / D.c 0:=Int.ediv_nonneg h.zn.1 (by omega);have l:D.clock / D.c 0<=1000000000:=Int.le_trans (Int.ediv_le_self _ h.zn.1) h.zn.2;have j:D.num∉D.J.ae.map (·.1):=by
  rw[h.keys];intro b;obtain⟨m,b,e⟩:=vd.1 b;have:=h.lt m b;omega
 have f:0<D.count->(bE D.J D.S D.num).2.2=0:=λg=>by
  obtain⟨i,o,e,_⟩:=h.calm.sw (h.aN g) j;rw[e]
 unfold bA;by_cases d:D.clock / D.c 0<=D.num
 .rw[if_pos d,if_pos d];exact⟨h.mono (Nat.le_succ _),Nat.le_add_right _ _,f,rfl,rfl,d⟩
 rw[if_neg d,if_neg d];by_cases g:0<D.count
 .rw[if_pos g,if_pos ⟨by omega,g⟩];obtain⟨i,o,e,s,t,y,u,v,z,w,x,A⟩:=h.calm.sw (h.aN g) j;have r:=nY [115] h.num.1 h.num.2;rw[e];refine⟨⟨h.ll,s,h.zn,⟨k,l⟩,rfl,rfl,?_,?_,?_,?_,?_,λh=>absurd h (by simp),λ_=>Vb u,h.cD,?_,?_,?_,?_,?_,ad _,ad _,by simp⟩,?_,λ_=>rfl,rfl,rfl,Int.le_refl _⟩
  .grind [lP,keys]
  .intro m b;rcases xK b with rfl|b
   .grind
   have:=h.lt m b;grind
  .intro m b;rcases xK b with rfl|b
   .exact h.num.1
   exact h.low m b
  .exact h.bQ.ins (by grind [keys])
  .show -1<=i.al/\i.al<D.clock / D.c 0;rw[v];have:=h.num.1;omega
  .show i.next<=_;rw[w];have:=h.next;omega
  .show o.ah.length<=_;rw[x];exact Zb h.ah
  .show Dm.used o.ah<=_;rw[t];have:=h.used;grind
  .show (iR _ D.due).length<=_;rw[xh];have:=h.dues;omega
  .show i.synced+i.bU.size<=_;have:=h.used;grind
  grind
 rw[if_neg g,if_neg (λe=>g e.2)];have p:D.count=0:=by omega
 exact⟨⟨h.ll,h.calm,h.zn,⟨k,l⟩,rfl,rfl,h.keys,λm b=>by have:=h.lt m b;grind,h.low,h.bQ,⟨h.fZ.1,by have:=h.fZ.2;grind⟩,λh=>absurd h (by simp),λ_=>h.free p,h.cD,by have:=h.next;grind,Zb h.ah,by have:=h.used;grind,Zb h.dues,by have:=h.sz;grind,ad _,ad _,by simp⟩,Wb _,f,rfl,rfl,Int.le_refl _⟩
theorem Ht (a:List Bs)(d:Bs):jE (a++[d])=jE a+jE [d]:=iX ..
theorem Ck (d:Bs):jE [d]<=d.length+1:=by grind [jE,Lib.countByte]
theorem qL.write {D:Dn}  {n:Nat}(h:qL D a n)(r:n<=100000000){s:ByteArray}(u:s.size<=256):
  qL (ig D s) (a++[B s]) (n+s.size+1)/\Dm.used (ig D s).S.ah<=Dm.used D.S.ah+s.size+32/\(aY D.J D.S D.num s).2.2=0:=by
 have f:D.J.next<=9223372036854775807:=by have:=h.next;omega
 have l:(B s).length=s.size:=(Bytes.aj s).symm;obtain⟨g,k,e,i,v,w,j,q,x,y,z,A⟩:=h.calm.write f D.num s;have p:=LO [100] h.num.1 h.num.2 (t:=B s) (by omega);have m:=ru h.fZ.1 (by have:=h.fZ.2;have:=h.num.2;omega);have b:Dm.used k.ah<=Dm.used D.S.ah+s.size+32:=by grind
 unfold ig;rw[e];have o:=Ck (B s);refine⟨⟨h.ll,i,h.zn,h.num,by grind [cnt],by grind [win],by grind [keys],h.lt,h.low,h.bQ,by show -1<=g.al/\g.al<D.num;rw[q];exact h.fZ,λ_=>j,λh=>absurd h (by simp),h.cD,by have:=h.next;grind,by have:=h.ah;grind,by have:=h.used;grind,Xd h.dues (by omega),by have:=i.Js j;have:=h.used;grind,by have:=h.len;simp;omega,by rw[Ht];have:=h.lines;omega,?_⟩,b,rfl⟩;intro d c;rcases Ub.1 c with c|c
 .exact h.short d c
 grind
theorem qL.sync {D:Dn}  {n:Nat}(h:qL D a n):qL (jm D) a n/\Dm.used (jm D).S.ah=Dm.used D.S.ah/\(aQ D.J D.S).2.2=0:=by
 obtain⟨b,f,e,k,g,i,o,l,m,p,j,q,d⟩:=h.calm.sync;unfold jm;rw[e];refine⟨⟨h.ll,k,h.zn,h.num,h.cnt,h.win,by grind [keys],h.lt,h.low,h.bQ,by show -1<=b.al/\b.al<D.num;rw[m];exact h.fZ,?_,?_,h.cD,by show b.next<=_;rw[l];exact h.next,by show f.ah.length<=_;rw[d];exact h.ah,by show Dm.used f.ah<=_;rw[g];exact h.used,h.dues,by show b.synced+b.bU.size<=_;rw[j];exact h.sz,h.len,h.lines,h.short⟩,g,rfl⟩
 .intro c;show b.aN≠[];rw[i];exact h.aN c
 intro c;show b.aN=[]\/∃x,b.aN=[x]/\b.synced+b.bU.size<=64;rw[i,j];exact h.free c
theorem Gg {l:List (Int×List Int)}  (c:l.map (·.1)=d.map (·.k)):(del b l).map (·.1)=(d.filter λm=>!decide (m.k=b)).map (·.k):=by
 unfold del
 induction l generalizing d with
 | nil=>
  cases d with
  | nil=>rfl
  | cons a r=>simp at c
 | cons p l e=>
  cases d with
  | nil=>simp at c
  | cons a r=>grind
theorem get_some {k:Int}{l:List (Int×List Int)}(h:k∈l.map (·.1)):∃r,aS k l=Z r:=by
 have a:=(qq k l).2 h;grind [gR,Option.isSome_iff_exists]
theorem qL.RD {D:Dn}  {n:Nat}(h:qL D a n)(y:n<=100000000)  (s:b∈D.due.map (·.k)):
  qL (qY D b) a (n+1)/\Dm.used (qY D b).S.ah<=Dm.used D.S.ah+15/\(aO D.J D.S b).2.2=0:=by
 have i:D.J.next<=9223372036854775807:=by have:=h.next;omega
 obtain⟨r,q⟩:=get_some (l:=D.J.ae) (k:=b) (by rw[h.keys];exact s);obtain⟨c,v,e,t,z,A,u,B,E,F,G,o⟩:=h.calm.forget i h.nodup q;have p:=ru h.fZ.1 (by have:=h.fZ.2;have:=h.num.2;omega);unfold qY;rw[e];refine⟨⟨h.ll,t,h.zn,h.num,h.cnt,h.win,?_,λm g=>h.lt m (List.mem_filter.1 g).1,λm g=>h.low m (List.mem_filter.1 g).1,Ye _ h.bQ,?_,?_,?_,h.cD,?_,?_,?_,?_,?_,Zb h.len,?_,h.short⟩,?_,rfl⟩
 .grind [Gg,keys]
 .show -1<=c.al/\c.al<D.num;rw[u];exact h.fZ
 .intro j;show c.aN≠[];rcases o with ⟨d,_⟩|⟨d,f,_⟩
  .rw[d];exact h.aN j
  grind
 .intro j;show c.aN=[]\/∃x,c.aN=[x]/\c.synced+c.bU.size<=64;rcases o with ⟨d,f⟩|⟨d,f,w⟩
  .rw[d,f];exact h.free j
  grind
 .have:=h.next;grind
 .have:=h.ah;grind
 .have:=h.used;grind
 .exact Xd (Xe ..) (Zb h.dues)
 .have:=h.sz;grind
 .have:=h.lines;omega
 grind
theorem qL.small {D:Dn}  {n:Nat}(h:qL D a n)(c:D.due=[])(b:a=[]):Dm.used D.S.ah<=64:=by
 refine h.calm.small ?_ (h.free (by rw[h.cnt,b];rfl));grind [keys,List.map_eq_nil_iff]
theorem qL.fit {D:Dn}  {n:Nat}(h:qL D a n):eX (bP D.c) (jE a) D.W:=by
 have:=mY h.ll.lim.b0 a (eX.zero (bP D.c));grind [win]
end Dd
namespace Dd
open Go.RowKit Go.Maps Mem Foot Bytes Im Wm Hi Plainw Cq Dm Dh Jr Wi Sk Hn Kr
theorem win_zero:cE 0 0 []=gC:=rfl
variable {a:Nat}{b:Pl}
theorem DA.fresh {w w1 n:N}  {D:Dn}  (h:DA w a D b)(l:Below w.heap.size w w1){p':WI}(r:dP w1 p' (bP D.c) 0 0 [])(d:∀x∈bj p' [],w.heap.size<=x)(i:an [a] w1 n){num:Int}
  (q:af n a 59 #[I O (D.c 0),I O (D.c 1),I O (D.c 2),I O (D.c 3),I O (D.c 4),I O (D.c 5),ca (Z ⟨b.jb,0,Y⟩),I O D.clock,I O num,I O 0,ca (Z ⟨p'.P,0,Y⟩),.map (Z b.db),.bool D.cD]):
  Dq w n a {D with num:=num,count:=0,W:=gC} (df a b) b.bx:=by
 have t:=h.head.lt;have m:=Cd h.jw h.pd;have j:=h.keep l;have f:∀k∈b.kf,k∉[a]:=λk f e=>h.aX.1 (Va.1 e▸f)
 refine⟨⟨{b with p:=p',rj:=0,dr:=0,E:=[]},⟨q,j.jw.off (ba:=b.ba) (bs:=b.bs) i f,cm j.pd i λk g=>f k (gq g),r.off i (λx u e=>by grind),win_zero,j.due.off i (λo e=>by cases e;exact λe=>h.aX.2.2 (Va.1 e).symm),h.bQ,λk f s=>by have:=d k s;have:=m k f;omega,⟨h.aX.1,λg=>by have:=d a g;omega,h.aX.2.2⟩,⟨h.aD.1,λg=>by have j:w.heap.size<=b.db:=d _ g;have:=mj h.due;omega⟩⟩,rfl,λo l=>?_⟩,(an.ag l).trans (i.mono λk _ f=>Va.1 f▸Xa ..)⟩;rcases Za.1 l with e|e
 .exact Vb (e▸Xa ..)
 rcases Za.1 e with e|e
 .exact Vb (e▸Wa _ (Xa ..))
 rcases Ub.1 e with e|e
 .exact Vb (Wa _ (Wa _ (eb _ e)))
 exact Or.inr (d o e)
theorem DA.more {w w1:N}  {D:Dn}  (h:DA w a D b){m:Ms}{n:Nat}(g:w1.ownsMap Ya 3 (kg wa) b.db n (Sk.D (iR m D.due)))(i:w.grownBy w1 (Z b.db))(c:m.k∉D.due.map (·.k)):
  DA w1 a {D with due:=iR m D.due} b/\an (df a b) w w1:=by
 have f:an [b.db] w w1:=de i (Va.2 rfl);have d:∀k∈b.kf,k∉[b.db]:=λk c e=>h.aD.1 (Va.1 e▸c)
 exact⟨⟨Foot.af.off h.head f (λe=>h.aX.2.2 (Va.1 e)),h.jw.off (ba:=b.ba) (bs:=b.bs) f d,cm h.pd f λk g=>d k (gq g),h.wi.off f (λk c e=>h.aD.2 (Va.1 e▸c)),h.win,⟨_,g⟩,h.bQ.ins c,h.a1,h.aX,h.aD⟩,
  f.mono λk _ c=>Va.1 c▸Wa _ (Xa ..)⟩
theorem DA.less {w w1:N}  {D:Dn}  (h:DA w a D b){k:Int}{n:Nat}(g:w1.ownsMap Ya 3 (kg wa) b.db n (Sk.D (D.due.filter λm=>!decide (m.k=k))))(i:w.grownBy w1 (Z b.db)):
  DA w1 a {D with due:=D.due.filter λm=>!decide (m.k=k)} b/\an (df a b) w w1:=by
 have f:an [b.db] w w1:=de i (Va.2 rfl);have d:∀k∈b.kf,k∉[b.db]:=λk c e=>h.aD.1 (Va.1 e▸c)
 exact⟨⟨Foot.af.off h.head f (λe=>h.aX.2.2 (Va.1 e)),h.jw.off (ba:=b.ba) (bs:=b.bs) f d,cm h.pd f λk g=>d k (gq g),h.wi.off f (λk c e=>h.aD.2 (Va.1 e▸c)),h.win,⟨_,g⟩,Ye _ h.bQ,h.a1,h.aX,h.aD⟩,
  f.mono λk _ c=>Va.1 c▸Wa _ (Xa ..)⟩
theorem PG (k:Int)(l:List Ms):(Sk.D l).del (.int O k)=Sk.D (l.filter λm=>!decide (m.k=k)):=by
 unfold Sk.D;rw[show Lit.int O k=jk k from rfl,vp cB];congr 1;unfold del aG;rw[List.filter_map];rfl
theorem BJ {w:N}  {t:TypeId}{e f g i j k l m n o b c d:C}(h:af w a t #[e,f,g,i,j,k,l,m,n,o,b,c,d]):
  w.cell? ⟨a,0,Y⟩=Z e/\w.cell? ⟨a,1,Y⟩=Z f/\w.cell? ⟨a,2,Y⟩=Z g/\w.cell? ⟨a,3,Y⟩=Z i/\w.cell? ⟨a,4,Y⟩=Z j/\w.cell? ⟨a,5,Y⟩=Z k/\w.cell? ⟨a,6,Y⟩=Z l/\w.cell? ⟨a,7,Y⟩=Z m/\w.cell? ⟨a,8,Y⟩=Z n/\w.cell? ⟨a,9,Y⟩=Z o/\w.cell? ⟨a,10,Y⟩=Z b/\w.cell? ⟨a,11,Y⟩=Z c/\w.cell? ⟨a,12,Y⟩=Z d:=
 ⟨h.Ri 0,h.Ri 1,h.Ri 2,h.Ri 3,h.Ri 4,h.Ri 5,h.Ri 6,h.Ri 7,h.Ri 8,h.Ri 9,h.Ri 10,h.Ri 11,h.Ri 12⟩
set_option maxRecDepth 10000 in
theorem QZ (num a:Int)(p:WI)(j:cZ)(n f d:Nat)(E:List fh)(w:N)(h:dP w p j f d E)(o:eX j n (cE f d E))(u:PJ j)(i:Live (cE f d E))(q:gp w)(x:n<=1000000000000000)(l:-9223372036854775808<=num)(m:num<=9223372036854775807):
  Zc Ya 68 #[.agg #[I O num,I O a,ca (Z ⟨p.P,0,Y⟩)]] w λe w'=>e=Ua (L ⟨(ir num (cE f d E)).toArray⟩)/\Below w.heap.size w w':=by
 have c:=aa (af.new w 56 #[I O num,I O a,ca (Z ⟨p.P,0,Y⟩)]);have b:=aa (ai (w:=w) (.cells #[I O num,I O a,ca (Z ⟨p.P,0,Y⟩)] 56));have r:=aa (λw1 (g:Below w.heap.size w w1)=>NA num p j n f d E w1 (h.keep g) o u i (q.below g) x l m);clear h o i q;go_in;go_upto_region 1 with fail;generalize v:w.heap.size=X at c ⊢;clear v;generalize w.alloc (.cells #[I O num,I O a,ca (Z ⟨p.P,0,Y⟩)] 56)=w1 at *;have t:=c.Ri 0;have c2:=c.Ri 2;go_wp2_with fail;refine(r.out w1 b).mono ?_;rintro e y ⟨⟨z,rfl,hz⟩,g⟩;have k:=aa (b.trans (g.mono b.size));have s:Hid (z=⟨(ir num (cE f d E)).toArray⟩):=Bytes.bo (by rw[hz];rfl);clear hz g t c2;go_wp2_with fail;go_ret;exact⟨by rw[<-s.out];rfl,k⟩
theorem Cf {D:Dn}{a:List Bs}{n:Nat}(h:qL D a n):Live D.W:=by
 rw[h.win];exact rM a No
theorem pH {w:N}  {D:Dn}  {m:Nat}(h:DA w a D b)(d:eX (bP D.c) m D.W)(f:Live D.W)(g:oz D.c)(i:m<=1000000000000000)(j:0<=D.num/\D.num<=1000000000)(k:gp w):
  Zc Ya 68 #[.agg #[I O D.num,I O (D.count:Int),ca (Z ⟨b.p.P,0,Y⟩)]] w λe w'=>e=Ua (L (fq D))/\Below w.heap.size w w':=by
 rw[<-h.win]at d f;have:=QZ D.num (D.count:Int) b.p (bP D.c) m b.rj b.dr b.E w h.wi d g.lim f k i (by omega) (by omega);rwa [h.win]at this
theorem Oa (w:N)(X:Nat)(D:Dn)(q:Pl)(h:DA w X D q)(f:D.due.length<=4000000000000):
  Zc Ya 10 #[ca (Z ⟨X,0,Y⟩)] w λe w'=>∃v,e=Ua v/\w'.ownsRow w.heap.size 47 2 v D.due.length (aH D.due)/\Below w.heap.size w w':=by
 have d:=rising (Z q.db) D.due h.bQ w h.due f;have a:=h.head.Ri 11;clear h;go_in;go_wp2_with fail;refine d.mono ?_;clear d a;rintro e w1 ⟨v,rfl,b,c⟩;change Hid _ at b c;go_wp2_with fail;go_ret;exact⟨v,rfl,b,c⟩
theorem KE {k:Nat}(h:k∈b.kf):k∈df a b:=Wa _ (Wa _ (eb _ h))
end Dd
namespace Lw
open Go.RowKit Go.Maps Go.Shelf Mem Foot Bytes Im Wm Hi Plainw Cq Dm Dh Jr Wi Sk Hn Kr Dd
variable {b:List C}{e:Nat}{f:TypeId}{h:Option Addr}
theorem jz {w:N}{b n i:Nat}{v:C}{l:List Ms}{m:Ms}(h:w.ownsRow b 47 2 v n (aH l))(o:l[i]? = Z m):∃g a,v=Q (Z ⟨g,0,Y⟩) n a/\n<=a/\b<=g/\g<w.heap.size/\w.cell? ⟨g,i*2,Y⟩=Z (I O m.k)/\w.cell? ⟨g,i*2+1,Y⟩=Z (L m.t)/\w.frozen? ⟨g,i*2,Y⟩=false/\w.frozen? ⟨g,i*2+1,Y⟩=false:=by
 obtain⟨q,r⟩:=oV o;rcases h.2 with ⟨_,p⟩|⟨g,a,e,rfl,x,y,z,_,_,A⟩
 .have s:=h.1;rw[p,cP]at s;have:=(Xc.1 o).1;omega
 have c:af w g 47 e:=y;have f:∀(j:Nat) u,(aH l)[j]? = Z u->w.cell? ⟨g,j,Y⟩=Z u:=λj u d=>by
  rw[<-A,Yb]at d;split at d
  .exact c.cell j u (by simpa using d)
  cases d
 exact⟨g,a,rfl,z,x,c.lt,f _ _ q,f _ _ r,c.frozen _,c.frozen _⟩
theorem so {w:N}   {v:C}{n i:Nat}  (h:w.ownsRow e f 1 v n b)(r:i<n):∃g a,v=Q (Z ⟨g,0,Y⟩) n a/\n<=a/\e<=g/\g<w.heap.size/\∀(j:Nat) u,b[j]? = Z u->w.cell? ⟨g,j,Y⟩=Z u/\w.frozen? ⟨g,j,Y⟩=false:=by
 rcases h.2 with ⟨_,q⟩|⟨g,a,d,rfl,m,k,o,_,_,p⟩
 .omega
 refine⟨g,a,rfl,o,m,(Array.getElem?_eq_some_iff.1 k).1,λj u c=>?_⟩;have l:af w g f d:=k;rw[<-p,Yb]at c;split at c
 .exact⟨l.cell j u (by simpa using c),l.frozen j⟩
 cases c
set_option maxRecDepth 100000 in
theorem Hl (a:Int)(s:ByteArray)(w:N):(binOp .neq 47 (.agg #[I O a,L s]) (.agg #[I O a,L s])).run Ya w=.ok (.bool false) w:=by
 have c:Ya.underlying 47=Z (.struct (Ya.fieldsOf 47)):=by kernel_rfl
 have d:Ya.stoodInHeld 47=false:=by kernel_rfl
 have b : (Ya.fieldsOf 47).toList.map (fun f => (f.name, f.type, f.offset)) = [("Window", 3, 0), ("Text", 9, 1)] := by kernel_rfl
 rw[run_neq_struct,run_equalIn_agg w 9999 _ _ _ c d];generalize (Ya.fieldsOf 47).toList=e at b;clear c d;rcases e with _|⟨f,_|⟨g,_|⟨x,r⟩⟩⟩
 .simp at b
 .simp at b
 .simp only[List.map_cons,List.map_nil,List.cons.injEq,Prod.mk.injEq,and_true]at b;obtain⟨⟨c,d,h⟩,i,j,k⟩:=b;simp only[Op.eqFields,c,d,h,i,j,k];go_simp
 simp at b
set_option maxRecDepth 10000 in
theorem same (r s:Nat)(v u:C)(l:List Ms)(w:N)(a:w.ownsRow r 47 2 v l.length (aH l))(b:w.ownsRow s 47 2 u l.length (aH l))(J:l.length<=4000000000000):
  Zc Ya 44 #[v,u] w λe w'=>e=Ua (.bool true)/\∃q,w'=w.drewN q:=by
 have K:=Hl;obtain⟨E,F,rfl⟩:=Own.shape a;obtain⟨B,D,rfl⟩:=Own.shape b;change Hid _ at a b;go_in;go_wp2_with fail;go_loopw [5] (λm wr=>∃k q:Nat,m=I O (k:Int)/\wr=w.drewN q/\k<=l.length) (λm _=>l.length - (intOf m).toNat)
 case atStart=>exact⟨0,0,rfl,rfl,by omega⟩
 case round=>
  obtain⟨k,q,rfl,rfl,H⟩:=hrel;by_cases h:k<l.length
  .have i:(k:Int)<(l.length:Int):=by omega
   obtain⟨x,j⟩:∃x,l[k]? = Z x:=⟨_,te h⟩;obtain⟨g,t,c,o,_,A,M,P,_,_⟩:=jz a j;obtain⟨G,n,d,f,_,p,R,S,_,_⟩:=jz b j;injection c with c _ y;injection d with d _ z;subst c;subst d;subst y;subst z;clear j;go_wp2_with fail;go_quiet (fail);go_wp2_with fail;go_roundw
   case rel=>exact⟨k+1,q+nq,by go_num,rfl,by omega⟩
   case measure=>simp[intOf];omega
  have i:¬(k:Int)<(l.length:Int):=by omega
  go_wp2_with fail;go_ret;exact⟨rfl,q,rfl⟩
theorem dX (r:Nat)(w:N):Zc Ya 11 #[ca (Z ⟨r,0,Y⟩),.bool true] w λe w'=>e=Ua (.tuple #[])/\w'=w:=by
 go_in;go_wp2_with fail;go_end0;exact⟨rfl,rfl⟩
theorem jW {l:List bM}  {s:bM}(h:l[e]? = Z s):Dm.used (l.take (e+1))=Dm.used (l.take e)+s.text.size:=by
 rw[List.take_add_one,h,Dm.gW];simp[Dm.used]
theorem vR (l:List bM)(k:Nat):Dm.used (l.take k)<=Dm.used l:=by grind [gW,Ve]
theorem qm (r:Nat)(a b c d:Int)(t:ByteArray)(w:N):
  Zc Ya 39 #[ca (Z ⟨r,0,Y⟩),I O 0,.agg #[I O a,I O b,I O c,I O d,L t]] w λe w'=>e=Ua (.bool false)/\Below w.heap.size w w':=by
 go_in;go_wp2_with (first|(go_at_call 29;refine(Check.num _ _).mono ?_;rintro e w' ⟨rfl,rfl⟩)|(go_at_call 11;refine(dX r _).mono ?_;rintro e w' ⟨rfl,rfl⟩))
 go_ret;exact⟨rfl,ai _⟩
def wo (a:Int)(l:List Ms):List Ms:=l.filter λm=>!decide (m.k=a)
theorem MV (a:Int)(l:List Ms)(m:Ms):wo a (l++[m])=wo a l++(if m.k=a then [] else [m]):=by grind [wo]
theorem Aa:(Ya.info? 47).map (λi=>(i.zero,i.size,i.bytes))=Z (Z (.agg #[I O 0,L ⟨#[]⟩]),2,24):=by kernel_rfl
theorem wy (a:Int)(l:List Ms)(m:Ms):(l++[m]).any (λm=>decide (m.k=a))=(l.any (λm=>decide (m.k=a))||decide (m.k=a)):=by simp
set_option maxRecDepth 10000 in
theorem zh (v:C)(l:List Ms)(a:Int)(w:N)(F:w.ownsRow 0 47 2 v l.length (aH l))(hl:l.length<=1000000000):
  Zc Ya 43 #[v,I O a] w λe w'=>∃T,e=Ua (.tuple #[T,.bool (l.any λm=>decide (m.k=a))])/\w'.ownsRow w.heap.size 47 2 T (wo a l).length (aH (wo a l))/\Below w.heap.size w w':=by
 obtain⟨va,vc,G⟩:=ak F;obtain⟨i0,X,K,M,P⟩:=info_parts Aa;have U:=aa F;subst G;clear F;go_in;go_wp2_with fail;go_loopw [6,7,8] (λs6 s7 R wr=>∃(k:Nat) (o:Option Addr) (cv:Nat),s6=Q o (wo a (l.take k)).length cv/\s7=.bool ((l.take k).any λm=>decide (m.k=a))/\R=I O (k:Int)/\k<=l.length/\Hid (wr.ownsRow w.heap.size 47 2 (Q o (wo a (l.take k)).length cv) (wo a (l.take k)).length (aH (wo a (l.take k))))/\Hid (Below w.heap.size w wr)) (λ_ _ R _=>l.length - (intOf R).toNat)
 case atStart=>exact⟨0,Y,0,rfl,rfl,rfl,by omega,Ud _ _ _ _,Below.refl _ _⟩
 case round=>
  obtain⟨k,o,cv,rfl,rfl,rfl,hk,n,h⟩:=hrel;by_cases B:k<l.length
  .have D:(k:Int)<(l.length:Int):=by omega
   obtain⟨m,E⟩:∃m,l[k]? = Z m:=⟨_,te B⟩;obtain⟨g,gc,z,V,_,W,x0,x1,_,_⟩:=jz (aE U h) E;injection z with x j y;subst x;subst y;have d:l.take (k+1)=l.take k++[m]:=by rw[List.take_add_one,E];rfl
   change Hid _ at d;have p:=aa (MV a (l.take k) m);have i:=aa (wy a (l.take k) m);have a1:(wo a (l.take k)).length<=l.length:=Xd (Xe ..) (by grind);clear E;generalize hq:(l.take k).any (λm=>decide (m.k=a))=bq at *;generalize H:wo a (l.take k)=xs at *;clear hq H;by_cases f:m.k=a
   .have c:=aa f;rw[f]at x0;clear f;go_wp2_with fail;go_roundw
    case rel=>exact⟨k+1,o,cv,by rw[d.out,p.out,if_pos c.out,List.append_nil],by rw[d.out,i.out,decide_eq_true c.out,Bool.or_true],by go_num,by omega,by grind [Hid],h⟩
    case measure=>simp[intOf];omega
   have c:=aa f;have hz:=h.size;go_wp2_with (at_builtin;refine wpList_append_own _ rfl _ _ 31 rfl w.heap.size 47 i0 (.agg #[I O 0,L ⟨#[]⟩]) 2 24 Vd X K M P rfl (by decide) _ _ _ rfl (n.alloc _) ⟨wr.heap.size,0,Y⟩ 1 1 [I O m.k,L m.t] rfl rfl (cell_two_new _ _ _ _) (by intro u S;simp at S;rcases S with rfl|rfl<;>rfl) (by unfold maxLen;omega) (by omega) (by simp;omega) ?_;intro v2 w2 b j a0)
   obtain⟨q,r,rfl⟩:=Own.shape b;have J:wo a (l.take (k+1))=xs++[m]:=by grind [Hid]
   have s:=Own.cz h h.size n j;exact⟨⟨k+1,q,r,by grind,by rw[d.out,i.out,decide_eq_false c.out,Bool.or_false],by go_num,by omega,by rw[J,fu,zd];exact b,s⟩,by simp[intOf];omega⟩
  have D:¬(k:Int)<(l.length:Int):=by omega
  have A:k=l.length:=by omega
  subst A;rw[Ue]at n;rw[Ue];go_wp2_with fail;refine Yc (results_tmp2 rfl _ _ _) rfl ?_;exact⟨_,rfl,n,h⟩
theorem Oj:(Ya.info? 9).map (λi=>(i.zero,i.size,i.bytes))=Z (Z (L ⟨#[]⟩),1,16):=by kernel_rfl
theorem CO {w:N}{d a n c:Nat}    (l:w.ownsRow d f a (Q h n c) n b)(v:b.length=n*a)(r:∀u∈b,u.oneCell'=true):Apn.Src w a h n b:=by
 refine⟨v,r,?_⟩;rcases l.2 with ⟨_,m⟩|⟨g,k,i,p,_,q,_,_,_,t⟩
 .exact Vb m
 injection p with o _ _;refine Or.inr ⟨⟨g,0,Y⟩,o,λj u e=>?_⟩;have s:af w g f i:=q;rw[<-t,Yb]at e;split at e
 .have:=s.cell j u (by simpa using e);grind [Addr.add]
 cases e
def wv (a:C)(o:Int)(b:C)(s t:Int):Array Value:=#[a,I O o,b,I O s,I O t]
set_option maxRecDepth 10000 in
theorem Jz (m:Option Addr)(p n:Nat)(o q r:Int)(hv:C)(a:List ByteArray)(s:ByteArray)(w:N)(hh:w.ownsRow 0 9 1 hv a.length (a.map Xb))(hl:a.length<=1000000000):
  Zc Ya 41 #[.agg (wv (Q m p n) o hv q r),L s] w λe w'=>∃a8,e=Ua (.agg (wv (Q m p n) o a8 q r))/\w'.ownsRow w.heap.size 9 1 a8 (a++[s]).length ((a++[s]).map Xb)/\Below w.heap.size w w':=by
 obtain⟨E,F,b7⟩:=ak hh;obtain⟨i0,hi,a9,b0,b1⟩:=info_parts Oj;have HH:=aa hh;subst b7;unfold wv;have M:=af.new w 34 #[Q m p n,I O o,Q E a.length F,I O q,I O r];have y:=ai (w:=w) (.cells #[Q m p n,I O o,Q E a.length F,I O q,I O r] 34);have a7:=af.new (w.alloc (.cells #[Q m p n,I O o,Q E a.length F,I O q,I O r] 34)) 34 #[Q Y 0 0,I O 0,Q Y 0 0,I O 0,I O 0];have z:=ai (w:=w.alloc (.cells #[Q m p n,I O o,Q E a.length F,I O q,I O r] 34)) (.cells #[Q Y 0 0,I O 0,Q Y 0 0,I O 0,I O 0] 34);have v:=Mem.af.below M z M.lt;have c2:=v.Ri 2;have j:=aa v;have c:=aa a7;have R:=aa (y.trans (z.mono y.size));have W:=aa (aE (aE hh y) z);clear M y a7 z v hh;go_in;have T:=aa (Ud ((w.alloc (.cells #[Q m p n,I O o,Q E a.length F,I O q,I O r] 34)).alloc (.cells #[Q Y 0 0,I O 0,Q Y 0 0,I O 0,I O 0] 34)) w.heap.size 9 1);have X:=aa (CO W (by simp) (by simp[Value.oneCell']));go_upto_region 3 with (at_builtin;refine Apn.gE _ rfl _ _ 32 rfl w.heap.size 9 i0 (L ⟨#[]⟩) 1 16 Tryz.underlying32 hi a9 b0 b1 rfl (by decide) _ _ _ rfl T E a.length F (a.map Xb) rfl X (by unfold maxLen;omega) (by omega) (by simp;omega) ?_;intro v2 w2 l a5 b4);rw[List.nil_append,Nat.zero_add]at l;have A:Below ((w.alloc (.cells #[Q m p n,I O o,Q E a.length F,I O q,I O r] 34)).alloc (.cells #[Q Y 0 0,I O 0,Q Y 0 0,I O 0,I O 0] 34)).heap.size ((w.alloc (.cells #[Q m p n,I O o,Q E a.length F,I O q,I O r] 34)).alloc (.cells #[Q Y 0 0,I O 0,Q Y 0 0,I O 0,I O 0] 34)) w2:=(cu (show World.grownBy _ w2 Y from a5)).below (λk hk=>by simp at hk) (Wb _);have j:=aa (Mem.af.below j A j.lt);rw[Vc]at c;have c:=aa (Mem.af.below c A c.lt);have G:=aa (R.trans (A.mono R.size));have i:=aa l;clear A a5 b4 c2 W T X l;generalize u:w.heap.size=h at j c G i ⊢;change Hid _ at u;obtain⟨b8,b9,rfl⟩:=Own.shape i;have hz:h+1<w2.heap.size:=c.lt;go_upto_region 4 with (at_builtin;refine wpList_append_own _ rfl _ _ 32 rfl h 9 i0 (L ⟨#[]⟩) 1 16 Tryz.underlying32 hi a9 b0 b1 rfl (by decide) _ _ _ rfl (i.alloc _) ⟨w2.heap.size,0,Y⟩ 1 1 [L s] rfl rfl (cell_one_new _ _ _) (λx hx=>by simp at hx;subst hx;rfl) (by unfold maxLen;omega) (by omega) (by simp;omega) ?_;intro v3 P d J b5;obtain⟨f,g,rfl⟩:=Own.shape d;have K:=ku J;have B:=Foot.af.off j K (λhm=>by obtain⟨cs,a⟩:=au i hm;exact Ty j a rfl);have e2:=B.Ri 2;have f2:=B.frozen 2);have D:an [h] P (P.setCell ⟨h,2,Y⟩ (Q f (a.length+1) g)):=(an.refl _ _).set (Va.2 rfl) _ _;have a6:=Foot.af.off c K (λhm=>by obtain⟨cs,a⟩:=au i hm;exact Ty c a rfl);have t:Hid (af (P.setCell ⟨h,2,Y⟩ (Q f (a.length+1) g)) h 34 #[Q m p n,I O o,Q f (a.length+1) g,I O q,I O r]):=B.set 2 _;have b2:=aa (Foot.af.off a6 D (by simp));have U:=aa (aq d D (λk hk e=>by
  obtain⟨cs,b6⟩:=au d hk;grind [aA]))
 have S:=aa (show Below h w (P.setCell ⟨h,2,Y⟩ (Q f (a.length+1) g)) from by
  have H:Below h w P:=Own.cz G (by omega) i J;exact H.trans (D.below (λb hb=>by grind) (by rw[<-u.out];exact H.size)))
 clear D a6 B K d J b5 e2 f2 j c G i hz;generalize P.setCell ⟨h,2,Y⟩ (Q f (a.length+1) g)=w4 at *;have a0:=t.Ri 0;have a1:=t.Ri 1;have a2:=t.Ri 2;have a3:=t.Ri 3;have a4:=t.Ri 4;have h0:=b2.out;have d0:=h0.Ri 0;have f0:=h0.frozen 0;have H:=h0.set 0 (Q m p n);have d1:=H.Ri 1;have f1:=H.frozen 1;have h2:=H.set 1 (I O o);have d2:=h2.Ri 2;have f2:=h2.frozen 2;have h3:=h2.set 2 (Q f (a.length+1) g);have d3:=h3.Ri 3;have f3:=h3.frozen 3;have h4:=h3.set 3 (I O q);have d4:=h4.Ri 4;have f4:=h4.frozen 4;have b3:=aa (h4.set 4 (I O r));have V:Hid (an [h+1] w4 (((((w4.setCell ⟨h+1,0,Y⟩ (Q m p n)).setCell ⟨h+1,1,Y⟩ (I O o)).setCell ⟨h+1,2,Y⟩ (Q f (a.length+1) g)).setCell ⟨h+1,3,Y⟩ (I O q)).setCell ⟨h+1,4,Y⟩ (I O r))):=(((((an.refl _ _).set (Va.2 rfl) _ _).set (Va.2 rfl) _ _).set (Va.2 rfl) _ _).set (Va.2 rfl) _ _).set (Va.2 rfl) _ _;clear h0 H h2 h3 h4;go_wp2_with fail;refine Yc (Wc rfl _ _ (h+1) 34 _ (0,0) _ rfl b3 Uc rfl (by kernel_rfl)) rfl ?_;refine⟨Q f (a.length+1) g,rfl,?_,by rw[u.out];exact S.trans (V.below (λb hb=>by grind) (by rw[<-u.out];exact S.size))⟩;have h5:=aq U V (λk hk e=>by
  obtain⟨cs,b6⟩:=au U hk;grind [aA,Hid])
 rw[u.out,List.map_append,zd];exact h5
def Doc (c:Fin 6->Int)(num:Int)(f:List ByteArray)(z:ByteArray):Prop:=
 ∀(a:Option Addr) (d:Nat) (w:N),(∀(i:Nat) x,f[i]? = Z x->∃b,a=Z b/\b.block<w.heap.size/\w.cell? (b.add i)=Z (L x))->
  ∃er:Int,Zc Ya 69 #[.agg #[I O (c 0),I O (c 1),I O (c 2),I O (c 3),I O (c 4),I O (c 5)],I O num,Q a f.length d] w λe w'=>e=Ua (.tuple #[L z,I O er])/\Below w.heap.size w w'
theorem ry {w:N}  {n c:Nat}{a:List ByteArray}(k:w.ownsRow 0 9 1 (Q h n c) a.length (a.map Xb)):∀(i:Nat) x,a[i]? = Z x->∃d,h=Z d/\d.block<w.heap.size/\w.cell? (d.add i)=Z (L x):=by
 intro i x o;have s:=(Xc.1 o).1;rcases k.2 with ⟨_,q⟩|⟨g,j,e,l,_,m,_,_,_,p⟩
 .omega
 injection l with r _ _;have f:af w g 9 e:=m;have b:(a.map Xb)[i]? = Z (L x):=by grind
 rw[<-p,Yb]at b;split at b
 .have:=f.cell i _ (by simpa using b);grind [Addr.add]
 cases b
def Kk (w:N)(r:Nat)(c:Fin 6->Int):Prop:=r<w.heap.size/\w.cell? ⟨r,0,Y⟩=Z (I O (c 0))/\w.cell? ⟨r,1,Y⟩=Z (I O (c 1))/\w.cell? ⟨r,2,Y⟩=Z (I O (c 2))/\w.cell? ⟨r,3,Y⟩=Z (I O (c 3))/\w.cell? ⟨r,4,Y⟩=Z (I O (c 4))/\w.cell? ⟨r,5,Y⟩=Z (I O (c 5))
theorem Kk.keep {w w':N}{r:Nat}{c:Fin 6->Int}(h:Kk w r c)(b:Below w.heap.size w w'):Kk w' r c:=by
 obtain⟨a,d,e,f,g,i,j⟩:=h;exact⟨Nat.lt_of_lt_of_le a b.size,(b.cell (p:=⟨r,0,Y⟩) a).trans d,(b.cell (p:=⟨r,1,Y⟩) a).trans e,(b.cell (p:=⟨r,2,Y⟩) a).trans f,(b.cell (p:=⟨r,3,Y⟩) a).trans g,(b.cell (p:=⟨r,4,Y⟩) a).trans i,(b.cell (p:=⟨r,5,Y⟩) a).trans j⟩
theorem JC (r:Nat)(c:Fin 6->Int)(num:Int)(a:Option Addr)(b:Nat)(g:List ByteArray)(z:ByteArray)(w:N)(o:Kk w r c)(hz:Doc c num g z)(j:∀(i:Nat) x,g[i]? = Z x->∃f,a=Z f/\f.block<w.heap.size/\w.cell? (f.add i)=Z (L x)):
  Zc Ya 47 #[ca (Z ⟨r,0,Y⟩),I O num,Q a g.length b] w λe w'=>e=Ua (L z)/\Below w.heap.size w w':=by
 obtain⟨er,d⟩:=hz a b w j;obtain⟨n,k,c1,c2,c3,l,m⟩:=o;clear hz j n;go_in;go_wp2_with fail;refine d.mono ?_;clear d k c1 c2 c3 l m;rintro e w1 ⟨rfl,h⟩;change Hid _ at h;go_wp2_with fail;go_ret;exact⟨rfl,h⟩
theorem zE {w:N}{a d n c:Nat}    (j:w.ownsRow a f d (Q h n c) n b):n<=c:=by
 rcases j.2 with ⟨k,l⟩|⟨g,e,i,k,_,_,m,_⟩
 .omega
 grind
theorem Hj (l:List Ms):∀u∈aH l,u.oneCell'=true:=by
 induction l with
 | nil=>simp[aH]
 | cons m l b=>
  intro u a;simp only[aH,Za]at a;rcases a with rfl|rfl|a
  .rfl
  .rfl
  exact b u a
set_option maxRecDepth 10000 in
theorem CF (r:Nat)(c:Fin 6->Int)(dv hv:C)(a:List Ms)(F:List ByteArray)(o sr tp tt:Int)(z:ByteArray)(k:Nat)(hk:k<=F.length)(w:N)(hc:Kk w r c)(hz:Doc c o (F.take k) z)(hd:w.ownsRow 0 47 2 dv a.length (aH a))(hh:w.ownsRow 0 9 1 hv F.length (F.map Xb))(h7:a.length<=1000000000):
  Zc Ya 67 #[ca (Z ⟨r,0,Y⟩),.agg (wv dv o hv sr tp),I O (k:Int),I O tt] w λe w'=>∃e5,e=Ua (.agg (wv e5 tt (Q Y 0 0) 0 o))/\w'.ownsRow w.heap.size 47 2 e5 (a++[(⟨o,z⟩:Ms)]).length (aH (a++[(⟨o,z⟩:Ms)]))/\Below w.heap.size w w':=by
 obtain⟨J,g,g8⟩:=ak hh;obtain⟨da,dc,g6⟩:=ak hd;subst g8;subst g6;obtain⟨i0,hi,f5,f6,f7⟩:=info_parts Aa;have h6:¬g<k:=by
  have:=zE hh;omega
 have HH:=aa hh;have HD:=aa hd;have HC:=aa hc;have HZ:=aa hz;unfold wv;clear hh hd hc hz;go_in;go_upto_region 2 with fail;have X:=af.new w 34 #[Q da a.length dc,I O o,Q J F.length g,I O sr,I O tp];have T:=ai (w:=w) (.cells #[Q da a.length dc,I O o,Q J F.length g,I O sr,I O tp] 34);have b9:=af.new (w.alloc (.cells #[Q da a.length dc,I O o,Q J F.length g,I O sr,I O tp] 34)) 34 #[Q Y 0 0,I O 0,Q Y 0 0,I O 0,I O 0];have U:=ai (w:=w.alloc (.cells #[Q da a.length dc,I O o,Q J F.length g,I O sr,I O tp] 34)) (.cells #[Q Y 0 0,I O 0,Q Y 0 0,I O 0,I O 0] 34);have e9:=af.new ((w.alloc (.cells #[Q da a.length dc,I O o,Q J F.length g,I O sr,I O tp] 34)).alloc (.cells #[Q Y 0 0,I O 0,Q Y 0 0,I O 0,I O 0] 34)) 34 #[Q Y 0 0,I O tt,Q Y 0 0,I O 0,I O o];have a8:=ai (w:=(w.alloc (.cells #[Q da a.length dc,I O o,Q J F.length g,I O sr,I O tp] 34)).alloc (.cells #[Q Y 0 0,I O 0,Q Y 0 0,I O 0,I O 0] 34)) (.cells #[Q Y 0 0,I O tt,Q Y 0 0,I O 0,I O o] 34);have M:=aa (Mem.af.below (Mem.af.below X U X.lt) a8 (Mem.af.below X U X.lt).lt);have P:=aa (Mem.af.below b9 a8 b9.lt);have E:=aa e9;have G:=aa ((T.trans (U.mono T.size)).trans (a8.mono (T.trans (U.mono T.size)).size));rw[Vc]at P;rw[Vc,Vc]at E;clear X T b9 U e9 a8;generalize ((w.alloc (.cells #[Q da a.length dc,I O o,Q J F.length g,I O sr,I O tp] 34)).alloc (.cells #[Q Y 0 0,I O 0,Q Y 0 0,I O 0,I O 0] 34)).alloc (.cells #[Q Y 0 0,I O tt,Q Y 0 0,I O 0,I O o] 34)=w3 at *;obtain⟨f,c1⟩:∃f,w.heap.size=f:=⟨_,rfl⟩;have g1:=aa (aE HH G);have c6:=aa (aE HD G);have f9:=aa (HC.keep G);rw[c1]at M P E G ⊢;have y:=aa c1;clear c1;have hz:f+1+1<w3.heap.size:=E.lt;have c8:=aa (Ud w3 f 47 2);have e1:=aa (CO c6 (cP _) (Hj _));have a0:=E.Ri 0;have a1:=M.Ri 0;go_upto_region 3 with (at_builtin;refine Apn.gE _ rfl _ _ 31 rfl f 47 i0 (.agg #[I O 0,L ⟨#[]⟩]) 2 24 Vd hi f5 f6 f7 rfl (by decide) _ _ _ rfl c8 da a.length dc (aH a) rfl e1 (by unfold maxLen;omega) (by omega) (by omega) ?_;intro v2 w4 m e7 g7;rw[List.nil_append,Nat.zero_add]at m;obtain⟨s,t,rfl⟩:=Own.shape m;have V:Below w3.heap.size w3 w4:=(cu (show World.grownBy _ w4 Y from e7)).below (λk hk=>by simp at hk) (Wb _);have a5:=Mem.af.below E V E.lt;have e2:=a5.Ri 0;have f2:=a5.frozen 0);have q:an [f+1+1] w4 (w4.setCell ⟨f+1+1,0,Y⟩ (Q s a.length t)):=(an.refl _ _).set (Va.2 rfl) _ _;have b7:Hid (af (w4.setCell ⟨f+1+1,0,Y⟩ (Q s a.length t)) (f+1+1) 34 #[Q s a.length t,I O tt,Q Y 0 0,I O 0,I O o]):=a5.set 0 _;have b6:=aa (Foot.af.off (Mem.af.below M V M.lt) q (by simp;omega));have e4:=aa (Foot.af.off (Mem.af.below P V P.lt) q (by simp));have g3:=aa (aq m q (λk hk e=>by
  obtain⟨cs,p⟩:=au m hk;rw[Va.1 e]at p;exact Ty a5 p rfl))
 have a9:Below f w (w4.setCell ⟨f+1+1,0,Y⟩ (Q s a.length t)):=by
  have h1:Below f w w4:=G.trans (V.mono (by omega));exact h1.trans (q.below (λb hb=>by rw[Va.1 hb];omega) (by rw[<-y.out];exact h1.size))
 have c3:=aa a9;have g2:=aa (aE HH (by rw[y.out];exact a9));have g0:=aa (HC.keep (by rw[y.out];exact a9));clear q a5 V m e7 g7 e2 f2 a0 a1 a9 M P E G g1 c6 f9 c8 e1 hz;generalize w4.setCell ⟨f+1+1,0,Y⟩ (Q s a.length t)=w5 at *;refine dS (λW=>af W f 34 #[Q da a.length dc,I O o,Q J F.length g,I O sr,I O tp]/\af W (f+1+1) 34 #[Q s a.length t,I O tt,Q Y 0 0,I O 0,I O o]) 15 (by kernel_rfl) ?_;have b0:Below w5.heap.size w5 w5.drew:=(Below.refl _ _).drew;have l:=aa (show (λW=>af W f 34 #[Q da a.length dc,I O o,Q J F.length g,I O sr,I O tp]/\af W (f+1+1) 34 #[Q s a.length t,I O tt,Q Y 0 0,I O 0,I O o]) w5.drew from⟨b6,b7⟩);have c0:=JC r c o J g (F.take k) z w5.drew (g0.keep b0) HZ λi x hx=>ry (aE g2 b0) i x (by
  rw[Yb]at hx;split at hx
  .exact hx
  cases hx)
 rw[List.length_take,Nat.min_eq_left hk]at c0;have g5:=aa c0;clear c0;have c7:=aa b0;clear b0;generalize w5.drew=wd at *;refine Tu (i:=0) (v:=ca (Z ⟨f+1+1,0,Y⟩)) rfl (by intro W d;have k1:=d.1.Ri 1;have k2:=d.1.Ri 2;have k3:=d.2.Ri 0;go_simp) l ?_;refine Tu (i:=1) (v:=Q s a.length t) rfl (by intro W d;have k1:=d.1.Ri 1;have k2:=d.1.Ri 2;have k3:=d.2.Ri 0;go_simp) l ?_;refine Tu (i:=2) (v:=ca (Z ⟨f,1,Y⟩)) rfl (by intro W d;have k1:=d.1.Ri 1;have k2:=d.1.Ri 2;have k3:=d.2.Ri 0;go_simp) l ?_;refine Tu (i:=3) (v:=I O o) rfl (by intro W d;have k1:=d.1.Ri 1;have k2:=d.1.Ri 2;have k3:=d.2.Ri 0;go_simp) l ?_;refine Tu (i:=4) (v:=ca (Z ⟨r,0,Y⟩)) rfl (by intro W d;have k1:=d.1.Ri 1;have k2:=d.1.Ri 2;have k3:=d.2.Ri 0;go_simp) l ?_;refine Tu (i:=5) (v:=ca (Z ⟨f,1,Y⟩)) rfl (by intro W d;have k1:=d.1.Ri 1;have k2:=d.1.Ri 2;have k3:=d.2.Ri 0;go_simp) l ?_;refine Tu (i:=6) (v:=I O o) rfl (by intro W d;have k1:=d.1.Ri 1;have k2:=d.1.Ri 2;have k3:=d.2.Ri 0;go_simp) l ?_;refine Tu (i:=7) (v:=ca (Z ⟨f,2,Y⟩)) rfl (by intro W d;have k1:=d.1.Ri 1;have k2:=d.1.Ri 2;have k3:=d.2.Ri 0;go_simp) l ?_;refine Tu (i:=8) (v:=Q J F.length g) rfl (by intro W d;have k1:=d.1.Ri 1;have k2:=d.1.Ri 2;have k3:=d.2.Ri 0;go_simp) l ?_;refine Tu (i:=9) (v:=I O (k:Int)) rfl (by intro W d;have k1:=d.1.Ri 1;have k2:=d.1.Ri 2;have k3:=d.2.Ri 0;go_simp) l ?_;refine Tu (i:=10) (v:=Q J k g) rfl (by intro W d;have k1:=d.1.Ri 1;have k2:=d.1.Ri 2;have k3:=d.2.Ri 0;go_simp) l ?_;refine aW (j:=11) (λK A=>?_);go_simp;refine g5.mono ?_;rintro e w6 ⟨rfl,e6⟩;have a6:=aa (c7.trans (e6.mono c7.size));have n:=aa (And.intro (Mem.af.below b6 a6 b6.lt) (Mem.af.below b7 a6 b7.lt));refine A _ _ (λ_=>n) ?_;clear A K e6;refine aW (j:=12) (λK A=>?_);go_simp;refine A _ _ (λ_=>n) ?_;clear A K;refine aW (j:=13) (λK A=>?_);go_simp;have H:=ai (w:=w6) (.cells #[I O o,L z] 47);have b5:=aa (a6.trans (H.mono a6.size));refine A _ _ (λ_=>⟨Mem.af.below n.1 H n.1.lt,Mem.af.below n.2 H n.2.lt⟩) ?_;clear A K;have a7:=aa (aE g3 b5);have g4:=aa (show Apn.Src (w6.alloc (.cells #[I O o,L z] 47)) 2 (Z ⟨w6.heap.size,0,Y⟩) 1 [I O o,L z] from⟨rfl,by simp[Value.oneCell'],Or.inr ⟨_,rfl,cell_two_new _ _ _ _⟩⟩);have b2:=aa (Mem.af.below n.1 H n.1.lt);have b3:=aa (Mem.af.below n.2 H n.2.lt);have R:=aa (Mem.af.below e4 b5 e4.lt);clear H;generalize w6.alloc (.cells #[I O o,L z] 47)=w7 at *;refine aW (j:=14) (λK A=>?_);refine Apn.eG rfl (.tmp 21) (.tmp 33) 31 rfl 47 i0 (.agg #[I O 0,L ⟨#[]⟩]) 2 24 Vd hi f5 f6 f7 rfl (by decide) (Q s a.length t) _ _ rfl (Apn.weaken a7) _ 1 1 [I O o,L z] rfl g4 (by unfold maxLen;omega) (by omega) ?_;intro v8 w8 c2 b8 f8 _;obtain⟨B,D,rfl⟩:=ak c2;have h8:f+1<w7.heap.size:=R.lt;have b4:=Apn.sH a7 c2 f8 (by omega);have b1:=cu b8;have nr:∀{k:Nat} {cs:Array C},af w7 k 34 cs->k∉(Ze s a.length t).ownBlock.toList:=λp hm=>by
  obtain⟨g9,e8⟩:=au a7 hm;exact Ty p e8 rfl
 have d8:=aa (Foot.af.off b2 b1 (nr b2));have u:=aa (Foot.af.off b3 b1 (nr b3));have d9:=aa (Foot.af.off R b1 (nr R));have c9:=aa b4;have c4:Hid (Below f w w8):=Own.lg (c3.trans (b5.mono (by rw[<-y.out];exact c3.size))) (by omega) a7 b8;refine A _ _ (λ_=>⟨d8,u⟩) ?_;clear A K c2 b4 b8 f8 b1 nr;have e0:=u.Ri 0;have f0:=u.frozen 0;go_simp;refine aW (j:=15) (λK A=>?_);go_simp;refine A _ _ (λh=>absurd h (by decide)) ?_;clear A K;refine aW (j:=16) (λK A=>?_);go_simp;refine A _ _ (λh=>absurd h (by decide)) ?_;clear A K;refine Tz ?_;clear e0 f0;have q:an [f+1+1] w8 (w8.setCell ⟨f+1+1,0,Y⟩ (Q B (a.length+1) D)):=(an.refl _ _).set (Va.2 rfl) _ _;have S:Hid (af (w8.setCell ⟨f+1+1,0,Y⟩ (Q B (a.length+1) D)) (f+1+1) 34 #[Q B (a.length+1) D,I O tt,Q Y 0 0,I O 0,I O o]):=u.set 0 _;have d7:=aa (Foot.af.off d9 q (by simp));have d5:=aa (aq c9 q (λk hk e=>by
  obtain⟨cs,p⟩:=au c9 hk;rw[Va.1 e]at p;exact Ty u p rfl))
 have c5:Hid (Below f w (w8.setCell ⟨f+1+1,0,Y⟩ (Q B (a.length+1) D))):=c4.trans (q.below (λb hb=>by rw[Va.1 hb];omega) (by rw[<-y.out];exact c4.size));clear q;generalize w8.setCell ⟨f+1+1,0,Y⟩ (Q B (a.length+1) D)=w9 at *;have a0:=S.Ri 0;have a1:=S.Ri 1;have a2:=S.Ri 2;have a3:=S.Ri 3;have a4:=S.Ri 4;have h0:=d7.out;have d0:=h0.Ri 0;have f0:=h0.frozen 0;have h1:=h0.set 0 (Q B (a.length+1) D);have d1:=h1.Ri 1;have f1:=h1.frozen 1;have h2:=h1.set 1 (I O tt);have d2:=h2.Ri 2;have f2:=h2.frozen 2;have h3:=h2.set 2 (Q Y 0 0);have d3:=h3.Ri 3;have f3:=h3.frozen 3;have h4:=h3.set 3 (I O 0);have d4:=h4.Ri 4;have f4:=h4.frozen 4;have e3:=aa (h4.set 4 (I O o));have d6:Hid (an [f+1] w9 (((((w9.setCell ⟨f+1,0,Y⟩ (Q B (a.length+1) D)).setCell ⟨f+1,1,Y⟩ (I O tt)).setCell ⟨f+1,2,Y⟩ (Q Y 0 0)).setCell ⟨f+1,3,Y⟩ (I O 0)).setCell ⟨f+1,4,Y⟩ (I O o))):=(((((an.refl _ _).set (Va.2 rfl) _ _).set (Va.2 rfl) _ _).set (Va.2 rfl) _ _).set (Va.2 rfl) _ _).set (Va.2 rfl) _ _;clear h0 h1 h2 h3 h4;go_wp2_with fail;refine Yc (Wc rfl _ _ (f+1) 34 _ (0,0) _ rfl e3 Uc rfl (by kernel_rfl)) rfl ?_;refine⟨Q B (a.length+1) D,rfl,?_,by rw[y.out];exact c5.trans (d6.below (λb hb=>by rw[Va.1 hb];omega) (by rw[<-y.out];exact c5.size))⟩;have h5:=aq d5 d6 (λk hk e=>by
  obtain⟨cs,p⟩:=au d5 hk;rw[Va.1 e]at p;exact Ty d7 p rfl)
 rw[y.out,fu];exact h5
theorem LY (r:Nat)(c:Fin 6->Int)(f i:C)(a:List Ms)(b:List ByteArray)(o k l j:Int)(z:ByteArray)(w:N)(m:Kk w r c)(hz:Doc c o b z)(n:w.ownsRow 0 47 2 f a.length (aH a))(p:w.ownsRow 0 9 1 i b.length (b.map Xb))(g:a.length<=1000000000):
  Zc Ya 67 #[ca (Z ⟨r,0,Y⟩),.agg (wv f o i k l),I O (b.length:Int),I O j] w λe w'=>∃d,e=Ua (.agg (wv d j (Q Y 0 0) 0 o))/\w'.ownsRow w.heap.size 47 2 d (a++[(⟨o,z⟩:Ms)]).length (aH (a++[(⟨o,z⟩:Ms)]))/\Below w.heap.size w w':=by
 have h:=CF r c f i a b o k l j z b.length (Wb _) w m (by rw[Ue];exact hz) n p g;exact h
structure Wd where
 due:List Ms
 o:Int
 hs:List ByteArray
 sr:Int
 tp:Int
def dL (z:ByteArray)(a:Int)(W:Wd):Wd:=
 if a<=W.o then W else if W.hs≠[] then ⟨W.due++[⟨W.o,z⟩],a,[],0,W.o⟩ else {W with o:=a}
structure oF (w:N)(dv hv:C)(W:Wd):Prop where
 due:w.ownsRow 0 47 2 dv W.due.length (aH W.due)
 held:w.ownsRow 0 9 1 hv W.hs.length (W.hs.map Xb)
def Ki (a b:C)(W:Wd):Value:=.agg (wv a W.o b W.sr W.tp)
theorem oF.keep {w w':N}{a c:C}{W:Wd}(h:oF w a c W)(b:Below w.heap.size w w'):oF w' a c W:=⟨aE h.due b,aE h.held b⟩
theorem nU {w:N}{a c n:Nat}  {v:C}  (h:w.ownsRow a f c v n b):∀k∈v.ownBlock.toList,a<=k:=λk d=>Own.block h k (by simpa using d)
theorem Ax:∀k∈(Ze Y 0 0).ownBlock.toList,False:=by simp[Value.ownBlock]
set_option maxRecDepth 10000 in
theorem qE (r:Nat)(c:Fin 6->Int)(c5:oz c)(u:Int)(h0:0<=u)(h1:u<=1000000000)(j A:C)(W:Wd)(z:ByteArray)(w:N)(hc:Kk w r c)(HN:w.cell? ⟨r,8,Y⟩=Z (I O u))(HZ:Doc c W.o W.hs z)(hW:oF w j A W)(c7:W.due.length<=1000000000)(e0:W.hs.length<=1000000000):
  Zc Ya 42 #[ca (Z ⟨r,0,Y⟩),Ki j A W] w λe w'=>∃K a5,e=Ua (Ki K a5 (dL z (u / c 0) W))/\oF w' K a5 (dL z (u / c 0) W)/\(∀k∈K.ownBlock.toList,k∈j.ownBlock.toList\/w.heap.size<=k)/\(∀k∈a5.ownBlock.toList,k∈A.ownBlock.toList\/w.heap.size<=k)/\Below w.heap.size w w'/\(¬(W.o<u / c 0/\W.hs≠[])->K=j/\a5=A):=by
 have e4:=Dd.oz.pos c5;have e6:¬c 0=0:=by omega
 obtain⟨m,X⟩:∃m,u / c 0=m:=⟨_,rfl⟩;have e1:u.tdiv (c 0)=m:=by grind
 have e7:0<=m:=by rw[<-X];exact Int.ediv_nonneg h0 (by omega)
 have e8:m<=1000000000:=by rw[<-X];exact Int.le_trans (Int.ediv_le_self _ h0) h1
 have e2:IntKind.i64.wrap m=m:=IntWalk.i64_in _ (by omega);rw[X];obtain⟨T,U,c6⟩:=ak hW.due;obtain⟨V,t,c8⟩:=ak hW.held;have HW:=aa hW;have HC:=aa hc;change Hid _ at HZ HN;obtain⟨d,o,B,l,v⟩:=W;simp only at c6 c8 c7 e0;subst c6;subst c8;unfold Ki wv;simp only;clear hW hc X;have b7:=af.new w 34 #[Q T d.length U,I O o,Q V B.length t,I O l,I O v];have b5:=ai (w:=w) (.cells #[Q T d.length U,I O o,Q V B.length t,I O l,I O v] 34);have b8:=af.new (w.alloc (.cells #[Q T d.length U,I O o,Q V B.length t,I O l,I O v] 34)) 34 #[Q Y 0 0,I O 0,Q Y 0 0,I O 0,I O 0];have b6:=ai (w:=w.alloc (.cells #[Q T d.length U,I O o,Q V B.length t,I O l,I O v] 34)) (.cells #[Q Y 0 0,I O 0,Q Y 0 0,I O 0,I O 0] 34);have g:=aa (Mem.af.below b7 b6 b7.lt);rw[Vc]at b8;have n:=aa b8;have D:=aa (b5.trans (b6.mono b5.size));clear b7 b5 b8 b6;go_in;go_upto_region 1 with fail;generalize (w.alloc (.cells #[Q T d.length U,I O o,Q V B.length t,I O l,I O v] 34)).alloc (.cells #[Q Y 0 0,I O 0,Q Y 0 0,I O 0,I O 0] 34)=w2 at *;have c2:=aa (HW.keep D);have S:=aa (HC.keep D);have c1:=aa ((D.cell (p:=⟨r,8,Y⟩) HC.1).trans HN);generalize i:w.heap.size=f at g n D ⊢;change Hid _ at i;have C0:∀s:Bw w2,s.val.cell? ⟨r,0,Y⟩=Z (I O (c 0)):=λs=>(S.keep s.is).2.1
 have C8:∀s:Bw w2,s.val.cell? ⟨r,8,Y⟩=Z (I O u):=λs=>(s.is.cell (p:=⟨r,8,Y⟩) S.1).trans c1
 go_wp2_with fail;refine aU ?_;repeat go_big_quiet_step (fail)
 refine wpQuiet_nil ?_;rintro _ ⟨s,rfl⟩;have G:Hid (Below f w s.val):=D.trans (s.is.mono (by rw[<-i.out];exact D.size));have g:=aa (Mem.af.below g s.is g.lt);have n:=aa (Mem.af.below n s.is n.lt);have c3:=aa (c2.keep s.is);have d6:=aa (S.keep s.is);clear C0 C8 e1 e2 c2 S c1 D;generalize s.val=w3 at *
 -- a world stored into the result
 have a7:=aa (show ∀(x:N) (j A:C) (o l v:Int),af x (f+1) 34 #[Q Y 0 0,I O 0,Q Y 0 0,I O 0,I O 0]->
   x.cell? ⟨f+1,0,Y⟩=Z (Q Y 0 0)/\x.frozen? ⟨f+1,0,Y⟩=false/\(x.setCell ⟨f+1,0,Y⟩ j).cell? ⟨f+1,1,Y⟩=Z (I O 0)/\(x.setCell ⟨f+1,0,Y⟩ j).frozen? ⟨f+1,1,Y⟩=false/\
   ((x.setCell ⟨f+1,0,Y⟩ j).setCell ⟨f+1,1,Y⟩ (I O o)).cell? ⟨f+1,2,Y⟩=Z (Q Y 0 0)/\((x.setCell ⟨f+1,0,Y⟩ j).setCell ⟨f+1,1,Y⟩ (I O o)).frozen? ⟨f+1,2,Y⟩=false/\
   (((x.setCell ⟨f+1,0,Y⟩ j).setCell ⟨f+1,1,Y⟩ (I O o)).setCell ⟨f+1,2,Y⟩ A).cell? ⟨f+1,3,Y⟩=Z (I O 0)/\(((x.setCell ⟨f+1,0,Y⟩ j).setCell ⟨f+1,1,Y⟩ (I O o)).setCell ⟨f+1,2,Y⟩ A).frozen? ⟨f+1,3,Y⟩=false/\
   ((((x.setCell ⟨f+1,0,Y⟩ j).setCell ⟨f+1,1,Y⟩ (I O o)).setCell ⟨f+1,2,Y⟩ A).setCell ⟨f+1,3,Y⟩ (I O l)).cell? ⟨f+1,4,Y⟩=Z (I O 0)/\((((x.setCell ⟨f+1,0,Y⟩ j).setCell ⟨f+1,1,Y⟩ (I O o)).setCell ⟨f+1,2,Y⟩ A).setCell ⟨f+1,3,Y⟩ (I O l)).frozen? ⟨f+1,4,Y⟩=false/\
   af (((((x.setCell ⟨f+1,0,Y⟩ j).setCell ⟨f+1,1,Y⟩ (I O o)).setCell ⟨f+1,2,Y⟩ A).setCell ⟨f+1,3,Y⟩ (I O l)).setCell ⟨f+1,4,Y⟩ (I O v)) (f+1) 34 #[j,I O o,A,I O l,I O v]/\
   an [f+1] x (((((x.setCell ⟨f+1,0,Y⟩ j).setCell ⟨f+1,1,Y⟩ (I O o)).setCell ⟨f+1,2,Y⟩ A).setCell ⟨f+1,3,Y⟩ (I O l)).setCell ⟨f+1,4,Y⟩ (I O v)) from λx j A o l v P=>
  ⟨P.Ri 0,P.frozen 0,(P.set 0 j).Ri 1,(P.set 0 j).frozen 1,((P.set 0 j).set 1 (I O o)).Ri 2,((P.set 0 j).set 1 (I O o)).frozen 2,(((P.set 0 j).set 1 (I O o)).set 2 A).Ri 3,(((P.set 0 j).set 1 (I O o)).set 2 A).frozen 3,((((P.set 0 j).set 1 (I O o)).set 2 A).set 3 (I O l)).Ri 4,((((P.set 0 j).set 1 (I O o)).set 2 A).set 3 (I O l)).frozen 4,((((P.set 0 j).set 1 (I O o)).set 2 A).set 3 (I O l)).set 4 (I O v),(((((an.refl _ _).set (Va.2 rfl) _ _).set (Va.2 rfl) _ _).set (Va.2 rfl) _ _).set (Va.2 rfl) _ _).set (Va.2 rfl) _ _⟩)
 have a1:=g.Ri 1;by_cases c9:m<=o
 .have a0:=g.Ri 0;have a2:=g.Ri 2;have a3:=g.Ri 3;have a4:=g.Ri 4;obtain⟨d0,f0,d1,f1,d2,f2,d3,f3,d4,f4,HT,hO⟩:=a7.out w3 (Q T d.length U) (Q V B.length t) o l v n;change Hid _ at HT;have HO:=aa hO;have d7:=aa c9;clear hO;go_wp2_with fail;refine Yc (Wc rfl _ _ (f+1) 34 _ (0,0) _ rfl HT Uc rfl (by kernel_rfl)) rfl ?_;have E:dL z m ⟨d,o,B,l,v⟩=⟨d,o,B,l,v⟩:=by unfold dL;rw[if_pos d7.out]
  rw[E];have q:Below f w _:=G.trans (HO.below (λb hb=>by rw[Va.1 hb];omega) (by rw[<-i.out];exact G.size));exact⟨_,_,rfl,HW.keep (by rw[i.out];exact q),λk y=>Vb y,λk y=>Vb y,by rw[i.out];exact q,λ_=>⟨rfl,rfl⟩⟩
 have a0:=g.Ri 0;have a2:=g.Ri 2;have a3:=g.Ri 3;have a4:=g.Ri 4;by_cases M:B=[]
 .have R:B.length=0:=by rw[M];rfl
  have E:dL z m ⟨d,o,B,l,v⟩=⟨d,m,B,l,v⟩:=by unfold dL;grind
  change Hid _ at E;rw[R]at a2;have g1:=g.frozen 1;have c0:an [f] w3 (w3.setCell ⟨f,1,Y⟩ (I O m)):=(an.refl _ _).set (Va.2 rfl) _ _;have H:=g.set 1 (I O m);have d5:=Foot.af.off n c0 (by simp);have J:Hid (Below f w (w3.setCell ⟨f,1,Y⟩ (I O m))):=G.trans (c0.below (λb hb=>by rw[Va.1 hb];exact Wb _) (by rw[<-i.out];exact G.size));have b0:=H.Ri 0;have b1:=H.Ri 1;have b2:=H.Ri 2;have b3:=H.Ri 3;have b4:=H.Ri 4;rw[R]at b2;obtain⟨d0,f0,d1,f1,d2,f2,d3,f3,d4,f4,HT,hO⟩:=a7.out (w3.setCell ⟨f,1,Y⟩ (I O m)) (Q T d.length U) (Q V 0 t) m l v d5;change Hid _ at HT;have HO:=aa hO;have c4:=aa R;clear hO H d5 c0 M;rw[R];clear R;go_wp2_with fail;refine Yc (Wc rfl _ _ (f+1) 34 _ (0,0) _ rfl HT Uc rfl (by kernel_rfl)) rfl ?_;rw[E.out];have q:Below f w _:=J.trans (HO.below (λb hb=>by rw[Va.1 hb];omega) (by have:=J.size;have:=i.out;omega));have y:=HW.keep (by rw[i.out];exact q);refine⟨Q T d.length U,Q V 0 t,rfl,⟨y.due,?_⟩,λk y=>Vb y,λk y=>Vb (by rw[c4.out];exact y),by rw[i.out];exact q,λ_=>⟨rfl,by rw[c4.out]⟩⟩;have h5:=y.held;grind [Hid]
 have e3:(0:Int)<(B.length:Int):=by
  have:B.length≠0:=λe=>M (List.length_eq_zero_iff.1 e)
  omega
 have E:dL z m ⟨d,o,B,l,v⟩=⟨d++[⟨o,z⟩],m,[],0,o⟩:=by unfold dL;grind
 change Hid _ at E;have b9:=LY r c (Q T d.length U) (Q V B.length t) d B o l v m z w3 d6 HZ c3.due c3.held c7;have d8:=aa (And.intro (Int.not_le.1 c9) M);unfold wv at b9;clear M;go_wp2_with fail;refine b9.mono ?_;clear b9 a0 a1 a2 a3 a4;rintro e w4 ⟨K,rfl,F,q⟩;obtain⟨a8,a9,rfl⟩:=ak F;have HR:=aa F;have J:Hid (Below f w w4):=G.trans (q.mono (by rw[<-i.out];exact G.size));have e9:=n.lt;have a6:=aa (show ∀k∈(Ze a8 (d++[(⟨o,z⟩:Ms)]).length a9).ownBlock.toList,w.heap.size<=k/\w3.heap.size<=k from λk y=>by
  have:=nU F k y;have:=i.out;omega)
 obtain⟨d0,f0,d1,f1,d2,f2,d3,f3,d4,f4,HT,hO⟩:=a7.out w4 (Q a8 (d++[(⟨o,z⟩:Ms)]).length a9) (Q Y 0 0) m 0 o (Mem.af.below n q n.lt);change Hid _ at HT;have HO:=aa hO;clear hO F q;generalize e5:(d++[(⟨o,z⟩:Ms)]).length=nl at *;go_wp2_with fail;refine Yc (Wc rfl _ _ (f+1) 34 _ (0,0) _ rfl HT Uc rfl (by kernel_rfl)) rfl ?_;rw[E.out];have d9:Below f w _:=J.trans (HO.below (λb hb=>by grind) (by rw[<-i.out];exact J.size));refine⟨Q a8 nl a9,Q Y 0 0,rfl,⟨?_,⟨rfl,Vb ⟨rfl,rfl⟩⟩⟩,λk y=>Or.inr (a6.out k y).1,λk y=>(Ax k y).elim,by rw[i.out];exact d9,λh=>absurd d8.out h⟩;have h6:=aq (Apn.weaken HR) HO (λk y e=>by
  have:=(a6.out k y).2;grind)
 grind
structure Ac where
 a0:Int
 a1:Int
 a2:Int
 a3:Int
 s:ByteArray
def Ac.cs (o:Ac):Array Value:=#[I O o.a0,I O o.a1,I O o.a2,I O o.a3,L o.s]
structure Rn where
 c:Fin 6->Int
 now:Int
 W:Wd
 ever:List Ms
 gone:List Int
 sl:List Int
 lim:Bool
 sp:Bool
 d:Ac
structure Rp where
 xv:C
 bx:Nat
 dv:C
 hv:C
 ev:C
 gv:C
 lv:C
 kv:C
 ls:List (C×C)
 mbs:List Nat
variable {w w' w1 : N} {r n : Nat} {R R' : Rn} {p p' : Rp} {F F' mbs : List Nat} {v g : C} {z : Int}
def dU (p:Rp):List Value:=[p.dv,p.hv,p.ev,p.gv,p.lv,p.kv]
def lb (p:Rp):List Nat:=(dU p).flatMap (·.ownBlock.toList)++p.mbs
theorem lE (b:v∈dU p)  (a:e∈v.ownBlock.toList):e∈lb p:=eb _ (Zd.2 ⟨v,b,a⟩)
def Marks (w:N)(mbs:List Nat)(v:C)(n:Nat)(z:Int):Prop:=
 ∃c cv,v=Q c n cv/\(n≠0->∃b a,c=Z ⟨b,0,Y⟩/\b∈mbs/\n<=cv/\af w b 47 a/\∀j:Nat,j<n->a[j*2]? = Z (I O z)/\a[j*2+1]? = Z (L ⟨#[]⟩))
def fh (w:N)(mbs:List Nat)(i:Nat)(v g:C):Prop:=∃n:Nat,n<=1000000000/\Marks w mbs v n (-1 - (i:Int))/\Marks w mbs g (n+3) (-1 - (i:Int))
theorem Marks.off (h:Marks w mbs v n z)(p:an F w w')(m:∀k∈mbs,k∉F):Marks w' mbs v n z:=by
 obtain⟨c,cv,j,l⟩:=h;refine⟨c,cv,j,λo=>?_⟩;obtain⟨b,d,e,a,f,g,i⟩:=l o;exact⟨b,d,e,a,f,Foot.af.off g p (m b a),i⟩
theorem fh.off (h:fh w mbs e v g)(b:an F w w')(a:∀k∈mbs,k∉F):fh w' mbs e v g:=
 have ⟨n,c,d,f⟩:=h
 ⟨n,c,d.off b a,f.off b a⟩
def fe (R:Rn)(p:Rp):Array Value:=#[I O (R.c 0),I O (R.c 1),I O (R.c 2),I O (R.c 3),I O (R.c 4),I O (R.c 5),p.xv,ca (Z ⟨p.bx,0,Y⟩),I O R.now,p.dv,I O R.W.o,p.hv,I O R.W.sr,I O R.W.tp,p.ev,p.gv,.bool R.lim,.bool R.sp,I O R.d.a0,I O R.d.a1,I O R.d.a2,I O R.d.a3,L R.d.s,p.lv,p.kv,.bool true]
structure Rows (w:N)(R:Rn)(p:Rp):Prop where
 wd:oF w p.dv p.hv R.W
 ever:w.ownsRow 0 47 2 p.ev R.ever.length (aH R.ever)
 gone:w.ownsRow 0 3 1 p.gv R.gone.length (R.gone.map (Value.int O))
 lists:w.ownsRow 0 31 1 p.lv p.ls.length (p.ls.map (·.1))
 grown:w.ownsRow 0 31 1 p.kv p.ls.length (p.ls.map (·.2))
 aG:∀i e,p.ls[i]? = Z e->fh w p.mbs i e.1 e.2
 ml:∀k∈p.mbs,∃cs,af w k 47 cs
 e1:∀k∈p.ev.ownBlock.toList,k∉p.dv.ownBlock.toList/\k∉p.mbs
 e2:∀k∈p.lv.ownBlock.toList,k∉p.kv.ownBlock.toList
structure RA (w:N)(r:Nat)(R:Rn)(p:Rp)(F:List Nat):Prop where
 head:af w r 40 (fe R p)
 rows:Rows w R p
 rm:r∉p.mbs
 ap:∀k∈r ::lb p,k∉F
theorem Rows.off (h:Rows w R p)(a:an F w w')(d:∀k∈lb p,k∉F):Rows w' R p:=
 have b:∀v∈dU p,∀k∈v.ownBlock.toList,k∉F:=λv b k c=>d k (lE b c)
 have f:∀k∈p.mbs,k∉F:=λk c=>d k (qb _ c)
 ⟨⟨aq h.wd.due a (b _ (by simp[dU])),aq h.wd.held a (b _ (by simp[dU]))⟩,aq h.ever a (b _ (by simp[dU])),aq h.gone a (b _ (by simp[dU])),aq h.lists a (b _ (by simp[dU])),aq h.grown a (b _ (by simp[dU])),λi e g=>(h.aG i e g).off a f,λk c=>(h.ml k c).imp λl j=>Foot.af.off j a (f k c),h.e1,h.e2⟩
theorem Rows.il (h:Rows w R p):∀k∈lb p,∃t b,af w k t b/\(t≠40\/k∈p.mbs):=λk a=>by
 rcases Ub.1 a with a|a
 .obtain⟨v,d,a⟩:=Zd.1 a;simp only[dU,Za,List.not_mem_nil,or_false]at d;rcases d with rfl|rfl|rfl|rfl|rfl|rfl
  .obtain⟨b,c⟩:=au h.wd.due a;grind
  .obtain⟨b,c⟩:=au h.wd.held a;grind
  .obtain⟨b,c⟩:=au h.ever a;grind
  .obtain⟨b,c⟩:=au h.gone a;grind
  .obtain⟨b,c⟩:=au h.lists a;grind
  obtain⟨b,c⟩:=au h.grown a;grind
 obtain⟨b,c⟩:=h.ml k a;grind
theorem kE {a c n:Nat}   (h:w.ownsRow a f c v n b)  (d:e∈v.ownBlock.toList):e<w.heap.size:=
 have ⟨_,g⟩:=au h d
 g.lt
theorem RA.lt (h:RA w r R p F):∀k∈r ::lb p,k<w.heap.size:=λk a=>by
 rcases Za.1 a with rfl|a
 .exact h.head.lt
 obtain⟨t,c,b,_⟩:=h.rows.il k a;exact b.lt
theorem Kj {a:Array C}(g:af w r 40 a)(h:Rows w R p)(f:r∉p.mbs):r∉lb p:=λc=>by
 obtain⟨t,b,d,e⟩:=h.il r c;grind [aA]
theorem RA.off (h:RA w r R p F)(b:an F' w w')(a:∀k∈r ::lb p,k∉F'):RA w' r R p F:=
 ⟨Foot.af.off h.head b (a r (Xa ..)),h.rows.off b λk c=>a k (Wa _ c),h.rm,h.ap⟩
theorem RA.keep (h:RA w r R p F)(a:Below w.heap.size w w'):RA w' r R p F:=h.off (F':=[]) (an.ag a) λ_ _=>by simp
theorem RA.body (h:RA w r R p F)(b:∀k∈F',k∈F\/w.heap.size<=k):RA w r R p F':=
 {h with ap:=λk a c=>(b k c).elim (h.ap k a) λe=>Nat.lt_irrefl _ (Nat.lt_of_lt_of_le (h.lt k a) e)}
theorem RA.call (h:RA w r R p F)(c:an F w w')(b:∀k∈F',k∈F\/w.heap.size<=k):RA w' r R p F':=
 have a:=h.body b
 (show RA w r R p F' from a).off c h.ap
theorem RA.put (h:RA w r R p F)(g:an [r] w w')(f:af w' r 40 (fe R' p'))(d:Rows w R' p')(c:r∉p'.mbs)(a:∀k∈lb p',k∉F):RA w' r R' p' F:=
 ⟨f,d.off g λ_ b e=>Kj h.head d c (Va.1 e▸b),c,λk b=>(Za.1 b).elim (λe=>e▸h.ap r (Xa ..)) (a k)⟩
theorem RA.set (h:RA w r R p F)(u:an [r] w w')(q:af w' r 40 (fe R' p'))(g:R'.W.due=R.W.due/\R'.W.hs=R.W.hs)(n:R'.ever=R.ever)(o:R'.gone=R.gone)(v:dU p'=dU p/\p'.ls=p.ls/\p'.mbs=p.mbs):RA w' r R' p' F:=by
 obtain⟨f,b,c⟩:=v;simp only[dU,List.cons.injEq,and_true]at f;obtain⟨i,j,l,m,d,e⟩:=f;have t:lb p'=lb p:=by grind [lb,dU]
 have a:=h.rows;exact h.put u q ⟨⟨by rw[g.1,i];exact a.wd.due,by rw[g.2,j];exact a.wd.held⟩,by rw[n,l];exact a.ever,by rw[o,m];exact a.gone,by rw[b,d];exact a.lists,by rw[b,e];exact a.grown,by rw[b,c];exact a.aG,by rw[c];exact a.ml,by grind [Rows.e1],by rw[d,e];exact a.e2⟩ (c▸h.rm) (t▸λk s=>h.ap k (Wa _ s))
theorem RA.cfg (h:RA w r R p F):Kk w r R.c:=by
 have a:=h.head;exact⟨a.lt,a.Ri 0,a.Ri 1,a.Ri 2,a.Ri 3,a.Ri 4,a.Ri 5⟩
end Lw
namespace Dd
open Go.RowKit Go.Maps Mem Foot Bytes Im Wm Hi Plainw Cq Dm Dh Jr Wi Sk Hn Kr
theorem Sy (a:Option Addr)(n c:Nat)(w:N):Zc Ya 110 #[Q a n c] w λe w'=>e=Ua (.func (.func 148) #[] #[ca (Z ⟨w.heap.size,0,Y⟩)])/\w'=w.alloc (.cells #[Q a n c] 125):=by
 go_in;go_wp2_with fail;go_ret;exact⟨rfl,rfl⟩
def hz (n:Int):Array Value:=#[Q Y 0 0,I O n,Q Y 0 0,Q Y 0 0,I O (-1),I O (-1),I O 0]
attribute [local go_sem] Oper.semAt_some
theorem He (w:N):(w.alloc (.map #[] 0)).ownsMap Ya 3 (kg Em) w.heap.size 0 (sD []):=World.ownsMap_made w Ya 3 (kg Em)
theorem lR {P:Program}{fn:Func}{t p u:Tmp}{ty:TypeId}(h:fn.results=#[.tmp t,.cell p ty,.tmp u])(b:Array C)(w:N)(a:Addr)(v:C)(e:b.getD p undef=ca (Z a))(d:(loadVar ty a).run P w=.ok v w):(results fn b).run P w=.ok (.tuple #[b.getD t undef,v,b.getD u undef]) w:=by
 have c:b[p]?.getD undef=ca (Z a):=by simpa using e
 simp[results,h,c,asAddr,d]
def J0 (a:Int):Jn:=⟨a,[],[],0,⟨#[]⟩,0,-1⟩
def ij:Array Value:=#[Q Y 0 0,I O 0,Q Y 0 0,Q Y 0 0]
end Dd
end Go.Proofs.YtpndiccohnafbaaGreatDoor
