/- Proved: P6 to P11, the law All: whatever is done to two daemons, each with its configuration and its disk, in turn, whatever is full, wherever the power fails, started again and again, it returns true, and all that is handed in reads afterwards as it did: every answer is the document's; what was synced is there; a window's text never changes; what was acked is due no more; the journal stays small. Its condition: what is handed in is of bulk at most 1048576 (values and letters). The card: the tables of the row's list are tied to the program's text by the given tie. -/
import Derived.Test.YtpndiccohnafbaaGreatDoorCards
import Derived.Test.YtpndiccohnafbaaGreatDoorTie
import Derived.Test.YtpndiccohnafbaaGreatDoorPlainw
import Derived.WalkKit
import Derived.ProofKit
import Derived.OpenShut
import Derived.SizedLaws
import Derived.Lay
import Derived.Deep.DeepHandedRow
import Derived.Lib.LaidTab
import Derived.Lib.SmallJoins
import Derived.Test.YtpndiccohnafbaaGreatDoorChecked
import Derived.JoinedOf
import Derived.KernelRfl
import Derived.Test.YtpndiccohnafbaaGreatDoorUxy
import Derived.ChangeMaps5
import Derived.Carry
import Derived.Deep.Slices
import Derived.Stop.LaidErr
import Derived.SevenTiedAt
section
open Go.Value renaming int->I,cells->Xa
open Go.IntKind renaming i64->O
open Go.Deep renaming hone_of->ca
open List.cons renaming injEq->Ua
open Go.Lit renaming int->Va
open Go.DataW renaming trod_int->Wa,trod->Za
open Go.ChangeShapes renaming trod_int_mk->Ya
open Go.Proofs.Tryz renaming prog->eb
namespace Go.Proofs.YtpndiccohnafbaaGreatDoor.Rowkit
open Go.ChangeShapes Go.WideShapes Go.ChangeAt Go.RowKit Go.Joins
theorem own:ownKnob eb.godebug=none:=by kernel_rfl
theorem RY : eb.globalNamed "internal/strconv.uint64pow10" = some 0 := by kernel_rfl
theorem Gy:(eb.globals[0]?).map (·.type)=some 335:=by kernel_rfl
theorem NU:eb.cellsOf 335=20:=by kernel_rfl
theorem NV:eb.cellsOf 237=1:=by kernel_rfl
theorem ep {P:Program}{w:World}{n:String}{d:DataW Unit}{r:List (String×DataW Unit)}(h:laidMet P ((n,d) ::r) w):laidMet P r w:=by
 obtain⟨l,⟨g,t,k,f,p,q,_,_,_,_,j,rfl⟩,c,a⟩:=h;exact⟨q,j,c.sublist (List.sublist_append_right _ _),λb e i=>a b e (List.mem_append_right _ i)⟩
theorem Pj {W : World} {a b : String × DataW Unit} {r : List (String × DataW Unit)} (h : laidMet eb (a :: b :: ("internal/strconv.uint64pow10", Rows.laid_internal_strconv_uint64pow10) :: r) W) : Plainw.gp W :=
 Lib.tabIs_of_head (rest:=r) RY Gy Tryz.underlying335 Tryz.underlying237 NV NU (ep (ep h))
section
variable {H : Type} {enc : TypeId × Value -> H} {P : Program} {w : World} {base : Nat} {spare : Nat -> Bool} {held : Bool}
variable {a b c d e f:Field}{g h:TypeId}
theorem NM {α:Type}{d:Array α}(h:d.size=6):∃a c1 c2 c3 b c,d=#[a,c1,c2,c3,b,c]:=by
 obtain⟨l⟩:=d
 match l,h with
 | [a,c1,c2,c3,b,c],_=>exact⟨a,c1,c2,c3,b,c,rfl⟩
theorem Qr {α:Type}{l:List α}(h:l.length=6):∃a c1 c2 c3 b c,l=[a,c1,c2,c3,b,c]:=by
 match l,h with
 | [a,c1,c2,c3,b,c],_=>exact⟨a,c1,c2,c3,b,c,rfl⟩
theorem xU {r:Reach}{b0:Nat}   {v:Value}{y:DataW H}{p:List MemPlace}(A:P.underlying g=some (.struct #[a,b,c,d,e,f]))(i:Deep.oneCellFields P #[a,b,c,d,e,f]=true)(hC:P.cellsOf g=6)
  (k:P.underlying h=some (.int .i64)) (e0:a.type=h) (e1:b.type=h) (e2:c.type=h) (e3:d.type=h) (e4:e.type=h) (e5:f.type=h)
  (hv:Value.okWide P w r b0 g v) (a6:DataW.Trod enc P w base spare held g v y p):
  ∃l m o q s t:Int,v=.agg #[I O l,I O m,I O o,I O q,I O s,I O t]/\y=.agg [.lit (.int O l),.lit (.int O m),.lit (.int O o),.lit (.int O q),.lit (.int O s),.lit (.int O t)]/\p=[]/\
   (Va O l).wf=true/\(Va O m).wf=true/\(Va O o).wf=true/\(Va O q).wf=true/\(Va O s).wf=true/\(Va O t).wf=true:=by
 obtain⟨cs,rfl,u⟩:=okWide_struct A hv;obtain⟨c0,c1,c2,c3,c4,c5,rfl⟩:=NM (u.trans hC);obtain⟨z,hf⟩:=a6;obtain⟨xs,n,_,x,_,hlen,j⟩:=DataW.trod_struct A hf;obtain⟨y0,y1,y2,y3,y4,y5,rfl⟩:=Qr hlen;have U:=j 0 a rfl;obtain⟨o0,B⟩:=ca i 0 a rfl;rw[e0]at U B;obtain⟨l,K,rfl,w0⟩:=Wa k (show Za enc P w base spare held n h [c0]=some y0 by simpa[Xa,o0,B] using U);simp only[Ua,and_true]at K;subst K;have V:=j 1 b rfl;obtain⟨o1,D⟩:=ca i 1 b rfl;rw[e1]at V D;obtain⟨m,q1,rfl,w1⟩:=Wa k (show Za enc P w base spare held n h [c1]=some y1 by simpa[Xa,o1,D] using V);simp only[Ua,and_true]at q1;subst q1;have W:=j 2 c rfl;obtain⟨o2,E⟩:=ca i 2 c rfl;rw[e2]at W E;obtain⟨o,M,rfl,w2⟩:=Wa k (show Za enc P w base spare held n h [c2]=some y2 by simpa[Xa,o2,E] using W);simp only[Ua,and_true]at M;subst M;have X:=j 3 d rfl;obtain⟨o3,F⟩:=ca i 3 d rfl;rw[e3]at X F;obtain⟨q,R,rfl,w3⟩:=Wa k (show Za enc P w base spare held n h [c3]=some y3 by simpa[Xa,o3,F] using X);simp only[Ua,and_true]at R;subst R;have t4:=j 4 e rfl;obtain⟨o4,G⟩:=ca i 4 e rfl;rw[e4]at t4 G;obtain⟨s,S,rfl,w4⟩:=Wa k (show Za enc P w base spare held n h [c4]=some y4 by simpa[Xa,o4,G] using t4);simp only[Ua,and_true]at S;subst S;have t5:=j 5 f rfl;obtain⟨o5,J⟩:=ca i 5 f rfl;rw[e5]at t5 J;obtain⟨t,T,rfl,w5⟩:=Wa k (show Za enc P w base spare held n h [c5]=some y5 by simpa[Xa,o5,J] using t5);simp only[Ua,and_true]at T;subst T;simp only[Prod.mk.injEq]at x;exact⟨l,m,o,q,s,t,rfl,x.1,by simpa using x.2,w0,w1,w2,w3,w4,w5⟩
theorem yx (A:P.underlying g=some (.struct #[a,b,c,d,e,f]))(i:Deep.oneCellFields P #[a,b,c,d,e,f]=true)(z:P.cellsOf g=6)
  (j:P.underlying h=some (.int .i64)) (r:a.type=h) (t:b.type=h) (u:c.type=h) (v:d.type=h) (x:e.type=h) (y:f.type=h)
  {k l m o p q:Int} (K:(Va O k).wf=true) (M:(Va O l).wf=true) (R:(Va O m).wf=true) (S:(Va O o).wf=true) (T:(Va O p).wf=true) (U:(Va O q).wf=true):
  DataW.Trod enc P w base spare held g (.agg #[I O k,I O l,I O m,I O o,I O p,I O q]) (.agg [.lit (.int O k),.lit (.int O l),.lit (.int O m),.lit (.int O o),.lit (.int O p),.lit (.int O q)]) []:=by
 obtain⟨B,s⟩:=ca i 0 a rfl;rw[r]at s;have D:=(ca i 1 b rfl).1;have E:=(ca i 2 c rfl).1;have F:=(ca i 3 d rfl).1;have G:=(ca i 4 e rfl).1;have H:=(ca i 5 f rfl).1;have J:=trod_struct_mk (enc:=enc) (w:=w) (base:=base) (spare:=spare) (held:=held) (n:=1) (cs:=[I O k,I O l,I O m,I O o,I O p,I O q]) (xs:=[(.lit (.int O k),[]),(.lit (.int O l),[]),(.lit (.int O m),[]),(.lit (.int O o),[]),(.lit (.int O p),[]),(.lit (.int O q),[])]) A (by simp[z])
  (by simp[B,s,r,D,t,E,u,F,v,G,x,H,y,Ya 0 j K,Ya 0 j M,Ya 0 j R,Ya 0 j S,Ya 0 j T,Ya 0 j U])
 exact⟨_,by simpa[Xa] using J⟩
end
end Go.Proofs.YtpndiccohnafbaaGreatDoor.Rowkit
end
set_option maxHeartbeats 9000000
open Go.IntKind renaming i64->O
open Option renaming some->Z
open Go.Value renaming int->I
open Go.Proofs.Tryz renaming prog->ca,underlying3->Va,underlying23->Za,f3->qb,underlying9->Yb,checked->Uc
open Go.World renaming laidAll->Ua,block_lt_of_cell?->Ya
open List.cons renaming injEq->Wa
open Go.DataW renaming trod->Xa,trod_int->Xb,TrodAll->Zb
open Go renaming Value->eb,TypeId->Ub,trodAll_cons_mk->Wb
open Go.Deep renaming hone_of->Vb
open Option.some renaming inj->Vc
namespace Go.Proofs.YtpndiccohnafbaaGreatDoor
namespace Fctal
theorem RR {a b:Bool}(c:a=true)(d:b=true):(a&&b)=true:=by rw[c,d];rfl
set_option maxRecDepth 100000 in
theorem facts:joinedFacts ca 3 qb (Rows.OpenSpec.upto Rows.allSpec).bare Rows.allUptoRow=true:=by
 unfold joinedFacts;repeat (with_reducible refine RR ?_ ?_)
 all_goals (as_aux_lemma=>kernel_rfl)
end Fctal
namespace Vh
open Go.ChangeShapes Go.WideShapes Go.ChangeAt Go.RowKit Go.Joins Rowkit Lw
theorem qk:ca.cellsOf 23=6:=by kernel_rfl
theorem sX {a:Int}(h:(Lit.int O a).wf=true):-9223372036854775808<=a/\a<=9223372036854775807:=by
 have b:IntKind.i64.min = -9223372036854775808:=by decide
 have c:IntKind.i64.max=9223372036854775807:=by decide
 grind [Lit.wf]
def SU (a b c d e f:Int):Fin 6->Int
 | 0=>a
 | 1=>b
 | 2=>c
 | 3=>d
 | 4=>e
 | 5=>f
section
variable {H : Type} {enc : Ub × eb -> H} {P : Program}
theorem AK {f:Func}{s:ChangeSpec}{c fresh e l:Bool}{W n:World}{d:Array eb}{v:eb}{o q:List (DataW H)}{a pa pv:List MemPlace}
  (x:DataW.Whole enc P f.params.toList s.vars c W d.toList o q a)
  (k:∀(b:Nat) (m:Nat->Bool) (E:Bool),Zb enc P n b m E f.resultTypes.toList (v.resultList f.resultTypes.size) (s.fn H (o++q)).results [])
  (g:∀m:Nat->Bool,(∀p∈a,m p.block=true)->Zb enc P n 0 m true f.params.toList d.toList (s.fn H (o++q)).args pa)
  (h:∀m:Nat->Bool,(∀p∈a,m p.block=true)->DataW.TrodVars enc P n m s.vars (s.fn H (o++q)).vars pv)
  (F:a=pa++pv) (B:Below W.heap.size W n)
  (A:∀(j:Nat) (t:Ub) (r:eb),f.resultTypes[j]? = Z t->(v.resultList f.resultTypes.size)[j]? = Z r->Value.okWide P n .any 0 t r):
  s.post enc P f c fresh e l W d v n:=by
 have i:∀p∈a,(λb=>decide (b<W.heap.size)) p.block=true:=λp y=>by simpa using x.lt p y
 have z:=x.lt;refine⟨o,q,a,[],pa,pv,x,k _ _ _,g _ i,h _ i,World.keptBut_mono (λp y=>⟨y,by grind⟩) (B.frame (·∈a)),λ_=>?_⟩;obtain⟨_,_,_,_,_,hz,J⟩:=x;refine⟨A,_,_,([]++pa)++pv,⟨[]++pa,pv,trodAll_append (g _ (λ_ _=>rfl)) (k _ _ _),h _ (λ_ _=>rfl),rfl,?_,?_⟩,?_⟩
 .intro b u y;have D:MemPlace.cell b u∈a:=by grind
  rw[World.frozen?_of_block (w:=W) (B.block b (z _ D))];exact hz b u D
 .intro G;grind
 grind
end
variable {a b c d e:Field}{f g h:Ub}{i:World}
theorem LC {a:Addr}{v:eb}(h:i.cell? a=Z v):a.spot=none:=by
 unfold World.cell? at h;split at h
 .simp_all
 cases h
theorem FE (g a n:Nat):(⟨g,a,none⟩:Addr).add n=⟨g,a+n,none⟩:=by grind [Addr.add]
theorem laidOut:laidOutB ca=true:=by kernel_rfl
theorem NT:ca.cellsOf 37=5:=by kernel_rfl
def FD (d:Ac):List Value:=[I O d.a0,I O d.a1,I O d.a2,I O d.a3,.string d.s]
def dd {H:Type}(d:Ac):DataW H:=.agg [.lit (.int O d.a0),.lit (.int O d.a1),.lit (.int O d.a2),.lit (.int O d.a3),.lit (.string d.s.data.toList)]
theorem Nn {α:Type}{l:List α}(h:l.length=5):∃a c1 c2 c3 b,l=[a,c1,c2,c3,b]:=by
 match l,h with
 | [a,c1,c2,c3,b],_=>exact⟨a,c1,c2,c3,b,rfl⟩
theorem Eo {H:Type}{enc:Ub×eb->H}{P:Program}  {k:Nat}{j:Nat->Bool}{l:Bool}   {n:Nat}{t:List eb}{x:DataW H×List MemPlace}(hs:P.underlying f=Z (.struct #[a,b,c,d,e]))(o:Deep.oneCellFields P #[a,b,c,d,e]=true)(hC:P.cellsOf f=5)
  (q:P.underlying g=Z (.int .i64)) (hS:P.underlying h=Z .string) (e0:a.type=g) (e1:b.type=g) (e2:c.type=g) (e3:d.type=g) (e4:e.type=h)
  (a5:Xa enc P i k j l n f t=Z x):∃r:Ac,t=FD r/\x=(dd r,[])/\r.ok:=by
 obtain⟨xs,m,_,hx,hlen,s,p⟩:=DataW.trod_struct hs a5;obtain⟨W,c1,c2,c3,X,rfl⟩:=Nn (hlen.trans hC);obtain⟨y0,y1,y2,y3,y4,rfl⟩:=Nn s;have F:=p 0 a rfl;obtain⟨o0,u⟩:=Vb o 0 a rfl;rw[e0]at F u;obtain⟨R,A,rfl,w0⟩:=Xb q (show Xa enc P i k j l m g [W]=Z y0 by simpa[o0,u] using F);simp only[Wa,and_true]at A;subst A;have G:=p 1 b rfl;obtain⟨o1,v⟩:=Vb o 1 b rfl;rw[e1]at G v;obtain⟨S,q1,rfl,w1⟩:=Xb q (show Xa enc P i k j l m g [c1]=Z y1 by simpa[o1,v] using G);simp only[Wa,and_true]at q1;subst q1;have J:=p 2 c rfl;obtain⟨o2,w⟩:=Vb o 2 c rfl;rw[e2]at J w;obtain⟨T,B,rfl,w2⟩:=Xb q (show Xa enc P i k j l m g [c2]=Z y2 by simpa[o2,w] using J);simp only[Wa,and_true]at B;subst B;have K:=p 3 d rfl;obtain⟨o3,y⟩:=Vb o 3 d rfl;rw[e3]at K y;obtain⟨U,D,rfl,w3⟩:=Xb q (show Xa enc P i k j l m g [c3]=Z y3 by simpa[o3,y] using K);simp only[Wa,and_true]at D;subst D;have M:=p 4 e rfl;obtain⟨o4,z⟩:=Vb o 4 e rfl;rw[e4]at M z;obtain⟨V,E,rfl,w4⟩:=DataW.trod_string hS (show Xa enc P i k j l m h [X]=Z y4 by simpa[o4,z] using M);simp only[Wa,and_true]at E;subst E;exact⟨⟨R,S,T,U,V⟩,rfl,by simpa[dd] using hx,sX w0,sX w2,(sX w3).2⟩
theorem xS {H:Type}{enc:Ub×eb->H}{P:Program}  {  S:Ub}  {w:Nat}{R:List eb}{x:DataW H×List MemPlace}(ht:P.underlying f=Z (.slice g))(hs:P.underlying g=Z (.struct #[a,b,c,d,e]))(A:Deep.oneCellFields P #[a,b,c,d,e]=true)(hC:P.cellsOf g=5)
  (hI:P.underlying h=Z (.int .i64)) (hS:P.underlying S=Z .string) (V:a.type=h) (W:b.type=h) (X:c.type=h) (e3:d.type=h) (e4:e.type=S)
  (a2:Xa enc P i 0 (λ_=>true) true w f R=Z x):
  ∃(K:Option Addr) (s:Nat) (l:List Ac) (rest:List (DataW H)),R=[.slice K l.length s]/\SJ i K l/\(∀k∈l,k.ok)/\(x.1=.nil/\l=[]\/x.1=.slice (l.map dd) rest):=by
 rcases Deep.open_slice ht a2 with ⟨rfl,rfl⟩|⟨u,len,s,m,n,D,Pl,rfl,hb,hl,hm,a4,rfl,hx⟩
 .exact⟨none,0,[],[],rfl,λo k r=>(by simp at r),λk r=>(by cases r),Or.inl ⟨rfl,rfl⟩⟩
 have a3:len<=m:=by grind
 haveI:Inhabited Ac:=⟨⟨0,0,0,0,⟨#[]⟩⟩⟩
 obtain⟨v,T⟩:=Deep.choose_lt (α:=Ac) (n:=len) (p:=λo k=>(∀j:Nat,j<5->i.cell? (u.add (o*5+j))=(FD k)[j]?)/\D o=dd k/\k.ok) (λo E=>by
  obtain⟨U,h1,h2⟩:=hx o (by omega);obtain⟨k,rfl,r,a5⟩:=Eo hs A hC hI hS V W X e3 e4 h2;obtain⟨_,_,t⟩:=World.cells?_some h1;grind [Addr.add_add])
 have F:((List.range len).map v).length=len:=by simp
 have y:∀(o:Nat) k,((List.range len).map v)[o]? = Z k->o<len/\v o=k:=λo k r=>by grind
 refine⟨Z u,s,(List.range len).map v,_,by rw[F],λo k r=>?_,λk r=>by grind,Or.inr (congrArg (λz=>DataW.slice z _) ?_)⟩
 .obtain⟨E,rfl⟩:=y o k r;have t:=(T o E).1;have B:=t 0 (by omega);have c1:=t 1 (by omega);have c2:=t 2 (by omega);have c3:=t 3 (by omega);have M:=t 4 (by omega);have G:u.spot=none:=LC (show i.cell? u=Z (I O (v 0).a0) from(T 0 (by omega)).1 0 (by omega));obtain⟨a1,J,q⟩:=u;have hq:q=none:=G;subst hq;simp only[FE,<-Nat.add_assoc,Nat.add_zero]at B c1 c2 c3 M;exact⟨a1,J,rfl,Ya i _ B,B,c1,c2,c3,M⟩
 rw[List.map_map];refine List.map_congr_left λo E=>?_
 grind
theorem zB {H:Type}(l:List Ac):Rows.uptoBulkAll (l.map (dd (H:=H)))=lets l l.length+l.length*6:=by
 rw[lets,List.take_length]
 induction l with
 | nil=>rfl
 | cons d l a=>
  rw[List.map_cons,Rows.uptoBulkAll,a,List.map_cons,List.sum_cons];have:Rows.uptoBulk (dd (H:=H) d)=d.s.size+6:=by
   show Rows.uptoBulkAll _+1=_;simp only[Rows.uptoBulkAll,Rows.uptoBulk];have:d.s.data.toList.length=d.s.size:=Array.length_toList;omega
  grind
theorem FV:ca.cellsOf 9=1:=by kernel_rfl
theorem SO : ca.globalNamed "strconv.ErrSyntax" = Z 4 := by kernel_rfl
theorem RX:(ca.globals[4]?).map (·.type)=Z 97:=by kernel_rfl
theorem SN : ca.globalNamed "strconv.ErrRange" = Z 5 := by kernel_rfl
theorem RW:(ca.globals[5]?).map (·.type)=Z 97:=by kernel_rfl
theorem FU:ca.cellsOf 386=1:=by kernel_rfl
theorem star : "*" ++ "errors.errorString" = "*errors.errorString" := by decide
theorem QJ (u : Ub) (h : ca.typeName? 3 u = Z "*errors.errorString") : u = 384 :=
 typeName_ptr_named (nm := "errors.errorString") (by rw [star]; kernel_rfl) (by kernel_rfl) (by decide) u (by rw [star]; exact h)
theorem Od {a b c d : String × DataW Unit} {r : List (String × DataW Unit)} (h : laidMet ca (a :: b :: c :: d :: ("strconv.ErrRange", Rows.laid_strconv_ErrRange) :: ("strconv.ErrSyntax", Rows.laid_strconv_ErrSyntax) :: r) i) : Jr.oC i ∧ 4 < i.heap.size ∧ 5 < i.heap.size := by
 have k:=ep (ep (ep (ep h)));obtain⟨l,o,g,-,-,-⟩:=laid_sentinel k SN RW Tryz.underlying97 QJ Tryz.underlying384 Tryz.underlying386 rfl rfl Yb FU FV;obtain⟨m,p,j,-,-,-⟩:=laid_sentinel (ep k) SO RX Tryz.underlying97 QJ Tryz.underlying384 Tryz.underlying386 rfl rfl Yb FU FV;have n:=World.var?_cell SN g 0;have c1:=World.var?_cell SO j 0;have e:i.cell? ⟨5,0,none⟩=Z (.iface 384 (.pointer (Z l))):=by simpa using n
 have f:i.cell? ⟨4,0,none⟩=Z (.iface 384 (.pointer (Z m))):=by simpa using c1
 exact⟨⟨_,_,f,e,Or.inr ⟨_,_,rfl⟩,Or.inr ⟨_,_,rfl⟩⟩,Ya i _ f,Ya i _ e⟩
set_option maxRecDepth 100000 in
theorem FZ (H:Type)(enc:Ub×eb->H)(W:World)(h:Nat)(a:Array eb)(r K:List (DataW H))(d:List MemPlace)
  (b:∀(j:Nat) t v,qb.params[j]? = Z t->a[j]? = Z v->Value.okWide ca W .any h t v)
  (S:DataW.Whole enc ca qb.params.toList Rows.allSpec.vars false W a.toList r K d)
  (c:Rows.uptoBulkAll (r++K)<=1048576)
  (hT:Plainw.gp W) (hE:Jr.oC W):
  Calls ca 3 a W λe g=>∃v,e=.returned v/\Rows.allSpec.post enc ca qb false true false false W a v g:=by
 have f:=S;obtain⟨p,q,m,hV,rfl,a9,b6⟩:=S;have R:Zb enc ca W 0 (λ_=>true) true qb.params.toList a.toList r p:=m;rw[Tryz.params3]at R b;obtain⟨U,b7,d0,a6,p0,q0,s,rfl,rfl,h0,r0⟩:=trodAll_cons R;obtain⟨V,b8,d1,a7,p1,q1,rfl,rfl,rfl,h1,r1⟩:=trodAll_cons r0;obtain⟨X,b9,d2,a8,T,q2,rfl,rfl,rfl,M,r2⟩:=trodAll_cons r1;obtain⟨rfl,rfl,rfl⟩:=trodAll_nil r2;obtain rfl:a=#[U,V,X]:=by grind
 obtain⟨rfl,rfl⟩:=trodVars_none hV;obtain⟨a0,a1,a2,a3,a4,a5,rfl,rfl,rfl,w0,w1,w2,w3,w4,w5⟩:=xU Za (by kernel_rfl) qk Va rfl rfl rfl rfl rfl rfl (b 0 23 U rfl rfl) h0;obtain⟨b0,b1,b2,b3,b4,b5,rfl,rfl,rfl,u0,u1,u2,u3,u4,u5⟩:=xU Za (by kernel_rfl) qk Va rfl rfl rfl rfl rfl rfl (b 1 23 V rfl rfl) h1;have k:=M;obtain⟨va,vl,vc,rfl⟩:=okWide_slice Tryz.underlying24 (b 2 24 X rfl rfl);obtain⟨J,hf⟩:=M;obtain⟨G,i,l,rest,y,n,D,z⟩:=xS Tryz.underlying24 Tryz.underlying37 (by kernel_rfl) NT Va Yb rfl rfl rfl rfl rfl hf;have hv:Value.slice va vl vc=.slice G l.length i:=by simpa[Value.cells] using y
 rw[hv]at f k b ⊢;clear m;simp only[List.append_nil,List.nil_append]at f c;have u:lets l l.length+l.length*6<=1048576:=by
  simp only[Rows.uptoBulkAll]at c;rcases z with ⟨_,rfl⟩|z
  .show 0+0*6<=_;omega
  .have A:d2=.slice (l.map dd) rest:=z;rw[A,Rows.uptoBulk,zB]at c;omega
 refine(show Calls _ _ _ _ _ from RQ W hT hE (SU a0 a1 a2 a3 a4 a5) (SU b0 b1 b2 b3 b4 b5) G i l n (by omega) (by omega) D).mono λe g ⟨he,u⟩=>?_
 subst he;have B:∀x∈T,x.block<W.heap.size:=λx o=>by simpa using f.lt x (by simpa using o)
 refine⟨_,rfl,AK (pa:=T) (pv:=[]) f (λ_ _ _=>Wb (shut_bool Tryz.underlying4 _) trodAll_mk0) (λF E=>?_) (λ_ _=>rfl) (by simp) u (ok_one (by kernel_rfl) rfl (okWide_bool_mk Tryz.underlying4 _))⟩;have:=Wb (yx (enc:=enc) (P:=ca) (w:=g) (base:=0) (spare:=F) (held:=true) Za (by kernel_rfl) qk Va rfl rfl rfl rfl rfl rfl w0 w1 w2 w3 w4 w5) (Wb (yx (enc:=enc) (P:=ca) (w:=g) (base:=0) (spare:=F) (held:=true) Za (by kernel_rfl) qk Va rfl rfl rfl rfl rfl rfl u0 u1 u2 u3 u4 u5) (Wb (WideElems.Trod_stays laidOut (by kernel_rfl) (of_decide_eq_true (by kernel_rfl)) k (λx o=>u.same (B x o)) (λx o=>E x (by simpa using o))) (trodAll_mk0 (enc:=enc) (P:=ca) (w:=g) (base:=0) (spare:=F) (held:=true))));simp only[List.append_nil,List.nil_append]at this;exact this
section
set_option maxRecDepth 100000
abbrev nu:Array Value:=#[.agg #[I O 0,I O 0,I O 0,I O 0,I O 0,I O 0],.agg #[I O 0,I O 0,I O 0,I O 0,I O 0,I O 0],.slice none 0 0]
theorem fits (a:Os):(World.holding ca a ⟨#[],#[],[]⟩).layFits ca Rows.allUptoRow.laid []=true:=by kernel_rfl
theorem ifaces (a:Os):(World.holding ca a ⟨#[],#[],[]⟩).layIfaces ca Rows.allUptoRow.laid (Ua ca a Rows.allUptoRow.laid)=true:=by kernel_rfl
theorem GZ (a:Os):laidMet ca Rows.allUptoRow.laid ((Ua ca a Rows.allUptoRow.laid).forCall (λ_ _=>0) ⟨#[],nu,[]⟩).memory:=
 laidMet_laidAll nu (fits a) (ifaces a)
theorem reads (b:Os){H:Type}(enc:Ub×eb->H):∃a,DataW.whole enc ca ((Ua ca b Rows.allUptoRow.laid).forCall (λ_ _=>0) ⟨#[],nu,[]⟩).memory qb.params.toList Rows.allSpec.vars false nu.toList 8=Z ([.agg [.lit (.int O 0),.lit (.int O 0),.lit (.int O 0),.lit (.int O 0),.lit (.int O 0),.lit (.int O 0)],.agg [.lit (.int O 0),.lit (.int O 0),.lit (.int O 0),.lit (.int O 0),.lit (.int O 0),.lit (.int O 0)],.nil],[],a):=
 ⟨[],by kernel_rfl⟩
theorem MR (a:Os):((Ua ca a Rows.allUptoRow.laid).forCall (λ_ _=>0) ⟨#[],nu,[]⟩).variablesB ca=true:=by kernel_rfl
theorem LP (a:Os):(((Ua ca a Rows.allUptoRow.laid).forCall (λ_ _=>0) ⟨#[],nu,[]⟩).heap.toList.drop ca.globals.size).take ((begin ca (λ_ _=>0) default).world.heap.size - ca.globals.size)=
   (begin ca (λ_ _=>0) default).world.heap.toList.drop Tryz.prog.globals.size:=by kernel_rfl
theorem GP (a:Os):Input.okWideB ca ((Ua ca a Rows.allUptoRow.laid).forCall (λ_ _=>0) ⟨#[],nu,[]⟩) 3 ⟨#[],nu,[]⟩=true:=by kernel_rfl
end
set_option maxRecDepth 100000 in
theorem lifted (e:Os)(c:e.Started)(H:Type)(enc:Ub×eb->H)(F:Stop.Interp):
  ReturnsInHanded {} Uc e 3 .any ((Rows.OpenSpec.upto Rows.allSpec).preRow enc ca qb Rows.allUptoRow.domain false Rows.allUptoRow.laid) (((Rows.OpenSpec.upto Rows.allSpec).at F).post enc ca qb false true false false):=by
 obtain⟨j,q⟩:=reads e enc;refine returnsInHanded_of_row (C:=Uc) (s:=Rows.OpenSpec.upto Rows.allSpec) own c (by kernel_rfl) Tryz.func3
  (witness_row_at (enc:=enc) (C:=Uc) false (Ua ca e Rows.allUptoRow.laid) nu (World.laidAll_os _ _ _) (MR e) (LP e) (GP e)
   (OpenSpec.preRow_of_cond 8 q (by kernel_rfl) (λk p=>by cases p;kernel_rfl) (by kernel_rfl) (GZ e))) ?_
 intro W h g m n d i o _ f _ l _ _
 exact FZ H enc W h g m n d i o (of_decide_eq_true (f _ rfl)) (Pj (a := ("math/bits.deBruijn32tab", Rows.laid_math_bits_deBruijn32tab)) (b := ("math/bits.deBruijn64tab", Rows.laid_math_bits_deBruijn64tab)) l) (Od l).1
theorem said:Rows.AllUptoSaid:=
 OpenClaim.holds_of_cond 3 qb rfl rfl rfl rfl rfl rfl rfl ⟨rfl,rfl,rfl,rfl,rfl⟩ rfl rfl rfl rfl rfl (by kernel_rfl) Tryz.func3 Fctal.facts
  (of_decide_eq_true (by kernel_rfl)) (by unfold Func.isWrapper;first|(rw[if_pos (by decide +kernel)];kernel_rfl)|(rw[if_neg (by decide +kernel)];exact⟨rfl,rfl⟩))
  (λb a H enc _ F=>by rw[OpenClaim.pre_eq_preRow];exact lifted b a H enc F)
theorem plain (f : FuncId) (fn : Func) (c : Tryz.pinned.checked.prog.funcNamed "tally/tallylaw.All" = Z f) (a : Tryz.pinned.checked.prog.funcs[f]? = Z fn) :
  true=Tryz.pinned.checked.prog.looks []/\∀(j:Nat) t,fn.params[j]? = Z t->Tryz.pinned.checked.prog.wantsStandIn t=false:=by
 obtain rfl : f = 3 := Vc ((show ca.funcNamed "tally/tallylaw.All" = Z 3 by kernel_rfl).symm.trans c) |>.symm
 obtain rfl:fn=Tryz.f3:=(Vc (Tryz.func3.symm.trans a)).symm;refine⟨by kernel_rfl,λj t d=>?_⟩;rw[Tryz.params3]at d;have b:t=23\/t=24:=by grind
 rcases b with rfl|rfl
 .exact(show ca.wantsStandIn 23=false by kernel_rfl)
 exact(show ca.wantsStandIn 24=false by kernel_rfl)
end Vh
namespace Vh
theorem c3:false=Rows.allUptoRow.goesBy Tryz.pinned.checked.prog:=by kernel_rfl
end Vh
namespace Vh
open Go.ChangeShapes Go.WideShapes Go.ChangeAt Go.RowKit Go.Joins Rowkit Lw
theorem c1:Rows.allUptoRow.wfByText (Rows.OpenSpec.upto Rows.allSpec)=true:=by kernel_rfl
theorem c2:Tryz.pinned.checked.prog.mainIs=Z (Rows.allUptoCard.stood.harness.1,Rows.allUptoCard.stood.harness.2.toList):=by kernel_rfl
theorem FF:Rows.AllUptoCardSaid:=
 Claim7.holds_tied_plain_at .later [] _ _ _ _ said (λ_ h=>by cases h) c1 (λ_ h=>by cases h) allUpto_row_tie rfl ⟨rfl,rfl⟩ c2 rfl plain c3
end Vh
theorem all_holds:Rows.AllUptoCardSaid:=Vh.FF
end Go.Proofs.YtpndiccohnafbaaGreatDoor
