/- What both cards of this seat share: the tables, the witness's world, a struct of six numbers opened and shut. -/
import Derived.Test.YtpndiccohnafbaaGreatDoorCards
import Derived.Test.YtpndiccohnafbaaGreatDoorTie
import Derived.Test.YtpndiccohnafbaaGreatDoorPlainw
import Derived.WalkKit
import Derived.ProofKit
import Derived.OpenShut
import Derived.SizedLaws
import Derived.Lay
import Derived.Deep.DeepHandedRow
import Derived.Lib.LaidTab
import Derived.Lib.SmallJoins
open Go.Value renaming int->I,cells->Xa
open Go.IntKind renaming i64->O
open Go.Deep renaming hone_of->ca
open List.cons renaming injEq->Ua
open Go.Lit renaming int->Va
open Go.DataW renaming trod_int->Wa,trod->Za
open Go.ChangeShapes renaming trod_int_mk->Ya
open Go.Proofs.Tryz renaming prog->eb
namespace Go.Proofs.YtpndiccohnafbaaGreatDoor.Rowkit
open Go.ChangeShapes Go.WideShapes Go.ChangeAt Go.RowKit Go.Joins
theorem own:ownKnob eb.godebug=none:=by kernel_rfl
theorem RY : eb.globalNamed "internal/strconv.uint64pow10" = some 0 := by kernel_rfl
theorem Gy:(eb.globals[0]?).map (·.type)=some 335:=by kernel_rfl
theorem NU:eb.cellsOf 335=20:=by kernel_rfl
theorem NV:eb.cellsOf 237=1:=by kernel_rfl
theorem ep {P:Program}{w:World}{n:String}{d:DataW Unit}{r:List (String×DataW Unit)}(h:laidMet P ((n,d) ::r) w):laidMet P r w:=by
 obtain⟨l,⟨g,t,k,f,p,q,_,_,_,_,j,rfl⟩,c,a⟩:=h;exact⟨q,j,c.sublist (List.sublist_append_right _ _),λb e i=>a b e (List.mem_append_right _ i)⟩
theorem Pj {W : World} {a b : String × DataW Unit} {r : List (String × DataW Unit)} (h : laidMet eb (a :: b :: ("internal/strconv.uint64pow10", Rows.laid_internal_strconv_uint64pow10) :: r) W) : Plainw.gp W :=
 Lib.tabIs_of_head (rest:=r) RY Gy Tryz.underlying335 Tryz.underlying237 NV NU (ep (ep h))
section
variable {H : Type} {enc : TypeId × Value -> H} {P : Program} {w : World} {base : Nat} {spare : Nat -> Bool} {held : Bool}
variable {a b c d e f:Field}{g h:TypeId}
theorem NM {α:Type}{d:Array α}(h:d.size=6):∃a c1 c2 c3 b c,d=#[a,c1,c2,c3,b,c]:=by
 obtain⟨l⟩:=d
 match l,h with
 | [a,c1,c2,c3,b,c],_=>exact⟨a,c1,c2,c3,b,c,rfl⟩
theorem Qr {α:Type}{l:List α}(h:l.length=6):∃a c1 c2 c3 b c,l=[a,c1,c2,c3,b,c]:=by
 match l,h with
 | [a,c1,c2,c3,b,c],_=>exact⟨a,c1,c2,c3,b,c,rfl⟩
theorem xU {r:Reach}{b0:Nat}   {v:Value}{y:DataW H}{p:List MemPlace}(A:P.underlying g=some (.struct #[a,b,c,d,e,f]))(i:Deep.oneCellFields P #[a,b,c,d,e,f]=true)(hC:P.cellsOf g=6)
  (k:P.underlying h=some (.int .i64)) (e0:a.type=h) (e1:b.type=h) (e2:c.type=h) (e3:d.type=h) (e4:e.type=h) (e5:f.type=h)
  (hv:Value.okWide P w r b0 g v) (a6:DataW.Trod enc P w base spare held g v y p):
  ∃l m o q s t:Int,v=.agg #[I O l,I O m,I O o,I O q,I O s,I O t]/\y=.agg [.lit (.int O l),.lit (.int O m),.lit (.int O o),.lit (.int O q),.lit (.int O s),.lit (.int O t)]/\p=[]/\
   (Va O l).wf=true/\(Va O m).wf=true/\(Va O o).wf=true/\(Va O q).wf=true/\(Va O s).wf=true/\(Va O t).wf=true:=by
 obtain⟨cs,rfl,u⟩:=okWide_struct A hv;obtain⟨c0,c1,c2,c3,c4,c5,rfl⟩:=NM (u.trans hC);obtain⟨z,hf⟩:=a6;obtain⟨xs,n,_,x,_,hlen,j⟩:=DataW.trod_struct A hf;obtain⟨y0,y1,y2,y3,y4,y5,rfl⟩:=Qr hlen;have U:=j 0 a rfl;obtain⟨o0,B⟩:=ca i 0 a rfl;rw[e0]at U B;obtain⟨l,K,rfl,w0⟩:=Wa k (show Za enc P w base spare held n h [c0]=some y0 by simpa[Xa,o0,B] using U);simp only[Ua,and_true]at K;subst K;have V:=j 1 b rfl;obtain⟨o1,D⟩:=ca i 1 b rfl;rw[e1]at V D;obtain⟨m,q1,rfl,w1⟩:=Wa k (show Za enc P w base spare held n h [c1]=some y1 by simpa[Xa,o1,D] using V);simp only[Ua,and_true]at q1;subst q1;have W:=j 2 c rfl;obtain⟨o2,E⟩:=ca i 2 c rfl;rw[e2]at W E;obtain⟨o,M,rfl,w2⟩:=Wa k (show Za enc P w base spare held n h [c2]=some y2 by simpa[Xa,o2,E] using W);simp only[Ua,and_true]at M;subst M;have X:=j 3 d rfl;obtain⟨o3,F⟩:=ca i 3 d rfl;rw[e3]at X F;obtain⟨q,R,rfl,w3⟩:=Wa k (show Za enc P w base spare held n h [c3]=some y3 by simpa[Xa,o3,F] using X);simp only[Ua,and_true]at R;subst R;have t4:=j 4 e rfl;obtain⟨o4,G⟩:=ca i 4 e rfl;rw[e4]at t4 G;obtain⟨s,S,rfl,w4⟩:=Wa k (show Za enc P w base spare held n h [c4]=some y4 by simpa[Xa,o4,G] using t4);simp only[Ua,and_true]at S;subst S;have t5:=j 5 f rfl;obtain⟨o5,J⟩:=ca i 5 f rfl;rw[e5]at t5 J;obtain⟨t,T,rfl,w5⟩:=Wa k (show Za enc P w base spare held n h [c5]=some y5 by simpa[Xa,o5,J] using t5);simp only[Ua,and_true]at T;subst T;simp only[Prod.mk.injEq]at x;exact⟨l,m,o,q,s,t,rfl,x.1,by simpa using x.2,w0,w1,w2,w3,w4,w5⟩
theorem yx (A:P.underlying g=some (.struct #[a,b,c,d,e,f]))(i:Deep.oneCellFields P #[a,b,c,d,e,f]=true)(z:P.cellsOf g=6)
  (j:P.underlying h=some (.int .i64)) (r:a.type=h) (t:b.type=h) (u:c.type=h) (v:d.type=h) (x:e.type=h) (y:f.type=h)
  {k l m o p q:Int} (K:(Va O k).wf=true) (M:(Va O l).wf=true) (R:(Va O m).wf=true) (S:(Va O o).wf=true) (T:(Va O p).wf=true) (U:(Va O q).wf=true):
  DataW.Trod enc P w base spare held g (.agg #[I O k,I O l,I O m,I O o,I O p,I O q]) (.agg [.lit (.int O k),.lit (.int O l),.lit (.int O m),.lit (.int O o),.lit (.int O p),.lit (.int O q)]) []:=by
 obtain⟨B,s⟩:=ca i 0 a rfl;rw[r]at s;have D:=(ca i 1 b rfl).1;have E:=(ca i 2 c rfl).1;have F:=(ca i 3 d rfl).1;have G:=(ca i 4 e rfl).1;have H:=(ca i 5 f rfl).1;have J:=trod_struct_mk (enc:=enc) (w:=w) (base:=base) (spare:=spare) (held:=held) (n:=1) (cs:=[I O k,I O l,I O m,I O o,I O p,I O q]) (xs:=[(.lit (.int O k),[]),(.lit (.int O l),[]),(.lit (.int O m),[]),(.lit (.int O o),[]),(.lit (.int O p),[]),(.lit (.int O q),[])]) A (by simp[z])
  (by simp[B,s,r,D,t,E,u,F,v,G,x,H,y,Ya 0 j K,Ya 0 j M,Ya 0 j R,Ya 0 j S,Ya 0 j T,Ya 0 j U])
 exact⟨_,by simpa[Xa] using J⟩
end
end Go.Proofs.YtpndiccohnafbaaGreatDoor.Rowkit
