/- The walks of the document's values, by sign and type. -/
import Derived.Test.YtpndiccohnafbaaGreatDoorRefdy
open Option renaming none->Y,some->Z
open Go.Value renaming bool->bO,string->L,int->I,pointer->Ua
open Go.IntKind renaming i64->O
open Go.Ending renaming returned->ca
open List renaming length_drop->Va,take_of_length_le->Za,eq_nil_of_length_eq_zero->qb
open Go.Proofs.Tryz renaming prog->Wa
open ByteArray renaming size_extract->Xa
open Go renaming Calls->Ya,World->N,Value->C
open Nat renaming le_refl->eb
namespace Go.Proofs.YtpndiccohnafbaaGreatDoor
namespace Refv
open Go.RowKit Bytes Nums Refs Numw Mem Refw Refn
theorem aR {w:N}{b:Nat}{t:TypeId}{a c d e f g:C}(h:af w b t #[a,c,d,e,f,g]):
  w.cell? ⟨b,0,Y⟩=Z a/\w.cell? ⟨b,1,Y⟩=Z c/\w.cell? ⟨b,2,Y⟩=Z d/\w.cell? ⟨b,3,Y⟩=Z e/\w.cell? ⟨b,4,Y⟩=Z f/\w.cell? ⟨b,5,Y⟩=Z g:=
 ⟨h.Ri 0,h.Ri 1,h.Ri 2,h.Ri 3,h.Ri 4,h.Ri 5⟩
theorem bN {w:N}{b:Nat}{t:TypeId}{a:Array C}(h:af w b t a):
  w.frozen? ⟨b,0,Y⟩=false/\w.frozen? ⟨b,1,Y⟩=false/\w.frozen? ⟨b,2,Y⟩=false/\w.frozen? ⟨b,3,Y⟩=false/\w.frozen? ⟨b,4,Y⟩=false/\w.frozen? ⟨b,5,Y⟩=false:=
 ⟨h.frozen 0,h.frozen 1,h.frozen 2,h.frozen 3,h.frozen 4,h.frozen 5⟩
theorem fT {a b:Bool}(h:a=b):Ending.returned (bO a)=Ending.returned (bO b):=by rw[h]
theorem mZ (s:ByteArray)(a:Int)(b:s.size<=140737488355328)(w:N):
  Ya Wa 183 #[L s,I O a,bO false] w λe c=>e=ca (bO (made dm a (B s)))/\w=c:=by
 have e:Br false=dm:=funext Rr;have h:=word s a false b w;rwa [e]at h
theorem Kb (s:ByteArray)(a:Int)(b:s.size<=140737488355328)(w:N):
  Ya Wa 183 #[L s,I O a,bO true] w λe c=>e=ca (bO (made oA a (B s)))/\w=c:=by
 have e:Br true=oA:=funext Rt;have h:=word s a true b w;rwa [e]at h
theorem bY (l:List UInt8)(_h:l.length<=140737488355328):-1<=aw l/\aw l<=999999999:=by
 exact iB l
theorem MA (b:Nat)(c:ByteArray)(a:Bool)(n:c.size<=140737488355328)(i j k:C)(w:N)(o:c.toList.isEmpty=true)
  (f:af w b 218 #[i,I .u8 0,I O 0,L ⟨#[]⟩,j,k]):
  Ya Wa 185 #[Ua (Z ⟨b,0,Y⟩),L c,L ⟨#[99]⟩,bO a] w λe d=>e=ca (bO (decide (0<=aw (B c))))/\bS b w d/\af d b 218 #[i,I .u8 99,I O (aw (B c)),L ⟨#[]⟩,j,k]:=by
 have l:=aa f;obtain⟨p,c1,c2,c3,q,r⟩:=aR f;obtain⟨s,t,u,x,y,z⟩:=bN f;clear f;have h:∀w,Ya Wa 184 #[L c] w λe d=>e=ca (I O (aw (B c)))/\w=d:=λw=>by
  skip
  exact number c n w
 have g:=aa h;have m:=bY (B c) (by first|(rw[<-aj];omega)|(rw[Va,<-aj];omega));clear h;generalize aw (B c)=v at g m ⊢;go_in;go_wp2_with (go_at_call 184;refine(g.out _).mono ?_;rintro e d ⟨rfl,rfl⟩)
 all_goals go_ret
 all_goals refine⟨fT ?_,((bS.refl _ _).set 2 _).set 1 _,((l.out).set 2 _).set 1 _⟩
 all_goals first|(simp_all;done)|(cases a<;>simp_all<;>omega)
theorem ME (b:Nat)(c:ByteArray)(a:Bool)(n:c.size<=140737488355328)(i j k:C)(w:N)(o:c.toList.isEmpty=true)
  (f:af w b 218 #[i,I .u8 0,I O 0,L ⟨#[]⟩,j,k]):
  Ya Wa 185 #[Ua (Z ⟨b,0,Y⟩),L c,L ⟨#[103]⟩,bO a] w λe d=>e=ca (bO ((decide (0<=aw (B c))&&!a)))/\bS b w d/\af d b 218 #[i,I .u8 103,I O (aw (B c)),L ⟨#[]⟩,j,k]:=by
 have l:=aa f;obtain⟨p,c1,c2,c3,q,r⟩:=aR f;obtain⟨s,t,u,x,y,z⟩:=bN f;clear f;have h:∀w,Ya Wa 184 #[L c] w λe d=>e=ca (I O (aw (B c)))/\w=d:=λw=>by
  skip
  exact number c n w
 have g:=aa h;have m:=bY (B c) (by first|(rw[<-aj];omega)|(rw[Va,<-aj];omega));clear h;generalize aw (B c)=v at g m ⊢;go_in;go_wp2_with (go_at_call 184;refine(g.out _).mono ?_;rintro e d ⟨rfl,rfl⟩)
 all_goals go_ret
 all_goals refine⟨fT ?_,((bS.refl _ _).set 2 _).set 1 _,((l.out).set 2 _).set 1 _⟩
 all_goals first|(simp_all;done)|(cases a<;>simp_all<;>omega)
theorem MM (b:Nat)(c:ByteArray)(a:Bool)(n:c.size<=140737488355328)(i j k:C)(w:N)(o:c.toList.isEmpty=true)
  (f:af w b 218 #[i,I .u8 0,I O 0,L ⟨#[]⟩,j,k]):
  Ya Wa 185 #[Ua (Z ⟨b,0,Y⟩),L c,L ⟨#[115]⟩,bO a] w λe d=>e=ca (bO ((made dm 16 (B c)&&!a)))/\bS b w d/\af d b 218 #[i,I .u8 115,I O (0),L c,j,k]:=by
 have l:=aa f;obtain⟨p,c1,c2,c3,q,r⟩:=aR f;obtain⟨s,t,u,x,y,z⟩:=bN f;clear f;have h:∀w,Ya Wa 184 #[L c] w λe d=>e=ca (I O (aw (B c)))/\w=d:=λw=>by
  skip
  exact number c n w
 have g:=aa h;have m:=bY (B c) (by first|(rw[<-aj];omega)|(rw[Va,<-aj];omega));clear h;generalize aw (B c)=v at g m ⊢;go_in;go_wp2_with (first|(go_at_call 184;refine(g.out _).mono ?_;rintro e d ⟨rfl,rfl⟩)|(go_at_call 183;refine(mZ c 16 (by omega) _).mono ?_;rintro e d ⟨rfl,rfl⟩))
 all_goals go_ret
 all_goals refine⟨fT ?_,((((bS.refl _ _).set 2 _).set 1 _).set 3 _).set 2 _,((((l.out).set 2 _).set 1 _).set 3 _).set 2 _⟩
 all_goals first|(simp_all;done)|(cases a<;>simp_all<;>omega)
theorem JP (b:Nat)(c:ByteArray)(a:Bool)(n:c.size<=140737488355328)(i j k:C)(w:N)(o:c.toList.isEmpty=true)
  (f:af w b 218 #[i,I .u8 0,I O 0,L ⟨#[]⟩,j,k]):
  Ya Wa 185 #[Ua (Z ⟨b,0,Y⟩),L c,L ⟨#[109,115]⟩,bO a] w λe d=>e=ca (bO (decide (0<=aw (B c))))/\bS b w d/\af d b 218 #[i,I .u8 109,I O (aw (B c)),L ⟨#[]⟩,j,k]:=by
 have l:=aa f;obtain⟨p,c1,c2,c3,q,r⟩:=aR f;obtain⟨s,t,u,x,y,z⟩:=bN f;clear f;have h:∀w,Ya Wa 184 #[L c] w λe d=>e=ca (I O (aw (B c)))/\w=d:=λw=>by
  skip
  exact number c n w
 have g:=aa h;have m:=bY (B c) (by first|(rw[<-aj];omega)|(rw[Va,<-aj];omega));clear h;generalize aw (B c)=v at g m ⊢;go_in;go_wp2_with (go_at_call 184;refine(g.out _).mono ?_;rintro e d ⟨rfl,rfl⟩)
 all_goals go_ret
 all_goals refine⟨fT ?_,((bS.refl _ _).set 2 _).set 1 _,((l.out).set 2 _).set 1 _⟩
 all_goals first|(simp_all;done)|(cases a<;>simp_all<;>omega)
theorem MI (b:Nat)(c:ByteArray)(a:Bool)(n:c.size<=140737488355328)(i j k:C)(w:N)(o:c.toList.isEmpty=true)
  (f:af w b 218 #[i,I .u8 0,I O 0,L ⟨#[]⟩,j,k]):
  Ya Wa 185 #[Ua (Z ⟨b,0,Y⟩),L c,L ⟨#[104]⟩,bO a] w λe d=>e=ca (bO (decide (0<=aw (B c))))/\bS b w d/\af d b 218 #[i,I .u8 109,I O (aw (B c)),L ⟨#[]⟩,j,k]:=by
 have l:=aa f;obtain⟨p,c1,c2,c3,q,r⟩:=aR f;obtain⟨s,t,u,x,y,z⟩:=bN f;clear f;have h:∀w,Ya Wa 184 #[L c] w λe d=>e=ca (I O (aw (B c)))/\w=d:=λw=>by
  skip
  exact number c n w
 have g:=aa h;have m:=bY (B c) (by first|(rw[<-aj];omega)|(rw[Va,<-aj];omega));clear h;generalize aw (B c)=v at g m ⊢;go_in;go_wp2_with (go_at_call 184;refine(g.out _).mono ?_;rintro e d ⟨rfl,rfl⟩)
 all_goals go_ret
 all_goals refine⟨fT ?_,((bS.refl _ _).set 2 _).set 1 _,((l.out).set 2 _).set 1 _⟩
 all_goals first|(simp_all;done)|(cases a<;>simp_all<;>omega)
theorem MB (b:Nat)(a:ByteArray)(c:Bool)(y:a.size<=140737488355328)(k l m:C)(w:N)(p:a.toList.isEmpty=false)(s:0<a.size)(d:(a[0].toNat:Int)=45)
  (g:af w b 218 #[k,I .u8 0,I O 0,L ⟨#[]⟩,l,m]):
  Ya Wa 185 #[Ua (Z ⟨b,0,Y⟩),L a,L ⟨#[99]⟩,bO c] w λe f=>e=ca (bO (decide (0<=aw ((B a).drop 1))))/\bS b w f/\af f b 218 #[k,I .u8 99,I O (-(aw ((B a).drop 1))),L ⟨#[]⟩,l,m]:=by
 have n:=aa g;obtain⟨t,c1,c2,c3,u,x⟩:=aR g;obtain⟨z,A,D,E,F,G⟩:=bN g;clear g;have i:B (a.extract 1 a.size)=(B a).drop 1:=by
  rw[bu,Za];rw[Va,aj];exact eb _
 have q:((a[0].toNat:Int)==45)=true:=by rw[d];rfl
 have r:((a[0].toNat:Int)==43)=false:=by rw[d];rfl
 have j:∀w,Ya Wa 184 #[L (a.extract 1 a.size)] w λe f=>e=ca (I O (aw ((B a).drop 1)))/\w=f:=λw=>by
  rw[<-i];exact number (a.extract 1 a.size) (by rw[Xa];omega) w
 have h:=aa j;have o:=bY ((B a).drop 1) (by first|(rw[<-aj];omega)|(rw[Va,<-aj];omega));clear j i d;generalize aw ((B a).drop 1)=v at h o ⊢;go_in;go_wp2_with (go_at_call 184;refine(h.out _).mono ?_;rintro e f ⟨rfl,rfl⟩)
 all_goals go_ret
 all_goals refine⟨fT ?_,(((bS.refl _ _).set 2 _).set 2 _).set 1 _,(((n.out).set 2 _).set 2 _).set 1 _⟩
 all_goals first|(simp_all;done)|(cases c<;>simp_all<;>omega)
theorem MF (b:Nat)(a:ByteArray)(c:Bool)(y:a.size<=140737488355328)(k l m:C)(w:N)(p:a.toList.isEmpty=false)(s:0<a.size)(d:(a[0].toNat:Int)=45)
  (g:af w b 218 #[k,I .u8 0,I O 0,L ⟨#[]⟩,l,m]):
  Ya Wa 185 #[Ua (Z ⟨b,0,Y⟩),L a,L ⟨#[103]⟩,bO c] w λe f=>e=ca (bO ((decide (0<=aw ((B a).drop 1))&&!c)))/\bS b w f/\af f b 218 #[k,I .u8 100,I O (-(aw ((B a).drop 1))),L ⟨#[]⟩,l,m]:=by
 have n:=aa g;obtain⟨t,c1,c2,c3,u,x⟩:=aR g;obtain⟨z,A,D,E,F,G⟩:=bN g;clear g;have i:B (a.extract 1 a.size)=(B a).drop 1:=by
  rw[bu,Za];rw[Va,aj];exact eb _
 have q:((a[0].toNat:Int)==45)=true:=by rw[d];rfl
 have r:((a[0].toNat:Int)==43)=false:=by rw[d];rfl
 have j:∀w,Ya Wa 184 #[L (a.extract 1 a.size)] w λe f=>e=ca (I O (aw ((B a).drop 1)))/\w=f:=λw=>by
  rw[<-i];exact number (a.extract 1 a.size) (by rw[Xa];omega) w
 have h:=aa j;have o:=bY ((B a).drop 1) (by first|(rw[<-aj];omega)|(rw[Va,<-aj];omega));clear j i d;generalize aw ((B a).drop 1)=v at h o ⊢;go_in;go_wp2_with (go_at_call 184;refine(h.out _).mono ?_;rintro e f ⟨rfl,rfl⟩)
 all_goals go_ret
 all_goals refine⟨fT ?_,((((bS.refl _ _).set 2 _).set 2 _).set 1 _).set 1 _,((((n.out).set 2 _).set 2 _).set 1 _).set 1 _⟩
 all_goals first|(simp_all;done)|(cases c<;>simp_all<;>omega)
theorem MN (b:Nat)(a:ByteArray)(c:Bool)(y:a.size<=140737488355328)(k l m:C)(w:N)(p:a.toList.isEmpty=false)(s:0<a.size)(d:(a[0].toNat:Int)=45)
  (g:af w b 218 #[k,I .u8 0,I O 0,L ⟨#[]⟩,l,m]):
  Ya Wa 185 #[Ua (Z ⟨b,0,Y⟩),L a,L ⟨#[115]⟩,bO c] w λe f=>e=ca (bO ((made dm 16 (B a)&&!c)))/\bS b w f/\af f b 218 #[k,I .u8 115,I O (0),L a,l,m]:=by
 have n:=aa g;obtain⟨t,c1,c2,c3,u,x⟩:=aR g;obtain⟨z,A,D,E,F,G⟩:=bN g;clear g;have i:B (a.extract 1 a.size)=(B a).drop 1:=by
  rw[bu,Za];rw[Va,aj];exact eb _
 have q:((a[0].toNat:Int)==45)=true:=by rw[d];rfl
 have r:((a[0].toNat:Int)==43)=false:=by rw[d];rfl
 have j:∀w,Ya Wa 184 #[L (a.extract 1 a.size)] w λe f=>e=ca (I O (aw ((B a).drop 1)))/\w=f:=λw=>by
  rw[<-i];exact number (a.extract 1 a.size) (by rw[Xa];omega) w
 have h:=aa j;have o:=bY ((B a).drop 1) (by first|(rw[<-aj];omega)|(rw[Va,<-aj];omega));clear j i d;generalize aw ((B a).drop 1)=v at h o ⊢;go_in;go_wp2_with (first|(go_at_call 184;refine(h.out _).mono ?_;rintro e f ⟨rfl,rfl⟩)|(go_at_call 183;refine(mZ a 16 (by omega) _).mono ?_;rintro e f ⟨rfl,rfl⟩))
 all_goals go_ret
 all_goals refine⟨fT ?_,(((((bS.refl _ _).set 2 _).set 2 _).set 1 _).set 3 _).set 2 _,(((((n.out).set 2 _).set 2 _).set 1 _).set 3 _).set 2 _⟩
 all_goals first|(simp_all;done)|(cases c<;>simp_all<;>omega)
theorem JQ (b:Nat)(a:ByteArray)(c:Bool)(y:a.size<=140737488355328)(k l m:C)(w:N)(p:a.toList.isEmpty=false)(s:0<a.size)(d:(a[0].toNat:Int)=45)
  (g:af w b 218 #[k,I .u8 0,I O 0,L ⟨#[]⟩,l,m]):
  Ya Wa 185 #[Ua (Z ⟨b,0,Y⟩),L a,L ⟨#[109,115]⟩,bO c] w λe f=>e=ca (bO (false))/\bS b w f/\af f b 218 #[k,I .u8 109,I O (-(aw ((B a).drop 1))),L ⟨#[]⟩,l,m]:=by
 have n:=aa g;obtain⟨t,c1,c2,c3,u,x⟩:=aR g;obtain⟨z,A,D,E,F,G⟩:=bN g;clear g;have i:B (a.extract 1 a.size)=(B a).drop 1:=by
  rw[bu,Za];rw[Va,aj];exact eb _
 have q:((a[0].toNat:Int)==45)=true:=by rw[d];rfl
 have r:((a[0].toNat:Int)==43)=false:=by rw[d];rfl
 have j:∀w,Ya Wa 184 #[L (a.extract 1 a.size)] w λe f=>e=ca (I O (aw ((B a).drop 1)))/\w=f:=λw=>by
  rw[<-i];exact number (a.extract 1 a.size) (by rw[Xa];omega) w
 have h:=aa j;have o:=bY ((B a).drop 1) (by first|(rw[<-aj];omega)|(rw[Va,<-aj];omega));clear j i d;generalize aw ((B a).drop 1)=v at h o ⊢;go_in;go_wp2_with (go_at_call 184;refine(h.out _).mono ?_;rintro e f ⟨rfl,rfl⟩)
 all_goals go_ret
 all_goals refine⟨fT ?_,(((bS.refl _ _).set 2 _).set 2 _).set 1 _,(((n.out).set 2 _).set 2 _).set 1 _⟩
 all_goals first|(simp_all;done)|(cases c<;>simp_all<;>omega)
theorem MJ (b:Nat)(a:ByteArray)(c:Bool)(y:a.size<=140737488355328)(k l m:C)(w:N)(p:a.toList.isEmpty=false)(s:0<a.size)(d:(a[0].toNat:Int)=45)
  (g:af w b 218 #[k,I .u8 0,I O 0,L ⟨#[]⟩,l,m]):
  Ya Wa 185 #[Ua (Z ⟨b,0,Y⟩),L a,L ⟨#[104]⟩,bO c] w λe f=>e=ca (bO (false))/\bS b w f/\af f b 218 #[k,I .u8 109,I O (-(aw ((B a).drop 1))),L ⟨#[]⟩,l,m]:=by
 have n:=aa g;obtain⟨t,c1,c2,c3,u,x⟩:=aR g;obtain⟨z,A,D,E,F,G⟩:=bN g;clear g;have i:B (a.extract 1 a.size)=(B a).drop 1:=by
  rw[bu,Za];rw[Va,aj];exact eb _
 have q:((a[0].toNat:Int)==45)=true:=by rw[d];rfl
 have r:((a[0].toNat:Int)==43)=false:=by rw[d];rfl
 have j:∀w,Ya Wa 184 #[L (a.extract 1 a.size)] w λe f=>e=ca (I O (aw ((B a).drop 1)))/\w=f:=λw=>by
  rw[<-i];exact number (a.extract 1 a.size) (by rw[Xa];omega) w
 have h:=aa j;have o:=bY ((B a).drop 1) (by first|(rw[<-aj];omega)|(rw[Va,<-aj];omega));clear j i d;generalize aw ((B a).drop 1)=v at h o ⊢;go_in;go_wp2_with (go_at_call 184;refine(h.out _).mono ?_;rintro e f ⟨rfl,rfl⟩)
 all_goals go_ret
 all_goals refine⟨fT ?_,(((bS.refl _ _).set 2 _).set 2 _).set 1 _,(((n.out).set 2 _).set 2 _).set 1 _⟩
 all_goals first|(simp_all;done)|(cases c<;>simp_all<;>omega)
theorem MD (b:Nat)(a:ByteArray)(c:Bool)(y:a.size<=140737488355328)(k l m:C)(w:N)(p:a.toList.isEmpty=false)(s:0<a.size)(d:(a[0].toNat:Int)=43)
  (g:af w b 218 #[k,I .u8 0,I O 0,L ⟨#[]⟩,l,m]):
  Ya Wa 185 #[Ua (Z ⟨b,0,Y⟩),L a,L ⟨#[99]⟩,bO c] w λe f=>e=ca (bO (false))/\bS b w f/\af f b 218 #[k,I .u8 99,I O (aw ((B a).drop 1)),L ⟨#[]⟩,l,m]:=by
 have n:=aa g;obtain⟨t,c1,c2,c3,u,x⟩:=aR g;obtain⟨z,A,D,E,F,G⟩:=bN g;clear g;have i:B (a.extract 1 a.size)=(B a).drop 1:=by
  rw[bu,Za];rw[Va,aj];exact eb _
 have q:((a[0].toNat:Int)==45)=false:=by rw[d];rfl
 have r:((a[0].toNat:Int)==43)=true:=by rw[d];rfl
 have j:∀w,Ya Wa 184 #[L (a.extract 1 a.size)] w λe f=>e=ca (I O (aw ((B a).drop 1)))/\w=f:=λw=>by
  rw[<-i];exact number (a.extract 1 a.size) (by rw[Xa];omega) w
 have h:=aa j;have o:=bY ((B a).drop 1) (by first|(rw[<-aj];omega)|(rw[Va,<-aj];omega));clear j i d;generalize aw ((B a).drop 1)=v at h o ⊢;go_in;go_wp2_with (go_at_call 184;refine(h.out _).mono ?_;rintro e f ⟨rfl,rfl⟩)
 all_goals go_ret
 all_goals refine⟨fT ?_,((bS.refl _ _).set 2 _).set 1 _,((n.out).set 2 _).set 1 _⟩
 all_goals first|(simp_all;done)|(cases c<;>simp_all<;>omega)
theorem MH (b:Nat)(a:ByteArray)(c:Bool)(y:a.size<=140737488355328)(k l m:C)(w:N)(p:a.toList.isEmpty=false)(s:0<a.size)(d:(a[0].toNat:Int)=43)
  (g:af w b 218 #[k,I .u8 0,I O 0,L ⟨#[]⟩,l,m]):
  Ya Wa 185 #[Ua (Z ⟨b,0,Y⟩),L a,L ⟨#[103]⟩,bO c] w λe f=>e=ca (bO ((decide (0<=aw ((B a).drop 1))&&!c)))/\bS b w f/\af f b 218 #[k,I .u8 100,I O (aw ((B a).drop 1)),L ⟨#[]⟩,l,m]:=by
 have n:=aa g;obtain⟨t,c1,c2,c3,u,x⟩:=aR g;obtain⟨z,A,D,E,F,G⟩:=bN g;clear g;have i:B (a.extract 1 a.size)=(B a).drop 1:=by
  rw[bu,Za];rw[Va,aj];exact eb _
 have q:((a[0].toNat:Int)==45)=false:=by rw[d];rfl
 have r:((a[0].toNat:Int)==43)=true:=by rw[d];rfl
 have j:∀w,Ya Wa 184 #[L (a.extract 1 a.size)] w λe f=>e=ca (I O (aw ((B a).drop 1)))/\w=f:=λw=>by
  rw[<-i];exact number (a.extract 1 a.size) (by rw[Xa];omega) w
 have h:=aa j;have o:=bY ((B a).drop 1) (by first|(rw[<-aj];omega)|(rw[Va,<-aj];omega));clear j i d;generalize aw ((B a).drop 1)=v at h o ⊢;go_in;go_wp2_with (go_at_call 184;refine(h.out _).mono ?_;rintro e f ⟨rfl,rfl⟩)
 all_goals go_ret
 all_goals refine⟨fT ?_,(((bS.refl _ _).set 2 _).set 1 _).set 1 _,(((n.out).set 2 _).set 1 _).set 1 _⟩
 all_goals first|(simp_all;done)|(cases c<;>simp_all<;>omega)
theorem MP (b:Nat)(a:ByteArray)(c:Bool)(y:a.size<=140737488355328)(k l m:C)(w:N)(p:a.toList.isEmpty=false)(s:0<a.size)(d:(a[0].toNat:Int)=43)
  (g:af w b 218 #[k,I .u8 0,I O 0,L ⟨#[]⟩,l,m]):
  Ya Wa 185 #[Ua (Z ⟨b,0,Y⟩),L a,L ⟨#[115]⟩,bO c] w λe f=>e=ca (bO ((made dm 16 (B a)&&!c)))/\bS b w f/\af f b 218 #[k,I .u8 115,I O (0),L a,l,m]:=by
 have n:=aa g;obtain⟨t,c1,c2,c3,u,x⟩:=aR g;obtain⟨z,A,D,E,F,G⟩:=bN g;clear g;have i:B (a.extract 1 a.size)=(B a).drop 1:=by
  rw[bu,Za];rw[Va,aj];exact eb _
 have q:((a[0].toNat:Int)==45)=false:=by rw[d];rfl
 have r:((a[0].toNat:Int)==43)=true:=by rw[d];rfl
 have j:∀w,Ya Wa 184 #[L (a.extract 1 a.size)] w λe f=>e=ca (I O (aw ((B a).drop 1)))/\w=f:=λw=>by
  rw[<-i];exact number (a.extract 1 a.size) (by rw[Xa];omega) w
 have h:=aa j;have o:=bY ((B a).drop 1) (by first|(rw[<-aj];omega)|(rw[Va,<-aj];omega));clear j i d;generalize aw ((B a).drop 1)=v at h o ⊢;go_in;go_wp2_with (first|(go_at_call 184;refine(h.out _).mono ?_;rintro e f ⟨rfl,rfl⟩)|(go_at_call 183;refine(mZ a 16 (by omega) _).mono ?_;rintro e f ⟨rfl,rfl⟩))
 all_goals go_ret
 all_goals refine⟨fT ?_,((((bS.refl _ _).set 2 _).set 1 _).set 3 _).set 2 _,((((n.out).set 2 _).set 1 _).set 3 _).set 2 _⟩
 all_goals first|(simp_all;done)|(cases c<;>simp_all<;>omega)
theorem JT (b:Nat)(a:ByteArray)(c:Bool)(y:a.size<=140737488355328)(k l m:C)(w:N)(p:a.toList.isEmpty=false)(s:0<a.size)(d:(a[0].toNat:Int)=43)
  (g:af w b 218 #[k,I .u8 0,I O 0,L ⟨#[]⟩,l,m]):
  Ya Wa 185 #[Ua (Z ⟨b,0,Y⟩),L a,L ⟨#[109,115]⟩,bO c] w λe f=>e=ca (bO (false))/\bS b w f/\af f b 218 #[k,I .u8 109,I O (aw ((B a).drop 1)),L ⟨#[]⟩,l,m]:=by
 have n:=aa g;obtain⟨t,c1,c2,c3,u,x⟩:=aR g;obtain⟨z,A,D,E,F,G⟩:=bN g;clear g;have i:B (a.extract 1 a.size)=(B a).drop 1:=by
  rw[bu,Za];rw[Va,aj];exact eb _
 have q:((a[0].toNat:Int)==45)=false:=by rw[d];rfl
 have r:((a[0].toNat:Int)==43)=true:=by rw[d];rfl
 have j:∀w,Ya Wa 184 #[L (a.extract 1 a.size)] w λe f=>e=ca (I O (aw ((B a).drop 1)))/\w=f:=λw=>by
  rw[<-i];exact number (a.extract 1 a.size) (by rw[Xa];omega) w
 have h:=aa j;have o:=bY ((B a).drop 1) (by first|(rw[<-aj];omega)|(rw[Va,<-aj];omega));clear j i d;generalize aw ((B a).drop 1)=v at h o ⊢;go_in;go_wp2_with (go_at_call 184;refine(h.out _).mono ?_;rintro e f ⟨rfl,rfl⟩)
 all_goals go_ret
 all_goals refine⟨fT ?_,((bS.refl _ _).set 2 _).set 1 _,((n.out).set 2 _).set 1 _⟩
 all_goals first|(simp_all;done)|(cases c<;>simp_all<;>omega)
theorem ML (b:Nat)(a:ByteArray)(c:Bool)(y:a.size<=140737488355328)(k l m:C)(w:N)(p:a.toList.isEmpty=false)(s:0<a.size)(d:(a[0].toNat:Int)=43)
  (g:af w b 218 #[k,I .u8 0,I O 0,L ⟨#[]⟩,l,m]):
  Ya Wa 185 #[Ua (Z ⟨b,0,Y⟩),L a,L ⟨#[104]⟩,bO c] w λe f=>e=ca (bO (false))/\bS b w f/\af f b 218 #[k,I .u8 109,I O (aw ((B a).drop 1)),L ⟨#[]⟩,l,m]:=by
 have n:=aa g;obtain⟨t,c1,c2,c3,u,x⟩:=aR g;obtain⟨z,A,D,E,F,G⟩:=bN g;clear g;have i:B (a.extract 1 a.size)=(B a).drop 1:=by
  rw[bu,Za];rw[Va,aj];exact eb _
 have q:((a[0].toNat:Int)==45)=false:=by rw[d];rfl
 have r:((a[0].toNat:Int)==43)=true:=by rw[d];rfl
 have j:∀w,Ya Wa 184 #[L (a.extract 1 a.size)] w λe f=>e=ca (I O (aw ((B a).drop 1)))/\w=f:=λw=>by
  rw[<-i];exact number (a.extract 1 a.size) (by rw[Xa];omega) w
 have h:=aa j;have o:=bY ((B a).drop 1) (by first|(rw[<-aj];omega)|(rw[Va,<-aj];omega));clear j i d;generalize aw ((B a).drop 1)=v at h o ⊢;go_in;go_wp2_with (go_at_call 184;refine(h.out _).mono ?_;rintro e f ⟨rfl,rfl⟩)
 all_goals go_ret
 all_goals refine⟨fT ?_,((bS.refl _ _).set 2 _).set 1 _,((n.out).set 2 _).set 1 _⟩
 all_goals first|(simp_all;done)|(cases c<;>simp_all<;>omega)
theorem MC (b:Nat)(a:ByteArray)(c:Bool)(n:a.size<=140737488355328)(i j k:C)(w:N)(o:a.toList.isEmpty=false)(r:0<a.size)(p:((a[0].toNat:Int)==45)=false)(q:((a[0].toNat:Int)==43)=false)
  (f:af w b 218 #[i,I .u8 0,I O 0,L ⟨#[]⟩,j,k]):
  Ya Wa 185 #[Ua (Z ⟨b,0,Y⟩),L a,L ⟨#[99]⟩,bO c] w λe d=>e=ca (bO (decide (0<=aw (B a))))/\bS b w d/\af d b 218 #[i,I .u8 99,I O (aw (B a)),L ⟨#[]⟩,j,k]:=by
 have l:=aa f;obtain⟨s,c1,c2,c3,t,u⟩:=aR f;obtain⟨x,y,z,A,D,E⟩:=bN f;clear f;have h:∀w,Ya Wa 184 #[L a] w λe d=>e=ca (I O (aw (B a)))/\w=d:=λw=>by
  skip
  exact number a n w
 have g:=aa h;have m:=bY (B a) (by first|(rw[<-aj];omega)|(rw[Va,<-aj];omega));clear h;generalize aw (B a)=v at g m ⊢;go_in;go_wp2_with (go_at_call 184;refine(g.out _).mono ?_;rintro e d ⟨rfl,rfl⟩)
 all_goals go_ret
 all_goals refine⟨fT ?_,((bS.refl _ _).set 2 _).set 1 _,((l.out).set 2 _).set 1 _⟩
 all_goals first|(simp_all;done)|(cases c<;>simp_all<;>omega)
theorem MG (b:Nat)(c:ByteArray)(a:Bool)(n:c.size<=140737488355328)(i j k:C)(w:N)(o:c.toList.isEmpty=false)(r:0<c.size)(p:((c[0].toNat:Int)==45)=false)(q:((c[0].toNat:Int)==43)=false)
  (f:af w b 218 #[i,I .u8 0,I O 0,L ⟨#[]⟩,j,k]):
  Ya Wa 185 #[Ua (Z ⟨b,0,Y⟩),L c,L ⟨#[103]⟩,bO a] w λe d=>e=ca (bO ((decide (0<=aw (B c))&&!a)))/\bS b w d/\af d b 218 #[i,I .u8 103,I O (aw (B c)),L ⟨#[]⟩,j,k]:=by
 have l:=aa f;obtain⟨s,c1,c2,c3,t,u⟩:=aR f;obtain⟨x,y,z,A,D,E⟩:=bN f;clear f;have h:∀w,Ya Wa 184 #[L c] w λe d=>e=ca (I O (aw (B c)))/\w=d:=λw=>by
  skip
  exact number c n w
 have g:=aa h;have m:=bY (B c) (by first|(rw[<-aj];omega)|(rw[Va,<-aj];omega));clear h;generalize aw (B c)=v at g m ⊢;go_in;go_wp2_with (go_at_call 184;refine(g.out _).mono ?_;rintro e d ⟨rfl,rfl⟩)
 all_goals go_ret
 all_goals refine⟨fT ?_,((bS.refl _ _).set 2 _).set 1 _,((l.out).set 2 _).set 1 _⟩
 all_goals first|(simp_all;done)|(cases a<;>simp_all<;>omega)
theorem MO (b:Nat)(c:ByteArray)(a:Bool)(n:c.size<=140737488355328)(i j k:C)(w:N)(o:c.toList.isEmpty=false)(r:0<c.size)(p:((c[0].toNat:Int)==45)=false)(q:((c[0].toNat:Int)==43)=false)
  (f:af w b 218 #[i,I .u8 0,I O 0,L ⟨#[]⟩,j,k]):
  Ya Wa 185 #[Ua (Z ⟨b,0,Y⟩),L c,L ⟨#[115]⟩,bO a] w λe d=>e=ca (bO ((made dm 16 (B c)&&!a)))/\bS b w d/\af d b 218 #[i,I .u8 115,I O (0),L c,j,k]:=by
 have l:=aa f;obtain⟨s,c1,c2,c3,t,u⟩:=aR f;obtain⟨x,y,z,A,D,E⟩:=bN f;clear f;have h:∀w,Ya Wa 184 #[L c] w λe d=>e=ca (I O (aw (B c)))/\w=d:=λw=>by
  skip
  exact number c n w
 have g:=aa h;have m:=bY (B c) (by first|(rw[<-aj];omega)|(rw[Va,<-aj];omega));clear h;generalize aw (B c)=v at g m ⊢;go_in;go_wp2_with (first|(go_at_call 184;refine(g.out _).mono ?_;rintro e d ⟨rfl,rfl⟩)|(go_at_call 183;refine(mZ c 16 (by omega) _).mono ?_;rintro e d ⟨rfl,rfl⟩))
 all_goals go_ret
 all_goals refine⟨fT ?_,((((bS.refl _ _).set 2 _).set 1 _).set 3 _).set 2 _,((((l.out).set 2 _).set 1 _).set 3 _).set 2 _⟩
 all_goals first|(simp_all;done)|(cases a<;>simp_all<;>omega)
theorem JS (b:Nat)(a:ByteArray)(c:Bool)(n:a.size<=140737488355328)(i j k:C)(w:N)(o:a.toList.isEmpty=false)(r:0<a.size)(p:((a[0].toNat:Int)==45)=false)(q:((a[0].toNat:Int)==43)=false)
  (f:af w b 218 #[i,I .u8 0,I O 0,L ⟨#[]⟩,j,k]):
  Ya Wa 185 #[Ua (Z ⟨b,0,Y⟩),L a,L ⟨#[109,115]⟩,bO c] w λe d=>e=ca (bO (decide (0<=aw (B a))))/\bS b w d/\af d b 218 #[i,I .u8 109,I O (aw (B a)),L ⟨#[]⟩,j,k]:=by
 have l:=aa f;obtain⟨s,c1,c2,c3,t,u⟩:=aR f;obtain⟨x,y,z,A,D,E⟩:=bN f;clear f;have h:∀w,Ya Wa 184 #[L a] w λe d=>e=ca (I O (aw (B a)))/\w=d:=λw=>by
  skip
  exact number a n w
 have g:=aa h;have m:=bY (B a) (by first|(rw[<-aj];omega)|(rw[Va,<-aj];omega));clear h;generalize aw (B a)=v at g m ⊢;go_in;go_wp2_with (go_at_call 184;refine(g.out _).mono ?_;rintro e d ⟨rfl,rfl⟩)
 all_goals go_ret
 all_goals refine⟨fT ?_,((bS.refl _ _).set 2 _).set 1 _,((l.out).set 2 _).set 1 _⟩
 all_goals first|(simp_all;done)|(cases c<;>simp_all<;>omega)
theorem MK (b:Nat)(a:ByteArray)(c:Bool)(n:a.size<=140737488355328)(i j k:C)(w:N)(o:a.toList.isEmpty=false)(r:0<a.size)(p:((a[0].toNat:Int)==45)=false)(q:((a[0].toNat:Int)==43)=false)
  (f:af w b 218 #[i,I .u8 0,I O 0,L ⟨#[]⟩,j,k]):
  Ya Wa 185 #[Ua (Z ⟨b,0,Y⟩),L a,L ⟨#[104]⟩,bO c] w λe d=>e=ca (bO (decide (0<=aw (B a))))/\bS b w d/\af d b 218 #[i,I .u8 109,I O (aw (B a)),L ⟨#[]⟩,j,k]:=by
 have l:=aa f;obtain⟨s,c1,c2,c3,t,u⟩:=aR f;obtain⟨x,y,z,A,D,E⟩:=bN f;clear f;have h:∀w,Ya Wa 184 #[L a] w λe d=>e=ca (I O (aw (B a)))/\w=d:=λw=>by
  skip
  exact number a n w
 have g:=aa h;have m:=bY (B a) (by first|(rw[<-aj];omega)|(rw[Va,<-aj];omega));clear h;generalize aw (B a)=v at g m ⊢;go_in;go_wp2_with (go_at_call 184;refine(g.out _).mono ?_;rintro e d ⟨rfl,rfl⟩)
 all_goals go_ret
 all_goals refine⟨fT ?_,((bS.refl _ _).set 2 _).set 1 _,((l.out).set 2 _).set 1 _⟩
 all_goals first|(simp_all;done)|(cases c<;>simp_all<;>omega)
end Refv
namespace Refvj
open Go.RowKit Bytes Nums Refs Numw Mem Refw Refn Refv
theorem ot (b:Nat)(a j:ByteArray)(i:Bool)(s:a.size<=140737488355328)(t u y:C)(w:N)(F:(j.toList==[99])=false)(G:(j.toList==[103])=false)(H:(j.toList==[115])=false)(J:(j.toList==[109,115])=false)(K:(j.toList==[104])=false)
  (m:af w b 218 #[t,I .u8 0,I O 0,L ⟨#[]⟩,u,y]):
  Ya Wa 185 #[Ua (Z ⟨b,0,Y⟩),L a,L j,bO i] w λe c=>e=ca (bO false)/\bS b w c/\∃v,af c b 218 #[t,I .u8 0,I O v,L ⟨#[]⟩,u,y]:=by
 have l:=aa m;obtain⟨B,c1,c2,c3,D,E⟩:=aR m;obtain⟨M,P,R,S,T,U⟩:=bN m;clear m;have k:∀(x:ByteArray) (W:N),x.size<=140737488355328->Ya Wa 184 #[L x] W λe c=>(∃v,e=ca (I O v)/\-1<=v/\v<=999999999)/\W=c:=λx W A=>(number x A W).mono λe c h=>⟨⟨_,h.1,(iB _).1,(iB _).2⟩,h.2⟩
 change Hid _ at k;by_cases n:a.size=0
 .have q:a.toList.isEmpty=true:=by
   rw[nh];exact qb (by rw[<-aj];exact n)
  go_in;go_wp2_with (go_at_call 184;refine(k.out a _ s).mono ?_;rintro e c ⟨⟨v,rfl,f,g⟩,rfl⟩)
  go_ret;exact⟨rfl,(bS.refl _ _).set 2 _,v,l.set 2 _⟩
 have z:0<a.size:=by omega
 have q:a.toList.isEmpty=false:=by
  cases r:a.toList.isEmpty with
  | false=>rfl
  | true=>
   rw[nh]at r;rw[aj,r]at n;exact absurd rfl n
 by_cases d:(a[0].toNat:Int)=45
 .have o:((a[0].toNat:Int)==45)=true:=by simpa using d
  change Hid _ at d;go_in;go_wp2_with (go_at_call 184;refine(k.out (a.extract 1 a.size) _ (by rw[Xa];omega)).mono ?_;rintro e c ⟨⟨v,rfl,f,g⟩,rfl⟩)
  go_ret;exact⟨rfl,((bS.refl _ _).set 2 _).set 2 _,_,(l.set 2 _).set 2 _⟩
 have o:((a[0].toNat:Int)==45)=false:=by simpa using d
 by_cases d:(a[0].toNat:Int)=43
 .have p:((a[0].toNat:Int)==43)=true:=by simpa using d
  change Hid _ at d;go_in;go_wp2_with (go_at_call 184;refine(k.out (a.extract 1 a.size) _ (by rw[Xa];omega)).mono ?_;rintro e c ⟨⟨v,rfl,f,g⟩,rfl⟩)
  go_ret;exact⟨rfl,(bS.refl _ _).set 2 _,_,l.set 2 _⟩
 have p:((a[0].toNat:Int)==43)=false:=by simpa using d
 go_in;go_wp2_with (go_at_call 184;refine(k.out a _ s).mono ?_;rintro e c ⟨⟨v,rfl,f,g⟩,rfl⟩)
 go_ret;exact⟨rfl,(bS.refl _ _).set 2 _,_,l.set 2 _⟩
def Joined (b:Nat)(k l:List UInt8)(a:Bool)(f g h:C)(w:N)(e:Ending)(d:N):Prop:=
 bS b w d/\((bK k l a=Y/\e=ca (bO false)/\∃(K v:Int) (c:ByteArray),af d b 218 #[f,I .u8 K,I O v,L c,g,h])\/
  (∃K v x,bK k l a=Z (K,v,x)/\e=ca (bO true)/\∃c:ByteArray,B c=x/\af d b 218 #[f,I .u8 K,I O v,L c,g,h]))
variable {a b:UInt8}
theorem bW {b:Nat}{k l:List UInt8}{a d:Bool}{n o p:C}{w f:N}{e:Ending}{K v:Int}{c:ByteArray}(h:e=ca (bO d)/\bS b w f/\af f b 218 #[n,I .u8 K,I O v,L c,o,p])
  (m:bK k l a=if d=true then Z (K,v,B c) else Y):Joined b k l a n o p w e f:=by
 obtain⟨j,i,g⟩:=h;cases d with
 | true=>exact⟨i,Or.inr ⟨K,v,B c,m,j,c,rfl,g⟩⟩
 | false=>exact⟨i,Or.inl ⟨m,j,K,v,c,g⟩⟩
theorem eW:B ⟨#[]⟩=[]:=rfl
theorem LV {l:List UInt8}(h:l=[]):qC l=0:=by rw[h];rfl
theorem sq {s:ByteArray}(h:0<s.size):qC (B s)=if s[0]=45 then 45 else if s[0]=43 then 43 else 0:=by
 rw[uN h];rfl
theorem BI (h:(a.toNat:Int)=(b.toNat:Int)):a=b:=by
 apply UInt8.toNat_inj.1;omega
theorem qT (h:¬(a.toNat:Int)=(b.toNat:Int)):¬a=b:=by
 rintro rfl;exact h rfl
theorem vT (b:Nat)(c d:ByteArray)(a:Bool)(o:c.size<=140737488355328)(j k l:C)(w:N)
  (n:af w b 218 #[j,I .u8 0,I O 0,L ⟨#[]⟩,k,l]):
  Ya Wa 185 #[Ua (Z ⟨b,0,Y⟩),L c,L d,bO a] w λe m=>Joined b (B d) (B c) a j k l w e m:=by
 by_cases hz:c.size=0
 .have D:B c=[]:=qb (by rw[<-aj];exact hz);have f:c.toList.isEmpty=true:=nh.2 D;have i:qC (B c)=0:=LV D;have p:eB (B c)=B c:=by rw[eB,if_pos i]
  by_cases q:B d=[99]
  .obtain rfl:d=⟨#[99]⟩:=bo q;refine(MA b c a o j k l w f n).mono λe m h=>bW h ?_
   rw[bK,i,p,q,eW];cases a<;>simp
  by_cases r:B d=[103]
  .obtain rfl:d=⟨#[103]⟩:=bo r;refine(ME b c a o j k l w f n).mono λe m h=>bW h ?_
   rw[bK,i,p,r,eW];cases a<;>simp
  by_cases s:B d=[115]
  .obtain rfl:d=⟨#[115]⟩:=bo s;refine(MM b c a o j k l w f n).mono λe m h=>bW h ?_
   rw[bK,i,p,s];cases a<;>simp
  by_cases t:B d=[109,115]
  .obtain rfl:d=⟨#[109,115]⟩:=bo t;refine(JP b c a o j k l w f n).mono λe m h=>bW h ?_
   rw[bK,i,p,t,eW];cases a<;>simp
  by_cases u:B d=[104]
  .obtain rfl:d=⟨#[104]⟩:=bo u;refine(MI b c a o j k l w f n).mono λe m h=>bW h ?_
   rw[bK,i,p,u,eW];cases a<;>simp
  refine(ot b c d a o j k l w (Vals.bH q) (Vals.bH r) (Vals.bH s) (Vals.bH t) (Vals.bH u) n).mono λe m h=>?_
  obtain⟨G,F,v,x⟩:=h;exact⟨F,Or.inl ⟨by simp[bK,q,r,s,t,u],G,_,_,_,x⟩⟩
 have g:0<c.size:=by omega
 have f:c.toList.isEmpty=false:=by
  cases H:c.toList.isEmpty with
  | false=>rfl
  | true=>
   rw[nh]at H;rw[aj,H]at hz;exact absurd rfl hz
 by_cases A:(c[0].toNat:Int)=45
 .have i:qC (B c)=45:=by rw[sq g,if_pos (BI A)]
  have p:eB (B c)=(B c).drop 1:=by rw[eB,if_neg (by rw[i];decide)]
  by_cases q:B d=[99]
  .obtain rfl:d=⟨#[99]⟩:=bo q;refine(MB b c a o j k l w f g A n).mono λe m h=>bW h ?_
   rw[bK,i,p,q,eW];cases a<;>simp
  by_cases r:B d=[103]
  .obtain rfl:d=⟨#[103]⟩:=bo r;refine(MF b c a o j k l w f g A n).mono λe m h=>bW h ?_
   rw[bK,i,p,r,eW];cases a<;>simp
  by_cases s:B d=[115]
  .obtain rfl:d=⟨#[115]⟩:=bo s;refine(MN b c a o j k l w f g A n).mono λe m h=>bW h ?_
   rw[bK,i,p,s];cases a<;>simp
  by_cases t:B d=[109,115]
  .obtain rfl:d=⟨#[109,115]⟩:=bo t;refine(JQ b c a o j k l w f g A n).mono λe m h=>bW h ?_
   rw[bK,i,p,t,eW];cases a<;>simp
  by_cases u:B d=[104]
  .obtain rfl:d=⟨#[104]⟩:=bo u;refine(MJ b c a o j k l w f g A n).mono λe m h=>bW h ?_
   rw[bK,i,p,u,eW];cases a<;>simp
  refine(ot b c d a o j k l w (Vals.bH q) (Vals.bH r) (Vals.bH s) (Vals.bH t) (Vals.bH u) n).mono λe m h=>?_
  obtain⟨G,F,v,x⟩:=h;exact⟨F,Or.inl ⟨by simp[bK,q,r,s,t,u],G,_,_,_,x⟩⟩
 by_cases E:(c[0].toNat:Int)=43
 .have i:qC (B c)=43:=by rw[sq g,if_neg (qT A),if_pos (BI E)]
  have p:eB (B c)=(B c).drop 1:=by rw[eB,if_neg (by rw[i];decide)]
  by_cases q:B d=[99]
  .obtain rfl:d=⟨#[99]⟩:=bo q;refine(MD b c a o j k l w f g E n).mono λe m h=>bW h ?_
   rw[bK,i,p,q,eW];cases a<;>simp
  by_cases r:B d=[103]
  .obtain rfl:d=⟨#[103]⟩:=bo r;refine(MH b c a o j k l w f g E n).mono λe m h=>bW h ?_
   rw[bK,i,p,r,eW];cases a<;>simp
  by_cases s:B d=[115]
  .obtain rfl:d=⟨#[115]⟩:=bo s;refine(MP b c a o j k l w f g E n).mono λe m h=>bW h ?_
   rw[bK,i,p,s];cases a<;>simp
  by_cases t:B d=[109,115]
  .obtain rfl:d=⟨#[109,115]⟩:=bo t;refine(JT b c a o j k l w f g E n).mono λe m h=>bW h ?_
   rw[bK,i,p,t,eW];cases a<;>simp
  by_cases u:B d=[104]
  .obtain rfl:d=⟨#[104]⟩:=bo u;refine(ML b c a o j k l w f g E n).mono λe m h=>bW h ?_
   rw[bK,i,p,u,eW];cases a<;>simp
  refine(ot b c d a o j k l w (Vals.bH q) (Vals.bH r) (Vals.bH s) (Vals.bH t) (Vals.bH u) n).mono λe m h=>?_
  obtain⟨G,F,v,x⟩:=h;exact⟨F,Or.inl ⟨by simp[bK,q,r,s,t,u],G,_,_,_,x⟩⟩
 have i:qC (B c)=0:=by rw[sq g,if_neg (qT A),if_neg (qT E)]
 have p:eB (B c)=B c:=by rw[eB,if_pos i]
 have y:((c[0].toNat:Int)==45)=false:=by simpa using A
 have z:((c[0].toNat:Int)==43)=false:=by simpa using E
 by_cases q:B d=[99]
 .obtain rfl:d=⟨#[99]⟩:=bo q;refine(MC b c a o j k l w f g y z n).mono λe m h=>bW h ?_
  rw[bK,i,p,q,eW];cases a<;>simp
 by_cases r:B d=[103]
 .obtain rfl:d=⟨#[103]⟩:=bo r;refine(MG b c a o j k l w f g y z n).mono λe m h=>bW h ?_
  rw[bK,i,p,r,eW];cases a<;>simp
 by_cases s:B d=[115]
 .obtain rfl:d=⟨#[115]⟩:=bo s;refine(MO b c a o j k l w f g y z n).mono λe m h=>bW h ?_
  rw[bK,i,p,s];cases a<;>simp
 by_cases t:B d=[109,115]
 .obtain rfl:d=⟨#[109,115]⟩:=bo t;refine(JS b c a o j k l w f g y z n).mono λe m h=>bW h ?_
  rw[bK,i,p,t,eW];cases a<;>simp
 by_cases u:B d=[104]
 .obtain rfl:d=⟨#[104]⟩:=bo u;refine(MK b c a o j k l w f g y z n).mono λe m h=>bW h ?_
  rw[bK,i,p,u,eW];cases a<;>simp
 refine(ot b c d a o j k l w (Vals.bH q) (Vals.bH r) (Vals.bH s) (Vals.bH t) (Vals.bH u) n).mono λe m h=>?_
 obtain⟨G,F,v,x⟩:=h;exact⟨F,Or.inl ⟨by simp[bK,q,r,s,t,u],G,_,_,_,x⟩⟩
end Refvj
end Go.Proofs.YtpndiccohnafbaaGreatDoor
