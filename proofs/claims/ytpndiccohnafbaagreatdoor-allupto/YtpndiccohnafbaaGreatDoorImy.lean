/- Maps in memory, by the list of their entries. -/
import Derived.Maps.OwnSet
import Derived.Maps.Views
import Derived.Test.YtpndiccohnafbaaGreatDoorProg
import Derived.Test.YtpndiccohnafbaaGreatDoorMemy
import Derived.WalkKit
import Derived.WalkLawsBesides
import Derived.Handy
import Derived.Deep.QuietTactic
import Derived.BigQuiet
open Go.DataW renaming held->ca,insert->Va
open Go renaming Value->C
open List renaming pairwise_cons->Ua
open Function renaming comp_def->Wa
namespace Go.Proofs.YtpndiccohnafbaaGreatDoor
namespace Im
open Go
def kg (a:C->Bool)(v:C):Option (DataW C×List MemPlace):=if a v=true then some (.held v,[]) else none
theorem kr {ok:C->Bool}{v:C}(h:ok v=true):kg ok v=some (.held v,[]):=by simp[kg,h]
theorem mc {a:C->Bool}{v:C}{z:DataW C×List MemPlace}(h:kg a v=some z):a v=true/\z=(.held v,[]):=by grind [kg]
section
variable {κ β : Type} {lit : κ -> Lit} {lt : κ -> κ -> Bool} {f : β -> C}
def mp (lit:κ->Lit)(f:β->C)(l:List (κ×β)):DataW Value:=.map (l.map λp=>(lit p.1,.held (f p.2)))
def ins (lt:κ->κ->Bool)(x:κ×β):List (κ×β)->List (κ×β)
 | []=>[x]
 | y ::r=>if lt x.1 y.1 then x ::y ::r else y ::ins lt x r
theorem gK (l:List (κ×β)):Maps.size (mp lit f l)=l.length:=by
 show (l.map λp=>(lit p.1,ca (f p.2))).length=_;simp
theorem Ox (c:∀a b,(lit a).before (lit b)=lt a b)(x:κ×β)(l:List (κ×β)):Va (lit x.1,ca (f x.2)) (l.map λp=>(lit p.1,ca (f p.2)))=(ins lt x l).map λp=>(lit p.1,ca (f p.2)):=by
 induction l with
 | nil=>rfl
 | cons y r d=>grind [Va,ins]
theorem kA (x:κ×β)(l:List (κ×β))(y:κ×β):y∈ins lt x l↔y=x\/y∈l:=by
 induction l with
 | nil=>simp[ins]
 | cons p r a=>grind [ins]
theorem Ad (x:κ×β)(l:List (κ×β)):(ins lt x l).length=l.length+1:=by
 induction l with
 | nil=>rfl
 | cons p r a=>grind [ins]
theorem rD (x:κ×β)(l:List (κ×β)):(ins lt x l).Perm (x ::l):=by
 induction l with
 | nil=>exact List.Perm.refl _
 | cons p r a=>
  rw[ins];by_cases h:lt x.1 p.1=true
  .simp[h]
  simp only[h,Bool.false_eq_true,if_false];exact(List.Perm.cons p a).trans (List.Perm.swap x p r)
def Up (lt:κ->κ->Bool)(l:List (κ×β)):Prop:=l.Pairwise λp q=>lt p.1 q.1=true
theorem Up.ins (i:∀a b c,lt a b=true->lt b c=true->lt a c=true)(g:∀a b,a≠b->lt a b=false->lt b a=true){l:List (κ×β)}(h:Up lt l)(x:κ×β)(j:∀p∈l,p.1≠x.1):Up lt (ins lt x l):=by
 induction l with
 | nil=>exact List.pairwise_singleton _ _
 | cons p r k=>
  obtain⟨m,f⟩:=Ua.1 h;rw[Im.ins];by_cases e:lt x.1 p.1=true
  .simp only[e,if_true];refine Ua.2 ⟨λq d=>?_,h⟩;grind
  simp only[e,Bool.false_eq_true,if_false];refine Ua.2 ⟨λq d=>?_,k f λq d=>j q (List.mem_cons_of_mem _ d)⟩;grind [kA]
theorem Up.nodup (b:∀a,lt a a=false){l:List (κ×β)}(h:Up lt l):(l.map (·.1)).Nodup:=by
 rw[List.nodup_iff_pairwise_ne,List.pairwise_map];refine h.imp λ{p q} c e=>?_
 grind
end
section
variable {κ β : Type} [DecidableEq κ] {lit : κ -> Lit} {lt : κ -> κ -> Bool} {f : β -> C}
def del (k:κ)(l:List (κ×β)):List (κ×β):=l.filter λp=>!decide (p.1=k)
def put (lt:κ->κ->Bool)(k:κ)(b:β)(l:List (κ×β)):List (κ×β):=ins lt (k,b) (del k l)
def aS (k:κ)(l:List (κ×β)):Option β:=(l.find? λp=>decide (p.1=k)).map (·.2)
def has (k:κ)(l:List (κ×β)):Bool:=l.any λp=>decide (p.1=k)
theorem Hh (c:∀a b,(lit a).sameKey (lit b)=decide (a=b))(k:κ)(l:List (κ×β)):Maps.has (mp lit f l) (lit k)=has k l:=by
 show (l.map λp=>(lit p.1,ca (f p.2))).any (λp=>p.1.sameKey (lit k))=_;rw[List.any_map];grind [has]
theorem Hg (c:∀a b,(lit a).sameKey (lit b)=decide (a=b))(k:κ)(l:List (κ×β))(z:DataW C):(mp lit f l).atKey (lit k) z=match aS k l with|some b=>.held (f b)|none=>z:=by
 simp only[mp,DataW.atKey];unfold aS
 induction l with
 | nil=>rfl
 | cons p r d=>grind
theorem vp (c:∀a b,(lit a).sameKey (lit b)=decide (a=b))(k:κ)(l:List (κ×β)):(mp lit f l).del (lit k)=mp lit f (del k l):=by
 show DataW.map ((l.map λp=>(lit p.1,ca (f p.2))).filter λp=>!p.1.sameKey (lit k))=_;unfold mp del;rw[List.filter_map];congr 2;simp[c,Wa]
theorem vq (d:∀a b,(lit a).sameKey (lit b)=decide (a=b))(c:∀a b,(lit a).before (lit b)=lt a b)(k:κ)(b:β)(l:List (κ×β)):(mp lit f l).put (lit k) (.held (f b))=mp lit f (put lt k b l):=by
 show DataW.map (Va (lit k,ca (f b)) ((l.map λp=>(lit p.1,ca (f p.2))).filter λp=>!p.1.sameKey (lit k)))=_;have e:((l.map λp=>(lit p.1,ca (f p.2))).filter λp=>!p.1.sameKey (lit k))=(del k l).map λp=>(lit p.1,ca (f p.2)):=by
  unfold del;rw[List.filter_map];congr 1;simp[d,Wa]
 rw[e,Ox c (k,b)];rfl
theorem gR (k:κ)(l:List (κ×β)):has k l=(aS k l).isSome:=by grind [has,aS]
theorem qq (k:κ)(l:List (κ×β)):has k l=true↔k∈l.map (·.1):=by
 unfold has;simp
theorem eE (k:κ)(l:List (κ×β)):has k l=false↔k∉l.map (·.1):=by
 rw[<-qq];simp
theorem dZ (k:κ)(l:List (κ×β))(h:has k l=false):del k l=l:=by grind [eE,del,List.filter_eq_self]
theorem Up.del {l:List (κ×β)}(h:Up lt l)(k:κ):Up lt (del k l):=h.filter _
theorem Up.put (e:∀a b c,lt a b=true->lt b c=true->lt a c=true)(d:∀a b,a≠b->lt a b=false->lt b a=true){l:List (κ×β)}(h:Up lt l)(k:κ)(b:β):Up lt (put lt k b l):=by
 refine Up.ins e d (h.del k) (k,b) λp f=>?_
 have:=(List.mem_filter.1 f).2;simpa using this
end
theorem jR {P:Program}{k:TypeId}{R:C->Option (DataW C×List MemPlace)}{w:World}{b n:Nat}{D:DataW C}(h:w.ownsMap P k R b n D):w.ownsMap P k R b (Maps.size D) D:=by
 obtain⟨c,a,d,F,_,rfl⟩:=h;exact⟨c,a,d,F,by simp[Maps.size,length_sorted],rfl⟩
def jk (k:Int):Lit:=.int .i64 k
def dJ (a b:Int):Bool:=decide (a<b)
theorem cB (a b:Int):(jk a).sameKey (jk b)=decide (a=b):=by simp[jk,Lit.sameKey]
theorem gS (a b:Int):(jk a).before (jk b)=dJ a b:=by simp[jk,Lit.before,dJ]
theorem oO (a b c:Int)(h:dJ a b=true)(d:dJ b c=true):dJ a c=true:=by grind [dJ]
theorem oN (a b:Int)(c:a≠b)(h:dJ a b=false):dJ b a=true:=by grind [dJ]
theorem qt (a:Int):dJ a a=false:=by simp[dJ]
end Im
namespace Bkw
open Go.RowKit mH
theorem Ee (b:Int)(w:World)(d:0<=b)(f:b<=1000000000):
  Calls Tryz.prog 290 #[.int .i64 b] w λe c=>e=.returned (.int .i64 (vZ b))/\w=c:=by
 go_in;go_wp2
 .have a:b+1=vZ b:=by
   unfold vZ;omega
  go_ret;simp_all
 have a:51*b / 49=vZ b:=by
  unfold vZ;omega
 go_ret;simp_all
theorem EP (l h:Int)(w:World)(a:0<=l)(b:l<=1000000000)(f:1<=h)(c:h<=2000000000):
  Calls Tryz.prog 291 #[.int .i64 l,.int .i64 h] w λe d=>e=.returned (.int .i64 (yF l h))/\w=d:=by
 obtain⟨g,i⟩:=sG a b (by omega:0<=h) c;go_in;go_wp2;go_ret;exact⟨rfl,rfl⟩
theorem Jg (v:Int)(w:World):
  Calls Tryz.prog 264 #[.int .i64 v] w λe f=>(∃n s,e=.returned (.tuple #[.int .i64 n,.int .i64 s])/\Kh v n s)/\w=f:=by
 by_cases g:v<0
 .go_in;go_wp2;go_ret2;exact⟨⟨_,_,rfl,Or.inl ⟨Or.inl g,rfl,rfl⟩⟩,rfl⟩
 by_cases c1:1000000000<v
 .go_in;go_wp2;go_ret2;exact⟨⟨_,_,rfl,Or.inl ⟨Or.inr c1,rfl,rfl⟩⟩,rfl⟩
 go_in;go_wp2;go_loop [4,5,6] (λn i c=>∃(l h:Int) (k:Nat),i=.int .i64 l/\c=.int .i64 h/\n=.int .i64 k/\0<=l/\l<=v/\l<h/\h<=2000000000/\(k:Int)<=l/\Hid (l=dW k/\h=dW (k+1)))
  (λ_ _ c=>(v+1 - intOf c).toNat)
 case atStart=>exact⟨0,1,0,rfl,rfl,rfl,by omega,by omega,by omega,by omega,by omega,⟨rfl,rfl⟩⟩
 case round=>
  obtain⟨l,h,k,rfl,rfl,rfl,p,j,q,r,t,a⟩:=hrel;have u:l<=1000000000:=by omega
  go_wp2_with (first
   | (go_at_call 290;refine(Ee h _ (by omega) (by omega)).mono ?_;rintro e f ⟨rfl,rfl⟩)
   | (go_at_call 291;refine(EP l h _ (by omega) (by omega) (by omega) (by omega)).mono ?_;rintro e f ⟨rfl,rfl⟩))
  .have d:h<=v:=by assumption
   have m:=Hx h;have o:=Hy (b:=h) (by omega) (by omega);go_round
   case rel=>exact⟨h,vZ h,k+1,rfl,rfl,by go_num,by omega,d,by omega,by omega,by omega,⟨a.2,by rw[a.2];rfl⟩⟩
   grind [intOf]
  have d:v<h:=by assumption
  go_ret2;exact⟨⟨_,_,rfl,Or.inr ⟨by omega,by omega,k,rfl,by rw[<-a.1];exact j,by rw[<-a.2];exact d,by rw[<-a.1,<-a.2]⟩⟩,by rfl⟩
end Bkw
end Go.Proofs.YtpndiccohnafbaaGreatDoor
