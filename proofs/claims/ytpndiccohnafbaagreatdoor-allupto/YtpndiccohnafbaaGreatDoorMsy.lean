/- Taken. -/
import Derived.Shelf.SlSortCmp.NoneTotal
import Derived.Test.YtpndiccohnafbaaGreatDoorMsty
set_option maxHeartbeats 9000000
open List renaming eq_nil_of_length_eq_zero->ca
open Go.Proofs.Tryz renaming prog->Ua
namespace Go.Proofs.YtpndiccohnafbaaGreatDoor.Sk
open Go.RowKit Go.Maps Go.Shelf Mem Foot Im Go.Sort
theorem values (a:Option Nat)(w:World):Calls Ua 49 #[.map a] w λe b=>e=.returned (.func (.func 72) #[] #[.pointer (some ⟨w.heap.size,0,none⟩)])/\b=w.alloc (.cells #[.map a] 57):=by
 go_in;go_wp2_with fail;go_ret;exact⟨rfl,rfl⟩
theorem FX (c:Nat)(i:Option Nat)(a:List Ms)(h:(a.map (·.k)).Nodup)(w:World)(f:c<w.heap.size)(m:w.cell? ⟨c,0,none⟩=some (.map i))(b:ic w i a)(l:a.length<=maxLen)(g:a.length*24<=140737488355328):
  Calls Ua 70 #[.func (.func 72) #[] #[.pointer (some ⟨c,0,none⟩)]] w λe j=>∃(v:Value) (d:List Ms),e=.returned v/\d.Perm a/\
   j.ownsRow w.heap.size 47 2 v d.length (aH d)/\(v=.slice none 0 0↔d=[])/\Below w.heap.size w j:=
 (callsIn_wide (n:=3)).1 (collect Fence.wide 3 trivial trivial rfl (Nat.le_refl _) _ _ trivial (enters_of Tryz.func72 (by kernel_rfl) rfl) a l g w (vU Fence.wide 1 trivial rfl (Nat.le_refl _) c i a h w f m b))
variable {a b:Nat}
theorem Ii {w:World}{ d g:Nat}{j:List Value}{e:TypeId}(h:w.ownsRow a e 2 (.slice (some ⟨g,0,none⟩) b d) b j):a<=g/\∃c,af w g e c/\b<=d/\d<=maxLen/\c.size=d*2/\c.toList.take (b*2)=j:=by
 rcases h.2 with ⟨f,_⟩|⟨r,i,c,f,k,l,m,n,o,p⟩
 .cases f
 injection f with f s q;injection f with f;injection f with f;subst f;subst q;exact⟨k,c,l,m,n,o,p⟩
theorem AG {w:World}  {v:Value}{j:List Value}{e:TypeId}(h:w.ownsRow a e 2 v b j):(v=.slice none 0 0/\b=0)\/∃g c,v=.slice (some ⟨g,0,none⟩) b c:=by
 rcases h.2 with f|⟨k,d,i,f,_⟩
 .exact Or.inl f
 grind
theorem AV (s:Nat)(D:Option Nat)(i:List Ms)(P:kh i)(w:World)(B:s<w.heap.size)(M:w.cell? ⟨s,0,none⟩=some (.map D))(m:ic w D i)(V:i.length<=4000000000000):
  Calls Ua 48 #[.func (.func 72) #[] #[.pointer (some ⟨s,0,none⟩)],.func (.func 50) #[] #[]] w λe z=>∃v:Value,e=.returned v/\
   z.ownsRow w.heap.size 47 2 v i.length (aH i)/\Below w.heap.size w z:=by
 have K:=FX s D i P.nodup w B M m (by unfold maxLen;omega) (by omega);clear M m;go_in;go_wp2_with fail;refine K.mono ?_;clear K;rintro e r ⟨v,F,rfl,x,a,l,u⟩;have A:=aa x.length_eq;rcases AG a with ⟨rfl,G⟩|⟨g,b,rfl⟩
 .have p:F=[]:=ca G;subst p;have q:i=[]:=ca (by simpa using A.symm);subst q;have f:Calls Ua 71 #[.slice none 0 0,.func (.func 50) #[] #[]] r λe z=>e=.returned (.tuple #[])/\z=r:=AnyF.slices_SortFunc_none Tryz.Nw none 0 _ r
  have T:=aa a;have t:=aa u;clear a u l x G;go_wp2_with fail;refine f.mono ?_;clear f;rintro e E ⟨rfl,rfl⟩;go_wp2_with fail;go_ret;exact⟨_,rfl,T,t⟩
 obtain⟨j,o,R,p,q,H,J⟩:=Ii a;haveI:Inhabited Ms:=⟨⟨0,⟨#[]⟩⟩⟩
 have hlen:=A.out;have h:=OY g b F i x P r o R (by omega) J (by omega);have t:=aa u;have U:=aa (show i.length<=b/\b<=maxLen/\o.size=b*2/\w.heap.size<=g by omega);clear a l hlen p q H J R j u x;go_wp2_with fail;refine h.mono ?_;clear h;rintro e E ⟨rfl,d,c,k,hz,y⟩;have S:=aa (show bS g r E/\af E g 47 c/\c.size=o.size/\c.toList.take (i.length*2)=aH i from⟨d,k,hz,y⟩);clear d k hz y;go_wp2_with fail;go_ret;obtain⟨d,k,hz,y⟩:=S.out;obtain⟨p,q,H,j⟩:=U.out;refine⟨.slice (some ⟨g,0,none⟩) F.length b,rfl,⟨by rw[cP],Or.inr ⟨g,b,c,congrArg (λn=>Value.slice (some ⟨g,0,none⟩) n b) A,j,k,p,q,by omega,y⟩⟩,?_⟩;exact t.trans (d.below j t.size)
theorem rising (b:Option Nat)(a:List Ms)(q:kh a)(w:World)(h:ic w b a)(p:a.length<=4000000000000):
  Calls Ua 24 #[.map b] w λe j=>∃v:Value,e=.returned v/\
   j.ownsRow w.heap.size 47 2 v a.length (aH a)/\Below w.heap.size w j:=by
 have l:=AV w.heap.size b a q (w.alloc (.cells #[.map b] 57)) (by simp) ((af.new w 57 #[.map b]).Ri 0) (h.off (F:=[]) (an.ag (ai _)) (λ_ _=>by simp)) p;go_in;go_wp2_with (go_at_call 49;refine(values _ _).mono ?_;rintro e j ⟨rfl,rfl⟩)
 refine l.mono ?_;clear l;rintro e r ⟨v,rfl,c,k⟩;change Hid _ at c;have m:=aa k;clear k;go_wp2_with fail;go_ret;refine⟨_,rfl,⟨c.1,?_⟩,(ai _).trans (m.mono (by simp))⟩;rcases c.2 with i|⟨g,d,f,i,n,o⟩
 .exact Or.inl i
 exact Or.inr ⟨g,d,f,i,by simp at n;omega,o⟩
end Go.Proofs.YtpndiccohnafbaaGreatDoor.Sk
