/- strings.Builder: what a write leaves. -/
import Derived.Test.YtpndiccohnafbaaGreatDoorKeysly
import Derived.Test.YtpndiccohnafbaaGreatDoorShelf
import Derived.Lib.AppendStr
import Derived.Lib.Builder
set_option maxHeartbeats 9000000
open Option renaming some->Z,none->Y
open Go.Value renaming pointer->ca,ownBlock->Za
open Go.Proofs.Tryz renaming prog->Ua,underlying139->Wa
open Go.Lib renaming byteCells->Va
open Go renaming World->N,Value->C
open Go.Oper renaming upon_value->Xa
open Go.Result renaming andThen->Ya
namespace Go.Proofs.YtpndiccohnafbaaGreatDoor
namespace Hb
open Go.RowKit Mem Foot Hk
theorem infoByte:(Ua.info? 5).map (λi=>(i.zero,i.size,i.bytes))=Z (Z (.int .u8 0),1,1):=by kernel_rfl
theorem Ng:∃j,Ua.info? 142=Z j/\j.size=2:=by
 have h:(Ua.info? 142).map (·.size)=Z 2:=by kernel_rfl
 simp_all
structure iI (w:N)(B b:Nat)(v:C)(bs:List UInt8):Prop where
 head:af w b 142 #[ca Y,v]\/af w b 142 #[ca (Z ⟨b,0,Y⟩),v]
 row:w.ownsRow B 5 1 v bs.length (Va bs)
 base:B<=b
theorem qW (b:Nat)(w:N)(f:w.cell? ⟨b,0,Y⟩=Z (ca (Z ⟨b,0,Y⟩))):
  Calls Ua 116 #[ca (Z ⟨b,0,Y⟩)] w λe d=>e=.returned (.tuple #[])/\d=w:=by
 obtain⟨j,a,_⟩:=Ng;have c:=Lib.run_neq_ptr_same (P:=Ua) w ⟨b,0,Y⟩ Wa a;go_in;go_wp2;go_end0;exact⟨rfl,rfl⟩
theorem Si:liesAt Ua Ua.depth 142 (2 / Ua.cellsOf 142) 0 142 1=true:=by kernel_rfl
set_option maxRecDepth 100000 in
theorem qc (b:Nat)(w:N)(h:w.cell? ⟨b,0,Y⟩=Z (ca Y))(hsh:w.shape? b=Z (142,2))(d:w.frozen? ⟨b,0,Y⟩=false):
  Calls Ua 116 #[ca (Z ⟨b,0,Y⟩)] w λe g=>e=.returned (.tuple #[])/\g=w.setCell ⟨b,0,Y⟩ (ca (Z ⟨b,0,Y⟩)):=by
 obtain⟨j,a,c⟩:=Ng;have f:=λw=>Lib.run_neq_ptr_same (P:=Ua) w ⟨b,0,Y⟩ Wa a
 go_in;go_wp2;rw[Lib.run_to_unsafe w ⟨b,0,Y⟩ Wa Tryz.underlying243 a (by rw[c];decide) hsh (Nat.zero_lt_succ 1)];simp only[Ya];rw[Xa];go_wp2;rw[run_callFunc_extern Tryz.func153 (by kernel_rfl) (by kernel_rfl) (by kernel_rfl) (e:=Extern.AbiNoEscape.same) (by kernel_rfl)];rw[Lib.run_noEscape];simp only[Ya];rw[Xa];go_wp2;rw[Lib.run_from_unsafe w ⟨b,0,Y⟩ Tryz.underlying243 Wa a hsh Si];simp only[Ya];rw[Xa];go_wp2;go_end0;exact⟨rfl,rfl⟩
theorem Dt (B b:Nat)(v:C)(d:List UInt8)(w:N)(h:iI w B b v d):
  Calls Ua 116 #[ca (Z ⟨b,0,Y⟩)] w λe c=>e=.returned (.tuple #[])/\an [b] w c/\af c b 142 #[ca (Z ⟨b,0,Y⟩),v]:=by
 rcases h.head with a|a
 .refine(qc b w (a.Ri 0) (by grind [af,World.shape?]) (a.frozen 0)).mono ?_;rintro e c ⟨rfl,rfl⟩;exact⟨rfl,(an.refl _ w).set (by simp) _ _,a.set 0 _⟩
 refine(qW b w (a.Ri 0)).mono ?_;grind [an.refl]
variable {a b:N}{c d e:Nat}{f:C}{g:List UInt8}
theorem rW {F:List Nat}  {l:TypeId}   {n:List C}  (h:a.ownsRow d l e f c n)(s:an F a b)(r:∀k∈f.ownBlock.toList,k∉F):b.ownsRow d l e f c n:=by
 refine⟨h.1,?_⟩;rcases h.2 with o|⟨g,i,j,rfl,p,m,q⟩
 .exact Or.inl o
 refine Or.inr ⟨g,i,j,rfl,p,?_,q⟩;rw[s.block g (Array.getElem?_eq_some_iff.1 m).1 (r g (by simp[Za]))];exact m
theorem au {j:TypeId}  {p:List C}(h:a.ownsRow c j d f e p){k:Nat}(o:k∈f.ownBlock.toList):∃m,af a k j m:=by
 have b:f.ownBlock=Z k:=by simpa using o
 rcases h.2 with ⟨rfl,_⟩|⟨g,l,i,rfl,_,n,_⟩
 .simp[Za]at b
 simp[Za]at b;subst b;exact⟨i,n⟩
theorem dR {w a:N}{o:Option Nat}(h:w.grownBy a o):an o.toList w a:=
 ⟨h.os,h.tape,h.output,h.size,λk c b=>h.block k c (λe=>b (by simp[<-e]))⟩
theorem iI.off {F:List Nat}{w d:N}{B b:Nat}  {bs:List UInt8}(h:iI w B b f bs)(a:an F w d)(c:b∉F)(e:∀k∈f.ownBlock.toList,k∉F):iI d B b f bs:=
 ⟨h.head.imp (λh=>Foot.af.off h a c) (λh=>Foot.af.off h a c),rW h.row a e,h.base⟩
theorem iI.keep {B c:Nat}   (h:iI a B c f g)(d:Below a.heap.size a b):iI b B c f g:=
 h.off (F:=[]) (an.ag d) (by simp) (by simp)
def lh (b:Nat)(v:C):List Nat:=b ::v.ownBlock.toList
theorem iI.Tj {B b:Nat}   (h:iI a B b f g)(t:TypeId)(m:t≠142)(n:t≠5):∀k d,af a k t d->k∉lh b f:=by
 intro k d i l;rcases List.mem_cons.1 l with e|e
 .rcases h.head with c|c<;>exact cH i c m e
 obtain⟨j,c⟩:=au h.row e;exact cH i c n rfl
set_option maxRecDepth 10000 in
theorem writeString (B b:Nat)(v:C)(c:List UInt8)(s:ByteArray)(w:N)(h:iI w B b v c)(hlen:c.length+s.size<=140737488355328):
  Calls Ua 79 #[ca (Z ⟨b,0,Y⟩),.string s] w λe P=>e=.returned (.tuple #[.int .i64 s.size,.nilIface])/\an (lh b v) w P/\∃M,iI P B b M (c++Bytes.B s):=by
 obtain⟨U,T,A,D,E⟩:=info_parts infoByte;have n:=Dt B b v c w h;have m:=aa h;clear h;go_in;go_wp2_with fail;refine n.mono ?_;clear n;rintro e F ⟨rfl,j,o⟩;have q:∀k∈v.ownBlock.toList,k∉[b]:=λk l i=>by
  rw[List.mem_singleton]at i;obtain⟨x,p⟩:=au m.row l;rcases m.head with y|y<;>exact cH p y (by decide) i
 have f:F.ownsRow B 5 1 v c.length (Va c):=rW m.row j q;have c1:=o.Ri 1;have z:B<=F.heap.size:=by
  have p:=m.base;have y:=o.lt;omega
 have R:=aa j;change Hid _ at o q;clear j;obtain⟨J,K,rfl⟩:=Own.shape f;go_wp2_with (at_builtin;refine Lib.wpList_append_own_string _ rfl _ _ 140 9 rfl B 5 U Tryz.underlying140 Tryz.underlying9 T A D E _ _ _ rfl f s rfl (by unfold maxLen;omega) (by omega) z ?_;intro M G a g _;obtain⟨t,u,rfl⟩:=Own.shape a;have H:Hid (F.grownBy G (Value.slice J c.length K).ownBlock):=g;have d:=aa (Foot.af.off o (dR H) (λi=>q.out b i (by simp)));have V:=d.Ri 1;have W:=d.frozen 1)
 go_ret2;have r:an (lh b (Value.slice J c.length K)) w (G.setCell ⟨b,1,Y⟩ (.slice t (c.length+s.size) u)):=
  (((R.mono λk _ l=>by grind).trans ((dR H).mono λk _ l=>List.mem_cons_of_mem _ l)).set (List.mem_cons_self ..) _ _)
 refine⟨rfl,r,_,Or.inr (d.set 1 _),?_,m.base⟩;have S:Va (c++Bytes.B s)=Va c++Lib.strCells s:=by simp[Va,Lib.strCells,Bytes.B]
 rw[S,List.length_append,<-Bytes.aj];refine rW a ((an.refl [b] G).set (by simp) _ _) λk l i=>?_
 rw[List.mem_singleton]at i;obtain⟨x,p⟩:=au a l;exact cH p d (by decide) i
theorem iI.is {B b:Nat}   (h:iI a B b f g):Lib.IsBuilder 142 5 B b (Va g) a:=by
 have j:a.ownsRow B 5 1 f (Va g).length (Va g):=by
  rw[Lib.byteCells_length];exact h.row
 have d:f.ownBlock≠Z b:=λe=>by
  obtain⟨l,c⟩:=au h.row (k:=b) (by simp[e]);rcases h.head with i|i<;>exact cH c i (by decide) rfl
 rcases h.head with c|c
 .exact Or.inl ⟨h.base,f,c,j,d⟩
 exact Or.inr ⟨h.base,f,c,j,d⟩
end Hb
namespace Hs
open Go.RowKit Go.Maps Mem Foot Im Wm Hk Hb
def hst (x:Int)(c:UInt8):Int:=bits .xor .u32 x ((c.toNat:Int) % 4294967296)*16777619 % 4294967296
def hsh (l:Bs):Int:=l.foldl hst 2166136261
theorem tP (l:Bs):0<=hsh l/\hsh l<=4294967295:=by
 unfold hsh;rcases List.eq_nil_or_concat l with rfl|⟨r,c,rfl⟩
 .decide
 grind [hst]
theorem Qe (s:ByteArray)(o:s.size<=1000)(w:N):Calls Ua 262 #[.string s] w λe j=>e=.returned (.int .u32 (hsh (Bytes.B s)))/\j=w:=by
 go_in;go_wp2;go_loop [3,7] (λh i=>∃(x:Int) (k:Nat),h=.int .u32 x/\i=.int .i64 k/\k<=s.size/\0<=x/\x<=4294967295/\Hid (x=hsh ((Bytes.B s).take k))) (λ_ i=>s.size - (intOf i).toNat)
 case atStart=>exact⟨2166136261,0,rfl,rfl,by omega,by omega,by omega,rfl⟩
 case round=>
  obtain⟨x,k,rfl,rfl,n,l,m,g⟩:=hrel;by_cases b:k<s.size
  .have c:(k:Int)<(s.size:Int):=by omega
   have e:hsh ((Bytes.B s).take (k+1))=hst x s[k]:=by
    rw[g.out,List.take_add_one,Bytes.gO b];grind [hsh]
   have d:=aa e;have f:=tP ((Bytes.B s).take (k+1));rw[e]at f;change Hid _ at f;clear e;go_wp2;grind [hst,intOf]
  have c:¬(k:Int)<(s.size:Int):=by omega
  have a:k=s.size:=by omega
  have d:=aa (show x=hsh (Bytes.B s) by rw[g.out,a,Bytes.aj,List.take_length]);clear a;go_wp2;go_ret;exact⟨by rw[<-d.out];rfl,rfl⟩
end Hs
end Go.Proofs.YtpndiccohnafbaaGreatDoor
