/- The contracts of slices.Sorted over maps.Keys at this program's maps: laid by the guide's own tool, in plain words. -/
import Derived.Shelf.SlIter.Nil
import Derived.Shelf.SlIterI.Nil
import Derived.Shelf.SortM.Plain
import Derived.Shelf.SortM.SortNone
import Derived.Test.YtpndiccohnafbaaGreatDoorProg
import Derived.Test.YtpndiccohnafbaaGreatDoorWmy
import Derived.Shelf.Abstract
import Derived.OwnWalkIn
import Derived.TacticsInMore
import Derived.Maps.OwnIn
import Derived.Lib.SlKeysI
set_option maxHeartbeats 9000000
open Option renaming some->Z,none->Y
open Go.Value renaming pointer->ca,int->I
open Go.Ending renaming returned->Ua
open Go.IntKind renaming i64->O
open Go.Proofs.Tryz renaming prog->Va,underlying3->Wa,underlying301->Xa
open Go.Fence renaming wide->Ya
open Go.Maps renaming keyOf_int_mk->Za,int_keyed->eb
open Go renaming World->N
open List renaming mem_cons_of_mem->qb,mem_cons_self->Ub
namespace Go.Proofs
open Go.Shelf
def Tryz.tX:Go.Shelf.Ren:=⟨fun|7=>156|10=>206|n=>n,fun|23=>189|26=>9|3=>151|28=>248|0=>0|27=>247|33=>277|4=>4|n=>n,fun|n=>n⟩
theorem Tryz.Nk:Go.Proofs.SlLaysZ.n7 Va Tryz.tX:=by
 constructor
 kernel_rfl
 exact⟨Tryz.f156.name,by decide,Tryz.func156.trans (congrArg Z (by kernel_rfl))⟩;exact⟨Tryz.f206.name,by decide,Tryz.func206.trans (congrArg Z (by kernel_rfl))⟩;all_goals repeat' first|kernel_rfl|decide|intro _|constructor
def Tryz.pU:Go.Shelf.Ren:=⟨fun|6=>155|8=>204|9=>205|11=>244|13=>108|12=>245|23=>146|24=>147|14=>274|15=>275|16=>276|17=>277|18=>278|19=>279|20=>280|21=>281|22=>282|25=>295|26=>192|27=>193|28=>296|29=>297|30=>298|31=>307|n=>n,fun|26=>9|28=>248|24=>32|0=>0|3=>3|37=>173|48=>235|50=>237|4=>4|40=>228|39=>227|45=>232|5=>5|9=>9|51=>288|55=>292|57=>330|58=>331|33=>277|n=>n,fun|n=>n⟩
theorem Tryz.Mg:Go.Proofs.SlLaysZ.n6 Va Tryz.pU:=by
 constructor
 kernel_rfl
 exact⟨Tryz.f155.name,by decide,Tryz.func155.trans (congrArg Z (by kernel_rfl))⟩;exact⟨Tryz.f204.name,by decide,Tryz.func204.trans (congrArg Z (by kernel_rfl))⟩;exact⟨Tryz.f244.name,by decide,Tryz.func244.trans (congrArg Z (by kernel_rfl))⟩;all_goals repeat' first|kernel_rfl|decide|intro _|constructor
def Tryz.EN:Go.Shelf.Ren:=⟨fun|6=>205|8=>108|9=>245|19=>146|20=>147|21=>274|22=>275|23=>276|24=>277|25=>278|26=>279|27=>280|28=>281|29=>282|36=>295|31=>192|32=>193|37=>296|38=>297|39=>298|41=>307|n=>n,fun|27=>32|29=>9|3=>3|32=>173|26=>32|0=>0|44=>235|46=>237|4=>4|36=>228|35=>227|41=>232|5=>5|9=>9|53=>288|57=>292|63=>330|64=>331|n=>n,fun|n=>n⟩
theorem Tryz.Nx:Go.Proofs.SlLaysM.n6 Va Tryz.EN:=by
 constructor
 kernel_rfl
 exact⟨Tryz.f205.name,by decide,Tryz.func205.trans (congrArg Z (by kernel_rfl))⟩;exact Tryz.func108.trans (congrArg Z (by kernel_rfl));exact⟨Tryz.f245.name,by decide,Tryz.func245.trans (congrArg Z (by kernel_rfl))⟩;exact Tryz.func146.trans (congrArg Z (by kernel_rfl));exact Tryz.func147.trans (congrArg Z (by kernel_rfl));exact⟨Tryz.f274.name,by decide,Tryz.func274.trans (congrArg Z (by kernel_rfl))⟩;exact⟨Tryz.f275.name,by decide,Tryz.func275.trans (congrArg Z (by kernel_rfl))⟩;exact⟨Tryz.f276.name,by decide,Tryz.func276.trans (congrArg Z (by kernel_rfl))⟩;exact⟨Tryz.f277.name,by decide,Tryz.func277.trans (congrArg Z (by kernel_rfl))⟩;exact⟨Tryz.f278.name,by decide,Tryz.func278.trans (congrArg Z (by kernel_rfl))⟩;exact⟨Tryz.f279.name,by decide,Tryz.func279.trans (congrArg Z (by kernel_rfl))⟩;exact⟨Tryz.f280.name,by decide,Tryz.func280.trans (congrArg Z (by kernel_rfl))⟩;exact⟨Tryz.f281.name,by decide,Tryz.func281.trans (congrArg Z (by kernel_rfl))⟩;exact⟨Tryz.f282.name,by decide,Tryz.func282.trans (congrArg Z (by kernel_rfl))⟩;exact Tryz.func192.trans (congrArg Z (by kernel_rfl));exact Tryz.func193.trans (congrArg Z (by kernel_rfl));exact⟨Tryz.f295.name,by decide,Tryz.func295.trans (congrArg Z (by kernel_rfl))⟩;exact⟨Tryz.f296.name,by decide,Tryz.func296.trans (congrArg Z (by kernel_rfl))⟩;exact⟨Tryz.f297.name,by decide,Tryz.func297.trans (congrArg Z (by kernel_rfl))⟩;exact⟨Tryz.f298.name,by decide,Tryz.func298.trans (congrArg Z (by kernel_rfl))⟩;exact⟨Tryz.f307.name,by decide,Tryz.func307.trans (congrArg Z (by kernel_rfl))⟩;all_goals repeat' first|kernel_rfl|decide|intro _|constructor
def Tryz.tW:Go.Shelf.Ren:=⟨fun|7=>285|10=>302|n=>n,fun|23=>301|26=>3|3=>340|28=>362|0=>0|27=>361|33=>174|4=>4|n=>n,fun|n=>n⟩
theorem Tryz.Nj:Go.Proofs.SlLaysZI.n7 Va Tryz.tW:=by
 constructor
 kernel_rfl
 exact⟨Tryz.f285.name,by decide,Tryz.func285.trans (congrArg Z (by kernel_rfl))⟩;exact⟨Tryz.f302.name,by decide,Tryz.func302.trans (congrArg Z (by kernel_rfl))⟩;all_goals repeat' first|kernel_rfl|decide|intro _|constructor
def Tryz.pT:Go.Shelf.Ren:=⟨fun|6=>284|8=>300|9=>301|11=>308|13=>108|12=>309|23=>146|24=>147|14=>312|15=>313|16=>314|17=>315|18=>316|19=>317|20=>198|21=>318|22=>319|25=>320|26=>192|27=>193|28=>321|29=>322|30=>109|31=>323|n=>n,fun|26=>3|28=>362|24=>35|0=>0|3=>3|37=>173|48=>235|50=>237|4=>4|40=>228|39=>227|45=>232|5=>5|9=>9|51=>288|55=>292|57=>330|58=>331|33=>174|n=>n,fun|n=>n⟩
theorem Tryz.Mf:Go.Proofs.SlLaysZI.n6 Va Tryz.pT:=by
 constructor
 kernel_rfl
 exact⟨Tryz.f284.name,by decide,Tryz.func284.trans (congrArg Z (by kernel_rfl))⟩;exact⟨Tryz.f300.name,by decide,Tryz.func300.trans (congrArg Z (by kernel_rfl))⟩;exact⟨Tryz.f308.name,by decide,Tryz.func308.trans (congrArg Z (by kernel_rfl))⟩;all_goals repeat' first|kernel_rfl|decide|intro _|constructor
def Tryz.EK:Go.Shelf.Ren:=⟨fun|5=>301|8=>108|7=>309|19=>146|20=>147|10=>312|11=>313|12=>314|13=>315|14=>316|15=>317|16=>198|17=>318|18=>319|30=>320|31=>192|32=>193|33=>321|34=>322|35=>109|40=>323|n=>n,fun|23=>35|25=>3|3=>3|32=>173|22=>35|0=>0|44=>235|46=>237|4=>4|36=>228|35=>227|41=>232|5=>5|9=>9|53=>288|57=>292|63=>330|64=>331|n=>n,fun|n=>n⟩
theorem Tryz.Nv:Go.Proofs.SlLaysM.n5 Va Tryz.EK:=by
 constructor
 kernel_rfl
 exact⟨Tryz.f301.name,by decide,Tryz.func301.trans (congrArg Z (by kernel_rfl))⟩;exact⟨Tryz.f309.name,by decide,Tryz.func309.trans (congrArg Z (by kernel_rfl))⟩;exact Tryz.func108.trans (congrArg Z (by kernel_rfl));exact⟨Tryz.f312.name,by decide,Tryz.func312.trans (congrArg Z (by kernel_rfl))⟩;exact⟨Tryz.f313.name,by decide,Tryz.func313.trans (congrArg Z (by kernel_rfl))⟩;exact⟨Tryz.f314.name,by decide,Tryz.func314.trans (congrArg Z (by kernel_rfl))⟩;exact⟨Tryz.f315.name,by decide,Tryz.func315.trans (congrArg Z (by kernel_rfl))⟩;exact⟨Tryz.f316.name,by decide,Tryz.func316.trans (congrArg Z (by kernel_rfl))⟩;exact⟨Tryz.f317.name,by decide,Tryz.func317.trans (congrArg Z (by kernel_rfl))⟩;exact⟨Tryz.f198.name,by decide,Tryz.func198.trans (congrArg Z (by kernel_rfl))⟩;exact⟨Tryz.f318.name,by decide,Tryz.func318.trans (congrArg Z (by kernel_rfl))⟩;exact⟨Tryz.f319.name,by decide,Tryz.func319.trans (congrArg Z (by kernel_rfl))⟩;exact Tryz.func146.trans (congrArg Z (by kernel_rfl));exact Tryz.func147.trans (congrArg Z (by kernel_rfl));exact⟨Tryz.f320.name,by decide,Tryz.func320.trans (congrArg Z (by kernel_rfl))⟩;exact Tryz.func192.trans (congrArg Z (by kernel_rfl));exact Tryz.func193.trans (congrArg Z (by kernel_rfl));exact⟨Tryz.f321.name,by decide,Tryz.func321.trans (congrArg Z (by kernel_rfl))⟩;exact⟨Tryz.f322.name,by decide,Tryz.func322.trans (congrArg Z (by kernel_rfl))⟩;exact⟨Tryz.f109.name,by decide,Tryz.func109.trans (congrArg Z (by kernel_rfl))⟩;exact⟨Tryz.f323.name,by decide,Tryz.func323.trans (congrArg Z (by kernel_rfl))⟩;all_goals repeat' first|kernel_rfl|decide|intro _|constructor
end Go.Proofs
namespace Go.Proofs.YtpndiccohnafbaaGreatDoor.Hk
open Go.RowKit Go.Maps Mem Foot Im Wm Go.Sort Go.Shelf
theorem OZ (m:Nat):AnyZI.SortsIn Va Tryz.pT Ya m:=
 ⟨λblk d a f W e b c=>callsIn_wide.2 (AnyM.slices_Sort_int Tryz.Nv blk d a f W e b c),
  λp a W=>callsIn_wide.2 (AnyM.slices_Sort_int_none Tryz.Nv p a W)⟩
theorem Ai (l:List (Int×cL)):intKeys (mp jk cv l)=l.map (·.1):=by
 unfold mp;simp[intKeys,jk,Go.intOf,Function.comp_def]
theorem yB {l:List (Int×cL)}(h:Up dJ l){c:List Int}(d:c.Perm (l.map (·.1))):c.mergeSort (λx y=>decide (x<=y))=l.map (·.1):=by
 exact List.Perm.eq_of_pairwise (le:=λa b:Int=>a<=b) (λa b _ _ e f=>by omega) (by grind [List.pairwise_mergeSort]) (by rw[List.pairwise_map];exact h.imp λ{a b} h=>by simp[dJ]at h;omega) ((List.mergeSort_perm _ _).trans d)
theorem rising (S b G:Nat)(l:List (Int×cL))(f:Bool)(w:N)(h:jj w S b G l f)(k:Up dJ l)(H:l.length<=1000):
  Calls Va 247 #[ca (Z ⟨S,0,Y⟩)] w λe j=>∃v:Value,e=Ua v/\j.ownsRow w.heap.size 3 1 v l.length (l.map λc=>I O c.1)/\Below w.heap.size w j:=by
 refine(callsIn_wide (n:=6)).1 ?_;have g:w.ownsMap Va 3 (kg SQ) b l.length (mp jk cv l):=h.map;have s:=g.lt;have m:Maps.size (mp jk cv l)<=maxLen:=by rw[gK];unfold maxLen;omega
 have d:Maps.size (mp jk cv l)*8<=140737488355328:=by rw[gK];omega
 have c1:=h.head.Ri 1;have o:SeqGives Ya 2 Va 302 #[ca (Z ⟨w.heap.size,0,Y⟩)] encZ (λx=>x.Perm (intKeys (mp jk cv l))) (Maps.size (mp jk cv l)) (w.alloc (.cells #[.map (Z b)] 301)):=
  AnyZI.keys_gives (ρ:=Tryz.tW) {Tryz.Nj with} Ya _ trivial rfl (by omega) w.heap.size b l.length (mp jk cv l) _ (by simp) (by simp) (by
   obtain⟨A,i,r,y,F,B⟩:=g;exact⟨A,i,(Below.heap_alloc _ _ b s).trans r,y,F,B⟩)
 have z:∀p W,CallsIn Ya 5 Va 285 #[.map p] W λe j=>e=Ua (.func (.func 302) #[] #[ca (Z ⟨W.heap.size,0,Y⟩)])/\j=W.alloc (.cells #[.map p] 301):=λp W=>AnyZI.keys_in Tryz.Nj Ya 5 trivial rfl p W
 have t:=AnyZI.sorted_in Tryz.Mf Ya 5 trivial trivial trivial trivial rfl (by omega) (OZ _) (enters_of Tryz.func301 (by kernel_rfl) rfl) 302 #[ca (Z ⟨w.heap.size,0,Y⟩)] trivial (enters_of Tryz.func302 (by kernel_rfl) rfl) _ _ m d _ o;change CallsIn _ _ Va 284 _ _ _ at t;have D:Ya.fn 285:=trivial;have E:Ya.fn 284:=trivial;change Hid _ at k;clear h;refine callsIn_of_wp Tryz.func247 rfl trivial ?_ rfl;simp only[Tryz.ntmps247,List.size_toArray,List.length_cons,List.length_nil,Nat.reduceAdd,Nat.reduceSub,Array.replicate_succ,Array.replicate_zero,List.push_toArray,List.append_toArray,List.nil_append,List.cons_append];gi_wp2_with (first
  | (gi_at_call 285;refine(z _ _).mono ?_;rintro e j ⟨rfl,rfl⟩)
  | (gi_at_call 284;refine t.mono ?_;rintro e j ⟨v,x,rfl,q,a,u,r⟩))
 go_ret;rw[Ai]at q;rw[yB k q,q.length_eq]at a;simp only[List.length_map,List.map_map]at a;exact⟨v,rfl,ownsRow_base_a a (by simp),((Below.refl _ w).alloc (Nat.le_refl _) _).trans (r.mono (by simp))⟩
end Go.Proofs.YtpndiccohnafbaaGreatDoor.Hk
namespace Go.Proofs.YtpndiccohnafbaaGreatDoor.Hk
open Go.RowKit Go.Maps Mem Foot Im Wm
variable {b c d e:Nat}{f g:N}{h:Int}{j:List (Int × cL)}{m:TypeId}{n:pZ}
theorem jj.keep {a:Bool}(h:jj f b c d j a)(e:Below f.heap.size f g):jj g b c d j a:=
 h.off (F:=[]) (an.ag e) (by simp) (by simp)
theorem jj.ne {a:Bool}(h:jj f b c d j a):b≠c:=dp h.map h.head
theorem cW {b n i:Nat}{v u:Value}  {j:List Value}(h:f.ownsRow b m 1 v n j)(c:j[i]? = Z u):∃g a,v=.slice (Z ⟨g,0,Y⟩) n a/\n<=a/\b<=g/\g<f.heap.size/\f.cell? ⟨g,i,Y⟩=Z u:=by
 rcases h.2 with ⟨_,q⟩|⟨g,a,d,rfl,k,l,o,_,_,p⟩
 .have r:=h.1;grind
 have e:af f g m d:=l;refine⟨g,a,rfl,o,k,e.lt,?_⟩;rw[<-p,List.getElem?_take]at c;split at c
 .exact e.cell i u (by simpa using c)
 cases c
structure qK (l:List (Int×cL)):Prop where
 up:Up dJ l
 len:l.length<=1000
 tJ:∀c∈l,0<=c.1/\c.1<=1000000000/\0<=c.2.aL/\c.2.aL<=2000000000/\0<=c.2.weight
 gB:gB l<=1152921504606846976
theorem mV {l:List (Int×cL)}(h:∀c∈l,0<=c.2.weight):0<=gB l:=by
 have:=vV (k:=0) h;omega
theorem vi (a:0<=h)(b:h<=1000000000):(Lit.int O h).wf=true:=by
 have c:IntKind.i64.min = -9223372036854775808:=by decide
 have d:IntKind.i64.max=9223372036854775807:=by decide
 grind [Lit.wf]
theorem Gt (a b:Int)(w:N):(Instr.field 340 (.agg #[I O a,I O b]) 0).run Va w=.ok (I O a) w:=by kernel_rfl
theorem zO (a b:Int)(w:N):(Instr.field 340 (.agg #[I O a,I O b]) 1).run Va w=.ok (I O b) w:=by kernel_rfl
set_option maxRecDepth 10000 in
theorem Qb (S b B:Nat)(x y:Int×cL)(r:List (Int×cL))(f:Bool)(w:N)(h:jj w S b B (x ::y ::r) f)(m:qK (x ::y ::r)):
  Calls Va 265 #[ca (Z ⟨S,0,Y⟩)] w λe w'=>e=Ua (.tuple #[])/\an [S,b] w w'/\jj w' S b B (fold (x ::y ::r)) true:=by
 obtain⟨x1,x2,x3,x4,x5⟩:=m.tJ x (Ub ..);obtain⟨y1,y2,y3,y4,y5⟩:=m.tJ y (qb _ (Ub ..));have z:=Za (P:=Va) (k:=3) Wa (vi x1 x2);have A:=Za (P:=Va) (k:=3) Wa (vi y1 y2);have a3:x.1<y.1:=by
  have:=(List.pairwise_cons.1 m.up).1 y (Ub ..);simpa[dJ] using this
 have ht:x.2.weight+(y.2.weight+gB r)<=1152921504606846976:=m.gB;have h0:=mV (l:=r) λc hc=>(m.tJ c (qb _ (qb _ hc))).2.2.2.2
 have a1:y.2.weight+x.2.weight<=1152921504606846976:=by omega
 have ex:Im.elemOf cv zC x.1 (x ::y ::r)=.agg #[I O x.2.aL,I O x.2.weight]:=by
  unfold Im.elemOf;rw[bc rfl];rfl
 have ey:Im.elemOf cv zC y.1 (x ::y ::r)=.agg #[I O y.2.aL,I O y.2.weight]:=by
  unfold Im.elemOf;rw[aV (by omega),bc rfl];rfl
 have n:=rising S b B _ f w h m.up m.len;have U:=aa m;have HS:=aa h;clear ht h0 m h;go_in;go_wp2_with fail;refine n.mono ?_;clear n;rintro e D ⟨v,rfl,j,q⟩;obtain⟨g,H,rfl,a0,J,M,g0⟩:=cW (i:=0) j rfl;have g1:D.cell? ⟨g,1,Y⟩=Z (I O y.1):=by
  obtain⟨g',X,e1,_,_,_,h2⟩:=cW (i:=1) j rfl;grind
 have s:=aa q;have u:=aa (HS.keep q);have a2:((x ::y ::r).length:Int)=(r.length:Int)+2:=by simp;omega
 have R:2<=(x ::y ::r).length:=by simp
 clear j q J M;generalize (x ::y ::r).length=nl at *;have K:2<=H:=by omega
 go_wp2_with fail;go_quiet (fail);have a:Hid (jj (D.drewN nq) S b B (x ::y ::r) f):=u.keep (ax (Below.refl _ _));have G:Hid (Below w.heap.size w (D.drewN nq)):=ax s;clear g0 g1 u s;generalize D.drewN nq=E at *;have c1:=a.head.Ri 1;have lx:=iU a.map (eb Wa) Xa Dc rfl cB z E.drew rfl;have ly:=iU a.map (eb Wa) Xa Dc rfl cB A E.drew rfl;rw[ex]at lx;rw[ey]at ly;obtain⟨w4,hu,W,d⟩:=qG (lt:=dJ) (show Cells E.drew b (x ::y ::r) from a.map) (eb Wa) Xa cB gS (by have:=U.len;unfold maxLen;omega) A ⟨y.2.aL,y.2.weight+x.2.weight⟩ rfl;simp only[cv]at hu;change Hid _ at W;have V:=aa (show E.grownBy w4 (Z b) from⟨d.os,d.tape,d.output,d.size,d.block⟩);clear d ex ey;have f0:=Gt;have f1:=zO;go_wp2_with fail;go_region
 all_goals
  have t:=aa (Foot.af.off a.head (de (F:=[b]) V (by simp)) (by simpa using a.ne));clear c1 lx ly hu;have c1:=t.Ri 1;obtain⟨w5,hd,T,o⟩:=KC W (eb Wa) Xa cB z 0;change Hid _ at T o;have p:=aa (Foot.af.off t (de (F:=[b]) o (by simp)) (by simpa using a.ne));have c2:=p.Ri 2;have z2:=p.frozen 2;go_wp2_with fail;go_end0;have o1:an [S,b] w w5:=((an.ag G).trans (de V (by simp))).trans (de o (by simp));have hn:b≠S:=λe=>a.ne e.symm
  refine⟨rfl,o1.set (by simp) _ _,p.set 2 _,?_⟩;have h5:=T.out;rw[KN U.up]at h5;exact fL.at h5 (Below.heap_setCell _ _ _ _ hn)
theorem Gn (n:Int)(l:List (Int×cL)):∃a,Im.elemOf cv zC n l=.agg #[I O a,I O (qI n l)]:=by
 unfold Im.elemOf qI;cases aS n l with
 | none=>exact⟨0,rfl⟩
 | some c=>exact⟨c.aL,rfl⟩
theorem qK.lay (h:qK j){v wt:Int}(g:0<=v)(i:v<=999999999)(m:0<=wt)(l:Wm.gB j+wt<=1152921504606846976)(n:j.length<1000):qK (lay v wt j):=by
 have o:=vV (k:=(bk v).1) (λc a=>(h.tJ c a).2.2.2.2);obtain⟨b,d,e,f⟩:=zw g i;refine⟨JH h.up,by have:=(gL (lt:=dJ) (k:=(bk v).1) (b':=⟨(bk v).2,qI (bk v).1 j+wt⟩) (Up.nodup qt h.up)).2;show (put _ _ _ _).length<=_;omega,λc a=>?_,by rw[CU h.up];exact l⟩;rcases eT a with rfl|⟨a,_⟩
 .exact⟨b,d,e,f,by grind⟩
 exact h.tJ c a
noncomputable def EI (a:Nat)(v wt:Int)(l:List (Int×cL)):List (Int×cL):=if a<(lay v wt l).length then Wm.fold (lay v wt l) else lay v wt l
set_option maxRecDepth 10000 in
theorem RP (S b d:Nat)(l:List (Int×cL))(f:Bool)(v wt:Int)(w:N)(h:jj w S b d l f)(G:qK l)(R:0<=v)(T:v<=999999999)(h2:0<=wt)(h3:wt<=1000)(ht:Wm.gB l+wt<=1152921504606846976)(hm:2<=d)(a1:d<=64)(V:l.length<=d):
  Calls Va 229 #[ca (Z ⟨S,0,Y⟩),I O v,I O wt] w λe H=>e=Ua (.tuple #[])/\an [S,b] w H/\jj H S b d (EI d v wt l) (f||decide (d<(lay v wt l).length)):=by
 have HF:=aa (qK.lay G R T h2 ht (by omega));have u:=vV (k:=(bk v).1) (λc hc=>(G.tJ c hc).2.2.2.2);have p:=zw R T;have B:=aa h;have HL:=aa V;clear V G h;go_in;go_wp2_with fail;refine(Bkw.Jg v _).mono ?_;rintro e H ⟨⟨n,s,rfl,U⟩,rfl⟩;have D:=FP U;rw[D]at u p;simp only at u p;obtain⟨n0,n1,s0,s1⟩:=p;obtain⟨w0,w1⟩:=u;have m:=Za (P:=Va) (k:=3) Wa (vi n0 n1);obtain⟨st,hst⟩:=Gn n l;have c1:=B.head.Ri 1;have lx:=iU B.map (eb Wa) Xa Dc rfl cB m w.drew rfl;rw[hst]at lx;obtain⟨z,hu,t,g⟩:=qG (lt:=dJ) (show Cells w.drew b l from B.map) (eb Wa) Xa cB gS (by grind [Hid,maxLen]) m ⟨s,qI n l+wt⟩ rfl;have M:put dJ n ⟨s,qI n l+wt⟩ l=lay v wt l:=by grind [lay]
 rw[M]at t;simp only[cv]at hu;have HU:Hid (Cells z b (lay v wt l)):=t;have J:=aa (show w.grownBy z (Z b) from⟨g.os,g.tape,g.output,g.size,g.block⟩);have f1:=zO;have X:qI n l+wt<=1152921504606846976:=by omega
 generalize qI n l=wg at *;clear t g M D U hst w1 ht;go_wp2_with fail;go_region
 all_goals
  clear c1 lx hu f1;have K:=aa (de (F:=[S,b]) J (by simp));have j:=aa (show jj z S b d (lay v wt l) f from⟨Foot.af.off B.head (de (F:=[b]) J (by simp)) (by simpa using B.ne),HU⟩);have c0:=j.head.Ri 0;have c1:=j.head.Ri 1;have hlen:=λty=>nQ j.map Xa ty z.drew rfl
  have a0:Hid (jj z.drew S b d (lay v wt l) f):=j.keep (ax (n:=1) (Below.refl _ _));by_cases i:d<(lay v wt l).length
  .have hz:(d:Int)<((lay v wt l).length:Int):=by omega
   have HE:=aa (show EI d v wt l=Wm.fold (lay v wt l)/\(f||decide (d<(lay v wt l).length))=true from⟨by rw[EI,if_pos i],by simp[i]⟩);obtain⟨x,y,r,o⟩:∃x y r,lay v wt l=x ::y ::r:=by
    match W:lay v wt l with
    | []=>grind
    | [a]=>grind
    | a ::c ::r=>exact⟨a,c,r,rfl⟩
   have q:=Qb S b d x y r f z.drew (by grind [Hid]) (by rw[<-o];exact HF);rw[<-o]at q;change Hid _ at o;clear i;generalize (lay v wt l).length=nl at hlen hz;go_wp2_with fail;go_region
   all_goals
    go_wp2_with fail;refine q.mono ?_;clear q;rintro e w6 ⟨rfl,A,E⟩;change Hid _ at A E;go_wp2_with fail;go_end0;refine⟨rfl,(K.drewN 1).trans A,?_⟩;grind [Hid]
  have hz:((lay v wt l).length:Int)<=(d:Int):=by omega
  have HE:=aa (show EI d v wt l=lay v wt l/\(f||decide (d<(lay v wt l).length))=f from⟨by rw[EI,if_neg i],by simp[i]⟩);clear i;generalize (lay v wt l).length=nl at hlen hz;go_wp2_with fail;go_region
  all_goals
   go_wp2_with fail;go_end0;refine⟨rfl,K.drewN 1,?_⟩;grind [Hid]
theorem sP (a b:List (Int×cL)):Wm.gB (a++b)=Wm.gB a+Wm.gB b:=by
 induction a with
 | nil=>simp[Wm.gB]
 | cons x r c=>grind [gB]
theorem yU {l:List (Int×cL)}(h:∀c∈l,0<=c.2.weight)(i:Nat):0<=Wm.gB (l.take i)/\Wm.gB (l.take i)<=Wm.gB l:=by
 have e:=sP (l.take i) (l.drop i);rw[List.take_append_drop]at e;have b:=mV (l:=l.take i) λc a=>h c (List.mem_of_mem_take a)
 have d:=mV (l:=l.drop i) λc a=>h c (List.mem_of_mem_drop a)
 omega
theorem Fg {c:Int×cL}(a:j[b]? = Z c)(s:Int):upto h s (j.drop b)=if h<s+c.2.weight then c.2.aL else upto h (s+c.2.weight) (j.drop (b+1)):=by grind [upto,List.drop_eq_getElem_cons]
theorem KS (d:Up dJ j)  {c:Int×cL}(a:j[b]? = Z c):aS c.1 j=Z c.2:=by
 have e:=List.mem_of_getElem? a;clear a;have f:=Up.nodup qt d;clear d
 induction j with
 | nil=>cases e
 | cons x r g=>grind [bc,aV]
set_option maxRecDepth 10000 in
theorem Tf (S b R:Nat)(l:List (Int×cL))(f:Bool)(k:Int)(w:N)(h:jj w S b R l f)(x:qK l):
  Calls Va 208 #[ca (Z ⟨S,0,Y⟩),I O k] w λe w'=>e=Ua (I O (upto k 0 l))/\Below w.heap.size w w':=by
 have m:=rising S b R _ f w h x.up x.len;have o:=aa x;have W:=aa h;clear x h;go_in;go_wp2_with fail;refine m.mono ?_;clear m;rintro e w1 ⟨v,rfl,a,n⟩;have V:=aa a;have G:=aa n;have p:=aa (W.keep n);have hlen:l.length<=1000:=o.len;obtain⟨ao,a0,rfl⟩:=Own.shape a;have c1:=p.head.Ri 1;clear a n;go_wp2_with fail;go_loop [5,11] (λs i=>∃j:Nat,i=I O (j:Int)/\j<=l.length/\s=I O (Wm.gB (l.take j))/\Hid (upto k 0 l=upto k (Wm.gB (l.take j)) (l.drop j))) (λ_ i=>l.length - (intOf i).toNat)
 case atStart=>exact⟨0,rfl,by omega,rfl,rfl⟩
 case round=>
  obtain⟨j,rfl,hj,rfl,H⟩:=hrel;obtain⟨t0,t1⟩:=yU (l:=l) (λc d=>(o.tJ c d).2.2.2.2) j;have t2:=o.gB;by_cases E:j<l.length
  .have F:(j:Int)<(l.length:Int):=by omega
   obtain⟨c,d⟩:∃c,l[j]? = Z c:=⟨_,List.getElem?_eq_getElem E⟩;obtain⟨k1,k2,k3,k4,k5⟩:=o.tJ c (List.mem_of_getElem? d);obtain⟨g,X,hg,K,_,_,gc⟩:=cW (i:=j) (u:=I O c.1) V (by grind);injection hg with z A B;subst z;subst B;have t:=Za (P:=Va) (k:=3) Wa (vi k1 k2);have J:Im.elemOf cv zC c.1 l=.agg #[I O c.2.aL,I O c.2.weight]:=by
    unfold Im.elemOf;rw[KS o.up d];rfl
   have lx:=iU p.map (eb Wa) Xa Dc rfl cB t w1 rfl;rw[J]at lx;have f0:=Gt;have f1:=zO;have q:=H.trans (Fg d _);have y:Wm.gB (l.take (j+1))=Wm.gB (l.take j)+c.2.weight:=by
    rw[List.take_add_one,d,sP];simp[Wm.gB]
   have a1:Wm.gB (l.take j)+c.2.weight<=1152921504606846976:=by
    have:=(yU (l:=l) (λc d=>(o.tJ c d).2.2.2.2) (j+1)).2;omega
   change Hid _ at q y;clear J d A;generalize Wm.gB (l.take j)=T at *;by_cases D:k<T+c.2.weight
   .go_wp2_with fail;go_ret;refine⟨?_,G⟩;rw[q.out,if_pos D];rfl
   have M:T+c.2.weight<=k:=by omega
   go_wp2_with fail;grind [Hid,intOf]
  have F:¬(j:Int)<(l.length:Int):=by omega
  have r:j=l.length:=by omega
  have U:=aa (show upto k 0 l=0 by rw[H.out,r,List.drop_length];rfl);clear r;go_wp2_with fail;go_ret;exact⟨by rw[U.out];rfl,G⟩
structure oD (w:N)(T S b:Nat)(mx:Nat)(t:pZ):Prop where
 head:af w T 255 #[I O t.count,I O t.sum,I O t.least,I O t.al,ca (Z ⟨S,0,Y⟩)]
 sk:jj w S b mx t.cells t.folded
theorem cH {d:TypeId}{g a:Array Value}(h:af f b m g)(i:af f c d a)(j:m≠d):b≠c:=by
 intro e;grind [af]
theorem oD.off {F:List Nat}{w f:N}   (h:oD w b c d e n)(a:an F w f)(i:b∉F)(g:c∉F)(j:d∉F):oD f b c d e n:=
 ⟨Foot.af.off h.head a i,h.sk.off a g j⟩
theorem oD.keep (h:oD f b c d e n)(a:Below f.heap.size f g):oD g b c d e n:=
 h.off (F:=[]) (an.ag a) (by simp) (by simp) (by simp)
theorem Rf (c:Nat)(w:N):Calls Va 228 #[I O c] w λe h=>∃T,e=Ua (ca (Z ⟨T,0,Y⟩))/\w.heap.size<=T/\oD h T (w.heap.size+1) w.heap.size c ⟨0,0,0,0,[],false⟩/\Below w.heap.size w h:=by
 go_in;go_wp2_with fail;refine(QS c w).mono ?_;rintro e d ⟨rfl,g,f⟩;have i:=aa g;have b:=aa f;clear g f;go_wp2_with fail;go_ret;have a:Below d.heap.size d (d.alloc (.cells #[I O 0,I O 0,I O 0,I O 0,ca (Z ⟨w.heap.size+1,0,Y⟩)] 255)):=ai _;exact⟨_,rfl,b.size,⟨af.new _ _ _,i.keep a⟩,b.trans (a.mono b.size)⟩
theorem FT {a c d e g:Value}(h:af f b m #[a,c,d,e,g]):
  f.cell? ⟨b,0,Y⟩=Z a/\f.cell? ⟨b,1,Y⟩=Z c/\f.cell? ⟨b,2,Y⟩=Z d/\f.cell? ⟨b,3,Y⟩=Z e/\f.cell? ⟨b,4,Y⟩=Z g/\f.frozen? ⟨b,0,Y⟩=false/\f.frozen? ⟨b,1,Y⟩=false/\f.frozen? ⟨b,2,Y⟩=false/\f.frozen? ⟨b,3,Y⟩=false:=
 ⟨h.Ri 0,h.Ri 1,h.Ri 2,h.Ri 3,h.Ri 4,h.frozen 0,h.frozen 1,h.frozen 2,h.frozen 3⟩
theorem qK.of {a:cZ}   (h:iu a b n)(d:b<=1000000000000000)(c:a.buckets<=64):qK n.cells:=
 ⟨h.up,by have:=h.len;omega,h.tJ,by have:=h.gB;omega⟩
theorem qx {F:List Nat}   {v:Value}(h:b∈F):an F f (f.setCell ⟨b,c,Y⟩ v):=(an.refl F f).set h c v
theorem CQ { a:N}  {t:pZ}{v wt:Int}{i j l:Int}(x:b≠c/\b≠d)(m:an [b] f g)(w:af g b 255 #[I O h,I O i,I O j,I O l,ca (Z ⟨c,0,Y⟩)])
  (q:h=(dq e t v wt).count) (r:i=(dq e t v wt).sum) (s:j=(dq e t v wt).least) (u:l=(dq e t v wt).al) (o:an [c,d] g a) (p:jj a c d e (EI e v wt t.cells) (t.folded||decide (e<(lay v wt t.cells).length))):
  an [b,c,d] f a/\oD a b c d e (dq e t v wt):=by
 refine⟨(m.mono λk _ n=>by grind).trans (o.mono λk _ n=>by grind),?_,p⟩;grind [af.off]
set_option maxRecDepth 10000 in
theorem Re (T S b:Nat)(c:cZ)(n:Nat)(t:pZ)(v wt:Int)(w:N)(h:oD w T S b c.buckets t)(d:iu c n t)(D:n<=1000000000000000)(y:2<=c.buckets)(g:c.buckets<=64)(s:0<=v)(u:v<=999999999)(h2:1<=wt)(x:wt<=1000):
  Calls Va 181 #[ca (Z ⟨T,0,Y⟩),I O v,I O wt] w λe p=>e=Ua (.tuple #[])/\an [T,S,b] w p/\oD p T S b c.buckets (dq c.buckets t v wt):=by
 have q1:=d.count;have J:=d.sum;have E:0<=v*wt:=Int.mul_nonneg s (by omega);have G:v*wt<=999999999000:=by
  have:=Int.mul_le_mul u x (by omega) (by omega:(0:Int)<=999999999);omega
 have H:t.sum+v*wt<=2000000000000000:=by
  have:t.sum<=1000000000000000:=J.2;omega
 have hs0:0<=t.sum+v*wt:=by omega
 have B:t.count+wt<=2000000000000000:=by
  have:t.count<=1000000000000000:=q1.2;omega
 have A:0<=t.count+wt:=by omega
 have a:=λW (z:jj W S b c.buckets t.cells t.folded)=>RP S b c.buckets t.cells t.folded v wt W z (qK.of d D g) s u (by omega) x (by have:=d.gB;omega) y g d.len
 obtain⟨M,c1,c2,c3,P,R,U,V,X⟩:=FT h.head;have o:=aa h;change Hid _ at d;have l:T≠S:=cH h.head h.sk.head (by decide);have m:T≠b:=dp h.sk.map h.head;have f:=aa (And.intro l m);have i:=bounded;clear h l m;by_cases hz:t.count=0
 .go_in;go_wp2_with (go_at_call 182;refine(i _ _).mono ?_;rintro e p ⟨rfl,rfl⟩)
  refine(a _ (o.sk.off (F:=[T]) ((((((qx (by simp)).set (by simp) _ _).set (by simp) _ _).set (by simp) _ _).set (by simp) _ _).set (by simp) _ _) (by simpa using λe=>f.1 e.symm) (by simpa using λe=>f.2 e.symm))).mono ?_;clear a;rintro e K ⟨rfl,j,k⟩;have q:=aa (CQ (t:=t) (v:=v) (wt:=wt) f ((((((qx (by simp)).set (by simp) _ _).set (by simp) _ _).set (by simp) _ _).set (by simp) _ _).set (by simp) _ _) ((((((o.head.set 2 _).set 3 _).set 0 _).set 1 _).set 2 _).set 3 _) (by simp[dq,hz]) (by simp[dq]) (by simp[dq,hz]) (by simp[dq,hz]) j k);clear j k;go_wp2_with fail;go_end0;exact⟨rfl,q⟩
 have r:=aa hz;go_in;go_wp2_with (go_at_call 182;refine(i _ _).mono ?_;rintro e p ⟨rfl,rfl⟩)
 all_goals
  refine(a _ (o.sk.off (F:=[T]) ((((qx (by simp)).set (by simp) _ _).set (by simp) _ _).set (by simp) _ _) (by simpa using λe=>f.1 e.symm) (by simpa using λe=>f.2 e.symm))).mono ?_;clear a;rintro e K ⟨rfl,j,k⟩;have q:=aa (CQ (t:=t) (v:=v) (wt:=wt) f ((((qx (by simp)).set (by simp) _ _).set (by simp) _ _).set (by simp) _ _) ((((o.head.set 0 _).set 1 _).set 2 _).set 3 _) (by simp[dq]) (by simp[dq]) (by simp[dq,r.out]<;>omega) (by simp[dq,r.out]<;>omega) j k);clear j k;go_wp2_with fail;go_end0;exact⟨rfl,q⟩
end Go.Proofs.YtpndiccohnafbaaGreatDoor.Hk
