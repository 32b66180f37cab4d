/- The walk of the document's reader. -/
import Derived.Test.YtenegfafjjknoaaGreatDoorRefvy
import Derived.Test.YtenegfafjjknoaaGreatDoorRefiy
import Derived.Deep.CutRange
set_option maxHeartbeats 100000000
open List renaming getElem?_eq_some_iff → uB
open Nat renaming le_refl → uA
namespace Go.Proofs.YtenegfafjjknoaaGreatDoor.Refr
open Go.RowKit Bytes Nums Refs Numw Mem Refw Refn Refv Refi Refl Tagw
def rsm (nb:ByteArray)(K v:Int)(wb:ByteArray)(r:Int)(tv:Value):Value:=.agg #[.string nb,.int .u8 K,.int .i64 v,.string wb,.int .i64 r,tv]
def Said (l:List UInt8)(w:World)(e:Ending)(w':World):Prop:=
 Below w.heap.size w w'∧((refRd l=none∧∃nb K v wb r sa sl sc,e=.returned (.tuple #[rsm nb K v wb r (.slice sa sl sc),.bool false]))∨
  (∃(m:Rs) (nb wb:ByteArray) (tv:Value),refRd l=some m∧B nb=m.name∧B wb=m.word∧Strs w.heap.size w' tv m.tags∧e=.returned (.tuple #[rsm nb m.kind m.value wb m.rate tv,.bool true])))
theorem below6 {B b:Nat}{w w':World}(h:Below B w w')(hb:B≤b)(v0 v1 v2 v3 v4 v5:Value):
  Below B w ((((((w'.setCell ⟨b,0,none⟩ v0).setCell ⟨b,1,none⟩ v1).setCell ⟨b,2,none⟩ v2).setCell ⟨b,3,none⟩ v3).setCell ⟨b,4,none⟩ v4).setCell ⟨b,5,none⟩ v5):=
 (((((h.setCell hb _).setCell hb _).setCell hb _).setCell hb _).setCell hb _).setCell hb _
theorem refRd_noname {l:List UInt8}(h:made nam 16 (tw [58,124] l)=false):refRd l=none:=by
 rw[refRd,if_neg (by rw[h];simp)]
theorem refRd_nocolon {l:List UInt8}(h:¬l[(tw [58,124] l).length]? = some 58):refRd l=none:=by
 rw[refRd,if_neg (fun hh=>h hh.2)]
theorem refRd_on {l:List UInt8}(h:made nam 16 (tw [58,124] l)=true)(h2:l[(tw [58,124] l).length]? = some 58):refRd l=val2 l (tw [58,124] l) (tw [58,124] l).length:=by
 rw[refRd,if_pos ⟨h,h2⟩]
theorem get_at {s:ByteArray}{p:Nat}{b:UInt8}(h:p<s.size)(hb:(s[p].toNat:Int)=(b.toNat:Int)):(B s)[p]? = some b:=by
 rw[B_get h]
 congr 1
 apply UInt8.toNat_inj.1
 omega
theorem not_at {s:ByteArray}{p:Nat}{b:UInt8}(h:p<s.size)(hb:¬(s[p].toNat:Int)=(b.toNat:Int)):¬(B s)[p]? = some b:=by
 rw[B_get h];intro e;cases e
 exact hb rfl
theorem past_end {s:ByteArray}{p:Nat}{b:UInt8}(h:¬p<s.size):¬(B s)[p]? = some b:=by
 rw[List.getElem?_eq_none (by rw[←size_B];omega)];simp
theorem upTo0 (s:ByteArray)(hs:s.size≤140737488355328)(w:World):
  Calls Tryz.prog 80 #[.string s,.int .i64 0,.string ⟨#[58,124]⟩] w fun e w'=>(∃z,e=.returned (.tuple #[.string z,.int .i64 (z.size:Int)])∧B z=tw [58,124] (B s)∧z.size≤s.size)∧∃n,w'=w.drewN n:=by
 refine(upTo s ⟨#[58,124]⟩ 0 (Nat.zero_le _) hs (by decide) w).mono fun e w' h=>?_
 obtain⟨⟨z,he,hz,hzz⟩,hn⟩:=h;refine⟨⟨z,?_,hz,by omega⟩,hn⟩;rw[he,Nat.zero_add]
set_option maxRecDepth 100000 in
theorem read_noname (s:ByteArray)(hs:s.size≤140737488355328)(w:World)(hm:made nam 16 (tw [58,124] (B s))=false):
  Calls Tryz.prog 38 #[.string s] w fun e w'=>Said (B s) w e w':=by
 have HM:=hide hm;clear hm;go_enter Tryz.func38,Tryz.ntmps38
 go_wp2_with (go_at_call 80;refine(upTo0 s hs _).mono ?_;rintro e w' ⟨⟨nb,rfl,hn,hnz⟩,n1,rfl⟩)
 refine(word_t nb 16 (by omega) _).mono ?_;rintro e w' ⟨rfl,rfl⟩;rw[hn,HM.out];go_wp2_with fail
 go_returns
 exact⟨below6 (below_drewN' ((below_new _).alloc (by simp) _)) (uA _) _ _ _ _ _ _,Or.inl ⟨refRd_noname HM.out,_,_,_,_,_,_,_,_,rfl⟩⟩
theorem upTo1 (s t:ByteArray)(a:Nat)(ha:a+1≤s.size)(hs:s.size≤140737488355328)(ht:t.size≤2)(w:World):
  Calls Tryz.prog 80 #[.string s,.int .i64 ((a:Int)+1),.string t] w fun e w'=>(∃z p,e=.returned (.tuple #[.string z,.int .i64 ((p:Nat):Int)])∧B z=tw (B t) ((B s).drop (a+1))∧p=a+1+z.size∧p≤s.size)∧∃n,w'=w.drewN n:=by
 refine(upTo s t (a+1) ha hs ht w).mono fun e w' h=>?_
 obtain⟨⟨z,he,hz,hzz⟩,hn⟩:=h;exact⟨⟨z,_,he,hz,rfl,hzz⟩,hn⟩
theorem upTo2 (s t:ByteArray)(a:Nat)(ha:a+2≤s.size)(hs:s.size≤140737488355328)(ht:t.size≤2)(w:World):
  Calls Tryz.prog 80 #[.string s,.int .i64 ((a:Int)+2),.string t] w fun e w'=>(∃z p,e=.returned (.tuple #[.string z,.int .i64 ((p:Nat):Int)])∧B z=tw (B t) ((B s).drop (a+2))∧p=a+2+z.size∧p≤s.size)∧∃n,w'=w.drewN n:=by
 refine(upTo s t (a+2) ha hs ht w).mono fun e w' h=>?_
 obtain⟨⟨z,he,hz,hzz⟩,hn⟩:=h;exact⟨⟨z,_,he,hz,rfl,hzz⟩,hn⟩
theorem rt_end {l:List UInt8}{j q:Nat}{acc:List (List UInt8)}(h:¬q<l.length):rtags l j q acc=some acc:=by
 cases j<;>rw[rtags,if_neg h]
theorem rt_full {l:List UInt8}{q:Nat}{acc:List (List UInt8)}(h:q<l.length):rtags l (4 - 4) q acc=none:=by
 show rtags l 0 q acc=none;rw[rtags,if_pos h]
theorem rt_bad {l:List UInt8}{j q:Nat}{acc:List (List UInt8)}(h:q<l.length)(hm:made let_ 8 (tw [44] (l.drop (q+1)))=false):rtags l j q acc=none:=by
 cases j with
 | zero=>rw[rtags,if_pos h]
 | succ j=>rw[rtags,if_pos h,hm];rfl
theorem rt_on {l:List UInt8}{j q:Nat}{acc:List (List UInt8)}(h:q<l.length)(hm:made let_ 8 (tw [44] (l.drop (q+1)))=true):rtags l (j+1) q acc=rtags l j (q+1+(tw [44] (l.drop (q+1))).length) (ins (tw [44] (l.drop (q+1))) acc):=by
 rw[rtags,if_pos h,if_pos hm]
theorem lastOk_eq {s:ByteArray}(h:1≤s.size):lastOk (B s)=(!((s[s.size - 1].toNat:Int)==44)&&!((s[s.size - 1].toNat:Int)==35)):=by
 have e:(B s).getLast? = some s[s.size - 1]:=by
  rw[List.getLast?_eq_getElem?,←size_B,B_get (by omega)]
 have hb:∀(b c:UInt8),(some b==some c)=((b.toNat:Int)==(c.toNat:Int)):=by
  intro b c;by_cases hbc:b=c
  ·subst hbc;simp
  ·have h1:(some b==some c)=false:=by simpa using hbc
   have h2:((b.toNat:Int)==(c.toNat:Int))=false:=by
    simp only[beq_eq_false_iff_ne];intro hh;exact hbc (UInt8.toNat_inj.1 (by omega))
   rw[h1,h2]
 rw[lastOk,e,hb,hb];rfl
theorem step_len1 (t:List UInt8)(l:List (List UInt8)):∀st:List (List UInt8)×Bool,(l.foldl (Refi.step t) st).1.length+(if (l.foldl (Refi.step t) st).2=true then 0 else 1)≤st.1.length+l.length+(if st.2=true then 0 else 1):=by
 induction l with
 | nil=>intro st;exact uA _
 | cons x l ih=>
  intro st;rw[List.foldl_cons];have h:=ih (Refi.step t st x);have h2:(Refi.step t st x).1.length+(if (Refi.step t st x).2=true then 0 else 1)≤st.1.length+1+(if st.2=true then 0 else 1):=by
   obtain⟨a,b⟩:=st;show (((if b=false∧le' t x=true then a++[t] else a)++(if x=t then [] else [x])).length+(if (b||le' t x)=true then 0 else 1))≤a.length+1+(if b=true then 0 else 1);rw[List.length_append];have hx:(if x=t then ([]:List (List UInt8)) else [x]).length≤1:=by split<;>simp
   generalize (if x=t then ([]:List (List UInt8)) else [x]).length=m at hx;generalize le' t x=le;cases b<;>cases le<;>simp<;>omega
  simp only[List.length_cons];omega
theorem ins_len (t:List UInt8)(l:List (List UInt8)):(ins t l).length≤l.length+1:=by
 have h:=step_len1 t l ([],false);unfold ins;split
 ·rename_i hb;rw[hb]at h;simp at h
  omega
 ·rename_i hb;rw[if_neg hb]at h;rw[List.length_append];simp at h ⊢
  omega
theorem fin_none {l n v k:List UInt8}{rt:Bool}{r:Int}{p:Nat}(h:refVal k v rt=none):fin l n v k rt r p=none:=by
 rw[fin,h];rfl
theorem fin_end {l n v k x:List UInt8}{rt:Bool}{r K V:Int}{p:Nat}(h:refVal k v rt=some (K,V,x))(hp:¬p<l.length):fin l n v k rt r p=some ⟨n,K,V,x,r,[]⟩:=by
 rw[fin,h,Option.bind_some,if_neg hp]
theorem fin_no {l n v k x:List UInt8}{rt:Bool}{r K V:Int}{p:Nat}(h:refVal k v rt=some (K,V,x))(hp:p<l.length)(h35:¬l[p+1]? = some 35):fin l n v k rt r p=none:=by
 rw[fin,h,Option.bind_some,if_pos hp,if_neg h35]
theorem fin_tags {l n v k x:List UInt8}{rt:Bool}{r K V:Int}{p:Nat}(h:refVal k v rt=some (K,V,x))(hp:p<l.length)(h35:l[p+1]? = some 35):fin l n v k rt r p=(rtags l 4 (p+1) []).bind fun t=>if lastOk l=true then some ⟨n,K,V,x,r,t⟩ else none:=by
 rw[fin,h,Option.bind_some,if_pos hp,if_pos h35]
theorem opt_plain {l n v k:List UInt8}{p:Nat}(h:¬l[p+1]? = some 64):opt l n v k p=fin l n v k false 1000 p:=by
 rw[opt,if_neg h]
theorem opt_bad {l n v k:List UInt8}{p:Nat}(h:l[p+1]? = some 64)(hr:rok (tw [124] (l.drop (p+2)))=none):opt l n v k p=none:=by
 rw[opt,if_pos h,hr];rfl
theorem opt_rated {l n v k q:List UInt8}{p p4:Nat}{r:Int}(h:l[p+1]? = some 64)(hq:q=tw [124] (l.drop (p+2)))(hp:p4=p+2+q.length)(hr:rok q=some r):opt l n v k p=fin l n v k true r p4:=by
 subst hp hq;rw[opt,if_pos h,hr];rfl
theorem rok_one {q:ByteArray}(h:(q.toList==[49])=true):rok (B q)=some 1000:=by
 have e:B q=[49]:=by
  rw[Lib.toList_data]at h;simpa[B] using h
 rw[rok,if_pos e]
theorem rok_bad {q:ByteArray}(h:(q.toList==[49])=false)(hb:(B q).length<3∨(B q)[0]?≠some 48∨(B q)[1]?≠some 46∨refNum (B q)<1):rok (B q)=none:=by
 have e:¬B q=[49]:=by
  rw[Lib.toList_data]at h;simpa[B] using h
 rw[rok,if_neg e,if_pos hb]
theorem rok_good {q:ByteArray}(h:(q.toList==[49])=false)(h3:¬(B q).length<3)(h0:(B q)[0]? = some 48)(h1:(B q)[1]? = some 46)(hn:¬refNum (B q)<1):rok (B q)=some (refNum (B q)):=by
 have e:¬B q=[49]:=by
  rw[Lib.toList_data]at h;simpa[B] using h
 rw[rok,if_neg e,if_neg];rintro(h|h|h|h)
 ·exact h3 h
 ·exact h h0
 ·exact h h1
 ·exact hn h
theorem val2_none {l n:List UInt8}{p:Nat}(h:¬p+1+(tw [124] (l.drop (p+1))).length<l.length):val2 l n p=none:=by
 rw[val2,if_neg h]
theorem val2_on {l n v k:List UInt8}{p p2 p3:Nat}(hv:v=tw [124] (l.drop (p+1)))(hp2:p2=p+1+v.length)(h:p2<l.length)(hk:k=tw [124] (l.drop (p2+1)))(hp3:p3=p2+1+k.length):val2 l n p=opt l n v k p3:=by
 subst hp3 hk hp2 hv;rw[val2,if_pos h]
def zeros6:Array Value:=#[.string ⟨#[]⟩,.int .u8 0,.int .i64 0,.string ⟨#[]⟩,.int .i64 0,.slice none 0 0]
structure Two (w W:World)(cs:Array Value):Prop where
 below:Below w.heap.size w W
 res:Sits W w.heap.size 85 zeros6
 own:Sits W (w.heap.size+1) 85 cs
theorem Two.drewN {w W:World}{cs:Array Value}(h:Two w W cs)(n:Nat):Two w (W.drewN n) cs:=⟨below_drewN' h.below,h.res,h.own⟩
theorem Two.rate {w W:World}{v0 v1 v2 v3 v4 v5:Value}(h:Two w W #[v0,v1,v2,v3,v4,v5])(v:Value):Two w (W.setCell ⟨w.heap.size+1,4,none⟩ v) #[v0,v1,v2,v3,v,v5]:=
 ⟨h.below.setCell (by simp) _,h.res.but ((But.refl _ _).set 4 _) (by omega),h.own.set 4 _⟩
theorem Two.grow {w W W':World}{cs:Array Value}(h:Two w W cs)(hb:Below W.heap.size W W'):Two w W' cs:=⟨h.below.trans (hb.mono h.below.size),h.res.below hb h.res.lt,h.own.below hb h.own.lt⟩
theorem Two.tag {w W:World}{v0 v1 v2 v3 v4 v5:Value}(h:Two w W #[v0,v1,v2,v3,v4,v5])(v:Value):Two w (W.setCell ⟨w.heap.size+1,5,none⟩ v) #[v0,v1,v2,v3,v4,v]:=
 ⟨h.below.setCell (by simp) _,h.res.but ((But.refl _ _).set 5 _) (by omega),h.own.set 5 _⟩
theorem Two.start (w:World)(nb:ByteArray)(n:Nat)(cs:Array Value):Two w ((((w.alloc (.cells zeros6 85)).alloc (.cells cs 85)).drewN n).setCell ⟨w.heap.size+1,0,none⟩ (.string nb)) (cs.setIfInBounds 0 (.string nb)):=by
 have hb:Below w.heap.size w (((w.alloc (.cells zeros6 85)).alloc (.cells cs 85)).drewN n):=below_drewN' ((below_new _).alloc (by simp) _);have hr:Sits (((w.alloc (.cells zeros6 85)).alloc (.cells cs 85)).drewN n) w.heap.size 85 zeros6:=((Sits.new w _ _).alloc _).drewN _;have ho:Sits (((w.alloc (.cells zeros6 85)).alloc (.cells cs 85)).drewN n) (w.heap.size+1) 85 cs:=by
  have e:w.heap.size+1=(w.alloc (.cells zeros6 85)).heap.size:=by simp
  rw[e];exact(Sits.new _ _ _).drewN _
 refine⟨hb.setCell (by simp) _,?_,ho.set 0 _⟩;exact hr.but (b:=w.heap.size+1) ((But.refl _ _).set 0 _) (by omega)
set_option maxRecDepth 100000 in
theorem read_named (s:ByteArray)(hs:s.size≤140737488355328)(w:World)(hm:made nam 16 (tw [58,124] (B s))=true):
  Calls Tryz.prog 38 #[.string s] w fun e w'=>Said (B s) w e w':=by
 have HM:=hide hm;clear hm;go_enter Tryz.func38,Tryz.ntmps38
 go_wp2_with (go_at_call 80;refine(upTo0 s hs _).mono ?_;rintro e w' ⟨⟨nb,rfl,hn,hnz⟩,n1,rfl⟩)
 refine(word_t nb 16 (by omega) _).mono ?_;rintro e w' ⟨rfl,rfl⟩;rw[hn,HM.out];by_cases hlt:nb.size<s.size
 ·have hltz:¬(s.size:Int)≤(nb.size:Int):=by omega
  by_cases hco:(s[nb.size].toNat:Int)=58
  ·have hcb:((s[nb.size].toNat:Int) != 58)=false:=by simpa using hco
   have hrd:=refRd_on HM.out (by rw[←hn,←size_B];exact get_at hlt hco);rw[←hn,←size_B]at hrd;have HRD:=hide hrd;have HN:=hide hn;clear hrd hn hco;go_wp2_with fail
   obtain⟨W,hW⟩:∃W,W=((((w.alloc (.cells zeros6 85)).alloc (.cells #[.string ⟨#[]⟩,.int .u8 0,.int .i64 0,.string ⟨#[]⟩,.int .i64 1000,.slice none 0 0] 85)).drewN n1).setCell ⟨w.heap.size+1,0,none⟩ (.string nb)):=⟨_,rfl⟩;have h2:Two w W #[.string nb,.int .u8 0,.int .i64 0,.string ⟨#[]⟩,.int .i64 1000,.slice none 0 0]:=by
    rw[hW];exact Two.start w nb n1 _
   refine Eq.mp (congrArg (fun X=>Calls Tryz.prog 80 #[.string s,.int .i64 ((nb.size:Int)+1),.string ⟨#[124]⟩] X _) hW) ?_;clear hW;have H2:=hide h2;obtain⟨a0,a1,a2,a3,a4,a5⟩:=cells6 h2.res;obtain⟨z0,z1,z2,z3,z4,z5⟩:=frozen6 h2.res;obtain⟨c0,c1,c2,c3,c4,c5⟩:=cells6 h2.own;clear h2;refine(upTo1 s ⟨#[124]⟩ nb.size (by omega) hs (by decide) _).mono ?_;rintro e w' ⟨⟨vb,p2,rfl,hv,hp2,hp2s⟩,n2,rfl⟩;have hvbs:vb.size≤s.size:=by omega
   have HP2:=hide hp2;have HV:=hide hv;clear hp2 hv;by_cases hlt2:p2<s.size
   ·have hltz2:¬(s.size:Int)≤(p2:Int):=by omega
    go_wp2_with fail
    refine(upTo1 s ⟨#[124]⟩ p2 (by omega) hs (by decide) _).mono ?_;rintro e w' ⟨⟨kd,p3,rfl,hk,hp3,hp3s⟩,n3,rfl⟩;have hv2:=val2_on (l:=B s) (n:=B nb) (v:=B vb) (k:=B kd) (p:=nb.size) (p2:=p2) (p3:=p3) HV.out (by rw[HP2.out,size_B vb]) (by rw[←size_B];exact hlt2) hk (by rw[hp3,size_B kd]);rw[←HRD.out]at hv2;have HV2:=hide hv2;clear hv2 HRD hk hp3 HP2 HV;by_cases hat:(B s)[p3+1]? = some 64
    ·have hr1:p3+1<s.size:=by
      rw[size_B];exact(uB.1 hat).1
     have hr2:(s[p3+1].toNat:Int)=64:=by
      rw[B_get hr1]at hat;injection hat with e;rw[e];rfl
     have hr1z:(p3:Int)+1<(s.size:Int):=by omega
     have hr2b:((s[p3+1].toNat:Int)==64)=true:=by simpa using hr2
     have HAT:=hide hat;clear hat hr2;have y4:=H2.out.own.frozen 4;go_wp2_with fail
     refine(upTo2 s ⟨#[124]⟩ p3 (by omega) hs (by decide) _).mono ?_;rintro e w' ⟨⟨qb,p4,rfl,hq,hp4,hp4s⟩,n5,rfl⟩;have hqz:qb.size≤s.size:=by omega
     have HQ:Hid (B qb=tw [124] ((B s).drop (p3+2))):=hq;have HP4:=hide hp4;clear hq hp4;go_wp2_with fail
     refine(number qb (by omega) _).mono ?_;rintro e w' ⟨rfl,rfl⟩;have hrb:=refNum_bound (B qb);cases q1:(qb.toList==[49]) with
     | true=>
      have hF:refRd (B s)=fin (B s) (B nb) (B vb) (B kd) true 1000 p4:=by rw[HV2.out,opt_rated (p4:=p4) HAT.out HQ.out (by rw[HP4.out,size_B qb]) (rok_one q1)]
      have HF:=hide hF;have hTx:=((H2.out.drewN (n2+n3+n5)).rate (.int .i64 (refNum (B qb)))).rate (.int .i64 1000);clear hF HV2 HAT HQ HP4;go_wp2_with fail
      clear y4;refine(Refvj.valued (w.heap.size+1) vb kd true (by omega) (.string nb) (.int .i64 (1000)) (.slice none 0 0) _ hTx.own).mono ?_;rintro e w2 ⟨hb2,⟨hx,rfl,K,v,wbb,hS2⟩|⟨K,v,x,hx,rfl,wbb,hwb,hS2⟩⟩
      ·have hT2:Two w w2 _:=⟨hTx.below.trans (hb2.below (by omega) hTx.below.size),hTx.res.but hb2 (by omega),hS2⟩;clear a0 a1 a2 a3 a4 a5 z0 z1 z2 z3 z4 z5 c0 c1 c2 c3 c4 c5;obtain⟨a0,a1,a2,a3,a4,a5⟩:=cells6 hT2.res;obtain⟨z0,z1,z2,z3,z4,z5⟩:=frozen6 hT2.res;obtain⟨c0,c1,c2,c3,c4,c5⟩:=cells6 hT2.own;have hno:refRd (B s)=none:=by rw[HF.out,fin_none hx]
       have HNO:=hide hno;have HT2:=hide hT2;clear hT2 hno hx hb2 hS2;go_wp2_with fail
       refine bodyPost_ret (v:=.tuple #[rsm nb K v wbb (1000) (.slice none 0 0),.bool false]) (by simp[results,Tryz.results38,go_sem,a0,a1,a2,a3,a4,a5];rfl) rfl ?_;exact⟨below6 HT2.out.below (uA _) _ _ _ _ _ _,Or.inl ⟨HNO.out,_,_,_,_,_,_,_,_,rfl⟩⟩
      ·have hT2:Two w w2 _:=⟨hTx.below.trans (hb2.below (by omega) hTx.below.size),hTx.res.but hb2 (by omega),hS2⟩;clear a0 a1 a2 a3 a4 a5 z0 z1 z2 z3 z4 z5 c0 c1 c2 c3 c4 c5;obtain⟨a0,a1,a2,a3,a4,a5⟩:=cells6 hT2.res;obtain⟨z0,z1,z2,z3,z4,z5⟩:=frozen6 hT2.res;obtain⟨c0,c1,c2,c3,c4,c5⟩:=cells6 hT2.own;have HT2:=hide hT2;have HX:=hide hx;have HWB:=hide hwb;clear hT2 hx hb2 hS2 hwb;by_cases hpe:p4<s.size
       ·have hpez:¬(s.size:Int)≤(p4:Int):=by omega
        have hpl:p4<(B s).length:=by rw[←size_B];exact hpe
        by_cases h35:(B s)[p4+1]? = some 35
        ·have hft:=fin_tags (n:=B nb) (r:=1000) HX.out hpl h35;rw[←HF.out]at hft;have HFT:=hide hft;have hq1:p4+1<s.size:=by
          rw[size_B];exact(uB.1 h35).1
         have hq2:(s[p4+1].toNat:Int)=35:=by
          rw[B_get hq1]at h35;injection h35 with e;rw[e];rfl
         have hq1z:¬(s.size:Int)≤(p4:Int)+1:=by omega
         have hq2b:((s[p4+1].toNat:Int) != 35)=false:=by simpa using hq2
         clear hft h35 hq2 hpl HF HX;go_wp2_with fail
         go_loopw [6,12] (fun s6 s12 wr=>∃(k q:Nat) (acc:List (List UInt8)) (sa:Option Addr) (sl sc:Nat),s6=.int .i64 (q:Int)∧s12=.int .i64 (k:Int)∧k≤4∧q≤s.size∧acc.length≤k∧Hid (Two w wr #[.string nb,.int .u8 K,.int .i64 v,.string wbb,.int .i64 (1000),.slice sa sl sc]∧Strs (w.heap.size+2) wr (.slice sa sl sc) acc∧rtags (B s) 4 (p4+1) []=rtags (B s) (4 - k) q acc))
          (fun s6 _ _=>s.size - (intOf s6).toNat)
         case atStart=>exact⟨0,p4+1,[],none,0,0,rfl,rfl,by omega,by omega,by simp,⟨HT2.out,Or.inl ⟨rfl,rfl⟩,rfl⟩⟩
         case round=>
          clear a0 a1 a2 a3 a4 a5 z0 z1 z2 z3 z4 z5 c0 c1 c2 c3 c4 c5;obtain⟨k,q,acc,sa,sl,sc,rfl,rfl,hk4,hqs,hal,HL⟩:=hrel;have hTl:=HL.out.1;obtain⟨a0,a1,a2,a3,a4,a5⟩:=cells6 hTl.res;obtain⟨z0,z1,z2,z3,z4,z5⟩:=frozen6 hTl.res;obtain⟨c0,c1,c2,c3,c4,c5⟩:=cells6 hTl.own;have y5:=hTl.own.frozen 5;clear hTl;by_cases hql:q<s.size
          ·have hqlz:(q:Int)<(s.size:Int):=by omega
           go_wp2_with fail
           refine(upTo1 s ⟨#[44]⟩ q (by omega) hs (by decide) _).mono ?_;rintro e w' ⟨⟨tb,q2,rfl,htb,hq2,hq2s⟩,n4,rfl⟩;have HTB:Hid (B tb=tw [44] ((B s).drop (q+1))):=htb;have HQ2:=hide hq2;have htz:tb.size≤s.size:=by omega
           clear htb hq2;go_wp2_with fail
           refine(word_f tb 8 (by omega) _).mono ?_;rintro e w' ⟨rfl,rfl⟩;cases hmd:made let_ 8 (B tb) with
           | false=>
            have hno:refRd (B s)=none:=by
             rw[HFT.out,HL.out.2.2,rt_bad (by rw[←size_B];exact hql) (by rw[←HTB.out];exact hmd)];rfl
            have HNO:=hide hno;have HT3:=hide (HL.out.1.drewN n4);clear hno HL;go_wp2_with fail
            refine bodyPost_ret (v:=.tuple #[rsm nb K v wbb (1000) (.slice sa sl sc),.bool false]) (by simp[results,Tryz.results38,go_sem,a0,a1,a2,a3,a4,a5];rfl) rfl ?_;exact⟨below6 HT3.out.below (uA _) _ _ _ _ _ _,Or.inl ⟨HNO.out,_,_,_,_,_,_,_,_,rfl⟩⟩
           | true=>
            by_cases hk:k=4
            ·subst hk;have hno:refRd (B s)=none:=by
              rw[HFT.out,HL.out.2.2,rt_full (by rw[←size_B];exact hql)];rfl
             have HNO:=hide hno;have HT3:=hide (HL.out.1.drewN n4);clear hno HL;go_wp2_with fail
             refine bodyPost_ret (v:=.tuple #[rsm nb K v wbb (1000) (.slice sa sl sc),.bool false]) (by simp[results,Tryz.results38,go_sem,a0,a1,a2,a3,a4,a5];rfl) rfl ?_;exact⟨below6 HT3.out.below (uA _) _ _ _ _ _ _,Or.inl ⟨HNO.out,_,_,_,_,_,_,_,_,rfl⟩⟩
            ·have hkz:¬(4:Int)≤(k:Int):=by omega
             go_wp2_with fail
             refine(insert (w.heap.size+2) (.slice sa sl sc) acc tb (wr.drewN n4) HL.out.2.1 (by omega)).mono ?_;rintro e w3 ⟨⟨tv2,rfl,hst2⟩,hb3⟩;obtain⟨sa2,sl2,sc2,rfl⟩:=hst2.shape;have hT3:=(HL.out.1.drewN n4).grow hb3;have e5:=hT3.own.cell 5 _ rfl;have f5:=hT3.own.frozen 5;have hrt:rtags (B s) 4 (p4+1) []=rtags (B s) (4 - (k+1)) q2 (ins (B tb) acc):=by
              rw[HL.out.2.2,show 4 - k=(4 - (k+1))+1 by omega,rt_on (by rw[←size_B];exact hql) (by rw[←HTB.out];exact hmd),←HTB.out,HQ2.out,size_B tb]
             have HST2:=hide hst2;have HT3:=hide hT3;have HRT:=hide hrt;have hwz:w.heap.size+2≤w3.heap.size:=hT3.own.lt;have HLZ:=hide (HL.out.1.own.lt);clear hst2 hT3 hrt hb3;go_wp2_with fail
             go_roundw
             case rel=>exact⟨k+1,q2,ins (B tb) acc,sa2,sl2,sc2,rfl,by go_num,by omega,hq2s,Nat.le_trans (ins_len _ _) (by omega),⟨HT3.out.tag _,(HST2.out.mono (Nat.succ_le_of_lt HLZ.out)).set (by omega) 5 _,HRT.out⟩⟩
             case measure=>simp[intOf];have:=HQ2.out;omega
          ·have hqlz:¬(q:Int)<(s.size:Int):=by omega
           have hsome:refRd (B s)=if lastOk (B s)=true then some ⟨B nb,K,v,x,1000,acc⟩ else none:=by
            rw[HFT.out,HL.out.2.2,rt_end (by rw[←size_B];exact hql)];rfl
           have HSOME:=hide hsome;have HT3:=hide HL.out.1;have HST3:=hide HL.out.2.1;have hsz1:1≤s.size:=by omega
           have hlst:=lastOk_eq hsz1;have HLST:=hide hlst;clear hsome HL hlst;by_cases l1:(s[s.size - 1].toNat:Int)=44
           ·have l1b:((s[s.size - 1].toNat:Int) != 44)=false:=by simpa using l1
            have hno:refRd (B s)=none:=by rw[HSOME.out,HLST.out,if_neg (by simp[l1])]
            have HNO:=hide hno;clear hno l1;go_wp2_with fail
            refine bodyPost_ret (v:=.tuple #[rsm nb K v wbb (1000) (.slice sa sl sc),.bool false]) (by simp[results,Tryz.results38,go_sem,a0,a1,a2,a3,a4,a5];rfl) rfl ?_;exact⟨below6 HT3.out.below (uA _) _ _ _ _ _ _,Or.inl ⟨HNO.out,_,_,_,_,_,_,_,_,rfl⟩⟩
           ·have l1b:((s[s.size - 1].toNat:Int) != 44)=true:=by simpa using l1
            by_cases l2:(s[s.size - 1].toNat:Int)=35
            ·have l2b:((s[s.size - 1].toNat:Int) != 35)=false:=by simpa using l2
             have hno:refRd (B s)=none:=by rw[HSOME.out,HLST.out,if_neg (by simp[l2])]
             have HNO:=hide hno;clear hno l1 l2;go_wp2_with fail
             refine bodyPost_ret (v:=.tuple #[rsm nb K v wbb (1000) (.slice sa sl sc),.bool false]) (by simp[results,Tryz.results38,go_sem,a0,a1,a2,a3,a4,a5];rfl) rfl ?_;exact⟨below6 HT3.out.below (uA _) _ _ _ _ _ _,Or.inl ⟨HNO.out,_,_,_,_,_,_,_,_,rfl⟩⟩
            ·have l2b:((s[s.size - 1].toNat:Int) != 35)=true:=by simpa using l2
             have hok:refRd (B s)=some ⟨B nb,K,v,x,1000,acc⟩:=by rw[HSOME.out,HLST.out,if_pos (by simp[l1,l2])]
             have HOK:=hide hok;clear hok l1 l2;go_wp2_with fail
             refine bodyPost_ret (v:=.tuple #[rsm nb K v wbb (1000) (.slice sa sl sc),.bool true]) (by simp[results,Tryz.results38,go_sem,a0,a1,a2,a3,a4,a5];rfl) rfl ?_;refine⟨below6 HT3.out.below (uA _) _ _ _ _ _ _,Or.inr ⟨_,nb,wbb,_,HOK.out,rfl,HWB.out,?_,rfl⟩⟩;exact((((((HST3.out.set (by omega) 0 _).set (by omega) 1 _).set (by omega) 2 _).set (by omega) 3 _).set (by omega) 4 _).set (by omega) 5 _).mono (by omega)
        ·have hno:refRd (B s)=none:=by rw[HF.out,fin_no HX.out hpl h35]
         have HNO:=hide hno;by_cases hq1:p4+1<s.size
         ·have hq2:¬(s[p4+1].toNat:Int)=35:=fun h=>h35 (get_at hq1 h)
          have hq1z:¬(s.size:Int)≤(p4:Int)+1:=by omega
          have hq2b:((s[p4+1].toNat:Int) != 35)=true:=by simpa using hq2
          clear hno h35 hq2 hpl HF HX;go_wp2_with fail
          refine bodyPost_ret (v:=.tuple #[rsm nb K v wbb (1000) (.slice none 0 0),.bool false]) (by simp[results,Tryz.results38,go_sem,a0,a1,a2,a3,a4,a5];rfl) rfl ?_;exact⟨below6 HT2.out.below (uA _) _ _ _ _ _ _,Or.inl ⟨HNO.out,_,_,_,_,_,_,_,_,rfl⟩⟩
         ·have hq1z:(s.size:Int)≤(p4:Int)+1:=by omega
          clear hno h35 hpl HF HX;go_wp2_with fail
          refine bodyPost_ret (v:=.tuple #[rsm nb K v wbb (1000) (.slice none 0 0),.bool false]) (by simp[results,Tryz.results38,go_sem,a0,a1,a2,a3,a4,a5];rfl) rfl ?_;exact⟨below6 HT2.out.below (uA _) _ _ _ _ _ _,Or.inl ⟨HNO.out,_,_,_,_,_,_,_,_,rfl⟩⟩
       ·have hpez:(s.size:Int)≤(p4:Int):=by omega
        have hok:refRd (B s)=some ⟨B nb,K,v,x,1000,[]⟩:=by rw[HF.out,fin_end HX.out (by rw[←size_B];exact hpe)]
        have HOK:=hide hok;clear hok HF HX;go_wp2_with fail
        refine bodyPost_ret (v:=.tuple #[rsm nb K v wbb (1000) (.slice none 0 0),.bool true]) (by simp[results,Tryz.results38,go_sem,a0,a1,a2,a3,a4,a5];rfl) rfl ?_;exact⟨below6 HT2.out.below (uA _) _ _ _ _ _ _,Or.inr ⟨_,nb,wbb,_,HOK.out,rfl,HWB.out,Or.inl ⟨rfl,rfl⟩,rfl⟩⟩
     | false=>
      by_cases l3:qb.size<3
      ·have l3z:(qb.size:Int)<3:=by omega
       have hno:refRd (B s)=none:=by rw[HV2.out,opt_bad HAT.out (by rw[←HQ.out];exact rok_bad q1 (Or.inl (by rw[←size_B];exact l3)))]
       have HNO:=hide hno;have HTX:=hide ((H2.out.drewN (n2+n3+n5)).rate (.int .i64 (refNum (B qb))));clear hno HV2 HAT HQ HP4;go_wp2_with fail
       refine bodyPost_ret (v:=.tuple #[rsm nb 0 0 ⟨#[]⟩ (refNum (B qb)) (.slice none 0 0),.bool false]) (by simp[results,Tryz.results38,go_sem,a0,a1,a2,a3,a4,a5];rfl) rfl ?_;exact⟨below6 HTX.out.below (uA _) _ _ _ _ _ _,Or.inl ⟨HNO.out,_,_,_,_,_,_,_,_,rfl⟩⟩
      ·have l3z:¬(qb.size:Int)<3:=by omega
       have i0:0<qb.size:=by omega
       have i1:1<qb.size:=by omega
       by_cases d0:(qb[0].toNat:Int)=48
       ·have d0b:((qb[0].toNat:Int) != 48)=false:=by simpa using d0
        by_cases d1:(qb[1].toNat:Int)=46
        ·have d1b:((qb[1].toNat:Int) != 46)=false:=by simpa using d1
         by_cases dn:refNum (B qb)<1
         ·have hno:refRd (B s)=none:=by rw[HV2.out,opt_bad HAT.out (by rw[←HQ.out];exact rok_bad q1 (Or.inr (Or.inr (Or.inr dn))))]
          have HNO:=hide hno;have HTX:=hide ((H2.out.drewN (n2+n3+n5)).rate (.int .i64 (refNum (B qb))));clear hno HV2 HAT HQ HP4;clear d0 d1;go_wp2_with fail
          refine bodyPost_ret (v:=.tuple #[rsm nb 0 0 ⟨#[]⟩ (refNum (B qb)) (.slice none 0 0),.bool false]) (by simp[results,Tryz.results38,go_sem,a0,a1,a2,a3,a4,a5];rfl) rfl ?_;exact⟨below6 HTX.out.below (uA _) _ _ _ _ _ _,Or.inl ⟨HNO.out,_,_,_,_,_,_,_,_,rfl⟩⟩
         ·have hF:refRd (B s)=fin (B s) (B nb) (B vb) (B kd) true (refNum (B qb)) p4:=by rw[HV2.out,opt_rated (p4:=p4) HAT.out HQ.out (by rw[HP4.out,size_B qb]) (rok_good q1 (by rw[←size_B];exact l3) (get_at i0 d0) (get_at i1 d1) dn)]
          have HF:=hide hF;have hTx:=(H2.out.drewN (n2+n3+n5)).rate (.int .i64 (refNum (B qb)));clear hF HV2 HAT HQ HP4 d0 d1;go_wp2_with fail
          refine(Refvj.valued (w.heap.size+1) vb kd true (by omega) (.string nb) (.int .i64 (refNum (B qb))) (.slice none 0 0) _ hTx.own).mono ?_;rintro e w2 ⟨hb2,⟨hx,rfl,K,v,wbb,hS2⟩|⟨K,v,x,hx,rfl,wbb,hwb,hS2⟩⟩
          ·have hT2:Two w w2 _:=⟨hTx.below.trans (hb2.below (by omega) hTx.below.size),hTx.res.but hb2 (by omega),hS2⟩;clear a0 a1 a2 a3 a4 a5 z0 z1 z2 z3 z4 z5 c0 c1 c2 c3 c4 c5;obtain⟨a0,a1,a2,a3,a4,a5⟩:=cells6 hT2.res;obtain⟨z0,z1,z2,z3,z4,z5⟩:=frozen6 hT2.res;obtain⟨c0,c1,c2,c3,c4,c5⟩:=cells6 hT2.own;have hno:refRd (B s)=none:=by rw[HF.out,fin_none hx]
           have HNO:=hide hno;have HT2:=hide hT2;clear hT2 hno hx hb2 hS2;go_wp2_with fail
           refine bodyPost_ret (v:=.tuple #[rsm nb K v wbb (refNum (B qb)) (.slice none 0 0),.bool false]) (by simp[results,Tryz.results38,go_sem,a0,a1,a2,a3,a4,a5];rfl) rfl ?_;exact⟨below6 HT2.out.below (uA _) _ _ _ _ _ _,Or.inl ⟨HNO.out,_,_,_,_,_,_,_,_,rfl⟩⟩
          ·have hT2:Two w w2 _:=⟨hTx.below.trans (hb2.below (by omega) hTx.below.size),hTx.res.but hb2 (by omega),hS2⟩;clear a0 a1 a2 a3 a4 a5 z0 z1 z2 z3 z4 z5 c0 c1 c2 c3 c4 c5;obtain⟨a0,a1,a2,a3,a4,a5⟩:=cells6 hT2.res;obtain⟨z0,z1,z2,z3,z4,z5⟩:=frozen6 hT2.res;obtain⟨c0,c1,c2,c3,c4,c5⟩:=cells6 hT2.own;have HT2:=hide hT2;have HX:=hide hx;have HWB:=hide hwb;clear hT2 hx hb2 hS2 hwb;by_cases hpe:p4<s.size
           ·have hpez:¬(s.size:Int)≤(p4:Int):=by omega
            have hpl:p4<(B s).length:=by rw[←size_B];exact hpe
            by_cases h35:(B s)[p4+1]? = some 35
            ·have hft:=fin_tags (n:=B nb) (r:=refNum (B qb)) HX.out hpl h35;rw[←HF.out]at hft;have HFT:=hide hft;have hq1:p4+1<s.size:=by
              rw[size_B];exact(uB.1 h35).1
             have hq2:(s[p4+1].toNat:Int)=35:=by
              rw[B_get hq1]at h35;injection h35 with e;rw[e];rfl
             have hq1z:¬(s.size:Int)≤(p4:Int)+1:=by omega
             have hq2b:((s[p4+1].toNat:Int) != 35)=false:=by simpa using hq2
             clear hft h35 hq2 hpl HF HX;go_wp2_with fail
             go_loopw [6,12] (fun s6 s12 wr=>∃(k q:Nat) (acc:List (List UInt8)) (sa:Option Addr) (sl sc:Nat),s6=.int .i64 (q:Int)∧s12=.int .i64 (k:Int)∧k≤4∧q≤s.size∧acc.length≤k∧Hid (Two w wr #[.string nb,.int .u8 K,.int .i64 v,.string wbb,.int .i64 (refNum (B qb)),.slice sa sl sc]∧Strs (w.heap.size+2) wr (.slice sa sl sc) acc∧rtags (B s) 4 (p4+1) []=rtags (B s) (4 - k) q acc))
              (fun s6 _ _=>s.size - (intOf s6).toNat)
             case atStart=>exact⟨0,p4+1,[],none,0,0,rfl,rfl,by omega,by omega,by simp,⟨HT2.out,Or.inl ⟨rfl,rfl⟩,rfl⟩⟩
             case round=>
              clear a0 a1 a2 a3 a4 a5 z0 z1 z2 z3 z4 z5 c0 c1 c2 c3 c4 c5;obtain⟨k,q,acc,sa,sl,sc,rfl,rfl,hk4,hqs,hal,HL⟩:=hrel;have hTl:=HL.out.1;obtain⟨a0,a1,a2,a3,a4,a5⟩:=cells6 hTl.res;obtain⟨z0,z1,z2,z3,z4,z5⟩:=frozen6 hTl.res;obtain⟨c0,c1,c2,c3,c4,c5⟩:=cells6 hTl.own;have y5:=hTl.own.frozen 5;clear hTl;by_cases hql:q<s.size
              ·have hqlz:(q:Int)<(s.size:Int):=by omega
               go_wp2_with fail
               refine(upTo1 s ⟨#[44]⟩ q (by omega) hs (by decide) _).mono ?_;rintro e w' ⟨⟨tb,q2,rfl,htb,hq2,hq2s⟩,n4,rfl⟩;have HTB:Hid (B tb=tw [44] ((B s).drop (q+1))):=htb;have HQ2:=hide hq2;have htz:tb.size≤s.size:=by omega
               clear htb hq2;go_wp2_with fail
               refine(word_f tb 8 (by omega) _).mono ?_;rintro e w' ⟨rfl,rfl⟩;cases hmd:made let_ 8 (B tb) with
               | false=>
                have hno:refRd (B s)=none:=by
                 rw[HFT.out,HL.out.2.2,rt_bad (by rw[←size_B];exact hql) (by rw[←HTB.out];exact hmd)];rfl
                have HNO:=hide hno;have HT3:=hide (HL.out.1.drewN n4);clear hno HL;go_wp2_with fail
                refine bodyPost_ret (v:=.tuple #[rsm nb K v wbb (refNum (B qb)) (.slice sa sl sc),.bool false]) (by simp[results,Tryz.results38,go_sem,a0,a1,a2,a3,a4,a5];rfl) rfl ?_;exact⟨below6 HT3.out.below (uA _) _ _ _ _ _ _,Or.inl ⟨HNO.out,_,_,_,_,_,_,_,_,rfl⟩⟩
               | true=>
                by_cases hk:k=4
                ·subst hk;have hno:refRd (B s)=none:=by
                  rw[HFT.out,HL.out.2.2,rt_full (by rw[←size_B];exact hql)];rfl
                 have HNO:=hide hno;have HT3:=hide (HL.out.1.drewN n4);clear hno HL;go_wp2_with fail
                 refine bodyPost_ret (v:=.tuple #[rsm nb K v wbb (refNum (B qb)) (.slice sa sl sc),.bool false]) (by simp[results,Tryz.results38,go_sem,a0,a1,a2,a3,a4,a5];rfl) rfl ?_;exact⟨below6 HT3.out.below (uA _) _ _ _ _ _ _,Or.inl ⟨HNO.out,_,_,_,_,_,_,_,_,rfl⟩⟩
                ·have hkz:¬(4:Int)≤(k:Int):=by omega
                 go_wp2_with fail
                 refine(insert (w.heap.size+2) (.slice sa sl sc) acc tb (wr.drewN n4) HL.out.2.1 (by omega)).mono ?_;rintro e w3 ⟨⟨tv2,rfl,hst2⟩,hb3⟩;obtain⟨sa2,sl2,sc2,rfl⟩:=hst2.shape;have hT3:=(HL.out.1.drewN n4).grow hb3;have e5:=hT3.own.cell 5 _ rfl;have f5:=hT3.own.frozen 5;have hrt:rtags (B s) 4 (p4+1) []=rtags (B s) (4 - (k+1)) q2 (ins (B tb) acc):=by
                  rw[HL.out.2.2,show 4 - k=(4 - (k+1))+1 by omega,rt_on (by rw[←size_B];exact hql) (by rw[←HTB.out];exact hmd),←HTB.out,HQ2.out,size_B tb]
                 have HST2:=hide hst2;have HT3:=hide hT3;have HRT:=hide hrt;have hwz:w.heap.size+2≤w3.heap.size:=hT3.own.lt;have HLZ:=hide (HL.out.1.own.lt);clear hst2 hT3 hrt hb3;go_wp2_with fail
                 go_roundw
                 case rel=>exact⟨k+1,q2,ins (B tb) acc,sa2,sl2,sc2,rfl,by go_num,by omega,hq2s,Nat.le_trans (ins_len _ _) (by omega),⟨HT3.out.tag _,(HST2.out.mono (Nat.succ_le_of_lt HLZ.out)).set (by omega) 5 _,HRT.out⟩⟩
                 case measure=>simp[intOf];have:=HQ2.out;omega
              ·have hqlz:¬(q:Int)<(s.size:Int):=by omega
               have hsome:refRd (B s)=if lastOk (B s)=true then some ⟨B nb,K,v,x,refNum (B qb),acc⟩ else none:=by
                rw[HFT.out,HL.out.2.2,rt_end (by rw[←size_B];exact hql)];rfl
               have HSOME:=hide hsome;have HT3:=hide HL.out.1;have HST3:=hide HL.out.2.1;have hsz1:1≤s.size:=by omega
               have hlst:=lastOk_eq hsz1;have HLST:=hide hlst;clear hsome HL hlst;by_cases l1:(s[s.size - 1].toNat:Int)=44
               ·have l1b:((s[s.size - 1].toNat:Int) != 44)=false:=by simpa using l1
                have hno:refRd (B s)=none:=by rw[HSOME.out,HLST.out,if_neg (by simp[l1])]
                have HNO:=hide hno;clear hno l1;go_wp2_with fail
                refine bodyPost_ret (v:=.tuple #[rsm nb K v wbb (refNum (B qb)) (.slice sa sl sc),.bool false]) (by simp[results,Tryz.results38,go_sem,a0,a1,a2,a3,a4,a5];rfl) rfl ?_;exact⟨below6 HT3.out.below (uA _) _ _ _ _ _ _,Or.inl ⟨HNO.out,_,_,_,_,_,_,_,_,rfl⟩⟩
               ·have l1b:((s[s.size - 1].toNat:Int) != 44)=true:=by simpa using l1
                by_cases l2:(s[s.size - 1].toNat:Int)=35
                ·have l2b:((s[s.size - 1].toNat:Int) != 35)=false:=by simpa using l2
                 have hno:refRd (B s)=none:=by rw[HSOME.out,HLST.out,if_neg (by simp[l2])]
                 have HNO:=hide hno;clear hno l1 l2;go_wp2_with fail
                 refine bodyPost_ret (v:=.tuple #[rsm nb K v wbb (refNum (B qb)) (.slice sa sl sc),.bool false]) (by simp[results,Tryz.results38,go_sem,a0,a1,a2,a3,a4,a5];rfl) rfl ?_;exact⟨below6 HT3.out.below (uA _) _ _ _ _ _ _,Or.inl ⟨HNO.out,_,_,_,_,_,_,_,_,rfl⟩⟩
                ·have l2b:((s[s.size - 1].toNat:Int) != 35)=true:=by simpa using l2
                 have hok:refRd (B s)=some ⟨B nb,K,v,x,refNum (B qb),acc⟩:=by rw[HSOME.out,HLST.out,if_pos (by simp[l1,l2])]
                 have HOK:=hide hok;clear hok l1 l2;go_wp2_with fail
                 refine bodyPost_ret (v:=.tuple #[rsm nb K v wbb (refNum (B qb)) (.slice sa sl sc),.bool true]) (by simp[results,Tryz.results38,go_sem,a0,a1,a2,a3,a4,a5];rfl) rfl ?_;refine⟨below6 HT3.out.below (uA _) _ _ _ _ _ _,Or.inr ⟨_,nb,wbb,_,HOK.out,rfl,HWB.out,?_,rfl⟩⟩;exact((((((HST3.out.set (by omega) 0 _).set (by omega) 1 _).set (by omega) 2 _).set (by omega) 3 _).set (by omega) 4 _).set (by omega) 5 _).mono (by omega)
            ·have hno:refRd (B s)=none:=by rw[HF.out,fin_no HX.out hpl h35]
             have HNO:=hide hno;by_cases hq1:p4+1<s.size
             ·have hq2:¬(s[p4+1].toNat:Int)=35:=fun h=>h35 (get_at hq1 h)
              have hq1z:¬(s.size:Int)≤(p4:Int)+1:=by omega
              have hq2b:((s[p4+1].toNat:Int) != 35)=true:=by simpa using hq2
              clear hno h35 hq2 hpl HF HX;go_wp2_with fail
              refine bodyPost_ret (v:=.tuple #[rsm nb K v wbb (refNum (B qb)) (.slice none 0 0),.bool false]) (by simp[results,Tryz.results38,go_sem,a0,a1,a2,a3,a4,a5];rfl) rfl ?_;exact⟨below6 HT2.out.below (uA _) _ _ _ _ _ _,Or.inl ⟨HNO.out,_,_,_,_,_,_,_,_,rfl⟩⟩
             ·have hq1z:(s.size:Int)≤(p4:Int)+1:=by omega
              clear hno h35 hpl HF HX;go_wp2_with fail
              refine bodyPost_ret (v:=.tuple #[rsm nb K v wbb (refNum (B qb)) (.slice none 0 0),.bool false]) (by simp[results,Tryz.results38,go_sem,a0,a1,a2,a3,a4,a5];rfl) rfl ?_;exact⟨below6 HT2.out.below (uA _) _ _ _ _ _ _,Or.inl ⟨HNO.out,_,_,_,_,_,_,_,_,rfl⟩⟩
           ·have hpez:(s.size:Int)≤(p4:Int):=by omega
            have hok:refRd (B s)=some ⟨B nb,K,v,x,refNum (B qb),[]⟩:=by rw[HF.out,fin_end HX.out (by rw[←size_B];exact hpe)]
            have HOK:=hide hok;clear hok HF HX;go_wp2_with fail
            refine bodyPost_ret (v:=.tuple #[rsm nb K v wbb (refNum (B qb)) (.slice none 0 0),.bool true]) (by simp[results,Tryz.results38,go_sem,a0,a1,a2,a3,a4,a5];rfl) rfl ?_;exact⟨below6 HT2.out.below (uA _) _ _ _ _ _ _,Or.inr ⟨_,nb,wbb,_,HOK.out,rfl,HWB.out,Or.inl ⟨rfl,rfl⟩,rfl⟩⟩
        ·have d1b:((qb[1].toNat:Int) != 46)=true:=by simpa using d1
         have hno:refRd (B s)=none:=by rw[HV2.out,opt_bad HAT.out (by rw[←HQ.out];exact rok_bad q1 (Or.inr (Or.inr (Or.inl (not_at i1 d1)))))]
         have HNO:=hide hno;have HTX:=hide ((H2.out.drewN (n2+n3+n5)).rate (.int .i64 (refNum (B qb))));clear hno HV2 HAT HQ HP4;clear d0 d1;go_wp2_with fail
         refine bodyPost_ret (v:=.tuple #[rsm nb 0 0 ⟨#[]⟩ (refNum (B qb)) (.slice none 0 0),.bool false]) (by simp[results,Tryz.results38,go_sem,a0,a1,a2,a3,a4,a5];rfl) rfl ?_;exact⟨below6 HTX.out.below (uA _) _ _ _ _ _ _,Or.inl ⟨HNO.out,_,_,_,_,_,_,_,_,rfl⟩⟩
       ·have d0b:((qb[0].toNat:Int) != 48)=true:=by simpa using d0
        have hno:refRd (B s)=none:=by rw[HV2.out,opt_bad HAT.out (by rw[←HQ.out];exact rok_bad q1 (Or.inr (Or.inl (not_at i0 d0))))]
        have HNO:=hide hno;have HTX:=hide ((H2.out.drewN (n2+n3+n5)).rate (.int .i64 (refNum (B qb))));clear hno HV2 HAT HQ HP4;clear d0;go_wp2_with fail
        refine bodyPost_ret (v:=.tuple #[rsm nb 0 0 ⟨#[]⟩ (refNum (B qb)) (.slice none 0 0),.bool false]) (by simp[results,Tryz.results38,go_sem,a0,a1,a2,a3,a4,a5];rfl) rfl ?_;exact⟨below6 HTX.out.below (uA _) _ _ _ _ _ _,Or.inl ⟨HNO.out,_,_,_,_,_,_,_,_,rfl⟩⟩
    ·have hF:refRd (B s)=fin (B s) (B nb) (B vb) (B kd) false 1000 p3:=by rw[HV2.out,opt_plain hat]
     have HF:=hide hF;have hTx:=H2.out.drewN (n2+n3);by_cases hr1:p3+1<s.size
     ·have hr2:¬(s[p3+1].toNat:Int)=64:=fun h=>hat (get_at hr1 h)
      have hr1z:(p3:Int)+1<(s.size:Int):=by omega
      have hr2b:((s[p3+1].toNat:Int)==64)=false:=by simpa using hr2
      clear hF hat hr2 HV2;go_wp2_with fail
      refine(Refvj.valued (w.heap.size+1) vb kd false (by omega) (.string nb) (.int .i64 (1000)) (.slice none 0 0) _ hTx.own).mono ?_;rintro e w2 ⟨hb2,⟨hx,rfl,K,v,wbb,hS2⟩|⟨K,v,x,hx,rfl,wbb,hwb,hS2⟩⟩
      ·have hT2:Two w w2 _:=⟨hTx.below.trans (hb2.below (by omega) hTx.below.size),hTx.res.but hb2 (by omega),hS2⟩;clear a0 a1 a2 a3 a4 a5 z0 z1 z2 z3 z4 z5 c0 c1 c2 c3 c4 c5;obtain⟨a0,a1,a2,a3,a4,a5⟩:=cells6 hT2.res;obtain⟨z0,z1,z2,z3,z4,z5⟩:=frozen6 hT2.res;obtain⟨c0,c1,c2,c3,c4,c5⟩:=cells6 hT2.own;have hno:refRd (B s)=none:=by rw[HF.out,fin_none hx]
       have HNO:=hide hno;have HT2:=hide hT2;clear hT2 hno hx hb2 hS2;go_wp2_with fail
       refine bodyPost_ret (v:=.tuple #[rsm nb K v wbb (1000) (.slice none 0 0),.bool false]) (by simp[results,Tryz.results38,go_sem,a0,a1,a2,a3,a4,a5];rfl) rfl ?_;exact⟨below6 HT2.out.below (uA _) _ _ _ _ _ _,Or.inl ⟨HNO.out,_,_,_,_,_,_,_,_,rfl⟩⟩
      ·have hT2:Two w w2 _:=⟨hTx.below.trans (hb2.below (by omega) hTx.below.size),hTx.res.but hb2 (by omega),hS2⟩;clear a0 a1 a2 a3 a4 a5 z0 z1 z2 z3 z4 z5 c0 c1 c2 c3 c4 c5;obtain⟨a0,a1,a2,a3,a4,a5⟩:=cells6 hT2.res;obtain⟨z0,z1,z2,z3,z4,z5⟩:=frozen6 hT2.res;obtain⟨c0,c1,c2,c3,c4,c5⟩:=cells6 hT2.own;have HT2:=hide hT2;have HX:=hide hx;have HWB:=hide hwb;clear hT2 hx hb2 hS2 hwb;by_cases hpe:p3<s.size
       ·have hpez:¬(s.size:Int)≤(p3:Int):=by omega
        have hpl:p3<(B s).length:=by rw[←size_B];exact hpe
        by_cases h35:(B s)[p3+1]? = some 35
        ·have hft:=fin_tags (n:=B nb) (r:=1000) HX.out hpl h35;rw[←HF.out]at hft;have HFT:=hide hft;have hq1:p3+1<s.size:=by
          rw[size_B];exact(uB.1 h35).1
         have hq2:(s[p3+1].toNat:Int)=35:=by
          rw[B_get hq1]at h35;injection h35 with e;rw[e];rfl
         have hq1z:¬(s.size:Int)≤(p3:Int)+1:=by omega
         have hq2b:((s[p3+1].toNat:Int) != 35)=false:=by simpa using hq2
         clear hft h35 hq2 hpl HF HX;go_wp2_with fail
         go_loopw [6,12] (fun s6 s12 wr=>∃(k q:Nat) (acc:List (List UInt8)) (sa:Option Addr) (sl sc:Nat),s6=.int .i64 (q:Int)∧s12=.int .i64 (k:Int)∧k≤4∧q≤s.size∧acc.length≤k∧Hid (Two w wr #[.string nb,.int .u8 K,.int .i64 v,.string wbb,.int .i64 (1000),.slice sa sl sc]∧Strs (w.heap.size+2) wr (.slice sa sl sc) acc∧rtags (B s) 4 (p3+1) []=rtags (B s) (4 - k) q acc))
          (fun s6 _ _=>s.size - (intOf s6).toNat)
         case atStart=>exact⟨0,p3+1,[],none,0,0,rfl,rfl,by omega,by omega,by simp,⟨HT2.out,Or.inl ⟨rfl,rfl⟩,rfl⟩⟩
         case round=>
          clear a0 a1 a2 a3 a4 a5 z0 z1 z2 z3 z4 z5 c0 c1 c2 c3 c4 c5;obtain⟨k,q,acc,sa,sl,sc,rfl,rfl,hk4,hqs,hal,HL⟩:=hrel;have hTl:=HL.out.1;obtain⟨a0,a1,a2,a3,a4,a5⟩:=cells6 hTl.res;obtain⟨z0,z1,z2,z3,z4,z5⟩:=frozen6 hTl.res;obtain⟨c0,c1,c2,c3,c4,c5⟩:=cells6 hTl.own;have y5:=hTl.own.frozen 5;clear hTl;by_cases hql:q<s.size
          ·have hqlz:(q:Int)<(s.size:Int):=by omega
           go_wp2_with fail
           refine(upTo1 s ⟨#[44]⟩ q (by omega) hs (by decide) _).mono ?_;rintro e w' ⟨⟨tb,q2,rfl,htb,hq2,hq2s⟩,n4,rfl⟩;have HTB:Hid (B tb=tw [44] ((B s).drop (q+1))):=htb;have HQ2:=hide hq2;have htz:tb.size≤s.size:=by omega
           clear htb hq2;go_wp2_with fail
           refine(word_f tb 8 (by omega) _).mono ?_;rintro e w' ⟨rfl,rfl⟩;cases hmd:made let_ 8 (B tb) with
           | false=>
            have hno:refRd (B s)=none:=by
             rw[HFT.out,HL.out.2.2,rt_bad (by rw[←size_B];exact hql) (by rw[←HTB.out];exact hmd)];rfl
            have HNO:=hide hno;have HT3:=hide (HL.out.1.drewN n4);clear hno HL;go_wp2_with fail
            refine bodyPost_ret (v:=.tuple #[rsm nb K v wbb (1000) (.slice sa sl sc),.bool false]) (by simp[results,Tryz.results38,go_sem,a0,a1,a2,a3,a4,a5];rfl) rfl ?_;exact⟨below6 HT3.out.below (uA _) _ _ _ _ _ _,Or.inl ⟨HNO.out,_,_,_,_,_,_,_,_,rfl⟩⟩
           | true=>
            by_cases hk:k=4
            ·subst hk;have hno:refRd (B s)=none:=by
              rw[HFT.out,HL.out.2.2,rt_full (by rw[←size_B];exact hql)];rfl
             have HNO:=hide hno;have HT3:=hide (HL.out.1.drewN n4);clear hno HL;go_wp2_with fail
             refine bodyPost_ret (v:=.tuple #[rsm nb K v wbb (1000) (.slice sa sl sc),.bool false]) (by simp[results,Tryz.results38,go_sem,a0,a1,a2,a3,a4,a5];rfl) rfl ?_;exact⟨below6 HT3.out.below (uA _) _ _ _ _ _ _,Or.inl ⟨HNO.out,_,_,_,_,_,_,_,_,rfl⟩⟩
            ·have hkz:¬(4:Int)≤(k:Int):=by omega
             go_wp2_with fail
             refine(insert (w.heap.size+2) (.slice sa sl sc) acc tb (wr.drewN n4) HL.out.2.1 (by omega)).mono ?_;rintro e w3 ⟨⟨tv2,rfl,hst2⟩,hb3⟩;obtain⟨sa2,sl2,sc2,rfl⟩:=hst2.shape;have hT3:=(HL.out.1.drewN n4).grow hb3;have e5:=hT3.own.cell 5 _ rfl;have f5:=hT3.own.frozen 5;have hrt:rtags (B s) 4 (p3+1) []=rtags (B s) (4 - (k+1)) q2 (ins (B tb) acc):=by
              rw[HL.out.2.2,show 4 - k=(4 - (k+1))+1 by omega,rt_on (by rw[←size_B];exact hql) (by rw[←HTB.out];exact hmd),←HTB.out,HQ2.out,size_B tb]
             have HST2:=hide hst2;have HT3:=hide hT3;have HRT:=hide hrt;have hwz:w.heap.size+2≤w3.heap.size:=hT3.own.lt;have HLZ:=hide (HL.out.1.own.lt);clear hst2 hT3 hrt hb3;go_wp2_with fail
             go_roundw
             case rel=>exact⟨k+1,q2,ins (B tb) acc,sa2,sl2,sc2,rfl,by go_num,by omega,hq2s,Nat.le_trans (ins_len _ _) (by omega),⟨HT3.out.tag _,(HST2.out.mono (Nat.succ_le_of_lt HLZ.out)).set (by omega) 5 _,HRT.out⟩⟩
             case measure=>simp[intOf];have:=HQ2.out;omega
          ·have hqlz:¬(q:Int)<(s.size:Int):=by omega
           have hsome:refRd (B s)=if lastOk (B s)=true then some ⟨B nb,K,v,x,1000,acc⟩ else none:=by
            rw[HFT.out,HL.out.2.2,rt_end (by rw[←size_B];exact hql)];rfl
           have HSOME:=hide hsome;have HT3:=hide HL.out.1;have HST3:=hide HL.out.2.1;have hsz1:1≤s.size:=by omega
           have hlst:=lastOk_eq hsz1;have HLST:=hide hlst;clear hsome HL hlst;by_cases l1:(s[s.size - 1].toNat:Int)=44
           ·have l1b:((s[s.size - 1].toNat:Int) != 44)=false:=by simpa using l1
            have hno:refRd (B s)=none:=by rw[HSOME.out,HLST.out,if_neg (by simp[l1])]
            have HNO:=hide hno;clear hno l1;go_wp2_with fail
            refine bodyPost_ret (v:=.tuple #[rsm nb K v wbb (1000) (.slice sa sl sc),.bool false]) (by simp[results,Tryz.results38,go_sem,a0,a1,a2,a3,a4,a5];rfl) rfl ?_;exact⟨below6 HT3.out.below (uA _) _ _ _ _ _ _,Or.inl ⟨HNO.out,_,_,_,_,_,_,_,_,rfl⟩⟩
           ·have l1b:((s[s.size - 1].toNat:Int) != 44)=true:=by simpa using l1
            by_cases l2:(s[s.size - 1].toNat:Int)=35
            ·have l2b:((s[s.size - 1].toNat:Int) != 35)=false:=by simpa using l2
             have hno:refRd (B s)=none:=by rw[HSOME.out,HLST.out,if_neg (by simp[l2])]
             have HNO:=hide hno;clear hno l1 l2;go_wp2_with fail
             refine bodyPost_ret (v:=.tuple #[rsm nb K v wbb (1000) (.slice sa sl sc),.bool false]) (by simp[results,Tryz.results38,go_sem,a0,a1,a2,a3,a4,a5];rfl) rfl ?_;exact⟨below6 HT3.out.below (uA _) _ _ _ _ _ _,Or.inl ⟨HNO.out,_,_,_,_,_,_,_,_,rfl⟩⟩
            ·have l2b:((s[s.size - 1].toNat:Int) != 35)=true:=by simpa using l2
             have hok:refRd (B s)=some ⟨B nb,K,v,x,1000,acc⟩:=by rw[HSOME.out,HLST.out,if_pos (by simp[l1,l2])]
             have HOK:=hide hok;clear hok l1 l2;go_wp2_with fail
             refine bodyPost_ret (v:=.tuple #[rsm nb K v wbb (1000) (.slice sa sl sc),.bool true]) (by simp[results,Tryz.results38,go_sem,a0,a1,a2,a3,a4,a5];rfl) rfl ?_;refine⟨below6 HT3.out.below (uA _) _ _ _ _ _ _,Or.inr ⟨_,nb,wbb,_,HOK.out,rfl,HWB.out,?_,rfl⟩⟩;exact((((((HST3.out.set (by omega) 0 _).set (by omega) 1 _).set (by omega) 2 _).set (by omega) 3 _).set (by omega) 4 _).set (by omega) 5 _).mono (by omega)
        ·have hno:refRd (B s)=none:=by rw[HF.out,fin_no HX.out hpl h35]
         have HNO:=hide hno;by_cases hq1:p3+1<s.size
         ·have hq2:¬(s[p3+1].toNat:Int)=35:=fun h=>h35 (get_at hq1 h)
          have hq1z:¬(s.size:Int)≤(p3:Int)+1:=by omega
          have hq2b:((s[p3+1].toNat:Int) != 35)=true:=by simpa using hq2
          clear hno h35 hq2 hpl HF HX;go_wp2_with fail
          refine bodyPost_ret (v:=.tuple #[rsm nb K v wbb (1000) (.slice none 0 0),.bool false]) (by simp[results,Tryz.results38,go_sem,a0,a1,a2,a3,a4,a5];rfl) rfl ?_;exact⟨below6 HT2.out.below (uA _) _ _ _ _ _ _,Or.inl ⟨HNO.out,_,_,_,_,_,_,_,_,rfl⟩⟩
         ·exact absurd hr1 hq1
       ·exact absurd (by omega) hpe
     ·have hr1z:¬(p3:Int)+1<(s.size:Int):=by omega
      clear hF hat HV2;go_wp2_with fail
      refine(Refvj.valued (w.heap.size+1) vb kd false (by omega) (.string nb) (.int .i64 (1000)) (.slice none 0 0) _ hTx.own).mono ?_;rintro e w2 ⟨hb2,⟨hx,rfl,K,v,wbb,hS2⟩|⟨K,v,x,hx,rfl,wbb,hwb,hS2⟩⟩
      ·have hT2:Two w w2 _:=⟨hTx.below.trans (hb2.below (by omega) hTx.below.size),hTx.res.but hb2 (by omega),hS2⟩;clear a0 a1 a2 a3 a4 a5 z0 z1 z2 z3 z4 z5 c0 c1 c2 c3 c4 c5;obtain⟨a0,a1,a2,a3,a4,a5⟩:=cells6 hT2.res;obtain⟨z0,z1,z2,z3,z4,z5⟩:=frozen6 hT2.res;obtain⟨c0,c1,c2,c3,c4,c5⟩:=cells6 hT2.own;have hno:refRd (B s)=none:=by rw[HF.out,fin_none hx]
       have HNO:=hide hno;have HT2:=hide hT2;clear hT2 hno hx hb2 hS2;go_wp2_with fail
       refine bodyPost_ret (v:=.tuple #[rsm nb K v wbb (1000) (.slice none 0 0),.bool false]) (by simp[results,Tryz.results38,go_sem,a0,a1,a2,a3,a4,a5];rfl) rfl ?_;exact⟨below6 HT2.out.below (uA _) _ _ _ _ _ _,Or.inl ⟨HNO.out,_,_,_,_,_,_,_,_,rfl⟩⟩
      ·have hT2:Two w w2 _:=⟨hTx.below.trans (hb2.below (by omega) hTx.below.size),hTx.res.but hb2 (by omega),hS2⟩;clear a0 a1 a2 a3 a4 a5 z0 z1 z2 z3 z4 z5 c0 c1 c2 c3 c4 c5;obtain⟨a0,a1,a2,a3,a4,a5⟩:=cells6 hT2.res;obtain⟨z0,z1,z2,z3,z4,z5⟩:=frozen6 hT2.res;obtain⟨c0,c1,c2,c3,c4,c5⟩:=cells6 hT2.own;have HT2:=hide hT2;have HX:=hide hx;have HWB:=hide hwb;clear hT2 hx hb2 hS2 hwb;by_cases hpe:p3<s.size
       ·have hpez:¬(s.size:Int)≤(p3:Int):=by omega
        have hpl:p3<(B s).length:=by rw[←size_B];exact hpe
        by_cases h35:(B s)[p3+1]? = some 35
        ·exact absurd h35 (past_end hr1)
        ·have hno:refRd (B s)=none:=by rw[HF.out,fin_no HX.out hpl h35]
         have HNO:=hide hno;by_cases hq1:p3+1<s.size
         ·exact absurd hq1 hr1
         ·have hq1z:(s.size:Int)≤(p3:Int)+1:=by omega
          clear hno h35 hpl HF HX;go_wp2_with fail
          refine bodyPost_ret (v:=.tuple #[rsm nb K v wbb (1000) (.slice none 0 0),.bool false]) (by simp[results,Tryz.results38,go_sem,a0,a1,a2,a3,a4,a5];rfl) rfl ?_;exact⟨below6 HT2.out.below (uA _) _ _ _ _ _ _,Or.inl ⟨HNO.out,_,_,_,_,_,_,_,_,rfl⟩⟩
       ·have hpez:(s.size:Int)≤(p3:Int):=by omega
        have hok:refRd (B s)=some ⟨B nb,K,v,x,1000,[]⟩:=by rw[HF.out,fin_end HX.out (by rw[←size_B];exact hpe)]
        have HOK:=hide hok;clear hok HF HX;go_wp2_with fail
        refine bodyPost_ret (v:=.tuple #[rsm nb K v wbb (1000) (.slice none 0 0),.bool true]) (by simp[results,Tryz.results38,go_sem,a0,a1,a2,a3,a4,a5];rfl) rfl ?_;exact⟨below6 HT2.out.below (uA _) _ _ _ _ _ _,Or.inr ⟨_,nb,wbb,_,HOK.out,rfl,HWB.out,Or.inl ⟨rfl,rfl⟩,rfl⟩⟩
   ·have hltz2:(s.size:Int)≤(p2:Int):=by omega
    go_wp2_with fail
    refine bodyPost_ret (v:=.tuple #[rsm nb 0 0 ⟨#[]⟩ 1000 (.slice none 0 0),.bool false]) (by simp[results,Tryz.results38,go_sem,a0,a1,a2,a3,a4,a5];rfl) rfl ?_;exact⟨below6 (below_drewN' H2.out.below) (uA _) _ _ _ _ _ _,Or.inl ⟨by rw[HRD.out];exact val2_none (by have e:B vb=tw [124] ((B s).drop (nb.size+1)):=HV.out;rw[←size_B,←e,←size_B,←HP2.out];exact hlt2),_,_,_,_,_,_,_,_,rfl⟩⟩
  ·have hcb:((s[nb.size].toNat:Int) != 58)=true:=by simpa using hco
   have hno:=refRd_nocolon (l:=B s) (by rw[←hn,←size_B];exact not_at hlt hco);have HNO:=hide hno;clear hno hco;go_wp2_with fail
   go_returns
   exact⟨below6 (below_drewN' ((below_new _).alloc (by simp) _)) (uA _) _ _ _ _ _ _,Or.inl ⟨HNO.out,_,_,_,_,_,_,_,_,rfl⟩⟩
 ·have hltz:(s.size:Int)≤(nb.size:Int):=by omega
  have hno:=refRd_nocolon (l:=B s) (by rw[←hn,←size_B];exact past_end hlt);have HNO:=hide hno;clear hno;go_wp2_with fail
  go_returns
  exact⟨below6 (below_drewN' ((below_new _).alloc (by simp) _)) (uA _) _ _ _ _ _ _,Or.inl ⟨HNO.out,_,_,_,_,_,_,_,_,rfl⟩⟩
theorem read (s:ByteArray)(hs:s.size≤140737488355328)(w:World):
  Calls Tryz.prog 38 #[.string s] w fun e w'=>Said (B s) w e w':=by
 cases hm:made nam 16 (tw [58,124] (B s)) with
 | false=>exact read_noname s hs w hm
 | true=>exact read_named s hs w hm
end Go.Proofs.YtenegfafjjknoaaGreatDoor.Refr
