/- The document's window takes a datagram. The document's text of a window. The document's Sum. What the document keeps of a window, and what the program keeps: no Go in sight. -/
import Derived.Test.YtenegfafjjknoaaGreatDoorRtx
import Derived.Test.YtenegfafjjknoaaGreatDoorRefr
import Derived.Test.YtenegfafjjknoaaGreatDoorPlainpy
import Derived.Deep.RegionWith
import Derived.Test.YtenegfafjjknoaaGreatDoorSpnx
set_option maxHeartbeats 100000000
open List renaming mem_cons_self → uA, mem_map_of_mem → uB, getElem?_eq_some_iff → uC, getD_eq_getElem?_getD → uD, length_cons → uE, getElem?_eq_getElem → uF, foldl_append → uH, take_length → uI, take_of_length_le → uJ, length_append → uK, length_map → uL, length_singleton → uM, mem_map → uN, pairwise_cons → uO, take_add_one → uP, mem_cons → uR, mem_cons_of_mem → uS, append_nil → uT, flatMap_append → uU, foldl_map → uV, mem_singleton → uX, Pairwise → uY, getElem?_map → uZ, flatMap_cons → vA
open Nat renaming le_trans → uG, le_refl → uQ, zero_le → uW
namespace Go.Proofs.YtenegfafjjknoaaGreatDoor.Ra
open Go.RowKit Mem Foot Bytes Wm Im Refi Tagw Reft Refs Refr Refl Refw
def er (x:Sx):Sx:=⟨x.nb,x.K,x.v,x.wb,x.r,.slice none 0 0⟩
def erS (s:Rs3):Rs3:=⟨s.ks,s.ss.map (·.map er),s.drp⟩
theorem wordsOf_er (l:List Sx):wordsOf (l.map er)=wordsOf l:=by
 unfold wordsOf;rw[uV];rfl
theorem getD_er (ss:List (List Sx))(i:Nat):(ss.map (·.map er)).getD i []=(ss.getD i []).map er:=by
 rw[uD,uD,uZ];cases ss[i]? <;> rfl
theorem rin_er (sets:Nat)(x:Sx)(i:Nat)(s:Rs3):erS (rin sets x i s)=rin sets (er x) i (erS s):=by
 unfold rin;simp only[erS,getD_er,wordsOf_er];by_cases h:x.K=115∧B x.wb∉wordsOf (s.ss.getD i [])∧sets≤(wordsOf (s.ss.getD i [])).length
 ·rw[if_pos h,if_pos (show (er x).K=115∧¬B (er x).wb∈wordsOf (s.ss.getD i [])∧sets≤(wordsOf (s.ss.getD i [])).length from h)]
 ·rw[if_neg h,if_neg (show ¬((er x).K=115∧¬B (er x).wb∈wordsOf (s.ss.getD i [])∧sets≤(wordsOf (s.ss.getD i [])).length) from h)];simp only[List.map_set,List.map_append,List.map_cons,List.map_nil]
theorem rplace_er (key:List UInt8)(s:Rs3):erS (rplace key s)=rplace key (erS s):=by
 unfold rplace;have e:(erS s).ks=s.ks:=rfl;rw[e];by_cases h:pl key s.ks=s.ks.length
 ·rw[if_pos h,if_pos h];simp[erS]
 ·rw[if_neg h,if_neg h]
theorem rtake_er (series sets:Nat)(key:List UInt8)(x:Sx)(s:Rs3):erS (rtake series sets key x s)=rtake series sets key (er x) (erS s):=by
 unfold rtake;have e:(erS s).ks=s.ks:=rfl;rw[e];by_cases h:pl key s.ks=s.ks.length∧series≤s.ks.length
 ·rw[if_pos h,if_pos h];rfl
 ·rw[if_neg h,if_neg h,rin_er,rplace_er]
def sxOf (m:Rs):Sx:=⟨⟨m.name.toArray⟩,m.kind,m.value,⟨m.word.toArray⟩,m.rate,.slice none 0 0⟩
def rkey (m:Rs):List UInt8:=m.name++[124]++B (ty m.kind)++Plain.pt m.tags
def rline (series sets:Nat)(st:Rs3×Nat)(l:List UInt8):Rs3×Nat:=if l=[] then st else match refRd l with
 | none=>(st.1,st.2+1)
 | some m=>(rtake series sets (rkey m) (sxOf m) st.1,st.2)
def Okst (st:Rs3×Nat):Prop:=st.1.ks.length≤1000∧st.1.drp≤1000000000∧st.2≤1000000000∧∀(i:Nat) l,st.1.ss[i]? = some l→l.length≤10000000∧∀k,k≤l.length→(wordsOf (l.take k)).length≤1000
theorem ok_rows {s:Rs3}{rej:Nat}(h:Okst (erS s,rej)):∀(i:Nat) l,s.ss[i]? = some l→l.length≤10000000∧∀k,k≤l.length→(wordsOf (l.take k)).length≤1000:=by
 intro i l hl;have h1:=h.2.2.2 i (l.map er) (by show (s.ss.map _)[i]? = _;rw[uZ,hl];rfl);rw[uL]at h1;refine⟨h1.1,fun k hk=>?_⟩;have h2:=h1.2 k hk;rw[←List.map_take,wordsOf_er]at h2;exact h2
theorem lines_step (l:List UInt8):lines l=tw [10] l ::(if (tw [10] l).length<l.length then lines (l.drop ((tw [10] l).length+1)) else []):=by
 induction l with
 | nil=>rfl
 | cons c r ih=>
  by_cases hc:c=10
  ·subst hc;have e:tw [10] (10 ::r)=[]:=by simp[tw]
   rw[e,lines,if_pos rfl,if_pos (by simp)];rfl
  ·have e:tw [10] (c ::r)=c ::tw [10] r:=by
    unfold tw;rw[List.takeWhile_cons_of_pos (by simp[hc])]
   rw[e,lines,if_neg hc,ih];simp only[uE,List.drop_succ_cons]
   congr 1
   by_cases h:(tw [10] r).length<r.length
   ·rw[if_pos h,if_pos (by omega)]
   ·rw[if_neg h,if_neg (by omega)]
def LS (d:List UInt8)(p:Nat):List (List UInt8):=if p≤d.length then lines (d.drop p) else []
theorem LS_step {d:List UInt8}{p:Nat}(h:p≤d.length):LS d p=tw [10] (d.drop p) ::LS d (p+(tw [10] (d.drop p)).length+1):=by
 unfold LS;rw[if_pos h,lines_step]
 congr 1
 rw[List.length_drop];by_cases h2:(tw [10] (d.drop p)).length<d.length - p
 ·rw[if_pos h2,if_pos (by omega),List.drop_drop]
  congr 2
 ·rw[if_neg h2,if_neg (by omega)]
theorem fold_next {series sets:Nat}{st0:Rs3×Nat}{L:List (List UInt8)}{k:Nat}{x:List UInt8}{r:List (List UInt8)}(h:L.drop k=x ::r):(L.take (k+1)).foldl (rline series sets) st0=rline series sets ((L.take k).foldl (rline series sets) st0) x∧L.drop (k+1)=r∧k<L.length:=by
 have hk:k<L.length:=by
  rcases Nat.lt_or_ge k L.length with hk|hk
  ·exact hk
  ·rw[List.drop_eq_nil_of_le hk]at h;cases h
 have hx:L[k]? = some x:=by
  have:=congrArg (fun l=>l[0]?) h;simpa using this
 refine⟨?_,?_,hk⟩
 ·rw[uP,hx,uH,Option.toList_some,List.foldl_cons,List.foldl_nil]
 ·rw[←List.drop_drop,h,List.drop_succ_cons,List.drop_zero]
set_option maxRecDepth 10000 in
theorem takeD (w0:World)(b:Nat)(c:Fin 6→Int)(s:Rs3)(rej:Nat)(K S:Value)(vs:List Value)(d:ByteArray)(series sets:Nat)(hser:c 1=(series:Int))(hset:c 2=(sets:Int))(w:World)(h:Rw w0 w b c s.ks s.ss rej s.drp K S vs)(hw0:w0.heap.size≤w.heap.size)(hd:d.size≤1000000000)
  (hok:∀k,Okst (((lines (B d)).take k).foldl (rline series sets) (erS s,rej))):
  Calls Tryz.prog 43 #[.pointer (some ⟨b,0,none⟩),.string d] w fun e w'=>e=.returned (.tuple #[])∧(∃s' rej' K' S' vs',Rw w0 w' b c s'.ks s'.ss rej' s'.drp K' S' vs'∧(erS s',rej')=(lines (B d)).foldl (rline series sets) (erS s,rej))∧Below w0.heap.size w w':=by
 have HOK:=hide hok;have HSER:=hide hser;have HSET:=hide hset;have HH:=hide h;clear hok hser hset h;have hdl:(B d).length=d.size:=(Bytes.size_B d).symm;go_enter Tryz.func43,Tryz.ntmps43
 go_wp2_with fail
 go_loopw [4] (fun at_ wr=>∃(p k:Nat) (s':Rs3) (rej':Nat) (K' S':Value) (vs':List Value),at_=.int .i64 (p:Int)∧p≤d.size+1∧Hid (Rw w0 wr b c s'.ks s'.ss rej' s'.drp K' S' vs')∧Hid ((erS s',rej')=((lines (B d)).take k).foldl (rline series sets) (erS s,rej))∧Hid ((lines (B d)).drop k=LS (B d) p)∧Hid (Below w0.heap.size w wr)) (fun at_ _=>d.size+2 - (intOf at_).toNat)
 case atStart=>exact⟨0,0,s,rej,K,S,vs,rfl,by omega,HH.out,rfl,by unfold LS;rw[if_pos (uW _)];rfl,Below.refl _ _⟩
 case round=>
  obtain⟨p,k,s1,rej1,K1,S1,vs1,rfl,hp,HR,HE,HL,HB⟩:=hrel;by_cases hpd:p≤d.size
  ·have hpz:(p:Int)≤(d.size:Int):=by omega
   have hst:=LS_step (d:=B d) (p:=p) (by omega);rw[←HL.out]at hst;have HFN:=hide (fold_next (series:=series) (sets:=sets) (st0:=(erS s,rej)) hst);have hup:=upTo d ⟨#[10]⟩ p hpd (by omega) (by decide) wr;have hokk:=HOK.out k;rw[←HE.out]at hokk;have hrj:=hokk.2.2.1;simp only at hrj;have HOKK:=hide hokk;clear hst hokk;go_wp2_with fail
   refine hup.mono ?_;clear hup;rintro e w2 ⟨⟨z,rfl,hz,hzl⟩,n,rfl⟩;have HZ:=hide (show B z=tw [10] ((B d).drop p) from hz);have hpn:((p+z.size:Nat):Int)=(p:Int)+(z.size:Int):=by omega
   have hzs:z.size≤1000000000:=by omega
   have HR2:=hide (HR.out.keep (below_drewN' (n:=n) (Below.refl _ _)));have HB2:=hide (show Below w0.heap.size w (wr.drewN n) from below_drewN' HB.out);have hzsz:(tw [10] ((B d).drop p)).length=z.size:=by rw[←HZ.out,←Bytes.size_B]
   have HNX:=hide (show (lines (B d)).drop (k+1)=LS (B d) (p+z.size+1) by rw[HFN.out.2.1,hzsz]);have HFO:=hide (show ((lines (B d)).take (k+1)).foldl (rline series sets) (erS s,rej)=rline series sets (erS s1,rej1) (B z) by rw[HFN.out.1,←HE.out,HZ.out]);clear hz hzsz HR HB HL;generalize wr.drewN n=w2 at *;by_cases hemp:B z=[]
   ·have hze:z=⟨#[]⟩:=Bytes.B_inj hemp;subst hze;have HFE:=hide (show rline series sets (erS s1,rej1) (B ⟨#[]⟩)=(erS s1,rej1) by unfold rline;rw[if_pos hemp]);clear hemp;go_wp2_with fail
    go_roundw
    case rel=>exact⟨p+1,k+1,s1,rej1,K1,S1,vs1,by go_num,by omega,HR2.out,hide (by rw[HFO.out,HFE.out]),HNX.out,HB2.out⟩
    case measure=>simp only[intOf];omega
   ·have hzb:(z.toList==[])=false:=Vals.ne_list hemp;have hrd:=read z (by omega) w2;have HEM:=hide hemp;clear hemp;go_wp2_with fail
    refine hrd.mono ?_;clear hrd;rintro e w3 ⟨hb3,hcase⟩;have HR3:=hide (HR2.out.keep hb3);have HB3:=hide (HB2.out.trans (hb3.mono (uG hw0 HB2.out.size)));have HLT:=hide hb3.size;rcases hcase with ⟨hnone,nb,KK,v,wb,r,sa,sl,sc,rfl⟩|⟨m,nb,wb,tv,hsome,hnb,hwb,hst,rfl⟩
    ·have HFE:=hide (show rline series sets (erS s1,rej1) (B z)=(erS s1,rej1+1) by unfold rline;rw[if_neg HEM.out,hnone]);unfold rsm;have HR4:=hide (HR3.out.keep (below_new (w:=w3) (.cells #[.string nb,.int .u8 KK,.int .i64 v,.string wb,.int .i64 r,.slice sa sl sc] 85)));have HB4:=hide (HB3.out.alloc (uG hw0 HB3.out.size) (.cells #[.string nb,.int .u8 KK,.int .i64 v,.string wb,.int .i64 r,.slice sa sl sc] 85));clear hnone hb3;go_upto_region 7 with fail
     generalize w3.alloc (.cells #[.string nb,.int .u8 KK,.int .i64 v,.string wb,.int .i64 r,.slice sa sl sc] 85)=w4 at *;obtain⟨c1,c2,c6,c7,c8,c9,f6,f7,f8,f9⟩:=head10 HR4.out.head;have HR5:=hide (HR4.out.set8 (rej1+1));have HB5:=hide (HB4.out.setCell (p:=⟨b,8,none⟩) HR4.out.far (.int .i64 ((rej1+1:Nat):Int)));rw[show ((rej1+1:Nat):Int)=(rej1:Int)+1 by omega]at HR5 HB5;clear c1 c2 c6 c7 c9 f6 f7 f9;go_wp2_with fail
     go_roundw
     case rel=>exact⟨p+z.size+1,k+1,s1,rej1+1,K1,S1,vs1,by go_num,by omega,HR5.out,hide (by rw[HFO.out,HFE.out]),HNX.out,HB5.out⟩
     case measure=>simp only[intOf];omega
    ·obtain⟨sh1,sh2,sh3,sh4,sh5,sh6⟩:=Same.short_of hsome;obtain⟨ta,tc,rfl⟩:=strs_shape hst;have HFE:=hide (show rline series sets (erS s1,rej1) (B z)=(erS (rtake series sets (rkey m) ⟨nb,m.kind,m.value,wb,m.rate,.slice ta m.tags.length tc⟩ s1),rej1) by
      unfold rline;rw[if_neg HEM.out,hsome];simp only;rw[rtake_er];have:sxOf m=er ⟨nb,m.kind,m.value,wb,m.rate,.slice ta m.tags.length tc⟩:=by
       have e1:nb=⟨m.name.toArray⟩:=Bytes.B_inj (by rw[hnb];rfl);have e2:wb=⟨m.word.toArray⟩:=Bytes.B_inj (by rw[hwb];rfl);unfold sxOf er;rw[e1,e2]
      rw[this])
     unfold rsm;have hbn:=below_new (w:=w3) (.cells #[.string nb,.int .u8 m.kind,.int .i64 m.value,.string wb,.int .i64 m.rate,.slice ta m.tags.length tc] 85);have HR4:=hide (HR3.out.keep hbn);have HB4:=hide (HB3.out.trans (hbn.mono (uG hw0 HB3.out.size)));have HS4:=hide (Sits.new w3 85 #[.string nb,.int .u8 m.kind,.int .i64 m.value,.string wb,.int .i64 m.rate,.slice ta m.tags.length tc]);have HT4:=hide ((Strs.kept hst hbn).mono (lo':=w0.heap.size) (uG hw0 HB2.out.size));have HNB:=hide hnb;have hnbs:nb.size≤16:=by rw[Bytes.size_B,hnb];exact sh1
     have HKEY:=hide (show rkey m=B nb++[124]++B (ty m.kind)++Plain.pt m.tags by unfold rkey;rw[hnb]);clear hsome hb3 hnb hwb hst hbn;obtain⟨XX,hXX⟩:∃XX,w3.heap.size=XX:=⟨_,rfl⟩;rw[hXX]at HS4;go_upto_region 7 with fail
     generalize w3.alloc (.cells #[.string nb,.int .u8 m.kind,.int .i64 m.value,.string wb,.int .i64 m.rate,.slice ta m.tags.length tc] 85)=w4 at *;obtain⟨b0,b1,b2,b3,b4,b5⟩:=cells6s HS4.out;have hs1k:s1.ks.length≤1000:=HOKK.out.1;have hs1d:s1.drp≤1000000000:=HOKK.out.2.1;have htk:=take w0 b c s1 rej1 K1 S1 vs1 ⟨nb,m.kind,m.value,wb,m.rate,.slice ta m.tags.length tc⟩ ta m.tags.length tc rfl m.tags series sets HSER.out HSET.out w4 HR4.out (uG hw0 HB4.out.size) HT4.out hnbs sh5 sh6 hs1k hs1d (fun i l hl=>⟨(ok_rows HOKK.out i l hl).1,fun _=>(ok_rows HOKK.out i l hl).2⟩) (rkey m) HKEY.out;go_wp2_with fail
     refine htk.mono ?_;clear htk;rintro e w5 ⟨rfl,⟨K5,S5,vs5,hR5⟩,hb5⟩;have HR5:=hide hR5;have HB5:=hide (HB4.out.trans hb5);clear hR5 hb5 b0 b1 b2 b3 b4 b5;go_wp2_with fail
     go_roundw
     case rel=>exact⟨p+z.size+1,k+1,_,rej1,K5,S5,vs5,by go_num,by omega,HR5.out,hide (by rw[HFO.out,HFE.out]),HNX.out,HB5.out⟩
     case measure=>simp only[intOf];omega
  ·have hpz:¬(p:Int)≤(d.size:Int):=by omega
   have HDN:=hide (show (lines (B d)).take k=lines (B d) by
    have h1:(lines (B d)).drop k=[]:=by rw[HL.out];unfold LS;rw[if_neg (by omega)]
    rw[uJ];have:=congrArg List.length h1;rw[List.length_drop]at this;simp at this
    omega)
   go_wp2_with fail
   go_end0
   exact⟨rfl,⟨s1,rej1,⟨K1,S1,vs1,HR.out⟩,by rw[HE.out,HDN.out]⟩,HB.out⟩
end Go.Proofs.YtenegfafjjknoaaGreatDoor.Ra
namespace Go.Proofs.YtenegfafjjknoaaGreatDoor.Ra
open Go.RowKit Mem Foot Bytes Wm Im Refi Tagw Cq
def sortK (ks:List (List UInt8)):List (List UInt8):=ks.foldl (fun a k=>ins k a) []
theorem sortK_next {ks:List (List UInt8)}{k:Nat}{x:List UInt8}(hx:ks[k]? = some x):sortK (ks.take (k+1))=ins x (sortK (ks.take k)):=by
 unfold sortK;rw[uP,hx,uH];rfl
noncomputable def rlineT (most:Nat)(s:Rs3)(k:List UInt8):List UInt8:=k++[61]++tell most (s.ss.getD (pl k s.ks) [])++[10]
noncomputable def rtext (most:Nat)(number:Int)(rej:Nat)(s:Rs3):List UInt8:=whead number rej s.drp++(sortK s.ks).flatMap (rlineT most s)
structure Tok (s:Rs3)(rej:Nat):Prop where
 ks:s.ks.length≤1000
 kl:∀k∈s.ks,k.length≤100
 drp:s.drp≤1000000000
 rej:rej≤1000000000
 rows:∀(i:Nat) l,s.ss[i]? = some l→l≠[]∧l.length≤10000000∧Same l
 sub:∀k,k≤s.ks.length→(sortK (s.ks.take k)).length≤1000
 mem:∀k∈sortK s.ks,k∈s.ks
theorem head0c {w:World}{b:Nat}{t:TypeId}{v0 v1 v2 v3 v4 v5 v6 v7 v8 v9:Value}(h:Sits w b t #[v0,v1,v2,v3,v4,v5,v6,v7,v8,v9]):
  w.cell? ⟨b,0,none⟩=some v0∧w.cell? ⟨b,1,none⟩=some v1∧w.cell? ⟨b,2,none⟩=some v2∧w.cell? ⟨b,3,none⟩=some v3∧w.cell? ⟨b,4,none⟩=some v4∧w.cell? ⟨b,5,none⟩=some v5∧w.cell? ⟨b,6,none⟩=some v6∧w.cell? ⟨b,7,none⟩=some v7∧w.cell? ⟨b,8,none⟩=some v8∧w.cell? ⟨b,9,none⟩=some v9:=
 ⟨h.cell 0 _ rfl,h.cell 1 _ rfl,h.cell 2 _ rfl,h.cell 3 _ rfl,h.cell 4 _ rfl,h.cell 5 _ rfl,h.cell 6 _ rfl,h.cell 7 _ rfl,h.cell 8 _ rfl,h.cell 9 _ rfl⟩
theorem Rw.row {w0 w:World}{b:Nat}{c:Fin 6→Int}{ks:List (List UInt8)}{ss:List (List Sx)}{rej drp:Nat}{K S:Value}{vs:List Value}(h:Rw w0 w b c ks ss rej drp K S vs){i:Nat}{v:Value}(hv:vs[i]? = some v):∃SB cap,S=.slice (some ⟨SB,0,none⟩) vs.length cap∧vs.length≤cap∧SB<w.heap.size∧w.cell? ⟨SB,i,none⟩=some v:=by
 have hi:=(uC.1 hv).1;rcases h.rows.2 with ⟨_,h0⟩|⟨g,cp,cur,h1,h2,h3,h4,h5,h6,h7⟩
 ·omega
 ·have hs:Sits w g 144 cur:=h3;refine⟨g,cp,h1,h4,hs.lt,hs.cell i _ ?_⟩;have:(cur.toList.take (vs.length*1))[i]? = some v:=by rw[h7];exact hv
  rw[List.getElem?_take]at this;split at this
  ·simpa using this
  ·cases this
theorem pl_mem {k:List UInt8}{ks:List (List UInt8)}(h:k∈ks):pl k ks<ks.length:=by
 unfold pl;exact List.findIdx_lt_length_of_exists ⟨k,h,by simp⟩
theorem itoa_short {v:Int}(h0:-9223372036854775808≤v)(h1:v≤9223372036854775807):(Lib.itoa v).length≤21:=by
 unfold Lib.itoa;split
 ·have:=Plain.nd_le 18 v.natAbs (by omega);rw[uE,Lib.decDigits_length];omega
 ·have:=Plain.nd_le 18 v.toNat (by omega);rw[Lib.decDigits_length];omega
theorem upto_fit {cs:List (Int×Cel)}(h:∀c∈cs,0≤c.2.stands∧c.2.stands≤2000000000)(q:Int):∀k0,0≤upto q k0 cs∧upto q k0 cs≤2000000000:=by
 induction cs with
 | nil=>intro k0;simp[upto]
 | cons c r ih=>
  intro k0;have h1:=h c (uA ..);have h2:=ih (fun c hc=>h c (uS _ hc)) (k0+c.2.weight);unfold upto;split
  ·exact h1
  ·exact h2
theorem tell_len {most:Nat}{l:List Sx}(hm2:2≤most)(hl0:l≠[])(hn:l.length≤100000000)(hs:Same l):(tell most l).length≤400:=by
 cases l with
 | nil=>exact absurd rfl hl0
 | cons x r=>
  rw[tell];split
  ·have hw:(wordsOf (x ::r)).length≤1000:=by
    cases hs with
    | set _ hW=>
     have:=hW (x ::r).length (uQ _);rw[uI]at this;exact this
    | tim h=>
     rename_i hk;have:=(h x (uA ..)).1;omega
    | num h=>
     rename_i hk;exact absurd hk (h x (uA ..)).1
   have:=itoa_short (v:=((wordsOf (x ::r)).length:Int)) (by omega) (by omega);omega
  ·split
   ·have ht:∀y∈x ::r,Tsx y:=by
     cases hs with
     | set h _=>
      have:=h x (uA ..);omega
     | tim h=>exact fun y hy=>(h y hy).2
     | num h=>
      rename_i hk;exact absurd hk (h x (uA ..)).2.1
    have hf:=(timOf_fit hm2 (x ::r) ht).1;generalize timOf most (x ::r)=t at hf;have hu:=fun q=>upto_fit (fun c hc=>⟨(hf.cel c hc).2.2.1,(hf.cel c hc).2.2.2.1⟩) q 0
    have h1:=hf.count;have h2:=hf.sum;have h3:=hf.least;have h4:=hf.greatest;simp only[top]at h1 h2;have a1:=itoa_short (v:=t.count) (by omega) (by omega);have a2:=itoa_short (v:=t.sum) (by omega) (by omega);have a3:=itoa_short (v:=t.least) (by omega) (by omega);have a4:=itoa_short (v:=t.greatest) (by omega) (by omega);have b5:=hu (50*(t.count - 1) / 100);have b6:=hu (90*(t.count - 1) / 100);have b7:=hu (99*(t.count - 1) / 100);have a5:=itoa_short (v:=quant t 50) (by unfold quant;omega) (by unfold quant;omega);have a6:=itoa_short (v:=quant t 90) (by unfold quant;omega) (by unfold quant;omega);have a7:=itoa_short (v:=quant t 99) (by unfold quant;omega) (by unfold quant;omega);have a8:(B (flag t.folded)).length=1:=by cases t.folded<;>rfl
    rw[←timer_text t _ _ _ _ _ _ _ rfl rfl rfl rfl rfl rfl rfl];simp only[uK,uE,List.length_nil];omega
   ·have h:=numOf_fit (x ::r);have:=itoa_short (v:=numOf (x ::r)) (by omega) (by omega);omega
set_option maxRecDepth 10000 in
theorem textR (w0:World)(b:Nat)(c:Fin 6→Int)(s:Rs3)(rej:Nat)(K S:Value)(vs:List Value)(most:Nat)(hmost:c 3=(most:Int))(number:Int)(hn0:-9223372036854775808≤number)(hn1:number≤9223372036854775807)(w:World)(h:Rw w0 w b c s.ks s.ss rej s.drp K S vs)(hm2:2≤most)(hm:most≤64)(ht:Tok s rej):
  Calls Tryz.prog 44 #[.pointer (some ⟨b,0,none⟩),.int .i64 number] w fun e w'=>(∃z,e=.returned (.string z)∧B z=rtext most number rej s)∧Below w.heap.size w w':=by
 have HH:=hide h;have HM:=hide hmost;have HT:=hide ht;have hks:=ht.ks;have hrej:=ht.rej;have hdrp:=ht.drp;obtain⟨d1,hd1⟩:∃d:ByteArray,B d=Lib.itoa number:=⟨⟨(Lib.itoa number).toArray⟩,rfl⟩;obtain⟨d2,hd2⟩:∃d:ByteArray,B d=Lib.itoa (rej:Int):=⟨⟨(Lib.itoa (rej:Int)).toArray⟩,rfl⟩;obtain⟨d3,hd3⟩:∃d:ByteArray,B d=Lib.itoa (s.drp:Int):=⟨⟨(Lib.itoa (s.drp:Int)).toArray⟩,rfl⟩;have dig:∀(v:Int) (d:ByteArray),B d=Lib.itoa v→-9223372036854775808≤v→v≤9223372036854775807→∀W:World,Calls Tryz.prog 96 #[.int .i64 v] W fun e w'=>e=.returned (.string d)∧Below W.heap.size W w':=fun v d hd h0 h1 W=>
  (digitsC v h0 h1 W).mono fun e w' ⟨⟨z,e1,e2,_⟩,e3⟩=>⟨by
   have e4:z=d:=Bytes.B_inj (by rw[e2,hd]);rw[e1,e4],e3⟩
 have sz:∀(v:Int) (d:ByteArray),B d=Lib.itoa v→-9223372036854775808≤v→v≤9223372036854775807→d.size≤21:=fun v d hd h0 h1=>by
  rw[Bytes.size_B,hd];unfold Lib.itoa;split
  ·have:=Plain.nd_le 18 v.natAbs (by omega);rw[uE,Lib.decDigits_length];omega
  ·have:=Plain.nd_le 18 v.toNat (by omega);rw[Lib.decDigits_length];omega
 have hz1:=sz _ d1 hd1 hn0 hn1;have hz2:=sz _ d2 hd2 (by omega) (by omega);have hz3:=sz _ d3 hd3 (by omega) (by omega);have HA1:=hide (fun q:Bw w=>call_cls (dig _ d1 hd1 hn0 hn1 q.val));have HA2:=hide (fun q:Bw w=>call_cls (dig _ d2 hd2 (by omega) (by omega) q.val));have HA3:=hide (fun q:Bw w=>call_cls (dig _ d3 hd3 (by omega) (by omega) q.val));have C8:∀q:Bw w,q.val.cell? ⟨b,8,none⟩=some (.int .i64 (rej:Int)):=fun q=>(h.keep q.is).head.cell 8 _ rfl
 have C9:∀q:Bw w,q.val.cell? ⟨b,9,none⟩=some (.int .i64 (s.drp:Int)):=fun q=>(h.keep q.is).head.cell 9 _ rfl
 have HD:=hide (show B (⟨#[119,105,110,100,111,119,32]⟩++d1++⟨#[32,114,101,106,101,99,116,115,32]⟩++d2++⟨#[32,100,114,111,112,115,32]⟩++d3++⟨#[10]⟩)=whead number rej s.drp by
  simp only[Bytes.B_append,hd1,hd2,hd3];rfl)
 clear hmost ht hd1 hd2 hd3 dig sz h;go_enter Tryz.func44,Tryz.ntmps44
 go_wp2_with fail
 refine region_cls (by kernel_rfl) (by kernel_rfl) ?_;repeat (first
  | go_big_quiet_skip
  | (go_big_quiet_want;go_big_quiet_op;first|go_big_quiet_on|(apply Exists.intro;refine⟨fun _=>?_,?_⟩;(first|(go_at_call_of 96 (number);exact HA1.out _)|(go_at_call_of 96 ((rej:Nat):Int);exact HA2.out _)|(go_at_call_of 96 ((s.drp:Nat):Int);exact HA3.out _));go_big_quiet_on)))
 refine wpQuiet_nil ?_;rintro _ ⟨q,rfl⟩;have HR:=hide (HH.out.keep q.is);have HB:=hide q.is;generalize q.val=w1 at *;clear C8 C9 HA1 HA2 HA3;obtain⟨hd,hhd⟩:∃hd:ByteArray,⟨#[119,105,110,100,111,119,32]⟩++d1++⟨#[32,114,101,106,101,99,116,115,32]⟩++d2++⟨#[32,100,114,111,112,115,32]⟩++d3++⟨#[10]⟩=hd:=⟨_,rfl⟩;have hhs:hd.size≤100:=by
  rw[←hhd];simp only[ByteArray.size_append];have e1:(⟨#[119,105,110,100,111,119,32]⟩:ByteArray).size=7:=rfl;have e2:(⟨#[32,114,101,106,101,99,116,115,32]⟩:ByteArray).size=9:=rfl;have e3:(⟨#[32,100,114,111,112,115,32]⟩:ByteArray).size=7:=rfl;have e4:(⟨#[10]⟩:ByteArray).size=1:=rfl;omega
 rw[hhd]at HD ⊢;clear hhd;obtain⟨ka,kc,hKs⟩:=own_shape3 HR.out.keys;have HKS:=hide hKs;clear hKs;have c6:=(head0c HR.out.head).2.2.2.2.2.2.1;rw[HKS.out]at c6;go_wp2_with fail
 go_loopw [6,7] (fun o i wr=>∃k:Nat,i=.int .i64 (k:Int)∧k≤s.ks.length∧(∃a n c',o=.slice a n c')∧Hid (Strs 0 wr o (sortK (s.ks.take k)))∧Hid (Below w1.heap.size w1 wr)) (fun _ i _=>s.ks.length - (intOf i).toNat)
 case atStart=>exact⟨0,rfl,by omega,⟨_,_,_,rfl⟩,Or.inl ⟨rfl,rfl⟩,Below.refl _ _⟩
 case round=>
  clear c6;obtain⟨k,rfl,hk,⟨oa,on,oc,rfl⟩,HO,HBk⟩:=hrel;have HRk:=hide (HR.out.keep HBk.out);have c6:=(head0c HRk.out.head).2.2.2.2.2.2.1;rw[HKS.out]at c6;by_cases hkl:k<s.ks.length
  ·have hkz:(k:Int)<(s.ks.length:Int):=by omega
   obtain⟨x,hx⟩:∃x,s.ks[k]? = some x:=⟨_,uF hkl⟩;obtain⟨g,cp,hv,_,hg,hcp,hcell⟩:=strs_cell (own_strs0 HRk.out.keys) hx;rw[HKS.out]at hv;injection hv with e1 em e2;clear em;subst e1;subst e2;have hins:=insert 0 _ _ ⟨x.toArray⟩ _ HO.out (HT.out.sub k hk);have HX:=hide hx;clear hx;go_wp2_with fail
   refine hins.mono ?_;clear hins;rintro e w2 ⟨⟨u,rfl,hu⟩,hb2⟩;obtain⟨ua,uc,rfl⟩:=strs_shape hu;have HU:=hide (show Strs 0 w2 (.slice ua (ins (B ⟨x.toArray⟩) (sortK (s.ks.take k))).length uc) (sortK (s.ks.take (k+1))) by
    rw[sortK_next HX.out];exact hu.mono (uW _))
   have HB2:=hide (HBk.out.trans (hb2.mono HBk.out.size));clear hu hb2 c6 hcell;go_wp2_with fail
   go_roundw
   case rel=>exact⟨k+1,by go_num,by omega,⟨_,_,_,rfl⟩,HU.out,HB2.out⟩
   case measure=>simp only[intOf];omega
  ·have hkz:¬(k:Int)<(s.ks.length:Int):=by omega
   have hk2:k=s.ks.length:=by omega
   subst hk2;have hO:=HO.out;rw[uI]at hO;obtain⟨oa2,oc2,hoe⟩:=strs_shape hO;injection hoe with e1 e2 e3;subst e1;subst e3;subst e2;have HO2:=hide hO;have hsl:(sortK s.ks).length≤1000:=by have:=HT.out.sub s.ks.length (uQ _);rw[uI]at this;exact this
   clear hO HO;go_wp2_with fail
   go_loopw [5,8] (fun o i wq=>∃(k:Nat) (z:ByteArray),i=.int .i64 (k:Int)∧o=.string z∧k≤(sortK s.ks).length∧z.size≤100+k*600∧Hid (B z=whead number rej s.drp++((sortK s.ks).take k).flatMap (rlineT most s))∧Hid (Below wr.heap.size wr wq)) (fun _ i _=>(sortK s.ks).length - (intOf i).toNat)
   case atStart=>exact⟨0,hd,rfl,rfl,by omega,by omega,by rw[List.take_zero,List.flatMap_nil,uT];exact HD.out,Below.refl _ _⟩
   case round=>
    clear c6;obtain⟨k,z,rfl,rfl,hk,hzs,HZ,HBq⟩:=hrel;by_cases hkl:k<(sortK s.ks).length
    ·have hkz:(k:Int)<((sortK s.ks).length:Int):=by omega
     obtain⟨x,hx⟩:∃x,(sortK s.ks)[k]? = some x:=⟨_,uF hkl⟩;have hxm:=HT.out.mem x (List.mem_of_getElem? hx);have hxl:=HT.out.kl x hxm;have hj:=pl_mem hxm;have HRq:=hide (HRk.out.keep HBq.out);obtain⟨v,hv⟩:∃v,vs[pl x s.ks]? = some v:=⟨_,uF (by rw[HRq.out.len];exact hj)⟩;obtain⟨l,hl,hrow⟩:=HRq.out.each' hv;obtain⟨hl0,hln,hsame⟩:=HT.out.rows _ l hl;obtain⟨va,vc,rfl⟩:=own_shape3 hrow;obtain⟨SB,Scap,hSe,hScap,hSB,hScell⟩:=HRq.out.row hv;obtain⟨g,cp,hov,_,hg,hcp,hcell⟩:=strs_cell (Strs.kept HO2.out HBq.out) hx;injection hov with e1 em e2;clear em;subst e1;subst e2;have hvz:((pl x s.ks:Nat):Int)<(vs.length:Int):=by rw[HRq.out.len];omega
     obtain⟨tz,htz⟩:∃tz:ByteArray,B tz=tell most l:=⟨⟨(tell most l).toArray⟩,rfl⟩;have htl:tz.size≤400:=by rw[Bytes.size_B,htz];exact tell_len hm2 hl0 (by omega) hsame
     obtain⟨xb,hxb⟩:∃xb:ByteArray,(⟨x.toArray⟩:ByteArray)=xb:=⟨_,rfl⟩;have hxB:B xb=x:=by rw[←hxb];rfl
     have hxs:xb.size≤100:=by rw[Bytes.size_B,hxB];exact hxl
     rw[hxb]at hcell;have HLN:=hide (show rlineT most s x=x++[61]++tell most l++[10] by
      unfold rlineT;rw[uD,hl];rfl)
     have HTK:=hide (show (sortK s.ks).take (k+1)=(sortK s.ks).take k++[x] by rw[uP,hx];rfl);have HPL:=hide (fun q:Bw wr=>call_cls ((place b K s.ks xb q.val (by exact(head0c (HRq.out.keep q.is).head).2.2.2.2.2.2.1) (own_strs0 (HRq.out.keep q.is).keys) hks).mono fun e w' ⟨h1,h2⟩=>⟨h1,by rw[h2];exact Below.refl _ _⟩));rw[hxB]at HPL;have HTD:=hide (fun q:Bw wr=>call_cls (v:=.string tz) ((told _ l c most HM.out q.val ((smps_of hrow).below q.is) hl0 (by omega) hm2 hm hsame).mono fun e w' ⟨⟨y,h1,h2,_⟩,h3⟩=>⟨by
      have e4:y=tz:=Bytes.B_inj (by rw[h2,htz]);rw[h1,e4],h3⟩))
     have D:∀q:Bw wr,Sits q.val b 95 _:=fun q=>(HRq.out.keep q.is).head
     have C0:∀q:Bw wr,q.val.cell? ⟨b,0,none⟩=some (.int .i64 (c 0)):=fun q=>(D q).cell 0 _ rfl
     have C1:∀q:Bw wr,q.val.cell? ⟨b,1,none⟩=some (.int .i64 (c 1)):=fun q=>(D q).cell 1 _ rfl
     have C2:∀q:Bw wr,q.val.cell? ⟨b,2,none⟩=some (.int .i64 (c 2)):=fun q=>(D q).cell 2 _ rfl
     have C3:∀q:Bw wr,q.val.cell? ⟨b,3,none⟩=some (.int .i64 (c 3)):=fun q=>(D q).cell 3 _ rfl
     have C4:∀q:Bw wr,q.val.cell? ⟨b,4,none⟩=some (.int .i64 (c 4)):=fun q=>(D q).cell 4 _ rfl
     have C5:∀q:Bw wr,q.val.cell? ⟨b,5,none⟩=some (.int .i64 (c 5)):=fun q=>(D q).cell 5 _ rfl
     have C7:∀q:Bw wr,q.val.cell? ⟨b,7,none⟩=some (.slice (some ⟨SB,0,none⟩) vs.length Scap):=fun q=>by rw[←hSe];exact(D q).cell 7 _ rfl
     have CK:∀q:Bw wr,q.val.cell? ⟨g,k,none⟩=some (.string xb):=fun q=>by rw[q.is.cell (p:=⟨g,k,none⟩) hg];exact hcell
     have CS:∀q:Bw wr,q.val.cell? ⟨SB,pl x s.ks,none⟩=some (.slice va l.length vc):=fun q=>by rw[q.is.cell (p:=⟨SB,pl x s.ks,none⟩) hSB];exact hScell
     have HTZ:=hide htz;have HXB:=hide hxB;clear D hx hxm hl hrow hv hSe hcell hScell htz hxb hxB hsame hl0;generalize pl x s.ks=j at *;go_wp2_with fail
     refine region_cls (by kernel_rfl) (by kernel_rfl) ?_;repeat (first
      | go_big_quiet_skip
      | (go_big_quiet_want;go_big_quiet_op;first|go_big_quiet_on|(apply Exists.intro;refine⟨fun _=>?_,?_⟩;(first|(go_at_call 98;exact HPL.out _)|(go_at_call 97;exact HTD.out _));go_big_quiet_on)))
     refine wpQuiet_nil ?_;rintro _ ⟨q,rfl⟩;have HBn:=hide (HBq.out.trans (q.is.mono HBq.out.size));clear C0 C1 C2 C3 C4 C5 C7 CK CS;go_wp2_with fail
     go_roundw
     case rel=>
      refine⟨k+1,_,by go_num,rfl,by omega,?_,hide ?_,HBn.out⟩
      ·simp only[ByteArray.size_append];have e1:(⟨#[61]⟩:ByteArray).size=1:=rfl;have e2:(⟨#[10]⟩:ByteArray).size=1:=rfl;omega
      ·rw[HTK.out,uU,vA,List.flatMap_nil,uT,HLN.out];simp only[Bytes.B_append,HZ.out,HTZ.out,HXB.out,List.append_assoc];rfl
     case measure=>simp only[intOf];omega
    ·have hkz:¬(k:Int)<((sortK s.ks).length:Int):=by omega
     have hk2:k=(sortK s.ks).length:=by omega
     subst hk2;have HZ2:=hide (show B z=rtext most number rej s by rw[HZ.out,uI];rfl);go_wp2_with fail
     go_ret
     exact⟨⟨z,rfl,HZ2.out⟩,HB.out.trans ((HBk.out.trans (HBq.out.mono HBk.out.size)).mono HB.out.size)⟩
end Go.Proofs.YtenegfafjjknoaaGreatDoor.Ra
namespace Go.Proofs.YtenegfafjjknoaaGreatDoor.Ra
open Go.RowKit Mem Foot Bytes Wm Im Refi Tagw
theorem timOf_er (most:Nat)(l:List Sx):timOf most (l.map er)=timOf most l:=by
 unfold timOf;rw[uV];rfl
theorem numOf_er (l:List Sx):numOf (l.map er)=numOf l:=by
 unfold numOf;rw[uV];rfl
theorem tell_er (most:Nat)(l:List Sx):tell most (l.map er)=tell most l:=by
 cases l with
 | nil=>rfl
 | cons x r=>
  have h1:=wordsOf_er (x ::r);have h2:=timOf_er most (x ::r);have h3:=numOf_er (x ::r);rw[List.map_cons]at h1 h2 h3 ⊢;rw[tell,tell,h1,h2,h3];rfl
theorem rtext_er (most:Nat)(number:Int)(rej:Nat)(s:Rs3):rtext most number rej (erS s)=rtext most number rej s:=by
 unfold rtext;have h:rlineT most (erS s)=rlineT most s:=by
  funext k
  unfold rlineT;have:(erS s).ss.getD (pl k (erS s).ks) []=(s.ss.getD (pl k s.ks) []).map er:=getD_er _ _;rw[this,tell_er]
 rw[h];rfl
theorem same_er {l:List Sx}(h:Same (l.map er)):Same l:=by
 cases h with
 | set h hW=>exact .set (fun x hx=>h (er x) (uB hx)) (fun k hk=>by
   have:=hW k (by rw[uL];exact hk);rw[←List.map_take,wordsOf_er]at this;exact this)
 | tim h=>exact .tim (fun x hx=>h (er x) (uB hx))
 | num h=>exact .num (fun x hx=>h (er x) (uB hx))
theorem tok_er {s:Rs3}{rej:Nat}(h:Tok (erS s) rej):Tok s rej:=
 ⟨h.ks,h.kl,h.drp,h.rej,fun i l hl=>by
  have h1:=h.rows i (l.map er) (by show (s.ss.map _)[i]? = _;rw[uZ,hl];rfl);rw[uL]at h1;exact⟨fun e=>h1.1 (by rw[e];rfl),h1.2.1,same_er h1.2.2⟩,h.sub,h.mem⟩
theorem add_blockQ (a:Addr)(i:Nat):(a.add i).block=a.block:=by
 unfold Addr.add;split<;>rfl
def st0:Rs3×Nat:=(⟨[],[],0⟩,0)
def allL (ds:List (List UInt8)):List (List UInt8):=ds.flatMap lines
def rsum (series sets:Nat)(ds:List (List UInt8)):Rs3×Nat:=(allL ds).foldl (rline series sets) st0
theorem rsum_next {series sets:Nat}{ds:List (List UInt8)}{k:Nat}{d:List UInt8}(hd:ds[k]? = some d):rsum series sets (ds.take (k+1))=(lines d).foldl (rline series sets) (rsum series sets (ds.take k)):=by
 unfold rsum allL;rw[uP,hd,uU,uH];simp
theorem rsum_part {series sets:Nat}{ds:List (List UInt8)}{k:Nat}{d:List UInt8}(hd:ds[k]? = some d)(hok:∀n,Okst (((allL ds).take n).foldl (rline series sets) st0))(j:Nat):Okst (((lines d).take j).foldl (rline series sets) (rsum series sets (ds.take k))):=by
 have hl:=(uC.1 hd).1;have e:ds.take k++d ::ds.drop (k+1)=ds:=by
  rw[←(uC.1 hd).2,←List.drop_eq_getElem_cons hl,List.take_append_drop]
 have h:=hok ((allL (ds.take k)).length+min j (lines d).length);have e2:allL ds=allL (ds.take k)++(lines d++allL (ds.drop (k+1))):=by
  have h1:allL (ds.take k++d ::ds.drop (k+1))=allL (ds.take k)++(lines d++allL (ds.drop (k+1))):=by
   unfold allL;rw[uU,vA]
  rw[←h1,e]
 rw[e2,List.take_append,Nat.add_sub_cancel_left,uJ (by omega),uH,List.take_append]at h;have e3:(lines d).take (min j (lines d).length)=(lines d).take j:=by
  by_cases hj:j≤(lines d).length
  ·rw[Nat.min_eq_left hj]
  ·rw[Nat.min_eq_right (by omega),uI,uJ (by omega)]
 have e4:min j (lines d).length - (lines d).length=0:=by omega
 rw[e3,e4,List.take_zero,uT]at h;exact h
set_option maxRecDepth 10000 in
theorem sumR (c:Fin 6→Int)(number:Int)(hn0:-9223372036854775808≤number)(hn1:number≤9223372036854775807)(ao:Option Addr)(cap:Nat)(ds:List (List UInt8))(w:World)(series sets most:Nat)(hser:c 1=(series:Int))(hset:c 2=(sets:Int))(hmost:c 3=(most:Int))(hm2:2≤most)(hm:most≤64)(hgood:Check.good (c 0) (c 1) (c 2) (c 3) (c 4) (c 5)=true)
  (hsrc:∀(i:Nat) x,ds[i]? = some x→∃a,ao=some a∧a.block<w.heap.size∧w.cell? (a.add i)=some (.string ⟨x.toArray⟩)) (hdl:ds.length≤100000000) (hds:∀d∈ds,d.length≤1000000000)
  (hok:∀n,Okst (((allL ds).take n).foldl (rline series sets) st0)) (htok:Tok (rsum series sets ds).1 (rsum series sets ds).2):
  Calls Tryz.prog 21 #[.agg #[.int .i64 (c 0),.int .i64 (c 1),.int .i64 (c 2),.int .i64 (c 3),.int .i64 (c 4),.int .i64 (c 5)],.int .i64 number,.slice ao ds.length cap] w fun e w'=>(∃z,e=.returned (.tuple #[.string z,.int .i64 0])∧B z=rtext most number (rsum series sets ds).2 (rsum series sets ds).1)∧Below w.heap.size w w':=by
 have HSR:=hide hsrc;have HOK:=hide hok;have HTOK:=hide htok;have HDS:=hide hds;have H1:=hide hser;have H2:=hide hset;have H3:=hide hmost;have hgd:=Check.refGood (c 0) (c 1) (c 2) (c 3) (c 4) (c 5);rw[hgood]at hgd;have HGD:=hide hgd;have HS1:=hide (Sits.new w 23 #[.int .i64 (c 0),.int .i64 (c 1),.int .i64 (c 2),.int .i64 (c 3),.int .i64 (c 4),.int .i64 (c 5)]);have HB1:=hide (below_new (w:=w) (.cells #[.int .i64 (c 0),.int .i64 (c 1),.int .i64 (c 2),.int .i64 (c 3),.int .i64 (c 4),.int .i64 (c 5)] 23));clear hsrc hok htok hds hser hset hmost hgd hgood;go_enter Tryz.func21,Tryz.ntmps21
 go_upto_region 1 with fail
 obtain⟨X,hX⟩:∃X,w.heap.size=X:=⟨_,rfl⟩;rw[hX]at HS1 ⊢;clear hX;generalize w.alloc (.cells #[.int .i64 (c 0),.int .i64 (c 1),.int .i64 (c 2),.int .i64 (c 3),.int .i64 (c 4),.int .i64 (c 5)] 23)=w1 at *;obtain⟨b0,b1,b2,b3,b4,b5⟩:=cells6s HS1.out;go_wp2_with fail
 refine(HGD.out w1).mono ?_;rintro e w2 ⟨rfl,hb2⟩;have HS2:=hide (Mem.Sits.below HS1.out hb2 HS1.out.lt);have HB2:=hide (show Below w.heap.size w w2 from HB1.out.trans (hb2.mono HB1.out.size));clear b0 b1 b2 b3 b4 b5 hb2 HS1 HB1 HGD;obtain⟨b0,b1,b2,b3,b4,b5⟩:=cells6s HS2.out;have HSW:=hide (Sits.new w2 95 #[.int .i64 (c 0),.int .i64 (c 1),.int .i64 (c 2),.int .i64 (c 3),.int .i64 (c 4),.int .i64 (c 5),.slice none 0 0,.slice none 0 0,.int .i64 0,.int .i64 0]);have HBW:=hide (HB2.out.alloc HB2.out.size (.cells #[.int .i64 (c 0),.int .i64 (c 1),.int .i64 (c 2),.int .i64 (c 3),.int .i64 (c 4),.int .i64 (c 5),.slice none 0 0,.slice none 0 0,.int .i64 0,.int .i64 0] 95));have HFAR:=hide HB2.out.size;go_upto_region 5 with fail
 clear b0 b1 b2 b3 b4 b5 HS2 HB2;obtain⟨b,hb⟩:∃b,w2.heap.size=b:=⟨_,rfl⟩;rw[hb]at HSW HFAR ⊢;clear hb;generalize w2.alloc (.cells #[.int .i64 (c 0),.int .i64 (c 1),.int .i64 (c 2),.int .i64 (c 3),.int .i64 (c 4),.int .i64 (c 5),.slice none 0 0,.slice none 0 0,.int .i64 0,.int .i64 0] 95)=w3 at *;have HRW:=hide (show Rw w w3 b c [] [] 0 0 (.slice none 0 0) (.slice none 0 0) [] from⟨HFAR.out,HSW.out,World.ownsRow_nil _ _ _ _,World.ownsRow_nil _ _ _ _,rfl,rfl,fun i v l h=>by simp at h,fun i j v v' _ h=>by simp at h⟩);clear HSW HFAR;go_wp2_with fail
 go_loopw [10] (fun i wr=>∃(k:Nat) (s:Rs3) (rej:Nat) (K S:Value) (vs:List Value),i=.int .i64 (k:Int)∧k≤ds.length∧Hid (Rw w wr b c s.ks s.ss rej s.drp K S vs)∧Hid ((erS s,rej)=rsum series sets (ds.take k))∧Hid (Below w.heap.size w wr)) (fun i _=>ds.length - (intOf i).toNat)
 case atStart=>exact⟨0,⟨[],[],0⟩,0,_,_,_,rfl,by omega,HRW.out,rfl,HBW.out⟩
 case round=>
  obtain⟨k,s,rej,K,S,vs,rfl,hk,HR,HE,HB⟩:=hrel;by_cases hkl:k<ds.length
  ·have hkz:(k:Int)<(ds.length:Int):=by omega
   obtain⟨x,hx⟩:∃x,ds[k]? = some x:=⟨_,uF hkl⟩;obtain⟨a,rfl,hab,hcell⟩:=HSR.out k x hx;have hcell2:wr.cell? (a.add k)=some (.string ⟨x.toArray⟩):=by
    rw[HB.out.cell (p:=a.add k) (by rw[add_blockQ];exact hab)];exact hcell
   have hcall:=takeD w b c s rej K S vs ⟨x.toArray⟩ series sets H1.out H2.out wr HR.out HB.out.size (by rw[Bytes.size_B];exact HDS.out x (List.mem_of_getElem? hx)) (fun j=>by
    rw[HE.out];exact rsum_part hx HOK.out j)
   have HNX:=hide (rsum_next (series:=series) (sets:=sets) hx);clear hx hcell;go_wp2_with fail
   refine hcall.mono ?_;clear hcall;rintro e w4 ⟨rfl,⟨s',rej',K',S',vs',hR',hE'⟩,hb4⟩;have HR4:=hide hR';have HE4:=hide (show (erS s',rej')=rsum series sets (ds.take (k+1)) by
    rw[HNX.out,hE',HE.out];rfl)
   have HB4:=hide (HB.out.trans hb4);clear hR' hE' hb4 hcell2;go_wp2_with fail
   go_roundw
   case rel=>exact⟨k+1,s',rej',K',S',vs',by go_num,by omega,HR4.out,HE4.out,HB4.out⟩
   case measure=>simp only[intOf];omega
  ·have hkz:¬(k:Int)<(ds.length:Int):=by omega
   have hk2:k=ds.length:=by omega
   subst hk2;have hE:=HE.out;rw[uI]at hE;have htk:=HTOK.out;rw[←hE]at htk;have hcall:=textR w b c s rej K S vs most H3.out number hn0 hn1 wr HR.out hm2 hm (tok_er htk);have HT:=hide (show rtext most number rej s=rtext most number (rsum series sets ds).2 (rsum series sets ds).1 by
    rw[←hE];exact(rtext_er _ _ _ _).symm)
   clear hE htk;go_wp2_with fail
   refine hcall.mono ?_;clear hcall;rintro e w4 ⟨⟨z,rfl,hz⟩,hb4⟩;have HZ:=hide hz;have HB4:=hide (HB.out.trans (hb4.mono HB.out.size));clear hz hb4;go_wp2_with fail
   go_ret2
   exact⟨⟨z,rfl,by rw[HZ.out,HT.out]⟩,HB4.out⟩
end Go.Proofs.YtenegfafjjknoaaGreatDoor.Ra
namespace Go.Proofs.YtenegfafjjknoaaGreatDoor.Ra
open Bytes Wm Im Refl Opts
theorem wordsOf_all (l:List Sx):wordsOf l=Sorts.insAll [] (l.map fun x=>B x.wb):=by
 unfold wordsOf Sorts.insAll;rw[uV]
theorem wordsOf_ss (l:List Sx):Sorts.SS (wordsOf l):=by
 rw[wordsOf_all];exact Sorts.insAll_ss _ _ uY.nil
theorem ins_mem' (t:List UInt8)(l:List (List UInt8))(x:List UInt8):x∈Refi.ins t l↔x=t∨x∈l:=by
 rw[Sorts.ins_eq];exact Sorts.sins_mem t l x
theorem ins_ss' (t:List UInt8){l:List (List UInt8)}(h:Sorts.SS l):Sorts.SS (Refi.ins t l):=by
 rw[Sorts.ins_eq];exact Sorts.sins_ss t l h
theorem wordsOf_more (l:List Sx)(x:Sx):wordsOf (l++[x])=Refi.ins (B x.wb) (wordsOf l):=by
 unfold wordsOf;rw[uH];rfl
theorem up_ss {β:Type}{ws:List (Bs×β)}:Up sLt ws↔Sorts.SS (ws.map (·.1)):=by
 unfold Up Sorts.SS;rw[List.pairwise_map];simp[sLt]
theorem put_keys {β:Type}{k x:Bs}{b:β}{l:List (Bs×β)}:x∈(put sLt k b l).map (·.1)↔x=k∨x∈l.map (·.1):=by
 constructor
 ·intro h;obtain⟨p,hp,rfl⟩:=uN.1 h;rcases mem_put hp with rfl|⟨h1,_⟩
  ·exact Or.inl rfl
  ·exact Or.inr (uB h1)
 ·intro h;unfold put;by_cases e:x=k
  ·subst e;exact uN.2 ⟨(x,b),(mem_ins _ _ _).2 (Or.inl rfl),rfl⟩
  ·rcases h with h|h
   ·exact absurd h e
   ·obtain⟨p,hp,rfl⟩:=uN.1 h;exact uN.2 ⟨p,(mem_ins _ _ _).2 (Or.inr (List.mem_filter.2 ⟨hp,by simp[e]⟩)),rfl⟩
theorem getE_put_same {β:Type}{k:Bs}{b:β}{l:List (Bs×β)}(h:Up sLt l):getE k (put sLt k b l)=some b:=by
 have hu:Up sLt (put sLt k b l):=h.put sLt_trans sLt_total k b;have hm:(k,b)∈put sLt k b l:=(mem_ins _ _ _).2 (Or.inl rfl);cases hg:getE k (put sLt k b l) with
 | none=>exact absurd (uB (f:=(·.1)) hm) (getE_none hg)
 | some b'=>
  have h1:=getE_mem hg;rcases mem_put h1 with e|⟨_,e⟩
  ·injection e with _ e;rw[e]
  ·exact absurd rfl e
theorem getE_put_other {β:Type}{k k':Bs}{b:β}{l:List (Bs×β)}(h:Up sLt l)(hne:k'≠k):getE k' (put sLt k b l)=getE k' l:=by
 have hu:Up sLt (put sLt k b l):=h.put sLt_trans sLt_total k b;have uniq:∀{l:List (Bs×β)},Up sLt l→∀{k:Bs} {b b':β},(k,b)∈l→(k,b')∈l→b=b':=by
  intro l
  induction l with
  | nil=>intro _ k b b' h;cases h
  | cons p r ih=>
   intro h k b b' h1 h2;have hp:=uO.1 h;rcases uR.1 h1 with e1|e1
   ·rcases uR.1 h2 with e2|e2
    ·rw[←e1]at e2;injection e2 with _ e;exact e.symm
    ·have:=hp.1 _ e2;rw[←e1,sLt_irr]at this;cases this
   ·rcases uR.1 h2 with e2|e2
    ·have:=hp.1 _ e1;rw[←e2,sLt_irr]at this;cases this
    ·exact ih hp.2 e1 e2
 cases hg:getE k' l with
 | none=>
  cases hq:getE k' (put sLt k b l) with
  | none=>rfl
  | some b'=>
   rcases put_keys.1 (uB (f:=(·.1)) (getE_mem hq)) with e|e
   ·exact absurd e hne
   ·exact absurd e (getE_none hg)
 | some b1=>
  have h1:(k',b1)∈put sLt k b l:=(mem_ins _ _ _).2 (Or.inr (List.mem_filter.2 ⟨getE_mem hg,by simp[hne]⟩));cases hq:getE k' (put sLt k b l) with
  | none=>exact absurd (uB (f:=(·.1)) h1) (getE_none hq)
  | some b'=>rw[uniq hu h1 (getE_mem hq)]
def SR (L:Lim)(l:List Sx):Ser→Prop
 | .num n=>(∀x∈l,Nsx x∧B x.wb=[])∧n=numOf l
 | .set ws=>(∀x∈l,x.K=115)∧ws.map (·.1)=wordsOf l∧∀k,k≤l.length→(wordsOf (l.take k)).length≤L.sets
 | .tim t=>(∀x∈l,(x.K=109∧Tsx x)∧B x.wb=[])∧t=timOf L.buckets l
theorem rd_word {l:Bs}{m:Smp}(h:rd l=some m)(hk:m.kind≠[115]):m.word=[]:=by
 have rvw:∀{k l k' x:Bs} {g:Bool} {v:Int},Vals.rv k l=some (k',g,v,x)→k'≠[115]→x=[]:=by
  intro k l k' x g v h hne;unfold Vals.rv at h;split at h
  ·split at h
   ·cases h;exact absurd rfl hne
   ·cases h
  ·split at h
   ·simp only[Option.map_eq_some_iff]at h;obtain⟨_,_,h⟩:=h;cases h;rfl
   ·split at h
    ·simp only[Option.map_eq_some_iff]at h;obtain⟨_,_,h⟩:=h;cases h;rfl
    ·split at h
     ·simp only[Option.map_eq_some_iff]at h;obtain⟨_,_,h⟩:=h;cases h;rfl
     ·cases h
 unfold rd at h;split at h
 ·split at h
  ·unfold rdBehind at h;split at h
   ·simp only[Option.bind_eq_some_iff]at h;obtain⟨⟨k',g,v,x⟩,hx,h⟩:=h;split at h
    ·simp only[Option.map_eq_some_iff]at h;obtain⟨o,_,rfl⟩:=h;exact rvw hx hk
    ·cases h
     exact rvw hx hk
   ·cases h
  ·cases h
 ·cases h
theorem words_none {l:List Sx}(h:∀x∈l,B x.wb=[]):(wordsOf l).length≤1:=by
 have h1:∀x∈wordsOf l,x=[]:=by
  intro x hx;rw[wordsOf_all,Sorts.insAll_mem]at hx;rcases hx with hx|hx
  ·cases hx
  ·obtain⟨y,hy,rfl⟩:=uN.1 hx;exact h y hy
 have h2:=wordsOf_ss l;cases hw:wordsOf l with
 | nil=>exact uW _
 | cons a r=>
  cases r with
  | nil=>exact uQ _
  | cons b r=>
   rw[hw]at h1 h2;have:=(uO.1 h2).1 b (uA ..);rw[h1 a (uA ..),h1 b (uS _ (uA ..))]at this;exact absurd this (List.lt_irrefl _)
theorem SR.zero (L:Lim)(k:Bs):SR L [] (ser0 k):=by
 unfold ser0;split
 ·exact⟨(fun x h=>by cases h),rfl,fun k _=>by rw[List.take_nil];exact uW _⟩
 ·split
  ·exact⟨(fun x h=>by cases h),rfl⟩
  ·exact⟨(fun x h=>by cases h),rfl⟩
def Drp (sets:Nat)(l:List Sx)(x:Sx):Prop:=x.K=115∧B x.wb∉wordsOf l∧sets≤(wordsOf l).length
theorem has_words {m:Smp}{ws:List (Bs×Unit)}{l:List Sx}(h:ws.map (·.1)=wordsOf l):Im.has m.word ws=true↔m.word∈wordsOf l:=by
 rw[has_iff,h]
theorem mem_more {p:Sx→Prop}{l:List Sx}{x:Sx}(h:∀y∈l,p y)(hx:p x):∀y∈l++[x],p y:=by
 intro y hy;rcases List.mem_append.1 hy with hy|hy
 ·exact h y hy
 ·rw[uX]at hy;rw[hy];exact hx
theorem take_more {l:List Sx}{x:Sx}{k:Nat}(h:k≤l.length):(l++[x]).take k=l.take k:=by
 rw[List.take_append,show k - l.length=0 by omega,List.take_zero,uT]
theorem SR.step {L:Lim}{l:List Sx}{s:Ser}{m:Smp}{ln:Bs}(h:SR L l s)(hf:fits m.kind s)(hr:rd ln=some m):
  (Drp L.sets l (sxOf (Same.cv m))→stake L m s=(s,false))∧(¬Drp L.sets l (sxOf (Same.cv m))→∃s',stake L m s=(s',true)∧SR L (l++[sxOf (Same.cv m)]) s'):=by
 have hsh:=Same.short_of (l:=ln) (m:=Same.cv m) (by rw[Same.refRd_eq,hr];rfl);obtain⟨_,_,hv,hrt,_,_⟩:=hsh;obtain⟨_,hkd⟩:=rd_kind hr;have hmd:=Same.rd_made hr;have hw:B (sxOf (Same.cv m)).wb=m.word:=rfl;have hK:(sxOf (Same.cv m)).K=Same.kb m.kind m.signed:=rfl;cases s with
 | num n=>
  obtain⟨h1,h2⟩:=h;have hnd:¬(sxOf (Same.cv m)).K=115:=by
   rw[hK];rcases hf with e|e<;>rw[e]<;>unfold Same.kb<;>simp<;>split<;>decide
  have hnd2:¬(sxOf (Same.cv m)).K=109:=by
   rw[hK];rcases hf with e|e<;>rw[e]<;>unfold Same.kb<;>simp<;>split<;>decide
  refine⟨fun h=>absurd h.1 hnd,fun _=>⟨_,rfl,mem_more h1 ⟨⟨hnd,hnd2,hv.1,hv.2,hrt.1,hrt.2⟩,rd_word hr (by rcases hf with e|e<;>rw[e]<;>decide)⟩,?_⟩⟩;unfold numOf;rw[uH];show _=numStep (numOf l) _;rw[←h2];unfold numStep;rw[hK];rcases hf with e|e
  ·rw[e,if_pos rfl,if_pos (show Same.kb [99] m.signed=99 from rfl),Int.add_comm];rfl
  ·rw[e,if_neg (by decide)];cases hs:m.signed with
   | true=>rw[if_pos rfl,if_neg (by decide),if_neg (by decide),Int.add_comm];rfl
   | false=>rw[if_neg (by decide),if_neg (by decide),if_pos (by decide)];rfl
 | tim t=>
  obtain⟨h1,h2⟩:=h;have hkk:m.kind=[109,115]:=hf;have h0:0≤m.value:=by
   rcases hkd with e|e|e|⟨_,e⟩
   ·rw[hkk]at e;cases e
   ·rw[hkk]at e;cases e
   ·rw[hkk]at e;cases e
   ·exact e
  have hKK:(sxOf (Same.cv m)).K=109:=by rw[hK,hkk];rfl
  refine⟨fun h=>by rw[Drp,hKK]at h;exact absurd h.1 (by decide),fun _=>⟨_,rfl,mem_more h1 ⟨⟨hKK,h0,hv.2,hrt.1,hrt.2⟩,rd_word hr (by rw[hkk];decide)⟩,?_⟩⟩;unfold timOf;rw[uH];show _=tadd L.buckets (timOf L.buckets l) _ _;rw[←h2];rfl
 | set ws=>
  obtain⟨h1,h2,h3⟩:=h;have hkk:m.kind=[115]:=hf;have hKK:(sxOf (Same.cv m)).K=115:=by rw[hK,hkk];rfl
  have hlen:ws.length=(wordsOf l).length:=by rw[←h2,uL]
  have hfull:(wordsOf l).length≤L.sets:=by have:=h3 l.length (uQ _);rwa [uI]at this
  constructor
  ·rintro⟨_,hd1,hd2⟩;rw[hw]at hd1;have:Im.has m.word ws=false:=by
    cases hh:Im.has m.word ws with
    | false=>rfl
    | true=>exact absurd ((has_words h2).1 hh) hd1
   simp only[stake,this,Bool.false_eq_true,if_false];rw[if_pos (by omega)]
  ·intro hnd;by_cases hh:Im.has m.word ws=true
   ·have hin:=(has_words h2).1 hh;have hsame:wordsOf (l++[sxOf (Same.cv m)])=wordsOf l:=by
     rw[wordsOf_more,hw];refine Sorts.ss_ext _ _ (ins_ss' _ (wordsOf_ss l)) (wordsOf_ss l) fun x=>?_
     rw[ins_mem'];constructor
     ·rintro(rfl|h)
      ·exact hin
      ·exact h
     ·exact Or.inr
    refine⟨.set ws,by simp only[stake,hh,if_true],mem_more h1 hKK,by rw[hsame,h2],fun k hk=>?_⟩;by_cases hk2:k≤l.length
    ·rw[take_more hk2];exact h3 k hk2
    ·rw[uJ (by rw[uK,uM];omega),hsame];exact hfull
   ·have hnin:m.word∉wordsOf l:=fun h=>hh ((has_words h2).2 h)
    have hroom:¬L.sets≤(wordsOf l).length:=fun h=>hnd ⟨hKK,hnin,h⟩
    have hup:Up sLt ws:=up_ss.2 (by rw[h2];exact wordsOf_ss l);have hhf:Im.has m.word ws=false:=by
     cases hq:Im.has m.word ws with
     | false=>rfl
     | true=>exact absurd hq hh
    have hkeys:(put sLt m.word () ws).map (·.1)=wordsOf (l++[sxOf (Same.cv m)]):=by
     rw[wordsOf_more,hw];refine Sorts.ss_ext _ _ (up_ss.1 (hup.put sLt_trans sLt_total _ _)) (ins_ss' _ (wordsOf_ss l)) fun x=>?_
     rw[ins_mem',put_keys,h2]
    have hgl:(wordsOf (l++[sxOf (Same.cv m)])).length≤L.sets:=by
     rw[←hkeys,uL];have:=(put_length_le (lt:=sLt) (k:=m.word) (b':=()) (Up.nodup sLt_irr hup)).2;omega
    refine⟨.set (put sLt m.word () ws),?_,mem_more h1 hKK,hkeys,fun k hk=>?_⟩
    ·simp only[stake,hhf,Bool.false_eq_true,if_false];rw[if_neg (by omega)]
    ·by_cases hk2:k≤l.length
     ·rw[take_more hk2];exact h3 k hk2
     ·rw[uJ (by rw[uK,uM];omega)];exact hgl
theorem put_self {β:Type}{k:Bs}{b:β}{l:List (Bs×β)}(h:Up sLt l)(hg:getE k l=some b):put sLt k b l=l:=by
 induction l with
 | nil=>cases hg
 | cons p r ih=>
  have hp:=uO.1 h;by_cases e:p.1=k
  ·rw[getE_cons_eq e]at hg;injection hg with hg;have hnr:Im.has k r=false:=by
    refine(has_false k r).2 fun hm=>?_
    obtain⟨q,hq,hq2⟩:=uN.1 hm;have:=hp.1 q hq;rw[e,←hq2,sLt_irr]at this;cases this
   have hd:del k (p ::r)=r:=by
    show (p ::r).filter _=r;rw[List.filter_cons_of_neg (by simp[e])];exact del_of_not k r hnr
   have hx:(k,b)=p:=by rw[←hg,←e]
   unfold put;rw[hd,hx];cases r with
   | nil=>rfl
   | cons y r'=>rw[Im.ins,if_pos (hp.1 y (uA ..))]
  ·rw[getE_cons_ne e]at hg;have hd:del k (p ::r)=p ::del k r:=by
    show (p ::r).filter _=_;rw[List.filter_cons_of_pos (by simp[e])];rfl
   have hlt:sLt p.1 k=true:=hp.1 (k,b) (getE_mem hg);have hng:¬sLt k p.1=true:=fun h2=>by
    have:=sLt_trans _ _ _ hlt h2;rw[sLt_irr]at this;cases this
   unfold put;rw[hd,Im.ins,if_neg hng];exact congrArg (p ::·) (ih hp.2 hg)
structure Rl (L:Lim)(n:Nat)(st:Rs3×Nat)(W:Win):Prop where
 wf:WFit L n W
 rej:st.2=W.rejects
 drp:st.1.drp=W.drops
 nd:st.1.ks.Nodup
 sl:st.1.ss.length=st.1.ks.length
 mem:∀k,k∈st.1.ks↔k∈W.ser.map (·.1)
 each:∀(i:Nat) k,st.1.ks[i]? = some k→∃l se,st.1.ss[i]? = some l∧getE k W.ser=some se∧l≠[]∧SR L l se∧l.length≤n
theorem Rl.zero (L:Lim):Rl L 0 st0 win0:=⟨WFit.zero L,rfl,rfl,List.nodup_nil,rfl,fun k=>Iff.rfl,fun i k h=>by simp[st0]at h⟩
theorem Rl.len {L:Lim}{n:Nat}{st:Rs3×Nat}{W:Win}(h:Rl L n st W):st.1.ks.length=W.ser.length:=by
 have:=((List.perm_ext_iff_of_nodup h.nd (Up.nodup sLt_irr h.wf.up)).2 h.mem).length_eq;rwa [uL]at this
theorem rkey_key {l:Bs}{m:Smp}(h:rd l=some m):rkey (Same.cv m)=Wm.key m:=by
 unfold rkey Wm.key;have:B (Reft.ty (Same.cv m).kind)=m.kind:=by
  show B (Reft.ty (Same.kb m.kind m.signed))=m.kind;rcases Same.rd_made h with ⟨e,_⟩|e|⟨e,_⟩|⟨e,_⟩
  ·rw[e];rfl
  ·rw[e];cases m.signed<;>rfl
  ·rw[e];rfl
  ·rw[e];rfl
 rw[this];rfl
theorem pl_in {k:List UInt8}{ks:List (List UInt8)}(h:k∈ks):ks[pl k ks]? = some k:=by
 have hl:=pl_mem h;rw[uF hl];have:=List.findIdx_getElem (p:=fun x=>x==k) (xs:=ks) (w:=hl);exact congrArg some (eq_of_beq this)
theorem pl_none {k:List UInt8}{ks:List (List UInt8)}(h:k∉ks):pl k ks=ks.length:=by
 unfold pl;rw[List.findIdx_eq_length];intro x hx;simp only[beq_eq_false_iff_ne];exact fun e=>h (e▸hx)
theorem at_one {ks:List (List UInt8)}(hn:ks.Nodup){i j:Nat}{k:List UInt8}(hi:ks[i]? = some k)(hj:ks[j]? = some k):i=j:=by
 exact(List.getElem?_inj (uC.1 hi).1 hn).1 (hi.trans hj.symm)
theorem Rl.put {L:Lim}{n:Nat}{s:Rs3}{rej:Nat}{W:Win}{i:Nat}{k:List UInt8}{l:List Sx}{x:Sx}{se:Ser}{d:Nat}(hwf:WFit L (n+1) ⟨W.rejects,d,put sLt k se W.ser⟩)(hup:Up sLt W.ser)
  (hrej:rej=W.rejects) (hnd:s.ks.Nodup) (hsl:s.ss.length=s.ks.length) (hmem:∀y,y∈s.ks↔y=k∨y∈W.ser.map (·.1))
  (hi:s.ks[i]? = some k) (hl:s.ss.getD i []=l) (hln:l.length≤n) (hsr:SR L (l++[x]) se)
  (heach:∀(j:Nat) y,s.ks[j]? = some y→j≠i→∃l se,s.ss[j]? = some l∧getE y W.ser=some se∧l≠[]∧SR L l se∧l.length≤n):
  Rl L (n+1) (⟨s.ks,s.ss.set i (s.ss.getD i []++[x]),d⟩,rej) ⟨W.rejects,d,Im.put sLt k se W.ser⟩:=by
 have hil:=(uC.1 hi).1;refine⟨hwf,hrej,rfl,hnd,by rw[List.length_set];exact hsl,fun y=>?_,fun j y hj=>?_⟩
 ·rw[put_keys];exact hmem y
 ·by_cases e:j=i
  ·subst e;have hy:y=k:=by
    have:s.ks[j]? = some y:=hj;rw[hi]at this;injection this with this;exact this.symm
   subst hy;refine⟨l++[x],se,?_,getE_put_same hup,by simp,hsr,by rw[uK,uM];omega⟩;rw[hl];exact List.getElem?_set_self (by omega)
  ·obtain⟨l',se',h1,h2,h3,h4,h5⟩:=heach j y hj e;have hne:y≠k:=fun h=>e (at_one hnd (h▸hj) hi)
   exact⟨l',se',by rw[List.getElem?_set_ne (Ne.symm e)];exact h1,by rw[getE_put_other hup hne];exact h2,h3,h4,by omega⟩
theorem Rl.take {L:Lim}{n:Nat}{s:Rs3}{rej:Nat}{W:Win}(h:Rl L n (s,rej) W)(hb:2≤L.buckets)(hs:1≤L.sets){ln:Bs}{m:Smp}(hr:rd ln=some m):
  Rl L (n+1) (rtake L.series L.sets (rkey (Same.cv m)) (sxOf (Same.cv m)) s,rej) (wtake L W m):=by
 have hwf:=h.wf.take hb hr;have hrej:rej=W.rejects:=h.rej;have hdrp:s.drp=W.drops:=h.drp;have hnd:s.ks.Nodup:=h.nd;have hsl:s.ss.length=s.ks.length:=h.sl;have hlen:s.ks.length=W.ser.length:=h.len;have hmem:∀k,k∈s.ks↔k∈W.ser.map (·.1):=h.mem;have heach:∀(i:Nat) k,s.ks[i]? = some k→∃l se,s.ss[i]? = some l∧getE k W.ser=some se∧l≠[]∧SR L l se∧l.length≤n:=h.each;have keep:∀W',WFit L (n+1) W'→W'.rejects=W.rejects→W'.drops=W.drops+1→W'.ser=W.ser→Rl L (n+1) (⟨s.ks,s.ss,s.drp+1⟩,rej) W':=by
  intro W' h1 h2 h3 h4;refine⟨h1,by rw[h2];exact hrej,by rw[h3,←hdrp],hnd,hsl,fun k=>by rw[h4];exact hmem k,fun i k hk=>?_⟩;obtain⟨l,se,a1,a2,a3,a4,a5⟩:=heach i k hk;exact⟨l,se,a1,by rw[h4];exact a2,a3,a4,by omega⟩
 rw[rkey_key hr];unfold wtake at hwf ⊢;unfold rtake;cases hg:getE (Wm.key m) W.ser with
 | some se=>
  rw[hg]at hwf;simp only at hwf ⊢;have hin:Wm.key m∈s.ks:=(hmem _).2 (uB (f:=(·.1)) (getE_mem hg));have hp:=pl_in hin;have hpl:=pl_mem hin;obtain⟨l,se',a1,a2,a3,a4,a5⟩:=heach _ _ hp;rw[hg]at a2;injection a2 with a2;subst a2;have hfit:=(h.wf.ser _ (getE_mem hg)).kind;simp only[kindOf_key hr]at hfit;obtain⟨st1,st2⟩:=a4.step hfit hr;rw[if_neg (by omega)];have hpl2:rplace (Wm.key m) s=s:=by unfold rplace;rw[if_neg (by omega)]
  have hgd:s.ss.getD (pl (Wm.key m) s.ks) []=l:=by rw[uD,a1];rfl
  rw[hpl2];unfold rin;by_cases hD:Drp L.sets l (sxOf (Same.cv m))
  ·rw[if_pos (by rw[hgd];exact hD)];have e:=st1 hD;rw[e]at hwf ⊢;refine keep _ hwf rfl rfl ?_;exact put_self h.wf.up hg
  ·rw[if_neg (by rw[hgd];exact hD)];obtain⟨s',e,hsr⟩:=st2 hD;rw[e]at hwf ⊢;simp only[if_true]at hwf ⊢;rw[hdrp];exact Rl.put hwf h.wf.up hrej hnd hsl (fun y=>by
    rw[hmem];constructor
    ·exact Or.inr
    ·rintro(rfl|hy)
     ·exact(hmem _).1 hin
     ·exact hy) hp hgd a5 hsr (fun j y hj _=>heach j y hj)
 | none=>
  rw[hg]at hwf;simp only at hwf ⊢;have hnin:Wm.key m∉s.ks:=fun h1=>getE_none hg ((hmem _).1 h1)
  have hp:=pl_none hnin;by_cases hfull:L.series≤W.ser.length
  ·rw[if_pos hfull]at hwf ⊢;rw[if_pos ⟨hp,by omega⟩];exact keep _ hwf rfl rfl rfl
  ·rw[if_neg hfull]at hwf ⊢;rw[if_neg (by omega)];have hpl2:rplace (Wm.key m) s=⟨s.ks++[Wm.key m],s.ss++[[]],s.drp⟩:=by unfold rplace;rw[if_pos hp]
   rw[hpl2,hp];have hfit:fits m.kind (ser0 m.kind):=by
    have:=(SFit.zero (L:=L) (n:=n) hr).kind;rwa [kindOf_key hr]at this
   obtain⟨_,st2⟩:=(SR.zero L m.kind).step hfit hr;have hgd:(s.ss++[[]]).getD s.ks.length []=[]:=by rw[←hsl,uD,List.getElem?_concat_length];rfl
   have hD:¬Drp L.sets [] (sxOf (Same.cv m)):=fun ⟨_,_,h3⟩=>by
    have:(wordsOf []).length=0:=rfl;omega
   unfold rin;simp only;rw[if_neg (by rw[hgd];exact hD)];obtain⟨s',e,hsr⟩:=st2 hD;rw[e]at hwf ⊢;simp only[if_true]at hwf ⊢;rw[hdrp];refine Rl.put (s:=⟨s.ks++[Wm.key m],s.ss++[[]],W.drops⟩) (l:=[]) hwf h.wf.up hrej ?_ ?_ (fun y=>?_) ?_ hgd (uW _) hsr (fun j y hj hne=>?_)
   ·rw[List.nodup_append];exact⟨hnd,uY.cons (fun _ h=>by cases h) uY.nil,fun a ha b hb e=>hnin (by rw[uX]at hb;rw[←hb,←e];exact ha)⟩
   ·simp only[uK,uM,hsl]
   ·simp only[List.mem_append,uX,hmem];exact Or.comm
   ·exact List.getElem?_concat_length
   ·have hj2:(s.ks++[Wm.key m])[j]? = some y:=hj;have hjl:j<s.ks.length:=by
     have:=(uC.1 hj2).1;rw[uK,uM]at this;omega
    rw[List.getElem?_append_left hjl]at hj2;obtain⟨l,se,a1,a2⟩:=heach j y hj2;exact⟨l,se,by show (s.ss++[[]])[j]? = _;rw[List.getElem?_append_left (by omega)];exact a1,a2⟩
theorem Rl.line {L:Lim}{n:Nat}{st:Rs3×Nat}{W:Win}(h:Rl L n st W)(hb:2≤L.buckets)(hs:1≤L.sets)(ln:Bs):Rl L (n+1) (rline L.series L.sets st ln) (wline L W ln):=by
 have hw:=h.wf.line hb ln;unfold rline;unfold wline at hw ⊢;by_cases he:ln=[]
 ·rw[if_pos he]at hw ⊢;rw[if_pos he];exact⟨hw,h.rej,h.drp,h.nd,h.sl,h.mem,fun i k hk=>by
   obtain⟨l,se,a1,a2,a3,a4,a5⟩:=h.each i k hk;exact⟨l,se,a1,a2,a3,a4,by omega⟩⟩
 ·rw[if_neg he]at hw ⊢;rw[if_neg he,Same.refRd_eq];cases hr:rd ln with
  | none=>
   rw[hr]at hw;exact⟨hw,by show st.2+1=W.rejects+1;rw[h.rej],h.drp,h.nd,h.sl,h.mem,fun i k hk=>by
    obtain⟨l,se,a1,a2,a3,a4,a5⟩:=h.each i k hk;exact⟨l,se,a1,a2,a3,a4,by omega⟩⟩
  | some m=>exact Rl.take (s:=st.1) (rej:=st.2) h hb hs hr
theorem Rl.lines {L:Lim}(hb:2≤L.buckets)(hs:1≤L.sets):∀(ls:List Bs) {n:Nat} {st:Rs3×Nat} {W:Win},Rl L n st W→Rl L (n+ls.length) (ls.foldl (rline L.series L.sets) st) (ls.foldl (wline L) W):=by
 intro ls
 induction ls with
 | nil=>intro n st W h;exact h
 | cons l r ih=>
  intro n st W h;have:=ih (h.line hb hs l);rw[show n+1+r.length=n+(l ::r).length by rw[uE];omega]at this;exact this
theorem wsum_all (L:Lim)(ds:List Bs):wsum L ds=(allL ds).foldl (wline L) win0:=by
 unfold wsum allL;rw[List.foldl_flatMap];rfl
theorem rl_sum {L:Lim}(hb:2≤L.buckets)(hs:1≤L.sets)(ds:List Bs):Rl L (allL ds).length (rsum L.series L.sets ds) (wsum L ds):=by
 rw[wsum_all];have:=Rl.lines hb hs (allL ds) (Rl.zero L);rwa [Nat.zero_add]at this
theorem Rl.row {L:Lim}{n:Nat}{st:Rs3×Nat}{W:Win}(h:Rl L n st W){i:Nat}{l:List Sx}(hl:st.1.ss[i]? = some l):∃se,l≠[]∧SR L l se∧l.length≤n:=by
 have hi:=(uC.1 hl).1;obtain⟨k,hk⟩:∃k,st.1.ks[i]? = some k:=⟨_,uF (by rw[←h.sl];exact hi)⟩;obtain⟨l',se,a1,a2,a3,a4,a5⟩:=h.each i k hk;rw[hl]at a1;injection a1 with a1;subst a1;exact⟨se,a3,a4,a5⟩
theorem rl_ok {L:Lim}{n:Nat}{st:Rs3×Nat}{W:Win}(h:Rl L n st W)(h1:L.series≤1000)(h2:L.sets≤1000)(hn:n≤10000000):Okst st:=by
 have hc:=h.wf.cnt;refine⟨by rw[h.len];exact uG h.wf.len h1,by rw[h.drp];omega,by rw[h.rej];omega,fun i l hl=>?_⟩;obtain⟨se,_,hsr,hln⟩:=h.row hl;refine⟨by omega,fun k hk=>?_⟩;cases se with
 | num x=>exact uG (words_none fun y hy=>(hsr.1 y (List.mem_of_mem_take hy)).2) (by omega)
 | tim t=>exact uG (words_none fun y hy=>(hsr.1 y (List.mem_of_mem_take hy)).2) (by omega)
 | set ws=>exact uG (hsr.2.2 k hk) h2
theorem sr_same {L:Lim}{l:List Sx}{se:Ser}(h:SR L l se)(h2:L.sets≤1000):Same l:=by
 cases se with
 | num x=>exact .num fun y hy=>(h.1 y hy).1
 | tim t=>exact .tim fun y hy=>(h.1 y hy).1
 | set ws=>exact .set h.1 fun k hk=>uG (h.2.2 k hk) h2
theorem sr_tell {L:Lim}{l:List Sx}{se:Ser}(h:SR L l se)(hl:l≠[]):tell L.buckets l=stext se:=by
 cases l with
 | nil=>exact absurd rfl hl
 | cons x r=>
  rw[tell];cases se with
  | num n=>
   have h1:=(h.1 x (uA ..)).1;rw[if_neg h1.1,if_neg h1.2.1,←h.2];rfl
  | tim t=>
   have h1:=(h.1 x (uA ..)).1;rw[if_neg (fun e=>by rw[h1.1]at e;exact absurd e (by decide)),if_pos h1.1,←h.2]
  | set ws=>
   rw[if_pos (h.1 x (uA ..)),←h.2.1,uL];rfl
theorem sortK_all (ks:List (List UInt8)):sortK ks=Sorts.insAll [] ks:=rfl
theorem ins_len (t:List UInt8)(l:List (List UInt8)):(Refi.ins t l).length≤l.length+1:=by
 rw[Sorts.ins_eq]
 induction l with
 | nil=>exact uQ _
 | cons x l ih=>
  rw[Sorts.sins];split
  ·rw[uE];exact Nat.succ_le_succ (List.length_filter_le _ _)
  ·rw[uE,uE];omega
theorem sortK_len (ks:List (List UInt8)):(sortK ks).length≤ks.length:=by
 have key:∀(r acc:List (List UInt8)),(r.foldl (fun a k=>Refi.ins k a) acc).length≤acc.length+r.length:=by
  intro r
  induction r with
  | nil=>intro acc;exact uQ _
  | cons x r ih=>
   intro acc;have h1:=ih (Refi.ins x acc);have h2:=ins_len x acc;rw[List.foldl_cons,uE];omega
 have:=key ks [];rwa [List.length_nil,Nat.zero_add]at this
theorem sortK_mem {ks:List (List UInt8)}{k:List UInt8}:k∈sortK ks↔k∈ks:=by
 rw[sortK_all,Sorts.insAll_mem];simp
theorem rl_tok {L:Lim}{n:Nat}{st:Rs3×Nat}{W:Win}(h:Rl L n st W)(h1:L.series≤1000)(h2:L.sets≤1000)(hn:n≤10000000):Tok st.1 st.2:=by
 have hok:=rl_ok h h1 h2 hn;refine⟨hok.1,fun k hk=>?_,hok.2.1,hok.2.2.1,fun i l hl=>?_,fun k hk=>?_,fun k hk=>sortK_mem.1 hk⟩
 ·obtain⟨p,hp,rfl⟩:=uN.1 ((h.mem k).1 hk);exact uG (h.wf.ser p hp).klen (by omega)
 ·obtain⟨se,a1,a2,a3⟩:=h.row hl;exact⟨a1,by omega,sr_same a2 h2⟩
 ·have:=sortK_len (st.1.ks.take k);have:=hok.1;rw[List.length_take]at *;omega
theorem sortK_is {L:Lim}{n:Nat}{st:Rs3×Nat}{W:Win}(h:Rl L n st W):sortK st.1.ks=W.ser.map (·.1):=by
 refine Sorts.ss_ext _ _ ?_ (up_ss.1 h.wf.up) fun x=>by rw[sortK_mem];exact h.mem x
 rw[sortK_all];exact Sorts.insAll_ss _ _ uY.nil
theorem getE_of_mem {l:List (Bs×Ser)}(h:Up sLt l){p:Bs×Ser}(hp:p∈l):getE p.1 l=some p.2:=by
 have h1:getE p.1 (put sLt p.1 p.2 l)=some p.2:=getE_put_same h;have h2:∃b,getE p.1 l=some b:=by
  cases hg:getE p.1 l with
  | none=>exact absurd (uB (f:=(·.1)) hp) (getE_none hg)
  | some b=>exact⟨b,rfl⟩
 obtain⟨b,hb⟩:=h2;rw[hb];have hm:=getE_mem hb
 induction l with
 | nil=>cases hp
 | cons q r ih=>
  have hq:=uO.1 h;by_cases e:q.1=p.1
  ·rw[getE_cons_eq e]at hb;rcases uR.1 hp with e2|e2
   ·rw[←hb,e2]
   ·have:=hq.1 p e2;rw[e,sLt_irr]at this;cases this
  ·rw[getE_cons_ne e]at hb;rcases uR.1 hp with e2|e2
   ·exact absurd (congrArg (·.1) e2).symm e
   ·exact ih hq.2 e2 (getE_put_same hq.2) hb (getE_mem hb)
theorem rl_text {L:Lim}{n:Nat}{st:Rs3×Nat}{W:Win}(h:Rl L n st W)(number:Int):rtext L.buckets number st.2 st.1=wtext number W:=by
 unfold rtext wtext;rw[h.rej,h.drp,sortK_is h]
 congr 1
 have key:∀r:List (Bs×Ser),(∀p∈r,p∈W.ser)→(r.map (·.1)).flatMap (rlineT L.buckets st.1)=stexts r:=by
  intro r
  induction r with
  | nil=>intro _;rfl
  | cons p r ih=>
   intro hr;rw[List.map_cons,vA,ih fun q hq=>hr q (uS _ hq)];have hp:=hr p (uA ..);have hin:p.1∈st.1.ks:=(h.mem _).2 (uB hp);obtain⟨l,se,a1,a2,a3,a4,_⟩:=h.each _ _ (pl_in hin);rw[getE_of_mem h.wf.up hp]at a2;injection a2 with a2;have e:rlineT L.buckets st.1 p.1=p.1++[61]++stext p.2++[10]:=by
    unfold rlineT;rw[uD,a1,a2];show p.1++[61]++tell L.buckets l++[10]=_;rw[sr_tell a4 a3]
   rw[e];rfl
 exact key W.ser fun p hp=>hp
theorem sum_ok {L:Lim}(hb:2≤L.buckets)(hs:1≤L.sets)(h1:L.series≤1000)(h2:L.sets≤1000){ds:List Bs}(hn:(allL ds).length≤10000000)(n:Nat):Okst (((allL ds).take n).foldl (rline L.series L.sets) st0):=by
 have:=Rl.lines hb hs ((allL ds).take n) (Rl.zero L);exact rl_ok this h1 h2 (by rw[Nat.zero_add,List.length_take];omega)
end Go.Proofs.YtenegfafjjknoaaGreatDoor.Ra
