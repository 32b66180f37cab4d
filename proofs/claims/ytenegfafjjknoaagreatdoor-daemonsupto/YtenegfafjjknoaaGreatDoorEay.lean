/- A daemon in memory: where all of it lies, and what stays. -/
import Derived.Test.YtenegfafjjknoaaGreatDoorSpnx
import Derived.Test.YtenegfafjjknoaaGreatDoorMsyy
import Derived.Test.YtenegfafjjknoaaGreatDoorJs
set_option maxHeartbeats 100000000
open List renaming mem_cons_of_mem → uA, mem_singleton → uB, mem_cons_self → uC, mem_cons → uD, length_singleton → uE, mem_append_left → uF, mem_append → uH, mem_append_right → uJ, map_cons → uK, take_succ_cons → uL, drop_succ_cons → uM
open Nat renaming le_trans → uG, le_succ_of_le → uI, zero_le → uN
namespace Go.Proofs.YtenegfafjjknoaaGreatDoor.Dd
open Go.RowKit Go.Maps Mem Foot Bytes Im Wm Hi Plainw Cq Dm Dh Jr Wi Sk Hn
structure Dn where
 c:Fin 6→Int
 J:Jn
 S:Dk
 clock:Int
 num:Int
 count:Nat
 W:Win
 due:List Ms
 spent:Bool
structure Pl where
 jb:Nat
 bx:Nat
 mb:Nat
 sv:Srs
 ov:Value
 ba:Nat
 cap:Nat
 bs:List Nat
 p:WI
 rj:Nat
 dr:Nat
 E:List Ent
 db:Nat
def Pl.kf (q:Pl):List Nat:=Jr.kf q.jb q.bx q.mb q.sv q.ov q.ba q.bs
def Pl.wf (q:Pl):List Nat:=wfoot q.p q.E
def df (X:Nat)(q:Pl):List Nat:=X ::q.db ::(q.kf++q.wf)
structure DA (w:World)(X:Nat)(D:Dn)(q:Pl):Prop where
 head:Sits w X 164 #[.int .i64 (D.c 0),.int .i64 (D.c 1),.int .i64 (D.c 2),.int .i64 (D.c 3),.int .i64 (D.c 4),.int .i64 (D.c 5),.pointer (some ⟨q.jb,0,none⟩),.int .i64 D.clock,.int .i64 D.num,.int .i64 (D.count:Int),.pointer (some ⟨q.p.P,0,none⟩),.map (some q.db),.bool D.spent]
 jw:JW w q.jb q.bx q.mb D.J q.sv q.ov
 pd:PD w q.bx D.S q.ba q.cap q.bs
 wi:WiAt w q.p (limOf D.c) q.rj q.dr q.E
 win:winOf q.rj q.dr q.E=D.W
 due:Mapped w (some q.db) D.due
 rise:Rise D.due
 a1:∀k∈q.kf,k∉q.wf
 aX:X∉q.kf∧X∉q.wf∧X≠q.db
 aD:q.db∉q.kf∧q.db∉q.wf
theorem mapped_lt {w:World}{b:Nat}{ms:List Ms}(h:Mapped w (some b) ms):b<w.heap.size:=by
 obtain⟨n,h⟩:=h;exact h.lt
theorem kf_lt {w:World}{jb bx mb:Nat}{J:Jn}{sv:Srs}{ov:Value}{S:Dk}{ba cap:Nat}{bs:List Nat}(h:JW w jb bx mb J sv ov)(hP:PD w bx S ba cap bs):∀k∈Jr.kf jb bx mb sv ov ba bs,k<w.heap.size:=by
 intro k hk;rcases uD.1 hk with e|e
 ·exact e▸h.sm.own.lt
 ·rcases uH.1 e with e|e
  ·exact sblocks_lt h.sm e
  ·obtain⟨t,cs,hs⟩:=jf_cells h.ja hP e;exact hs.lt
theorem DA.lt {w:World}{X:Nat}{D:Dn}{q:Pl}(h:DA w X D q):∀k∈df X q,k<w.heap.size:=by
 intro k hk;rcases uD.1 hk with e|e
 ·exact e▸h.head.lt
 ·rcases uD.1 e with e|e
  ·exact e▸mapped_lt h.due
  ·rcases uH.1 e with e|e
   ·exact kf_lt h.jw h.pd k e
   ·exact h.wi.lt k e
theorem DA.off {F:List Nat}{w w':World}{X:Nat}{D:Dn}{q:Pl}(h:DA w X D q)(ho:Off F w w')(hF:∀k∈df X q,k∉F):DA w' X D q:=by
 have hk:∀k∈q.kf,k∉F:=fun k hk=>hF k (uA _ (uA _ (uF _ hk)))
 have hw:∀k∈q.wf,k∉F:=fun k hk=>hF k (uA _ (uA _ (uJ _ hk)))
 exact⟨Foot.Sits.off h.head ho (hF X (uC ..)),h.jw.off (ba:=q.ba) (bs:=q.bs) ho hk,pd_off h.pd ho fun k hm=>hk k (kf_pd hm),h.wi.off ho hw,h.win,
  h.due.off ho (fun b e=>by cases e;exact hF _ (uA _ (uC ..))),h.rise,h.a1,h.aX,h.aD⟩
theorem DA.keep {w w':World}{X:Nat}{D:Dn}{q:Pl}(h:DA w X D q)(hb:Below w.heap.size w w'):DA w' X D q:=
 h.off (F:=[]) (Off.of_below hb) (fun _ _=>by simp)
structure Dq (w w':World)(X:Nat)(D:Dn)(F:List Nat)(B:Nat):Prop where
 ex:∃q,DA w' X D q∧q.bx=B∧∀b∈df X q,b∈F∨w.heap.size≤b
 off:Off F w w'
theorem Dq.of {w:World}{X:Nat}{D:Dn}{q:Pl}(h:DA w X D q){w':World}(hb:Below w.heap.size w w'):Dq w w' X D (df X q) q.bx:=
 ⟨⟨q,h.keep hb,rfl,fun _ hb=>Or.inl hb⟩,Off.of_below hb⟩
theorem Dq.trans {w w1 w2:World}{X B:Nat}{D:Dn}{F G:List Nat}(ho:Off F w w1)(hf:∀b∈G,b∈F∨w.heap.size≤b)(h:Dq w1 w2 X D G B):Dq w w2 X D F B:=by
 obtain⟨q,h1,h0,h2⟩:=h.ex;refine⟨⟨q,h1,h0,fun b hb=>?_⟩,off_trans ho hf h.off⟩;rcases h2 b hb with e|e
 ·exact hf b e
 ·exact Or.inr (uG ho.size e)
theorem DA.jour {w w':World}{X:Nat}{D:Dn}{q:Pl}(h:DA w X D q){J':Jn}{S':Dk}(hk:Kq w w' q.jb q.bx q.mb J' S' q.kf):
  ∃q':Pl,DA w' X {D with J:=J',S:=S'} q'∧(∀b∈df X q',b∈df X q∨w.heap.size≤b)∧Off (df X q) w w'∧q'.p=q.p∧q'.E=q.E∧q'.rj=q.rj∧q'.dr=q.dr∧q'.db=q.db∧q'.jb=q.jb∧q'.bx=q.bx∧q'.mb=q.mb:=by
 obtain⟨sv,ov,ba,cap,bs,h1,h2,h3⟩:=hk.ex;have hwl:=h.wi.lt;have hkf:∀k∈Jr.kf q.jb q.bx q.mb sv ov ba bs,k∈q.kf∨w.heap.size≤k:=h3;refine⟨{q with sv:=sv,ov:=ov,ba:=ba,cap:=cap,bs:=bs},⟨Foot.Sits.off h.head hk.off h.aX.1,h1,h2,h.wi.off hk.off (fun k hw hm=>h.a1 k hm hw),h.win,h.due.off hk.off (fun b e=>by cases e;exact h.aD.1),h.rise,fun k hk hw=>?_,⟨fun hm=>?_,h.aX.2⟩,⟨fun hm=>?_,h.aD.2⟩⟩,fun b hb=>?_,hk.off.mono fun k _ hk=>uA _ (uA _ (uF _ hk)),rfl,rfl,rfl,rfl,rfl,rfl,rfl,rfl⟩
 ·rcases hkf k hk with e|e
  ·exact h.a1 k e hw
  ·have:=hwl k hw;omega
 ·rcases hkf X hm with e|e
  ·exact h.aX.1 e
  ·have:=h.head.lt;omega
 ·rcases hkf q.db hm with e|e
  ·exact h.aD.1 e
  ·have:=mapped_lt h.due;omega
 ·rcases uD.1 hb with e|e
  ·exact Or.inl (e▸uC ..)
  ·rcases uD.1 e with e|e
   ·exact Or.inl (e▸uA _ (uC ..))
   ·rcases uH.1 e with e|e
    ·exact(hkf b e).imp (fun h=>uA _ (uA _ (uF _ h))) id
    ·exact Or.inl (uA _ (uA _ (uJ _ e)))
theorem DA.grew {w w':World}{X:Nat}{D:Dn}{q:Pl}(h:DA w X D q){W':Win}(hg:Grew w w' q.p (limOf D.c) q.E W'):
  ∃q':Pl,DA w' X {D with W:=W'} q'∧(∀b∈df X q',b∈df X q∨w.heap.size≤b)∧Off (df X q) w w'∧q'.jb=q.jb∧q'.db=q.db∧q'.bx=q.bx:=by
 obtain⟨rj,dr,E,h1,h2,h3,h4⟩:=hg;have hkl:=kf_lt h.jw h.pd;refine⟨{q with rj:=rj,dr:=dr,E:=E},⟨Foot.Sits.off h.head h3 h.aX.2.1,h.jw.off (ba:=q.ba) (bs:=q.bs) h3 (fun k hk hw=>h.a1 k hk hw),pd_off h.pd h3 (fun k hk hw=>h.a1 k (kf_pd hk) hw),h1,h2,h.due.off h3 (fun b e=>by cases e;exact h.aD.2),h.rise,fun k hk hw=>?_,⟨h.aX.1,fun hm=>?_,h.aX.2.2⟩,⟨h.aD.1,fun hm=>?_⟩⟩,fun b hb=>?_,h3.mono fun k _ hk=>uA _ (uA _ (uJ _ hk)),rfl,rfl,rfl⟩
 ·rcases h4 k hw with e|e
  ·exact h.a1 k hk e
  ·have:=hkl k hk;omega
 ·rcases h4 X hm with e|e
  ·exact h.aX.2.1 e
  ·have:=h.head.lt;omega
 ·rcases h4 q.db hm with e|e
  ·exact h.aD.2 e
  ·have:=mapped_lt h.due;omega
 ·rcases uD.1 hb with e|e
  ·exact Or.inl (e▸uC ..)
  ·rcases uD.1 e with e|e
   ·exact Or.inl (e▸uA _ (uC ..))
   ·rcases uH.1 e with e|e
    ·exact Or.inl (uA _ (uA _ (uF _ e)))
    ·exact(h4 b e).imp (fun h=>uA _ (uA _ (uJ _ h))) id
theorem DA.put {w w':World}{X:Nat}{D D':Dn}{q:Pl}(h:DA w X D q)(ho:Off [X] w w')(hh:Sits w' X 164 #[.int .i64 (D'.c 0),.int .i64 (D'.c 1),.int .i64 (D'.c 2),.int .i64 (D'.c 3),.int .i64 (D'.c 4),.int .i64 (D'.c 5),.pointer (some ⟨q.jb,0,none⟩),.int .i64 D'.clock,.int .i64 D'.num,.int .i64 (D'.count:Int),.pointer (some ⟨q.p.P,0,none⟩),.map (some q.db),.bool D'.spent])
  (hJ:D'.J=D.J) (hS:D'.S=D.S) (hW:D'.W=D.W) (hd:D'.due=D.due) (hc:D'.c=D.c):DA w' X D' q:=by
 have hk:∀k∈q.kf,k∉[X]:=fun k hk e=>h.aX.1 (uB.1 e▸hk)
 have hw:∀k∈q.wf,k∉[X]:=fun k hk e=>h.aX.2.1 (uB.1 e▸hk)
 refine⟨hh,?_,?_,?_,?_,?_,?_,h.a1,h.aX,h.aD⟩
 ·rw[hJ];exact h.jw.off (ba:=q.ba) (bs:=q.bs) ho hk
 ·rw[hS];exact pd_off h.pd ho fun k hm=>hk k (kf_pd hm)
 ·rw[hc];exact h.wi.off ho hw
 ·rw[hW];exact h.win
 ·rw[hd];exact h.due.off ho (fun b e=>by cases e;exact fun e=>h.aX.2.2 (uB.1 e).symm)
 ·rw[hd];exact h.rise
end Go.Proofs.YtenegfafjjknoaaGreatDoor.Dd
namespace Go.Proofs.YtenegfafjjknoaaGreatDoor.Dd
open Go.RowKit Bytes Im Wm Dm Jr Sk Mem Foot Wi Kr
theorem dig {v:Int}(h0:0≤v)(k:Nat)(h1:v.toNat<10 ^ (k+1)):(Lib.itoa v).length≤k+1:=by
 unfold Lib.itoa;rw[if_neg (by omega),Lib.decDigits_length];exact Plain.nd_le k v.toNat h1
theorem rec_len (k:List UInt8){win:Int}(h0:0≤win)(h1:win≤1000000000){t:List UInt8}(ht:t.length≤256):(wrec k win t).length≤k.length+t.length+16:=by
 have e1:=dig h0 9 (by omega);have e2:=dig (v:=(t.length:Int)) (by omega) 2 (by omega);unfold wrec;simp only[List.length_append,uE];omega
theorem rec_len0 (k:List UInt8){win:Int}(h0:0≤win)(h1:win≤1000000000):(wrec k win []).length≤k.length+14:=by
 have e1:=dig h0 9 (by omega);have e2:=dig (v:=0) (by omega) 0 (by decide);unfold wrec;simp only[List.length_append,uE,List.length_nil];have e3:((0:Nat):Int)=0:=rfl;rw[e3];omega
theorem head_len {J:Jn}(h0:-1≤J.greatest)(h1:J.greatest≤1000000000):(jhead J).length≤15:=by
 unfold jhead;split
 ·exact uN _
 ·exact rec_len0 [98] (by omega) h1
noncomputable def dtext (D:Dn):ByteArray:=⟨(wtext D.num D.W).toArray⟩
noncomputable def dturn (D:Dn):Dn:=
 if D.clock / D.c 0≤D.num then D
 else if 0<D.count then {D with J:=(jseal D.J D.S D.num).1,S:=(jseal D.J D.S D.num).2.1,due:=insM ⟨D.num,dtext D⟩ D.due,num:=D.clock / D.c 0,count:=0,W:=win0}
 else {D with num:=D.clock / D.c 0,count:=0,W:=win0}
noncomputable def dwrite (D:Dn)(s:ByteArray):Dn:=
 {D with J:=(jwrite D.J D.S D.num s).1,S:=(jwrite D.J D.S D.num s).2.1,W:=wgram (limOf D.c) D.W (B s),count:=D.count+1}
noncomputable def dpacket (D:Dn)(s:ByteArray):Dn:=dwrite (dturn D) s
noncomputable def dclock (D:Dn)(t:Int):Dn:=dturn {D with clock:=t}
def dsync (D:Dn):Dn:={D with J:=(jsync D.J D.S).1,S:=(jsync D.J D.S).2.1}
def dack (D:Dn)(win:Int):Dn:={D with J:=(jforget D.J D.S win).1,S:=(jforget D.J D.S win).2.1,due:=D.due.filter fun m=>!decide (m.k=win)}
structure DOk (D:Dn)(ds:List Bs)(n:Nat):Prop where
 cok:COk D.c
 calm:Jcalm D.J D.S
 clk:0≤D.clock∧D.clock≤1000000000
 num:0≤D.num∧D.num≤1000000000
 cnt:D.count=ds.length
 win:D.W=ds.foldl (wgram (limOf D.c)) win0
 keys:D.J.sealed.map (·.1)=D.due.map (·.k)
 lt:∀m∈D.due,m.k<D.num
 low:∀m∈D.due,0≤m.k
 rise:Rise D.due
 great:-1≤D.J.greatest∧D.J.greatest<D.num
 opn:0<D.count→D.J.opn≠[]
 free:D.count=0→D.J.opn=[]∨∃x,D.J.opn=[x]∧D.J.synced+D.J.uns.size≤64
 spent:D.spent=false
 next:D.J.next≤n
 segs:D.S.segs.length≤n
 used:Dm.used D.S.segs≤500*n
 dues:D.due.length≤n
 sz:D.J.synced+D.J.uns.size≤500*n
 len:ds.length≤n
 lines:nls ds≤n
 short:∀d∈ds,d.length≤256
theorem COk.pos {c:Fin 6→Int}(h:COk c):0<c 0:=by have:=h.w;omega
theorem DOk.mono {D:Dn}{ds:List Bs}{n m:Nat}(h:DOk D ds n)(hm:n≤m):DOk D ds m:=
 {h with next:=by have:=h.next;omega,segs:=by have:=h.segs;omega,used:=by have:=h.used;omega,dues:=by have:=h.dues;omega,sz:=by have:=h.sz;omega,len:=by have:=h.len;omega,lines:=by have:=h.lines;omega}
theorem DOk.nodup {D:Dn}{ds:List Bs}{n:Nat}(h:DOk D ds n):(D.J.sealed.map (·.1)).Nodup:=by
 rw[h.keys];exact h.rise.nodup
theorem put_keys {k:Int}{b:List Int}{l:List (Int×List Int)}{m:Ms}(hm:m.k=k){due:List Ms}(he:l.map (·.1)=due.map (·.k))(hn:k∉l.map (·.1)):(put iLt k b l).map (·.1)=(insM m due).map (·.k):=by
 unfold put;rw[del_of_not _ _ ((has_false k l).2 hn)];clear hn
 induction l generalizing due with
 | nil=>
  cases due with
  | nil=>simp[ins,insM,hm]
  | cons a r=>simp at he
 | cons p l ih=>
  cases due with
  | nil=>simp at he
  | cons a r=>
   simp only[uK,List.cons.injEq]at he;rw[ins,insM];have h1:iLt k p.1=decide (k<p.1):=rfl;by_cases hk:k<p.1
   ·rw[if_pos (by rw[h1];simpa using hk),if_pos (by omega)];simp[he,hm]
   ·rw[if_neg (by rw[h1];simpa using hk),if_neg (by omega)];simp only[uK];rw[ih he.2,he.1]
theorem mem_insM {m x:Ms}{l:List Ms}(h:x∈insM m l):x=m∨x∈l:=by
 induction l with
 | nil=>simpa[insM] using h
 | cons a l ih=>
  rw[insM]at h;split at h
  ·rcases uD.1 h with e|e
   ·exact Or.inl e
   ·exact Or.inr e
  ·rcases uD.1 h with e|e
   ·exact Or.inr (e▸uC ..)
   ·exact(ih e).imp id (uA _)
theorem DOk.turn {D:Dn}{ds:List Bs}{n:Nat}(h:DOk D ds n):
  DOk (dturn D) (if D.clock / D.c 0≤D.num then ds else []) (n+1)∧Dm.used (dturn D).S.segs≤Dm.used D.S.segs+(if D.num<D.clock / D.c 0∧0<D.count then 15 else 0)∧
   (0<D.count→(jseal D.J D.S D.num).2.2=0)∧(dturn D).clock=D.clock∧(dturn D).c=D.c∧D.clock / D.c 0≤(dturn D).num:=by
 have hc0:=COk.pos h.cok;have hq0:0≤D.clock / D.c 0:=Int.ediv_nonneg h.clk.1 (by omega);have hq1:D.clock / D.c 0≤1000000000:=Int.le_trans (Int.ediv_le_self _ h.clk.1) h.clk.2;have hnk:D.num∉D.J.sealed.map (·.1):=by
  rw[h.keys];intro hm;obtain⟨m,hm,e⟩:=List.mem_map.1 hm;have:=h.lt m hm;omega
 have hseal:0<D.count→(jseal D.J D.S D.num).2.2=0:=fun hp=>by
  obtain⟨J',S',e,_⟩:=h.calm.seal (h.opn hp) hnk;rw[e]
 unfold dturn;by_cases hle:D.clock / D.c 0≤D.num
 ·rw[if_pos hle,if_pos hle];exact⟨h.mono (Nat.le_succ _),Nat.le_add_right _ _,hseal,rfl,rfl,hle⟩
 ·rw[if_neg hle,if_neg hle];by_cases hp:0<D.count
  ·rw[if_pos hp,if_pos ⟨by omega,hp⟩];obtain⟨J',S',e,k1,k2,k3,k4,k5,k6,k7,k8,k9⟩:=h.calm.seal (h.opn hp) hnk;have hrl:=rec_len0 [115] h.num.1 h.num.2;rw[e];refine⟨⟨h.cok,k1,h.clk,⟨hq0,hq1⟩,rfl,rfl,?_,?_,?_,?_,?_,fun h=>absurd h (by simp),fun _=>Or.inl k4,h.spent,?_,?_,?_,?_,?_,uN _,uN _,by simp⟩,?_,fun _=>rfl,rfl,rfl,Int.le_refl _⟩
   ·show J'.sealed.map (·.1)=(insM ⟨D.num,dtext D⟩ D.due).map (·.k);rw[k3];exact put_keys (k:=D.num) (m:=⟨D.num,dtext D⟩) rfl h.keys hnk
   ·intro m hm;rcases mem_insM hm with rfl|hm
    ·show D.num<D.clock / D.c 0;omega
    ·have:=h.lt m hm;show m.k<D.clock / D.c 0;omega
   ·intro m hm;rcases mem_insM hm with rfl|hm
    ·exact h.num.1
    ·exact h.low m hm
   ·exact h.rise.ins (by rw[←h.keys];exact hnk)
   ·show -1≤J'.greatest∧J'.greatest<D.clock / D.c 0;rw[k5];have:=h.num.1;omega
   ·show J'.next≤_;rw[k7];have:=h.next;omega
   ·show S'.segs.length≤_;rw[k8];exact uI h.segs
   ·show Dm.used S'.segs≤_;rw[k2];have:=h.used;simp only[uE]at hrl;omega
   ·show (insM _ D.due).length≤_;rw[insM_length];have:=h.dues;omega
   ·show J'.synced+J'.uns.size≤_;have:=h.used;simp only[uE]at hrl;omega
   ·show Dm.used S'.segs≤_;rw[k2];simp only[uE]at hrl;omega
  ·rw[if_neg hp,if_neg (fun e=>hp e.2)];have hc:D.count=0:=by omega
   refine⟨⟨h.cok,h.calm,h.clk,⟨hq0,hq1⟩,rfl,rfl,h.keys,fun m hm=>?_,h.low,h.rise,⟨h.great.1,?_⟩,fun h=>absurd h (by simp),fun _=>h.free hc,h.spent,?_,uI h.segs,?_,uI h.dues,?_,uN _,uN _,by simp⟩,Nat.le_refl _,hseal,rfl,rfl,Int.le_refl _⟩
   ·have:=h.lt m hm;show m.k<D.clock / D.c 0;omega
   ·have:=h.great.2;show D.J.greatest<D.clock / D.c 0;omega
   ·have:=h.next;show D.J.next≤((n+1:Nat):Int);omega
   ·have:=h.used;show Dm.used D.S.segs≤_;omega
   ·have:=h.sz;show D.J.synced+D.J.uns.size≤_;omega
theorem nls_snoc (ds:List Bs)(d:Bs):nls (ds++[d])=nls ds+nls [d]:=nls_append ..
theorem nls_one (d:Bs):nls [d]≤d.length+1:=by
 have h1:nls [d]=Lib.countByte d 10+1+0:=rfl;have h2:Lib.countByte d 10≤d.length:=List.countP_le_length;omega
theorem DOk.write {D:Dn}{ds:List Bs}{n:Nat}(h:DOk D ds n)(hn:n≤100000000){s:ByteArray}(hs:s.size≤256):
  DOk (dwrite D s) (ds++[B s]) (n+s.size+1)∧Dm.used (dwrite D s).S.segs≤Dm.used D.S.segs+s.size+32∧(jwrite D.J D.S D.num s).2.2=0:=by
 have hnx:D.J.next≤9223372036854775807:=by have:=h.next;omega
 have hbs:(B s).length=s.size:=(Bytes.size_B s).symm;obtain⟨J',S',e,k1,k2,k3,k4,k5,k6,k7,k8,k9⟩:=h.calm.write hnx D.num s;have hrl:=rec_len [100] h.num.1 h.num.2 (t:=B s) (by omega);have hhl:=head_len h.great.1 (by have:=h.great.2;have:=h.num.2;omega);have hused:Dm.used S'.segs≤Dm.used D.S.segs+s.size+32:=by
  simp only[uE]at hrl;omega
 unfold dwrite;rw[e];have hn1:=nls_one (B s);refine⟨⟨h.cok,k1,h.clk,h.num,?_,?_,?_,h.lt,h.low,h.rise,?_,fun _=>k4,fun h=>absurd h (by simp),h.spent,?_,?_,?_,uG h.dues (by omega),?_,?_,?_,?_⟩,hused,rfl⟩
 ·show D.count+1=_;rw[h.cnt];simp
 ·show wgram (limOf D.c) D.W (B s)=_;rw[h.win,List.foldl_append];rfl
 ·show J'.sealed.map (·.1)=_;rw[k3];exact h.keys
 ·show -1≤J'.greatest∧J'.greatest<D.num;rw[k5];exact h.great
 ·have:=h.next;show J'.next≤((n+s.size+1:Nat):Int);omega
 ·have:=h.segs;show S'.segs.length≤n+s.size+1;omega
 ·have:=h.used;show Dm.used S'.segs≤_;omega
 ·have:=k1.sum_le k4;have:=h.used;show J'.synced+J'.uns.size≤_;omega
 ·have:=h.len;simp
  omega
 ·rw[nls_snoc];have:=h.lines;omega
 ·intro d hd;rcases uH.1 hd with hd|hd
  ·exact h.short d hd
  ·rw[uB]at hd;subst hd;omega
theorem DOk.sync {D:Dn}{ds:List Bs}{n:Nat}(h:DOk D ds n):DOk (dsync D) ds n∧Dm.used (dsync D).S.segs=Dm.used D.S.segs∧(jsync D.J D.S).2.2=0:=by
 obtain⟨J',S',e,k1,k2,k3,k4,k5,k6,k7,k8,k9,k10⟩:=h.calm.sync;unfold dsync;rw[e];refine⟨⟨h.cok,k1,h.clk,h.num,h.cnt,h.win,?_,h.lt,h.low,h.rise,?_,?_,?_,h.spent,?_,?_,?_,h.dues,?_,h.len,h.lines,h.short⟩,k2,rfl⟩
 ·show J'.sealed.map (·.1)=_;rw[k4];exact h.keys
 ·show -1≤J'.greatest∧J'.greatest<D.num;rw[k6];exact h.great
 ·intro hp;show J'.opn≠[];rw[k3];exact h.opn hp
 ·intro hp;show J'.opn=[]∨∃x,J'.opn=[x]∧J'.synced+J'.uns.size≤64;rw[k3,k8];exact h.free hp
 ·show J'.next≤_;rw[k5];exact h.next
 ·show S'.segs.length≤_;rw[k10];exact h.segs
 ·show Dm.used S'.segs≤_;rw[k2];exact h.used
 ·show J'.synced+J'.uns.size≤_;rw[k8];exact h.sz
theorem del_keys {k:Int}{l:List (Int×List Int)}{due:List Ms}(he:l.map (·.1)=due.map (·.k)):(del k l).map (·.1)=(due.filter fun m=>!decide (m.k=k)).map (·.k):=by
 unfold del
 induction l generalizing due with
 | nil=>
  cases due with
  | nil=>rfl
  | cons a r=>simp at he
 | cons p l ih=>
  cases due with
  | nil=>simp at he
  | cons a r=>
   simp only[uK,List.cons.injEq]at he;rw[List.filter_cons,List.filter_cons];by_cases hk:p.1=k
   ·rw[if_neg (by simp[hk]),if_neg (by simp[←he.1,hk])];exact ih he.2
   ·rw[if_pos (by simp[hk]),if_pos (by simp[←he.1,hk]),uK,uK,ih he.2,he.1]
theorem get_some {k:Int}{l:List (Int×List Int)}(h:k∈l.map (·.1)):∃r,getE k l=some r:=by
 have h1:=(has_iff k l).2 h;rw[has_getE]at h1;exact Option.isSome_iff_exists.1 h1
theorem DOk.ack {D:Dn}{ds:List Bs}{n:Nat}(h:DOk D ds n)(hn:n≤100000000){win:Int}(hw:win∈D.due.map (·.k)):
  DOk (dack D win) ds (n+1)∧Dm.used (dack D win).S.segs≤Dm.used D.S.segs+15∧(jforget D.J D.S win).2.2=0:=by
 have hnx:D.J.next≤9223372036854775807:=by have:=h.next;omega
 obtain⟨r,hr⟩:=get_some (l:=D.J.sealed) (k:=win) (by rw[h.keys];exact hw);obtain⟨J',S',e,k1,k2,k3,k4,k5,k6,k7,k8,k9⟩:=h.calm.forget hnx h.nodup hr;have hhl:=head_len h.great.1 (by have:=h.great.2;have:=h.num.2;omega);unfold dack;rw[e];refine⟨⟨h.cok,k1,h.clk,h.num,h.cnt,h.win,?_,fun m hm=>h.lt m (List.mem_filter.1 hm).1,fun m hm=>h.low m (List.mem_filter.1 hm).1,List.Pairwise.filter _ h.rise,?_,?_,?_,h.spent,?_,?_,?_,?_,?_,uI h.len,?_,h.short⟩,?_,rfl⟩
 ·show J'.sealed.map (·.1)=_;rw[k3];exact del_keys h.keys
 ·show -1≤J'.greatest∧J'.greatest<D.num;rw[k4];exact h.great
 ·intro hp;show J'.opn≠[];rcases k9 with ⟨e1,_⟩|⟨e1,e2,_⟩
  ·rw[e1];exact h.opn hp
  ·rw[e2];simp
 ·intro hp;show J'.opn=[]∨∃x,J'.opn=[x]∧J'.synced+J'.uns.size≤64;rcases k9 with ⟨e1,e2⟩|⟨e1,e2,e3⟩
  ·rw[e1,e2];exact h.free hp
  ·exact Or.inr ⟨_,e2,by omega⟩
 ·have:=h.next;show J'.next≤((n+1:Nat):Int);omega
 ·have:=h.segs;show S'.segs.length≤n+1;omega
 ·have:=h.used;show Dm.used S'.segs≤_;omega
 ·exact uG (List.length_filter_le ..) (uI h.dues)
 ·have:=h.sz;show J'.synced+J'.uns.size≤_;rcases k9 with ⟨_,e2⟩|⟨_,_,e3⟩<;>omega
 ·have:=h.lines;omega
 ·show Dm.used S'.segs≤_;omega
theorem DOk.small {D:Dn}{ds:List Bs}{n:Nat}(h:DOk D ds n)(hd:D.due=[])(hs:ds=[]):Dm.used D.S.segs≤64:=by
 refine h.calm.small ?_ (h.free (by rw[h.cnt,hs];rfl));have:=h.keys;rw[hd]at this;exact List.map_eq_nil_iff.1 this
theorem DOk.fit {D:Dn}{ds:List Bs}{n:Nat}(h:DOk D ds n):WFit (limOf D.c) (nls ds) D.W:=by
 have:=wfit_grams h.cok.lim.b0 ds (WFit.zero (limOf D.c));rw[Nat.zero_add]at this;rw[h.win];exact this
end Go.Proofs.YtenegfafjjknoaaGreatDoor.Dd
namespace Go.Proofs.YtenegfafjjknoaaGreatDoor.Dd
open Go.RowKit Go.Maps Mem Foot Bytes Im Wm Hi Plainw Cq Dm Dh Jr Wi Sk Hn Kr
theorem win_zero:winOf 0 0 []=win0:=rfl
theorem DA.fresh {w w1 w2:World}{X:Nat}{D:Dn}{q:Pl}(h:DA w X D q)(hb:Below w.heap.size w w1){p':WI}(hp:WiAt w1 p' (limOf D.c) 0 0 [])(hfr:∀x∈wfoot p' [],w.heap.size≤x)(ho:Off [X] w1 w2){num:Int}
  (hh:Sits w2 X 164 #[.int .i64 (D.c 0),.int .i64 (D.c 1),.int .i64 (D.c 2),.int .i64 (D.c 3),.int .i64 (D.c 4),.int .i64 (D.c 5),.pointer (some ⟨q.jb,0,none⟩),.int .i64 D.clock,.int .i64 num,.int .i64 0,.pointer (some ⟨p'.P,0,none⟩),.map (some q.db),.bool D.spent]):
  Dq w w2 X {D with num:=num,count:=0,W:=win0} (df X q) q.bx:=by
 have hX:=h.head.lt;have hkl:=kf_lt h.jw h.pd;have h1:=h.keep hb;have hk:∀k∈q.kf,k∉[X]:=fun k hk e=>h.aX.1 (uB.1 e▸hk)
 refine⟨⟨{q with p:=p',rj:=0,dr:=0,E:=[]},⟨hh,h1.jw.off (ba:=q.ba) (bs:=q.bs) ho hk,pd_off h1.pd ho fun k hm=>hk k (kf_pd hm),hp.off ho (fun x hx e=>?_),win_zero,h1.due.off ho (fun b e=>by cases e;exact fun e=>h.aX.2.2 (uB.1 e).symm),h.rise,fun k hk hw=>?_,⟨h.aX.1,fun hm=>?_,h.aX.2.2⟩,⟨h.aD.1,fun hm=>?_⟩⟩,rfl,fun b hb=>?_⟩,(Off.of_below hb).trans (ho.mono fun k _ hk=>uB.1 hk▸uC ..)⟩
 ·have:=hfr x hx;rw[uB]at e;omega
 ·have:=hfr k hw;have:=hkl k hk;omega
 ·have:=hfr X hm;omega
 ·have h1:w.heap.size≤q.db:=hfr _ hm;have:=mapped_lt h.due;omega
 ·rcases uD.1 hb with e|e
  ·exact Or.inl (e▸uC ..)
  ·rcases uD.1 e with e|e
   ·exact Or.inl (e▸uA _ (uC ..))
   ·rcases uH.1 e with e|e
    ·exact Or.inl (uA _ (uA _ (uF _ e)))
    ·exact Or.inr (hfr b e)
theorem DA.more {w w1:World}{X:Nat}{D:Dn}{q:Pl}(h:DA w X D q){m:Ms}{n:Nat}(hm:w1.ownsMap Tryz.prog 3 (exE okM) q.db n (Sk.D (insM m D.due)))(hg:w.grownBy w1 (some q.db))(hk:m.k∉D.due.map (·.k)):
  DA w1 X {D with due:=insM m D.due} q∧Off (df X q) w w1:=by
 have ho:Off [q.db] w w1:=grown_off' hg (uB.2 rfl);have hkd:∀k∈q.kf,k∉[q.db]:=fun k hk e=>h.aD.1 (uB.1 e▸hk)
 exact⟨⟨Foot.Sits.off h.head ho (fun e=>h.aX.2.2 (uB.1 e)),h.jw.off (ba:=q.ba) (bs:=q.bs) ho hkd,pd_off h.pd ho fun k hm=>hkd k (kf_pd hm),h.wi.off ho (fun k hk e=>h.aD.2 (uB.1 e▸hk)),h.win,⟨_,hm⟩,h.rise.ins hk,h.a1,h.aX,h.aD⟩,
  ho.mono fun k _ hk=>uB.1 hk▸uA _ (uC ..)⟩
theorem DA.less {w w1:World}{X:Nat}{D:Dn}{q:Pl}(h:DA w X D q){k:Int}{n:Nat}(hm:w1.ownsMap Tryz.prog 3 (exE okM) q.db n (Sk.D (D.due.filter fun m=>!decide (m.k=k))))(hg:w.grownBy w1 (some q.db)):
  DA w1 X {D with due:=D.due.filter fun m=>!decide (m.k=k)} q∧Off (df X q) w w1:=by
 have ho:Off [q.db] w w1:=grown_off' hg (uB.2 rfl);have hkd:∀k∈q.kf,k∉[q.db]:=fun k hk e=>h.aD.1 (uB.1 e▸hk)
 exact⟨⟨Foot.Sits.off h.head ho (fun e=>h.aX.2.2 (uB.1 e)),h.jw.off (ba:=q.ba) (bs:=q.bs) ho hkd,pd_off h.pd ho fun k hm=>hkd k (kf_pd hm),h.wi.off ho (fun k hk e=>h.aD.2 (uB.1 e▸hk)),h.win,⟨_,hm⟩,List.Pairwise.filter _ h.rise,h.a1,h.aX,h.aD⟩,
  ho.mono fun k _ hk=>uB.1 hk▸uA _ (uC ..)⟩
theorem D_del (k:Int)(l:List Ms):(Sk.D l).del (.int .i64 k)=Sk.D (l.filter fun m=>!decide (m.k=k)):=by
 unfold Sk.D;rw[show Lit.int .i64 k=iLit k from rfl,mp_del iLit_same]
 congr 1
 unfold del ents;rw[List.filter_map];rfl
theorem cells13 {w:World}{b:Nat}{t:TypeId}{v0 v1 v2 v3 v4 v5 v6 v7 v8 v9 v10 v11 v12:Value}(h:Sits w b t #[v0,v1,v2,v3,v4,v5,v6,v7,v8,v9,v10,v11,v12]):
  w.cell? ⟨b,0,none⟩=some v0∧w.cell? ⟨b,1,none⟩=some v1∧w.cell? ⟨b,2,none⟩=some v2∧w.cell? ⟨b,3,none⟩=some v3∧w.cell? ⟨b,4,none⟩=some v4∧w.cell? ⟨b,5,none⟩=some v5∧w.cell? ⟨b,6,none⟩=some v6∧w.cell? ⟨b,7,none⟩=some v7∧w.cell? ⟨b,8,none⟩=some v8∧w.cell? ⟨b,9,none⟩=some v9∧w.cell? ⟨b,10,none⟩=some v10∧w.cell? ⟨b,11,none⟩=some v11∧w.cell? ⟨b,12,none⟩=some v12:=
 ⟨h.cell 0 _ rfl,h.cell 1 _ rfl,h.cell 2 _ rfl,h.cell 3 _ rfl,h.cell 4 _ rfl,h.cell 5 _ rfl,h.cell 6 _ rfl,h.cell 7 _ rfl,h.cell 8 _ rfl,h.cell 9 _ rfl,h.cell 10 _ rfl,h.cell 11 _ rfl,h.cell 12 _ rfl⟩
set_option maxRecDepth 10000 in
theorem textO (num cnt:Int)(p:WI)(L:Lim)(n rj dr:Nat)(E:List Ent)(w:World)(h:WiAt w p L rj dr E)(hf:WFit L n (winOf rj dr E))(hL:LOk L)(hlv:Live (winOf rj dr E))(ht:Tab w)(hn:n≤1000000000000000)(hn0:-9223372036854775808≤num)(hn1:num≤9223372036854775807):
  Calls Tryz.prog 168 #[.agg #[.int .i64 num,.int .i64 cnt,.pointer (some ⟨p.P,0,none⟩)]] w fun e w'=>e=.returned (.string ⟨(wtext num (winOf rj dr E)).toArray⟩)∧Below w.heap.size w w':=by
 have HS1:=hide (Sits.new w 161 #[.int .i64 num,.int .i64 cnt,.pointer (some ⟨p.P,0,none⟩)]);have HB1:=hide (below_new (w:=w) (.cells #[.int .i64 num,.int .i64 cnt,.pointer (some ⟨p.P,0,none⟩)] 161));have HC:=hide (fun w1 (hb:Below w.heap.size w w1)=>textW num p L n rj dr E w1 (h.keep hb) hf hL hlv (ht.below hb) hn hn0 hn1);clear h hf hlv ht;go_enter Tryz.func168,Tryz.ntmps168
 go_upto_region 1 with fail
 obtain⟨X,hX⟩:∃X,w.heap.size=X:=⟨_,rfl⟩;rw[hX]at HS1 ⊢;clear hX;generalize w.alloc (.cells #[.int .i64 num,.int .i64 cnt,.pointer (some ⟨p.P,0,none⟩)] 161)=w1 at *;have c0:=HS1.out.cell 0 _ rfl;have c2:=HS1.out.cell 2 _ rfl;go_wp2_with fail
 refine(HC.out w1 HB1.out).mono ?_;rintro e w2 ⟨⟨z,rfl,hz⟩,hb⟩;have HB2:=hide (HB1.out.trans (hb.mono HB1.out.size));have HZ:=hide (show z=⟨(wtext num (winOf rj dr E)).toArray⟩ from Bytes.B_inj (by rw[hz];rfl));clear hz hb c0 c2;go_wp2_with fail
 go_ret
 exact⟨by rw[←HZ.out];rfl,HB2.out⟩
theorem live_of {D:Dn}{ds:List Bs}{n:Nat}(h:DOk D ds n):Live D.W:=by
 rw[h.win];exact live_grams ds live0
theorem dtext_call2 {w:World}{X:Nat}{D:Dn}{q:Pl}{m:Nat}(h:DA w X D q)(hf:WFit (limOf D.c) m D.W)(hl:Live D.W)(hc:COk D.c)(hm:m≤1000000000000000)(hnm:0≤D.num∧D.num≤1000000000)(ht:Tab w):
  Calls Tryz.prog 168 #[.agg #[.int .i64 D.num,.int .i64 (D.count:Int),.pointer (some ⟨q.p.P,0,none⟩)]] w fun e w'=>e=.returned (.string (dtext D))∧Below w.heap.size w w':=by
 rw[←h.win]at hf hl;have:=textO D.num (D.count:Int) q.p (limOf D.c) m q.rj q.dr q.E w h.wi hf hc.lim hl ht hm (by omega) (by omega);rw[h.win]at this;exact this
theorem dtext_call {w:World}{X:Nat}{D:Dn}{q:Pl}{ds:List Bs}{n:Nat}(h:DA w X D q)(ok:DOk D ds n)(hn:n≤100000000)(ht:Tab w):
  Calls Tryz.prog 168 #[.agg #[.int .i64 D.num,.int .i64 (D.count:Int),.pointer (some ⟨q.p.P,0,none⟩)]] w fun e w'=>e=.returned (.string (dtext D))∧Below w.heap.size w w':=
 dtext_call2 h ok.fit (live_of ok) ok.cok (by have:=ok.lines;omega) ok.num ht
set_option maxRecDepth 10000 in
theorem openD (w:World)(X:Nat)(D:Dn)(q:Pl)(ds:List Bs)(n:Nat)(h:DA w X D q)(ok:DOk D ds n)(hn:n≤100000000)(ht:Tab w):
  Calls Tryz.prog 123 #[.pointer (some ⟨X,0,none⟩)] w fun e w'=>e=.returned (.tuple #[.int .i64 D.num,.int .i64 (D.count:Int),.string (dtext D)])∧Below w.heap.size w w':=by
 have HT:=hide (fun s:Bw w=>call_cls (dtext_call (h.keep s.is) ok hn (ht.below s.is)));have C8:∀s:Bw w,s.val.cell? ⟨X,8,none⟩=some (.int .i64 D.num):=fun s=>(h.keep s.is).head.cell 8 _ rfl
 have C9:∀s:Bw w,s.val.cell? ⟨X,9,none⟩=some (.int .i64 (D.count:Int)):=fun s=>(h.keep s.is).head.cell 9 _ rfl
 have C10:∀s:Bw w,s.val.cell? ⟨X,10,none⟩=some (.pointer (some ⟨q.p.P,0,none⟩)):=fun s=>(h.keep s.is).head.cell 10 _ rfl
 clear h ok ht;generalize D.num=num at *;generalize (D.count:Int)=cnt at *;generalize dtext D=z at *;go_enter Tryz.func123,Tryz.ntmps123
 go_wp2_with fail
 refine region_cls (by kernel_rfl) (by kernel_rfl) ?_;repeat (first
  | go_big_quiet_skip
  | (go_big_quiet_want;go_big_quiet_op;first|go_big_quiet_on|(apply Exists.intro;refine⟨fun _=>?_,?_⟩;(go_at_call 168;exact HT.out _);go_big_quiet_on)))
 refine wpQuiet_nil ?_;rintro _ ⟨s,rfl⟩;have HB:=hide s.is;clear C8 C9 C10;generalize s.val=w1 at *;go_wp2_with fail
 refine bodyPost_ret (results_tmp3 rfl _ _ _) rfl ?_;exact⟨rfl,HB.out⟩
theorem dueD (w:World)(X:Nat)(D:Dn)(q:Pl)(h:DA w X D q)(hN:D.due.length≤4000000000000):
  Calls Tryz.prog 61 #[.pointer (some ⟨X,0,none⟩)] w fun e w'=>∃v,e=.returned v∧w'.ownsRow w.heap.size 117 2 v D.due.length (mcells D.due)∧Below w.heap.size w w':=by
 have hr:=rising (some q.db) D.due h.rise w h.due hN;have c11:=h.head.cell 11 _ rfl;clear h;go_enter Tryz.func61,Tryz.ntmps61
 go_wp2_with fail
 refine hr.mono ?_;clear hr c11;rintro e w1 ⟨v,rfl,h1,h2⟩;have H1:=hide h1;have H2:=hide h2;clear h1 h2;go_wp2_with fail
 go_ret
 exact⟨v,rfl,H1.out,H2.out⟩
theorem DOk.fits {D:Dn}{ds:List Bs}{n:Nat}(h:DOk D ds n):Fit D.S n (500*n):=⟨h.calm.good,h.segs,h.used⟩
theorem keys_len {D:Dn}{ds:List Bs}{n:Nat}(h:DOk D ds n){w:World}{X:Nat}{q:Pl}(hd:DA w X D q):q.sv.length≤n:=by
 have h1:=congrArg List.length h.keys;have h2:=congrArg List.length hd.jw.eq;rw[List.length_map]at h1 h2;rw[List.length_map]at h1;have:=h.dues;omega
theorem df_k {X:Nat}{q:Pl}{k:Nat}(h:k∈q.kf):k∈df X q:=uA _ (uA _ (uF _ h))
theorem sealD (w0 w:World)(hT:Tab w0)(h0:Below w0.heap.size w0 w)(X:Nat)(D:Dn)(q:Pl)(ds:List Bs)(n:Nat)(h:DA w X D q)(hfar:∀b∈df X q,w0.heap.size≤b)(ok:DOk D ds n)(hn:n≤10000000)(hp:0<D.count):
  Calls Tryz.prog 215 #[.pointer (some ⟨q.jb,0,none⟩),.int .i64 D.num] w fun e w'=>e=.returned .nilIface∧Kq w w' q.jb q.bx q.mb (jseal D.J D.S D.num).1 (jseal D.J D.S D.num).2.1 q.kf:=by
 have hz:=(ok.turn).2.2.1 hp;have hl:=ok.calm.lasts;have hs:=ok.sz;have hm:=ok.num;have ho:=ok.calm.len;have hsg:=ok.segs;refine(sealJ w0 w hT h0 q.jb q.bx q.mb D.J q.sv q.ov D.S q.ba q.cap q.bs D.num n (500*n) h.jw h.pd (fun b hb=>hfar b (df_k hb)) ok.fits hn (by omega) (ok.opn hp) (by omega) (by have:=keys_len ok h;omega) (by omega) (by omega) (by omega) (by omega) (by omega)).mono ?_;rintro e w' ⟨v,rfl,hv,hk⟩;rw[hz]at hv;rcases hv with ⟨_,rfl⟩|⟨h1,_⟩
 ·exact⟨rfl,hk⟩
 ·exact absurd rfl h1
set_option maxRecDepth 10000 in
theorem turnD (w0 w:World)(hT:Tab w0)(h0:Below w0.heap.size w0 w)(X:Nat)(D:Dn)(q:Pl)(ds:List Bs)(n:Nat)(h:DA w X D q)(hfar:∀b∈df X q,w0.heap.size≤b)(ok:DOk D ds n)(hn:n≤10000000):
  Calls Tryz.prog 161 #[.pointer (some ⟨X,0,none⟩)] w fun e w'=>e=.returned .nilIface∧Dq w w' X (dturn D) (df X q) q.bx:=by
 have hc0:=COk.pos ok.cok;have hck:=ok.clk;have C0:∀s:Bw w,s.val.cell? ⟨X,0,none⟩=some (.int .i64 (D.c 0)):=fun s=>(h.keep s.is).head.cell 0 _ rfl
 have C7:∀s:Bw w,s.val.cell? ⟨X,7,none⟩=some (.int .i64 D.clock):=fun s=>(h.keep s.is).head.cell 7 _ rfl
 have hnz:¬D.c 0=0:=by omega
 obtain⟨now,hnow⟩:∃now,D.clock / D.c 0=now:=⟨_,rfl⟩;have htd:D.clock.tdiv (D.c 0)=now:=by rw[Int.tdiv_eq_ediv_of_nonneg hck.1,hnow]
 have hn0:0≤now:=by rw[←hnow];exact Int.ediv_nonneg hck.1 (by omega)
 have hn1:now≤1000000000:=by rw[←hnow];exact Int.le_trans (Int.ediv_le_self _ hck.1) hck.2
 have hwn:IntKind.i64.wrap now=now:=IntWalk.i64_in _ (by omega);have HNOW:=hide hnow;have HOK:=hide ok;have HD:=hide h;have HT:=hide hT;have HB0:=hide h0;have HFAR:=hide hfar;clear h ok hT h0 hfar hnow;go_enter Tryz.func161,Tryz.ntmps161
 go_wp2_with fail
 refine region_cls (by kernel_rfl) (by kernel_rfl) ?_;repeat (first
  | go_big_quiet_skip
  | (go_big_quiet_want;go_big_quiet_op;go_big_quiet_on))
 refine wpQuiet_nil ?_;rintro _ ⟨s,rfl⟩;have HB1:=hide s.is;have HD1:=hide (HD.out.keep s.is);clear C0 C7 htd hwn;generalize s.val=w1 at *;have c8:=HD1.out.head.cell 8 _ rfl;have c9:=HD1.out.head.cell 9 _ rfl;have hnum:=HOK.out.num;by_cases hle:now≤D.num
 ·have HDT:=hide (show dturn D=D by unfold dturn;rw[HNOW.out,if_pos hle]);go_wp2_with fail
  go_ret
  refine⟨rfl,?_⟩;rw[HDT.out];exact Dq.of HD.out HB1.out
 ·by_cases hp:0<D.count
  ·have hpz:(0:Int)<(D.count:Int):=by omega
   have HDT:=hide (show dturn D={D with J:=(jseal D.J D.S D.num).1,S:=(jseal D.J D.S D.num).2.1,due:=insM ⟨D.num,dtext D⟩ D.due,num:=now,count:=0,W:=win0} by unfold dturn;rw[HNOW.out,if_neg hle,if_pos hp]);have HLE:=hide hle;have HPP:=hide hp;go_wp2_with fail
   have C6:∀s:Bw w1,s.val.cell? ⟨X,6,none⟩=some (.pointer (some ⟨q.jb,0,none⟩)):=fun s=>(HD1.out.keep s.is).head.cell 6 _ rfl
   have C8:∀s:Bw w1,s.val.cell? ⟨X,8,none⟩=some (.int .i64 D.num):=fun s=>(HD1.out.keep s.is).head.cell 8 _ rfl
   clear c8 c9 hle hp hpz;refine region_pre 9 (by kernel_rfl) (by kernel_rfl) ?_;simp only[uL,List.take_zero,uM,List.drop_zero];repeat (first
    | go_big_quiet_skip
    | (go_big_quiet_want;go_big_quiet_op;go_big_quiet_on))
   refine wpQuiet_nil ?_;intro s;have HB2:=hide (HB1.out.trans (s.is.mono HB1.out.size));have HDs:=hide (HD1.out.keep s.is);clear C6 C8;generalize s.val=ws at *;have hse:=sealD w0 ws HT.out (HB0.out.trans (HB2.out.mono HB0.out.size)) X D q ds n HDs.out HFAR.out HOK.out hn HPP.out;go_wp2_with fail
   refine hse.mono ?_;clear hse;rintro e w4 ⟨rfl,hkq⟩;obtain⟨q4,hd4,hf4,ho4,e1,e2,e3,e4,e5,e6,e7,e8⟩:=HDs.out.jour hkq;have HD4:=hide hd4;have HO4:=hide ((Off.of_below HB2.out).trans ho4);have HF4:=hide (show ∀b∈df X q4,b∈df X q∨w.heap.size≤b from fun b hb=>(hf4 b hb).imp id fun h=>uG HB2.out.size h);have HT4:=hide (HT.out.below (HB0.out.trans (HO4.out.below HFAR.out HB0.out.size)));have HBX:=hide e7;clear hkq hd4 hf4 ho4 e1 e2 e3 e4 e5 e6 e7 e8;have hlv:Live D.W:=live_of HOK.out;have hft:WFit (limOf D.c) (nls ds) D.W:=HOK.out.fit;have HTX:=hide (fun s:Bw w4=>call_cls (dtext_call2 (m:=nls ds) (HD4.out.keep s.is) hft hlv HOK.out.cok (by have:=HOK.out.lines;omega) HOK.out.num (HT4.out.below s.is)));have C8:∀s:Bw w4,s.val.cell? ⟨X,8,none⟩=some (.int .i64 D.num):=fun s=>(HD4.out.keep s.is).head.cell 8 _ rfl
   have C9:∀s:Bw w4,s.val.cell? ⟨X,9,none⟩=some (.int .i64 (D.count:Int)):=fun s=>(HD4.out.keep s.is).head.cell 9 _ rfl
   have C10:∀s:Bw w4,s.val.cell? ⟨X,10,none⟩=some (.pointer (some ⟨q4.p.P,0,none⟩)):=fun s=>(HD4.out.keep s.is).head.cell 10 _ rfl
   have C11:∀s:Bw w4,s.val.cell? ⟨X,11,none⟩=some (.map (some q4.db)):=fun s=>(HD4.out.keep s.is).head.cell 11 _ rfl
   clear hlv hft;generalize hJ2:(jseal D.J D.S D.num).1=J2 at *;generalize hS2:(jseal D.J D.S D.num).2.1=S2 at *;clear hJ2 hS2;have HZX:=hide (show dtext {D with J:=J2,S:=S2}=dtext D from rfl);rw[HZX.out]at HTX;obtain⟨zt,hzt⟩:∃zt,dtext D=zt:=⟨_,rfl⟩;rw[hzt]at HTX HDT;have HKN:=hide (show (⟨D.num,zt⟩:Ms).k∉D.due.map (·.k) from fun hm=>by
    obtain⟨m,hm,e⟩:=List.mem_map.1 hm;have h1:=HOK.out.lt m hm;have e:m.k=D.num:=e;omega)
   clear hzt;go_wp2_with fail
   refine region_pre 20 (by kernel_rfl) (by kernel_rfl) ?_;simp only[uL,List.take_zero,uM,List.drop_zero];repeat (first
    | go_big_quiet_skip
    | (go_big_quiet_want;go_big_quiet_op;first|go_big_quiet_on|(apply Exists.intro;refine⟨fun _=>?_,?_⟩;(go_at_call 168;exact HTX.out _);go_big_quiet_on)))
   refine wpQuiet_nil ?_;intro s;have HB5:=hide s.is;have HD5:=hide (HD4.out.keep s.is);clear C8 C9 C10 C11 HTX;generalize s.val=w5 at *;obtain⟨w2,hu6,hm6,hg6⟩:=HD5.out.due.tight.update (t:=162) (int_keyed Tryz.underlying3) Tryz.underlying162 (Nat.lt_of_le_of_lt (show D.due.length≤10000000 from by have:=HOK.out.dues;omega) (by decide)) (Maps.keyOf_int_mk (P:=Tryz.prog) (k:=3) Tryz.underlying3 (wf_int (n:=D.num) (by omega) (by omega))) (exE_mk (okM_mv ⟨D.num,zt⟩));have hm7:w2.ownsMap Tryz.prog 3 (exE okM) q4.db (D.due.length+1) ((Sk.D D.due).put (Lit.int .i64 (⟨D.num,zt⟩:Ms).k) (.held (mv ⟨D.num,zt⟩))):=hm6;rw[D_put HKN.out]at hm7;obtain⟨hd6,ho6⟩:=HD5.out.more hm7 hg6 HKN.out;have HD2:=hide hd6;have HOQ:=hide (show Off (df X q) w w2 from off_trans (HO4.out.trans (Off.of_below HB5.out)) HF4.out ho6);have HFQ:=hide HF4.out;simp only[mv]at hu6;clear hm6 hm7 hg6 hd6 ho6;have hnw:=newW D.c HOK.out.cok w2;unfold cfg at hnw;obtain⟨c0,c1,c2,c3,c4,c5,c6,c7,c8,c9,c10,c11,c12⟩:=cells13 HD2.out.head;go_wp2_with fail
   refine hnw.mono ?_;clear hnw c0 c1 c2 c3 c4 c5 c6 c7 c8 c9 c10 c11 c12;rintro e w3 ⟨p',rfl,hpc,hwi,hfr,hb3⟩;have HWI:=hide hwi;have HFR:=hide hfr;have HB3:=hide hb3;have hh:=(HD2.out.keep hb3).head;have d8:=hh.cell 8 _ rfl;have f8:=hh.frozen 8;have hh9:=hh.set 8 (.int .i64 now);have d9:=hh9.cell 9 _ rfl;have f9:=hh9.frozen 9;have hh10:=hh9.set 9 (.int .i64 0);have d10:=hh10.cell 10 _ rfl;have f10:=hh10.frozen 10;have HH:=hide (hh10.set 10 (.pointer (some ⟨p'.P,0,none⟩)));clear hh hh9 hh10 hwi hfr hb3 hpc;go_wp2_with fail
   go_ret
   refine⟨rfl,?_⟩;have hq:=HD2.out.fresh HB3.out HWI.out HFR.out (((((Off.refl _ _).set (uB.2 rfl) _ _).set (uB.2 rfl) _ _).set (uB.2 rfl) _ _)) HH.out;rw[HDT.out];rw[HBX.out]at hq;exact Dq.trans HOQ.out HFQ.out hq
  ·have hpz:¬(0:Int)<(D.count:Int):=by omega
   have hcz:(D.count:Int)=0:=by omega
   have HDT:=hide (show dturn D={D with num:=now,count:=0,W:=win0} by unfold dturn;rw[HNOW.out,if_neg hle,if_neg hp]);have HD2:=hide HD1.out;have HOQ:=hide (show Off (df X q) w w1 from Off.of_below HB1.out);have HFQ:=hide (show ∀b∈df X q,b∈df X q∨w.heap.size≤b from fun b hb=>Or.inl hb);clear c8 c9 hcz;generalize w1=w2 at *;have hnw:=newW D.c HOK.out.cok w2;unfold cfg at hnw;obtain⟨c0,c1,c2,c3,c4,c5,c6,c7,c8,c9,c10,c11,c12⟩:=cells13 HD2.out.head;go_wp2_with fail
   refine hnw.mono ?_;clear hnw c0 c1 c2 c3 c4 c5 c6 c7 c8 c9 c10 c11 c12;rintro e w3 ⟨p',rfl,hpc,hwi,hfr,hb3⟩;have HWI:=hide hwi;have HFR:=hide hfr;have HB3:=hide hb3;have hh:=(HD2.out.keep hb3).head;have d8:=hh.cell 8 _ rfl;have f8:=hh.frozen 8;have hh9:=hh.set 8 (.int .i64 now);have d9:=hh9.cell 9 _ rfl;have f9:=hh9.frozen 9;have hh10:=hh9.set 9 (.int .i64 0);have d10:=hh10.cell 10 _ rfl;have f10:=hh10.frozen 10;have HH:=hide (hh10.set 10 (.pointer (some ⟨p'.P,0,none⟩)));clear hh hh9 hh10 hwi hfr hb3 hpc;go_wp2_with fail
   go_ret
   refine⟨rfl,?_⟩;have hq:=HD2.out.fresh HB3.out HWI.out HFR.out (((((Off.refl _ _).set (uB.2 rfl) _ _).set (uB.2 rfl) _ _).set (uB.2 rfl) _ _)) HH.out;rw[HDT.out];exact Dq.trans HOQ.out HFQ.out hq
theorem answer0 (X:Nat)(w:World):Calls Tryz.prog 162 #[.pointer (some ⟨X,0,none⟩),.nilIface] w fun e w'=>e=.returned (.int .i64 0)∧w'=w:=by
 go_enter Tryz.func162,Tryz.ntmps162
 go_wp2_with fail
 go_ret
 exact⟨rfl,rfl⟩
theorem writeD (w0 w:World)(hT:Tab w0)(h0:Below w0.heap.size w0 w)(X:Nat)(D:Dn)(q:Pl)(ds:List Bs)(n:Nat)(h:DA w X D q)(hfar:∀b∈df X q,w0.heap.size≤b)(ok:DOk D ds n)(hn:n≤10000000)(s:ByteArray)(hs:s.size≤256):
  Calls Tryz.prog 163 #[.pointer (some ⟨q.jb,0,none⟩),.int .i64 D.num,.string s] w fun e w'=>e=.returned .nilIface∧Kq w w' q.jb q.bx q.mb (jwrite D.J D.S D.num s).1 (jwrite D.J D.S D.num s).2.1 q.kf:=by
 have hz:=(ok.write (by omega) hs).2.2;have hl:=ok.calm.lasts;have hsz:=ok.sz;have hm:=ok.num;have ho:=ok.calm.len;have hsg:=ok.segs;have hx:=ok.next;have hx0:=ok.calm.next0;have hg:=ok.great;refine(write w0 w hT h0 q.jb q.bx D.J (.map (some q.mb)) q.ov D.S q.ba q.cap q.bs D.num s n (500*n) h.jw.ja h.pd (fun b hb=>hfar b (df_k (kf_jf hb))) ok.fits hn (by omega) (by omega) (by omega) hx0 (by omega) (by omega) (by omega) (by omega) (by omega) (by omega) (by omega)).mono ?_;rintro e w' ⟨v,rfl,hv,hk⟩;rw[hz]at hv;rcases hv with ⟨_,rfl⟩|⟨h1,_⟩
 ·exact⟨rfl,h.jw.kq h.pd hk (write_sealed ..)⟩
 ·exact absurd rfl h1
theorem syncJD (w0 w:World)(hT:Tab w0)(h0:Below w0.heap.size w0 w)(X:Nat)(D:Dn)(q:Pl)(ds:List Bs)(n:Nat)(h:DA w X D q)(hfar:∀b∈df X q,w0.heap.size≤b)(ok:DOk D ds n)(hn:n≤10000000):
  Calls Tryz.prog 164 #[.pointer (some ⟨q.jb,0,none⟩)] w fun e w'=>e=.returned .nilIface∧Kq w w' q.jb q.bx q.mb (jsync D.J D.S).1 (jsync D.J D.S).2.1 q.kf:=by
 have hz:=(ok.sync).2.2;have hl:=ok.calm.lasts;have hsz:=ok.sz;have ho:=ok.calm.len;have hsg:=ok.segs;refine(syncJ w0 w hT h0 q.jb q.bx D.J (.map (some q.mb)) q.ov D.S q.ba q.cap q.bs n (500*n) h.jw.ja h.pd (fun b hb=>hfar b (df_k (kf_jf hb))) ok.fits (by omega) (by omega) (by omega) (by omega) (by omega) (by omega)).mono ?_;rintro e w' ⟨v,rfl,hv,hk⟩;rw[hz]at hv;rcases hv with ⟨_,rfl⟩|⟨h1,_⟩
 ·exact⟨rfl,h.jw.kq h.pd hk (sync_sealed ..).1⟩
 ·exact absurd rfl h1
theorem forgetD (w0 w:World)(hT:Tab w0)(h0:Below w0.heap.size w0 w)(X:Nat)(D:Dn)(q:Pl)(ds:List Bs)(n:Nat)(h:DA w X D q)(hfar:∀b∈df X q,w0.heap.size≤b)(ok:DOk D ds n)(hn:n≤10000000)(win:Int)(hw:win∈D.due.map (·.k)):
  Calls Tryz.prog 166 #[.pointer (some ⟨q.jb,0,none⟩),.int .i64 win] w fun e w'=>e=.returned .nilIface∧Kq w w' q.jb q.bx q.mb (jforget D.J D.S win).1 (jforget D.J D.S win).2.1 q.kf:=by
 have hz:=(ok.ack (by omega) hw).2.2;have hl:=ok.calm.lasts;have hsz:=ok.sz;have ho:=ok.calm.len;have hsg:=ok.segs;have hx:=ok.next;have hx0:=ok.calm.next0;have hg:=ok.great;have hm:=ok.num;have hwr:-1≤win∧win<D.num:=by
  have hw2:win∈D.J.sealed.map (·.1):=by rw[ok.keys];exact hw
  obtain⟨m,hm1,hm2⟩:=List.mem_map.1 hw;have h1:=ok.lt m hm1;have h2:=ok.low m hm1;omega
 refine(forgetJ w0 w hT h0 q.jb q.bx q.mb D.J q.sv q.ov D.S q.ba q.cap q.bs win n (500*n) h.jw h.pd (fun b hb=>hfar b (df_k hb)) ok.fits hn (by omega) (by omega) (by omega) hx0 (by omega) (by omega) (by omega) (by omega) (by omega) (by omega) (by omega) (fun p hp=>?_)).mono ?_
 ·obtain⟨r1,r2⟩:=ok.calm.rows p hp;exact⟨by omega,fun x hx=>by have:=r2 x hx;omega⟩
 rintro e w' ⟨v,rfl,hv,hk⟩;rw[hz]at hv;rcases hv with ⟨_,rfl⟩|⟨h1,_⟩
 ·exact⟨rfl,hk⟩
 ·exact absurd rfl h1
set_option maxRecDepth 10000 in
theorem packetD (w0 w:World)(hT:Tab w0)(h0:Below w0.heap.size w0 w)(X:Nat)(D:Dn)(q:Pl)(ds:List Bs)(n:Nat)(h:DA w X D q)(hfar:∀b∈df X q,w0.heap.size≤b)(ok:DOk D ds n)(hn:n≤9000000)(s:ByteArray)(hs:s.size≤256):
  Calls Tryz.prog 110 #[.pointer (some ⟨X,0,none⟩),.string s] w fun e w'=>e=.returned (.int .i64 0)∧Dq w w' X (dpacket D s) (df X q) q.bx:=by
 have c12:=h.head.cell 12 _ rfl;rw[ok.spent]at c12;have hsz:¬(256:Int)<(s.size:Int):=by omega
 have htu:=turnD w0 w hT h0 X D q ds n h hfar ok (by omega);have HOK1:=hide ok.turn.1;have HC:=hide ok.turn.2.2.2.2.1;have HT:=hide hT;have HB0:=hide h0;have HFAR:=hide hfar;generalize (if D.clock / D.c 0≤D.num then ds else [])=ds1 at *;have HDP:=hide (show dpacket D s=dwrite (dturn D) s from rfl);generalize dturn D=D1 at *;clear h ok hT h0 hfar;go_enter Tryz.func110,Tryz.ntmps110
 go_wp2_with fail
 refine htu.mono ?_;clear htu c12;rintro e w1 ⟨rfl,hq1⟩;obtain⟨q1,hd1,hx1,hf1⟩:=hq1.ex;have HX1:=hide hx1;have HD1:=hide hd1;have HF1:=hide hf1;have HO1:=hide hq1.off;have HFAR1:=hide (show ∀b∈df X q1,w0.heap.size≤b from fun b hb=>(hf1 b hb).elim (HFAR.out b) fun h=>uG HB0.out.size h);have HB1:=hide (HB0.out.trans (hq1.off.below HFAR.out HB0.out.size));clear hd1 hf1 hq1 hx1;have C6:∀s:Bw w1,s.val.cell? ⟨X,6,none⟩=some (.pointer (some ⟨q1.jb,0,none⟩)):=fun s=>(HD1.out.keep s.is).head.cell 6 _ rfl
 have C8:∀s:Bw w1,s.val.cell? ⟨X,8,none⟩=some (.int .i64 D1.num):=fun s=>(HD1.out.keep s.is).head.cell 8 _ rfl
 go_wp2_with fail
 refine region_pre 10 (by kernel_rfl) (by kernel_rfl) ?_;simp only[uL,List.take_zero,uM,List.drop_zero];repeat (first
  | go_big_quiet_skip
  | (go_big_quiet_want;go_big_quiet_op;go_big_quiet_on))
 refine wpQuiet_nil ?_;intro st;have HB2:=hide st.is;have HD2:=hide (HD1.out.keep st.is);clear C6 C8;generalize st.val=w2 at *;have hwd:=writeD w0 w2 HT.out (HB1.out.trans (HB2.out.mono HB1.out.size)) X D1 q1 ds1 (n+1) HD2.out HFAR1.out HOK1.out (by omega) s hs;go_wp2_with fail
 refine hwd.mono ?_;clear hwd;rintro e w3 ⟨rfl,hkq⟩;obtain⟨q3,hd3,hf3,ho3,e1,e2,e3,e4,e5,e6,e7,e8⟩:=HD2.out.jour hkq;have HD3:=hide hd3;have HO3:=hide (off_trans HO1.out HF1.out ((Off.of_below HB2.out).trans ho3));have HF3:=hide (show ∀b∈df X q3,b∈df X q∨w.heap.size≤b from fun b hb=>(hf3 b hb).elim (HF1.out b) fun h=>Or.inr (uG HO1.out.size (uG HB2.out.size h)));have HX3:=hide (e7.trans HX1.out);clear hkq hd3 hf3 ho3 e1 e2 e3 e4 e5 e6 e7 e8;have hft:WFit (limOf D1.c) (nls ds1) D1.W:=HOK1.out.fit;have hcb:Lib.countByte (B s) 10≤(B s).length:=List.countP_le_length;have hbs:(B s).length=s.size:=(Bytes.size_B s).symm;have hln:=HOK1.out.lines;have hwn:=HD3.out.win;have htk:=takeGram q3.p (limOf D1.c) (nls ds1) q3.rj q3.dr q3.E s w3 HD3.out.wi (by rw[hwn];exact hft) HOK1.out.cok.lim (by omega) (by omega);have hwn':winOf q3.rj q3.dr q3.E=D1.W:=hwn;rw[hwn']at htk;have c10:=HD3.out.head.cell 10 _ rfl;clear hft hcb hbs hln hwn hwn';go_wp2_with fail
 refine htk.mono ?_;clear htk c10;rintro e w4 ⟨rfl,hg,_⟩;obtain⟨q4,hd4,hf4,ho4,e1,e2,e3⟩:=HD3.out.grew hg;have HD4:=hide hd4;have HO4:=hide (off_trans HO3.out HF3.out ho4);have HF4:=hide (show ∀b∈df X q4,b∈df X q∨w.heap.size≤b from fun b hb=>(hf4 b hb).elim (HF3.out b) fun h=>Or.inr (uG HO3.out.size h));have HX4:=hide (e3.trans HX3.out);clear hg hd4 hf4 ho4 e1 e2 e3;have hh:=HD4.out.head;have c9:=hh.cell 9 _ rfl;have f9:=hh.frozen 9;have hcn:D1.count≤10000000:=by
  rw[HOK1.out.cnt];have:=HOK1.out.len;omega
 have HH:=hide (hh.set 9 (.int .i64 ((D1.count:Int)+1)));have HCC:=hide (show (D1.count:Int)+1=((D1.count+1:Nat):Int) by omega);clear hh;go_wp2_with fail
 go_ret
 refine⟨rfl,?_⟩;rw[HDP.out];have hset:Off [X] w4 (w4.setCell ⟨X,9,none⟩ (.int .i64 ((D1.count:Int)+1))):=(Off.refl _ _).set (uB.2 rfl) _ _;refine⟨⟨q4,HD4.out.put (D':=dwrite D1 s) hset ?_ rfl rfl rfl rfl rfl,HX4.out,HF4.out⟩,off_trans HO4.out (fun b hb=>Or.inl (uB.1 hb▸uC ..)) hset⟩;have:=HH.out;rw[HCC.out]at this;rw[HCC.out];exact this
theorem DOk.tick {D:Dn}{ds:List Bs}{n:Nat}(h:DOk D ds n){t:Int}(h0:0≤t)(h1:t≤1000000000):DOk {D with clock:=t} ds n:=
 {h with clk:=⟨h0,h1⟩}
set_option maxRecDepth 10000 in
theorem clockD (w0 w:World)(hT:Tab w0)(h0:Below w0.heap.size w0 w)(X:Nat)(D:Dn)(q:Pl)(ds:List Bs)(n:Nat)(h:DA w X D q)(hfar:∀b∈df X q,w0.heap.size≤b)(ok:DOk D ds n)(hn:n≤9000000)(t:Int):
  Calls Tryz.prog 111 #[.pointer (some ⟨X,0,none⟩),.int .i64 t] w fun e w'=>e=.returned (.int .i64 0)∧Dq w w' X (if t≤D.clock∨1000000000<t then D else dclock D t) (df X q) q.bx:=by
 have c12:=h.head.cell 12 _ rfl;rw[ok.spent]at c12;have c7:=h.head.cell 7 _ rfl;by_cases h1:t≤D.clock
 ·have HD:=hide h;rw[if_pos (Or.inl h1)];clear h ok hT h0 hfar;go_enter Tryz.func111,Tryz.ntmps111
  go_wp2_with fail
  go_ret
  exact⟨rfl,Dq.of HD.out (Below.refl _ _)⟩
 ·by_cases h2:1000000000<t
  ·have HD:=hide h;rw[if_pos (Or.inr h2)];clear h ok hT h0 hfar;go_enter Tryz.func111,Tryz.ntmps111
   go_wp2_with fail
   go_ret
   exact⟨rfl,Dq.of HD.out (Below.refl _ _)⟩
  ·rw[if_neg (fun e=>e.elim h1 h2)];have hc:=ok.clk;have f7:=h.head.frozen 7;have hset:Off [X] w (w.setCell ⟨X,7,none⟩ (.int .i64 t)):=(Off.refl _ _).set (uB.2 rfl) _ _;have hd:=h.put (D':={D with clock:=t}) hset (h.head.set 7 (.int .i64 t)) rfl rfl rfl rfl rfl;have hsF:Off (df X q) w (w.setCell ⟨X,7,none⟩ (.int .i64 t)):=hset.mono fun k _ hk=>uB.1 hk▸uC ..
   have htu:=turnD w0 (w.setCell ⟨X,7,none⟩ (.int .i64 t)) hT (h0.trans (hsF.below hfar h0.size)) X {D with clock:=t} q ds n hd hfar (ok.tick (by omega) (by omega)) (by omega);have HO:=hide hsF;have HDC:=hide (show dclock D t=dturn {D with clock:=t} from rfl);clear h ok hT h0 hfar hset hd hsF;go_enter Tryz.func111,Tryz.ntmps111
   go_wp2_with fail
   refine htu.mono ?_;clear htu;rintro e w1 ⟨rfl,hq⟩;have HQ:=hide (Dq.trans HO.out (fun b hb=>Or.inl hb) hq);clear hq;go_wp2_with fail
   refine(answer0 X w1).mono ?_;rintro e w2 ⟨rfl,rfl⟩;go_wp2_with fail
   go_ret
   exact⟨rfl,by rw[HDC.out];exact HQ.out⟩
set_option maxRecDepth 10000 in
theorem syncD (w0 w:World)(hT:Tab w0)(h0:Below w0.heap.size w0 w)(X:Nat)(D:Dn)(q:Pl)(ds:List Bs)(n:Nat)(h:DA w X D q)(hfar:∀b∈df X q,w0.heap.size≤b)(ok:DOk D ds n)(hn:n≤9000000):
  Calls Tryz.prog 112 #[.pointer (some ⟨X,0,none⟩)] w fun e w'=>e=.returned (.int .i64 0)∧Dq w w' X (dsync D) (df X q) q.bx:=by
 have c12:=h.head.cell 12 _ rfl;rw[ok.spent]at c12;have c6:=h.head.cell 6 _ rfl;have hsy:=syncJD w0 w hT h0 X D q ds n h hfar ok (by omega);have HD:=hide h;clear h ok hT h0 hfar;go_enter Tryz.func112,Tryz.ntmps112
 go_wp2_with fail
 refine hsy.mono ?_;clear hsy c12 c6;rintro e w1 ⟨rfl,hk⟩;obtain⟨q1,hd1,hf1,ho1,hrest⟩:=HD.out.jour hk;have HQ:=hide (show Dq w w1 X (dsync D) (df X q) q.bx from⟨⟨q1,hd1,hrest.2.2.2.2.2.2.1,hf1⟩,ho1⟩);clear hrest;clear hk hd1 hf1 ho1;go_wp2_with fail
 go_ret
 exact⟨rfl,HQ.out⟩
set_option maxRecDepth 10000 in
theorem ackD (w0 w:World)(hT:Tab w0)(h0:Below w0.heap.size w0 w)(X:Nat)(D:Dn)(q:Pl)(ds:List Bs)(n:Nat)(h:DA w X D q)(hfar:∀b∈df X q,w0.heap.size≤b)(ok:DOk D ds n)(hn:n≤9000000)(win:Int)(hw0:-9223372036854775808≤win)(hw1:win≤9223372036854775807):
  Calls Tryz.prog 113 #[.pointer (some ⟨X,0,none⟩),.int .i64 win] w fun e w'=>e=.returned (.int .i64 (if win∈D.due.map (·.k) then 0 else 4))∧Dq w w' X (if win∈D.due.map (·.k) then dack D win else D) (df X q) q.bx:=by
 have c12:=h.head.cell 12 _ rfl;rw[ok.spent]at c12;have c11:=h.head.cell 11 _ rfl;have hkey:=Maps.keyOf_int_mk (P:=Tryz.prog) (k:=3) Tryz.underlying3 (wf_int hw0 hw1);obtain⟨v,hv,_,hall⟩:=look_all 162 3 117 (int_keyed Tryz.underlying3) Tryz.underlying162 infoZ rfl h.due.tight hkey;obtain⟨m',rfl⟩:=okM_inv hv;have hl1:=hall w rfl;rw[D_has]at hl1;simp only[mv]at hl1;have HKEY:=hide hkey;have HD:=hide h;have HT:=hide hT;have HB0:=hide h0;have HFAR:=hide hfar;have HOK:=hide ok;clear hall hv hkey h ok hT h0 hfar;by_cases hin:win∈D.due.map (·.k)
 ·rw[decide_eq_true hin]at hl1;rw[if_pos hin,if_pos hin];have HIN:=hide hin;clear hin;go_enter Tryz.func113,Tryz.ntmps113
  have HB1:=hide (below_new (w:=w) (.cells #[.int .i64 m'.k,.string m'.t] 117));have HD1:=hide (HD.out.keep HB1.out);have c6:=HD1.out.head.cell 6 _ rfl;go_wp2_with fail
  clear c12 c11 hl1 c6;generalize w.alloc (.cells #[.int .i64 m'.k,.string m'.t] 117)=w1 at *;have hfg:=forgetD w0 w1 HT.out (HB0.out.trans (HB1.out.mono HB0.out.size)) X D q ds n HD1.out HFAR.out HOK.out (by omega) win HIN.out;refine hfg.mono ?_;clear hfg;rintro e w2 ⟨rfl,hk⟩;obtain⟨q2,hd2,hf2,ho2,hrest⟩:=HD1.out.jour hk;have HBX:=hide hrest.2.2.2.2.2.2.1;clear hrest;have HD2:=hide hd2;have HO2:=hide ((Off.of_below HB1.out).trans ho2);have HF2:=hide (show ∀b∈df X q2,b∈df X q∨w.heap.size≤b from fun b hb=>(hf2 b hb).imp id fun h=>uG HB1.out.size h);have c11:=hd2.head.cell 11 _ rfl;obtain⟨w3,hdr,hm3,hg3⟩:=hd2.due.tight.drop (t:=162) (int_keyed Tryz.underlying3) Tryz.underlying162 HKEY.out 0;rw[D_del]at hm3;obtain⟨hd3,ho3⟩:=hd2.less hm3 hg3.grown;have HQ:=hide (show Dq w w3 X (dack D win) (df X q) q.bx from⟨⟨q2,hd3,HBX.out,HF2.out⟩,off_trans HO2.out HF2.out ho3⟩);clear hk hd2 hf2 ho2 hm3 hg3 hd3 ho3;go_wp2_with fail
  go_ret
  exact⟨rfl,HQ.out⟩
 ·rw[decide_eq_false hin]at hl1;rw[if_neg hin,if_neg hin];have HIN:=hide hin;clear hin;go_enter Tryz.func113,Tryz.ntmps113
  go_wp2_with fail
  go_ret
  exact⟨rfl,Dq.of HD.out (below_new _)⟩
end Go.Proofs.YtenegfafjjknoaaGreatDoor.Dd
