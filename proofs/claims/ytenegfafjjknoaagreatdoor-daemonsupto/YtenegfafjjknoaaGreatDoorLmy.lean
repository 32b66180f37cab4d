/- The law of daemons: all lists that came out are as their owner wrote them. -/
import Derived.Test.YtenegfafjjknoaaGreatDoorLl
set_option maxHeartbeats 100000000
open List renaming mem_append_left → uA, mem_append → uB, mem_singleton → uC, replicate → uD, mem_append_right → uE
namespace Go.Proofs.YtenegfafjjknoaaGreatDoor.Lw
open Go.RowKit Go.Maps Mem Foot Bytes Im Wm Hi Plainw Cq Dm Dh Jr Wi Sk Hn Kr Dd
structure Lst (w:World)(r:Nat)(lv kv:Value)(ls:List (Value×Value))(mbs:List Nat):Prop where
 c23:w.cell? ⟨r,23,none⟩=some lv
 c24:w.cell? ⟨r,24,none⟩=some kv
 lists:w.ownsRow 0 69 1 lv ls.length (ls.map (·.1))
 grown:w.ownsRow 0 69 1 kv ls.length (ls.map (·.2))
 ents:∀i e,ls[i]? = some e→Ent w mbs i e.1 e.2
theorem marks_at {w:World}{mbs:List Nat}{v:Value}{n:Nat}{z:Int}(h:Marks w mbs v n z){k:Nat}(hk:k<n):∃b cv,v=.slice (some ⟨b,0,none⟩) n cv∧n≤cv∧w.cell? ⟨b,k*2,none⟩=some (.int .i64 z):=by
 obtain⟨ao,cv,h1,h2⟩:=h;obtain⟨b,cs,e1,_,e3,e4,e5⟩:=h2 (by omega);exact⟨b,cv,by rw[h1,e1],e3,e4.cell _ _ (e5 k hk).1⟩
theorem marks_shape {w:World}{mbs:List Nat}{v:Value}{n:Nat}{z:Int}(h:Marks w mbs v n z):∃ao cv,v=.slice ao n cv:=by
 obtain⟨ao,cv,h1,_⟩:=h;exact⟨ao,cv,h1⟩
set_option maxRecDepth 10000 in
theorem wholeL {w:World}{r:Nat}{lv kv:Value}{ls:List (Value×Value)}{mbs:List Nat}(h:Lst w r lv kv ls mbs)(hl:ls.length≤1000000000):
  Calls Tryz.prog 34 #[.pointer (some ⟨r,0,none⟩)] w fun e w'=>e=.returned (.tuple #[])∧w'=w:=by
 obtain⟨la,lc,hle⟩:=own_shapeJ h.lists;obtain⟨ka,kc,hke⟩:=own_shapeJ h.grown;have c23:=h.c23;have c24:=h.c24;rw[hle]at c23;rw[hke]at c24;have HL:=hide hle;have HK:=hide hke;have H:=hide h;clear hle hke h;go_enter Tryz.func34,Tryz.ntmps34
 go_wp2_with fail
 go_loopw [2] (fun s2 wr=>∃i:Nat,s2=.int .i64 (i:Int)∧wr=w∧i≤ls.length) (fun s2 _=>ls.length - (intOf s2).toNat)
 case atStart=>exact⟨0,rfl,rfl,by omega⟩
 case round=>
  obtain⟨i,rfl,rfl,hi⟩:=hrel;by_cases hil:i<ls.length
  ·have hiz:(i:Int)<(ls.length:Int):=by omega
   obtain⟨e,he⟩:∃e,ls[i]? = some e:=⟨_,List.getElem?_eq_getElem hil⟩;obtain⟨n,hn9,hm1,hm2⟩:=H.out.ents i e he;obtain⟨v,g⟩:=e;simp only at hm1 hm2;obtain⟨gk,gck,hk1,hk2,_,_,hk3⟩:=row_from H.out.grown hil;obtain⟨gl,gcl,hl1,hl2,_,_,hl3⟩:=row_from H.out.lists hil;have kcell:=(hk3 i g (by rw[List.getElem?_map,he];rfl)).1;have lcell:=(hl3 i v (by rw[List.getElem?_map,he];rfl)).1;rw[HK.out]at hk1;rw[HL.out]at hl1;injection hk1 with hk1 _ hk4;injection hl1 with hl1 _ hl4;subst hk1;subst hl1;subst hk4;subst hl4;obtain⟨ga,gc,rfl⟩:=marks_shape hm2;obtain⟨va,vc,rfl⟩:=marks_shape hm1;have HM1:=hide hm1;have HM2:=hide hm2;have hwn:IntKind.i64.wrap (-1 - (i:Int)) = -1 - (i:Int):=IntWalk.i64_in _ (by omega);have hi0:¬(i:Int)<0:=by omega
   clear he hm1 hm2 hk3 hl3;go_wp2_with fail
   go_loopw [3] (fun s3 W=>∃k:Nat,s3=.int .i64 (k:Int)∧W=wr∧k≤n+3) (fun s3 _=>n+3 - (intOf s3).toNat)
   case atStart=>exact⟨0,rfl,rfl,by omega⟩
   case round=>
    obtain⟨k,rfl,rfl,hk⟩:=hrel;by_cases hkl:k<n+3
    ·have hkz:(k:Int)<(n:Int)+3:=by omega
     have hk0:¬(k:Int)<0:=by omega
     obtain⟨gb,_,hge,_,gcell⟩:=marks_at HM2.out hkl;injection hge with hge _ hgc;subst hge;subst hgc;by_cases hkn:k<n
     ·have hkn1:¬(n:Int)≤(k:Int):=by omega
      obtain⟨vb,_,hve,_,vcell⟩:=marks_at HM1.out hkn;injection hve with hve _ hvc;subst hve;subst hvc;clear HM1 HM2 H;go_wp2_with fail
      refine(mustT r _).mono ?_;rintro e w6 ⟨rfl,hw6⟩;subst hw6;go_wp2_with fail
      refine⟨⟨k+1,by rfl,trivial,by omega⟩,by simp only[intOf];omega⟩
     ·have hkn1:(n:Int)≤(k:Int):=by omega
      clear HM1 HM2 H;go_wp2_with fail
      refine(mustT r _).mono ?_;rintro e w6 ⟨rfl,hw6⟩;subst hw6;go_wp2_with fail
      refine⟨⟨k+1,by rfl,trivial,by omega⟩,by simp only[intOf];omega⟩
    ·have hkz:¬(k:Int)<(n:Int)+3:=by omega
     go_wp2_with fail
     refine⟨⟨i+1,by rfl,trivial,by omega⟩,by simp only[intOf];omega⟩
  ·have hiz:¬(i:Int)<(ls.length:Int):=by omega
   go_wp2_with fail
   go_end0
   exact⟨rfl,rfl⟩
theorem len_sub:∀(l s:List Int),l.Nodup→(∀x∈l,x∈s)→l.length≤s.length
 | [],_,_,_=>Nat.zero_le _
 | a ::l,s,hn,hs=>by
  rw[List.nodup_cons]at hn;have ha:a∈s:=hs a (List.mem_cons_self ..);have h1:=len_sub l (s.erase a) hn.2 fun x hx=>by
   have hne:x≠a:=fun e=>hn.1 (e▸hx)
   exact(List.mem_erase_of_ne hne).2 (hs x (List.mem_cons_of_mem _ hx))
  rw[List.length_erase_of_mem ha]at h1;have:=List.length_pos_of_mem ha;rw[List.length_cons];omega
theorem Rel.evl {R:Rn}{D:Dn}{n:Nat}(h:Rel R D n):R.ever.length≤n:=by
 have:=len_sub (R.ever.map (·.k)) R.sl h.evn (fun x hx=>by
  obtain⟨m,hm,rfl⟩:=List.mem_map.1 hx;exact h.evs m hm)
 rw[List.length_map]at this;exact Nat.le_trans this h.sll
theorem Rel.seen {R:Rn}{D:Dn}{n:Nat}(h:Rel R D n)(hu:∀x∈D.due,∀y∈D.due,x.k=y.k→x=y){m:Ms}(hm:m∈D.due)(hx:∀x∈R.ever,x.k≠m.k):Rel {R with ever:=R.ever++[m]} D n:=by
 refine⟨h.ok,h.c,h.now,h.o,h.due,fun x hx=>?_,h.gon,h.gol,?_,fun x hx=>?_,h.dus,h.sll⟩
 ·rcases uB.1 hx with hx|hx
  ·exact h.evr x hx
  ·rw[uC]at hx;subst hx;exact⟨h.ok.lt x hm,fun m' hm' e=>hu x hm m' hm' e⟩
 ·show ((R.ever++[m]).map (·.k)).Nodup;rw[List.map_append,List.nodup_append];refine⟨h.evn,by simp,fun a ha b hb=>?_⟩;obtain⟨x,hx',rfl⟩:=List.mem_map.1 ha;simp at hb
  rw[hb];exact hx x hx'
 ·rcases uB.1 hx with hx|hx
  ·exact h.evs x hx
  ·rw[uC]at hx;subst hx;exact h.dus x hm
theorem RA.evers {w w1 w2 w3:World}{r:Nat}{R:Rn}{D:Dn}{p:Rp}(h:RA w r R D p)(hb:Below w.heap.size w w1){ev':Value}{m:Ms}(ho:Off p.ev.ownBlock.toList w1 w2)(hrow:w2.ownsRow 0 117 2 ev' (R.ever++[m]).length (mcells (R.ever++[m])))(hsm:∀k∈ev'.ownBlock.toList,k∈p.ev.ownBlock.toList∨w.heap.size≤k)(hs:Off [r] w2 w3)(hh:Sits w3 r 75 (rcs {R with ever:=R.ever++[m]} {p with ev:=ev'})):
  RA w3 r {R with ever:=R.ever++[m]} D {p with ev:=ev'}∧(∀k∈rf r {p with ev:=ev'},k∈rf r p∨w.heap.size≤k)∧Off (rf r p) w w3:=by
 have h1:=h.keep hb;have hr1:=h1.rows;have hrn:r∉p.ev.ownBlock.toList:=h.rno.2.2.2.1;have hno:∀{w':World} {base size n:Nat} {e:TypeId} {v:Value} {xs:List Value},w'.ownsRow base e size v n xs→Sits w' r 75 (rcs R p)→e≠75→∀k∈v.ownBlock.toList,k∉[r]:=fun ho hs he k hk e=>by
  obtain⟨cs,hs'⟩:=sits_row ho hk;rw[uC.1 e]at hs';exact sits_neJ hs' hs he rfl
 have hh2:Sits w2 r 75 (rcs R p):=Foot.Sits.off h1.head ho hrn;have two:∀{base size n:Nat} {e:TypeId} {v:Value} {xs:List Value},w1.ownsRow base e size v n xs→(∀k∈v.ownBlock.toList,k∉p.ev.ownBlock.toList)→e≠75→w3.ownsRow base e size v n xs:=fun hx h2 h3=>by
  have hy:=own_off hx ho h2;exact own_off hy hs (hno hy hh2 h3)
 have hml:∀k∈p.mbs,k∉p.ev.ownBlock.toList∧k∉[r]:=fun k hk=>by
  refine⟨fun e=>(hr1.e1 k e).2 hk,fun e=>?_⟩;obtain⟨cs,hs'⟩:=hr1.ml k hk;rw[uC.1 e]at hs';exact sits_neJ hs' h1.head (by decide) rfl
 have hgd:∀k∈p.ev.ownBlock.toList,k∉df p.X p.q:=fun k hk=>h.ap k (lf_e hk)
 have hda:DA w3 p.X D p.q:=(h1.da.off ho (fun k hk e=>hgd k e hk)).off hs (fun k hk e=>h.ap r (lf_r r p) (uC.1 e▸hk));have hd1:∀k∈p.dv.ownBlock.toList,k∉p.ev.ownBlock.toList:=fun k hk e=>(hr1.e1 k e).1 hk
 refine⟨⟨hh,hda,⟨⟨two hr1.wd.due hd1 (by decide),two hr1.wd.held (own_not hr1.wd.held hr1.ever (by decide)) (by decide)⟩,own_off hrow hs (hno hrow hh2 (by decide)),two hr1.gone (own_not hr1.gone hr1.ever (by decide)) (by decide),two hr1.lists (own_not hr1.lists hr1.ever (by decide)) (by decide),two hr1.grown (own_not hr1.grown hr1.ever (by decide)) (by decide),fun i e he=>((hr1.ents i e he).off ho fun k hk=>(hml k hk).1).off hs fun k hk=>(hml k hk).2,fun k hk=>(hr1.ml k hk).imp fun cs hs'=>Foot.Sits.off (Foot.Sits.off hs' ho (hml k hk).1) hs (hml k hk).2,fun k hk=>?_,hr1.e2⟩,h.rm,fun k hk=>?_⟩,fun k hk=>?_,?_⟩
 ·rcases hsm k hk with e|e
  ·exact hr1.e1 k e
  ·refine⟨fun hd=>?_,fun hd=>?_⟩
   ·have:=h.lfl k (lf_d hd);omega
   ·have:=h.lfl k (lf_m hd);omega
 ·rcases lf_cases hk with e|e|e|e|e|e|e|e
  ·exact e▸h.ap r (lf_r _ _)
  ·exact h.ap k (lf_d e)
  ·exact h.ap k (lf_h e)
  ·rcases hsm k e with e2|e2
   ·exact h.ap k (lf_e e2)
   ·intro hd;have:=h.da.lt k hd;omega
  ·exact h.ap k (lf_g e)
  ·exact h.ap k (lf_l e)
  ·exact h.ap k (lf_k e)
  ·exact h.ap k (lf_m e)
 ·rcases uB.1 hk with e|e
  ·rcases lf_cases e with e|e|e|e|e|e|e|e
   ·exact Or.inl (uA _ (e▸lf_r _ _))
   ·exact Or.inl (uA _ (lf_d e))
   ·exact Or.inl (uA _ (lf_h e))
   ·exact(hsm k e).imp (fun e2=>uA _ (lf_e e2)) id
   ·exact Or.inl (uA _ (lf_g e))
   ·exact Or.inl (uA _ (lf_l e))
   ·exact Or.inl (uA _ (lf_k e))
   ·exact Or.inl (uA _ (lf_m e))
  ·exact Or.inl (uE _ e)
 ·exact((Off.of_below hb).trans (ho.mono fun k _ hk=>uA _ (lf_e hk))).trans (hs.mono fun k _ hk=>uC.1 hk▸uA _ (lf_r _ _))
theorem Marks.more {w:World}{mbs mbs':List Nat}{v:Value}{n:Nat}{z:Int}(h:Marks w mbs v n z)(hs:∀k∈mbs,k∈mbs'):Marks w mbs' v n z:=by
 obtain⟨ao,cv,h1,h2⟩:=h;refine⟨ao,cv,h1,fun hn=>?_⟩;obtain⟨b,cs,e1,e2,e3,e4,e5⟩:=h2 hn;exact⟨b,cs,e1,hs b e2,e3,e4,e5⟩
theorem Ent.more {w:World}{mbs mbs':List Nat}{i:Nat}{v g:Value}(h:Ent w mbs i v g)(hs:∀k∈mbs,k∈mbs'):Ent w mbs' i v g:=by
 obtain⟨n,h0,h1,h2⟩:=h;exact⟨n,h0,h1.more hs,h2.more hs⟩
theorem RA.listed {w w9:World}{r:Nat}{R:Rn}{D:Dn}{p:Rp}{nb:List Nat}{v g lv' kv':Value}(h:RA w r R D p)(hnb:∀k∈nb,k∉rf r p∧∃cs,Sits w9 k 117 cs)(ho:Off (nb++(p.lv.ownBlock.toList++(p.kv.ownBlock.toList++[r]))) w w9)
  (hh:Sits w9 r 75 (rcs R {p with lv:=lv',kv:=kv',ls:=p.ls++[(v,g)],mbs:=nb++p.mbs})) (hl:w9.ownsRow 0 69 1 lv' (p.ls.length+1) (p.ls.map (·.1)++[v])) (hk:w9.ownsRow 0 69 1 kv' (p.ls.length+1) (p.ls.map (·.2)++[g])) (hen:Ent w9 nb p.ls.length v g)
  (hsl:∀k∈lv'.ownBlock.toList,k∈p.lv.ownBlock.toList∨w.heap.size≤k) (hsk:∀k∈kv'.ownBlock.toList,k∈p.kv.ownBlock.toList∨w.heap.size≤k) (h2:∀k∈lv'.ownBlock.toList,k∉kv'.ownBlock.toList):
  RA w9 r R D {p with lv:=lv',kv:=kv',ls:=p.ls++[(v,g)],mbs:=nb++p.mbs}∧∀k∈rf r {p with lv:=lv',kv:=kv',ls:=p.ls++[(v,g)],mbs:=nb++p.mbs},k∈rf r p∨k∈nb∨w.heap.size≤k:=by
 have hr:=h.rows;obtain⟨n1,n2,n3,n4,n5,n6,n7⟩:=h.rno;have hnr:r∉nb:=fun e=>(hnb r e).1 (uA _ (lf_r r p))
 have out:∀k,k∈lf r p→k≠r→k∉p.lv.ownBlock.toList→k∉p.kv.ownBlock.toList→k∉nb++(p.lv.ownBlock.toList++(p.kv.ownBlock.toList++[r])):=fun k hk hkr hkl hkk hm=>by
  rcases uB.1 hm with e|e
  ·exact(hnb k e).1 (uA _ hk)
  ·rcases uB.1 e with e|e
   ·exact hkl e
   ·rcases uB.1 e with e|e
    ·exact hkk e
    ·exact hkr (uC.1 e)
 have mv:∀{base size n:Nat} {e:TypeId} {u:Value} {xs:List Value},w.ownsRow base e size u n xs→(∀k∈u.ownBlock.toList,k∈lf r p)→r∉u.ownBlock.toList→e≠69→w9.ownsRow base e size u n xs:=fun hx h1 h2 h3=>
  own_off hx ho fun k hk=>out k (h1 k hk) (fun e=>h2 (e▸hk)) (own_not hx hr.lists h3 k hk) (own_not hx hr.grown h3 k hk)
 have hmb:∀k∈p.mbs,k∉nb++(p.lv.ownBlock.toList++(p.kv.ownBlock.toList++[r])):=fun k hk=>by
  obtain⟨cs,hs⟩:=hr.ml k hk;refine out k (lf_m hk) (fun e=>n1 (e▸hk)) (fun e=>?_) (fun e=>?_)
  ·obtain⟨cs',hs'⟩:=sits_row hr.lists e;exact sits_neJ hs hs' (by decide) rfl
  ·obtain⟨cs',hs'⟩:=sits_row hr.grown e;exact sits_neJ hs hs' (by decide) rfl
 have hdf:∀k∈df p.X p.q,k∉nb++(p.lv.ownBlock.toList++(p.kv.ownBlock.toList++[r])):=fun k hk hm=>by
  rcases uB.1 hm with e|e
  ·exact(hnb k e).1 (uE _ hk)
  ·rcases uB.1 e with e|e
   ·exact h.ap k (lf_l e) hk
   ·rcases uB.1 e with e|e
    ·exact h.ap k (lf_k e) hk
    ·rw[uC]at e;exact h.ap r (lf_r r p) (e▸hk)
 refine⟨⟨hh,h.da.off ho hdf,⟨⟨mv hr.wd.due (fun k hk=>lf_d hk) n2 (by decide),mv hr.wd.held (fun k hk=>lf_h hk) n3 (by decide)⟩,mv hr.ever (fun k hk=>lf_e hk) n4 (by decide),mv hr.gone (fun k hk=>lf_g hk) n5 (by decide),?_,?_,fun i e he=>?_,fun k hk=>?_,fun k hk=>⟨(hr.e1 k hk).1,fun e=>?_⟩,h2⟩,fun e=>?_,fun k hk hd=>?_⟩,fun k hk=>?_⟩
 ·rw[List.length_append,List.map_append];exact hl
 ·rw[List.length_append,List.map_append];exact hk
 ·by_cases hi:i<p.ls.length
  ·rw[List.getElem?_append_left hi]at he;exact((hr.ents i e he).off ho hmb).more fun k hk=>uE _ hk
  ·rw[List.getElem?_append_right (by omega)]at he;have h0:=(List.getElem?_eq_some_iff.1 he).1;have hi2:i=p.ls.length:=by simp at h0;omega
   subst hi2;simp at he
   subst he;exact hen.more fun k hk=>uA _ hk
 ·rcases uB.1 hk with e|e
  ·exact(hnb k e).2
  ·exact(hr.ml k e).imp fun cs hs=>Foot.Sits.off hs ho (hmb k e)
 ·rcases uB.1 e with e|e
  ·exact(hnb k e).1 (uA _ (lf_e hk))
  ·exact(hr.e1 k hk).2 e
 ·rcases uB.1 e with e|e
  ·exact hnr e
  ·exact n1 e
 ·have hl:=h.da.lt k hd;rcases lf_cases hk with e|e|e|e|e|e|e|e
  ·exact h.ap r (lf_r _ _) (e▸hd)
  ·exact h.ap k (lf_d e) hd
  ·exact h.ap k (lf_h e) hd
  ·exact h.ap k (lf_e e) hd
  ·exact h.ap k (lf_g e) hd
  ·rcases hsl k e with e|e
   ·exact h.ap k (lf_l e) hd
   ·omega
  ·rcases hsk k e with e|e
   ·exact h.ap k (lf_k e) hd
   ·omega
  ·rcases uB.1 e with e|e
   ·exact(hnb k e).1 (uE _ hd)
   ·exact h.ap k (lf_m e) hd
 ·rcases uB.1 hk with e|e
  ·rcases lf_cases e with e|e|e|e|e|e|e|e
   ·exact Or.inl (uA _ (e▸lf_r _ _))
   ·exact Or.inl (uA _ (lf_d e))
   ·exact Or.inl (uA _ (lf_h e))
   ·exact Or.inl (uA _ (lf_e e))
   ·exact Or.inl (uA _ (lf_g e))
   ·exact(hsl k e).imp (fun e2=>uA _ (lf_l e2)) Or.inr
   ·exact(hsk k e).imp (fun e2=>uA _ (lf_k e2)) Or.inr
   ·rcases uB.1 e with e|e
    ·exact Or.inr (Or.inl e)
    ·exact Or.inl (uA _ (lf_m e))
  ·exact Or.inl (uE _ e)
def filled (i:Nat)(z:Ms)(l:List Ms):List Ms:=uD i z++l.drop i
theorem filled_zero (z:Ms)(l:List Ms):filled 0 z l=l:=by simp[filled]
theorem filled_length {i:Nat}{z:Ms}{l:List Ms}(h:i≤l.length):(filled i z l).length=l.length:=by
 simp[filled]
 omega
theorem filled_all (z:Ms)(l:List Ms):filled l.length z l=uD l.length z:=by simp[filled]
theorem filled_get {i:Nat}{z:Ms}{l:List Ms}(h:i<l.length):(filled i z l)[i]? = some l[i]:=by
 rw[filled,List.getElem?_append_right (by simp),List.length_replicate,Nat.sub_self,List.getElem?_drop,Nat.add_zero,List.getElem?_eq_getElem h]
theorem filled_set {i:Nat}{z:Ms}{l:List Ms}(h:i<l.length):(filled i z l).set i z=filled (i+1) z l:=by
 have hd:l.drop i=l[i] ::l.drop (i+1):=List.drop_eq_getElem_cons h;rw[filled,filled,List.set_append_right _ _ (by simp),List.length_replicate,Nat.sub_self,hd,List.set_cons_zero,List.replicate_succ',List.append_assoc];rfl
theorem mcells_set:∀(l:List Ms) (i:Nat) (z:Ms),i<l.length→mcells (l.set i z)=((mcells l).set (i*2) (.int .i64 z.k)).set (i*2+1) (.string z.t):=by
 intro l
 induction l with
 | nil=>intro i z h;simp at h
 | cons x l ih=>
  intro i z h;cases i with
  | zero=>rfl
  | succ i=>
   rw[List.set_cons_succ,mcells,mcells,ih i z (by simpa using h),show (i+1)*2=i*2+1+1 by omega,show i*2+1+1+1=(i*2+1)+1+1 by omega];rfl
theorem own_set2 {w:World}{base n g cap i:Nat}{e:TypeId}{l:List Ms}(z:Ms)(hi:i<l.length)(h:w.ownsRow base e 2 (.slice (some ⟨g,0,none⟩) n cap) n (mcells l)):((w.setCell ⟨g,i*2,none⟩ (.int .i64 z.k)).setCell ⟨g,i*2+1,none⟩ (.string z.t)).ownsRow base e 2 (.slice (some ⟨g,0,none⟩) n cap) n (mcells (l.set i z)):=by
 have hl:=h.1;refine⟨by rw[mcells_length,List.length_set,←mcells_length];exact hl,?_⟩;rcases h.2 with ⟨h0,_⟩|⟨g',cap',cur,hv,hb,hg,hn,hm,hs,ht⟩
 ·cases h0
 ·injection hv with e1 _ e3;injection e1 with e1;injection e1 with e1;subst e1;subst e3;refine Or.inr ⟨g,cap,_,rfl,hb,Sits.set (t:=e) (Sits.set (t:=e) (cs:=cur) hg (i*2) _) (i*2+1) _,hn,hm,by simpa using hs,?_⟩;rw[Array.toList_setIfInBounds,Array.toList_setIfInBounds,List.take_set,List.take_set,ht,mcells_set l i z hi]
theorem infoRow:(Tryz.prog.info? 69).map (fun i=>(i.zero,i.size,i.bytes))=some (some (.slice none 0 0),1,24):=by kernel_rfl
theorem cell_six_new (w:World)(a b c d e f:Value)(t:TypeId):∀j u,[a,b,c,d,e,f][j]? = some u→(w.alloc (.cells #[a,b,c,d,e,f] t)).cell? ((⟨w.heap.size,0,none⟩:Addr).add j)=some u:=by
 intro j u hj
 match j,hj with
 | 0,hj=>simp at hj;subst hj;simp[Addr.add]
 | 1,hj=>simp at hj;subst hj;simp[Addr.add]
 | 2,hj=>simp at hj;subst hj;simp[Addr.add]
 | 3,hj=>simp at hj;subst hj;simp[Addr.add]
 | 4,hj=>simp at hj;subst hj;simp[Addr.add]
 | 5,hj=>simp at hj;subst hj;simp[Addr.add]
 | j+6,hj=>simp at hj
theorem src_three (w:World)(z:Ms)(t:TypeId)(b:Nat)(hb:b=w.heap.size):Apn.Src (w.alloc (.cells #[.int .i64 z.k,.string z.t,.int .i64 z.k,.string z.t,.int .i64 z.k,.string z.t] t)) 2 (some ⟨b,0,none⟩) 3 (mcells (uD 3 z)):=by
 subst hb;refine⟨rfl,fun u hu=>?_,Or.inr ⟨_,rfl,cell_six_new w _ _ _ _ _ _ t⟩⟩;simp[mcells,uD]at hu
 rcases hu with rfl|rfl|rfl|rfl|rfl|rfl<;>rfl
theorem rep_more (n:Nat)(z:Ms):mcells (uD n z)++mcells (uD 3 z)=mcells (uD (n+3) z):=by
 rw[←mcells_append,List.replicate_append_replicate]
theorem mcells_rep (n:Nat)(z:Ms):∀j,j<n→(mcells (uD n z))[j*2]? = some (.int .i64 z.k)∧(mcells (uD n z))[j*2+1]? = some (.string z.t):=fun j hj=>
 mcells_at (by rw[List.getElem?_replicate,if_pos hj])
theorem marks_pre {w:World}{mbs:List Nat}{base n n5 lc:Nat}{ao:Option Addr}{v5:Value}{z:Int}(hn:n≠0→n≤lc∧∃g,ao=some ⟨g,0,none⟩)(hle:n≤n5)(h5:w.ownsRow base 117 2 v5 n5 (mcells (uD n5 ⟨z,⟨#[]⟩⟩)))(hb:n≠0→v5.ownBlock=(Value.slice ao n lc).ownBlock)(hs:∀k∈v5.ownBlock.toList,k∈mbs):Marks w mbs (.slice ao n lc) n z:=by
 refine⟨ao,lc,rfl,fun h0=>?_⟩;obtain⟨h1,g,rfl⟩:=hn h0;have hb:=hb h0;rcases h5.2 with ⟨_,rfl⟩|⟨g5,cap,cur,rfl,_,hg,_,_,_,ht⟩
 ·omega
 ·have e:g5=g:=by simpa[Value.ownBlock] using hb
  subst e;refine⟨g5,cur,rfl,hs g5 (by simp[Value.ownBlock]),h1,hg,fun j hj=>?_⟩;have hc:∀(i:Nat) u,(mcells (uD n5 (⟨z,⟨#[]⟩⟩:Ms)))[i]? = some u→cur[i]? = some u:=fun i u hu=>by
   rw[←ht,List.getElem?_take]at hu;split at hu
   ·simpa using hu
   ·cases hu
  obtain⟨a1,a2⟩:=mcells_rep n5 ⟨z,⟨#[]⟩⟩ j (by omega);exact⟨hc _ _ a1,hc _ _ a2⟩
theorem row_base {w:World}{base n:Nat}{v:Value}{xs:List Value}(h:w.ownsRow base 117 2 v n xs)(hn:n≠0):∃g c,v=.slice (some ⟨g,0,none⟩) n c∧n≤c:=by
 rcases h.2 with ⟨_,h0⟩|⟨g,cap,cur,rfl,_,_,h1,_⟩
 ·exact absurd h0 hn
 ·exact⟨g,cap,rfl,h1⟩
theorem marks_row {w:World}{mbs:List Nat}{base n:Nat}{v:Value}{z:Int}(h:w.ownsRow base 117 2 v n (mcells (uD n ⟨z,⟨#[]⟩⟩)))(hs:∀k∈v.ownBlock.toList,k∈mbs):Marks w mbs v n z:=by
 obtain⟨ao,c,rfl⟩:=own_shapeJ h;refine marks_pre (fun hn=>?_) (Nat.le_refl _) h (fun _=>rfl) hs;obtain⟨g,c',e,hc⟩:=row_base h hn;injection e with e1 _ e3;exact⟨e3▸hc,g,e1⟩
structure Mid4 (x x4:World)(r:Nat)(R:Rn)(p:Rp)(v3 l:Value)(n3 nk n B:Nat)(vs ys zs:List Value)(cs:Array Value):Prop where
 head:Sits x4 r 75 (rcs R {p with lv:=v3})
 lists:x4.ownsRow 0 69 1 v3 n3 vs
 grown:x4.ownsRow 0 69 1 p.kv nk ys
 row:x4.ownsRow 0 117 2 l n zs
 box:Sits x4 B 117 cs
 off:Off (p.lv.ownBlock.toList++[r]) x x4
theorem mid_head {x x3:World}{r n:Nat}{R:Rn}{p:Rp}{o:Obj}{xs:List Value}(hh:Sits x r 75 (rcs R p))(hL:x.ownsRow 0 69 1 p.lv n xs)(gr:(x.alloc o).grownBy x3 p.lv.ownBlock):Sits x3 r 75 (rcs R p):=
 Foot.Sits.off (Mem.Sits.below hh (below_new o) hh.lt) (row_off gr) (fun hm=>by
  obtain⟨cs,hs⟩:=sits_row hL hm;exact sits_neJ hs hh (by decide) rfl)
theorem mid4 {x x3:World}{r n nl nk n3 B:Nat}{R:Rn}{p:Rp}{o:Obj}{xs ys zs vs:List Value}{l v3:Value}{cs:Array Value}(hh:Sits x r 75 (rcs R p))(hL:x.ownsRow 0 69 1 p.lv nl xs)(hK:x.ownsRow 0 69 1 p.kv nk ys)(he:∀k∈p.lv.ownBlock.toList,k∉p.kv.ownBlock.toList)(hW:x.ownsRow 0 117 2 l n zs)(hB:Sits x B 117 cs)(gr:(x.alloc o).grownBy x3 p.lv.ownBlock)(ho:x3.ownsRow 0 69 1 v3 n3 vs):Mid4 x (x3.setCell ⟨r,23,none⟩ v3) r R p v3 l n3 nk n B vs ys zs cs:=by
 have h3:=mid_head hh hL gr;have o3:Off p.lv.ownBlock.toList x x3:=(Off.of_below (below_new o)).trans (row_off gr);have o4:Off [r] x3 (x3.setCell ⟨r,23,none⟩ v3):=(Off.refl _ _).set (uC.2 rfl) _ _;have nr:∀{base size n:Nat} {e:TypeId} {v:Value} {xs:List Value},x3.ownsRow base e size v n xs→e≠75→∀k∈v.ownBlock.toList,k∉[r]:=fun ho he k hk e=>by
  obtain⟨cs,hs'⟩:=sits_row ho hk;rw[uC.1 e]at hs';exact sits_neJ hs' h3 he rfl
 have hK3:=own_off hK o3 (fun k hk e=>he k e hk);have hW3:=own_off hW o3 (own_not hW hL (by decide));have hB3:=Foot.Sits.off hB o3 (fun hm=>by
  obtain⟨cs,hs⟩:=sits_row hL hm;exact sits_neJ hs hB (by decide) rfl)
 refine⟨?_,own_off ho o4 (nr ho (by decide)),own_off hK3 o4 (nr hK3 (by decide)),own_off hW3 o4 (nr hW3 (by decide)),Foot.Sits.off hB3 o4 (fun e=>?_),(o3.mono fun k _ hk=>uA _ hk).trans (o4.mono fun k _ hk=>uE _ hk)⟩
 ·unfold rcs at h3 ⊢;exact h3.set 23 v3
 ·rw[uC.1 e]at hB3;exact sits_neJ hB3 h3 (by decide) rfl
theorem toldEnd {wq x x4 xa x5 x6 x7:World}{r n lc B:Nat}{la:Option Addr}{R:Rn}{D:Dn}{p:Rp}{v3 v5 v7:Value}{cs:Array Value}(hra:RA wq r R D p)(hlo:∀k∈(Value.slice la n lc).ownBlock.toList,k∉rf r p)(hn9:n≤1000000000)(h1:Off (Value.slice la n lc).ownBlock.toList wq x)
  (hm:Mid4 x x4 r R p v3 (.slice la n lc) (p.ls.length+1) p.ls.length n B (p.ls.map (·.1)++[.slice la n lc]) (p.ls.map (·.2)) (mcells (uD n ⟨-1 - (p.ls.length:Int),⟨#[]⟩⟩)) cs)
  (hs3:∀k∈v3.ownBlock.toList,k∈p.lv.ownBlock.toList∨x.heap.size≤k) (ha:Below x4.heap.size x4 xa)
  (o5:x5.ownsRow 0 117 2 v5 (n+3) (mcells (uD (n+3) ⟨-1 - (p.ls.length:Int),⟨#[]⟩⟩))) (g5:Off (Value.slice la n lc).ownBlock.toList xa x5) (s5:∀k∈v5.ownBlock.toList,k∈(Value.slice la n lc).ownBlock.toList∨xa.heap.size≤k) (st5:v5.ownBlock=(Value.slice la n lc).ownBlock∨Off [] xa x5)
  (hb:Below x5.heap.size x5 x6) (o7:x7.ownsRow 0 69 1 v7 (p.ls.length+1) (p.ls.map (·.2)++[v5])) (g7:Off p.kv.ownBlock.toList x6 x7) (s7:∀k∈v7.ownBlock.toList,k∈p.kv.ownBlock.toList∨x6.heap.size≤k) (h7:Sits x7 r 75 (rcs R {p with lv:=v3})):
  ∃p',RA (x7.setCell ⟨r,24,none⟩ v7) r R D p'∧p'.ls.length=p.ls.length+1∧(∀k∈rf r p',k∈rf r p∨k∈(Value.slice la n lc).ownBlock.toList∨wq.heap.size≤k)∧Off (rf r p++(Value.slice la n lc).ownBlock.toList) wq (x7.setCell ⟨r,24,none⟩ v7):=by
 have o8:Off [r] x7 (x7.setCell ⟨r,24,none⟩ v7):=(Off.refl _ _).set (uC.2 rfl) _ _;have z1:=h1.size;have z2:=hm.off.size;have z3:=ha.size;have z4:=g5.size;have z5:=hb.size;have hr:=hra.rows;have nr:∀{base size n:Nat} {e:TypeId} {v:Value} {xs:List Value},x7.ownsRow base e size v n xs→e≠75→∀k∈v.ownBlock.toList,k∉[r]:=fun ho he k hk e=>by
  obtain⟨cs,hs'⟩:=sits_row ho hk;rw[uC.1 e]at hs';exact sits_neJ hs' h7 he rfl
 have klt:∀k∈p.kv.ownBlock.toList,k<wq.heap.size:=fun k hk=>row_lt hr.grown hk
 have llt:∀k∈p.lv.ownBlock.toList,k<wq.heap.size:=fun k hk=>row_lt hr.lists hk
 have lk:∀k∈(Value.slice la n lc).ownBlock.toList,k∉p.kv.ownBlock.toList:=fun k hk e=>hlo k hk (uA _ (lf_k e))
 have v3k:∀k∈v3.ownBlock.toList,k∉p.kv.ownBlock.toList:=fun k hk e=>by
  rcases hs3 k hk with h|h
  ·exact hr.e2 k h e
  ·have:=klt k e;omega
 have v5k:∀k∈v5.ownBlock.toList,k∉p.kv.ownBlock.toList:=fun k hk e=>by
  rcases s5 k hk with h|h
  ·exact lk k h e
  ·have:=klt k e;omega
 have la5:=own_keep hm.lists ha;have l5:=own_off la5 g5 (own_not la5 (own_keep hm.row ha) (by decide));have l7:=own_off (own_keep l5 hb) g7 v3k;have l8:=own_off l7 o8 (nr l7 (by decide));have m7:=own_off (own_keep o5 hb) g7 v5k;have m8:=own_off m7 o8 (nr m7 (by decide));have k8:=own_off o7 o8 (nr o7 (by decide));have hen:Ent (x7.setCell ⟨r,24,none⟩ v7) ((Value.slice la n lc).ownBlock.toList++v5.ownBlock.toList) p.ls.length (.slice la n lc) v5:=by
  refine⟨n,hn9,?_,marks_row m8 fun k hk=>uE _ hk⟩;rcases st5 with e|e
  ·refine marks_pre (fun h0=>?_) (by omega) m8 (fun _=>e) fun k hk=>uE _ hk
   obtain⟨g,c',e2,hc⟩:=row_base hm.row h0;injection e2 with e1 _ e3;exact⟨e3▸hc,g,e1⟩
  ·have r5:=own_off (own_keep hm.row ha) e (fun k _ h=>by cases h);have r7:=own_off (own_keep r5 hb) g7 lk;exact marks_row (own_off r7 o8 (nr r7 (by decide))) fun k hk=>uA _ hk
 have lrow:∀k∈(Value.slice la n lc).ownBlock.toList,∃cs,Sits (x7.setCell ⟨r,24,none⟩ v7) k 117 cs:=fun k hk=>by
  obtain⟨cs4,hs4⟩:=sits_row (own_keep hm.row ha) hk;rcases st5 with e|e
  ·exact sits_row m8 (e▸hk)
  ·have r5:=own_off (own_keep hm.row ha) e (fun k _ h=>by cases h);have r7:=own_off (own_keep r5 hb) g7 lk;exact sits_row (own_off r7 o8 (nr r7 (by decide))) hk
 have hnb:∀k∈(Value.slice la n lc).ownBlock.toList++v5.ownBlock.toList,k∉rf r p∧∃cs,Sits (x7.setCell ⟨r,24,none⟩ v7) k 117 cs:=fun k hk=>by
  rcases uB.1 hk with h|h
  ·exact⟨hlo k h,lrow k h⟩
  ·refine⟨fun e=>?_,sits_row m8 h⟩;rcases s5 k h with h|h
   ·exact hlo k h e
   ·have:=hra.lt k e;omega
 have hoff:Off ((Value.slice la n lc).ownBlock.toList++(p.lv.ownBlock.toList++(p.kv.ownBlock.toList++[r]))) wq (x7.setCell ⟨r,24,none⟩ v7):=by
  have a1:∀k,k∈(Value.slice la n lc).ownBlock.toList→k∈(Value.slice la n lc).ownBlock.toList++(p.lv.ownBlock.toList++(p.kv.ownBlock.toList++[r])):=fun k h=>uA _ h
  have a2:∀k,k∈p.lv.ownBlock.toList++[r]→k∈(Value.slice la n lc).ownBlock.toList++(p.lv.ownBlock.toList++(p.kv.ownBlock.toList++[r])):=fun k h=>by
   simp only[uB]at h ⊢;rcases h with h|h
   ·exact Or.inr (Or.inl h)
   ·exact Or.inr (Or.inr (Or.inr h))
  have a3:∀k,k∈p.kv.ownBlock.toList→k∈(Value.slice la n lc).ownBlock.toList++(p.lv.ownBlock.toList++(p.kv.ownBlock.toList++[r])):=fun k h=>by
   simp only[uB];exact Or.inr (Or.inr (Or.inl h))
  have a4:∀k,k∈[r]→k∈(Value.slice la n lc).ownBlock.toList++(p.lv.ownBlock.toList++(p.kv.ownBlock.toList++[r])):=fun k h=>by
   simp only[uB];exact Or.inr (Or.inr (Or.inr h))
  exact(((((h1.mono fun k _=>a1 k).trans (hm.off.mono fun k _=>a2 k)).trans (Off.of_below ha)).trans (g5.mono fun k _=>a1 k)).trans (Off.of_below hb)).trans ((g7.mono fun k _=>a3 k).trans (o8.mono fun k _=>a4 k))
 have hoff2:=hoff.mono (G:=((Value.slice la n lc).ownBlock.toList++v5.ownBlock.toList)++(p.lv.ownBlock.toList++(p.kv.ownBlock.toList++[r]))) fun k _ h=>by
  simp only[uB]at h ⊢;rcases h with h|h
  ·exact Or.inl (Or.inl h)
  ·exact Or.inr h
 have hh8:Sits (x7.setCell ⟨r,24,none⟩ v7) r 75 (rcs R {p with lv:=v3,kv:=v7,ls:=p.ls++[(.slice la n lc,v5)],mbs:=((Value.slice la n lc).ownBlock.toList++v5.ownBlock.toList)++p.mbs}):=by
  unfold rcs at h7 ⊢;exact h7.set 24 v7
 obtain⟨f1,f2⟩:=hra.listed hnb hoff2 hh8 l8 k8 hen (fun k hk=>(hs3 k hk).imp id fun h=>by omega) (fun k hk=>(s7 k hk).imp id fun h=>by omega) (fun k hk e=>by
  rcases s7 k e with h|h
  ·exact v3k k hk h
  ·have:=row_lt hm.lists hk;omega)
 refine⟨_,f1,by simp,fun k hk=>?_,hoff.mono fun k _ h=>?_⟩
 ·rcases f2 k hk with h|h|h
  ·exact Or.inl h
  ·rcases uB.1 h with h|h
   ·exact Or.inr (Or.inl h)
   ·rcases s5 k h with h|h
    ·exact Or.inr (Or.inl h)
    ·exact Or.inr (Or.inr (by omega))
  ·exact Or.inr (Or.inr h)
 ·simp only[uB]at h ⊢;rcases h with h|h|h|h
  ·exact Or.inr h
  ·exact Or.inl (uB.1 (uA _ (lf_l h)) |>.elim (fun a=>uA _ a) (fun a=>uE _ a))
  ·exact Or.inl (uA _ (lf_k h))
  ·exact Or.inl (uA _ (uC.1 h▸lf_r _ _))
end Go.Proofs.YtenegfafjjknoaaGreatDoor.Lw
namespace Go.Proofs.YtenegfafjjknoaaGreatDoor.Dd
open Go.RowKit Go.Maps Mem Foot Bytes Im Wm Hi Plainw Cq Dm Dh Jr Wi Sk Hn Kr
theorem used0 (w:World)(hb:Nat)(h:Sits w hb 291 (hz 0)):
  Calls Tryz.prog 269 #[.pointer (some ⟨hb,0,none⟩)] w fun e w'=>e=.returned (.slice none 0 0)∧Below w.heap.size w w':=by
 unfold hz at h;have c0:=h.cell 0 _ rfl;have c3:=h.cell 3 _ rfl;clear h;go_enter Tryz.func269,Tryz.ntmps269
 go_wp2_with fail
 go_loopw [3,12] (fun r s wr=>r=.slice none 0 0∧s=.int .i64 0∧wr=w) (fun _ _ _=>0)
 case atStart=>exact⟨rfl,rfl,rfl⟩
 case round=>
  obtain⟨rfl,rfl,rfl⟩:=hrel;go_wp2_with fail
  go_ret
  exact⟨rfl,Below.refl _ _⟩
theorem tidy0 (w:World)(bx hb:Nat)(h:Sits w hb 291 (hz 0)):
  Calls Tryz.prog 214 #[.pointer (some ⟨bx,0,none⟩),.slice none 0 0,.pointer (some ⟨hb,0,none⟩)] w fun e w'=>e=.returned .nilIface∧Below w.heap.size w w':=by
 have hu:=used0 w hb h;clear h;go_enter Tryz.func214,Tryz.ntmps214
 go_wp2_with fail
 refine hu.mono ?_;clear hu;rintro e w1 ⟨rfl,hb1⟩;have HB:=hide hb1;clear hb1;go_wp2_with fail
 go_loopw [16] (fun s wr=>s=.int .i64 0∧wr=w1) (fun _ _=>0)
 case atStart=>exact⟨rfl,rfl⟩
 case round=>
  obtain⟨rfl,rfl⟩:=hrel;go_wp2_with fail
  go_ret
  exact⟨rfl,HB.out⟩
theorem made_map (w:World):(w.alloc (.map #[] 0)).ownsMap Tryz.prog 3 (exE okS) w.heap.size 0 (sD []):=World.ownsMap_made w Tryz.prog 3 (exE okS)
theorem results_tct {P:Program}{fn:Func}{t p u:Tmp}{ty:TypeId}(h:fn.results=#[.tmp t,.cell p ty,.tmp u])(tmps:Array Value)(w:World)(a:Addr)(v:Value)(hp:tmps.getD p undef=.pointer (some a))(hl:(loadVar ty a).run P w=.ok v w):(results fn tmps).run P w=.ok (.tuple #[tmps.getD t undef,v,tmps.getD u undef]) w:=by
 have hp':tmps[p]?.getD undef=.pointer (some a):=by simpa using hp
 simp[results,h,hp',asAddr,hl]
def J0 (most:Int):Jn:=⟨most,[],[],0,⟨#[]⟩,0,-1⟩
def found0:Array Value:=#[.slice none 0 0,.int .i64 0,.slice none 0 0,.slice none 0 0]
set_option maxRecDepth 20000 in
theorem open0 (bx ba cap:Nat)(bs:List Nat)(S:Dk)(w:World)(hP:PD w bx S ba cap bs)(hl:S.left = -1)(hs:S.segs=[])(most:Int):
  Calls Tryz.prog 160 #[.pointer (some ⟨bx,0,none⟩),.int .i64 most] w fun e w'=>∃jb mb,e=.returned (.tuple #[.pointer (some ⟨jb,0,none⟩),.agg found0,.nilIface])∧JW w' jb bx mb (J0 most) [] (.slice none 0 0)∧w.heap.size≤jb∧w.heap.size≤mb∧Below w.heap.size w w':=by
 have hb1:=below_new (w:=w) (.cells found0 222);have hf1:=Sits.new w 222 found0;have hrs:=segs0 bx ba cap bs S (w.alloc (.cells found0 222)) (hP.keep hb1) hl hs;have HB1:=hide hb1;have HF1:=hide hf1;clear hb1 hf1 hP hl hs;unfold found0 at *;go_enter Tryz.func160,Tryz.ntmps160
 go_wp2_with fail
 generalize w.alloc (.cells #[.slice none 0 0,.int .i64 0,.slice none 0 0,.slice none 0 0] 222)=w1 at *;obtain⟨fb,hfb⟩:∃fb,w.heap.size=fb:=⟨_,rfl⟩;rw[hfb]at HF1 HB1 ⊢;have HFB:=hide hfb;clear hfb;refine hrs.mono ?_;clear hrs;rintro e w2 ⟨rfl,hb2⟩;have HB2:=hide (HB1.out.trans (hb2.mono (by have:=HF1.out.lt;omega)));have HF2:=hide (Mem.Sits.below HF1.out hb2 HF1.out.lt);clear hb2;go_wp2_with fail
 refine(hist0 w2).mono ?_;rintro e w3 ⟨hb,rfl,hh,hle,hb3⟩;have HH3:=hide hh;have HF3:=hide (Mem.Sits.below HF2.out hb3 HF2.out.lt);have HB3:=hide (HB2.out.trans (hb3.mono (by have:=HF2.out.lt;omega)));have hle3:fb<hb:=by have:=HF2.out.lt;omega
 clear hh hb3 hle;go_wp2_with fail
 refine(tidy0 w3 bx hb HH3.out).mono ?_;rintro e w4 ⟨rfl,hb4⟩;have HH4:=hide (Mem.Sits.below HH3.out hb4 HH3.out.lt);have HF4:=hide (Mem.Sits.below HF3.out hb4 HF3.out.lt);have HB4:=hide (HB3.out.trans (hb4.mono (by have:=HF3.out.lt;omega)));clear hb4;have hmm:=@run_makeMap Tryz.prog;have hh4:=HH4.out;have hh5:=hh4.alloc (.map #[] 0);unfold hz at hh4 hh5;have c3:=hh4.cell 3 _ rfl;have c4:=hh4.cell 4 _ rfl;have c5:=hh4.cell 5 _ rfl;have c6:=hh4.cell 6 _ rfl;have d3:=hh5.cell 3 _ rfl;have d4:=hh5.cell 4 _ rfl;have d5:=hh5.cell 5 _ rfl;have d6:=hh5.cell 6 _ rfl;clear hh4 hh5;go_wp2_with fail
 go_region
 clear c3 c4 c5 c6 d3 d4 d5 d6 hmm;have hb5:Below w4.heap.size w4 ((w4.alloc (.map #[] 0)).alloc (.cells #[.pointer (some ⟨bx,0,none⟩),.int .i64 most,.map (some w4.heap.size),.slice none 0 0,.int .i64 0,.string ⟨#[]⟩,.int .i64 0,.int .i64 (-1)] 293)).drew:=below_drewN' (n:=1) ((below_new _).alloc (by simp) _);have hj5:=Sits.new (w4.alloc (.map #[] 0)) 293 #[.pointer (some ⟨bx,0,none⟩),.int .i64 most,.map (some w4.heap.size),.slice none 0 0,.int .i64 0,.string ⟨#[]⟩,.int .i64 0,.int .i64 (-1)];rw[World.size_alloc]at hj5;have HJ5:=hide (show Sits ((w4.alloc (.map #[] 0)).alloc (.cells #[.pointer (some ⟨bx,0,none⟩),.int .i64 most,.map (some w4.heap.size),.slice none 0 0,.int .i64 0,.string ⟨#[]⟩,.int .i64 0,.int .i64 (-1)] 293)).drew (w4.heap.size+1) _ _ from hj5);have HM5:=hide (show ((w4.alloc (.map #[] 0)).alloc (.cells #[.pointer (some ⟨bx,0,none⟩),.int .i64 most,.map (some w4.heap.size),.slice none 0 0,.int .i64 0,.string ⟨#[]⟩,.int .i64 0,.int .i64 (-1)] 293)).drew.ownsMap Tryz.prog 3 (exE okS) w4.heap.size 0 (sD []) from
  own_at (made_map w4) (Below.heap_alloc _ _ _ (by simp)))
 have HB5:=hide hb5;have HH5:=hide (Mem.Sits.below HH4.out hb5 HH4.out.lt);have HF5:=hide (Mem.Sits.below HF4.out hb5 HF4.out.lt);clear hj5 hb5;generalize ((w4.alloc (.map #[] 0)).alloc (.cells #[.pointer (some ⟨bx,0,none⟩),.int .i64 most,.map (some w4.heap.size),.slice none 0 0,.int .i64 0,.string ⟨#[]⟩,.int .i64 0,.int .i64 (-1)] 293)).drew=w5 at *;obtain⟨mb,hmb⟩:∃mb,w4.heap.size=mb:=⟨_,rfl⟩;rw[hmb]at HJ5 HM5 ⊢;have HMB:=hide hmb;clear hmb;have hh5:=HH5.out;unfold hz at hh5;have c0:=hh5.cell 0 _ rfl;have C:∀s:Bw w5,s.val.cell? ⟨hb,0,none⟩=some (.slice none 0 0)∧s.val.cell? ⟨hb,1,none⟩=some (.int .i64 0)∧s.val.cell? ⟨hb,2,none⟩=some (.slice none 0 0)∧s.val.cell? ⟨hb,3,none⟩=some (.slice none 0 0):=fun s=>by
  have h:=Mem.Sits.below HH5.out s.is HH5.out.lt;unfold hz at h;exact⟨h.cell 0 _ rfl,h.cell 1 _ rfl,h.cell 2 _ rfl,h.cell 3 _ rfl⟩
 have C0:=fun s=>(C s).1
 have C1:=fun s=>(C s).2.1
 have C2:=fun s=>(C s).2.2.1
 have C3:=fun s=>(C s).2.2.2
 clear C hh5;go_wp2_with fail
 go_loopw [65] (fun s wr=>s=.int .i64 0∧wr=w5) (fun _ _=>0)
 case atStart=>exact⟨rfl,rfl⟩
 case round=>
  obtain⟨rfl,rfl⟩:=hrel;go_wp2_with fail
  refine region_pre 6 (by kernel_rfl) (by kernel_rfl) ?_;simp only[List.take_succ_cons,List.take_zero,List.drop_succ_cons,List.drop_zero];repeat (first
   | go_big_quiet_skip
   | (go_big_quiet_want;go_big_quiet_op;go_big_quiet_on))
  refine wpQuiet_nil ?_;intro s;have HB6:=hide s.is;have HF6:=hide (Mem.Sits.below HF5.out s.is HF5.out.lt);have HJ6:=hide (Mem.Sits.below HJ5.out s.is HJ5.out.lt);have HM6:=hide (map_off HM5.out (Off.of_below (F:=[]) s.is) (by simp));clear C0 C1 C2 C3 c0;generalize s.val=w6 at *;have h0:=HF6.out;have d0:=h0.cell 0 _ rfl;have f0:=h0.frozen 0;have h1:=h0.set 0 (.slice none 0 0);have d1:=h1.cell 1 _ rfl;have f1:=h1.frozen 1;have h2:=h1.set 1 (.int .i64 0);have d2:=h2.cell 2 _ rfl;have f2:=h2.frozen 2;have h3:=h2.set 2 (.slice none 0 0);have d3:=h3.cell 3 _ rfl;have f3:=h3.frozen 3;have HF7:=hide (h3.set 3 (.slice none 0 0));clear h0 h1 h2 h3;go_wp2_with fail
  have hso:Off [fb] w6 ((((w6.setCell ⟨fb,0,none⟩ (.slice none 0 0)).setCell ⟨fb,1,none⟩ (.int .i64 0)).setCell ⟨fb,2,none⟩ (.slice none 0 0)).setCell ⟨fb,3,none⟩ (.slice none 0 0)):=((((Off.refl _ _).set (uC.2 rfl) _ _).set (uC.2 rfl) _ _).set (uC.2 rfl) _ _).set (uC.2 rfl) _ _;have hf7:=HF7.out;clear HF7 d0 d1 d2 d3 f0 f1 f2 f3;generalize (((w6.setCell ⟨fb,0,none⟩ (.slice none 0 0)).setCell ⟨fb,1,none⟩ (.int .i64 0)).setCell ⟨fb,2,none⟩ (.slice none 0 0)).setCell ⟨fb,3,none⟩ (.slice none 0 0)=w7 at *;have hz1:=HB5.out.size;have hz2:=HB4.out.size;have hz3:=HF4.out.lt;have hz4:=HMB.out;have hz5:=HFB.out;have hjn:=Foot.Sits.off HJ6.out hso (by simp;omega);have hmn:=map_off HM6.out hso (by simp;omega);have hb7:Below fb w w7:=by
   have b5:Below fb w wr:=HB4.out.trans (HB5.out.mono (by omega));have b6:Below fb w w6:=b5.trans (HB6.out.mono (by rw[←hz5];exact b5.size));exact b6.trans (hso.below (fun b hb=>by rw[uC.1 hb];exact Nat.le_refl _) (by rw[←hz5];exact b6.size))
  refine bodyPost_ret (results_tct rfl _ _ ⟨fb,0,none⟩ (.agg found0) rfl (run_loadVar_row w7 fb 222 222 _ (0,0) _ hf7 Tryz.underlying222 rfl (by kernel_rfl))) rfl ?_;refine⟨mb+1,mb,rfl,⟨⟨hjn,⟨rfl,Or.inl ⟨rfl,rfl⟩⟩⟩,⟨hmn,List.Pairwise.nil,fun p hp=>by cases hp⟩,rfl,fun k hk=>by cases hk⟩,by omega,by omega,by rw[HFB.out];exact hb7⟩
end Go.Proofs.YtenegfafjjknoaaGreatDoor.Dd
