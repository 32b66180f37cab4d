/- The walk of Plain: a region that draws its order and holds a call. -/
import Derived.Test.YtenegfafjjknoaaGreatDoorPlainvy
import Derived.Deep.RegionWith
import Derived.BigRegion
import Derived.Deep.CutRange
import Derived.Test.YtenegfafjjknoaaGreatDoorRefiy
import Derived.Sort.Walk0
open List renaming length_cons → uA, all_cons → uB, mem_cons → uC, getElem?_eq_some_iff → uD, contains_cons → uE, pairwise_cons → uF, mem_filter → uG, mem_cons_self → uH, isPrefixOf → uI, takeWhile_cons → uJ
namespace Go.Proofs.YtenegfafjjknoaaGreatDoor.Plainp
open Go.RowKit Bytes Nums Numw Mem Tags Tagw Opts Plain Readw Plainw Plainv
def Stands (nb kb:ByteArray)(p:List UInt8)(w:World)(cs:Array Value)(s3:Value)(wx:World):Prop:=
 ∃y:ByteArray,s3=.string y∧y.size≤140737488355400∧B y=B nb++[58]++p++[124]++B kb∧Below w.heap.size w wx∧Sits wx w.heap.size 80 cs
end Go.Proofs.YtenegfafjjknoaaGreatDoor.Plainp
namespace Go.Proofs.YtenegfafjjknoaaGreatDoor.Same
open Bytes Nums Refs
def vf (v:Int)(l:List UInt8):Int:=l.foldl (fun n b=>n*10+((b.toNat:Int) - 48)) v
theorem vf_zero (l:List UInt8):vf 0 l=val l:=rfl
theorem run_lead (l:List UInt8):∀(v wh:Int),0≤wh→wh≤6→digs l=true→nrun (v,wh,-1) l=if wh+l.length≤6 then some (vf v l,wh+l.length,-1) else none:=by
 induction l with
 | nil=>
  intro v wh h0 h6 _;rw[nrun,if_pos (by simpa using h6)];simp[vf]
 | cons b l ih=>
  intro v wh h0 h6 hd;simp only[digs,uB,Bool.and_eq_true]at hd;rw[nrun,nstep,if_pos hd.1,if_pos (by dsimp only;omega)]
  dsimp only
  by_cases h:6<wh+1
  ·rw[if_pos h];have:¬wh+((b ::l).length:Int)≤6:=by
    simp only[uA];omega
   rw[if_neg this];rfl
  ·rw[if_neg h,Option.bind_some,ih _ _ (by omega) (by omega) hd.2];have e:wh+1+(l.length:Int)=wh+((b ::l).length:Int):=by
    simp only[uA];omega
   have e2:vf (10*v+((b.toNat:Int) - 48)) l=vf v (b ::l):=by
    show vf _ l=vf (v*10+((b.toNat:Int) - 48)) l
    congr 1
    omega
   rw[e,e2]
theorem run_tail (l:List UInt8):∀(v wh rs:Int),0≤rs→rs≤3→digs l=true→nrun (v,wh,rs) l=if rs+l.length≤3 then some (vf v l,wh,rs+l.length) else none:=by
 induction l with
 | nil=>
  intro v wh rs h0 h3 _;rw[nrun,if_pos (by simpa using h3)];simp[vf]
 | cons b l ih=>
  intro v wh rs h0 h3 hd;simp only[digs,uB,Bool.and_eq_true]at hd;rw[nrun,nstep,if_pos hd.1,if_neg (by dsimp only;omega)]
  dsimp only
  by_cases h:3<rs+1
  ·rw[if_pos h];have:¬rs+((b ::l).length:Int)≤3:=by
    simp only[uA];omega
   rw[if_neg this];rfl
  ·rw[if_neg h,Option.bind_some,ih _ _ _ (by omega) (by omega) hd.2];have e:rs+1+(l.length:Int)=rs+((b ::l).length:Int):=by
    simp only[uA];omega
   have e2:vf (10*v+((b.toNat:Int) - 48)) l=vf v (b ::l):=by
    show vf _ l=vf (v*10+((b.toNat:Int) - 48)) l
    congr 1
    omega
   rw[e,e2]
theorem run_dead (l:List UInt8):∀(st:Int×Int×Int),digs l=false→(st.2.2<0→has 46 l=false)→nrun st l=none:=by
 induction l with
 | nil=>intro st h;simp[digs]at h
 | cons b l ih=>
  intro st hd hp;rw[nrun];by_cases hb:dig (b.toNat:Int)=true
  ·have hl:digs l=false:=by
    simp only[digs,uB,hb,Bool.true_and]at hd;exact hd
   cases hs:nstep st b with
   | none=>rfl
   | some st'=>
    refine ih st' hl fun hneg=>?_
    have hst:st.2.2<0:=by
     unfold nstep at hs;rw[if_pos hb]at hs;split at hs
     ·assumption
     ·split at hs
      ·cases hs
      ·cases hs
       dsimp only at hneg
       omega
    have h1:=hp hst;simp only[has,uE,Bool.or_eq_false_iff]at h1;exact h1.2
  ·have hb':dig (b.toNat:Int)=false:=by simpa using hb
   have:nstep st b=none:=by
    rw[nstep,hb'];have hne:¬(b=46∧st.2.2<0):=by
     rintro⟨rfl,h2⟩;have h1:=hp h2;simp[has]at h1
    simp only[Bool.false_eq_true,if_false,if_neg hne]
   rw[this];rfl
theorem fore_no (c:UInt8)(l:List UInt8):has c (fore c l)=false:=by
 induction l with
 | nil=>rfl
 | cons b l ih=>
  by_cases h:b=c
  ·subst h;simp[fore,has]
  ·simp only[fore,uJ]at ih ⊢;have hb:(b != c)=true:=by simpa using h
   rw[hb,if_pos rfl];simp only[has,uE]at ih ⊢;have hc:(c==b)=false:=by simpa using fun e=>h e.symm
   rw[hc,ih];rfl
theorem split_at {c:UInt8}{l:List UInt8}(h:has c l=true):l=fore c l++c ::aft c l:=by
 induction l with
 | nil=>simp[has]at h
 | cons b l ih=>
  by_cases hb:b=c
  ·subst hb;simp[fore,aft]
  ·have hb':(b != c)=true:=by simpa using hb
   have hc:(c==b)=false:=by simpa using fun e=>hb e.symm
   have hl:has c l=true:=by
    simp only[has,uE,hc,Bool.false_or]at h;exact h
   have e:=ih hl;have e1:fore c (b ::l)=b ::fore c l:=by
    simp only[fore,uJ,hb',if_true]
   have e2:aft c (b ::l)=aft c l:=by
    simp only[aft,List.dropWhile_cons,hb',if_true]
   rw[e1,e2,List.cons_append,←e]
theorem made_iff {most:Int}{l:List UInt8}:made dig most l=true↔l≠[]∧(l.length:Int)≤most∧digs l=true:=by
 unfold made digs;cases l with
 | nil=>simp
 | cons b l=>simp only[List.isEmpty_cons,Bool.not_false,Bool.true_and,Bool.and_eq_true,decide_eq_true_eq,ne_eq,reduceCtorEq,not_false_eq_true,true_and]
theorem vf_three (v:Int)(a b c:UInt8):vf v [a,b,c]=((v*10+((a.toNat:Int) - 48))*10+((b.toNat:Int) - 48))*10+((c.toNat:Int) - 48):=rfl
theorem dec_zero:dec [48]=some 0:=by decide +kernel
theorem nrun_dot (v wh:Int)(l:List UInt8):nrun (v,wh,-1) (46 ::l)=nrun (v,wh,0) l:=by
 rw[nrun,nstep,if_neg (by decide),if_pos ⟨rfl,by dsimp only;omega⟩];rfl
theorem refNum_eq (l:List UInt8):refNum l=(num l).getD (-1):=by
 cases hp:has 46 l with
 | false=>
  have hf:fore 46 l=l:=by
   rcases idx_cases l 46 with ⟨_,_,h,_⟩|⟨o,_,_,h,_⟩
   ·exact h
   ·rw[hp]at h;cases h
  cases hm:made dig 6 l with
  | true=>
   obtain⟨h1,h2,h3⟩:=made_iff.1 hm;rw[num_plain (by rw[hf];exact hm) hp,hf,dec_zero];have hr:=run_lead l 0 0 (by omega) (by omega) h3;rw[if_pos (by omega),vf_zero]at hr;have hl:1≤l.length:=by
    cases l with
    | nil=>exact absurd rfl h1
    | cons b l=>simp
   rw[refNum,hr];show nend _=val l*1000+0;rw[nend,if_neg (by dsimp only;omega),if_pos (by dsimp only;omega)]
   dsimp only
   omega
  | false=>
   rw[num_not (by rw[hf];exact hm)];show refNum l = -1;rw[refNum];cases hd:digs l with
   | false=>rw[run_dead l _ hd (fun _=>hp)]
   | true=>
    rw[run_lead l 0 0 (by omega) (by omega) hd];by_cases hl:(0:Int)+l.length≤6
    ·rw[if_pos hl];have hn:l=[]:=by
      cases l with
      | nil=>rfl
      | cons b l=>
       exfalso
       rw[made_iff.2 ⟨by simp,by omega,hd⟩]at hm;cases hm
     subst hn;rfl
    ·rw[if_neg hl]
 | true=>
  have hs:=split_at hp;cases hm:made dig 6 (fore 46 l) with
  | false=>
   rw[num_not hm];show refNum l = -1;rw[refNum];cases hd:digs (fore 46 l) with
   | false=>
    have:nrun (0,0,-1) l=none:=by
     rw[hs,nrun_append,run_dead (fore 46 l) _ hd (fun _=>fore_no _ _)];rfl
    rw[this]
   | true=>
    have hr:=run_lead (fore 46 l) 0 0 (by omega) (by omega) hd;by_cases hl:(0:Int)+(fore 46 l).length≤6
    ·have hn:fore 46 l=[]:=by
      cases hfl:fore 46 l with
      | nil=>rfl
      | cons b m=>
       exfalso
       rw[made_iff.2 ⟨by rw[hfl];simp,by omega,hd⟩]at hm;cases hm
     rw[hn,List.nil_append]at hs;rw[hs,nrun_dot];cases hg:digs (aft 46 l) with
     | false=>rw[run_dead _ _ hg (fun h=>by dsimp only at h;omega)]
     | true=>
      rw[run_tail _ _ _ _ (by omega) (by omega) hg];by_cases hl3:(0:Int)+(aft 46 l).length≤3
      ·rw[if_pos hl3];show nend _ = -1;rw[nend,if_pos (Or.inl (by dsimp only;omega))]
      ·rw[if_neg hl3]
    ·rw[if_neg hl]at hr;have:nrun (0,0,-1) l=none:=by
      rw[hs,nrun_append,hr];rfl
     rw[this]
  | true=>
   obtain⟨h1,h2,h3⟩:=made_iff.1 hm;have hr:=run_lead (fore 46 l) 0 0 (by omega) (by omega) h3;rw[if_pos (by omega),vf_zero]at hr;have hfl:1≤(fore 46 l).length:=by
    cases hq:fore 46 l with
    | nil=>exact absurd hq h1
    | cons b m=>simp
   have hrun:nrun (0,0,-1) l=nrun (val (fore 46 l),0+(fore 46 l).length,0) (aft 46 l):=by
    conv=>lhs;rw[hs]
    rw[nrun_append,hr,Option.bind_some,nrun_dot]
   rw[num_point hm hp,refNum,hrun];generalize val (fore 46 l)=V;generalize hL:(0:Int)+(fore 46 l).length=L;have hL1:¬L<1:=by omega
   cases hg:digs (aft 46 l) with
   | false=>
    rw[run_dead _ _ hg (fun h=>by dsimp only at h;omega)];have hd:dec (aft 46 l)=none:=by
     rw[dec,if_neg];intro hh;rw[(made_iff.1 hh).2.2]at hg;cases hg
    rw[hd];rfl
   | true=>
    rw[run_tail _ _ _ _ (by omega) (by omega) hg];by_cases hl3:(0:Int)+(aft 46 l).length≤3
    ·rw[if_pos hl3];have hdm:aft 46 l≠[]→made dig 3 (aft 46 l)=true:=fun hne=>made_iff.2 ⟨hne,by omega,hg⟩
     generalize aft 46 l=g at hg hl3 hdm ⊢
     match g,hg,hl3,hdm with
     | [],_,_,_=>
      show nend _=_;rw[nend,if_pos (Or.inr (by simp))];rfl
     | [a],_,_,hdm=>
      rw[dec,if_pos (hdm (by simp))];show nend (V*10+((a.toNat:Int) - 48),L,0+1)=V*1000+vf 0 [a,48,48];rw[nend,if_neg (by dsimp only;omega),if_neg (by dsimp only;omega),if_pos (by dsimp only;omega),vf_three]
      dsimp only
      have:((48:UInt8).toNat:Int)=48:=rfl;omega
     | [a,b],_,_,hdm=>
      rw[dec,if_pos (hdm (by simp))];show nend ((V*10+((a.toNat:Int) - 48))*10+((b.toNat:Int) - 48),L,0+2)=V*1000+vf 0 [a,b,48];rw[nend,if_neg (by dsimp only;omega),if_neg (by dsimp only;omega),if_neg (by dsimp only;omega),if_pos (by dsimp only;omega),vf_three]
      dsimp only
      have:((48:UInt8).toNat:Int)=48:=rfl;omega
     | [a,b,c],_,_,hdm=>
      rw[dec,if_pos (hdm (by simp))];show nend (((V*10+((a.toNat:Int) - 48))*10+((b.toNat:Int) - 48))*10+((c.toNat:Int) - 48),L,0+3)=V*1000+vf 0 [a,b,c];rw[nend,if_neg (by dsimp only;omega),if_neg (by dsimp only;omega),if_neg (by dsimp only;omega),if_neg (by dsimp only;omega),vf_three]
      dsimp only
      omega
     | a ::b ::c ::d ::m,_,hl3,_=>
      exfalso
      simp only[uA]at hl3;omega
    ·rw[if_neg hl3];have hd:dec (aft 46 l)=none:=by
      rw[dec,if_neg];intro hh;have:=(made_iff.1 hh).2.1;omega
     rw[hd];rfl
end Go.Proofs.YtenegfafjjknoaaGreatDoor.Same
namespace Go.Proofs.YtenegfafjjknoaaGreatDoor.Same
open Bytes Nums Refs Refl Vals
theorem num_zero_point (g:List UInt8):num (48 ::46 ::g)=dec g:=by
 have h1:fore 46 (48 ::46 ::g)=[48]:=rfl;have h2:aft 46 (48 ::46 ::g)=g:=rfl;have h3:has 46 (48 ::46 ::g)=true:=by simp[has]
 rw[num_point (by rw[h1];decide +kernel) h3,h1,h2];have hv:val [48]=0:=by decide +kernel
 rw[hv];cases dec g with
 | none=>rfl
 | some p=>
  show some (0*1000+p)=some p
  congr 1
  omega
theorem dec_nil:dec []=none:=rfl
theorem rok_eq (q:List UInt8):rok q=rate q:=by
 unfold rok rate;by_cases h49:q=[49]
 ·rw[if_pos h49,if_pos h49]
 ·rw[if_neg h49,if_neg h49]
  match q with
  | []=>rfl
  | [a]=>
   rw[if_pos (Or.inl (by simp)),if_neg];simp[uI]
  | a ::b ::g=>
   by_cases ha:a=48
   ·by_cases hb:b=46
    ·subst ha hb;rw[refNum_eq,num_zero_point];have hpre:[48,46].isPrefixOf ((48:UInt8) ::46 ::g)=true:=by simp[uI]
     rw[if_pos hpre];show _=(dec g).filter _;cases hd:dec g with
     | none=>
      rw[if_pos (Or.inr (Or.inr (Or.inr (by show (-1:Int)<1;omega))))];rfl
     | some p=>
      have hlen:¬(48 ::46 ::g:List UInt8).length<3:=by
       cases g with
       | nil=>rw[dec_nil]at hd;cases hd
       | cons x g=>simp
      by_cases hp:p<1
      ·rw[if_pos (Or.inr (Or.inr (Or.inr (by show p<1;exact hp))))];have:¬0<p:=by omega
       simp[Option.filter,this]
      ·rw[if_neg]
       ·have:0<p:=by omega
        simp[Option.filter,this]
       ·rintro(h|h|h|h)
        ·exact hlen h
        ·exact h rfl
        ·exact h rfl
        ·exact hp h
    ·rw[if_pos (Or.inr (Or.inr (Or.inl (by simpa using hb)))),if_neg];simp[uI]
     intro _ h;exact absurd h.symm hb
   ·rw[if_pos (Or.inr (Or.inl (by simpa using ha))),if_neg];simp[uI]
    intro h;exact absurd h.symm ha
theorem num_sign {b:UInt8}(t:List UInt8)(hb:dig (b.toNat:Int)=false)(hn:b≠46):num (b ::t)=none:=by
 refine num_not ?_;have hb':(b != 46)=true:=by simpa using hn
 have e:fore 46 (b ::t)=b ::fore 46 t:=by
  simp only[fore,uJ,hb',if_true]
 rw[e,made];simp[hb]
def kb (k:List UInt8)(g:Bool):Int:=if k=[99] then 99 else if k=[103] then (if g=true then 100 else 103) else if k=[115] then 115 else 109
def conv (x:List UInt8×Bool×Int×List UInt8):Int×Int×List UInt8:=(kb x.1 x.2.1,x.2.2.1,x.2.2.2)
theorem getD_none {l:List UInt8}(h:num l=none):¬0≤refNum l:=by
 rw[refNum_eq,h];decide
theorem getD_some {l:List UInt8}{n:Int}(h:num l=some n):refNum l=n∧0≤n:=by
 rw[refNum_eq,h];exact⟨rfl,(num_some h).1⟩
theorem refVal_eq (k v:List UInt8)(rated:Bool):refVal k v rated=if rated=true∧(k=[103]∨k=[115]) then none else (rv k v).map conv:=by
 by_cases h1:k=[99]
 ·subst h1;rw[if_neg (by simp),rv_c rfl,refVal,if_pos rfl,signed]
  match v with
  | []=>rfl
  | b ::t=>
   by_cases h45:b=45
   ·subst h45;have e1:rsg ((45:UInt8) ::t)=45:=rfl;have e2:rrest ((45:UInt8) ::t)=t:=rfl;have e3:sg [45] ((45:UInt8) ::t)=[45]:=rfl;rw[e1,e2,e3];show _=(((num t).map _).map _).map _;cases hn:num t with
    | none=>
     rw[if_neg (fun h=>getD_none hn h.1)];rfl
    | some n=>
     obtain⟨g1,g2⟩:=getD_some hn;rw[g1,if_pos ⟨g2,by decide⟩];rfl
   ·by_cases h43:b=43
    ·subst h43;have e1:rsg ((43:UInt8) ::t)=43:=rfl;have e3:sg [45] ((43:UInt8) ::t)=[]:=rfl;rw[e1,if_neg (by simp),e3];show none=(((num (43 ::t)).map _).map _).map _;rw[num_sign t (by decide) (by decide)];rfl
    ·have e1:rsg (b ::t)=0:=by simp[rsg,h45,h43]
     have e2:rrest (b ::t)=b ::t:=by rw[rrest,if_pos e1]
     have e3:sg [45] (b ::t)=[]:=by simp[sg,has,h45]
     rw[e1,e2,e3];show _=(((num (b ::t)).map _).map _).map _;cases hn:num (b ::t) with
     | none=>
      rw[if_neg (fun h=>getD_none hn h.1)];rfl
     | some n=>
      obtain⟨g1,g2⟩:=getD_some hn;rw[g1,if_pos ⟨g2,by decide⟩];rfl
 ·by_cases h2:k=[103]
  ·subst h2;cases rated with
   | true=>
    rw[if_pos ⟨rfl,Or.inl rfl⟩,refVal,if_neg (by decide),if_pos rfl,if_neg (by simp)]
   | false=>
    rw[if_neg (by simp),rv_g rfl,refVal,if_neg (by decide),if_pos rfl,signed]
    match v with
    | []=>rfl
    | b ::t=>
     by_cases h45:b=45
     ·subst h45;have e1:rsg ((45:UInt8) ::t)=45:=rfl;have e2:rrest ((45:UInt8) ::t)=t:=rfl;have e3:sg [43,45] ((45:UInt8) ::t)=[45]:=rfl;rw[e1,e2,e3];show _=(((num t).map _).map _).map _;cases hn:num t with
      | none=>
       rw[if_neg (fun h=>getD_none hn h.1)];rfl
      | some n=>
       obtain⟨g1,g2⟩:=getD_some hn;rw[g1,if_pos ⟨g2,rfl⟩];rfl
     ·by_cases h43:b=43
      ·subst h43;have e1:rsg ((43:UInt8) ::t)=43:=rfl;have e2:rrest ((43:UInt8) ::t)=t:=rfl;have e3:sg [43,45] ((43:UInt8) ::t)=[43]:=rfl;rw[e1,e2,e3];show _=(((num t).map _).map _).map _;cases hn:num t with
       | none=>
        rw[if_neg (fun h=>getD_none hn h.1)];rfl
       | some n=>
        obtain⟨g1,g2⟩:=getD_some hn;rw[g1,if_pos ⟨g2,rfl⟩];rfl
      ·have e1:rsg (b ::t)=0:=by simp[rsg,h45,h43]
       have e2:rrest (b ::t)=b ::t:=by rw[rrest,if_pos e1]
       have e3:sg [43,45] (b ::t)=[]:=by simp[sg,has,h45,h43]
       rw[e1,e2,e3];show _=(((num (b ::t)).map _).map _).map _;cases hn:num (b ::t) with
       | none=>
        rw[if_neg (fun h=>getD_none hn h.1)];rfl
       | some n=>
        obtain⟨g1,g2⟩:=getD_some hn;rw[g1,if_pos ⟨g2,rfl⟩];rfl
  ·by_cases h3:k=[115]
   ·subst h3;cases rated with
    | true=>
     rw[if_pos ⟨rfl,Or.inr rfl⟩,refVal,if_neg (by decide),if_neg (by decide),if_pos rfl,if_neg (by simp)]
    | false=>
     rw[if_neg (by simp),rv_s rfl,refVal,if_neg (by decide),if_neg (by decide),if_pos rfl];cases hm:made let_ 16 v with
     | true=>rfl
     | false=>rfl
   ·rw[if_neg (by rintro⟨_,h|h⟩;exact h2 h;exact h3 h),refVal,if_neg h1,if_neg h2,if_neg h3];by_cases h4:k=[109,115]∨k=[104]
    ·rw[if_pos h4,rv_m (h4.elim Or.inr Or.inl),signed];have e3:sg [] v=[]:=sg_none v;rw[e3];show _=(((num v).map _).map _).map _
     match v with
     | []=>rfl
     | b ::t=>
      by_cases h45:b=45
      ·subst h45;have e1:rsg ((45:UInt8) ::t)=45:=rfl;rw[e1,if_neg (by simp),num_sign t (by decide) (by decide)];rfl
      ·by_cases h43:b=43
       ·subst h43;have e1:rsg ((43:UInt8) ::t)=43:=rfl;rw[e1,if_neg (by simp),num_sign t (by decide) (by decide)];rfl
       ·have e1:rsg (b ::t)=0:=by simp[rsg,h45,h43]
        have e2:rrest (b ::t)=b ::t:=by rw[rrest,if_pos e1]
        rw[e1,e2];cases hn:num (b ::t) with
        | none=>
         rw[if_neg (fun h=>getD_none hn h.1)];rfl
        | some n=>
         obtain⟨g1,g2⟩:=getD_some hn;rw[g1,if_pos ⟨g2,rfl⟩];rfl
    ·rw[if_neg h4];have:rv k v=none:=by
      have h5:¬(k=[104]∨k=[109,115]):=fun h=>h4 h.symm
      rw[rv,if_neg h3,if_neg h1,if_neg h2,if_neg h5]
     rw[this];rfl
end Go.Proofs.YtenegfafjjknoaaGreatDoor.Same
namespace Go.Proofs.YtenegfafjjknoaaGreatDoor.Sorts
open Bytes Refi Bounds
abbrev Tx:=List UInt8
def SS (l:List Tx):Prop:=l.Pairwise (·<·)
theorem lt_irrefl' (a:Tx):¬a<a:=List.lt_irrefl a
theorem lt_trans' {a b c:Tx}(h:a<b)(k:b<c):a<c:=List.lt_trans h k
theorem lt_asymm' {a b:Tx}(h:a<b):¬b<a:=fun k=>lt_irrefl' a (lt_trans' h k)
theorem tri {a b:Tx}(h:¬a<b)(k:¬b<a):a=b:=List.le_antisymm (List.not_lt.1 k) (List.not_lt.1 h)
theorem le'_iff {t x:Tx}:le' t x=true↔t<x∨t=x:=by
 rw[le',bytesLess_eq];simp
theorem le'_not {t x:Tx}(h:le' t x=false):x<t:=by
 have h1:¬t<x:=fun k=>by rw[le'_iff.2 (Or.inl k)]at h;cases h
 have h2:¬t=x:=fun k=>by rw[le'_iff.2 (Or.inr k)]at h;cases h
 by_cases k:x<t
 ·exact k
 ·exact absurd (tri h1 k) h2
theorem ss_ext:∀(l m:List Tx),SS l→SS m→(∀x,x∈l↔x∈m)→l=m:=by
 intro l
 induction l with
 | nil=>
  intro m _ _ h;cases m with
  | nil=>rfl
  | cons b m=>exact absurd ((h b).2 (uH ..)) (by simp)
 | cons a l ih=>
  intro m hl hm h;cases m with
  | nil=>exact absurd ((h a).1 (uH ..)) (by simp)
  | cons b m=>
   have hl':=uF.1 hl;have hm':=uF.1 hm;have hab:a=b:=by
    rcases uC.1 ((h a).1 (uH ..)) with e|e
    ·exact e
    ·rcases uC.1 ((h b).2 (uH ..)) with k|k
     ·exact k.symm
     ·exact absurd (hl'.1 b k) (lt_asymm' (hm'.1 a e))
   subst hab;rw[ih m hl'.2 hm'.2];intro x;constructor
   ·intro hx;rcases uC.1 ((h x).1 (List.mem_cons_of_mem _ hx)) with e|e
    ·subst e;exact absurd (hl'.1 x hx) (lt_irrefl' x)
    ·exact e
   ·intro hx;rcases uC.1 ((h x).2 (List.mem_cons_of_mem _ hx)) with e|e
    ·subst e;exact absurd (hm'.1 x hx) (lt_irrefl' x)
    ·exact e
def sins (t:Tx):List Tx→List Tx
 | []=>[t]
 | x ::l=>if le' t x=true then t ::(x ::l).filter (fun y=>!(y==t)) else x ::sins t l
theorem fold_put (t:Tx)(l:List Tx):∀acc,l.foldl (Refi.step t) (acc,true)=(acc++l.filter (fun y=>!(y==t)),true):=by
 induction l with
 | nil=>intro acc;simp
 | cons x l ih=>
  intro acc;rw[List.foldl_cons];have e:Refi.step t (acc,true) x=(acc++(if x=t then [] else [x]),true):=by
   simp[Refi.step]
  rw[e,ih];by_cases hx:x=t
  ·subst hx;simp
  ·simp[hx]
theorem ins_acc (t:Tx)(l:List Tx):∀acc,(if (l.foldl (Refi.step t) (acc,false)).2=true then (l.foldl (Refi.step t) (acc,false)).1 else (l.foldl (Refi.step t) (acc,false)).1++[t])=acc++sins t l:=by
 induction l with
 | nil=>intro acc;simp[sins]
 | cons x l ih=>
  intro acc;rw[List.foldl_cons];cases h:le' t x with
  | true=>
   have e:Refi.step t (acc,false) x=(acc++[t]++(if x=t then [] else [x]),true):=by
    simp[Refi.step,h]
   rw[e,fold_put,if_pos rfl,sins,if_pos h];by_cases hx:x=t
   ·subst hx;simp
   ·simp[hx]
  | false=>
   have hne:¬x=t:=fun e=>by rw[le'_iff.2 (Or.inr e.symm)]at h;cases h
   have e:Refi.step t (acc,false) x=(acc++[x],false):=by
    simp[Refi.step,h,hne]
   rw[e,ih,sins,h];simp
theorem ins_eq (t:Tx)(l:List Tx):ins t l=sins t l:=by
 have:=ins_acc t l [];rw[List.nil_append]at this;rw[←this];rfl
theorem sins_mem (t:Tx)(l:List Tx)(x:Tx):x∈sins t l↔x=t∨x∈l:=by
 induction l with
 | nil=>simp[sins]
 | cons y l ih=>
  rw[sins];split
  ·rw[uC,uG];constructor
   ·rintro(h|h)
    ·exact Or.inl h
    ·exact Or.inr h.1
   ·rintro(h|h)
    ·exact Or.inl h
    ·by_cases e:x=t
     ·exact Or.inl e
     ·exact Or.inr ⟨h,by simpa using e⟩
  ·rw[uC,ih,uC];constructor
   ·rintro(h|h|h)
    ·exact Or.inr (Or.inl h)
    ·exact Or.inl h
    ·exact Or.inr (Or.inr h)
   ·rintro(h|h|h)
    ·exact Or.inr (Or.inl h)
    ·exact Or.inl h
    ·exact Or.inr (Or.inr h)
theorem sins_ss (t:Tx)(l:List Tx)(h:SS l):SS (sins t l):=by
 induction l with
 | nil=>exact List.pairwise_singleton _ _
 | cons y l ih=>
  have h':=uF.1 h;rw[sins];split
  ·rename_i hle;refine uF.2 ⟨fun x hx=>?_,h.filter _⟩;rw[uG]at hx;have hne:¬x=t:=by simpa using hx.2
   rcases uC.1 hx.1 with e|e
   ·subst e;rcases le'_iff.1 hle with k|k
    ·exact k
    ·exact absurd k.symm hne
   ·rcases le'_iff.1 hle with k|k
    ·exact lt_trans' k (h'.1 x e)
    ·rw[k];exact h'.1 x e
  ·rename_i hle;refine uF.2 ⟨fun x hx=>?_,ih h'.2⟩;rcases (sins_mem t l x).1 hx with e|e
   ·rw[e];exact le'_not (by simpa using hle)
   ·exact h'.1 x e
def insAll (acc:List Tx)(ps:List Tx):List Tx:=ps.foldl (fun a t=>ins t a) acc
theorem insAll_ss (ps:List Tx):∀acc,SS acc→SS (insAll acc ps):=by
 induction ps with
 | nil=>intro acc h;exact h
 | cons t ps ih=>
  intro acc h;show SS (insAll (ins t acc) ps);exact ih _ (by rw[ins_eq];exact sins_ss t acc h)
theorem insAll_mem (ps:List Tx):∀acc x,x∈insAll acc ps↔x∈acc∨x∈ps:=by
 induction ps with
 | nil=>intro acc x;simp[insAll]
 | cons t ps ih=>
  intro acc x;show x∈insAll (ins t acc) ps↔_;rw[ih,ins_eq,sins_mem,uC];constructor
  ·rintro((h|h)|h)
   ·exact Or.inr (Or.inl h)
   ·exact Or.inl h
   ·exact Or.inr (Or.inr h)
  ·rintro(h|h|h)
   ·exact Or.inl (Or.inr h)
   ·exact Or.inl (Or.inl h)
   ·exact Or.inr h
theorem compact_ss (zs:List Tx)(h:zs.Pairwise (·≤·)):SS (Lib.compact zs):=by
 unfold Lib.compact Lib.compactUpTo SS;rw[List.pairwise_map];have hr:(List.range zs.length).Pairwise (·<·):=List.pairwise_lt_range;refine(hr.filter _).imp_of_mem fun {i j} hi hj hij=>?_
 rw[uG,List.mem_range]at hi hj;have ei:zs.toArray[i]! = zs[i]:=by simp[hi.1]
 have ej:zs.toArray[j]! = zs[j]:=by simp[hj.1]
 have hp:=List.pairwise_iff_getElem.1 h;have hk:=hj.2;have hne:zs.toArray[j]!≠zs.toArray[j - 1]! :=by
  unfold Lib.keeps at hk;have hk':=of_decide_eq_true hk;rcases hk' with h0|h0
  ·omega
  ·exact h0
 have ej1:zs.toArray[j - 1]! = zs[j - 1]'(by omega):=by simp[show j - 1<zs.length by omega]
 rw[ei,ej];have h1:zs[j - 1]'(by omega)≤zs[j]:=hp (j - 1) j (by omega) hj.1 (by omega);have h2:zs[i]≤zs[j - 1]'(by omega):=by
  by_cases e:i=j - 1
  ·subst e;exact List.le_refl _
  ·exact hp i (j - 1) hi.1 (by omega) (by omega)
 have h3:zs[j - 1]'(by omega)<zs[j]:=by
  by_cases k:zs[j - 1]'(by omega)<zs[j]
  ·exact k
  ·exfalso
   apply hne
   rw[ej,ej1];exact tri (List.not_lt.2 h1) k
 by_cases e:zs[i]<zs[j - 1]'(by omega)
 ·exact lt_trans' e h3
 ·have:zs[i]=zs[j - 1]'(by omega):=tri e (List.not_lt.2 h2);rw[this];exact h3
theorem compact_has (zs:List Tx):∀(j:Nat) (hj:j<zs.length),zs[j]∈Lib.compact zs:=by
 intro j
 induction j with
 | zero=>
  intro hj;unfold Lib.compact Lib.compactUpTo;rw[List.mem_map];refine⟨0,?_,by simp[hj]⟩;rw[uG,List.mem_range];exact⟨hj,by simp[Lib.keeps]⟩
 | succ j ih=>
  intro hj;by_cases e:zs[j+1]=zs[j]'(by omega)
  ·rw[e];exact ih (by omega)
  ·unfold Lib.compact Lib.compactUpTo;rw[List.mem_map];refine⟨j+1,?_,by simp[hj]⟩;rw[uG,List.mem_range];refine⟨hj,?_⟩;unfold Lib.keeps;refine decide_eq_true (Or.inr ?_);have e1:zs.toArray[j+1]! = zs[j+1]:=by simp[hj]
   have e2:zs.toArray[j+1 - 1]! = zs[j]'(by omega):=by simp[show j<zs.length by omega]
   rw[e1,e2];exact e
theorem tags_same (ps:List Tx):insAll [] ps=Lib.compact (ps.mergeSort fun x y=>decide (x≤y)):=by
 refine ss_ext _ _ (insAll_ss ps [] List.Pairwise.nil) (compact_ss _ ?_) fun x=>?_
 ·have h:=List.pairwise_mergeSort (le:=fun x y:Tx=>decide (x≤y)) (fun a b c h1 h2=>decide_eq_true (List.le_trans (of_decide_eq_true h1) (of_decide_eq_true h2))) (fun a b=>by rcases List.le_total a b with h|h<;>simp[h]) ps;exact h.imp fun h=>of_decide_eq_true h
 ·rw[insAll_mem];constructor
  ·rintro(h|h)
   ·cases h
   ·have hm:x∈ps.mergeSort fun x y=>decide (x≤y):=List.mem_mergeSort.2 h
    obtain⟨j,hj,e⟩:=List.mem_iff_getElem.1 hm;rw[←e];exact compact_has _ j hj
  ·intro h;exact Or.inr (List.mem_mergeSort.1 (compact_mem h))
end Go.Proofs.YtenegfafjjknoaaGreatDoor.Sorts
namespace Go.Proofs.YtenegfafjjknoaaGreatDoor.Same
open Bytes Nums Refs Refl Vals Opts Tags Spl Sorts Bounds
theorem tw_fore (c:UInt8)(l:List UInt8):tw [c] l=fore c l:=by
 unfold tw fore
 congr 1
 funext b
 show (!(b==c||false))=!(b==c);rw[Bool.or_false]
theorem place (c:UInt8){l:List UInt8}{q:Nat}(hq:q≤l.length):
  (has c (l.drop q)=true∧q+(fore c (l.drop q)).length<l.length∧l.drop (q+(fore c (l.drop q)).length+1)=aft c (l.drop q))∨
  (has c (l.drop q)=false∧q+(fore c (l.drop q)).length=l.length∧fore c (l.drop q)=l.drop q):=by
 rcases idx_cases (l.drop q) c with ⟨_,h2,h3,_⟩|⟨o,_,h0,h2,h3,h4⟩
 ·refine Or.inr ⟨h2,?_,h3⟩;rw[h3,List.length_drop];omega
 ·refine Or.inl ⟨h2,?_⟩;have e:(fore c (l.drop q)).length=o:=by
   rw[h3,List.length_take];omega
  rw[List.length_drop]at h0;rw[e,h4,List.drop_drop];exact⟨by omega,by rw[Nat.add_assoc]⟩
theorem rtags_end {l:List UInt8}(k:Nat){p:Nat}(h:¬p<l.length)(acc:List (List UInt8)):rtags l k p acc=some acc:=by
 cases k<;>rw[rtags,if_neg h]
def okTags (k:Nat)(t:List UInt8):Prop:=(spl k t).length≤k∧(spl k t).all (made let_ 8)=true
def okT (k:Nat)(t:List UInt8):Bool:=decide ((spl k t).length≤k)&&(spl k t).all (made let_ 8)
theorem okT_iff {k:Nat}{t:List UInt8}:okT k t=true↔okTags k t:=by
 unfold okT okTags;rw[Bool.and_eq_true,decide_eq_true_eq]
theorem rtags_eq {l:List UInt8}(k:Nat):∀(q:Nat) (acc:List (List UInt8)),q<l.length→rtags l k q acc=if okT k (l.drop (q+1))=true then some (insAll acc (spl k (l.drop (q+1)))) else none:=by
 induction k with
 | zero=>
  intro q acc h;rw[rtags,if_pos h,if_neg];intro hk;have:=(okT_iff.1 hk).1;rw[spl]at this;simp at this
 | succ k ih=>
  intro q acc h;rw[rtags,if_pos h,tw_fore];rcases place 44 (l:=l) (q:=q+1) (by omega) with ⟨h1,h2,h3⟩|⟨h1,h2,h3⟩
  ·have es:spl (k+1) (l.drop (q+1))=fore 44 (l.drop (q+1)) ::spl k (aft 44 (l.drop (q+1))):=by
    rw[spl,if_pos h1]
   cases hm:made let_ 8 (fore 44 (l.drop (q+1))) with
   | false=>
    rw[if_neg (by simp),if_neg];intro hk;have:=(okT_iff.1 hk).2;rw[es,uB,hm]at this;simp at this
   | true=>
    rw[if_pos rfl,ih _ _ h2,h3,es];have e:okT (k+1) (l.drop (q+1))=true↔okT k (aft 44 (l.drop (q+1)))=true:=by
     rw[okT_iff,okT_iff];unfold okTags;rw[es,uB,hm,uA,Bool.true_and];exact⟨fun h=>⟨by omega,h.2⟩,fun h=>⟨by omega,h.2⟩⟩
    by_cases hk:okT k (aft 44 (l.drop (q+1)))=true
    ·rw[if_pos hk,if_pos (e.2 hk)];rfl
    ·rw[if_neg hk,if_neg (fun h=>hk (e.1 h))]
  ·have es:spl (k+1) (l.drop (q+1))=[l.drop (q+1)]:=by
    rw[spl,h1];rfl
   rw[h2,rtags_end k (by omega),h3];cases hm:made let_ 8 (l.drop (q+1)) with
   | false=>
    rw[if_neg (by simp),if_neg];intro hk;have:=(okT_iff.1 hk).2;rw[es,uB,hm]at this;simp at this
   | true=>
    rw[if_pos rfl,if_pos,es]
    ·rfl
    ·rw[okT_iff];unfold okTags;rw[es,uB,hm];exact⟨by simp,rfl⟩
theorem lastOk_made {l t:List UInt8}{q:Nat}(ht:l.drop q=t)(hm:made let_ 8 t=true):lastOk l=true:=by
 have hne:t≠[]:=by
  intro e;rw[e]at hm;simp[made]at hm
 have hall:(t.all fun b=>let_ b.toNat)=true:=by
  unfold made at hm;rw[Bool.and_eq_true,Bool.and_eq_true]at hm;exact hm.2.2
 have el:l.getLast? = t.getLast? :=by
  rw[←List.take_append_drop q l,ht,List.getLast?_append];cases h:t.getLast? with
  | none=>exact absurd (List.getLast?_eq_none_iff.1 h) hne
  | some b=>rfl
 have hb:∃b,t.getLast? = some b:=⟨t.getLast hne,List.getLast?_eq_some_getLast hne⟩;obtain⟨b,hb⟩:=hb;have hbm:b∈t:=List.mem_of_getLast? hb;have hlet:=List.all_eq_true.1 hall b hbm;have h44:b≠44:=by
  intro e;subst e;exact absurd hlet (by decide)
 have h35:b≠35:=by
  intro e;subst e;exact absurd hlet (by decide)
 unfold lastOk;rw[el,hb];simp[h44,h35]
theorem lastOk_tags {l:List UInt8}(k:Nat):∀(q:Nat),q<l.length→okTags k (l.drop (q+1))→lastOk l=true:=by
 induction k with
 | zero=>
  intro q h hk;have:=hk.1;rw[spl]at this;simp at this
 | succ k ih=>
  intro q h hk;rcases place 44 (l:=l) (q:=q+1) (by omega) with ⟨h1,h2,h3⟩|⟨h1,h2,h3⟩
  ·have es:spl (k+1) (l.drop (q+1))=fore 44 (l.drop (q+1)) ::spl k (aft 44 (l.drop (q+1))):=by
    rw[spl,if_pos h1]
   refine ih _ h2 ?_;rw[h3];have h':=hk;unfold okTags at h' ⊢;rw[es,uB,uA,Bool.and_eq_true]at h';exact⟨by omega,h'.2.2⟩
  ·have es:spl (k+1) (l.drop (q+1))=[l.drop (q+1)]:=by
    rw[spl,h1];rfl
   have h':=hk.2;rw[es,uB,Bool.and_eq_true]at h';exact lastOk_made rfl h'.1
theorem head_iff (c:UInt8){l:List UInt8}{p:Nat}:l[p]? = some c↔[c].isPrefixOf (l.drop p)=true:=by
 have e:l[p]? = (l.drop p)[0]? :=by
  rw[List.getElem?_drop,Nat.add_zero]
 rw[e];cases l.drop p with
 | nil=>simp
 | cons b t=>
  show some b=some c↔(c==b&&true)=true;rw[Bool.and_true,beq_iff_eq];exact⟨fun h=>(Option.some.inj h).symm,fun h=>congrArg some h.symm⟩
theorem fin_eq {l n v k:List UInt8}{rated:Bool}{r:Int}{p:Nat}:
  fin l n v k rated r p=(refVal k v rated).bind fun x=>if p<l.length then (tagsOf (l.drop (p+1))).map fun t=>⟨n,x.1,x.2.1,x.2.2,r,t⟩ else some ⟨n,x.1,x.2.1,x.2.2,r,[]⟩:=by
 unfold fin
 congr 1
 funext x
 by_cases hp:p<l.length
 ·rw[if_pos hp,if_pos hp];by_cases h35:l[p+1]? = some 35
  ·have hq:p+1<l.length:=(uD.1 h35).1;have hpre:=(head_iff 35).1 h35;rw[if_pos h35,rtags_eq 4 _ _ hq];have ed:(l.drop (p+1)).drop 1=l.drop (p+1+1):=by rw[List.drop_drop]
   by_cases hk:okTags 4 (l.drop (p+1+1))
   ·have hl:=lastOk_tags 4 _ hq hk;rw[if_pos (okT_iff.2 hk),tagsOf_good hpre (by rw[ed];exact hk.1) (by rw[ed];exact hk.2),ed,←tags_same];show (if lastOk l=true then _ else none)=_;rw[if_pos hl];rfl
   ·rw[if_neg (fun h=>hk (okT_iff.1 h))];have hn:tagsOf (l.drop (p+1))=none:=by
     rw[tagsOf,if_pos hpre,ed];unfold okTags at hk;by_cases h4:(spl 4 (l.drop (p+1+1))).length≤4
     ·rw[if_pos h4,if_neg];exact fun h=>hk ⟨h4,h⟩
     ·rw[if_neg h4]
    rw[hn];rfl
  ·have hpre:[35].isPrefixOf (l.drop (p+1))=false:=by
    cases h:[35].isPrefixOf (l.drop (p+1)) with
    | false=>rfl
    | true=>exact absurd ((head_iff 35).2 h) h35
   rw[if_neg h35,tagsOf_not hpre];rfl
 ·rw[if_neg hp,if_neg hp]
theorem fin_lt {l n v k:List UInt8}{rated:Bool}{r:Int}{p:Nat}(hp:p<l.length):
  fin l n v k rated r p=(refVal k v rated).bind fun x=>(tagsOf (l.drop (p+1))).map fun t=>⟨n,x.1,x.2.1,x.2.2,r,t⟩:=by
 rw[fin_eq]
 congr 1
 funext x
 rw[if_pos hp]
theorem fin_ge {l n v k:List UInt8}{rated:Bool}{r:Int}{p:Nat}(hp:¬p<l.length):
  fin l n v k rated r p=(refVal k v rated).bind fun x=>some ⟨n,x.1,x.2.1,x.2.2,r,[]⟩:=by
 rw[fin_eq]
 congr 1
 funext x
 rw[if_neg hp]
theorem rv_kind {k l:List UInt8}{x:List UInt8×Bool×Int×List UInt8}(h:rv k l=some x):(x.1=[103]∨x.1=[115])↔(k=[103]∨k=[115]):=by
 unfold rv at h;split at h
 ·rename_i hk;split at h
  ·cases h
   simp[hk]
  ·cases h
 ·split at h
  ·rename_i hk;rw[Option.map_eq_some_iff]at h;obtain⟨y,_,rfl⟩:=h;simp[hk]
  ·split at h
   ·rename_i hk;rw[Option.map_eq_some_iff]at h;obtain⟨y,_,rfl⟩:=h;simp[hk]
   ·split at h
    ·rename_i h1 h2 h3 h4;rw[Option.map_eq_some_iff]at h;obtain⟨y,_,rfl⟩:=h;simp[h1,h3]
    ·cases h
def cv (m:Smp):Rs:=⟨m.name,kb m.kind m.signed,m.value,m.word,m.rate,m.tags⟩
theorem opt_eq {l n v k:List UInt8}{p:Nat}(hp:p<l.length):
  opt l n v k p=(rv k v).bind fun x=>(opts x.1 (l.drop (p+1))).map fun o=>cv ⟨n,x.1,x.2.1,x.2.2.1,x.2.2.2,o.1,o.2⟩:=by
 unfold opt;by_cases h64:l[p+1]? = some 64
 ·have hq:p+1<l.length:=(uD.1 h64).1;have hpre:=(head_iff 64).1 h64;have ed:(l.drop (p+1)).drop 1=l.drop (p+2):=by rw[List.drop_drop]
  rw[if_pos h64,tw_fore,rok_eq];cases hv:rv k v with
  | none=>
   have e:∀r pp,fin l n v k true r pp=none:=by
    intro r pp;rw[fin_eq,refVal_eq,hv];by_cases hk:k=[103]∨k=[115]
    ·rw[if_pos ⟨rfl,hk⟩];rfl
    ·rw[if_neg (fun h=>hk h.2)];rfl
   cases rate (fore 124 (l.drop (p+2))) with
   | none=>rfl
   | some r=>exact e r _
  | some x=>
   have hkd:=rv_kind hv;by_cases hk:k=[103]∨k=[115]
   ·have e:∀r pp,fin l n v k true r pp=none:=by
     intro r pp;rw[fin_eq,refVal_eq,if_pos ⟨rfl,hk⟩];rfl
    rw[Option.bind_some,opts_bar hpre (hkd.2 hk)];cases rate (fore 124 (l.drop (p+2))) with
    | none=>rfl
    | some r=>exact e r _
   ·rw[Option.bind_some,opts_rate hpre (fun h=>hk (hkd.1 h)),ed];cases hr:rate (fore 124 (l.drop (p+2))) with
    | none=>rfl
    | some r=>
     rw[Option.bind_some,Option.bind_some];rcases place 124 (l:=l) (q:=p+2) (by omega) with ⟨h1,h2,h3⟩|⟨h1,h2,h3⟩
     ·rw[fin_lt h2,refVal_eq,if_neg (fun h=>hk h.2),hv,h3,h1,if_pos rfl];cases tagsOf (aft 124 (l.drop (p+2)))<;>rfl
     ·rw[fin_ge (by omega),refVal_eq,if_neg (fun h=>hk h.2),hv,h1];rfl
 ·have hpre:[64].isPrefixOf (l.drop (p+1))=false:=by
   cases h:[64].isPrefixOf (l.drop (p+1)) with
   | false=>rfl
   | true=>exact absurd ((head_iff 64).2 h) h64
  rw[if_neg h64,fin_lt hp,refVal_eq,if_neg (fun h=>by cases h.1)];cases hv:rv k v with
  | none=>rfl
  | some x=>
   rw[Option.bind_some,opts_tags hpre];cases tagsOf (l.drop (p+1))<;>rfl
theorem opt_end {l n v k:List UInt8}{p:Nat}(hp:¬p<l.length):
  opt l n v k p=(rv k v).bind fun x=>some (cv ⟨n,x.1,x.2.1,x.2.2.1,x.2.2.2,1000,[]⟩):=by
 unfold opt;rw[if_neg,fin_ge hp,refVal_eq,if_neg (fun h=>by cases h.1)]
 ·cases rv k v<;>rfl
 ·intro h;have:=(uD.1 h).1;omega
theorem val2_eq {l n:List UInt8}{p:Nat}(hp:p+1≤l.length):val2 l n p=(rdBehind n (l.drop (p+1))).map cv:=by
 unfold val2 rdBehind;simp only[tw_fore];rcases place 124 (l:=l) (q:=p+1) hp with ⟨h1,h2,h3⟩|⟨h1,h2,h3⟩
 ·rw[if_pos h2,if_pos h1,h3];rcases place 124 (l:=l) (q:=p+1+(fore 124 (l.drop (p+1))).length+1) (by omega) with ⟨k1,k2,k3⟩|⟨k1,k2,k3⟩
  ·rw[h3]at k1 k2 k3;rw[opt_eq k2,k3,k1];cases rv (fore 124 (aft 124 (l.drop (p+1)))) (fore 124 (l.drop (p+1))) with
   | none=>rfl
   | some x=>
    rw[Option.bind_some,Option.bind_some,if_pos rfl,Option.map_map];rfl
  ·rw[h3]at k1 k2 k3;rw[opt_end (by omega),k1];cases rv (fore 124 (aft 124 (l.drop (p+1)))) (fore 124 (l.drop (p+1))) with
   | none=>rfl
   | some x=>rfl
 ·rw[if_neg (by omega),h1];rfl
theorem name_hit:∀{l:List UInt8},l[(tw [58,124] l).length]? = some 58→has 58 l=true∧tw [58,124] l=fore 58 l:=by
 intro l
 induction l with
 | nil=>intro h;simp at h
 | cons b l ih=>
  intro h;by_cases h1:b=58
  ·subst h1;exact⟨by simp[has],rfl⟩
  ·by_cases h2:b=124
   ·subst h2;simp[tw]at h
   ·have e:tw [58,124] (b ::l)=b ::tw [58,124] l:=by
     simp[tw,h1,h2]
    rw[e,uA,List.getElem?_cons_succ]at h;obtain⟨i1,i2⟩:=ih h;refine⟨?_,?_⟩
    ·simp only[has]at i1 ⊢;rw[uE,i1,Bool.or_true]
    ·rw[e,i2];simp[fore,h1]
theorem name_made:∀{l:List UInt8},has 58 l=true→((fore 58 l).all fun b=>nam b.toNat)=true→tw [58,124] l=fore 58 l∧l[(fore 58 l).length]? = some 58:=by
 intro l
 induction l with
 | nil=>intro h;simp[has]at h
 | cons b l ih=>
  intro h hm;by_cases h1:b=58
  ·subst h1;exact⟨rfl,rfl⟩
  ·have ef:fore 58 (b ::l)=b ::fore 58 l:=by simp[fore,h1]
   rw[ef,uB,Bool.and_eq_true]at hm;have h2:b≠124:=by
    intro e;subst e;exact absurd hm.1 (by decide)
   have hh:has 58 l=true:=by
    simp only[has]at h ⊢;rw[uE,Bool.or_eq_true]at h;rcases h with h|h
    ·exact absurd (by simpa using h:(58:UInt8)=b).symm h1
    ·exact h
   obtain⟨i1,i2⟩:=ih hh hm.2;refine⟨?_,?_⟩
   ·rw[ef,←i1];simp[tw,h1,h2]
   ·rw[ef,uA,List.getElem?_cons_succ];exact i2
theorem refRd_eq (l:List UInt8):refRd l=(rd l).map cv:=by
 unfold refRd rd;by_cases hn:has 58 l=true∧made nam 16 (fore 58 l)=true
 ·have hall:((fore 58 l).all fun b=>nam b.toNat)=true:=by
   have h:=hn.2;unfold made at h;rw[Bool.and_eq_true,Bool.and_eq_true]at h;exact h.2.2
  obtain⟨e1,e2⟩:=name_made hn.1 hall;have hp:=(uD.1 e2).1;rw[e1,if_pos ⟨hn.2,e2⟩,if_pos hn.1,if_pos hn.2,val2_eq (by omega)];rcases place 58 (l:=l) (q:=0) (by omega) with ⟨_,_,h3⟩|⟨h1,_,_⟩
  ·rw[List.drop_zero,Nat.zero_add]at h3;rw[h3]
  ·rw[List.drop_zero]at h1;rw[h1]at hn;cases hn.1
 ·have hr:(if has 58 l=true then (if made nam 16 (fore 58 l)=true then rdBehind (fore 58 l) (aft 58 l) else none) else none)=none:=by
   split
   ·split
    ·exact absurd ⟨by assumption,by assumption⟩ hn
    ·rfl
   ·rfl
  rw[hr,if_neg]
  ·rfl
  ·rintro⟨k1,k2⟩;obtain⟨i1,i2⟩:=name_hit k2;rw[i2]at k1;exact hn ⟨i1,k1⟩
end Go.Proofs.YtenegfafjjknoaaGreatDoor.Same
namespace Go.Proofs.YtenegfafjjknoaaGreatDoor.Refp
open Go.RowKit Bytes Numw Mem Plain Tagw Bounds Refe Reft Refd
theorem cells6 {w:World}{b:Nat}{t:TypeId}{v0 v1 v2 v3 v4 v5:Value}(h:Sits w b t #[v0,v1,v2,v3,v4,v5]):
  w.cell? ⟨b,0,none⟩=some v0∧w.cell? ⟨b,1,none⟩=some v1∧w.cell? ⟨b,2,none⟩=some v2∧w.cell? ⟨b,3,none⟩=some v3∧w.cell? ⟨b,4,none⟩=some v4∧w.cell? ⟨b,5,none⟩=some v5:=
 ⟨h.cell 0 _ rfl,h.cell 1 _ rfl,h.cell 2 _ rfl,h.cell 3 _ rfl,h.cell 4 _ rfl,h.cell 5 _ rfl⟩
def pvr (K v:Int)(x:List UInt8):List UInt8:=if K=115 then x else (if v<0 then [45] else if K=100 then [43] else [])++wnAbs v.natAbs
def Valued (K v:Int)(wb:ByteArray)(w:World)(cs:Array Value)(s3:Value)(wx:World):Prop:=
 ∃y:ByteArray,s3=.string y∧y.size≤40∧B y=pvr K v (B wb)∧Below w.heap.size w wx∧Sits wx w.heap.size 85 cs
def Stands (nb:ByteArray)(p:List UInt8)(K:Int)(w:World)(cs:Array Value)(s5:Value)(wx:World):Prop:=
 ∃y:ByteArray,s5=.string y∧y.size≤100∧B y=B nb++[58]++p++[124]++B (ty K)∧Below w.heap.size w wx∧Sits wx w.heap.size 85 cs
theorem stands {nb y:ByteArray}{p:List UInt8}{K:Int}{w wc w1:World}{cs:Array Value}(h1:nb.size≤16)(hy:B y=p)(hyz:y.size≤40)(hb:Below w.heap.size w wc)(hS:Sits wc w.heap.size 85 cs)
  (hb1:Below wc.drew.heap.size wc.drew w1):Stands nb p K w cs (.string ((((nb++⟨#[58]⟩)++y)++⟨#[124]⟩)++ty K)) w1:=by
 have e:B ((((nb++⟨#[58]⟩)++y)++⟨#[124]⟩)++ty K)=B nb++[58]++p++[124]++B (ty K):=by
  rw[B_append,B_append,B_append,B_append,hy];rfl
 have hb2:Below wc.heap.size wc w1:=below_d hb1;refine⟨_,rfl,?_,e,hb.trans (hb2.mono hb.size),hS.below hb2 hS.lt⟩;rw[size_B,e];simp only[List.length_append,List.length_singleton];have hk:=ty_size K;rw[size_B]at h1 hyz hk;rw[hy]at hyz;omega
end Go.Proofs.YtenegfafjjknoaaGreatDoor.Refp
namespace Go.Proofs.YtenegfafjjknoaaGreatDoor.Parsew
open Go.RowKit Bytes Nums Numw Mem Tags Tagw Opts Plain Readw Plainw Plainv Plainp Bounds
end Go.Proofs.YtenegfafjjknoaaGreatDoor.Parsew
namespace Go.Proofs.YtenegfafjjknoaaGreatDoor.Same
open Bytes Nums Refs Refl Vals Opts Tags Spl Sorts Bounds
theorem rv_made {k l:List UInt8}{x:List UInt8×Bool×Int×List UInt8}(h:rv k l=some x):
  (x.1=[99]∧x.2.1=false)∨x.1=[103]∨(x.1=[115]∧x.2.1=false)∨(x.1=[109,115]∧x.2.1=false):=by
 unfold rv at h;split at h
 ·split at h
  ·cases h
   exact Or.inr (Or.inr (Or.inl ⟨rfl,rfl⟩))
  ·cases h
 ·split at h
  ·rw[Option.map_eq_some_iff]at h;obtain⟨y,_,rfl⟩:=h;exact Or.inl ⟨rfl,rfl⟩
  ·split at h
   ·rw[Option.map_eq_some_iff]at h;obtain⟨y,_,rfl⟩:=h;exact Or.inr (Or.inl rfl)
   ·split at h
    ·rw[Option.map_eq_some_iff]at h;obtain⟨y,_,rfl⟩:=h;exact Or.inr (Or.inr (Or.inr ⟨rfl,rfl⟩))
    ·cases h
theorem rd_made {l:List UInt8}{m:Smp}(h:rd l=some m):
  (m.kind=[99]∧m.signed=false)∨m.kind=[103]∨(m.kind=[115]∧m.signed=false)∨(m.kind=[109,115]∧m.signed=false):=by
 unfold rd rdBehind at h;split at h
 ·split at h
  ·split at h
   ·rw[Option.bind_eq_some_iff]at h;obtain⟨x,hx,h⟩:=h;have hm:=rv_made hx;split at h
    ·rw[Option.map_eq_some_iff]at h;obtain⟨o,_,rfl⟩:=h;exact hm
    ·cases h
     exact hm
   ·cases h
  ·cases h
 ·cases h
def Short (m:Rs):Prop:=m.name.length≤16∧m.word.length≤16∧(-999999999≤m.value∧m.value≤999999999)∧(1≤m.rate∧m.rate≤1000)∧m.tags.length≤4∧∀x∈m.tags,x.length≤8
theorem short_of {l:List UInt8}{m:Rs}(h:refRd l=some m):Short m:=by
 rw[refRd_eq,Option.map_eq_some_iff]at h;obtain⟨n,hn,rfl⟩:=h;obtain⟨h1,h2,h3,h4,h5,h6,h7⟩:=rd_short hn;exact⟨h1,h3,h4,h5,h6,h7⟩
end Go.Proofs.YtenegfafjjknoaaGreatDoor.Same
