/- Taken. -/
import Derived.Shelf.SlSortCmp.NoneTotal
import Derived.Test.YtenegfafjjknoaaGreatDoorMsty
import Derived.Test.YtenegfafjjknoaaGreatDoorCqy
set_option maxHeartbeats 100000000
namespace Go.Proofs.YtenegfafjjknoaaGreatDoor.Sk
open Go.RowKit Go.Maps Go.Shelf Mem Foot Im Go.Sort
theorem values (mb:Option Nat)(w:World):Calls Tryz.prog 158 #[.map mb] w fun e w'=>e=.returned (.func (.func 210) #[] #[.pointer (some ⟨w.heap.size,0,none⟩)])∧w'=w.alloc (.cells #[.map mb] 162):=by
 go_enter Tryz.func158,Tryz.ntmps158
 go_wp2_with fail
 go_ret
 exact⟨rfl,rfl⟩
theorem collectW (Bm:Nat)(mb:Option Nat)(ms:List Ms)(hms:(ms.map (·.k)).Nodup)(w:World)(hBm:Bm<w.heap.size)(hm:w.cell? ⟨Bm,0,none⟩=some (.map mb))(hown:Mapped w mb ms)(hN:ms.length≤maxLen)(hNb:ms.length*24≤140737488355328):
  Calls Tryz.prog 208 #[.func (.func 210) #[] #[.pointer (some ⟨Bm,0,none⟩)]] w fun e w'=>∃(v:Value) (xs:List Ms),e=.returned v∧xs.Perm ms∧
   w'.ownsRow w.heap.size 117 2 v xs.length (mcells xs)∧(v=.slice none 0 0↔xs=[])∧Below w.heap.size w w':=
 (callsIn_wide (n:=3)).1 (collect Fence.wide 3 trivial trivial rfl (Nat.le_refl _) _ _ trivial (enters_of Tryz.func210 (by kernel_rfl) rfl) ms hN hNb w (values_stops Fence.wide 1 trivial rfl (Nat.le_refl _) Bm mb ms hms w hBm hm hown))
theorem own_sits {w:World}{base n cap g:Nat}{xs:List Value}{e:TypeId}(h:w.ownsRow base e 2 (.slice (some ⟨g,0,none⟩) n cap) n xs):base≤g∧∃cur,Sits w g e cur∧n≤cap∧cap≤maxLen∧cur.size=cap*2∧cur.toList.take (n*2)=xs:=by
 rcases h.2 with ⟨h1,_⟩|⟨g',cap',cur,h1,h2,h3,h4,h5,h6,h7⟩
 ·cases h1
 ·injection h1 with h1 h8 h9;injection h1 with h1;injection h1 with h1;subst h1;subst h9;exact⟨h2,cur,h3,h4,h5,h6,h7⟩
theorem own_shape2 {w:World}{base n:Nat}{v:Value}{xs:List Value}{e:TypeId}(h:w.ownsRow base e 2 v n xs):(v=.slice none 0 0∧n=0)∨∃g cap,v=.slice (some ⟨g,0,none⟩) n cap:=by
 rcases h.2 with h1|⟨g',cap',cur,h1,_⟩
 ·exact Or.inl h1
 ·exact Or.inr ⟨g',cap',h1⟩
theorem sortedFunc (Bm:Nat)(mb:Option Nat)(ms:List Ms)(hr:Rise ms)(w:World)(hBm:Bm<w.heap.size)(hm:w.cell? ⟨Bm,0,none⟩=some (.map mb))(hown:Mapped w mb ms)(hN:ms.length≤4000000000000):
  Calls Tryz.prog 157 #[.func (.func 210) #[] #[.pointer (some ⟨Bm,0,none⟩)],.func (.func 159) #[] #[]] w fun e w'=>∃v:Value,e=.returned v∧
   w'.ownsRow w.heap.size 117 2 v ms.length (mcells ms)∧Below w.heap.size w w':=by
 have hc:=collectW Bm mb ms hr.nodup w hBm hm hown (by unfold maxLen;omega) (by omega);clear hm hown;go_enter Tryz.func157,Tryz.ntmps157
 go_wp2_with fail
 refine hc.mono ?_;clear hc;rintro e w1 ⟨v,xs,rfl,hp,hrow,hnil,hb⟩;have HL:=hide hp.length_eq;rcases own_shape2 hrow with ⟨rfl,h0⟩|⟨g,cap,rfl⟩
 ·have h1:xs=[]:=List.eq_nil_of_length_eq_zero h0;subst h1;have h2:ms=[]:=List.eq_nil_of_length_eq_zero (by simpa using HL.out.symm);subst h2;have hnone:Calls Tryz.prog 209 #[.slice none 0 0,.func (.func 159) #[] #[]] w1 fun e w'=>e=.returned (.tuple #[])∧w'=w1:=AnyF.slices_SortFunc_none Tryz.sortM none 0 _ w1
  have HR:=hide hrow;have HB:=hide hb;clear hrow hb hnil hp h0;go_wp2_with fail
  refine hnone.mono ?_;clear hnone;rintro e w2 ⟨rfl,rfl⟩;go_wp2_with fail
  go_ret
  exact⟨_,rfl,HR.out,HB.out⟩
 ·obtain⟨hbg,cur,hs,h1,h2,h3,h4⟩:=own_sits hrow;haveI:Inhabited Ms:=⟨⟨0,⟨#[]⟩⟩⟩
  have hlen:=HL.out;have hsort:=sortMs g cap xs ms hp hr w1 cur hs (by omega) h4 (by omega);have HB:=hide hb;have HS:=hide (show ms.length≤cap∧cap≤maxLen∧cur.size=cap*2∧w.heap.size≤g by omega);clear hrow hnil hlen h1 h2 h3 h4 hs hbg hb hp;go_wp2_with fail
  refine hsort.mono ?_;clear hsort;rintro e w2 ⟨rfl,hbut,cur',hs',hz,ht⟩;have HF:=hide (show But g w1 w2∧Sits w2 g 117 cur'∧cur'.size=cur.size∧cur'.toList.take (ms.length*2)=mcells ms from⟨hbut,hs',hz,ht⟩);clear hbut hs' hz ht;go_wp2_with fail
  go_ret
  obtain⟨hbut,hs',hz,ht⟩:=HF.out;obtain⟨h1,h2,h3,hbg⟩:=HS.out;refine⟨.slice (some ⟨g,0,none⟩) xs.length cap,rfl,⟨by rw[mcells_length],Or.inr ⟨g,cap,cur',congrArg (fun n=>Value.slice (some ⟨g,0,none⟩) n cap) HL.out,hbg,hs',h1,h2,by omega,ht⟩⟩,?_⟩;exact HB.out.trans (hbut.below hbg HB.out.size)
theorem rising (mb:Option Nat)(ms:List Ms)(hr:Rise ms)(w:World)(h:Mapped w mb ms)(hN:ms.length≤4000000000000):
  Calls Tryz.prog 108 #[.map mb] w fun e w'=>∃v:Value,e=.returned v∧
   w'.ownsRow w.heap.size 117 2 v ms.length (mcells ms)∧Below w.heap.size w w':=by
 have hs:=sortedFunc w.heap.size mb ms hr (w.alloc (.cells #[.map mb] 162)) (by simp) ((Sits.new w 162 #[.map mb]).cell 0 _ rfl) (h.off (F:=[]) (Off.of_below (below_new _)) (fun _ _=>by simp)) hN;go_enter Tryz.func108,Tryz.ntmps108
 go_wp2_with (go_at_call 158;refine(values _ _).mono ?_;rintro e w' ⟨rfl,rfl⟩)
 refine hs.mono ?_;clear hs;rintro e w1 ⟨v,rfl,hrow,hb⟩;have HR:=hide hrow;have HB:=hide hb;clear hrow hb;go_wp2_with fail
 go_ret
 refine⟨_,rfl,⟨HR.out.1,?_⟩,(below_new _).trans (HB.out.mono (by simp))⟩;rcases HR.out.2 with h1|⟨g,cap,cur,h1,h2,h3⟩
 ·exact Or.inl h1
 ·exact Or.inr ⟨g,cap,cur,h1,by simp at h2;omega,h3⟩
end Go.Proofs.YtenegfafjjknoaaGreatDoor.Sk
namespace Go.Proofs.YtenegfafjjknoaaGreatDoor.Cq
open Go.RowKit
variable {P : Program} {ops : Array Oper} {md : Region.Mode} {C : World → Prop} {Q : Exit → Act → World → Prop}
def wpAnyC (P:Program)(md:Region.Mode)(ops:Array Oper)(C:World→Prop)(m:Nat)(Q:Exit→Act→World→Prop):Nat→Array Bool→Act→World→Prop
 | 0,listed,a,w=>Region.ready md ops listed=[]∧Q .normal a w
 | n+1,listed,a,w=>(Region.ready md ops listed=[]→Q .normal a w)∧∀i∈Region.ready md ops listed,wpOp P ops Q i (fun a' w'=>(i<m→C w')∧wpAnyC P md ops C m Q n (listed.setIfInBounds i true) a' w') a w
theorem wpAny_of_C {m:Nat}:∀(n:Nat) (listed:Array Bool) (a:Act) (w:World),wpAnyC P md ops C m Q n listed a w→wpAny P md ops Q n listed a w
 | 0,_,_,_,h=>h
 | n+1,_,_,_,h=>⟨h.1,fun i hi=>wpOp_mono (fun a' w' hk=>wpAny_of_C n _ a' w' hk.2) (h.2 i hi)⟩
def YieldsC (P:Program)(ops:Array Oper)(C:World→Prop)(o:Oper)(v:Value)(a:Act):Prop:=
 (Region.wanted o (yielded ops a.tmps)=true∧∀w,C w→(execOp a.eval o).run P w=.ok (.value v) w)∨(Region.wanted o (yielded ops a.tmps)=false∧v=undef)
theorem YieldsC.op {i:Nat}{o:Oper}{v:Value}{a:Act}(hi:ops[i]? = some o)(hy:YieldsC P ops C o v a){K:Act→World→Prop}{w:World}(hw:C w)(h:K (a.put o.dst v) w):wpOp P ops Q i K a w:=by
 unfold Go.wpOp;simp only[hi];rcases hy with ⟨h1,h2⟩|⟨h1,rfl⟩
 ·simp only[h1,if_true,Oper.wp,h2 w hw,Oper.upon];exact .inl h
 ·simp only[h1,Bool.false_eq_true,if_false];exact h
theorem op_behind {j:Nat}{oi oj:Oper}{v:Value}(hj:ops[j]? = some oj)(hap:oi.apart ops oj=true)(hsi:∀cs b,oi.op≠.select cs b)(hsj:∀cs b,oj.op≠.select cs b)
  (hQ:∀c a w,Q (.panic c) (a.put oi.dst v) w→Q (.panic c) a w) {K:Act→World→Prop} {a:Act} {w:World} (hy:YieldsC P ops C oi v a) (h:wpOp P ops Q j K (a.put oi.dst v) w):
  wpOp P ops Q j (fun a' w'=>YieldsC P ops C oi v a'∧K (a'.put oi.dst v) w') a w:=by
 obtain⟨r1,r2,r3⟩:=Oper.apart_spec hap;have yk:∀(b:Act),YieldsC P ops C oi v b→∀u,YieldsC P ops C oi v (b.put oj.dst u):=fun b hb u=>by
  unfold YieldsC at *;rw[execOp_put oi hsi b oj.dst u r3,wanted_put oi b oj.dst u r3];exact hb
 have yd:∀d,YieldsC P ops C oi v {a with defers:=d ::a.defers}:=fun d=>hy
 unfold wpOp at *;simp only[hj]at *;rw[wanted_put oj a oi.dst v r1]at h;by_cases hw:Region.wanted oj (yielded ops a.tmps)=true
 ·rw[if_pos hw]at h ⊢;rcases h with h|⟨g1,g2⟩
  ·refine .inl ?_;unfold Oper.wp at *;rw[execOp_put oj hsj a oi.dst v r1]at h;cases hr:(execOp a.eval oj).run P w with
   | ok nx w'=>
    rw[hr]at h;cases nx with
    | value u=>
     simp only[Oper.upon]at h ⊢;exact⟨yk a hy u,by rw[←Act.put_comm a v u r2];exact h⟩
    | skip=>
     simp only[Oper.upon]at h ⊢;exact⟨yk a hy _,by rw[←Act.put_comm a v undef r2];exact h⟩
    | defer d=>
     simp only[Oper.upon]at h ⊢;refine⟨yk _ (yd d) _,?_⟩;rw[←Act.put_comm _ v undef r2,←Act.put_defers];exact h
    | enter f args=>
     simp only[Oper.upon]at h ⊢;refine Calls.mono h fun e w'' he=>?_
     cases e with
     | returned u=>exact⟨yk a hy u,by rw[←Act.put_comm a v u r2];exact he⟩
     | panicked c=>exact hQ _ _ _ he
     | outgrown=>exact he
    | row r args=>
     simp only[Oper.upon]at h ⊢;exact Rows.mono h fun u w'' he=>⟨yk a hy u,by rw[←Act.put_comm a v u r2];exact he⟩
    | _=>simp only[Oper.upon]at h ⊢
   | halt x w'=>
    rw[hr]at h;cases x with
    | panic u=>simp only[Oper.upon]at h ⊢;exact hQ _ _ _ h
    | _=>simp only[Oper.upon]at h ⊢
  ·exact .inr ⟨by unfold Oper.asks at *;rw[execOp_put oj hsj a oi.dst v r1]at g1;exact g1,g2⟩
 ·rw[if_neg hw]at h ⊢;exact⟨yk a hy _,by rw[←Act.put_comm a v undef r2];exact h⟩
theorem first_C {m i:Nat}{oi:Oper}{v:Value}(hm:i<m)(hT:tailB md ops m=true)(hi:ops[i]? = some oi)(hsel:∀(j:Nat) (o:Oper) cs b,ops[j]? = some o→o.op≠.select cs b)(hQ:∀c a w,Q (.panic c) (a.put oi.dst v) w→Q (.panic c) a w):
  ∀(fuel:Nat) (listed:Array Bool) (a:Act) (w:World),C w→DC md ops listed→(∀j oj,ops[j]? = some oj→j≠i→listed.getD j true=false→(∀e∈oj.after,Region.binds md e=true→e.on≠i)→oi.apart ops oj=true)→
   i∈Region.ready md ops listed→YieldsC P ops C oi v a→wpAnyC P md ops C m Q fuel (listed.setIfInBounds i true) (a.put oi.dst v) w→wpAnyC P md ops C m Q (fuel+1) listed a w:=by
 intro fuel
 induction fuel with
 | zero=>
  intro listed a w hw _ _ hr hy H;refine⟨fun h=>(by rw[h]at hr;cases hr),fun j hj=>?_⟩;by_cases hji:j=i
  ·subst hji;exact hy.op hi hw ⟨fun _=>hw,H⟩
  ·have h1:=ready_mono hj hji;rw[H.1]at h1;cases h1
 | succ fuel ih=>
  intro listed a w hw hd hfree hr hy H;refine⟨fun h=>(by rw[h]at hr;cases hr),fun j hj=>?_⟩;by_cases hji:j=i
  ·subst hji;exact hy.op hi hw ⟨fun _=>hw,H⟩
  ·obtain⟨hjun,oj,hoj,hall⟩:=mem_ready.1 hj;have hjm:j<m:=by
    rcases Nat.lt_or_ge j m with h|h
    ·exact h
    ·have h1:=getD_tf (tail_all hT hd hj h i hm);rw[(mem_ready.1 hr).1]at h1;cases h1
   have hnot:∀e∈oj.after,Region.binds md e=true→e.on≠i:=fun e he hb heq=>by
    have h1:=getD_tf (hall e he hb);rw[heq,(mem_ready.1 hr).1]at h1;cases h1
   refine wpOp_mono (fun a' w' h3=>⟨h3.2.1,ih (listed.setIfInBounds j true) a' w' (h3.2.1 hjm) (hd.step hj) (fun k ok hk hki hun hno=>hfree k ok hk hki ?_ hno) (ready_mono hr (Ne.symm hji)) h3.1 ?_⟩) (op_behind hoj (hfree j oj hoj hji hjun hnot) (fun cs b=>hsel i oi cs b hi) (fun cs b=>hsel j oj cs b hoj) hQ hy (H.2 j (ready_mono hj hji)))
   ·by_cases hjk:j=k
    ·subst hjk;exact hjun
    ·rw[getD_set_ne true hjk]at hun;exact hun
   ·rw[Array.setIfInBounds_comm _ _ hji];exact h3.2.2
def wpAnyD (P:Program)(ops:Array Oper)(C:World→Prop)(m:Nat)(Q:Exit→Act→World→Prop)(n:Nat)(listed:Array Bool)(a:Act)(w:World):Prop:=DC .any ops listed→wpAnyC P .any ops C m Q n listed a w
theorem take_C {m i:Nat}{oi:Oper}{v:Value}{fuel:Nat}{listed:Array Bool}{a:Act}{w:World}(hi:ops[i]? = some oi)(hm:i<m)(hT:tailB .any ops m=true)(hs:Region.noSelect ops=true)(hf:Region.free .any ops listed i=true)(hr:(Region.ready .any ops listed).contains i=true)
  (hQ:∀c a w,Q (.panic c) (a.put oi.dst v) w→Q (.panic c) a w) (hy:YieldsC P ops C oi v a) (hw:C w) (h:wpAnyD P ops C m Q fuel (listed.setIfInBounds i true) (a.put oi.dst v) w):wpAnyD P ops C m Q (fuel+1) listed a w:=fun hd=>
 first_C hm hT hi (Region.noSelect_spec hs) hQ fuel listed a w hw hd (Region.free_spec hi hf) (by simpa using hr) hy (h (hd.step (by simpa using hr)))
theorem one_C {m j:Nat}{o:Oper}{fuel:Nat}{listed:Array Bool}{a:Act}{w:World}(hr:Region.ready .any ops listed=[j])(ho:ops[j]? = some o)
  (h:∀K:Act→World→Prop,(∀a' w',(j<m→C w')→wpAnyD P ops C m Q fuel (listed.setIfInBounds j true) a' w'→K a' w')→if Region.wanted o (yielded ops a.tmps)=true then o.wp P a w K Q else K (a.put o.dst undef) w):wpAnyD P ops C m Q (fuel+1) listed a w:=by
 intro hd;have hj:j∈Region.ready .any ops listed:=by rw[hr];exact List.mem_singleton.2 rfl
 refine⟨fun h0=>(by rw[hr]at h0;cases h0),fun i hi=>?_⟩;rw[hr,List.mem_singleton]at hi;subst hi;have h1:=h (fun a' w'=>(i<m→C w')∧wpAnyC P .any ops C m Q fuel (listed.setIfInBounds i true) a' w') (fun a' w' h2 h3=>⟨h2,h3 (hd.step hj)⟩);unfold wpOp;simp only[ho];by_cases hw:Region.wanted o (yielded ops a.tmps)=true
 ·rw[if_pos hw]at h1 ⊢;exact .inl h1
 ·rw[if_neg hw]at h1 ⊢;exact h1
theorem done_C {m:Nat}{listed:Array Bool}{a:Act}{w:World}(hr:Region.ready .any ops listed=[])(h:Q .normal a w):∀fuel,wpAnyD P ops C m Q fuel listed a w
 | 0=>fun _=>⟨hr,h⟩
 | n+1=>fun _=>⟨fun _=>h,fun i hi=>by rw[hr]at hi;cases hi⟩
theorem region_C {id:Nat}{Q:Exit→Act→World→Prop}{a:Act}{w:World}{l:List Oper}(C:World→Prop)(m:Nat)(hm:P.follows .mixedOrders=true)(hC:C w)(hd:∀w',C w'→C w'.drew)(h:∀w',C w'→w'.heap=w.heap→wpAnyD P l.toArray C m Q l.toArray.size (Array.replicate l.toArray.size false) a w'):(Code.region id l.toArray true).wp P Q a w:=by
 refine wp_region_any hm ?_;exact wpAny_of_C _ _ _ _ (h _ (hd _ hC) rfl ⟨by simp,fun j oj hoj hl=>by
  have hj:=(Array.getElem?_eq_some_iff.1 hoj).1;simp[Array.getD]at hl
  simp at hj
  omega⟩)
theorem region_D {id:Nat}{Q:Exit→Act→World→Prop}{a:Act}{w:World}{l:List Oper}(C:World→Prop)(m:Nat)(hm:P.follows .mixedOrders=true)(h:wpAnyD P l.toArray C m Q l.toArray.size (Array.replicate l.toArray.size false) a w.drew):(Code.region id l.toArray true).wp P Q a w:=by
 refine wp_region_any hm ?_;exact wpAny_of_C _ _ _ _ (h ⟨by simp,fun j oj hoj hl=>by
  have hj:=(Array.getElem?_eq_some_iff.1 hoj).1;simp[Array.getD]at hl
  simp at hj
  omega⟩)
end Go.Proofs.YtenegfafjjknoaaGreatDoor.Cq
