/- Whether a record fits behind those that were taken. -/
import Derived.Test.YtpndiccohnafbaaGreatDoorHiy
set_option maxHeartbeats 9000000
open Go.Value renaming int->I,string->L
open Go.IntKind renaming i64->O
namespace Go.Proofs.YtpndiccohnafbaaGreatDoor.Jr
open Go.RowKit Mem Foot Bytes Im Wm Hi Plainw Cq
def dI (kb:ByteArray)(b:Int)(a:Bool)(c g:Int):Bool:=
 if kb=⟨#[100]⟩ then decide (g<b)&&(!a||decide (b=c))
 else if kb=⟨#[115]⟩ then a&&decide (b=c)
 else if kb=⟨#[98]⟩ then decide (g<=b)
 else false
theorem gw {w:World}{b:Nat}{t:TypeId}{e a c f d g i:Value}(h:af w b t #[e,a,c,f,d,g,i]):
  w.cell? ⟨b,1,none⟩=some a/\w.cell? ⟨b,2,none⟩=some c/\w.cell? ⟨b,4,none⟩=some d:=⟨h.Ri 1,h.Ri 2,h.Ri 4⟩
set_option maxRecDepth 10000 in
theorem DG (w:World)(j:Nat)(r sg:Value)(b g o p:Int)(m:Option Addr)(i n:Nat)(a:Int)(d:ByteArray)(h:af w j 135 #[r,I O b,.slice m i n,sg,I O g,I O o,I O p]):
  Calls Tryz.prog 111 #[.pointer (some ⟨j,0,none⟩),.agg #[L ⟨#[98]⟩,I O a,L d]] w λe s=>e=.returned (.bool (dI ⟨#[98]⟩ a (decide (0<i)) b g))/\Below w.heap.size w s:=by
 have c:=aa (af.new w 158 #[L ⟨#[98]⟩,I O a,L d]);have f:=aa (ai (w:=w) (.cells #[L ⟨#[98]⟩,I O a,L d] 158));have k:=aa (Mem.af.below h (ai (w:=w) (.cells #[L ⟨#[98]⟩,I O a,L d] 158)) h.lt);have l:=aa (show dI ⟨#[98]⟩ a (decide (0<i)) b g=decide (g<=a) by grind [dI]);clear h;go_in;go_upto_region 1 with fail;generalize q:w.heap.size=X at c ⊢;clear q;generalize w.alloc (.cells #[L ⟨#[98]⟩,I O a,L d] 158)=x at *;obtain⟨c1,c2,t⟩:=gw k;have u:=c.Ri 0;have v:=c.Ri 1;go_wp2_with fail;go_quiet (fail);go_wp2_with fail;go_ret;exact⟨by rw[l.out];rfl,ax f⟩
set_option maxRecDepth 10000 in
theorem DH (w:World)(n:Nat)(v sg:Value)(b g r s:Int)(p:Option Addr)(c q:Nat)(a:Int)(j:ByteArray)(h:af w n 135 #[v,I O b,.slice p c q,sg,I O g,I O r,I O s]):
  Calls Tryz.prog 111 #[.pointer (some ⟨n,0,none⟩),.agg #[L ⟨#[115]⟩,I O a,L j]] w λe x=>e=.returned (.bool (dI ⟨#[115]⟩ a (decide (0<c)) b g))/\Below w.heap.size w x:=by
 have d:=aa (af.new w 158 #[L ⟨#[115]⟩,I O a,L j]);have f:=aa (ai (w:=w) (.cells #[L ⟨#[115]⟩,I O a,L j] 158));have o:=aa (Mem.af.below h (ai (w:=w) (.cells #[L ⟨#[115]⟩,I O a,L j] 158)) h.lt);have m:=aa (show dI ⟨#[115]⟩ a (decide (0<c)) b g=(decide (0<c)&&decide (a=b)) by grind [dI]);clear h;go_in;go_upto_region 1 with fail;generalize t:w.heap.size=X at d ⊢;clear t;generalize w.alloc (.cells #[L ⟨#[115]⟩,I O a,L j] 158)=B at *;obtain⟨c1,c2,y⟩:=gw o;have z:=d.Ri 0;have A:=d.Ri 1;by_cases k:0<c
 .have u:decide ((0:Int)<(c:Int))=true:=decide_eq_true (by omega);have l:decide (0<c)=true:=decide_eq_true k;go_wp2_with fail;go_quiet (fail);go_wp2_with fail;go_ret;refine⟨?_,ax f⟩;rw[m.out,l];by_cases e:a=b<;>simp[e]
 have i:c=0:=by omega
 subst i;go_wp2_with fail;go_quiet (fail);go_wp2_with fail;go_ret;refine⟨?_,ax f⟩;rw[m.out];simp
set_option maxRecDepth 10000 in
theorem tn (w:World)(q:Nat)(z sg:Value)(b g u v:Int)(s:Option Addr)(d t:Nat)(a:Int)(l:ByteArray)(h:af w q 135 #[z,I O b,.slice s d t,sg,I O g,I O u,I O v]):
  Calls Tryz.prog 111 #[.pointer (some ⟨q,0,none⟩),.agg #[L ⟨#[100]⟩,I O a,L l]] w λe A=>e=.returned (.bool (dI ⟨#[100]⟩ a (decide (0<d)) b g))/\Below w.heap.size w A:=by
 have i:=aa (af.new w 158 #[L ⟨#[100]⟩,I O a,L l]);have f:=aa (ai (w:=w) (.cells #[L ⟨#[100]⟩,I O a,L l] 158));have r:=aa (Mem.af.below h (ai (w:=w) (.cells #[L ⟨#[100]⟩,I O a,L l] 158)) h.lt);have n:=aa (show dI ⟨#[100]⟩ a (decide (0<d)) b g=(decide (g<a)&&(!decide (0<d)||decide (a=b))) by unfold dI;rw[if_pos rfl]);clear h;go_in;go_upto_region 1 with fail;generalize x:w.heap.size=X at i ⊢;clear x;generalize w.alloc (.cells #[L ⟨#[100]⟩,I O a,L l] 158)=F at *;obtain⟨c1,c2,B⟩:=gw r;have D:=i.Ri 0;have E:=i.Ri 1;by_cases k:g<a
 .have c:decide (g<a)=true:=decide_eq_true k;by_cases o:0<d
  .have y:decide ((0:Int)<(d:Int))=true:=decide_eq_true (by omega);have p:decide (0<d)=true:=decide_eq_true o;go_wp2_with fail;go_quiet (fail);go_wp2_with fail;go_ret;refine⟨?_,ax f⟩;rw[n.out,p,c];by_cases e:a=b<;>simp[e]
  have j:d=0:=by omega
  subst j;go_wp2_with fail;go_quiet (fail);go_wp2_with fail;go_ret;refine⟨?_,ax f⟩;rw[n.out,c];simp
 have c:decide (g<a)=false:=decide_eq_false k;have m:=aa c;go_wp2_with fail;go_quiet (fail);go_wp2_with fail;go_ret;refine⟨?_,ax f⟩;rw[n.out,m.out];simp
end Go.Proofs.YtpndiccohnafbaaGreatDoor.Jr
