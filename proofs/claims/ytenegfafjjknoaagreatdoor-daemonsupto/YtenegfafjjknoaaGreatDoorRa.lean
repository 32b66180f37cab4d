/- The document's numbers, written: at every number. -/
import Derived.Test.YtenegfafjjknoaaGreatDoorMqx
import Derived.Test.YtenegfafjjknoaaGreatDoorLeaf
import Derived.Lib.ItoaNum
import Derived.Deep.RegionWith
import Derived.Laws.BytesArg
set_option maxHeartbeats 100000000
namespace Go.Proofs.YtenegfafjjknoaaGreatDoor.Ra
open Go.RowKit Mem Foot
theorem conv1 (x:Int)(W:World)(b:Nat)(h:W.cell? ⟨b,0,none⟩=some (.int .u8 x)):(convert 97 9 (.slice (some ⟨b,0,none⟩) 1 1)).run Tryz.prog W=.ok (.string (strOfNums [x])) W:=
 run_convert_bytes_arg W 97 5 Tryz.underlying97 Tryz.underlying5 b 0 1 1 [x] rfl (fun i hi=>by
  obtain rfl:i=0:=by omega
  exact h) 9 Tryz.underlying9
theorem conv_new (x:Int)(W:World):(convert 97 9 (.slice (some ⟨W.heap.size,0,none⟩) 1 1)).run Tryz.prog (W.alloc (.cells #[.int .u8 x] 5))=.ok (.string (strOfNums [x])) (W.alloc (.cells #[.int .u8 x] 5)):=
 conv1 x _ _ ((Sits.new W 5 #[.int .u8 x]).cell 0 _ rfl)
theorem B_nums (x:Int):Bytes.B (strOfNums [x])=[UInt8.ofNat x.toNat]:=by
 simp[strOfNums,Bytes.B]
theorem dd_more {v:Nat}(h:¬v<10):Lib.decDigits v=Lib.decDigits (v / 10)++[UInt8.ofNat (48+v % 10)]:=by
 rw[Lib.decDigits,dif_neg h]
theorem dd_short {u:Nat}(h:u≤9223372036854775808):(Lib.decDigits u).length≤100:=by
 rw[Lib.decDigits_length];have:=Plain.nd_le 18 u (by omega);omega
def Wr (v:Int)(w:World):Prop:=Calls Tryz.prog 96 #[.int .i64 v] w fun e w'=>(∃z,e=.returned (.string z)∧Bytes.B z=Lib.itoa v)∧Below w.heap.size w w'
theorem itoa_nat (u:Nat):Lib.itoa (u:Int)=Lib.decDigits u:=by
 unfold Lib.itoa;rw[if_neg (by omega)];rfl
theorem itoa_minus {u:Nat}(h:u≠0):Lib.itoa (-(u:Int))=45 ::Lib.decDigits u:=by
 unfold Lib.itoa;rw[if_pos (by omega)]
 congr 2
 omega
set_option maxRecDepth 10000 in
theorem small (u:Nat)(h:u<10)(w:World):Wr (u:Int) w:=by
 have hz:(u:Int)<10:=by omega
 have hz0:¬(u:Int)<0:=by omega
 have hcv:=conv_new (48+(u:Int)) w;have hB:Bytes.B (strOfNums [48+(u:Int)])=Lib.itoa (u:Int):=by
  rw[B_nums,itoa_nat,Lib.decDigits_one h]
  congr
 have HB:=hide hB;clear hB;generalize strOfNums [48+(u:Int)]=z at *;unfold Wr;go_enter Tryz.func96,Tryz.ntmps96
 go_wp2_with fail
 go_ret
 exact⟨⟨z,rfl,HB.out⟩,below_new _⟩
set_option maxRecDepth 10000 in
theorem less (u:Nat)(h:u<10)(h0:u≠0)(w:World):Wr (-(u:Int)) w:=by
 have hz:-(u:Int)<0:=by omega
 have hz2:-10 < -(u:Int):=by omega
 have hr:(-(u:Int)).tmod 10 = -(u:Int):=by rw[Int.neg_tmod,Int.tmod_eq_emod_of_nonneg (by omega)];omega
 have hcv:=conv_new (48+(u:Int)) w;have hB:Bytes.B (strOfNums [48+(u:Int)])=[UInt8.ofNat (48+u)]:=by
  rw[B_nums]
  congr
 have HB:=hide hB;have hzs:(strOfNums [48+(u:Int)]).size=1:=by
  rw[Bytes.size_B,hB];rfl
 have hsub:(48:Int) - -(u:Int)=48+(u:Int):=by omega
 clear hB;generalize strOfNums [48+(u:Int)]=z at *;unfold Wr;go_enter Tryz.func96,Tryz.ntmps96
 go_wp2_with fail
 go_ret
 refine⟨⟨_,rfl,?_⟩,below_new _⟩;rw[Bytes.B_append,HB.out,itoa_minus h0,Lib.decDigits_one h];rfl
set_option maxRecDepth 10000 in
theorem lower (u:Nat)(h:¬u<10)(hu:u≤9223372036854775808)(ih:∀w,Wr (-((u / 10:Nat):Int)) w)(w:World):Wr (-(u:Int)) w:=by
 have hz:-(u:Int)<0:=by omega
 have hz2:¬-10 < -(u:Int):=by omega
 have hr:(-(u:Int)).tmod 10 = -((u % 10:Nat):Int):=by rw[Int.neg_tmod,Int.tmod_eq_emod_of_nonneg (by omega)];omega
 have hq:(-(u:Int)).tdiv 10 = -((u / 10:Nat):Int):=by rw[Int.neg_tdiv,Int.tdiv_eq_ediv_of_nonneg (by omega)];omega
 have hq9:-922337203685477581≤-((u / 10:Nat):Int)∧-((u / 10:Nat):Int)≤0:=by omega
 have hr9:((u % 10:Nat):Int)≤9:=by omega
 have hcv:=conv_new (48+((u % 10:Nat):Int)) w;have hB:Bytes.B (strOfNums [48+((u % 10:Nat):Int)])=[UInt8.ofNat (48+u % 10)]:=by
  rw[B_nums]
  congr
 have hzs:(strOfNums [48+((u % 10:Nat):Int)]).size=1:=by
  rw[Bytes.size_B,hB];rfl
 have hsub:(48:Int) - -((u % 10:Nat):Int)=48+((u % 10:Nat):Int):=by omega
 have HB:=hide hB;have HI:=hide (ih (w.alloc (.cells #[.int .u8 (48+((u % 10:Nat):Int))] 5)));have HD:=hide (show Lib.itoa (-(u:Int))=Lib.itoa (-((u / 10:Nat):Int))++[UInt8.ofNat (48+u % 10)] by
  rw[itoa_minus (by omega),itoa_minus (by omega),dd_more h];rfl)
 have HLN:=hide (show (Lib.itoa (-((u / 10:Nat):Int))).length≤101 by
  rw[itoa_minus (by omega),List.length_cons];have:=dd_short (u:=u / 10) (by omega);omega)
 clear hB ih;generalize strOfNums [48+((u % 10:Nat):Int)]=z at *;generalize hd:u / 10=d at *;generalize hm:u % 10=m at *;clear hd hm;unfold Wr at HI ⊢;go_enter Tryz.func96,Tryz.ntmps96
 go_wp2_with fail
 refine HI.out.mono ?_;rintro e w' ⟨⟨y,rfl,hy⟩,hb⟩;have hys:y.size≤101:=by rw[Bytes.size_B,hy];exact HLN.out
 have HY:=hide hy;have HBB:=hide hb;clear hy hb;go_wp2_with fail
 go_ret
 refine⟨⟨_,rfl,?_⟩,(below_new _).trans (HBB.out.mono (by simp))⟩;rw[Bytes.B_append,HB.out,HY.out,HD.out]
set_option maxRecDepth 10000 in
theorem upper (v:Nat)(h:¬v<10)(hv:v≤9223372036854775807)(ih:∀w:World,Calls Tryz.prog 96 #[.int .i64 ((v / 10:Nat):Int)] w fun e w'=>(∃z,e=.returned (.string z)∧Bytes.B z=Lib.decDigits (v / 10))∧Below w.heap.size w w')(w:World):
  Calls Tryz.prog 96 #[.int .i64 (v:Int)] w fun e w'=>(∃z,e=.returned (.string z)∧Bytes.B z=Lib.decDigits v)∧Below w.heap.size w w':=by
 have hI:=ih;have hz:¬(v:Int)<10:=by omega
 have hz0:¬(v:Int)<0:=by omega
 have hlen:(Lib.decDigits (v / 10)).length≤100:=by
  rw[Lib.decDigits_length];have:=Plain.nd_le 18 (v / 10) (by omega);omega
 have hq:(v:Int).tdiv 10=((v / 10:Nat):Int):=by rw[Int.tdiv_eq_ediv_of_nonneg (by omega)];omega
 have hq2:(v:Int) / 10=((v / 10:Nat):Int):=by omega
 have hr:(v:Int).tmod 10=((v % 10:Nat):Int):=by rw[Int.tmod_eq_emod_of_nonneg (by omega)];omega
 have hr2:(v:Int) % 10=((v % 10:Nat):Int):=by omega
 have HB:=hide (show Bytes.B (strOfNums [48+((v % 10:Nat):Int)])=[UInt8.ofNat (48+v % 10)] by
  rw[B_nums]
  congr)
 have HD:=hide (dd_more h);have hr9:((v % 10:Nat):Int)≤9:=by omega
 have hu9:((v / 10:Nat):Int)≤922337203685477580:=by omega
 have hcv:=conv1 (48+((v % 10:Nat):Int));have hzs:(strOfNums [48+((v % 10:Nat):Int)]).size=1:=by
  rw[Bytes.size_B,HB.out];rfl
 have HCV:=hide hcv;have HI:=hide hI;clear hcv hI ih;generalize strOfNums [48+((v % 10:Nat):Int)]=z1 at *;generalize hu:v / 10=u at *;generalize hm:v % 10=m at *;clear hu hm;go_enter Tryz.func96,Tryz.ntmps96
 go_wp2_with fail
 refine wp_region_any (by kernel_rfl) ?_;refine wpAny_take (i:=0) (v:=.int .i64 (v:Int)) rfl (by kernel_rfl) (by kernel_rfl) (by kernel_rfl) (fun _ _ _ h=>h) (Or.inl ⟨by rfl,by intro W;go_simp⟩) ?_;refine wpAny_take (i:=1) (v:=.int .i64 (u:Int)) rfl (by kernel_rfl) (by kernel_rfl) (by kernel_rfl) (fun _ _ _ h=>h) (Or.inl ⟨by rfl,by intro W;go_simp;exact IntWalk.i64_in _ (by omega)⟩) ?_;refine wpAny_take (i:=3) (v:=.int .i64 (v:Int)) rfl (by kernel_rfl) (by kernel_rfl) (by kernel_rfl) (fun _ _ _ h=>h) (Or.inl ⟨by rfl,by intro W;go_simp⟩) ?_;refine wpAny_take (i:=4) (v:=.int .i64 (m:Int)) rfl (by kernel_rfl) (by kernel_rfl) (by kernel_rfl) (fun _ _ _ h=>h) (Or.inl ⟨by rfl,by intro W;go_simp⟩) ?_;refine wpAny_take (i:=5) (v:=.int .i64 (48+(m:Int))) rfl (by kernel_rfl) (by kernel_rfl) (by kernel_rfl) (fun _ _ _ h=>h) (Or.inl ⟨by rfl,by intro W;go_simp;exact IntWalk.i64_in _ (by omega)⟩) ?_;refine wpAny_take (i:=6) (v:=.int .u8 (48+(m:Int))) rfl (by kernel_rfl) (by kernel_rfl) (by kernel_rfl) (fun _ _ _ h=>h) (Or.inl ⟨by rfl,by intro W;go_simp;exact IntWalk.u8_in _ (by omega)⟩) ?_;refine wpAny_ready (rs:=[2,7]) (by kernel_rfl) (by simp) ?_;refine AllReady.cons rfl (fun K hK=>?_) (AllReady.cons rfl (fun K hK=>?_) AllReady.nil)
 ·go_simp
  refine(HI.out _).mono ?_;rintro e w' ⟨⟨z,rfl,hzz⟩,hb⟩;have hzl:z.size≤100:=by rw[Bytes.size_B,hzz];exact hlen
  have HZZ:=hide hzz;have HBB:=hide hb;clear hzz hb;refine hK _ _ ?_;clear hK K;refine wpAny_ready (rs:=[7]) (by kernel_rfl) (by simp) (AllReady.cons rfl (fun K hK=>?_) AllReady.nil);go_simp
  refine hK _ _ ?_;clear hK K;have fA:(convert 97 9 (.slice (some ⟨w'.heap.size,0,none⟩) 1 1)).run Tryz.prog (w'.alloc (.cells #[.int .u8 (48+(m:Int))] 5))=.ok (.string z1) (w'.alloc (.cells #[.int .u8 (48+(m:Int))] 5)):=HCV.out _ _ ((Sits.new w' 5 #[.int .u8 (48+(m:Int))]).cell 0 _ rfl);refine wpAny_ready (rs:=[8]) (by kernel_rfl) (by simp) (AllReady.cons rfl (fun K hK=>?_) AllReady.nil);go_simp
  refine hK _ _ ?_;clear hK K fA;refine wpAny_ready (rs:=[9]) (by kernel_rfl) (by simp) (AllReady.cons rfl (fun K hK=>?_) AllReady.nil);go_simp
  rw[if_neg (by omega)];go_simp
  refine hK _ _ ?_;clear hK K;refine wpAny_ready (rs:=[10]) (by kernel_rfl) (by simp) (AllReady.cons rfl (fun K hK=>?_) AllReady.nil);go_simp
  refine hK _ _ ?_;clear hK K;refine wpAny_done (by kernel_rfl) ?_ _;go_wp2_with fail
  go_ret
  exact⟨⟨_,rfl,by rw[Bytes.B_append,HZZ.out,HB.out,HD.out]⟩,((Below.refl w.heap.size w).drew).trans (HBB.out.alloc HBB.out.size _)⟩
 ·go_simp
  refine hK _ _ ?_;clear hK K;have S0:Sits (w.alloc (.cells #[.int .u8 (48+(m:Int))] 5)).drew w.heap.size 5 #[.int .u8 (48+(m:Int))]:=Sits.new w 5 #[.int .u8 (48+(m:Int))];refine wpAny_ready (rs:=[2,8]) (by kernel_rfl) (by simp) ?_;refine AllReady.cons rfl (fun K hK=>?_) (AllReady.cons rfl (fun K hK=>?_) AllReady.nil)
  ·go_simp
   refine(HI.out _).mono ?_;rintro e w' ⟨⟨z,rfl,hzz⟩,hb⟩;have hzl:z.size≤100:=by rw[Bytes.size_B,hzz];exact hlen
   have HZZ:=hide hzz;have HBB:=hide hb;have fC:(convert 97 9 (.slice (some ⟨w.heap.size,0,none⟩) 1 1)).run Tryz.prog w'=.ok (.string z1) w':=HCV.out _ _ ((S0.below hb S0.lt).cell 0 _ rfl);clear hzz hb;refine hK _ _ ?_;clear hK K;refine wpAny_ready (rs:=[8]) (by kernel_rfl) (by simp) (AllReady.cons rfl (fun K hK=>?_) AllReady.nil);go_simp
   refine hK _ _ ?_;clear hK K fC;refine wpAny_ready (rs:=[9]) (by kernel_rfl) (by simp) (AllReady.cons rfl (fun K hK=>?_) AllReady.nil);go_simp
   rw[if_neg (by omega)];go_simp
   refine hK _ _ ?_;clear hK K;refine wpAny_ready (rs:=[10]) (by kernel_rfl) (by simp) (AllReady.cons rfl (fun K hK=>?_) AllReady.nil);go_simp
   refine hK _ _ ?_;clear hK K;refine wpAny_done (by kernel_rfl) ?_ _;go_wp2_with fail
   go_ret
   exact⟨⟨_,rfl,by rw[Bytes.B_append,HZZ.out,HB.out,HD.out]⟩,(below_new (w:=w) _).drew.trans (HBB.out.mono (by simp))⟩
  ·have fB:(convert 97 9 (.slice (some ⟨w.heap.size,0,none⟩) 1 1)).run Tryz.prog (w.alloc (.cells #[.int .u8 (48+(m:Int))] 5)).drew=.ok (.string z1) (w.alloc (.cells #[.int .u8 (48+(m:Int))] 5)).drew:=HCV.out _ _ (S0.cell 0 _ rfl);go_simp
   refine hK _ _ ?_;clear hK K fB;refine wpAny_ready (rs:=[2]) (by kernel_rfl) (by simp) (AllReady.cons rfl (fun K hK=>?_) AllReady.nil);go_simp
   refine(HI.out _).mono ?_;rintro e w' ⟨⟨z,rfl,hzz⟩,hb⟩;have hzl:z.size≤100:=by rw[Bytes.size_B,hzz];exact hlen
   have HZZ:=hide hzz;have HBB:=hide hb;clear hzz hb;refine hK _ _ ?_;clear hK K;refine wpAny_ready (rs:=[9]) (by kernel_rfl) (by simp) (AllReady.cons rfl (fun K hK=>?_) AllReady.nil);go_simp
   rw[if_neg (by omega)];go_simp
   refine hK _ _ ?_;clear hK K;refine wpAny_ready (rs:=[10]) (by kernel_rfl) (by simp) (AllReady.cons rfl (fun K hK=>?_) AllReady.nil);go_simp
   refine hK _ _ ?_;clear hK K;refine wpAny_done (by kernel_rfl) ?_ _;go_wp2_with fail
   go_ret
   exact⟨⟨_,rfl,by rw[Bytes.B_append,HZZ.out,HB.out,HD.out]⟩,(below_new (w:=w) _).drew.trans (HBB.out.mono (by simp))⟩
theorem digits (v:Int)(h0:-9223372036854775808≤v)(h1:v≤9223372036854775807)(w:World):Wr v w:=by
 have up:∀n u:Nat,u≤n→u≤9223372036854775807→∀w,Wr (u:Int) w:=by
  intro n
  induction n with
  | zero=>intro u hu _ w;exact small u (by omega) w
  | succ n ih=>
   intro u hu hm w;by_cases h:u<10
   ·exact small u h w
   ·have:=upper u h hm (fun w=>by
     have:=ih (u / 10) (by omega) (by omega) w;unfold Wr at this;rw[itoa_nat]at this;exact this) w
    unfold Wr;rw[itoa_nat];exact this
 have dn:∀n u:Nat,u≤n→u≠0→u≤9223372036854775808→∀w,Wr (-(u:Int)) w:=by
  intro n
  induction n with
  | zero=>intro u hu h _ w;omega
  | succ n ih=>
   intro u hu h0 hm w;by_cases h:u<10
   ·exact less u h h0 w
   ·exact lower u h hm (fun w=>ih (u / 10) (by omega) (by omega) (by omega) w) w
 by_cases h:0≤v
 ·obtain⟨u,rfl⟩:∃u:Nat,v=(u:Int):=⟨v.toNat,by omega⟩;exact up u u (Nat.le_refl _) (by omega) w
 ·obtain⟨u,rfl⟩:∃u:Nat,v = -(u:Int):=⟨v.natAbs,by omega⟩;exact dn u u (Nat.le_refl _) (by omega) (by omega) w
end Go.Proofs.YtenegfafjjknoaaGreatDoor.Ra
