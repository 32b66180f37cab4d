/- The walks of the document's values, by sign and type. -/
import Derived.Test.YtenegfafjjknoaaGreatDoorRefdy
open List renaming length_drop → uA, take_of_length_le → uB
open Nat renaming le_refl → uC
namespace Go.Proofs.YtenegfafjjknoaaGreatDoor.Refv
open Go.RowKit Bytes Nums Refs Numw Mem Refw Refn
theorem cells6 {w:World}{b:Nat}{t:TypeId}{v0 v1 v2 v3 v4 v5:Value}(h:Sits w b t #[v0,v1,v2,v3,v4,v5]):
  w.cell? ⟨b,0,none⟩=some v0∧w.cell? ⟨b,1,none⟩=some v1∧w.cell? ⟨b,2,none⟩=some v2∧w.cell? ⟨b,3,none⟩=some v3∧w.cell? ⟨b,4,none⟩=some v4∧w.cell? ⟨b,5,none⟩=some v5:=
 ⟨h.cell 0 _ rfl,h.cell 1 _ rfl,h.cell 2 _ rfl,h.cell 3 _ rfl,h.cell 4 _ rfl,h.cell 5 _ rfl⟩
theorem frozen6 {w:World}{b:Nat}{t:TypeId}{cs:Array Value}(h:Sits w b t cs):
  w.frozen? ⟨b,0,none⟩=false∧w.frozen? ⟨b,1,none⟩=false∧w.frozen? ⟨b,2,none⟩=false∧w.frozen? ⟨b,3,none⟩=false∧w.frozen? ⟨b,4,none⟩=false∧w.frozen? ⟨b,5,none⟩=false:=
 ⟨h.frozen 0,h.frozen 1,h.frozen 2,h.frozen 3,h.frozen 4,h.frozen 5⟩
theorem ret_b {a b:Bool}(h:a=b):Ending.returned (.bool a)=Ending.returned (.bool b):=by rw[h]
theorem word_f (s:ByteArray)(most:Int)(hs:s.size≤140737488355328)(w:World):
  Calls Tryz.prog 81 #[.string s,.int .i64 most,.bool false] w fun e w'=>e=.returned (.bool (made let_ most (B s)))∧w=w':=by
 have e:wch false=let_:=funext wch_f;have h:=word s most false hs w;rwa [e]at h
theorem word_t (s:ByteArray)(most:Int)(hs:s.size≤140737488355328)(w:World):
  Calls Tryz.prog 81 #[.string s,.int .i64 most,.bool true] w fun e w'=>e=.returned (.bool (made nam most (B s)))∧w=w':=by
 have e:wch true=nam:=funext wch_t;have h:=word s most true hs w;rwa [e]at h
theorem refNum_ge (l:List UInt8)(_h:l.length≤140737488355328):-1≤refNum l∧refNum l≤999999999:=by
 exact refNum_bound l
theorem val_c_e (b:Nat)(vl:ByteArray)(rated:Bool)(hs:vl.size≤140737488355328)(nm r0 t0:Value)(w:World)(hv0:vl.toList.isEmpty=true)
  (hS:Sits w b 85 #[nm,.int .u8 0,.int .i64 0,.string ⟨#[]⟩,r0,t0]):
  Calls Tryz.prog 83 #[.pointer (some ⟨b,0,none⟩),.string vl,.string ⟨#[99]⟩,.bool rated] w fun e w'=>e=.returned (.bool (decide (0≤refNum (B vl))))∧But b w w'∧Sits w' b 85 #[nm,.int .u8 99,.int .i64 (refNum (B vl)),.string ⟨#[]⟩,r0,t0]:=by
 have HS:=hide hS;obtain⟨c0,c1,c2,c3,c4,c5⟩:=cells6 hS;obtain⟨z0,z1,z2,z3,z4,z5⟩:=frozen6 hS;clear hS;have hn:∀w,Calls Tryz.prog 82 #[.string vl] w fun e w'=>e=.returned (.int .i64 (refNum (B vl)))∧w=w':=fun w=>by
  skip
  exact number vl hs w
 have HN:=hide hn;have hb:=refNum_ge (B vl) (by first|(rw[←size_B];omega)|(rw[uA,←size_B];omega));clear hn;generalize refNum (B vl)=v at HN hb ⊢;go_enter Tryz.func83,Tryz.ntmps83
 go_wp2_with (go_at_call 82;refine(HN.out _).mono ?_;rintro e w' ⟨rfl,rfl⟩)
 all_goals go_ret
 all_goals refine⟨ret_b ?_,((But.refl _ _).set 2 _).set 1 _,((HS.out).set 2 _).set 1 _⟩
 all_goals first|(simp_all;done)|(cases rated<;>simp_all<;>omega)
theorem val_g_e (b:Nat)(vl:ByteArray)(rated:Bool)(hs:vl.size≤140737488355328)(nm r0 t0:Value)(w:World)(hv0:vl.toList.isEmpty=true)
  (hS:Sits w b 85 #[nm,.int .u8 0,.int .i64 0,.string ⟨#[]⟩,r0,t0]):
  Calls Tryz.prog 83 #[.pointer (some ⟨b,0,none⟩),.string vl,.string ⟨#[103]⟩,.bool rated] w fun e w'=>e=.returned (.bool ((decide (0≤refNum (B vl))&&!rated)))∧But b w w'∧Sits w' b 85 #[nm,.int .u8 103,.int .i64 (refNum (B vl)),.string ⟨#[]⟩,r0,t0]:=by
 have HS:=hide hS;obtain⟨c0,c1,c2,c3,c4,c5⟩:=cells6 hS;obtain⟨z0,z1,z2,z3,z4,z5⟩:=frozen6 hS;clear hS;have hn:∀w,Calls Tryz.prog 82 #[.string vl] w fun e w'=>e=.returned (.int .i64 (refNum (B vl)))∧w=w':=fun w=>by
  skip
  exact number vl hs w
 have HN:=hide hn;have hb:=refNum_ge (B vl) (by first|(rw[←size_B];omega)|(rw[uA,←size_B];omega));clear hn;generalize refNum (B vl)=v at HN hb ⊢;go_enter Tryz.func83,Tryz.ntmps83
 go_wp2_with (go_at_call 82;refine(HN.out _).mono ?_;rintro e w' ⟨rfl,rfl⟩)
 all_goals go_ret
 all_goals refine⟨ret_b ?_,((But.refl _ _).set 2 _).set 1 _,((HS.out).set 2 _).set 1 _⟩
 all_goals first|(simp_all;done)|(cases rated<;>simp_all<;>omega)
theorem val_s_e (b:Nat)(vl:ByteArray)(rated:Bool)(hs:vl.size≤140737488355328)(nm r0 t0:Value)(w:World)(hv0:vl.toList.isEmpty=true)
  (hS:Sits w b 85 #[nm,.int .u8 0,.int .i64 0,.string ⟨#[]⟩,r0,t0]):
  Calls Tryz.prog 83 #[.pointer (some ⟨b,0,none⟩),.string vl,.string ⟨#[115]⟩,.bool rated] w fun e w'=>e=.returned (.bool ((made let_ 16 (B vl)&&!rated)))∧But b w w'∧Sits w' b 85 #[nm,.int .u8 115,.int .i64 (0),.string vl,r0,t0]:=by
 have HS:=hide hS;obtain⟨c0,c1,c2,c3,c4,c5⟩:=cells6 hS;obtain⟨z0,z1,z2,z3,z4,z5⟩:=frozen6 hS;clear hS;have hn:∀w,Calls Tryz.prog 82 #[.string vl] w fun e w'=>e=.returned (.int .i64 (refNum (B vl)))∧w=w':=fun w=>by
  skip
  exact number vl hs w
 have HN:=hide hn;have hb:=refNum_ge (B vl) (by first|(rw[←size_B];omega)|(rw[uA,←size_B];omega));clear hn;generalize refNum (B vl)=v at HN hb ⊢;go_enter Tryz.func83,Tryz.ntmps83
 go_wp2_with (first|(go_at_call 82;refine(HN.out _).mono ?_;rintro e w' ⟨rfl,rfl⟩)|(go_at_call 81;refine(word_f vl 16 (by omega) _).mono ?_;rintro e w' ⟨rfl,rfl⟩))
 all_goals go_ret
 all_goals refine⟨ret_b ?_,((((But.refl _ _).set 2 _).set 1 _).set 3 _).set 2 _,((((HS.out).set 2 _).set 1 _).set 3 _).set 2 _⟩
 all_goals first|(simp_all;done)|(cases rated<;>simp_all<;>omega)
theorem val_ms_e (b:Nat)(vl:ByteArray)(rated:Bool)(hs:vl.size≤140737488355328)(nm r0 t0:Value)(w:World)(hv0:vl.toList.isEmpty=true)
  (hS:Sits w b 85 #[nm,.int .u8 0,.int .i64 0,.string ⟨#[]⟩,r0,t0]):
  Calls Tryz.prog 83 #[.pointer (some ⟨b,0,none⟩),.string vl,.string ⟨#[109,115]⟩,.bool rated] w fun e w'=>e=.returned (.bool (decide (0≤refNum (B vl))))∧But b w w'∧Sits w' b 85 #[nm,.int .u8 109,.int .i64 (refNum (B vl)),.string ⟨#[]⟩,r0,t0]:=by
 have HS:=hide hS;obtain⟨c0,c1,c2,c3,c4,c5⟩:=cells6 hS;obtain⟨z0,z1,z2,z3,z4,z5⟩:=frozen6 hS;clear hS;have hn:∀w,Calls Tryz.prog 82 #[.string vl] w fun e w'=>e=.returned (.int .i64 (refNum (B vl)))∧w=w':=fun w=>by
  skip
  exact number vl hs w
 have HN:=hide hn;have hb:=refNum_ge (B vl) (by first|(rw[←size_B];omega)|(rw[uA,←size_B];omega));clear hn;generalize refNum (B vl)=v at HN hb ⊢;go_enter Tryz.func83,Tryz.ntmps83
 go_wp2_with (go_at_call 82;refine(HN.out _).mono ?_;rintro e w' ⟨rfl,rfl⟩)
 all_goals go_ret
 all_goals refine⟨ret_b ?_,((But.refl _ _).set 2 _).set 1 _,((HS.out).set 2 _).set 1 _⟩
 all_goals first|(simp_all;done)|(cases rated<;>simp_all<;>omega)
theorem val_h_e (b:Nat)(vl:ByteArray)(rated:Bool)(hs:vl.size≤140737488355328)(nm r0 t0:Value)(w:World)(hv0:vl.toList.isEmpty=true)
  (hS:Sits w b 85 #[nm,.int .u8 0,.int .i64 0,.string ⟨#[]⟩,r0,t0]):
  Calls Tryz.prog 83 #[.pointer (some ⟨b,0,none⟩),.string vl,.string ⟨#[104]⟩,.bool rated] w fun e w'=>e=.returned (.bool (decide (0≤refNum (B vl))))∧But b w w'∧Sits w' b 85 #[nm,.int .u8 109,.int .i64 (refNum (B vl)),.string ⟨#[]⟩,r0,t0]:=by
 have HS:=hide hS;obtain⟨c0,c1,c2,c3,c4,c5⟩:=cells6 hS;obtain⟨z0,z1,z2,z3,z4,z5⟩:=frozen6 hS;clear hS;have hn:∀w,Calls Tryz.prog 82 #[.string vl] w fun e w'=>e=.returned (.int .i64 (refNum (B vl)))∧w=w':=fun w=>by
  skip
  exact number vl hs w
 have HN:=hide hn;have hb:=refNum_ge (B vl) (by first|(rw[←size_B];omega)|(rw[uA,←size_B];omega));clear hn;generalize refNum (B vl)=v at HN hb ⊢;go_enter Tryz.func83,Tryz.ntmps83
 go_wp2_with (go_at_call 82;refine(HN.out _).mono ?_;rintro e w' ⟨rfl,rfl⟩)
 all_goals go_ret
 all_goals refine⟨ret_b ?_,((But.refl _ _).set 2 _).set 1 _,((HS.out).set 2 _).set 1 _⟩
 all_goals first|(simp_all;done)|(cases rated<;>simp_all<;>omega)
theorem val_c_m (b:Nat)(vl:ByteArray)(rated:Bool)(hs:vl.size≤140737488355328)(nm r0 t0:Value)(w:World)(hv0:vl.toList.isEmpty=false)(hvz:0<vl.size)(hv1:(vl[0].toNat:Int)=45)
  (hS:Sits w b 85 #[nm,.int .u8 0,.int .i64 0,.string ⟨#[]⟩,r0,t0]):
  Calls Tryz.prog 83 #[.pointer (some ⟨b,0,none⟩),.string vl,.string ⟨#[99]⟩,.bool rated] w fun e w'=>e=.returned (.bool (decide (0≤refNum ((B vl).drop 1))))∧But b w w'∧Sits w' b 85 #[nm,.int .u8 99,.int .i64 (-(refNum ((B vl).drop 1))),.string ⟨#[]⟩,r0,t0]:=by
 have HS:=hide hS;obtain⟨c0,c1,c2,c3,c4,c5⟩:=cells6 hS;obtain⟨z0,z1,z2,z3,z4,z5⟩:=frozen6 hS;clear hS;have e1:B (vl.extract 1 vl.size)=(B vl).drop 1:=by
  rw[B_extract,uB];rw[uA,size_B];exact uC _
 have hv3:((vl[0].toNat:Int)==45)=true:=by rw[hv1];rfl
 have hv4:((vl[0].toNat:Int)==43)=false:=by rw[hv1];rfl
 have hn:∀w,Calls Tryz.prog 82 #[.string (vl.extract 1 vl.size)] w fun e w'=>e=.returned (.int .i64 (refNum ((B vl).drop 1)))∧w=w':=fun w=>by
  rw[←e1];exact number (vl.extract 1 vl.size) (by rw[ByteArray.size_extract];omega) w
 have HN:=hide hn;have hb:=refNum_ge ((B vl).drop 1) (by first|(rw[←size_B];omega)|(rw[uA,←size_B];omega));clear hn e1 hv1;generalize refNum ((B vl).drop 1)=v at HN hb ⊢;go_enter Tryz.func83,Tryz.ntmps83
 go_wp2_with (go_at_call 82;refine(HN.out _).mono ?_;rintro e w' ⟨rfl,rfl⟩)
 all_goals go_ret
 all_goals refine⟨ret_b ?_,(((But.refl _ _).set 2 _).set 2 _).set 1 _,(((HS.out).set 2 _).set 2 _).set 1 _⟩
 all_goals first|(simp_all;done)|(cases rated<;>simp_all<;>omega)
theorem val_g_m (b:Nat)(vl:ByteArray)(rated:Bool)(hs:vl.size≤140737488355328)(nm r0 t0:Value)(w:World)(hv0:vl.toList.isEmpty=false)(hvz:0<vl.size)(hv1:(vl[0].toNat:Int)=45)
  (hS:Sits w b 85 #[nm,.int .u8 0,.int .i64 0,.string ⟨#[]⟩,r0,t0]):
  Calls Tryz.prog 83 #[.pointer (some ⟨b,0,none⟩),.string vl,.string ⟨#[103]⟩,.bool rated] w fun e w'=>e=.returned (.bool ((decide (0≤refNum ((B vl).drop 1))&&!rated)))∧But b w w'∧Sits w' b 85 #[nm,.int .u8 100,.int .i64 (-(refNum ((B vl).drop 1))),.string ⟨#[]⟩,r0,t0]:=by
 have HS:=hide hS;obtain⟨c0,c1,c2,c3,c4,c5⟩:=cells6 hS;obtain⟨z0,z1,z2,z3,z4,z5⟩:=frozen6 hS;clear hS;have e1:B (vl.extract 1 vl.size)=(B vl).drop 1:=by
  rw[B_extract,uB];rw[uA,size_B];exact uC _
 have hv3:((vl[0].toNat:Int)==45)=true:=by rw[hv1];rfl
 have hv4:((vl[0].toNat:Int)==43)=false:=by rw[hv1];rfl
 have hn:∀w,Calls Tryz.prog 82 #[.string (vl.extract 1 vl.size)] w fun e w'=>e=.returned (.int .i64 (refNum ((B vl).drop 1)))∧w=w':=fun w=>by
  rw[←e1];exact number (vl.extract 1 vl.size) (by rw[ByteArray.size_extract];omega) w
 have HN:=hide hn;have hb:=refNum_ge ((B vl).drop 1) (by first|(rw[←size_B];omega)|(rw[uA,←size_B];omega));clear hn e1 hv1;generalize refNum ((B vl).drop 1)=v at HN hb ⊢;go_enter Tryz.func83,Tryz.ntmps83
 go_wp2_with (go_at_call 82;refine(HN.out _).mono ?_;rintro e w' ⟨rfl,rfl⟩)
 all_goals go_ret
 all_goals refine⟨ret_b ?_,((((But.refl _ _).set 2 _).set 2 _).set 1 _).set 1 _,((((HS.out).set 2 _).set 2 _).set 1 _).set 1 _⟩
 all_goals first|(simp_all;done)|(cases rated<;>simp_all<;>omega)
theorem val_s_m (b:Nat)(vl:ByteArray)(rated:Bool)(hs:vl.size≤140737488355328)(nm r0 t0:Value)(w:World)(hv0:vl.toList.isEmpty=false)(hvz:0<vl.size)(hv1:(vl[0].toNat:Int)=45)
  (hS:Sits w b 85 #[nm,.int .u8 0,.int .i64 0,.string ⟨#[]⟩,r0,t0]):
  Calls Tryz.prog 83 #[.pointer (some ⟨b,0,none⟩),.string vl,.string ⟨#[115]⟩,.bool rated] w fun e w'=>e=.returned (.bool ((made let_ 16 (B vl)&&!rated)))∧But b w w'∧Sits w' b 85 #[nm,.int .u8 115,.int .i64 (0),.string vl,r0,t0]:=by
 have HS:=hide hS;obtain⟨c0,c1,c2,c3,c4,c5⟩:=cells6 hS;obtain⟨z0,z1,z2,z3,z4,z5⟩:=frozen6 hS;clear hS;have e1:B (vl.extract 1 vl.size)=(B vl).drop 1:=by
  rw[B_extract,uB];rw[uA,size_B];exact uC _
 have hv3:((vl[0].toNat:Int)==45)=true:=by rw[hv1];rfl
 have hv4:((vl[0].toNat:Int)==43)=false:=by rw[hv1];rfl
 have hn:∀w,Calls Tryz.prog 82 #[.string (vl.extract 1 vl.size)] w fun e w'=>e=.returned (.int .i64 (refNum ((B vl).drop 1)))∧w=w':=fun w=>by
  rw[←e1];exact number (vl.extract 1 vl.size) (by rw[ByteArray.size_extract];omega) w
 have HN:=hide hn;have hb:=refNum_ge ((B vl).drop 1) (by first|(rw[←size_B];omega)|(rw[uA,←size_B];omega));clear hn e1 hv1;generalize refNum ((B vl).drop 1)=v at HN hb ⊢;go_enter Tryz.func83,Tryz.ntmps83
 go_wp2_with (first|(go_at_call 82;refine(HN.out _).mono ?_;rintro e w' ⟨rfl,rfl⟩)|(go_at_call 81;refine(word_f vl 16 (by omega) _).mono ?_;rintro e w' ⟨rfl,rfl⟩))
 all_goals go_ret
 all_goals refine⟨ret_b ?_,(((((But.refl _ _).set 2 _).set 2 _).set 1 _).set 3 _).set 2 _,(((((HS.out).set 2 _).set 2 _).set 1 _).set 3 _).set 2 _⟩
 all_goals first|(simp_all;done)|(cases rated<;>simp_all<;>omega)
theorem val_ms_m (b:Nat)(vl:ByteArray)(rated:Bool)(hs:vl.size≤140737488355328)(nm r0 t0:Value)(w:World)(hv0:vl.toList.isEmpty=false)(hvz:0<vl.size)(hv1:(vl[0].toNat:Int)=45)
  (hS:Sits w b 85 #[nm,.int .u8 0,.int .i64 0,.string ⟨#[]⟩,r0,t0]):
  Calls Tryz.prog 83 #[.pointer (some ⟨b,0,none⟩),.string vl,.string ⟨#[109,115]⟩,.bool rated] w fun e w'=>e=.returned (.bool (false))∧But b w w'∧Sits w' b 85 #[nm,.int .u8 109,.int .i64 (-(refNum ((B vl).drop 1))),.string ⟨#[]⟩,r0,t0]:=by
 have HS:=hide hS;obtain⟨c0,c1,c2,c3,c4,c5⟩:=cells6 hS;obtain⟨z0,z1,z2,z3,z4,z5⟩:=frozen6 hS;clear hS;have e1:B (vl.extract 1 vl.size)=(B vl).drop 1:=by
  rw[B_extract,uB];rw[uA,size_B];exact uC _
 have hv3:((vl[0].toNat:Int)==45)=true:=by rw[hv1];rfl
 have hv4:((vl[0].toNat:Int)==43)=false:=by rw[hv1];rfl
 have hn:∀w,Calls Tryz.prog 82 #[.string (vl.extract 1 vl.size)] w fun e w'=>e=.returned (.int .i64 (refNum ((B vl).drop 1)))∧w=w':=fun w=>by
  rw[←e1];exact number (vl.extract 1 vl.size) (by rw[ByteArray.size_extract];omega) w
 have HN:=hide hn;have hb:=refNum_ge ((B vl).drop 1) (by first|(rw[←size_B];omega)|(rw[uA,←size_B];omega));clear hn e1 hv1;generalize refNum ((B vl).drop 1)=v at HN hb ⊢;go_enter Tryz.func83,Tryz.ntmps83
 go_wp2_with (go_at_call 82;refine(HN.out _).mono ?_;rintro e w' ⟨rfl,rfl⟩)
 all_goals go_ret
 all_goals refine⟨ret_b ?_,(((But.refl _ _).set 2 _).set 2 _).set 1 _,(((HS.out).set 2 _).set 2 _).set 1 _⟩
 all_goals first|(simp_all;done)|(cases rated<;>simp_all<;>omega)
theorem val_h_m (b:Nat)(vl:ByteArray)(rated:Bool)(hs:vl.size≤140737488355328)(nm r0 t0:Value)(w:World)(hv0:vl.toList.isEmpty=false)(hvz:0<vl.size)(hv1:(vl[0].toNat:Int)=45)
  (hS:Sits w b 85 #[nm,.int .u8 0,.int .i64 0,.string ⟨#[]⟩,r0,t0]):
  Calls Tryz.prog 83 #[.pointer (some ⟨b,0,none⟩),.string vl,.string ⟨#[104]⟩,.bool rated] w fun e w'=>e=.returned (.bool (false))∧But b w w'∧Sits w' b 85 #[nm,.int .u8 109,.int .i64 (-(refNum ((B vl).drop 1))),.string ⟨#[]⟩,r0,t0]:=by
 have HS:=hide hS;obtain⟨c0,c1,c2,c3,c4,c5⟩:=cells6 hS;obtain⟨z0,z1,z2,z3,z4,z5⟩:=frozen6 hS;clear hS;have e1:B (vl.extract 1 vl.size)=(B vl).drop 1:=by
  rw[B_extract,uB];rw[uA,size_B];exact uC _
 have hv3:((vl[0].toNat:Int)==45)=true:=by rw[hv1];rfl
 have hv4:((vl[0].toNat:Int)==43)=false:=by rw[hv1];rfl
 have hn:∀w,Calls Tryz.prog 82 #[.string (vl.extract 1 vl.size)] w fun e w'=>e=.returned (.int .i64 (refNum ((B vl).drop 1)))∧w=w':=fun w=>by
  rw[←e1];exact number (vl.extract 1 vl.size) (by rw[ByteArray.size_extract];omega) w
 have HN:=hide hn;have hb:=refNum_ge ((B vl).drop 1) (by first|(rw[←size_B];omega)|(rw[uA,←size_B];omega));clear hn e1 hv1;generalize refNum ((B vl).drop 1)=v at HN hb ⊢;go_enter Tryz.func83,Tryz.ntmps83
 go_wp2_with (go_at_call 82;refine(HN.out _).mono ?_;rintro e w' ⟨rfl,rfl⟩)
 all_goals go_ret
 all_goals refine⟨ret_b ?_,(((But.refl _ _).set 2 _).set 2 _).set 1 _,(((HS.out).set 2 _).set 2 _).set 1 _⟩
 all_goals first|(simp_all;done)|(cases rated<;>simp_all<;>omega)
theorem val_c_p (b:Nat)(vl:ByteArray)(rated:Bool)(hs:vl.size≤140737488355328)(nm r0 t0:Value)(w:World)(hv0:vl.toList.isEmpty=false)(hvz:0<vl.size)(hv1:(vl[0].toNat:Int)=43)
  (hS:Sits w b 85 #[nm,.int .u8 0,.int .i64 0,.string ⟨#[]⟩,r0,t0]):
  Calls Tryz.prog 83 #[.pointer (some ⟨b,0,none⟩),.string vl,.string ⟨#[99]⟩,.bool rated] w fun e w'=>e=.returned (.bool (false))∧But b w w'∧Sits w' b 85 #[nm,.int .u8 99,.int .i64 (refNum ((B vl).drop 1)),.string ⟨#[]⟩,r0,t0]:=by
 have HS:=hide hS;obtain⟨c0,c1,c2,c3,c4,c5⟩:=cells6 hS;obtain⟨z0,z1,z2,z3,z4,z5⟩:=frozen6 hS;clear hS;have e1:B (vl.extract 1 vl.size)=(B vl).drop 1:=by
  rw[B_extract,uB];rw[uA,size_B];exact uC _
 have hv3:((vl[0].toNat:Int)==45)=false:=by rw[hv1];rfl
 have hv4:((vl[0].toNat:Int)==43)=true:=by rw[hv1];rfl
 have hn:∀w,Calls Tryz.prog 82 #[.string (vl.extract 1 vl.size)] w fun e w'=>e=.returned (.int .i64 (refNum ((B vl).drop 1)))∧w=w':=fun w=>by
  rw[←e1];exact number (vl.extract 1 vl.size) (by rw[ByteArray.size_extract];omega) w
 have HN:=hide hn;have hb:=refNum_ge ((B vl).drop 1) (by first|(rw[←size_B];omega)|(rw[uA,←size_B];omega));clear hn e1 hv1;generalize refNum ((B vl).drop 1)=v at HN hb ⊢;go_enter Tryz.func83,Tryz.ntmps83
 go_wp2_with (go_at_call 82;refine(HN.out _).mono ?_;rintro e w' ⟨rfl,rfl⟩)
 all_goals go_ret
 all_goals refine⟨ret_b ?_,((But.refl _ _).set 2 _).set 1 _,((HS.out).set 2 _).set 1 _⟩
 all_goals first|(simp_all;done)|(cases rated<;>simp_all<;>omega)
theorem val_g_p (b:Nat)(vl:ByteArray)(rated:Bool)(hs:vl.size≤140737488355328)(nm r0 t0:Value)(w:World)(hv0:vl.toList.isEmpty=false)(hvz:0<vl.size)(hv1:(vl[0].toNat:Int)=43)
  (hS:Sits w b 85 #[nm,.int .u8 0,.int .i64 0,.string ⟨#[]⟩,r0,t0]):
  Calls Tryz.prog 83 #[.pointer (some ⟨b,0,none⟩),.string vl,.string ⟨#[103]⟩,.bool rated] w fun e w'=>e=.returned (.bool ((decide (0≤refNum ((B vl).drop 1))&&!rated)))∧But b w w'∧Sits w' b 85 #[nm,.int .u8 100,.int .i64 (refNum ((B vl).drop 1)),.string ⟨#[]⟩,r0,t0]:=by
 have HS:=hide hS;obtain⟨c0,c1,c2,c3,c4,c5⟩:=cells6 hS;obtain⟨z0,z1,z2,z3,z4,z5⟩:=frozen6 hS;clear hS;have e1:B (vl.extract 1 vl.size)=(B vl).drop 1:=by
  rw[B_extract,uB];rw[uA,size_B];exact uC _
 have hv3:((vl[0].toNat:Int)==45)=false:=by rw[hv1];rfl
 have hv4:((vl[0].toNat:Int)==43)=true:=by rw[hv1];rfl
 have hn:∀w,Calls Tryz.prog 82 #[.string (vl.extract 1 vl.size)] w fun e w'=>e=.returned (.int .i64 (refNum ((B vl).drop 1)))∧w=w':=fun w=>by
  rw[←e1];exact number (vl.extract 1 vl.size) (by rw[ByteArray.size_extract];omega) w
 have HN:=hide hn;have hb:=refNum_ge ((B vl).drop 1) (by first|(rw[←size_B];omega)|(rw[uA,←size_B];omega));clear hn e1 hv1;generalize refNum ((B vl).drop 1)=v at HN hb ⊢;go_enter Tryz.func83,Tryz.ntmps83
 go_wp2_with (go_at_call 82;refine(HN.out _).mono ?_;rintro e w' ⟨rfl,rfl⟩)
 all_goals go_ret
 all_goals refine⟨ret_b ?_,(((But.refl _ _).set 2 _).set 1 _).set 1 _,(((HS.out).set 2 _).set 1 _).set 1 _⟩
 all_goals first|(simp_all;done)|(cases rated<;>simp_all<;>omega)
theorem val_s_p (b:Nat)(vl:ByteArray)(rated:Bool)(hs:vl.size≤140737488355328)(nm r0 t0:Value)(w:World)(hv0:vl.toList.isEmpty=false)(hvz:0<vl.size)(hv1:(vl[0].toNat:Int)=43)
  (hS:Sits w b 85 #[nm,.int .u8 0,.int .i64 0,.string ⟨#[]⟩,r0,t0]):
  Calls Tryz.prog 83 #[.pointer (some ⟨b,0,none⟩),.string vl,.string ⟨#[115]⟩,.bool rated] w fun e w'=>e=.returned (.bool ((made let_ 16 (B vl)&&!rated)))∧But b w w'∧Sits w' b 85 #[nm,.int .u8 115,.int .i64 (0),.string vl,r0,t0]:=by
 have HS:=hide hS;obtain⟨c0,c1,c2,c3,c4,c5⟩:=cells6 hS;obtain⟨z0,z1,z2,z3,z4,z5⟩:=frozen6 hS;clear hS;have e1:B (vl.extract 1 vl.size)=(B vl).drop 1:=by
  rw[B_extract,uB];rw[uA,size_B];exact uC _
 have hv3:((vl[0].toNat:Int)==45)=false:=by rw[hv1];rfl
 have hv4:((vl[0].toNat:Int)==43)=true:=by rw[hv1];rfl
 have hn:∀w,Calls Tryz.prog 82 #[.string (vl.extract 1 vl.size)] w fun e w'=>e=.returned (.int .i64 (refNum ((B vl).drop 1)))∧w=w':=fun w=>by
  rw[←e1];exact number (vl.extract 1 vl.size) (by rw[ByteArray.size_extract];omega) w
 have HN:=hide hn;have hb:=refNum_ge ((B vl).drop 1) (by first|(rw[←size_B];omega)|(rw[uA,←size_B];omega));clear hn e1 hv1;generalize refNum ((B vl).drop 1)=v at HN hb ⊢;go_enter Tryz.func83,Tryz.ntmps83
 go_wp2_with (first|(go_at_call 82;refine(HN.out _).mono ?_;rintro e w' ⟨rfl,rfl⟩)|(go_at_call 81;refine(word_f vl 16 (by omega) _).mono ?_;rintro e w' ⟨rfl,rfl⟩))
 all_goals go_ret
 all_goals refine⟨ret_b ?_,((((But.refl _ _).set 2 _).set 1 _).set 3 _).set 2 _,((((HS.out).set 2 _).set 1 _).set 3 _).set 2 _⟩
 all_goals first|(simp_all;done)|(cases rated<;>simp_all<;>omega)
theorem val_ms_p (b:Nat)(vl:ByteArray)(rated:Bool)(hs:vl.size≤140737488355328)(nm r0 t0:Value)(w:World)(hv0:vl.toList.isEmpty=false)(hvz:0<vl.size)(hv1:(vl[0].toNat:Int)=43)
  (hS:Sits w b 85 #[nm,.int .u8 0,.int .i64 0,.string ⟨#[]⟩,r0,t0]):
  Calls Tryz.prog 83 #[.pointer (some ⟨b,0,none⟩),.string vl,.string ⟨#[109,115]⟩,.bool rated] w fun e w'=>e=.returned (.bool (false))∧But b w w'∧Sits w' b 85 #[nm,.int .u8 109,.int .i64 (refNum ((B vl).drop 1)),.string ⟨#[]⟩,r0,t0]:=by
 have HS:=hide hS;obtain⟨c0,c1,c2,c3,c4,c5⟩:=cells6 hS;obtain⟨z0,z1,z2,z3,z4,z5⟩:=frozen6 hS;clear hS;have e1:B (vl.extract 1 vl.size)=(B vl).drop 1:=by
  rw[B_extract,uB];rw[uA,size_B];exact uC _
 have hv3:((vl[0].toNat:Int)==45)=false:=by rw[hv1];rfl
 have hv4:((vl[0].toNat:Int)==43)=true:=by rw[hv1];rfl
 have hn:∀w,Calls Tryz.prog 82 #[.string (vl.extract 1 vl.size)] w fun e w'=>e=.returned (.int .i64 (refNum ((B vl).drop 1)))∧w=w':=fun w=>by
  rw[←e1];exact number (vl.extract 1 vl.size) (by rw[ByteArray.size_extract];omega) w
 have HN:=hide hn;have hb:=refNum_ge ((B vl).drop 1) (by first|(rw[←size_B];omega)|(rw[uA,←size_B];omega));clear hn e1 hv1;generalize refNum ((B vl).drop 1)=v at HN hb ⊢;go_enter Tryz.func83,Tryz.ntmps83
 go_wp2_with (go_at_call 82;refine(HN.out _).mono ?_;rintro e w' ⟨rfl,rfl⟩)
 all_goals go_ret
 all_goals refine⟨ret_b ?_,((But.refl _ _).set 2 _).set 1 _,((HS.out).set 2 _).set 1 _⟩
 all_goals first|(simp_all;done)|(cases rated<;>simp_all<;>omega)
theorem val_h_p (b:Nat)(vl:ByteArray)(rated:Bool)(hs:vl.size≤140737488355328)(nm r0 t0:Value)(w:World)(hv0:vl.toList.isEmpty=false)(hvz:0<vl.size)(hv1:(vl[0].toNat:Int)=43)
  (hS:Sits w b 85 #[nm,.int .u8 0,.int .i64 0,.string ⟨#[]⟩,r0,t0]):
  Calls Tryz.prog 83 #[.pointer (some ⟨b,0,none⟩),.string vl,.string ⟨#[104]⟩,.bool rated] w fun e w'=>e=.returned (.bool (false))∧But b w w'∧Sits w' b 85 #[nm,.int .u8 109,.int .i64 (refNum ((B vl).drop 1)),.string ⟨#[]⟩,r0,t0]:=by
 have HS:=hide hS;obtain⟨c0,c1,c2,c3,c4,c5⟩:=cells6 hS;obtain⟨z0,z1,z2,z3,z4,z5⟩:=frozen6 hS;clear hS;have e1:B (vl.extract 1 vl.size)=(B vl).drop 1:=by
  rw[B_extract,uB];rw[uA,size_B];exact uC _
 have hv3:((vl[0].toNat:Int)==45)=false:=by rw[hv1];rfl
 have hv4:((vl[0].toNat:Int)==43)=true:=by rw[hv1];rfl
 have hn:∀w,Calls Tryz.prog 82 #[.string (vl.extract 1 vl.size)] w fun e w'=>e=.returned (.int .i64 (refNum ((B vl).drop 1)))∧w=w':=fun w=>by
  rw[←e1];exact number (vl.extract 1 vl.size) (by rw[ByteArray.size_extract];omega) w
 have HN:=hide hn;have hb:=refNum_ge ((B vl).drop 1) (by first|(rw[←size_B];omega)|(rw[uA,←size_B];omega));clear hn e1 hv1;generalize refNum ((B vl).drop 1)=v at HN hb ⊢;go_enter Tryz.func83,Tryz.ntmps83
 go_wp2_with (go_at_call 82;refine(HN.out _).mono ?_;rintro e w' ⟨rfl,rfl⟩)
 all_goals go_ret
 all_goals refine⟨ret_b ?_,((But.refl _ _).set 2 _).set 1 _,((HS.out).set 2 _).set 1 _⟩
 all_goals first|(simp_all;done)|(cases rated<;>simp_all<;>omega)
theorem val_c_o (b:Nat)(vl:ByteArray)(rated:Bool)(hs:vl.size≤140737488355328)(nm r0 t0:Value)(w:World)(hv0:vl.toList.isEmpty=false)(hvz:0<vl.size)(hv1:((vl[0].toNat:Int)==45)=false)(hv2:((vl[0].toNat:Int)==43)=false)
  (hS:Sits w b 85 #[nm,.int .u8 0,.int .i64 0,.string ⟨#[]⟩,r0,t0]):
  Calls Tryz.prog 83 #[.pointer (some ⟨b,0,none⟩),.string vl,.string ⟨#[99]⟩,.bool rated] w fun e w'=>e=.returned (.bool (decide (0≤refNum (B vl))))∧But b w w'∧Sits w' b 85 #[nm,.int .u8 99,.int .i64 (refNum (B vl)),.string ⟨#[]⟩,r0,t0]:=by
 have HS:=hide hS;obtain⟨c0,c1,c2,c3,c4,c5⟩:=cells6 hS;obtain⟨z0,z1,z2,z3,z4,z5⟩:=frozen6 hS;clear hS;have hn:∀w,Calls Tryz.prog 82 #[.string vl] w fun e w'=>e=.returned (.int .i64 (refNum (B vl)))∧w=w':=fun w=>by
  skip
  exact number vl hs w
 have HN:=hide hn;have hb:=refNum_ge (B vl) (by first|(rw[←size_B];omega)|(rw[uA,←size_B];omega));clear hn;generalize refNum (B vl)=v at HN hb ⊢;go_enter Tryz.func83,Tryz.ntmps83
 go_wp2_with (go_at_call 82;refine(HN.out _).mono ?_;rintro e w' ⟨rfl,rfl⟩)
 all_goals go_ret
 all_goals refine⟨ret_b ?_,((But.refl _ _).set 2 _).set 1 _,((HS.out).set 2 _).set 1 _⟩
 all_goals first|(simp_all;done)|(cases rated<;>simp_all<;>omega)
theorem val_g_o (b:Nat)(vl:ByteArray)(rated:Bool)(hs:vl.size≤140737488355328)(nm r0 t0:Value)(w:World)(hv0:vl.toList.isEmpty=false)(hvz:0<vl.size)(hv1:((vl[0].toNat:Int)==45)=false)(hv2:((vl[0].toNat:Int)==43)=false)
  (hS:Sits w b 85 #[nm,.int .u8 0,.int .i64 0,.string ⟨#[]⟩,r0,t0]):
  Calls Tryz.prog 83 #[.pointer (some ⟨b,0,none⟩),.string vl,.string ⟨#[103]⟩,.bool rated] w fun e w'=>e=.returned (.bool ((decide (0≤refNum (B vl))&&!rated)))∧But b w w'∧Sits w' b 85 #[nm,.int .u8 103,.int .i64 (refNum (B vl)),.string ⟨#[]⟩,r0,t0]:=by
 have HS:=hide hS;obtain⟨c0,c1,c2,c3,c4,c5⟩:=cells6 hS;obtain⟨z0,z1,z2,z3,z4,z5⟩:=frozen6 hS;clear hS;have hn:∀w,Calls Tryz.prog 82 #[.string vl] w fun e w'=>e=.returned (.int .i64 (refNum (B vl)))∧w=w':=fun w=>by
  skip
  exact number vl hs w
 have HN:=hide hn;have hb:=refNum_ge (B vl) (by first|(rw[←size_B];omega)|(rw[uA,←size_B];omega));clear hn;generalize refNum (B vl)=v at HN hb ⊢;go_enter Tryz.func83,Tryz.ntmps83
 go_wp2_with (go_at_call 82;refine(HN.out _).mono ?_;rintro e w' ⟨rfl,rfl⟩)
 all_goals go_ret
 all_goals refine⟨ret_b ?_,((But.refl _ _).set 2 _).set 1 _,((HS.out).set 2 _).set 1 _⟩
 all_goals first|(simp_all;done)|(cases rated<;>simp_all<;>omega)
theorem val_s_o (b:Nat)(vl:ByteArray)(rated:Bool)(hs:vl.size≤140737488355328)(nm r0 t0:Value)(w:World)(hv0:vl.toList.isEmpty=false)(hvz:0<vl.size)(hv1:((vl[0].toNat:Int)==45)=false)(hv2:((vl[0].toNat:Int)==43)=false)
  (hS:Sits w b 85 #[nm,.int .u8 0,.int .i64 0,.string ⟨#[]⟩,r0,t0]):
  Calls Tryz.prog 83 #[.pointer (some ⟨b,0,none⟩),.string vl,.string ⟨#[115]⟩,.bool rated] w fun e w'=>e=.returned (.bool ((made let_ 16 (B vl)&&!rated)))∧But b w w'∧Sits w' b 85 #[nm,.int .u8 115,.int .i64 (0),.string vl,r0,t0]:=by
 have HS:=hide hS;obtain⟨c0,c1,c2,c3,c4,c5⟩:=cells6 hS;obtain⟨z0,z1,z2,z3,z4,z5⟩:=frozen6 hS;clear hS;have hn:∀w,Calls Tryz.prog 82 #[.string vl] w fun e w'=>e=.returned (.int .i64 (refNum (B vl)))∧w=w':=fun w=>by
  skip
  exact number vl hs w
 have HN:=hide hn;have hb:=refNum_ge (B vl) (by first|(rw[←size_B];omega)|(rw[uA,←size_B];omega));clear hn;generalize refNum (B vl)=v at HN hb ⊢;go_enter Tryz.func83,Tryz.ntmps83
 go_wp2_with (first|(go_at_call 82;refine(HN.out _).mono ?_;rintro e w' ⟨rfl,rfl⟩)|(go_at_call 81;refine(word_f vl 16 (by omega) _).mono ?_;rintro e w' ⟨rfl,rfl⟩))
 all_goals go_ret
 all_goals refine⟨ret_b ?_,((((But.refl _ _).set 2 _).set 1 _).set 3 _).set 2 _,((((HS.out).set 2 _).set 1 _).set 3 _).set 2 _⟩
 all_goals first|(simp_all;done)|(cases rated<;>simp_all<;>omega)
theorem val_ms_o (b:Nat)(vl:ByteArray)(rated:Bool)(hs:vl.size≤140737488355328)(nm r0 t0:Value)(w:World)(hv0:vl.toList.isEmpty=false)(hvz:0<vl.size)(hv1:((vl[0].toNat:Int)==45)=false)(hv2:((vl[0].toNat:Int)==43)=false)
  (hS:Sits w b 85 #[nm,.int .u8 0,.int .i64 0,.string ⟨#[]⟩,r0,t0]):
  Calls Tryz.prog 83 #[.pointer (some ⟨b,0,none⟩),.string vl,.string ⟨#[109,115]⟩,.bool rated] w fun e w'=>e=.returned (.bool (decide (0≤refNum (B vl))))∧But b w w'∧Sits w' b 85 #[nm,.int .u8 109,.int .i64 (refNum (B vl)),.string ⟨#[]⟩,r0,t0]:=by
 have HS:=hide hS;obtain⟨c0,c1,c2,c3,c4,c5⟩:=cells6 hS;obtain⟨z0,z1,z2,z3,z4,z5⟩:=frozen6 hS;clear hS;have hn:∀w,Calls Tryz.prog 82 #[.string vl] w fun e w'=>e=.returned (.int .i64 (refNum (B vl)))∧w=w':=fun w=>by
  skip
  exact number vl hs w
 have HN:=hide hn;have hb:=refNum_ge (B vl) (by first|(rw[←size_B];omega)|(rw[uA,←size_B];omega));clear hn;generalize refNum (B vl)=v at HN hb ⊢;go_enter Tryz.func83,Tryz.ntmps83
 go_wp2_with (go_at_call 82;refine(HN.out _).mono ?_;rintro e w' ⟨rfl,rfl⟩)
 all_goals go_ret
 all_goals refine⟨ret_b ?_,((But.refl _ _).set 2 _).set 1 _,((HS.out).set 2 _).set 1 _⟩
 all_goals first|(simp_all;done)|(cases rated<;>simp_all<;>omega)
theorem val_h_o (b:Nat)(vl:ByteArray)(rated:Bool)(hs:vl.size≤140737488355328)(nm r0 t0:Value)(w:World)(hv0:vl.toList.isEmpty=false)(hvz:0<vl.size)(hv1:((vl[0].toNat:Int)==45)=false)(hv2:((vl[0].toNat:Int)==43)=false)
  (hS:Sits w b 85 #[nm,.int .u8 0,.int .i64 0,.string ⟨#[]⟩,r0,t0]):
  Calls Tryz.prog 83 #[.pointer (some ⟨b,0,none⟩),.string vl,.string ⟨#[104]⟩,.bool rated] w fun e w'=>e=.returned (.bool (decide (0≤refNum (B vl))))∧But b w w'∧Sits w' b 85 #[nm,.int .u8 109,.int .i64 (refNum (B vl)),.string ⟨#[]⟩,r0,t0]:=by
 have HS:=hide hS;obtain⟨c0,c1,c2,c3,c4,c5⟩:=cells6 hS;obtain⟨z0,z1,z2,z3,z4,z5⟩:=frozen6 hS;clear hS;have hn:∀w,Calls Tryz.prog 82 #[.string vl] w fun e w'=>e=.returned (.int .i64 (refNum (B vl)))∧w=w':=fun w=>by
  skip
  exact number vl hs w
 have HN:=hide hn;have hb:=refNum_ge (B vl) (by first|(rw[←size_B];omega)|(rw[uA,←size_B];omega));clear hn;generalize refNum (B vl)=v at HN hb ⊢;go_enter Tryz.func83,Tryz.ntmps83
 go_wp2_with (go_at_call 82;refine(HN.out _).mono ?_;rintro e w' ⟨rfl,rfl⟩)
 all_goals go_ret
 all_goals refine⟨ret_b ?_,((But.refl _ _).set 2 _).set 1 _,((HS.out).set 2 _).set 1 _⟩
 all_goals first|(simp_all;done)|(cases rated<;>simp_all<;>omega)
end Go.Proofs.YtenegfafjjknoaaGreatDoor.Refv
namespace Go.Proofs.YtenegfafjjknoaaGreatDoor.Refvj
open Go.RowKit Bytes Nums Refs Numw Mem Refw Refn Refv
theorem val_none (b:Nat)(vl kd:ByteArray)(rated:Bool)(hs:vl.size≤140737488355328)(nm r0 t0:Value)(w:World)(h1:(kd.toList==[99])=false)(h2:(kd.toList==[103])=false)(h3:(kd.toList==[115])=false)(h4:(kd.toList==[109,115])=false)(h5:(kd.toList==[104])=false)
  (hS:Sits w b 85 #[nm,.int .u8 0,.int .i64 0,.string ⟨#[]⟩,r0,t0]):
  Calls Tryz.prog 83 #[.pointer (some ⟨b,0,none⟩),.string vl,.string kd,.bool rated] w fun e w'=>e=.returned (.bool false)∧But b w w'∧∃v,Sits w' b 85 #[nm,.int .u8 0,.int .i64 v,.string ⟨#[]⟩,r0,t0]:=by
 have HS:=hide hS;obtain⟨c0,c1,c2,c3,c4,c5⟩:=cells6 hS;obtain⟨z0,z1,z2,z3,z4,z5⟩:=frozen6 hS;clear hS;have hn:∀(x:ByteArray) (W:World),x.size≤140737488355328→Calls Tryz.prog 82 #[.string x] W fun e w'=>(∃v,e=.returned (.int .i64 v)∧-1≤v∧v≤999999999)∧W=w':=fun x W hx=>(number x hx W).mono fun e w' h=>⟨⟨_,h.1,(refNum_bound _).1,(refNum_bound _).2⟩,h.2⟩
 have HN:=hide hn;clear hn;by_cases h0:vl.size=0
 ·have hv0:vl.toList.isEmpty=true:=by
   rw[B_nil];exact List.eq_nil_of_length_eq_zero (by rw[←size_B];exact h0)
  go_enter Tryz.func83,Tryz.ntmps83
  go_wp2_with (go_at_call 82;refine(HN.out vl _ hs).mono ?_;rintro e w' ⟨⟨v,rfl,hv1,hv2⟩,rfl⟩)
  go_ret
  exact⟨rfl,(But.refl _ _).set 2 _,v,HS.out.set 2 _⟩
 ·have hvz:0<vl.size:=by omega
  have hv0:vl.toList.isEmpty=false:=by
   cases hc:vl.toList.isEmpty with
   | false=>rfl
   | true=>
    rw[B_nil]at hc;rw[size_B,hc]at h0;exact absurd rfl h0
  by_cases hm:(vl[0].toNat:Int)=45
  ·have hm1:((vl[0].toNat:Int)==45)=true:=by simpa using hm
   have HM:=hide hm;clear hm;go_enter Tryz.func83,Tryz.ntmps83
   go_wp2_with (go_at_call 82;refine(HN.out (vl.extract 1 vl.size) _ (by rw[ByteArray.size_extract];omega)).mono ?_;rintro e w' ⟨⟨v,rfl,hv1,hv2⟩,rfl⟩)
   go_ret
   exact⟨rfl,((But.refl _ _).set 2 _).set 2 _,_,(HS.out.set 2 _).set 2 _⟩
  ·have hm1:((vl[0].toNat:Int)==45)=false:=by simpa using hm
   by_cases hp:(vl[0].toNat:Int)=43
   ·have hp1:((vl[0].toNat:Int)==43)=true:=by simpa using hp
    have HM:=hide hp;clear hp hm;go_enter Tryz.func83,Tryz.ntmps83
    go_wp2_with (go_at_call 82;refine(HN.out (vl.extract 1 vl.size) _ (by rw[ByteArray.size_extract];omega)).mono ?_;rintro e w' ⟨⟨v,rfl,hv1,hv2⟩,rfl⟩)
    go_ret
    exact⟨rfl,(But.refl _ _).set 2 _,_,HS.out.set 2 _⟩
   ·have hp1:((vl[0].toNat:Int)==43)=false:=by simpa using hp
    clear hp hm;go_enter Tryz.func83,Tryz.ntmps83
    go_wp2_with (go_at_call 82;refine(HN.out vl _ hs).mono ?_;rintro e w' ⟨⟨v,rfl,hv1,hv2⟩,rfl⟩)
    go_ret
    exact⟨rfl,(But.refl _ _).set 2 _,_,HS.out.set 2 _⟩
def Joined (b:Nat)(k l:List UInt8)(rated:Bool)(nm r0 t0:Value)(w:World)(e:Ending)(w':World):Prop:=
 But b w w'∧((refVal k l rated=none∧e=.returned (.bool false)∧∃(K v:Int) (wb:ByteArray),Sits w' b 85 #[nm,.int .u8 K,.int .i64 v,.string wb,r0,t0])∨
  (∃K v x,refVal k l rated=some (K,v,x)∧e=.returned (.bool true)∧∃wb:ByteArray,B wb=x∧Sits w' b 85 #[nm,.int .u8 K,.int .i64 v,.string wb,r0,t0]))
theorem joined_of {b:Nat}{k l:List UInt8}{rated ok:Bool}{nm r0 t0:Value}{w w':World}{e:Ending}{K v:Int}{wb:ByteArray}(h:e=.returned (.bool ok)∧But b w w'∧Sits w' b 85 #[nm,.int .u8 K,.int .i64 v,.string wb,r0,t0])
  (hv:refVal k l rated=if ok=true then some (K,v,B wb) else none):Joined b k l rated nm r0 t0 w e w':=by
 obtain⟨he,hb,hS⟩:=h;cases ok with
 | true=>exact⟨hb,Or.inr ⟨K,v,B wb,hv,he,wb,rfl,hS⟩⟩
 | false=>exact⟨hb,Or.inl ⟨hv,he,K,v,wb,hS⟩⟩
theorem B_none:B ⟨#[]⟩=[]:=rfl
theorem rsg_nil {l:List UInt8}(h:l=[]):rsg l=0:=by rw[h];rfl
theorem rsg_cons {s:ByteArray}(h:0<s.size):rsg (B s)=if s[0]=45 then 45 else if s[0]=43 then 43 else 0:=by
 rw[B_cons h];rfl
theorem byte_is {b c:UInt8}(h:(b.toNat:Int)=(c.toNat:Int)):b=c:=by
 apply UInt8.toNat_inj.1
 omega
theorem byte_not {b c:UInt8}(h:¬(b.toNat:Int)=(c.toNat:Int)):¬b=c:=by
 rintro rfl;exact h rfl
theorem valued (b:Nat)(vl kd:ByteArray)(rated:Bool)(hs:vl.size≤140737488355328)(nm r0 t0:Value)(w:World)
  (hS:Sits w b 85 #[nm,.int .u8 0,.int .i64 0,.string ⟨#[]⟩,r0,t0]):
  Calls Tryz.prog 83 #[.pointer (some ⟨b,0,none⟩),.string vl,.string kd,.bool rated] w fun e w'=>Joined b (B kd) (B vl) rated nm r0 t0 w e w':=by
 by_cases hz:vl.size=0
 ·have hnil:B vl=[]:=List.eq_nil_of_length_eq_zero (by rw[←size_B];exact hz);have hv0:vl.toList.isEmpty=true:=B_nil.2 hnil;have hg:rsg (B vl)=0:=rsg_nil hnil;have hr:rrest (B vl)=B vl:=by rw[rrest,if_pos hg]
  by_cases h1:B kd=[99]
  ·obtain rfl:kd=⟨#[99]⟩:=B_inj h1;refine(val_c_e b vl rated hs nm r0 t0 w hv0 hS).mono fun e w' h=>joined_of h ?_
   rw[refVal,hg,hr,h1,B_none];cases rated<;>simp
  by_cases h2:B kd=[103]
  ·obtain rfl:kd=⟨#[103]⟩:=B_inj h2;refine(val_g_e b vl rated hs nm r0 t0 w hv0 hS).mono fun e w' h=>joined_of h ?_
   rw[refVal,hg,hr,h2,B_none];cases rated<;>simp
  by_cases h3:B kd=[115]
  ·obtain rfl:kd=⟨#[115]⟩:=B_inj h3;refine(val_s_e b vl rated hs nm r0 t0 w hv0 hS).mono fun e w' h=>joined_of h ?_
   rw[refVal,hg,hr,h3];cases rated<;>simp
  by_cases h4:B kd=[109,115]
  ·obtain rfl:kd=⟨#[109,115]⟩:=B_inj h4;refine(val_ms_e b vl rated hs nm r0 t0 w hv0 hS).mono fun e w' h=>joined_of h ?_
   rw[refVal,hg,hr,h4,B_none];cases rated<;>simp
  by_cases h5:B kd=[104]
  ·obtain rfl:kd=⟨#[104]⟩:=B_inj h5;refine(val_h_e b vl rated hs nm r0 t0 w hv0 hS).mono fun e w' h=>joined_of h ?_
   rw[refVal,hg,hr,h5,B_none];cases rated<;>simp
  refine(val_none b vl kd rated hs nm r0 t0 w (Vals.ne_list h1) (Vals.ne_list h2) (Vals.ne_list h3) (Vals.ne_list h4) (Vals.ne_list h5) hS).mono fun e w' h=>?_
  obtain⟨he,hb,v,hS2⟩:=h;exact⟨hb,Or.inl ⟨by simp[refVal,h1,h2,h3,h4,h5],he,_,_,_,hS2⟩⟩
 ·have hvz:0<vl.size:=by omega
  have hv0:vl.toList.isEmpty=false:=by
   cases hc:vl.toList.isEmpty with
   | false=>rfl
   | true=>
    rw[B_nil]at hc;rw[size_B,hc]at hz;exact absurd rfl hz
  by_cases hm:(vl[0].toNat:Int)=45
  ·have hg:rsg (B vl)=45:=by rw[rsg_cons hvz,if_pos (byte_is hm)]
   have hr:rrest (B vl)=(B vl).drop 1:=by rw[rrest,if_neg (by rw[hg];decide)]
   by_cases h1:B kd=[99]
   ·obtain rfl:kd=⟨#[99]⟩:=B_inj h1;refine(val_c_m b vl rated hs nm r0 t0 w hv0 hvz hm hS).mono fun e w' h=>joined_of h ?_
    rw[refVal,hg,hr,h1,B_none];cases rated<;>simp
   by_cases h2:B kd=[103]
   ·obtain rfl:kd=⟨#[103]⟩:=B_inj h2;refine(val_g_m b vl rated hs nm r0 t0 w hv0 hvz hm hS).mono fun e w' h=>joined_of h ?_
    rw[refVal,hg,hr,h2,B_none];cases rated<;>simp
   by_cases h3:B kd=[115]
   ·obtain rfl:kd=⟨#[115]⟩:=B_inj h3;refine(val_s_m b vl rated hs nm r0 t0 w hv0 hvz hm hS).mono fun e w' h=>joined_of h ?_
    rw[refVal,hg,hr,h3];cases rated<;>simp
   by_cases h4:B kd=[109,115]
   ·obtain rfl:kd=⟨#[109,115]⟩:=B_inj h4;refine(val_ms_m b vl rated hs nm r0 t0 w hv0 hvz hm hS).mono fun e w' h=>joined_of h ?_
    rw[refVal,hg,hr,h4,B_none];cases rated<;>simp
   by_cases h5:B kd=[104]
   ·obtain rfl:kd=⟨#[104]⟩:=B_inj h5;refine(val_h_m b vl rated hs nm r0 t0 w hv0 hvz hm hS).mono fun e w' h=>joined_of h ?_
    rw[refVal,hg,hr,h5,B_none];cases rated<;>simp
   refine(val_none b vl kd rated hs nm r0 t0 w (Vals.ne_list h1) (Vals.ne_list h2) (Vals.ne_list h3) (Vals.ne_list h4) (Vals.ne_list h5) hS).mono fun e w' h=>?_
   obtain⟨he,hb,v,hS2⟩:=h;exact⟨hb,Or.inl ⟨by simp[refVal,h1,h2,h3,h4,h5],he,_,_,_,hS2⟩⟩
  ·by_cases hp:(vl[0].toNat:Int)=43
   ·have hg:rsg (B vl)=43:=by rw[rsg_cons hvz,if_neg (byte_not hm),if_pos (byte_is hp)]
    have hr:rrest (B vl)=(B vl).drop 1:=by rw[rrest,if_neg (by rw[hg];decide)]
    by_cases h1:B kd=[99]
    ·obtain rfl:kd=⟨#[99]⟩:=B_inj h1;refine(val_c_p b vl rated hs nm r0 t0 w hv0 hvz hp hS).mono fun e w' h=>joined_of h ?_
     rw[refVal,hg,hr,h1,B_none];cases rated<;>simp
    by_cases h2:B kd=[103]
    ·obtain rfl:kd=⟨#[103]⟩:=B_inj h2;refine(val_g_p b vl rated hs nm r0 t0 w hv0 hvz hp hS).mono fun e w' h=>joined_of h ?_
     rw[refVal,hg,hr,h2,B_none];cases rated<;>simp
    by_cases h3:B kd=[115]
    ·obtain rfl:kd=⟨#[115]⟩:=B_inj h3;refine(val_s_p b vl rated hs nm r0 t0 w hv0 hvz hp hS).mono fun e w' h=>joined_of h ?_
     rw[refVal,hg,hr,h3];cases rated<;>simp
    by_cases h4:B kd=[109,115]
    ·obtain rfl:kd=⟨#[109,115]⟩:=B_inj h4;refine(val_ms_p b vl rated hs nm r0 t0 w hv0 hvz hp hS).mono fun e w' h=>joined_of h ?_
     rw[refVal,hg,hr,h4,B_none];cases rated<;>simp
    by_cases h5:B kd=[104]
    ·obtain rfl:kd=⟨#[104]⟩:=B_inj h5;refine(val_h_p b vl rated hs nm r0 t0 w hv0 hvz hp hS).mono fun e w' h=>joined_of h ?_
     rw[refVal,hg,hr,h5,B_none];cases rated<;>simp
    refine(val_none b vl kd rated hs nm r0 t0 w (Vals.ne_list h1) (Vals.ne_list h2) (Vals.ne_list h3) (Vals.ne_list h4) (Vals.ne_list h5) hS).mono fun e w' h=>?_
    obtain⟨he,hb,v,hS2⟩:=h;exact⟨hb,Or.inl ⟨by simp[refVal,h1,h2,h3,h4,h5],he,_,_,_,hS2⟩⟩
   ·have hg:rsg (B vl)=0:=by rw[rsg_cons hvz,if_neg (byte_not hm),if_neg (byte_not hp)]
    have hr:rrest (B vl)=B vl:=by rw[rrest,if_pos hg]
    have hv1:((vl[0].toNat:Int)==45)=false:=by simpa using hm
    have hv2:((vl[0].toNat:Int)==43)=false:=by simpa using hp
    by_cases h1:B kd=[99]
    ·obtain rfl:kd=⟨#[99]⟩:=B_inj h1;refine(val_c_o b vl rated hs nm r0 t0 w hv0 hvz hv1 hv2 hS).mono fun e w' h=>joined_of h ?_
     rw[refVal,hg,hr,h1,B_none];cases rated<;>simp
    by_cases h2:B kd=[103]
    ·obtain rfl:kd=⟨#[103]⟩:=B_inj h2;refine(val_g_o b vl rated hs nm r0 t0 w hv0 hvz hv1 hv2 hS).mono fun e w' h=>joined_of h ?_
     rw[refVal,hg,hr,h2,B_none];cases rated<;>simp
    by_cases h3:B kd=[115]
    ·obtain rfl:kd=⟨#[115]⟩:=B_inj h3;refine(val_s_o b vl rated hs nm r0 t0 w hv0 hvz hv1 hv2 hS).mono fun e w' h=>joined_of h ?_
     rw[refVal,hg,hr,h3];cases rated<;>simp
    by_cases h4:B kd=[109,115]
    ·obtain rfl:kd=⟨#[109,115]⟩:=B_inj h4;refine(val_ms_o b vl rated hs nm r0 t0 w hv0 hvz hv1 hv2 hS).mono fun e w' h=>joined_of h ?_
     rw[refVal,hg,hr,h4,B_none];cases rated<;>simp
    by_cases h5:B kd=[104]
    ·obtain rfl:kd=⟨#[104]⟩:=B_inj h5;refine(val_h_o b vl rated hs nm r0 t0 w hv0 hvz hv1 hv2 hS).mono fun e w' h=>joined_of h ?_
     rw[refVal,hg,hr,h5,B_none];cases rated<;>simp
    refine(val_none b vl kd rated hs nm r0 t0 w (Vals.ne_list h1) (Vals.ne_list h2) (Vals.ne_list h3) (Vals.ne_list h4) (Vals.ne_list h5) hS).mono fun e w' h=>?_
    obtain⟨he,hb,v,hS2⟩:=h;exact⟨hb,Or.inl ⟨by simp[refVal,h1,h2,h3,h4,h5],he,_,_,_,hS2⟩⟩
end Go.Proofs.YtenegfafjjknoaaGreatDoor.Refvj
