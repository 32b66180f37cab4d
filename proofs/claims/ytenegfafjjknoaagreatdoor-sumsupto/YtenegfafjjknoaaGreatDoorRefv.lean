/- The walks of the document's values, by sign and type. -/
import Derived.Test.YtenegfafjjknoaaGreatDoorRefn
import Derived.Test.YtenegfafjjknoaaGreatDoorMem
namespace Go.Proofs.YtenegfafjjknoaaGreatDoor.Refv
open Go.RowKit Bytes Nums Refs Numw Mem Refw Refn

theorem cells6 {w : World} {b : Nat} {t : TypeId} {v0 v1 v2 v3 v4 v5 : Value} (h : Sits w b t #[v0, v1, v2, v3, v4, v5]) :
    w.cell? ⟨b, 0, none⟩ = some v0 ∧ w.cell? ⟨b, 1, none⟩ = some v1 ∧ w.cell? ⟨b, 2, none⟩ = some v2 ∧ w.cell? ⟨b, 3, none⟩ = some v3 ∧ w.cell? ⟨b, 4, none⟩ = some v4 ∧ w.cell? ⟨b, 5, none⟩ = some v5 :=
  ⟨h.cell 0 _ rfl, h.cell 1 _ rfl, h.cell 2 _ rfl, h.cell 3 _ rfl, h.cell 4 _ rfl, h.cell 5 _ rfl⟩

theorem frozen6 {w : World} {b : Nat} {t : TypeId} {cs : Array Value} (h : Sits w b t cs) :
    w.frozen? ⟨b, 0, none⟩ = false ∧ w.frozen? ⟨b, 1, none⟩ = false ∧ w.frozen? ⟨b, 2, none⟩ = false ∧ w.frozen? ⟨b, 3, none⟩ = false ∧ w.frozen? ⟨b, 4, none⟩ = false ∧ w.frozen? ⟨b, 5, none⟩ = false :=
  ⟨h.frozen 0, h.frozen 1, h.frozen 2, h.frozen 3, h.frozen 4, h.frozen 5⟩

theorem ret_b {a b : Bool} (h : a = b) : Ending.returned (.bool a) = Ending.returned (.bool b) := by rw [h]

theorem word_f (s : ByteArray) (most : Int) (hs : s.size ≤ 140737488355328) (w : World) :
    Calls Tryz.prog 81 #[.string s, .int .i64 most, .bool false] w fun e w' => e = .returned (.bool (made let_ most (B s))) ∧ w = w' := by
  have e : wch false = let_ := funext wch_f
  have h := word s most false hs w
  rwa [e] at h

theorem word_t (s : ByteArray) (most : Int) (hs : s.size ≤ 140737488355328) (w : World) :
    Calls Tryz.prog 81 #[.string s, .int .i64 most, .bool true] w fun e w' => e = .returned (.bool (made nam most (B s))) ∧ w = w' := by
  have e : wch true = nam := funext wch_t
  have h := word s most true hs w
  rwa [e] at h

theorem refNum_ge (l : List UInt8) (_h : l.length ≤ 140737488355328) : -1 ≤ refNum l ∧ refNum l ≤ 999999999 := by
  exact refNum_bound l


theorem val_c_e (b : Nat) (vl : ByteArray) (rated : Bool) (hs : vl.size ≤ 140737488355328) (nm r0 t0 : Value) (w : World) (hv0 : vl.toList.isEmpty = true)
    (hS : Sits w b 85 #[nm, .int .u8 0, .int .i64 0, .string ⟨#[]⟩, r0, t0]) :
    Calls Tryz.prog 83 #[.pointer (some ⟨b, 0, none⟩), .string vl, .string ⟨#[99]⟩, .bool rated] w fun e w' => e = .returned (.bool (decide (0 ≤ refNum (B vl)))) ∧ But b w w' ∧ Sits w' b 85 #[nm, .int .u8 99, .int .i64 (refNum (B vl)), .string ⟨#[]⟩, r0, t0] := by
  have HS := hide hS
  obtain ⟨c0, c1, c2, c3, c4, c5⟩ := cells6 hS
  obtain ⟨z0, z1, z2, z3, z4, z5⟩ := frozen6 hS
  clear hS
  have hn : ∀ w, Calls Tryz.prog 82 #[.string vl] w fun e w' => e = .returned (.int .i64 (refNum (B vl))) ∧ w = w' := fun w => by
    skip
    exact number vl hs w
  have HN := hide hn
  have hb := refNum_ge (B vl) (by first | (rw [← size_B]; omega) | (rw [List.length_drop, ← size_B]; omega))
  clear hn
  generalize refNum (B vl) = v at HN hb ⊢
  go_enter Tryz.func83, Tryz.ntmps83
  go_wp2_with (go_at_call 82; refine (HN.out _).mono ?_; rintro e w' ⟨rfl, rfl⟩)
  all_goals go_ret
  all_goals refine ⟨ret_b ?_, ((But.refl _ _).set 2 _).set 1 _, ((HS.out).set 2 _).set 1 _⟩
  all_goals first | (simp_all; done) | (cases rated <;> simp_all <;> omega)

theorem val_g_e (b : Nat) (vl : ByteArray) (rated : Bool) (hs : vl.size ≤ 140737488355328) (nm r0 t0 : Value) (w : World) (hv0 : vl.toList.isEmpty = true)
    (hS : Sits w b 85 #[nm, .int .u8 0, .int .i64 0, .string ⟨#[]⟩, r0, t0]) :
    Calls Tryz.prog 83 #[.pointer (some ⟨b, 0, none⟩), .string vl, .string ⟨#[103]⟩, .bool rated] w fun e w' => e = .returned (.bool ((decide (0 ≤ refNum (B vl)) && !rated))) ∧ But b w w' ∧ Sits w' b 85 #[nm, .int .u8 103, .int .i64 (refNum (B vl)), .string ⟨#[]⟩, r0, t0] := by
  have HS := hide hS
  obtain ⟨c0, c1, c2, c3, c4, c5⟩ := cells6 hS
  obtain ⟨z0, z1, z2, z3, z4, z5⟩ := frozen6 hS
  clear hS
  have hn : ∀ w, Calls Tryz.prog 82 #[.string vl] w fun e w' => e = .returned (.int .i64 (refNum (B vl))) ∧ w = w' := fun w => by
    skip
    exact number vl hs w
  have HN := hide hn
  have hb := refNum_ge (B vl) (by first | (rw [← size_B]; omega) | (rw [List.length_drop, ← size_B]; omega))
  clear hn
  generalize refNum (B vl) = v at HN hb ⊢
  go_enter Tryz.func83, Tryz.ntmps83
  go_wp2_with (go_at_call 82; refine (HN.out _).mono ?_; rintro e w' ⟨rfl, rfl⟩)
  all_goals go_ret
  all_goals refine ⟨ret_b ?_, ((But.refl _ _).set 2 _).set 1 _, ((HS.out).set 2 _).set 1 _⟩
  all_goals first | (simp_all; done) | (cases rated <;> simp_all <;> omega)

theorem val_s_e (b : Nat) (vl : ByteArray) (rated : Bool) (hs : vl.size ≤ 140737488355328) (nm r0 t0 : Value) (w : World) (hv0 : vl.toList.isEmpty = true)
    (hS : Sits w b 85 #[nm, .int .u8 0, .int .i64 0, .string ⟨#[]⟩, r0, t0]) :
    Calls Tryz.prog 83 #[.pointer (some ⟨b, 0, none⟩), .string vl, .string ⟨#[115]⟩, .bool rated] w fun e w' => e = .returned (.bool ((made let_ 16 (B vl) && !rated))) ∧ But b w w' ∧ Sits w' b 85 #[nm, .int .u8 115, .int .i64 (0), .string vl, r0, t0] := by
  have HS := hide hS
  obtain ⟨c0, c1, c2, c3, c4, c5⟩ := cells6 hS
  obtain ⟨z0, z1, z2, z3, z4, z5⟩ := frozen6 hS
  clear hS
  have hn : ∀ w, Calls Tryz.prog 82 #[.string vl] w fun e w' => e = .returned (.int .i64 (refNum (B vl))) ∧ w = w' := fun w => by
    skip
    exact number vl hs w
  have HN := hide hn
  have hb := refNum_ge (B vl) (by first | (rw [← size_B]; omega) | (rw [List.length_drop, ← size_B]; omega))
  clear hn
  generalize refNum (B vl) = v at HN hb ⊢
  go_enter Tryz.func83, Tryz.ntmps83
  go_wp2_with (first | (go_at_call 82; refine (HN.out _).mono ?_; rintro e w' ⟨rfl, rfl⟩) | (go_at_call 81; refine (word_f vl 16 (by omega) _).mono ?_; rintro e w' ⟨rfl, rfl⟩))
  all_goals go_ret
  all_goals refine ⟨ret_b ?_, ((((But.refl _ _).set 2 _).set 1 _).set 3 _).set 2 _, ((((HS.out).set 2 _).set 1 _).set 3 _).set 2 _⟩
  all_goals first | (simp_all; done) | (cases rated <;> simp_all <;> omega)

theorem val_ms_e (b : Nat) (vl : ByteArray) (rated : Bool) (hs : vl.size ≤ 140737488355328) (nm r0 t0 : Value) (w : World) (hv0 : vl.toList.isEmpty = true)
    (hS : Sits w b 85 #[nm, .int .u8 0, .int .i64 0, .string ⟨#[]⟩, r0, t0]) :
    Calls Tryz.prog 83 #[.pointer (some ⟨b, 0, none⟩), .string vl, .string ⟨#[109, 115]⟩, .bool rated] w fun e w' => e = .returned (.bool (decide (0 ≤ refNum (B vl)))) ∧ But b w w' ∧ Sits w' b 85 #[nm, .int .u8 109, .int .i64 (refNum (B vl)), .string ⟨#[]⟩, r0, t0] := by
  have HS := hide hS
  obtain ⟨c0, c1, c2, c3, c4, c5⟩ := cells6 hS
  obtain ⟨z0, z1, z2, z3, z4, z5⟩ := frozen6 hS
  clear hS
  have hn : ∀ w, Calls Tryz.prog 82 #[.string vl] w fun e w' => e = .returned (.int .i64 (refNum (B vl))) ∧ w = w' := fun w => by
    skip
    exact number vl hs w
  have HN := hide hn
  have hb := refNum_ge (B vl) (by first | (rw [← size_B]; omega) | (rw [List.length_drop, ← size_B]; omega))
  clear hn
  generalize refNum (B vl) = v at HN hb ⊢
  go_enter Tryz.func83, Tryz.ntmps83
  go_wp2_with (go_at_call 82; refine (HN.out _).mono ?_; rintro e w' ⟨rfl, rfl⟩)
  all_goals go_ret
  all_goals refine ⟨ret_b ?_, ((But.refl _ _).set 2 _).set 1 _, ((HS.out).set 2 _).set 1 _⟩
  all_goals first | (simp_all; done) | (cases rated <;> simp_all <;> omega)

theorem val_h_e (b : Nat) (vl : ByteArray) (rated : Bool) (hs : vl.size ≤ 140737488355328) (nm r0 t0 : Value) (w : World) (hv0 : vl.toList.isEmpty = true)
    (hS : Sits w b 85 #[nm, .int .u8 0, .int .i64 0, .string ⟨#[]⟩, r0, t0]) :
    Calls Tryz.prog 83 #[.pointer (some ⟨b, 0, none⟩), .string vl, .string ⟨#[104]⟩, .bool rated] w fun e w' => e = .returned (.bool (decide (0 ≤ refNum (B vl)))) ∧ But b w w' ∧ Sits w' b 85 #[nm, .int .u8 109, .int .i64 (refNum (B vl)), .string ⟨#[]⟩, r0, t0] := by
  have HS := hide hS
  obtain ⟨c0, c1, c2, c3, c4, c5⟩ := cells6 hS
  obtain ⟨z0, z1, z2, z3, z4, z5⟩ := frozen6 hS
  clear hS
  have hn : ∀ w, Calls Tryz.prog 82 #[.string vl] w fun e w' => e = .returned (.int .i64 (refNum (B vl))) ∧ w = w' := fun w => by
    skip
    exact number vl hs w
  have HN := hide hn
  have hb := refNum_ge (B vl) (by first | (rw [← size_B]; omega) | (rw [List.length_drop, ← size_B]; omega))
  clear hn
  generalize refNum (B vl) = v at HN hb ⊢
  go_enter Tryz.func83, Tryz.ntmps83
  go_wp2_with (go_at_call 82; refine (HN.out _).mono ?_; rintro e w' ⟨rfl, rfl⟩)
  all_goals go_ret
  all_goals refine ⟨ret_b ?_, ((But.refl _ _).set 2 _).set 1 _, ((HS.out).set 2 _).set 1 _⟩
  all_goals first | (simp_all; done) | (cases rated <;> simp_all <;> omega)

theorem val_c_m (b : Nat) (vl : ByteArray) (rated : Bool) (hs : vl.size ≤ 140737488355328) (nm r0 t0 : Value) (w : World) (hv0 : vl.toList.isEmpty = false) (hvz : 0 < vl.size) (hv1 : (vl[0].toNat : Int) = 45)
    (hS : Sits w b 85 #[nm, .int .u8 0, .int .i64 0, .string ⟨#[]⟩, r0, t0]) :
    Calls Tryz.prog 83 #[.pointer (some ⟨b, 0, none⟩), .string vl, .string ⟨#[99]⟩, .bool rated] w fun e w' => e = .returned (.bool (decide (0 ≤ refNum ((B vl).drop 1)))) ∧ But b w w' ∧ Sits w' b 85 #[nm, .int .u8 99, .int .i64 (-(refNum ((B vl).drop 1))), .string ⟨#[]⟩, r0, t0] := by
  have HS := hide hS
  obtain ⟨c0, c1, c2, c3, c4, c5⟩ := cells6 hS
  obtain ⟨z0, z1, z2, z3, z4, z5⟩ := frozen6 hS
  clear hS
  have e1 : B (vl.extract 1 vl.size) = (B vl).drop 1 := by
    rw [B_extract, List.take_of_length_le]
    rw [List.length_drop, size_B]
    exact Nat.le_refl _
  have hv3 : ((vl[0].toNat : Int) == 45) = true := by rw [hv1]; rfl
  have hv4 : ((vl[0].toNat : Int) == 43) = false := by rw [hv1]; rfl
  have hn : ∀ w, Calls Tryz.prog 82 #[.string (vl.extract 1 vl.size)] w fun e w' => e = .returned (.int .i64 (refNum ((B vl).drop 1))) ∧ w = w' := fun w => by
    rw [← e1]
    exact number (vl.extract 1 vl.size) (by rw [ByteArray.size_extract]; omega) w
  have HN := hide hn
  have hb := refNum_ge ((B vl).drop 1) (by first | (rw [← size_B]; omega) | (rw [List.length_drop, ← size_B]; omega))
  clear hn e1 hv1
  generalize refNum ((B vl).drop 1) = v at HN hb ⊢
  go_enter Tryz.func83, Tryz.ntmps83
  go_wp2_with (go_at_call 82; refine (HN.out _).mono ?_; rintro e w' ⟨rfl, rfl⟩)
  all_goals go_ret
  all_goals refine ⟨ret_b ?_, (((But.refl _ _).set 2 _).set 2 _).set 1 _, (((HS.out).set 2 _).set 2 _).set 1 _⟩
  all_goals first | (simp_all; done) | (cases rated <;> simp_all <;> omega)

theorem val_g_m (b : Nat) (vl : ByteArray) (rated : Bool) (hs : vl.size ≤ 140737488355328) (nm r0 t0 : Value) (w : World) (hv0 : vl.toList.isEmpty = false) (hvz : 0 < vl.size) (hv1 : (vl[0].toNat : Int) = 45)
    (hS : Sits w b 85 #[nm, .int .u8 0, .int .i64 0, .string ⟨#[]⟩, r0, t0]) :
    Calls Tryz.prog 83 #[.pointer (some ⟨b, 0, none⟩), .string vl, .string ⟨#[103]⟩, .bool rated] w fun e w' => e = .returned (.bool ((decide (0 ≤ refNum ((B vl).drop 1)) && !rated))) ∧ But b w w' ∧ Sits w' b 85 #[nm, .int .u8 100, .int .i64 (-(refNum ((B vl).drop 1))), .string ⟨#[]⟩, r0, t0] := by
  have HS := hide hS
  obtain ⟨c0, c1, c2, c3, c4, c5⟩ := cells6 hS
  obtain ⟨z0, z1, z2, z3, z4, z5⟩ := frozen6 hS
  clear hS
  have e1 : B (vl.extract 1 vl.size) = (B vl).drop 1 := by
    rw [B_extract, List.take_of_length_le]
    rw [List.length_drop, size_B]
    exact Nat.le_refl _
  have hv3 : ((vl[0].toNat : Int) == 45) = true := by rw [hv1]; rfl
  have hv4 : ((vl[0].toNat : Int) == 43) = false := by rw [hv1]; rfl
  have hn : ∀ w, Calls Tryz.prog 82 #[.string (vl.extract 1 vl.size)] w fun e w' => e = .returned (.int .i64 (refNum ((B vl).drop 1))) ∧ w = w' := fun w => by
    rw [← e1]
    exact number (vl.extract 1 vl.size) (by rw [ByteArray.size_extract]; omega) w
  have HN := hide hn
  have hb := refNum_ge ((B vl).drop 1) (by first | (rw [← size_B]; omega) | (rw [List.length_drop, ← size_B]; omega))
  clear hn e1 hv1
  generalize refNum ((B vl).drop 1) = v at HN hb ⊢
  go_enter Tryz.func83, Tryz.ntmps83
  go_wp2_with (go_at_call 82; refine (HN.out _).mono ?_; rintro e w' ⟨rfl, rfl⟩)
  all_goals go_ret
  all_goals refine ⟨ret_b ?_, ((((But.refl _ _).set 2 _).set 2 _).set 1 _).set 1 _, ((((HS.out).set 2 _).set 2 _).set 1 _).set 1 _⟩
  all_goals first | (simp_all; done) | (cases rated <;> simp_all <;> omega)

theorem val_s_m (b : Nat) (vl : ByteArray) (rated : Bool) (hs : vl.size ≤ 140737488355328) (nm r0 t0 : Value) (w : World) (hv0 : vl.toList.isEmpty = false) (hvz : 0 < vl.size) (hv1 : (vl[0].toNat : Int) = 45)
    (hS : Sits w b 85 #[nm, .int .u8 0, .int .i64 0, .string ⟨#[]⟩, r0, t0]) :
    Calls Tryz.prog 83 #[.pointer (some ⟨b, 0, none⟩), .string vl, .string ⟨#[115]⟩, .bool rated] w fun e w' => e = .returned (.bool ((made let_ 16 (B vl) && !rated))) ∧ But b w w' ∧ Sits w' b 85 #[nm, .int .u8 115, .int .i64 (0), .string vl, r0, t0] := by
  have HS := hide hS
  obtain ⟨c0, c1, c2, c3, c4, c5⟩ := cells6 hS
  obtain ⟨z0, z1, z2, z3, z4, z5⟩ := frozen6 hS
  clear hS
  have e1 : B (vl.extract 1 vl.size) = (B vl).drop 1 := by
    rw [B_extract, List.take_of_length_le]
    rw [List.length_drop, size_B]
    exact Nat.le_refl _
  have hv3 : ((vl[0].toNat : Int) == 45) = true := by rw [hv1]; rfl
  have hv4 : ((vl[0].toNat : Int) == 43) = false := by rw [hv1]; rfl
  have hn : ∀ w, Calls Tryz.prog 82 #[.string (vl.extract 1 vl.size)] w fun e w' => e = .returned (.int .i64 (refNum ((B vl).drop 1))) ∧ w = w' := fun w => by
    rw [← e1]
    exact number (vl.extract 1 vl.size) (by rw [ByteArray.size_extract]; omega) w
  have HN := hide hn
  have hb := refNum_ge ((B vl).drop 1) (by first | (rw [← size_B]; omega) | (rw [List.length_drop, ← size_B]; omega))
  clear hn e1 hv1
  generalize refNum ((B vl).drop 1) = v at HN hb ⊢
  go_enter Tryz.func83, Tryz.ntmps83
  go_wp2_with (first | (go_at_call 82; refine (HN.out _).mono ?_; rintro e w' ⟨rfl, rfl⟩) | (go_at_call 81; refine (word_f vl 16 (by omega) _).mono ?_; rintro e w' ⟨rfl, rfl⟩))
  all_goals go_ret
  all_goals refine ⟨ret_b ?_, (((((But.refl _ _).set 2 _).set 2 _).set 1 _).set 3 _).set 2 _, (((((HS.out).set 2 _).set 2 _).set 1 _).set 3 _).set 2 _⟩
  all_goals first | (simp_all; done) | (cases rated <;> simp_all <;> omega)

theorem val_ms_m (b : Nat) (vl : ByteArray) (rated : Bool) (hs : vl.size ≤ 140737488355328) (nm r0 t0 : Value) (w : World) (hv0 : vl.toList.isEmpty = false) (hvz : 0 < vl.size) (hv1 : (vl[0].toNat : Int) = 45)
    (hS : Sits w b 85 #[nm, .int .u8 0, .int .i64 0, .string ⟨#[]⟩, r0, t0]) :
    Calls Tryz.prog 83 #[.pointer (some ⟨b, 0, none⟩), .string vl, .string ⟨#[109, 115]⟩, .bool rated] w fun e w' => e = .returned (.bool (false)) ∧ But b w w' ∧ Sits w' b 85 #[nm, .int .u8 109, .int .i64 (-(refNum ((B vl).drop 1))), .string ⟨#[]⟩, r0, t0] := by
  have HS := hide hS
  obtain ⟨c0, c1, c2, c3, c4, c5⟩ := cells6 hS
  obtain ⟨z0, z1, z2, z3, z4, z5⟩ := frozen6 hS
  clear hS
  have e1 : B (vl.extract 1 vl.size) = (B vl).drop 1 := by
    rw [B_extract, List.take_of_length_le]
    rw [List.length_drop, size_B]
    exact Nat.le_refl _
  have hv3 : ((vl[0].toNat : Int) == 45) = true := by rw [hv1]; rfl
  have hv4 : ((vl[0].toNat : Int) == 43) = false := by rw [hv1]; rfl
  have hn : ∀ w, Calls Tryz.prog 82 #[.string (vl.extract 1 vl.size)] w fun e w' => e = .returned (.int .i64 (refNum ((B vl).drop 1))) ∧ w = w' := fun w => by
    rw [← e1]
    exact number (vl.extract 1 vl.size) (by rw [ByteArray.size_extract]; omega) w
  have HN := hide hn
  have hb := refNum_ge ((B vl).drop 1) (by first | (rw [← size_B]; omega) | (rw [List.length_drop, ← size_B]; omega))
  clear hn e1 hv1
  generalize refNum ((B vl).drop 1) = v at HN hb ⊢
  go_enter Tryz.func83, Tryz.ntmps83
  go_wp2_with (go_at_call 82; refine (HN.out _).mono ?_; rintro e w' ⟨rfl, rfl⟩)
  all_goals go_ret
  all_goals refine ⟨ret_b ?_, (((But.refl _ _).set 2 _).set 2 _).set 1 _, (((HS.out).set 2 _).set 2 _).set 1 _⟩
  all_goals first | (simp_all; done) | (cases rated <;> simp_all <;> omega)

theorem val_h_m (b : Nat) (vl : ByteArray) (rated : Bool) (hs : vl.size ≤ 140737488355328) (nm r0 t0 : Value) (w : World) (hv0 : vl.toList.isEmpty = false) (hvz : 0 < vl.size) (hv1 : (vl[0].toNat : Int) = 45)
    (hS : Sits w b 85 #[nm, .int .u8 0, .int .i64 0, .string ⟨#[]⟩, r0, t0]) :
    Calls Tryz.prog 83 #[.pointer (some ⟨b, 0, none⟩), .string vl, .string ⟨#[104]⟩, .bool rated] w fun e w' => e = .returned (.bool (false)) ∧ But b w w' ∧ Sits w' b 85 #[nm, .int .u8 109, .int .i64 (-(refNum ((B vl).drop 1))), .string ⟨#[]⟩, r0, t0] := by
  have HS := hide hS
  obtain ⟨c0, c1, c2, c3, c4, c5⟩ := cells6 hS
  obtain ⟨z0, z1, z2, z3, z4, z5⟩ := frozen6 hS
  clear hS
  have e1 : B (vl.extract 1 vl.size) = (B vl).drop 1 := by
    rw [B_extract, List.take_of_length_le]
    rw [List.length_drop, size_B]
    exact Nat.le_refl _
  have hv3 : ((vl[0].toNat : Int) == 45) = true := by rw [hv1]; rfl
  have hv4 : ((vl[0].toNat : Int) == 43) = false := by rw [hv1]; rfl
  have hn : ∀ w, Calls Tryz.prog 82 #[.string (vl.extract 1 vl.size)] w fun e w' => e = .returned (.int .i64 (refNum ((B vl).drop 1))) ∧ w = w' := fun w => by
    rw [← e1]
    exact number (vl.extract 1 vl.size) (by rw [ByteArray.size_extract]; omega) w
  have HN := hide hn
  have hb := refNum_ge ((B vl).drop 1) (by first | (rw [← size_B]; omega) | (rw [List.length_drop, ← size_B]; omega))
  clear hn e1 hv1
  generalize refNum ((B vl).drop 1) = v at HN hb ⊢
  go_enter Tryz.func83, Tryz.ntmps83
  go_wp2_with (go_at_call 82; refine (HN.out _).mono ?_; rintro e w' ⟨rfl, rfl⟩)
  all_goals go_ret
  all_goals refine ⟨ret_b ?_, (((But.refl _ _).set 2 _).set 2 _).set 1 _, (((HS.out).set 2 _).set 2 _).set 1 _⟩
  all_goals first | (simp_all; done) | (cases rated <;> simp_all <;> omega)

theorem val_c_p (b : Nat) (vl : ByteArray) (rated : Bool) (hs : vl.size ≤ 140737488355328) (nm r0 t0 : Value) (w : World) (hv0 : vl.toList.isEmpty = false) (hvz : 0 < vl.size) (hv1 : (vl[0].toNat : Int) = 43)
    (hS : Sits w b 85 #[nm, .int .u8 0, .int .i64 0, .string ⟨#[]⟩, r0, t0]) :
    Calls Tryz.prog 83 #[.pointer (some ⟨b, 0, none⟩), .string vl, .string ⟨#[99]⟩, .bool rated] w fun e w' => e = .returned (.bool (false)) ∧ But b w w' ∧ Sits w' b 85 #[nm, .int .u8 99, .int .i64 (refNum ((B vl).drop 1)), .string ⟨#[]⟩, r0, t0] := by
  have HS := hide hS
  obtain ⟨c0, c1, c2, c3, c4, c5⟩ := cells6 hS
  obtain ⟨z0, z1, z2, z3, z4, z5⟩ := frozen6 hS
  clear hS
  have e1 : B (vl.extract 1 vl.size) = (B vl).drop 1 := by
    rw [B_extract, List.take_of_length_le]
    rw [List.length_drop, size_B]
    exact Nat.le_refl _
  have hv3 : ((vl[0].toNat : Int) == 45) = false := by rw [hv1]; rfl
  have hv4 : ((vl[0].toNat : Int) == 43) = true := by rw [hv1]; rfl
  have hn : ∀ w, Calls Tryz.prog 82 #[.string (vl.extract 1 vl.size)] w fun e w' => e = .returned (.int .i64 (refNum ((B vl).drop 1))) ∧ w = w' := fun w => by
    rw [← e1]
    exact number (vl.extract 1 vl.size) (by rw [ByteArray.size_extract]; omega) w
  have HN := hide hn
  have hb := refNum_ge ((B vl).drop 1) (by first | (rw [← size_B]; omega) | (rw [List.length_drop, ← size_B]; omega))
  clear hn e1 hv1
  generalize refNum ((B vl).drop 1) = v at HN hb ⊢
  go_enter Tryz.func83, Tryz.ntmps83
  go_wp2_with (go_at_call 82; refine (HN.out _).mono ?_; rintro e w' ⟨rfl, rfl⟩)
  all_goals go_ret
  all_goals refine ⟨ret_b ?_, ((But.refl _ _).set 2 _).set 1 _, ((HS.out).set 2 _).set 1 _⟩
  all_goals first | (simp_all; done) | (cases rated <;> simp_all <;> omega)

theorem val_g_p (b : Nat) (vl : ByteArray) (rated : Bool) (hs : vl.size ≤ 140737488355328) (nm r0 t0 : Value) (w : World) (hv0 : vl.toList.isEmpty = false) (hvz : 0 < vl.size) (hv1 : (vl[0].toNat : Int) = 43)
    (hS : Sits w b 85 #[nm, .int .u8 0, .int .i64 0, .string ⟨#[]⟩, r0, t0]) :
    Calls Tryz.prog 83 #[.pointer (some ⟨b, 0, none⟩), .string vl, .string ⟨#[103]⟩, .bool rated] w fun e w' => e = .returned (.bool ((decide (0 ≤ refNum ((B vl).drop 1)) && !rated))) ∧ But b w w' ∧ Sits w' b 85 #[nm, .int .u8 100, .int .i64 (refNum ((B vl).drop 1)), .string ⟨#[]⟩, r0, t0] := by
  have HS := hide hS
  obtain ⟨c0, c1, c2, c3, c4, c5⟩ := cells6 hS
  obtain ⟨z0, z1, z2, z3, z4, z5⟩ := frozen6 hS
  clear hS
  have e1 : B (vl.extract 1 vl.size) = (B vl).drop 1 := by
    rw [B_extract, List.take_of_length_le]
    rw [List.length_drop, size_B]
    exact Nat.le_refl _
  have hv3 : ((vl[0].toNat : Int) == 45) = false := by rw [hv1]; rfl
  have hv4 : ((vl[0].toNat : Int) == 43) = true := by rw [hv1]; rfl
  have hn : ∀ w, Calls Tryz.prog 82 #[.string (vl.extract 1 vl.size)] w fun e w' => e = .returned (.int .i64 (refNum ((B vl).drop 1))) ∧ w = w' := fun w => by
    rw [← e1]
    exact number (vl.extract 1 vl.size) (by rw [ByteArray.size_extract]; omega) w
  have HN := hide hn
  have hb := refNum_ge ((B vl).drop 1) (by first | (rw [← size_B]; omega) | (rw [List.length_drop, ← size_B]; omega))
  clear hn e1 hv1
  generalize refNum ((B vl).drop 1) = v at HN hb ⊢
  go_enter Tryz.func83, Tryz.ntmps83
  go_wp2_with (go_at_call 82; refine (HN.out _).mono ?_; rintro e w' ⟨rfl, rfl⟩)
  all_goals go_ret
  all_goals refine ⟨ret_b ?_, (((But.refl _ _).set 2 _).set 1 _).set 1 _, (((HS.out).set 2 _).set 1 _).set 1 _⟩
  all_goals first | (simp_all; done) | (cases rated <;> simp_all <;> omega)

theorem val_s_p (b : Nat) (vl : ByteArray) (rated : Bool) (hs : vl.size ≤ 140737488355328) (nm r0 t0 : Value) (w : World) (hv0 : vl.toList.isEmpty = false) (hvz : 0 < vl.size) (hv1 : (vl[0].toNat : Int) = 43)
    (hS : Sits w b 85 #[nm, .int .u8 0, .int .i64 0, .string ⟨#[]⟩, r0, t0]) :
    Calls Tryz.prog 83 #[.pointer (some ⟨b, 0, none⟩), .string vl, .string ⟨#[115]⟩, .bool rated] w fun e w' => e = .returned (.bool ((made let_ 16 (B vl) && !rated))) ∧ But b w w' ∧ Sits w' b 85 #[nm, .int .u8 115, .int .i64 (0), .string vl, r0, t0] := by
  have HS := hide hS
  obtain ⟨c0, c1, c2, c3, c4, c5⟩ := cells6 hS
  obtain ⟨z0, z1, z2, z3, z4, z5⟩ := frozen6 hS
  clear hS
  have e1 : B (vl.extract 1 vl.size) = (B vl).drop 1 := by
    rw [B_extract, List.take_of_length_le]
    rw [List.length_drop, size_B]
    exact Nat.le_refl _
  have hv3 : ((vl[0].toNat : Int) == 45) = false := by rw [hv1]; rfl
  have hv4 : ((vl[0].toNat : Int) == 43) = true := by rw [hv1]; rfl
  have hn : ∀ w, Calls Tryz.prog 82 #[.string (vl.extract 1 vl.size)] w fun e w' => e = .returned (.int .i64 (refNum ((B vl).drop 1))) ∧ w = w' := fun w => by
    rw [← e1]
    exact number (vl.extract 1 vl.size) (by rw [ByteArray.size_extract]; omega) w
  have HN := hide hn
  have hb := refNum_ge ((B vl).drop 1) (by first | (rw [← size_B]; omega) | (rw [List.length_drop, ← size_B]; omega))
  clear hn e1 hv1
  generalize refNum ((B vl).drop 1) = v at HN hb ⊢
  go_enter Tryz.func83, Tryz.ntmps83
  go_wp2_with (first | (go_at_call 82; refine (HN.out _).mono ?_; rintro e w' ⟨rfl, rfl⟩) | (go_at_call 81; refine (word_f vl 16 (by omega) _).mono ?_; rintro e w' ⟨rfl, rfl⟩))
  all_goals go_ret
  all_goals refine ⟨ret_b ?_, ((((But.refl _ _).set 2 _).set 1 _).set 3 _).set 2 _, ((((HS.out).set 2 _).set 1 _).set 3 _).set 2 _⟩
  all_goals first | (simp_all; done) | (cases rated <;> simp_all <;> omega)

theorem val_ms_p (b : Nat) (vl : ByteArray) (rated : Bool) (hs : vl.size ≤ 140737488355328) (nm r0 t0 : Value) (w : World) (hv0 : vl.toList.isEmpty = false) (hvz : 0 < vl.size) (hv1 : (vl[0].toNat : Int) = 43)
    (hS : Sits w b 85 #[nm, .int .u8 0, .int .i64 0, .string ⟨#[]⟩, r0, t0]) :
    Calls Tryz.prog 83 #[.pointer (some ⟨b, 0, none⟩), .string vl, .string ⟨#[109, 115]⟩, .bool rated] w fun e w' => e = .returned (.bool (false)) ∧ But b w w' ∧ Sits w' b 85 #[nm, .int .u8 109, .int .i64 (refNum ((B vl).drop 1)), .string ⟨#[]⟩, r0, t0] := by
  have HS := hide hS
  obtain ⟨c0, c1, c2, c3, c4, c5⟩ := cells6 hS
  obtain ⟨z0, z1, z2, z3, z4, z5⟩ := frozen6 hS
  clear hS
  have e1 : B (vl.extract 1 vl.size) = (B vl).drop 1 := by
    rw [B_extract, List.take_of_length_le]
    rw [List.length_drop, size_B]
    exact Nat.le_refl _
  have hv3 : ((vl[0].toNat : Int) == 45) = false := by rw [hv1]; rfl
  have hv4 : ((vl[0].toNat : Int) == 43) = true := by rw [hv1]; rfl
  have hn : ∀ w, Calls Tryz.prog 82 #[.string (vl.extract 1 vl.size)] w fun e w' => e = .returned (.int .i64 (refNum ((B vl).drop 1))) ∧ w = w' := fun w => by
    rw [← e1]
    exact number (vl.extract 1 vl.size) (by rw [ByteArray.size_extract]; omega) w
  have HN := hide hn
  have hb := refNum_ge ((B vl).drop 1) (by first | (rw [← size_B]; omega) | (rw [List.length_drop, ← size_B]; omega))
  clear hn e1 hv1
  generalize refNum ((B vl).drop 1) = v at HN hb ⊢
  go_enter Tryz.func83, Tryz.ntmps83
  go_wp2_with (go_at_call 82; refine (HN.out _).mono ?_; rintro e w' ⟨rfl, rfl⟩)
  all_goals go_ret
  all_goals refine ⟨ret_b ?_, ((But.refl _ _).set 2 _).set 1 _, ((HS.out).set 2 _).set 1 _⟩
  all_goals first | (simp_all; done) | (cases rated <;> simp_all <;> omega)

theorem val_h_p (b : Nat) (vl : ByteArray) (rated : Bool) (hs : vl.size ≤ 140737488355328) (nm r0 t0 : Value) (w : World) (hv0 : vl.toList.isEmpty = false) (hvz : 0 < vl.size) (hv1 : (vl[0].toNat : Int) = 43)
    (hS : Sits w b 85 #[nm, .int .u8 0, .int .i64 0, .string ⟨#[]⟩, r0, t0]) :
    Calls Tryz.prog 83 #[.pointer (some ⟨b, 0, none⟩), .string vl, .string ⟨#[104]⟩, .bool rated] w fun e w' => e = .returned (.bool (false)) ∧ But b w w' ∧ Sits w' b 85 #[nm, .int .u8 109, .int .i64 (refNum ((B vl).drop 1)), .string ⟨#[]⟩, r0, t0] := by
  have HS := hide hS
  obtain ⟨c0, c1, c2, c3, c4, c5⟩ := cells6 hS
  obtain ⟨z0, z1, z2, z3, z4, z5⟩ := frozen6 hS
  clear hS
  have e1 : B (vl.extract 1 vl.size) = (B vl).drop 1 := by
    rw [B_extract, List.take_of_length_le]
    rw [List.length_drop, size_B]
    exact Nat.le_refl _
  have hv3 : ((vl[0].toNat : Int) == 45) = false := by rw [hv1]; rfl
  have hv4 : ((vl[0].toNat : Int) == 43) = true := by rw [hv1]; rfl
  have hn : ∀ w, Calls Tryz.prog 82 #[.string (vl.extract 1 vl.size)] w fun e w' => e = .returned (.int .i64 (refNum ((B vl).drop 1))) ∧ w = w' := fun w => by
    rw [← e1]
    exact number (vl.extract 1 vl.size) (by rw [ByteArray.size_extract]; omega) w
  have HN := hide hn
  have hb := refNum_ge ((B vl).drop 1) (by first | (rw [← size_B]; omega) | (rw [List.length_drop, ← size_B]; omega))
  clear hn e1 hv1
  generalize refNum ((B vl).drop 1) = v at HN hb ⊢
  go_enter Tryz.func83, Tryz.ntmps83
  go_wp2_with (go_at_call 82; refine (HN.out _).mono ?_; rintro e w' ⟨rfl, rfl⟩)
  all_goals go_ret
  all_goals refine ⟨ret_b ?_, ((But.refl _ _).set 2 _).set 1 _, ((HS.out).set 2 _).set 1 _⟩
  all_goals first | (simp_all; done) | (cases rated <;> simp_all <;> omega)

theorem val_c_o (b : Nat) (vl : ByteArray) (rated : Bool) (hs : vl.size ≤ 140737488355328) (nm r0 t0 : Value) (w : World) (hv0 : vl.toList.isEmpty = false) (hvz : 0 < vl.size) (hv1 : ((vl[0].toNat : Int) == 45) = false) (hv2 : ((vl[0].toNat : Int) == 43) = false)
    (hS : Sits w b 85 #[nm, .int .u8 0, .int .i64 0, .string ⟨#[]⟩, r0, t0]) :
    Calls Tryz.prog 83 #[.pointer (some ⟨b, 0, none⟩), .string vl, .string ⟨#[99]⟩, .bool rated] w fun e w' => e = .returned (.bool (decide (0 ≤ refNum (B vl)))) ∧ But b w w' ∧ Sits w' b 85 #[nm, .int .u8 99, .int .i64 (refNum (B vl)), .string ⟨#[]⟩, r0, t0] := by
  have HS := hide hS
  obtain ⟨c0, c1, c2, c3, c4, c5⟩ := cells6 hS
  obtain ⟨z0, z1, z2, z3, z4, z5⟩ := frozen6 hS
  clear hS
  have hn : ∀ w, Calls Tryz.prog 82 #[.string vl] w fun e w' => e = .returned (.int .i64 (refNum (B vl))) ∧ w = w' := fun w => by
    skip
    exact number vl hs w
  have HN := hide hn
  have hb := refNum_ge (B vl) (by first | (rw [← size_B]; omega) | (rw [List.length_drop, ← size_B]; omega))
  clear hn
  generalize refNum (B vl) = v at HN hb ⊢
  go_enter Tryz.func83, Tryz.ntmps83
  go_wp2_with (go_at_call 82; refine (HN.out _).mono ?_; rintro e w' ⟨rfl, rfl⟩)
  all_goals go_ret
  all_goals refine ⟨ret_b ?_, ((But.refl _ _).set 2 _).set 1 _, ((HS.out).set 2 _).set 1 _⟩
  all_goals first | (simp_all; done) | (cases rated <;> simp_all <;> omega)

theorem val_g_o (b : Nat) (vl : ByteArray) (rated : Bool) (hs : vl.size ≤ 140737488355328) (nm r0 t0 : Value) (w : World) (hv0 : vl.toList.isEmpty = false) (hvz : 0 < vl.size) (hv1 : ((vl[0].toNat : Int) == 45) = false) (hv2 : ((vl[0].toNat : Int) == 43) = false)
    (hS : Sits w b 85 #[nm, .int .u8 0, .int .i64 0, .string ⟨#[]⟩, r0, t0]) :
    Calls Tryz.prog 83 #[.pointer (some ⟨b, 0, none⟩), .string vl, .string ⟨#[103]⟩, .bool rated] w fun e w' => e = .returned (.bool ((decide (0 ≤ refNum (B vl)) && !rated))) ∧ But b w w' ∧ Sits w' b 85 #[nm, .int .u8 103, .int .i64 (refNum (B vl)), .string ⟨#[]⟩, r0, t0] := by
  have HS := hide hS
  obtain ⟨c0, c1, c2, c3, c4, c5⟩ := cells6 hS
  obtain ⟨z0, z1, z2, z3, z4, z5⟩ := frozen6 hS
  clear hS
  have hn : ∀ w, Calls Tryz.prog 82 #[.string vl] w fun e w' => e = .returned (.int .i64 (refNum (B vl))) ∧ w = w' := fun w => by
    skip
    exact number vl hs w
  have HN := hide hn
  have hb := refNum_ge (B vl) (by first | (rw [← size_B]; omega) | (rw [List.length_drop, ← size_B]; omega))
  clear hn
  generalize refNum (B vl) = v at HN hb ⊢
  go_enter Tryz.func83, Tryz.ntmps83
  go_wp2_with (go_at_call 82; refine (HN.out _).mono ?_; rintro e w' ⟨rfl, rfl⟩)
  all_goals go_ret
  all_goals refine ⟨ret_b ?_, ((But.refl _ _).set 2 _).set 1 _, ((HS.out).set 2 _).set 1 _⟩
  all_goals first | (simp_all; done) | (cases rated <;> simp_all <;> omega)

theorem val_s_o (b : Nat) (vl : ByteArray) (rated : Bool) (hs : vl.size ≤ 140737488355328) (nm r0 t0 : Value) (w : World) (hv0 : vl.toList.isEmpty = false) (hvz : 0 < vl.size) (hv1 : ((vl[0].toNat : Int) == 45) = false) (hv2 : ((vl[0].toNat : Int) == 43) = false)
    (hS : Sits w b 85 #[nm, .int .u8 0, .int .i64 0, .string ⟨#[]⟩, r0, t0]) :
    Calls Tryz.prog 83 #[.pointer (some ⟨b, 0, none⟩), .string vl, .string ⟨#[115]⟩, .bool rated] w fun e w' => e = .returned (.bool ((made let_ 16 (B vl) && !rated))) ∧ But b w w' ∧ Sits w' b 85 #[nm, .int .u8 115, .int .i64 (0), .string vl, r0, t0] := by
  have HS := hide hS
  obtain ⟨c0, c1, c2, c3, c4, c5⟩ := cells6 hS
  obtain ⟨z0, z1, z2, z3, z4, z5⟩ := frozen6 hS
  clear hS
  have hn : ∀ w, Calls Tryz.prog 82 #[.string vl] w fun e w' => e = .returned (.int .i64 (refNum (B vl))) ∧ w = w' := fun w => by
    skip
    exact number vl hs w
  have HN := hide hn
  have hb := refNum_ge (B vl) (by first | (rw [← size_B]; omega) | (rw [List.length_drop, ← size_B]; omega))
  clear hn
  generalize refNum (B vl) = v at HN hb ⊢
  go_enter Tryz.func83, Tryz.ntmps83
  go_wp2_with (first | (go_at_call 82; refine (HN.out _).mono ?_; rintro e w' ⟨rfl, rfl⟩) | (go_at_call 81; refine (word_f vl 16 (by omega) _).mono ?_; rintro e w' ⟨rfl, rfl⟩))
  all_goals go_ret
  all_goals refine ⟨ret_b ?_, ((((But.refl _ _).set 2 _).set 1 _).set 3 _).set 2 _, ((((HS.out).set 2 _).set 1 _).set 3 _).set 2 _⟩
  all_goals first | (simp_all; done) | (cases rated <;> simp_all <;> omega)

theorem val_ms_o (b : Nat) (vl : ByteArray) (rated : Bool) (hs : vl.size ≤ 140737488355328) (nm r0 t0 : Value) (w : World) (hv0 : vl.toList.isEmpty = false) (hvz : 0 < vl.size) (hv1 : ((vl[0].toNat : Int) == 45) = false) (hv2 : ((vl[0].toNat : Int) == 43) = false)
    (hS : Sits w b 85 #[nm, .int .u8 0, .int .i64 0, .string ⟨#[]⟩, r0, t0]) :
    Calls Tryz.prog 83 #[.pointer (some ⟨b, 0, none⟩), .string vl, .string ⟨#[109, 115]⟩, .bool rated] w fun e w' => e = .returned (.bool (decide (0 ≤ refNum (B vl)))) ∧ But b w w' ∧ Sits w' b 85 #[nm, .int .u8 109, .int .i64 (refNum (B vl)), .string ⟨#[]⟩, r0, t0] := by
  have HS := hide hS
  obtain ⟨c0, c1, c2, c3, c4, c5⟩ := cells6 hS
  obtain ⟨z0, z1, z2, z3, z4, z5⟩ := frozen6 hS
  clear hS
  have hn : ∀ w, Calls Tryz.prog 82 #[.string vl] w fun e w' => e = .returned (.int .i64 (refNum (B vl))) ∧ w = w' := fun w => by
    skip
    exact number vl hs w
  have HN := hide hn
  have hb := refNum_ge (B vl) (by first | (rw [← size_B]; omega) | (rw [List.length_drop, ← size_B]; omega))
  clear hn
  generalize refNum (B vl) = v at HN hb ⊢
  go_enter Tryz.func83, Tryz.ntmps83
  go_wp2_with (go_at_call 82; refine (HN.out _).mono ?_; rintro e w' ⟨rfl, rfl⟩)
  all_goals go_ret
  all_goals refine ⟨ret_b ?_, ((But.refl _ _).set 2 _).set 1 _, ((HS.out).set 2 _).set 1 _⟩
  all_goals first | (simp_all; done) | (cases rated <;> simp_all <;> omega)

theorem val_h_o (b : Nat) (vl : ByteArray) (rated : Bool) (hs : vl.size ≤ 140737488355328) (nm r0 t0 : Value) (w : World) (hv0 : vl.toList.isEmpty = false) (hvz : 0 < vl.size) (hv1 : ((vl[0].toNat : Int) == 45) = false) (hv2 : ((vl[0].toNat : Int) == 43) = false)
    (hS : Sits w b 85 #[nm, .int .u8 0, .int .i64 0, .string ⟨#[]⟩, r0, t0]) :
    Calls Tryz.prog 83 #[.pointer (some ⟨b, 0, none⟩), .string vl, .string ⟨#[104]⟩, .bool rated] w fun e w' => e = .returned (.bool (decide (0 ≤ refNum (B vl)))) ∧ But b w w' ∧ Sits w' b 85 #[nm, .int .u8 109, .int .i64 (refNum (B vl)), .string ⟨#[]⟩, r0, t0] := by
  have HS := hide hS
  obtain ⟨c0, c1, c2, c3, c4, c5⟩ := cells6 hS
  obtain ⟨z0, z1, z2, z3, z4, z5⟩ := frozen6 hS
  clear hS
  have hn : ∀ w, Calls Tryz.prog 82 #[.string vl] w fun e w' => e = .returned (.int .i64 (refNum (B vl))) ∧ w = w' := fun w => by
    skip
    exact number vl hs w
  have HN := hide hn
  have hb := refNum_ge (B vl) (by first | (rw [← size_B]; omega) | (rw [List.length_drop, ← size_B]; omega))
  clear hn
  generalize refNum (B vl) = v at HN hb ⊢
  go_enter Tryz.func83, Tryz.ntmps83
  go_wp2_with (go_at_call 82; refine (HN.out _).mono ?_; rintro e w' ⟨rfl, rfl⟩)
  all_goals go_ret
  all_goals refine ⟨ret_b ?_, ((But.refl _ _).set 2 _).set 1 _, ((HS.out).set 2 _).set 1 _⟩
  all_goals first | (simp_all; done) | (cases rated <;> simp_all <;> omega)

end Go.Proofs.YtenegfafjjknoaaGreatDoor.Refv
