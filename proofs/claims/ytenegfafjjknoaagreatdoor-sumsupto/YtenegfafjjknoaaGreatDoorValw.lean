/- The walks of the program's values. -/
import Derived.Test.YtenegfafjjknoaaGreatDoorNumw
import Derived.Test.YtenegfafjjknoaaGreatDoorMem
import Derived.Test.YtenegfafjjknoaaGreatDoorVals
namespace Go.Proofs.YtenegfafjjknoaaGreatDoor.Valw
open Go.RowKit Bytes Nums Numw Mem Vals

theorem cutSignAt (s t x : ByteArray) (hs : s.size ≤ 9223372036854775807) (hx : sg (B t) (B s) = B x) (w : World) :
    Calls Tryz.prog 131 #[.string s, .string t] w fun e w' => (∃ r, e = .returned (.tuple #[.string x, .string r]) ∧ B r = (B s).drop (B x).length ∧ r.size ≤ s.size) ∧ ∃ n, w' = w.drewN n := by
  refine (cutSign s t hs w).mono fun e w' h => ?_
  obtain ⟨⟨a, r, he, ha, hr, hz⟩, n, hw⟩ := h
  rw [hx] at ha hr
  have e1 := B_inj ha
  subst e1
  exact ⟨⟨r, he, hr, hz⟩, n, hw⟩

theorem value_c_plain (b : Nat) (vl : ByteArray) (hs : vl.size ≤ 9223372036854775807) (nm r0 t0 : Value) (w : World) (hx : sg (B ⟨#[45]⟩) (B vl) = B ⟨#[]⟩)
    (hS : Sits w b 80 #[nm, .string ⟨#[]⟩, .bool false, .int .i64 0, .string ⟨#[]⟩, r0, t0]) :
    Calls Tryz.prog 75 #[.pointer (some ⟨b, 0, none⟩), .string ⟨#[99]⟩, .string vl] w fun e w' => But b w w' ∧
      ((num ((B vl).drop 0) = none ∧ e = .returned (.bool false)) ∨ (∃ v, num ((B vl).drop 0) = some v ∧ e = .returned (.bool true) ∧ Sits w' b 80 #[nm, .string ⟨#[99]⟩, .bool false, .int .i64 (v), .string ⟨#[]⟩, r0, t0])) := by
  have HS := hide hS
  have HX := hide hx
  clear hS hx
  go_enter Tryz.func75, Tryz.ntmps75
  go_wp2_with (go_at_call 131; refine (cutSignAt vl ⟨#[45]⟩ ⟨#[]⟩ hs HX.out _).mono ?_; rintro e w' ⟨⟨r, rfl, hr, hsr⟩, n, rfl⟩)
  go_at_call 132
  refine (readNumber r (by omega) _).mono ?_
  have hr2 : B r = (B vl).drop 0 := hr
  rintro e w' ⟨⟨v, hv, rfl⟩ | ⟨hv, rfl⟩, hbw⟩
  · rw [hr2] at hv
    have hbw' : Below w.heap.size w w' := below_back hbw
    have hS' := HS.out.below hbw' HS.out.lt
    have HS' := hide hS'
    have f1 := hS'.frozen 1
    have f2 := hS'.frozen 2
    have f3 := hS'.frozen 3
    have c1 := hS'.cell 1 _ rfl
    have c2 := hS'.cell 2 _ rfl
    have c3 := hS'.cell 3 _ rfl
    have hnv := num_some hv
    have HV := hide hv
    have HW := hide hbw'
    clear hv hS' hbw hbw'
    go_wp2_with fail
    go_ret
    refine ⟨(((But.of_below HW.out).set 1 _).set 3 _).set 2 _, Or.inr ⟨v, HV.out, rfl, ((HS'.out.set 1 _).set 3 _).set 2 _⟩⟩
  · rw [hr2] at hv
    have hbw' : Below w.heap.size w w' := below_back hbw
    have hS' := HS.out.below hbw' HS.out.lt
    have HS' := hide hS'
    have f1 := hS'.frozen 1
    have f2 := hS'.frozen 2
    have f3 := hS'.frozen 3
    have c1 := hS'.cell 1 _ rfl
    have c2 := hS'.cell 2 _ rfl
    have c3 := hS'.cell 3 _ rfl
    have HV := hide hv
    have HW := hide hbw'
    clear hv hS' hbw hbw'
    go_wp2_with fail
    go_ret
    refine ⟨(((But.of_below HW.out).set 1 _).set 3 _).set 2 _, Or.inl ⟨HV.out, rfl⟩⟩

theorem value_c_minus (b : Nat) (vl : ByteArray) (hs : vl.size ≤ 9223372036854775807) (nm r0 t0 : Value) (w : World) (hx : sg (B ⟨#[45]⟩) (B vl) = B ⟨#[45]⟩)
    (hS : Sits w b 80 #[nm, .string ⟨#[]⟩, .bool false, .int .i64 0, .string ⟨#[]⟩, r0, t0]) :
    Calls Tryz.prog 75 #[.pointer (some ⟨b, 0, none⟩), .string ⟨#[99]⟩, .string vl] w fun e w' => But b w w' ∧
      ((num ((B vl).drop 1) = none ∧ e = .returned (.bool false)) ∨ (∃ v, num ((B vl).drop 1) = some v ∧ e = .returned (.bool true) ∧ Sits w' b 80 #[nm, .string ⟨#[99]⟩, .bool false, .int .i64 (-v), .string ⟨#[]⟩, r0, t0])) := by
  have HS := hide hS
  have HX := hide hx
  clear hS hx
  go_enter Tryz.func75, Tryz.ntmps75
  go_wp2_with (go_at_call 131; refine (cutSignAt vl ⟨#[45]⟩ ⟨#[45]⟩ hs HX.out _).mono ?_; rintro e w' ⟨⟨r, rfl, hr, hsr⟩, n, rfl⟩)
  go_at_call 132
  refine (readNumber r (by omega) _).mono ?_
  have hr2 : B r = (B vl).drop 1 := hr
  rintro e w' ⟨⟨v, hv, rfl⟩ | ⟨hv, rfl⟩, hbw⟩
  · rw [hr2] at hv
    have hbw' : Below w.heap.size w w' := below_back hbw
    have hS' := HS.out.below hbw' HS.out.lt
    have HS' := hide hS'
    have f1 := hS'.frozen 1
    have f2 := hS'.frozen 2
    have f3 := hS'.frozen 3
    have c1 := hS'.cell 1 _ rfl
    have c2 := hS'.cell 2 _ rfl
    have c3 := hS'.cell 3 _ rfl
    have hnv := num_some hv
    have HV := hide hv
    have HW := hide hbw'
    clear hv hS' hbw hbw'
    go_wp2_with fail
    go_ret
    refine ⟨(((But.of_below HW.out).set 1 _).set 3 _).set 2 _, Or.inr ⟨v, HV.out, rfl, ((HS'.out.set 1 _).set 3 _).set 2 _⟩⟩
  · rw [hr2] at hv
    have hbw' : Below w.heap.size w w' := below_back hbw
    have hS' := HS.out.below hbw' HS.out.lt
    have HS' := hide hS'
    have f1 := hS'.frozen 1
    have f2 := hS'.frozen 2
    have f3 := hS'.frozen 3
    have c1 := hS'.cell 1 _ rfl
    have c2 := hS'.cell 2 _ rfl
    have c3 := hS'.cell 3 _ rfl
    have HV := hide hv
    have HW := hide hbw'
    clear hv hS' hbw hbw'
    go_wp2_with fail
    go_ret
    refine ⟨(((But.of_below HW.out).set 1 _).set 3 _).set 2 _, Or.inl ⟨HV.out, rfl⟩⟩

theorem value_g_plain (b : Nat) (vl : ByteArray) (hs : vl.size ≤ 9223372036854775807) (nm r0 t0 : Value) (w : World) (hx : sg (B ⟨#[43, 45]⟩) (B vl) = B ⟨#[]⟩)
    (hS : Sits w b 80 #[nm, .string ⟨#[]⟩, .bool false, .int .i64 0, .string ⟨#[]⟩, r0, t0]) :
    Calls Tryz.prog 75 #[.pointer (some ⟨b, 0, none⟩), .string ⟨#[103]⟩, .string vl] w fun e w' => But b w w' ∧
      ((num ((B vl).drop 0) = none ∧ e = .returned (.bool false)) ∨ (∃ v, num ((B vl).drop 0) = some v ∧ e = .returned (.bool true) ∧ Sits w' b 80 #[nm, .string ⟨#[103]⟩, .bool false, .int .i64 (v), .string ⟨#[]⟩, r0, t0])) := by
  have HS := hide hS
  have HX := hide hx
  clear hS hx
  go_enter Tryz.func75, Tryz.ntmps75
  go_wp2_with (go_at_call 131; refine (cutSignAt vl ⟨#[43, 45]⟩ ⟨#[]⟩ hs HX.out _).mono ?_; rintro e w' ⟨⟨r, rfl, hr, hsr⟩, n, rfl⟩)
  go_at_call 132
  refine (readNumber r (by omega) _).mono ?_
  have hr2 : B r = (B vl).drop 0 := hr
  rintro e w' ⟨⟨v, hv, rfl⟩ | ⟨hv, rfl⟩, hbw⟩
  · rw [hr2] at hv
    have hbw' : Below w.heap.size w w' := below_back hbw
    have hS' := HS.out.below hbw' HS.out.lt
    have HS' := hide hS'
    have f1 := hS'.frozen 1
    have f2 := hS'.frozen 2
    have f3 := hS'.frozen 3
    have c1 := hS'.cell 1 _ rfl
    have c2 := hS'.cell 2 _ rfl
    have c3 := hS'.cell 3 _ rfl
    have hnv := num_some hv
    have HV := hide hv
    have HW := hide hbw'
    clear hv hS' hbw hbw'
    go_wp2_with fail
    go_ret
    refine ⟨(((But.of_below HW.out).set 1 _).set 3 _).set 2 _, Or.inr ⟨v, HV.out, rfl, ((HS'.out.set 1 _).set 3 _).set 2 _⟩⟩
  · rw [hr2] at hv
    have hbw' : Below w.heap.size w w' := below_back hbw
    have hS' := HS.out.below hbw' HS.out.lt
    have HS' := hide hS'
    have f1 := hS'.frozen 1
    have f2 := hS'.frozen 2
    have f3 := hS'.frozen 3
    have c1 := hS'.cell 1 _ rfl
    have c2 := hS'.cell 2 _ rfl
    have c3 := hS'.cell 3 _ rfl
    have HV := hide hv
    have HW := hide hbw'
    clear hv hS' hbw hbw'
    go_wp2_with fail
    go_ret
    refine ⟨(((But.of_below HW.out).set 1 _).set 3 _).set 2 _, Or.inl ⟨HV.out, rfl⟩⟩

theorem value_g_plus (b : Nat) (vl : ByteArray) (hs : vl.size ≤ 9223372036854775807) (nm r0 t0 : Value) (w : World) (hx : sg (B ⟨#[43, 45]⟩) (B vl) = B ⟨#[43]⟩)
    (hS : Sits w b 80 #[nm, .string ⟨#[]⟩, .bool false, .int .i64 0, .string ⟨#[]⟩, r0, t0]) :
    Calls Tryz.prog 75 #[.pointer (some ⟨b, 0, none⟩), .string ⟨#[103]⟩, .string vl] w fun e w' => But b w w' ∧
      ((num ((B vl).drop 1) = none ∧ e = .returned (.bool false)) ∨ (∃ v, num ((B vl).drop 1) = some v ∧ e = .returned (.bool true) ∧ Sits w' b 80 #[nm, .string ⟨#[103]⟩, .bool true, .int .i64 (v), .string ⟨#[]⟩, r0, t0])) := by
  have HS := hide hS
  have HX := hide hx
  clear hS hx
  go_enter Tryz.func75, Tryz.ntmps75
  go_wp2_with (go_at_call 131; refine (cutSignAt vl ⟨#[43, 45]⟩ ⟨#[43]⟩ hs HX.out _).mono ?_; rintro e w' ⟨⟨r, rfl, hr, hsr⟩, n, rfl⟩)
  go_at_call 132
  refine (readNumber r (by omega) _).mono ?_
  have hr2 : B r = (B vl).drop 1 := hr
  rintro e w' ⟨⟨v, hv, rfl⟩ | ⟨hv, rfl⟩, hbw⟩
  · rw [hr2] at hv
    have hbw' : Below w.heap.size w w' := below_back hbw
    have hS' := HS.out.below hbw' HS.out.lt
    have HS' := hide hS'
    have f1 := hS'.frozen 1
    have f2 := hS'.frozen 2
    have f3 := hS'.frozen 3
    have c1 := hS'.cell 1 _ rfl
    have c2 := hS'.cell 2 _ rfl
    have c3 := hS'.cell 3 _ rfl
    have hnv := num_some hv
    have HV := hide hv
    have HW := hide hbw'
    clear hv hS' hbw hbw'
    go_wp2_with fail
    go_ret
    refine ⟨(((But.of_below HW.out).set 1 _).set 3 _).set 2 _, Or.inr ⟨v, HV.out, rfl, ((HS'.out.set 1 _).set 3 _).set 2 _⟩⟩
  · rw [hr2] at hv
    have hbw' : Below w.heap.size w w' := below_back hbw
    have hS' := HS.out.below hbw' HS.out.lt
    have HS' := hide hS'
    have f1 := hS'.frozen 1
    have f2 := hS'.frozen 2
    have f3 := hS'.frozen 3
    have c1 := hS'.cell 1 _ rfl
    have c2 := hS'.cell 2 _ rfl
    have c3 := hS'.cell 3 _ rfl
    have HV := hide hv
    have HW := hide hbw'
    clear hv hS' hbw hbw'
    go_wp2_with fail
    go_ret
    refine ⟨(((But.of_below HW.out).set 1 _).set 3 _).set 2 _, Or.inl ⟨HV.out, rfl⟩⟩

theorem value_g_minus (b : Nat) (vl : ByteArray) (hs : vl.size ≤ 9223372036854775807) (nm r0 t0 : Value) (w : World) (hx : sg (B ⟨#[43, 45]⟩) (B vl) = B ⟨#[45]⟩)
    (hS : Sits w b 80 #[nm, .string ⟨#[]⟩, .bool false, .int .i64 0, .string ⟨#[]⟩, r0, t0]) :
    Calls Tryz.prog 75 #[.pointer (some ⟨b, 0, none⟩), .string ⟨#[103]⟩, .string vl] w fun e w' => But b w w' ∧
      ((num ((B vl).drop 1) = none ∧ e = .returned (.bool false)) ∨ (∃ v, num ((B vl).drop 1) = some v ∧ e = .returned (.bool true) ∧ Sits w' b 80 #[nm, .string ⟨#[103]⟩, .bool true, .int .i64 (-v), .string ⟨#[]⟩, r0, t0])) := by
  have HS := hide hS
  have HX := hide hx
  clear hS hx
  go_enter Tryz.func75, Tryz.ntmps75
  go_wp2_with (go_at_call 131; refine (cutSignAt vl ⟨#[43, 45]⟩ ⟨#[45]⟩ hs HX.out _).mono ?_; rintro e w' ⟨⟨r, rfl, hr, hsr⟩, n, rfl⟩)
  go_at_call 132
  refine (readNumber r (by omega) _).mono ?_
  have hr2 : B r = (B vl).drop 1 := hr
  rintro e w' ⟨⟨v, hv, rfl⟩ | ⟨hv, rfl⟩, hbw⟩
  · rw [hr2] at hv
    have hbw' : Below w.heap.size w w' := below_back hbw
    have hS' := HS.out.below hbw' HS.out.lt
    have HS' := hide hS'
    have f1 := hS'.frozen 1
    have f2 := hS'.frozen 2
    have f3 := hS'.frozen 3
    have c1 := hS'.cell 1 _ rfl
    have c2 := hS'.cell 2 _ rfl
    have c3 := hS'.cell 3 _ rfl
    have hnv := num_some hv
    have HV := hide hv
    have HW := hide hbw'
    clear hv hS' hbw hbw'
    go_wp2_with fail
    go_ret
    refine ⟨(((But.of_below HW.out).set 1 _).set 3 _).set 2 _, Or.inr ⟨v, HV.out, rfl, ((HS'.out.set 1 _).set 3 _).set 2 _⟩⟩
  · rw [hr2] at hv
    have hbw' : Below w.heap.size w w' := below_back hbw
    have hS' := HS.out.below hbw' HS.out.lt
    have HS' := hide hS'
    have f1 := hS'.frozen 1
    have f2 := hS'.frozen 2
    have f3 := hS'.frozen 3
    have c1 := hS'.cell 1 _ rfl
    have c2 := hS'.cell 2 _ rfl
    have c3 := hS'.cell 3 _ rfl
    have HV := hide hv
    have HW := hide hbw'
    clear hv hS' hbw hbw'
    go_wp2_with fail
    go_ret
    refine ⟨(((But.of_below HW.out).set 1 _).set 3 _).set 2 _, Or.inl ⟨HV.out, rfl⟩⟩

theorem value_h_plain (b : Nat) (vl : ByteArray) (hs : vl.size ≤ 9223372036854775807) (nm r0 t0 : Value) (w : World) (hx : sg (B ⟨#[]⟩) (B vl) = B ⟨#[]⟩)
    (hS : Sits w b 80 #[nm, .string ⟨#[]⟩, .bool false, .int .i64 0, .string ⟨#[]⟩, r0, t0]) :
    Calls Tryz.prog 75 #[.pointer (some ⟨b, 0, none⟩), .string ⟨#[104]⟩, .string vl] w fun e w' => But b w w' ∧
      ((num ((B vl).drop 0) = none ∧ e = .returned (.bool false)) ∨ (∃ v, num ((B vl).drop 0) = some v ∧ e = .returned (.bool true) ∧ Sits w' b 80 #[nm, .string ⟨#[109, 115]⟩, .bool false, .int .i64 (v), .string ⟨#[]⟩, r0, t0])) := by
  have HS := hide hS
  have HX := hide hx
  clear hS hx
  go_enter Tryz.func75, Tryz.ntmps75
  go_wp2_with (go_at_call 131; refine (cutSignAt vl ⟨#[]⟩ ⟨#[]⟩ hs HX.out _).mono ?_; rintro e w' ⟨⟨r, rfl, hr, hsr⟩, n, rfl⟩)
  go_at_call 132
  refine (readNumber r (by omega) _).mono ?_
  have hr2 : B r = (B vl).drop 0 := hr
  rintro e w' ⟨⟨v, hv, rfl⟩ | ⟨hv, rfl⟩, hbw⟩
  · rw [hr2] at hv
    have hbw' : Below w.heap.size w w' := below_back hbw
    have hS' := HS.out.below hbw' HS.out.lt
    have HS' := hide hS'
    have f1 := hS'.frozen 1
    have f2 := hS'.frozen 2
    have f3 := hS'.frozen 3
    have c1 := hS'.cell 1 _ rfl
    have c2 := hS'.cell 2 _ rfl
    have c3 := hS'.cell 3 _ rfl
    have hnv := num_some hv
    have HV := hide hv
    have HW := hide hbw'
    clear hv hS' hbw hbw'
    go_wp2_with fail
    go_ret
    refine ⟨(((But.of_below HW.out).set 1 _).set 3 _).set 2 _, Or.inr ⟨v, HV.out, rfl, ((HS'.out.set 1 _).set 3 _).set 2 _⟩⟩
  · rw [hr2] at hv
    have hbw' : Below w.heap.size w w' := below_back hbw
    have hS' := HS.out.below hbw' HS.out.lt
    have HS' := hide hS'
    have f1 := hS'.frozen 1
    have f2 := hS'.frozen 2
    have f3 := hS'.frozen 3
    have c1 := hS'.cell 1 _ rfl
    have c2 := hS'.cell 2 _ rfl
    have c3 := hS'.cell 3 _ rfl
    have HV := hide hv
    have HW := hide hbw'
    clear hv hS' hbw hbw'
    go_wp2_with fail
    go_ret
    refine ⟨(((But.of_below HW.out).set 1 _).set 3 _).set 2 _, Or.inl ⟨HV.out, rfl⟩⟩

theorem value_ms_plain (b : Nat) (vl : ByteArray) (hs : vl.size ≤ 9223372036854775807) (nm r0 t0 : Value) (w : World) (hx : sg (B ⟨#[]⟩) (B vl) = B ⟨#[]⟩)
    (hS : Sits w b 80 #[nm, .string ⟨#[]⟩, .bool false, .int .i64 0, .string ⟨#[]⟩, r0, t0]) :
    Calls Tryz.prog 75 #[.pointer (some ⟨b, 0, none⟩), .string ⟨#[109, 115]⟩, .string vl] w fun e w' => But b w w' ∧
      ((num ((B vl).drop 0) = none ∧ e = .returned (.bool false)) ∨ (∃ v, num ((B vl).drop 0) = some v ∧ e = .returned (.bool true) ∧ Sits w' b 80 #[nm, .string ⟨#[109, 115]⟩, .bool false, .int .i64 (v), .string ⟨#[]⟩, r0, t0])) := by
  have HS := hide hS
  have HX := hide hx
  clear hS hx
  go_enter Tryz.func75, Tryz.ntmps75
  go_wp2_with (go_at_call 131; refine (cutSignAt vl ⟨#[]⟩ ⟨#[]⟩ hs HX.out _).mono ?_; rintro e w' ⟨⟨r, rfl, hr, hsr⟩, n, rfl⟩)
  go_at_call 132
  refine (readNumber r (by omega) _).mono ?_
  have hr2 : B r = (B vl).drop 0 := hr
  rintro e w' ⟨⟨v, hv, rfl⟩ | ⟨hv, rfl⟩, hbw⟩
  · rw [hr2] at hv
    have hbw' : Below w.heap.size w w' := below_back hbw
    have hS' := HS.out.below hbw' HS.out.lt
    have HS' := hide hS'
    have f1 := hS'.frozen 1
    have f2 := hS'.frozen 2
    have f3 := hS'.frozen 3
    have c1 := hS'.cell 1 _ rfl
    have c2 := hS'.cell 2 _ rfl
    have c3 := hS'.cell 3 _ rfl
    have hnv := num_some hv
    have HV := hide hv
    have HW := hide hbw'
    clear hv hS' hbw hbw'
    go_wp2_with fail
    go_ret
    refine ⟨(((But.of_below HW.out).set 1 _).set 3 _).set 2 _, Or.inr ⟨v, HV.out, rfl, ((HS'.out.set 1 _).set 3 _).set 2 _⟩⟩
  · rw [hr2] at hv
    have hbw' : Below w.heap.size w w' := below_back hbw
    have hS' := HS.out.below hbw' HS.out.lt
    have HS' := hide hS'
    have f1 := hS'.frozen 1
    have f2 := hS'.frozen 2
    have f3 := hS'.frozen 3
    have c1 := hS'.cell 1 _ rfl
    have c2 := hS'.cell 2 _ rfl
    have c3 := hS'.cell 3 _ rfl
    have HV := hide hv
    have HW := hide hbw'
    clear hv hS' hbw hbw'
    go_wp2_with fail
    go_ret
    refine ⟨(((But.of_below HW.out).set 1 _).set 3 _).set 2 _, Or.inl ⟨HV.out, rfl⟩⟩

theorem value_set (b : Nat) (vl : ByteArray) (hs : vl.size ≤ 9223372036854775807) (nm r0 t0 : Value) (w : World)
    (hS : Sits w b 80 #[nm, .string ⟨#[]⟩, .bool false, .int .i64 0, .string ⟨#[]⟩, r0, t0]) :
    Calls Tryz.prog 75 #[.pointer (some ⟨b, 0, none⟩), .string ⟨#[115]⟩, .string vl] w fun e w' => But b w w' ∧
      e = .returned (.bool (made let_ 16 (B vl))) ∧ Sits w' b 80 #[nm, .string ⟨#[115]⟩, .bool false, .int .i64 0, .string vl, r0, t0] := by
  have HS := hide hS
  have f1 := hS.frozen 1
  have f4 := hS.frozen 4
  have c1 := hS.cell 1 _ rfl
  have c4 := hS.cell 4 _ rfl
  clear hS
  go_enter Tryz.func75, Tryz.ntmps75
  go_wp2_with (go_at_call 130; refine (Leaf.isWord vl 16 hs _).mono ?_; rintro e w' ⟨rfl, rfl⟩)
  go_ret
  exact ⟨((But.refl _ _).set 1 _).set 4 _, rfl, (HS.out.set 1 _).set 4 _⟩

theorem value_none (b : Nat) (kd vl : ByteArray) (w : World) (h1 : (kd.toList == [115]) = false) (h2 : (kd.toList == [99]) = false) (h3 : (kd.toList == [103]) = false) (h4 : (kd.toList == [104]) = false) (h5 : (kd.toList == [109, 115]) = false) :
    Calls Tryz.prog 75 #[.pointer (some ⟨b, 0, none⟩), .string kd, .string vl] w fun e w' => e = .returned (.bool false) ∧ w = w' := by
  go_enter Tryz.func75, Tryz.ntmps75
  go_wp2_with fail
  go_ret
  exact ⟨rfl, rfl⟩

end Go.Proofs.YtenegfafjjknoaaGreatDoor.Valw
