/- The document's value, whatever the type and the sign. -/
import Derived.Test.YtenegfafjjknoaaGreatDoorRefv
import Derived.Test.YtenegfafjjknoaaGreatDoorVals
namespace Go.Proofs.YtenegfafjjknoaaGreatDoor.Refvj
open Go.RowKit Bytes Nums Refs Numw Mem Refw Refn Refv

theorem val_none (b : Nat) (vl kd : ByteArray) (rated : Bool) (hs : vl.size ≤ 140737488355328) (nm r0 t0 : Value) (w : World) (h1 : (kd.toList == [99]) = false) (h2 : (kd.toList == [103]) = false) (h3 : (kd.toList == [115]) = false) (h4 : (kd.toList == [109, 115]) = false) (h5 : (kd.toList == [104]) = false)
    (hS : Sits w b 85 #[nm, .int .u8 0, .int .i64 0, .string ⟨#[]⟩, r0, t0]) :
    Calls Tryz.prog 83 #[.pointer (some ⟨b, 0, none⟩), .string vl, .string kd, .bool rated] w fun e w' => e = .returned (.bool false) ∧ But b w w' ∧ ∃ v, Sits w' b 85 #[nm, .int .u8 0, .int .i64 v, .string ⟨#[]⟩, r0, t0] := by
  have HS := hide hS
  obtain ⟨c0, c1, c2, c3, c4, c5⟩ := cells6 hS
  obtain ⟨z0, z1, z2, z3, z4, z5⟩ := frozen6 hS
  clear hS
  have hn : ∀ (x : ByteArray) (W : World), x.size ≤ 140737488355328 → Calls Tryz.prog 82 #[.string x] W fun e w' => (∃ v, e = .returned (.int .i64 v) ∧ -1 ≤ v ∧ v ≤ 999999999) ∧ W = w' := fun x W hx => (number x hx W).mono fun e w' h => ⟨⟨_, h.1, (refNum_bound _).1, (refNum_bound _).2⟩, h.2⟩
  have HN := hide hn
  clear hn
  by_cases h0 : vl.size = 0
  · have hv0 : vl.toList.isEmpty = true := by
      rw [B_nil]
      exact List.eq_nil_of_length_eq_zero (by rw [← size_B]; exact h0)
    go_enter Tryz.func83, Tryz.ntmps83
    go_wp2_with (go_at_call 82; refine (HN.out vl _ hs).mono ?_; rintro e w' ⟨⟨v, rfl, hv1, hv2⟩, rfl⟩)
    go_ret
    exact ⟨rfl, (But.refl _ _).set 2 _, v, HS.out.set 2 _⟩
  · have hvz : 0 < vl.size := by omega
    have hv0 : vl.toList.isEmpty = false := by
      cases hc : vl.toList.isEmpty with
      | false => rfl
      | true =>
        rw [B_nil] at hc
        rw [size_B, hc] at h0
        exact absurd rfl h0
    by_cases hm : (vl[0].toNat : Int) = 45
    · have hm1 : ((vl[0].toNat : Int) == 45) = true := by simpa using hm
      have HM := hide hm
      clear hm
      go_enter Tryz.func83, Tryz.ntmps83
      go_wp2_with (go_at_call 82; refine (HN.out (vl.extract 1 vl.size) _ (by rw [ByteArray.size_extract]; omega)).mono ?_; rintro e w' ⟨⟨v, rfl, hv1, hv2⟩, rfl⟩)
      go_ret
      exact ⟨rfl, ((But.refl _ _).set 2 _).set 2 _, _, (HS.out.set 2 _).set 2 _⟩
    · have hm1 : ((vl[0].toNat : Int) == 45) = false := by simpa using hm
      by_cases hp : (vl[0].toNat : Int) = 43
      · have hp1 : ((vl[0].toNat : Int) == 43) = true := by simpa using hp
        have HM := hide hp
        clear hp hm
        go_enter Tryz.func83, Tryz.ntmps83
        go_wp2_with (go_at_call 82; refine (HN.out (vl.extract 1 vl.size) _ (by rw [ByteArray.size_extract]; omega)).mono ?_; rintro e w' ⟨⟨v, rfl, hv1, hv2⟩, rfl⟩)
        go_ret
        exact ⟨rfl, (But.refl _ _).set 2 _, _, HS.out.set 2 _⟩
      · have hp1 : ((vl[0].toNat : Int) == 43) = false := by simpa using hp
        clear hp hm
        go_enter Tryz.func83, Tryz.ntmps83
        go_wp2_with (go_at_call 82; refine (HN.out vl _ hs).mono ?_; rintro e w' ⟨⟨v, rfl, hv1, hv2⟩, rfl⟩)
        go_ret
        exact ⟨rfl, (But.refl _ _).set 2 _, _, HS.out.set 2 _⟩

/-- What valued says and leaves. -/
def Joined (b : Nat) (k l : List UInt8) (rated : Bool) (nm r0 t0 : Value) (w : World) (e : Ending) (w' : World) : Prop :=
  But b w w' ∧ ((refVal k l rated = none ∧ e = .returned (.bool false) ∧ ∃ (K v : Int) (wb : ByteArray), Sits w' b 85 #[nm, .int .u8 K, .int .i64 v, .string wb, r0, t0]) ∨
    (∃ K v x, refVal k l rated = some (K, v, x) ∧ e = .returned (.bool true) ∧ ∃ wb : ByteArray, B wb = x ∧ Sits w' b 85 #[nm, .int .u8 K, .int .i64 v, .string wb, r0, t0]))

theorem joined_of {b : Nat} {k l : List UInt8} {rated ok : Bool} {nm r0 t0 : Value} {w w' : World} {e : Ending} {K v : Int} {wb : ByteArray} (h : e = .returned (.bool ok) ∧ But b w w' ∧ Sits w' b 85 #[nm, .int .u8 K, .int .i64 v, .string wb, r0, t0])
    (hv : refVal k l rated = if ok = true then some (K, v, B wb) else none) : Joined b k l rated nm r0 t0 w e w' := by
  obtain ⟨he, hb, hS⟩ := h
  cases ok with
  | true => exact ⟨hb, Or.inr ⟨K, v, B wb, hv, he, wb, rfl, hS⟩⟩
  | false => exact ⟨hb, Or.inl ⟨hv, he, K, v, wb, hS⟩⟩

theorem B_none : B ⟨#[]⟩ = [] := rfl

theorem rsg_nil {l : List UInt8} (h : l = []) : rsg l = 0 := by rw [h]; rfl
theorem rsg_cons {s : ByteArray} (h : 0 < s.size) : rsg (B s) = if s[0] = 45 then 45 else if s[0] = 43 then 43 else 0 := by
  rw [B_cons h]
  rfl
theorem byte_is {b c : UInt8} (h : (b.toNat : Int) = (c.toNat : Int)) : b = c := by
  apply UInt8.toNat_inj.1
  omega
theorem byte_not {b c : UInt8} (h : ¬ (b.toNat : Int) = (c.toNat : Int)) : ¬ b = c := by
  rintro rfl
  exact h rfl

theorem valued (b : Nat) (vl kd : ByteArray) (rated : Bool) (hs : vl.size ≤ 140737488355328) (nm r0 t0 : Value) (w : World)
    (hS : Sits w b 85 #[nm, .int .u8 0, .int .i64 0, .string ⟨#[]⟩, r0, t0]) :
    Calls Tryz.prog 83 #[.pointer (some ⟨b, 0, none⟩), .string vl, .string kd, .bool rated] w fun e w' => Joined b (B kd) (B vl) rated nm r0 t0 w e w' := by
  by_cases hz : vl.size = 0
  · have hnil : B vl = [] := List.eq_nil_of_length_eq_zero (by rw [← size_B]; exact hz)
    have hv0 : vl.toList.isEmpty = true := B_nil.2 hnil
    have hg : rsg (B vl) = 0 := rsg_nil hnil
    have hr : rrest (B vl) = B vl := by rw [rrest, if_pos hg]
    by_cases h1 : B kd = [99]
    · obtain rfl : kd = ⟨#[99]⟩ := B_inj h1
      refine (val_c_e b vl rated hs nm r0 t0 w hv0 hS).mono fun e w' h => joined_of h ?_
      rw [refVal, hg, hr, h1, B_none]
      cases rated <;> simp
    by_cases h2 : B kd = [103]
    · obtain rfl : kd = ⟨#[103]⟩ := B_inj h2
      refine (val_g_e b vl rated hs nm r0 t0 w hv0 hS).mono fun e w' h => joined_of h ?_
      rw [refVal, hg, hr, h2, B_none]
      cases rated <;> simp
    by_cases h3 : B kd = [115]
    · obtain rfl : kd = ⟨#[115]⟩ := B_inj h3
      refine (val_s_e b vl rated hs nm r0 t0 w hv0 hS).mono fun e w' h => joined_of h ?_
      rw [refVal, hg, hr, h3]
      cases rated <;> simp
    by_cases h4 : B kd = [109, 115]
    · obtain rfl : kd = ⟨#[109, 115]⟩ := B_inj h4
      refine (val_ms_e b vl rated hs nm r0 t0 w hv0 hS).mono fun e w' h => joined_of h ?_
      rw [refVal, hg, hr, h4, B_none]
      cases rated <;> simp
    by_cases h5 : B kd = [104]
    · obtain rfl : kd = ⟨#[104]⟩ := B_inj h5
      refine (val_h_e b vl rated hs nm r0 t0 w hv0 hS).mono fun e w' h => joined_of h ?_
      rw [refVal, hg, hr, h5, B_none]
      cases rated <;> simp
    refine (val_none b vl kd rated hs nm r0 t0 w (Vals.ne_list h1) (Vals.ne_list h2) (Vals.ne_list h3) (Vals.ne_list h4) (Vals.ne_list h5) hS).mono fun e w' h => ?_
    obtain ⟨he, hb, v, hS2⟩ := h
    exact ⟨hb, Or.inl ⟨by simp [refVal, h1, h2, h3, h4, h5], he, _, _, _, hS2⟩⟩
  · have hvz : 0 < vl.size := by omega
    have hv0 : vl.toList.isEmpty = false := by
      cases hc : vl.toList.isEmpty with
      | false => rfl
      | true =>
        rw [B_nil] at hc
        rw [size_B, hc] at hz
        exact absurd rfl hz
    by_cases hm : (vl[0].toNat : Int) = 45
    · have hg : rsg (B vl) = 45 := by rw [rsg_cons hvz, if_pos (byte_is hm)]
      have hr : rrest (B vl) = (B vl).drop 1 := by rw [rrest, if_neg (by rw [hg]; decide)]
      by_cases h1 : B kd = [99]
      · obtain rfl : kd = ⟨#[99]⟩ := B_inj h1
        refine (val_c_m b vl rated hs nm r0 t0 w hv0 hvz hm hS).mono fun e w' h => joined_of h ?_
        rw [refVal, hg, hr, h1, B_none]
        cases rated <;> simp
      by_cases h2 : B kd = [103]
      · obtain rfl : kd = ⟨#[103]⟩ := B_inj h2
        refine (val_g_m b vl rated hs nm r0 t0 w hv0 hvz hm hS).mono fun e w' h => joined_of h ?_
        rw [refVal, hg, hr, h2, B_none]
        cases rated <;> simp
      by_cases h3 : B kd = [115]
      · obtain rfl : kd = ⟨#[115]⟩ := B_inj h3
        refine (val_s_m b vl rated hs nm r0 t0 w hv0 hvz hm hS).mono fun e w' h => joined_of h ?_
        rw [refVal, hg, hr, h3]
        cases rated <;> simp
      by_cases h4 : B kd = [109, 115]
      · obtain rfl : kd = ⟨#[109, 115]⟩ := B_inj h4
        refine (val_ms_m b vl rated hs nm r0 t0 w hv0 hvz hm hS).mono fun e w' h => joined_of h ?_
        rw [refVal, hg, hr, h4, B_none]
        cases rated <;> simp
      by_cases h5 : B kd = [104]
      · obtain rfl : kd = ⟨#[104]⟩ := B_inj h5
        refine (val_h_m b vl rated hs nm r0 t0 w hv0 hvz hm hS).mono fun e w' h => joined_of h ?_
        rw [refVal, hg, hr, h5, B_none]
        cases rated <;> simp
      refine (val_none b vl kd rated hs nm r0 t0 w (Vals.ne_list h1) (Vals.ne_list h2) (Vals.ne_list h3) (Vals.ne_list h4) (Vals.ne_list h5) hS).mono fun e w' h => ?_
      obtain ⟨he, hb, v, hS2⟩ := h
      exact ⟨hb, Or.inl ⟨by simp [refVal, h1, h2, h3, h4, h5], he, _, _, _, hS2⟩⟩
    · by_cases hp : (vl[0].toNat : Int) = 43
      · have hg : rsg (B vl) = 43 := by rw [rsg_cons hvz, if_neg (byte_not hm), if_pos (byte_is hp)]
        have hr : rrest (B vl) = (B vl).drop 1 := by rw [rrest, if_neg (by rw [hg]; decide)]
        by_cases h1 : B kd = [99]
        · obtain rfl : kd = ⟨#[99]⟩ := B_inj h1
          refine (val_c_p b vl rated hs nm r0 t0 w hv0 hvz hp hS).mono fun e w' h => joined_of h ?_
          rw [refVal, hg, hr, h1, B_none]
          cases rated <;> simp
        by_cases h2 : B kd = [103]
        · obtain rfl : kd = ⟨#[103]⟩ := B_inj h2
          refine (val_g_p b vl rated hs nm r0 t0 w hv0 hvz hp hS).mono fun e w' h => joined_of h ?_
          rw [refVal, hg, hr, h2, B_none]
          cases rated <;> simp
        by_cases h3 : B kd = [115]
        · obtain rfl : kd = ⟨#[115]⟩ := B_inj h3
          refine (val_s_p b vl rated hs nm r0 t0 w hv0 hvz hp hS).mono fun e w' h => joined_of h ?_
          rw [refVal, hg, hr, h3]
          cases rated <;> simp
        by_cases h4 : B kd = [109, 115]
        · obtain rfl : kd = ⟨#[109, 115]⟩ := B_inj h4
          refine (val_ms_p b vl rated hs nm r0 t0 w hv0 hvz hp hS).mono fun e w' h => joined_of h ?_
          rw [refVal, hg, hr, h4, B_none]
          cases rated <;> simp
        by_cases h5 : B kd = [104]
        · obtain rfl : kd = ⟨#[104]⟩ := B_inj h5
          refine (val_h_p b vl rated hs nm r0 t0 w hv0 hvz hp hS).mono fun e w' h => joined_of h ?_
          rw [refVal, hg, hr, h5, B_none]
          cases rated <;> simp
        refine (val_none b vl kd rated hs nm r0 t0 w (Vals.ne_list h1) (Vals.ne_list h2) (Vals.ne_list h3) (Vals.ne_list h4) (Vals.ne_list h5) hS).mono fun e w' h => ?_
        obtain ⟨he, hb, v, hS2⟩ := h
        exact ⟨hb, Or.inl ⟨by simp [refVal, h1, h2, h3, h4, h5], he, _, _, _, hS2⟩⟩
      · have hg : rsg (B vl) = 0 := by rw [rsg_cons hvz, if_neg (byte_not hm), if_neg (byte_not hp)]
        have hr : rrest (B vl) = B vl := by rw [rrest, if_pos hg]
        have hv1 : ((vl[0].toNat : Int) == 45) = false := by simpa using hm
        have hv2 : ((vl[0].toNat : Int) == 43) = false := by simpa using hp
        by_cases h1 : B kd = [99]
        · obtain rfl : kd = ⟨#[99]⟩ := B_inj h1
          refine (val_c_o b vl rated hs nm r0 t0 w hv0 hvz hv1 hv2 hS).mono fun e w' h => joined_of h ?_
          rw [refVal, hg, hr, h1, B_none]
          cases rated <;> simp
        by_cases h2 : B kd = [103]
        · obtain rfl : kd = ⟨#[103]⟩ := B_inj h2
          refine (val_g_o b vl rated hs nm r0 t0 w hv0 hvz hv1 hv2 hS).mono fun e w' h => joined_of h ?_
          rw [refVal, hg, hr, h2, B_none]
          cases rated <;> simp
        by_cases h3 : B kd = [115]
        · obtain rfl : kd = ⟨#[115]⟩ := B_inj h3
          refine (val_s_o b vl rated hs nm r0 t0 w hv0 hvz hv1 hv2 hS).mono fun e w' h => joined_of h ?_
          rw [refVal, hg, hr, h3]
          cases rated <;> simp
        by_cases h4 : B kd = [109, 115]
        · obtain rfl : kd = ⟨#[109, 115]⟩ := B_inj h4
          refine (val_ms_o b vl rated hs nm r0 t0 w hv0 hvz hv1 hv2 hS).mono fun e w' h => joined_of h ?_
          rw [refVal, hg, hr, h4, B_none]
          cases rated <;> simp
        by_cases h5 : B kd = [104]
        · obtain rfl : kd = ⟨#[104]⟩ := B_inj h5
          refine (val_h_o b vl rated hs nm r0 t0 w hv0 hvz hv1 hv2 hS).mono fun e w' h => joined_of h ?_
          rw [refVal, hg, hr, h5, B_none]
          cases rated <;> simp
        refine (val_none b vl kd rated hs nm r0 t0 w (Vals.ne_list h1) (Vals.ne_list h2) (Vals.ne_list h3) (Vals.ne_list h4) (Vals.ne_list h5) hS).mono fun e w' h => ?_
        obtain ⟨he, hb, v, hS2⟩ := h
        exact ⟨hb, Or.inl ⟨by simp [refVal, h1, h2, h3, h4, h5], he, _, _, _, hS2⟩⟩

end Go.Proofs.YtenegfafjjknoaaGreatDoor.Refvj
