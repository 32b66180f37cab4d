/- The program's readValue, whatever the type. -/
import Derived.Test.YtenegfafjjknoaaGreatDoorValw
namespace Go.Proofs.YtenegfafjjknoaaGreatDoor.Valw
open Go.RowKit Bytes Nums Numw Mem Vals

/-- What readValue says and leaves. -/
def Valued (b : Nat) (k l : List UInt8) (nm r0 t0 : Value) (w : World) (e : Ending) (w' : World) : Prop :=
  But b w w' ∧ ((rv k l = none ∧ e = .returned (.bool false)) ∨ (∃ k' g v x, rv k l = some (k', g, v, x) ∧ e = .returned (.bool true) ∧ ∃ kb wb : ByteArray, B kb = k' ∧ B wb = x ∧ Sits w' b 80 #[nm, .string kb, .bool g, .int .i64 v, .string wb, r0, t0]))

theorem readValue (b : Nat) (kd vl : ByteArray) (hs : vl.size ≤ 9223372036854775807) (nm r0 t0 : Value) (w : World)
    (hS : Sits w b 80 #[nm, .string ⟨#[]⟩, .bool false, .int .i64 0, .string ⟨#[]⟩, r0, t0]) :
    Calls Tryz.prog 75 #[.pointer (some ⟨b, 0, none⟩), .string kd, .string vl] w fun e w' => Valued b (B kd) (B vl) nm r0 t0 w e w' := by
  by_cases h1 : B kd = [115]
  · obtain rfl : kd = ⟨#[115]⟩ := B_inj h1
    refine (value_set b vl hs nm r0 t0 w hS).mono fun e w' h => ?_
    obtain ⟨hb, he, hs'⟩ := h
    refine ⟨hb, ?_⟩
    rw [rv_s h1]
    cases hm : made let_ 16 (B vl) with
    | false =>
      rw [hm] at he
      exact Or.inl ⟨by simp, he⟩
    | true =>
      rw [hm] at he
      exact Or.inr ⟨_, _, _, _, rfl, he, _, _, rfl, rfl, hs'⟩
  by_cases h2 : B kd = [99]
  · obtain rfl : kd = ⟨#[99]⟩ := B_inj h2
    rcases sg_minus (B vl) with hx | hx
    · refine (value_c_plain b vl hs nm r0 t0 w hx hS).mono fun e w' h => ?_
      obtain ⟨hb, ⟨hn, he⟩ | ⟨v, hv, he, hs'⟩⟩ := h
      · exact ⟨hb, Or.inl ⟨by rw [rv_c h2, signed_none hx hn]; rfl, he⟩⟩
      · exact ⟨hb, Or.inr ⟨_, _, _, _, by rw [rv_c h2, signed_plain hx rfl hv]; rfl, he, _, _, rfl, rfl, hs'⟩⟩
    · refine (value_c_minus b vl hs nm r0 t0 w hx hS).mono fun e w' h => ?_
      obtain ⟨hb, ⟨hn, he⟩ | ⟨v, hv, he, hs'⟩⟩ := h
      · exact ⟨hb, Or.inl ⟨by rw [rv_c h2, signed_none hx hn]; rfl, he⟩⟩
      · exact ⟨hb, Or.inr ⟨_, _, _, _, by rw [rv_c h2, signed_minus hx hv]; rfl, he, _, _, rfl, rfl, hs'⟩⟩
  by_cases h3 : B kd = [103]
  · obtain rfl : kd = ⟨#[103]⟩ := B_inj h3
    rcases sg_both (B vl) with hx | hx | hx
    · refine (value_g_plain b vl hs nm r0 t0 w hx hS).mono fun e w' h => ?_
      obtain ⟨hb, ⟨hn, he⟩ | ⟨v, hv, he, hs'⟩⟩ := h
      · exact ⟨hb, Or.inl ⟨by rw [rv_g h3, signed_none hx hn]; rfl, he⟩⟩
      · exact ⟨hb, Or.inr ⟨_, _, _, _, by rw [rv_g h3, signed_plain hx rfl hv]; rfl, he, _, _, rfl, rfl, hs'⟩⟩
    · refine (value_g_plus b vl hs nm r0 t0 w hx hS).mono fun e w' h => ?_
      obtain ⟨hb, ⟨hn, he⟩ | ⟨v, hv, he, hs'⟩⟩ := h
      · exact ⟨hb, Or.inl ⟨by rw [rv_g h3, signed_none hx hn]; rfl, he⟩⟩
      · exact ⟨hb, Or.inr ⟨_, _, _, _, by rw [rv_g h3, signed_plus hx hv]; rfl, he, _, _, rfl, rfl, hs'⟩⟩
    · refine (value_g_minus b vl hs nm r0 t0 w hx hS).mono fun e w' h => ?_
      obtain ⟨hb, ⟨hn, he⟩ | ⟨v, hv, he, hs'⟩⟩ := h
      · exact ⟨hb, Or.inl ⟨by rw [rv_g h3, signed_none hx hn]; rfl, he⟩⟩
      · exact ⟨hb, Or.inr ⟨_, _, _, _, by rw [rv_g h3, signed_minus hx hv]; rfl, he, _, _, rfl, rfl, hs'⟩⟩
  have hx : sg [] (B vl) = [] := sg_none _
  by_cases h4 : B kd = [104]
  · obtain rfl : kd = ⟨#[104]⟩ := B_inj h4
    refine (value_h_plain b vl hs nm r0 t0 w hx hS).mono fun e w' h => ?_
    obtain ⟨hb, ⟨hn, he⟩ | ⟨v, hv, he, hs'⟩⟩ := h
    · exact ⟨hb, Or.inl ⟨by rw [rv_m (Or.inl h4), signed_none hx hn]; rfl, he⟩⟩
    · exact ⟨hb, Or.inr ⟨_, _, _, _, by rw [rv_m (Or.inl h4), signed_plain hx rfl hv]; rfl, he, _, _, rfl, rfl, hs'⟩⟩
  by_cases h5 : B kd = [109, 115]
  · obtain rfl : kd = ⟨#[109, 115]⟩ := B_inj h5
    refine (value_ms_plain b vl hs nm r0 t0 w hx hS).mono fun e w' h => ?_
    obtain ⟨hb, ⟨hn, he⟩ | ⟨v, hv, he, hs'⟩⟩ := h
    · exact ⟨hb, Or.inl ⟨by rw [rv_m (Or.inr h5), signed_none hx hn]; rfl, he⟩⟩
    · exact ⟨hb, Or.inr ⟨_, _, _, _, by rw [rv_m (Or.inr h5), signed_plain hx rfl hv]; rfl, he, _, _, rfl, rfl, hs'⟩⟩
  refine (value_none b kd vl w (ne_list h1) (ne_list h2) (ne_list h3) (ne_list h4) (ne_list h5)).mono fun e w' h => ?_
  obtain ⟨he, rfl⟩ := h
  exact ⟨But.refl _ _, Or.inl ⟨by simp [rv, h1, h2, h3, h4, h5], he⟩⟩

end Go.Proofs.YtenegfafjjknoaaGreatDoor.Valw
