/- The walks of the document's reader: its small parts. -/
import Derived.Test.YtenegfafjjknoaaGreatDoorLeaf
import Derived.Test.YtenegfafjjknoaaGreatDoorTexts
import Derived.Test.YtenegfafjjknoaaGreatDoorRefs
import Derived.Test.YtenegfafjjknoaaGreatDoorNumw
namespace Go.Proofs.YtenegfafjjknoaaGreatDoor.Refw
open Go.RowKit Bytes Nums Refs Numw

theorem not_in {t : ByteArray} {k : Nat} {b : UInt8} (hk : k < t.size) (h : ((B t).take k).contains b = false) (hb : ¬ (b.toNat : Int) = (t[k].toNat : Int)) : ((B t).take (k + 1)).contains b = false := by
  rw [List.take_add_one, B_get hk, Option.toList_some, List.contains_append, h]
  have : b ≠ t[k] := by
    rintro rfl
    exact hb rfl
  simp [this]

theorem is_in {t : ByteArray} {k : Nat} {b : UInt8} (hk : k < t.size) (hb : (b.toNat : Int) = (t[k].toNat : Int)) : (B t).contains b = true := by
  have e : b = t[k] := by
    apply UInt8.toNat_inj.1
    omega
  rw [e]
  simp only [List.contains_iff_mem]
  exact List.mem_of_getElem? (B_get hk)

theorem drop_get {s : ByteArray} {a i : Nat} (ha : a ≤ i) (hi : i < s.size) : ((B s).drop a)[i - a]? = some s[i] := by
  rw [List.getElem?_drop, show a + (i - a) = i by omega, B_get hi]

theorem free_step {s t : ByteArray} {a i : Nat} (ha : a ≤ i) (hi : i < s.size) (h : (((B s).drop a).take (i - a)).all (fun b => !(B t).contains b) = true) (hb : (B t).contains s[i] = false) : (((B s).drop a).take (i + 1 - a)).all (fun b => !(B t).contains b) = true := by
  rw [show i + 1 - a = (i - a) + 1 by omega, List.take_add_one, drop_get ha hi, Option.toList_some, List.all_append, h]
  simp only [List.all_cons, List.all_nil, hb]
  rfl

set_option maxHeartbeats 1000000 in
theorem upTo (s t : ByteArray) (a : Nat) (ha : a ≤ s.size) (hs : s.size ≤ 140737488355328) (ht : t.size ≤ 2) (w : World) :
    Calls Tryz.prog 80 #[.string s, .int .i64 a, .string t] w fun e w' => (∃ z, e = .returned (.tuple #[.string z, .int .i64 ((a + z.size : Nat) : Int)]) ∧ B z = tw (B t) ((B s).drop a) ∧ a + z.size ≤ s.size) ∧ ∃ n, w' = w.drewN n := by
  go_enter Tryz.func80, Tryz.ntmps80
  go_wp2_with fail
  go_loopw [8] (fun s8 wr => ∃ (i n : Nat), s8 = .int .i64 (i : Int) ∧ a ≤ i ∧ i ≤ s.size ∧ wr = w.drewN n ∧ Hid ((((B s).drop a).take (i - a)).all (fun b => !(B t).contains b) = true))
    (fun s8 _ => s.size - (intOf s8).toNat)
  case atStart => exact ⟨a, 0, rfl, Nat.le_refl _, by omega, rfl, by rw [Nat.sub_self]; rfl⟩
  case round =>
    obtain ⟨i, n, rfl, hai, hj, rfl, HA⟩ := hrel
    by_cases hlt : i < s.size
    · have hltz : (i : Int) < (s.size : Int) := by omega
      go_wp2_with fail
      go_loopw [9] (fun s9 wr => ∃ (k m : Nat), s9 = .int .i64 (k : Int) ∧ k ≤ t.size ∧ wr = w.drewN m ∧ Hid (((B t).take k).contains s[i] = false))
        (fun s9 _ => t.size - (intOf s9).toNat)
      case atStart => exact ⟨0, n, rfl, Nat.zero_le _, rfl, rfl⟩
      case round =>
        obtain ⟨k, m, rfl, hk, rfl, HK⟩ := hrel
        by_cases hkt : k < t.size
        · have hktz : (k : Int) < (t.size : Int) := by omega
          go_wp2_with fail
          go_quiet (fail)
          by_cases hb : (s[i].toNat : Int) = (t[k].toNat : Int)
          · have hbe : ((s[i].toNat : Int) == (t[k].toNat : Int)) = true := by simpa using hb
            go_wp2_with fail
            go_ret2
            have hz : a + (s.extract a i).size = i := by
              rw [ByteArray.size_extract]
              omega
            refine ⟨⟨s.extract a i, by rw [hz]; rfl, ?_, by omega⟩, _, rfl⟩
            rw [B_extract]
            exact (tw_hit (drop_get hai hlt) (is_in hkt hb) HA.out).symm
          · have hbe : ((s[i].toNat : Int) == (t[k].toNat : Int)) = false := by simpa using hb
            go_wp2_with fail
            go_roundw
            case rel => exact ⟨k + 1, _, by go_num, by omega, rfl, not_in hkt HK.out hb⟩
            case measure => simp [intOf]; omega
        · have hktz : ¬ (k : Int) < (t.size : Int) := by omega
          have hkk : k = t.size := by omega
          have hfree : (B t).contains s[i] = false := by
            have := HK.out
            rwa [hkk, size_B, List.take_length] at this
          have HF := hide hfree
          clear hfree hkk
          go_wp2_with fail
          go_roundw
          case rel => exact ⟨i + 1, _, by go_num, by omega, by omega, rfl, free_step hai hlt HA.out HF.out⟩
          case measure => simp [intOf]; omega
    · have hltz : ¬ (i : Int) < (s.size : Int) := by omega
      go_wp2_with fail
      go_ret2
      have hi : i = s.size := by omega
      have hz : a + (s.extract a s.size).size = i := by
        rw [ByteArray.size_extract]
        omega
      refine ⟨⟨s.extract a s.size, congrArg (fun x : Int => Ending.returned (.tuple #[.string (s.extract a s.size), .int .i64 x])) (by omega), ?_, by omega⟩, _, rfl⟩
      have e : B (s.extract a s.size) = (B s).drop a := by
        rw [B_extract, List.take_of_length_le]
        rw [List.length_drop, size_B]
        exact Nat.le_refl _
      rw [e]
      refine (tw_all ?_).symm
      have := HA.out
      rw [hi, List.take_of_length_le] at this
      · exact this
      · rw [List.length_drop, size_B]
        exact Nat.le_refl _

/-- A word's bytes, as the document's reader asks for them. -/
def wch (dots : Bool) (c : Int) : Bool := let_ c || (dots && c == 46)

theorem wch_f (c : Int) : wch false c = let_ c := by simp [wch]
theorem wch_t (c : Int) : wch true c = nam c := by simp [wch, nam]

theorem wch_bad {dots : Bool} {c : Int} (h1 : let_ c = false) (h2 : dots = false ∨ ¬ c = 46) : wch dots c = false := by
  rcases h2 with h | h <;> simp [wch, h1, h]

theorem wch_letter {dots : Bool} {c : Int} (h1 : let_ c = true) : wch dots c = true := by
  simp [wch, h1]

theorem wch_dot {c : Int} (h : c = 46) : wch true c = true := by
  simp [wch, h]

set_option maxHeartbeats 1000000 in
theorem word (s : ByteArray) (most : Int) (dots : Bool) (hs : s.size ≤ 140737488355328) (w : World) :
    Calls Tryz.prog 81 #[.string s, .int .i64 most, .bool dots] w fun e w' => e = .returned (.bool (made (wch dots) most (B s))) ∧ w = w' := by
  by_cases h0 : s.size = 0
  · have h0z : ((s.size : Int)) < 1 := by omega
    have he : s.toList.isEmpty = true := by
      rw [B_nil]
      exact List.eq_nil_of_length_eq_zero (by rw [← size_B]; exact h0)
    have hm := made_empty (p := wch dots) (most := most) he
    have HM := hide hm
    clear hm he h0
    go_enter Tryz.func81, Tryz.ntmps81
    go_wp2_with fail
    go_ret
    exact Leaf.ret_bool HM.out.symm
  · have h0z : ¬ ((s.size : Int)) < 1 := by omega
    have he : s.toList.isEmpty = false := by
      cases hc : s.toList.isEmpty with
      | false => rfl
      | true =>
        rw [B_nil] at hc
        rw [size_B, hc] at h0
        exact absurd rfl h0
    have HE := hide he
    clear he
    by_cases h1 : most < (s.size : Int)
    · go_enter Tryz.func81, Tryz.ntmps81
      go_wp2_with fail
      go_ret
      exact Leaf.ret_bool (made_long h1).symm
    · go_enter Tryz.func81, Tryz.ntmps81
      go_wp2_with fail
      go_loop [7] (fun i => ∃ k : Nat, i = .int .i64 k ∧ k ≤ s.size ∧ Hid (((B s).take k).all fun b => wch dots b.toNat))
        (fun i => s.size - (intOf i).toNat)
      case atStart => exact ⟨0, rfl, Nat.zero_le _, rfl⟩
      case round =>
        obtain ⟨k, rfl, hk, HD⟩ := hrel
        by_cases hlt : k < s.size
        · have hltz : (k : Int) < (s.size : Int) := by omega
          cases hl : let_ (s[k].toNat : Int) with
          | true =>
            have HL := hide hl
            go_wp2_with (go_at_call 138; refine (Leaf.refLetter _ _).mono ?_; rintro e w' ⟨rfl, rfl⟩)
            go_round
            case rel => exact ⟨k + 1, by go_num, by omega, all_step hlt HD.out (wch_letter HL.out)⟩
            case measure => simp [intOf]; omega
          | false =>
            cases dots with
            | false =>
              go_wp2_with (go_at_call 138; refine (Leaf.refLetter _ _).mono ?_; rintro e w' ⟨rfl, rfl⟩)
              go_ret
              exact Leaf.ret_bool (made_bad hlt (wch_bad hl (Or.inl rfl))).symm
            | true =>
              by_cases hd : (s[k].toNat : Int) = 46
              · have hdn : ((s[k].toNat : Int) != 46) = false := by simpa using hd
                have HL := hide hd
                clear hd
                go_wp2_with (go_at_call 138; refine (Leaf.refLetter _ _).mono ?_; rintro e w' ⟨rfl, rfl⟩)
                go_round
                case rel => exact ⟨k + 1, by go_num, by omega, all_step hlt HD.out (wch_dot HL.out)⟩
                case measure => simp [intOf]; omega
              · have hdn : ((s[k].toNat : Int) != 46) = true := by simpa using hd
                go_wp2_with (go_at_call 138; refine (Leaf.refLetter _ _).mono ?_; rintro e w' ⟨rfl, rfl⟩)
                go_ret
                exact Leaf.ret_bool (made_bad hlt (wch_bad hl (Or.inr hd))).symm
        · have hltz : ¬ (k : Int) < (s.size : Int) := by omega
          have hk2 : k = s.size := by omega
          subst hk2
          go_wp2_with fail
          go_ret
          exact Leaf.ret_bool (made_good HE.out (by omega) HD.out).symm

end Go.Proofs.YtenegfafjjknoaaGreatDoor.Refw
