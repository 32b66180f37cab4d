/- Texts cut at one byte, as the library cuts them. -/
import Derived.Test.YtenegfafjjknoaaGreatDoorLeaf
import Derived.Test.YtenegfafjjknoaaGreatDoorShelf
import Derived.Deep.QuietTactic
import Derived.BigQuiet
namespace Go.Proofs.YtenegfafjjknoaaGreatDoor.Texts
open Go.RowKit Bytes

theorem cut1 (s : ByteArray) (c : UInt8) (hs : s.size ≤ 9223372036854775807) (w : World) :
    Calls Tryz.prog 73 #[.string s, .string ⟨#[c]⟩] w fun e w' => (∃ a b, e = .returned (.tuple #[.string a, .string b, .bool (has c (B s))]) ∧ B a = fore c (B s) ∧ B b = aft c (B s) ∧ a.size ≤ s.size ∧ b.size ≤ s.size) ∧ ∃ n, w' = w.drewN n := by
  have hz := size_B s
  rcases idx_cases (B s) c with ⟨h1, h2, h3, h4⟩ | ⟨o, h1, h0, h2, h3, h4⟩
  · have hc : ∀ w, Calls Tryz.prog 171 #[.string s, .string ⟨#[c]⟩] w fun e w' => e = .returned (.int .i64 (-1)) ∧ w = w' := fun w => (Tryz.stringslite_Index_one s c w).mono fun e w' ⟨he, hw⟩ => ⟨by rw [he, ← h1]; rfl, hw.symm⟩
    rw [h2]
    have HC : Hid (∀ w, Calls Tryz.prog 171 #[.string s, .string ⟨#[c]⟩] w fun e w' => e = .returned (.int .i64 (-1)) ∧ w = w') := hc
    clear hc
    go_enter Tryz.func73, Tryz.ntmps73
    go_wp2_with (first
      | (go_at_call 127; go_in)
      | (go_at_call 171; refine (HC.out _).mono ?_; rintro e w' ⟨rfl, rfl⟩))
    go_ret3
    exact ⟨⟨s, ⟨#[]⟩, rfl, h3.symm, h4.symm, Nat.le_refl _, Nat.zero_le _⟩, 0, rfl⟩
  · have hc : ∀ w, Calls Tryz.prog 171 #[.string s, .string ⟨#[c]⟩] w fun e w' => e = .returned (.int .i64 (o : Int)) ∧ w = w' := fun w => (Tryz.stringslite_Index_one s c w).mono fun e w' ⟨he, hw⟩ => ⟨by rw [he, ← h1]; rfl, hw.symm⟩
    rw [h2]
    have HC : Hid (∀ w, Calls Tryz.prog 171 #[.string s, .string ⟨#[c]⟩] w fun e w' => e = .returned (.int .i64 (o : Int)) ∧ w = w') := hc
    clear hc
    have ho : o + 1 ≤ s.size := by omega
    have e1 : B (s.extract 0 o) = fore c (B s) := by
      rw [B_extract, h3, List.drop_zero, Nat.sub_zero]
    have e2 : B (s.extract (o + 1) s.size) = aft c (B s) := by
      rw [B_extract, h4, size_B, List.take_of_length_le]
      rw [List.length_drop]
      omega
    have e3 : (s.extract 0 o).size ≤ s.size := by
      rw [size_B, e1, h3, hz, List.length_take]
      omega
    have e4 : (s.extract (o + 1) s.size).size ≤ s.size := by
      rw [size_B, e2, h4, hz, List.length_drop]
      omega
    have HE : Hid (B (s.extract 0 o) = fore c (B s) ∧ B (s.extract (o + 1) s.size) = aft c (B s) ∧ (s.extract 0 o).size ≤ s.size ∧ (s.extract (o + 1) s.size).size ≤ s.size) := ⟨e1, e2, e3, e4⟩
    clear e1 e2 e3 e4 h1 h2 h3 h4 h0 hz
    go_enter Tryz.func73, Tryz.ntmps73
    go_wp2_with (first
      | (go_at_call 127; go_in)
      | (go_at_call 171; refine (HC.out _).mono ?_; rintro e w' ⟨rfl, rfl⟩))
    go_quiet (fail)
    go_wp2
    go_ret3
    exact ⟨⟨_, _, rfl, HE.out.1, HE.out.2.1, HE.out.2.2.1, HE.out.2.2.2⟩, _, rfl⟩

end Go.Proofs.YtenegfafjjknoaaGreatDoor.Texts
