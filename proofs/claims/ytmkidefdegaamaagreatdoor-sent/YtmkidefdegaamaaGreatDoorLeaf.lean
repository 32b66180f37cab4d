/- The smallest functions of both readers: which bytes are digits, letters, bytes of a name; texts made of such bytes. -/
import Derived.Test.YtmkidefdegaamaaGreatDoorProg
import Derived.Test.YtmkidefdegaamaaGreatDoorBytesy
import Derived.WalkKit
import Derived.WalkLawsBesides
import Derived.WalkSpells
import Derived.Handy
namespace Go.Proofs.YtmkidefdegaamaaGreatDoor.Leaf
open Go.RowKit Bytes
theorem ret_bool {a b : Bool} {w : World} (h : a = b) : Ending.returned (.bool a) = Ending.returned (.bool b) ∧ w = w := ⟨by rw [h], rfl⟩
theorem isDigit (c : Int) (w : World) :
    Calls Tryz.prog 236 #[.int .u8 c] w fun e w' => e = .returned (.bool (dig c)) ∧ w = w' := by
  go_enter Tryz.func236, Tryz.ntmps236
  go_wp2
  all_goals (go_ret; refine ret_bool ?_)
  all_goals (unfold dig; simp_all <;> omega)
theorem isLetter (c : Int) (w : World) :
    Calls Tryz.prog 199 #[.int .u8 c] w fun e w' => e = .returned (.bool (let_ c)) ∧ w = w' := by
  go_enter Tryz.func199, Tryz.ntmps199
  go_wp2_with (go_at_call 236; refine (isDigit c _).mono ?_; rintro e w' ⟨rfl, rfl⟩)
  all_goals (go_ret; refine ret_bool ?_)
  all_goals (unfold let_; simp_all <;> omega)
theorem isNameByte (c : Int) (w : World) :
    Calls Tryz.prog 158 #[.int .u8 c] w fun e w' => e = .returned (.bool (nam c)) ∧ w = w' := by
  go_enter Tryz.func158, Tryz.ntmps158
  go_wp2_with (go_at_call 199; refine (isLetter c _).mono ?_; rintro e w' ⟨rfl, rfl⟩)
  all_goals (go_ret; refine ret_bool ?_)
  all_goals (unfold nam; simp_all <;> omega)
theorem madeOfDigit (s : ByteArray) (most : Int) (hs : s.size ≤ 9223372036854775807) (w : World) :
    Calls Tryz.prog 157 #[.string s, .int .i64 most, .func (.func 236) #[] #[]] w fun e w' => e = .returned (.bool (made dig most (B s))) ∧ w = w' := by
  cases h0 : s.toList.isEmpty with
  | true =>
    go_enter Tryz.func157, Tryz.ntmps157
    go_wp2
    go_ret
    exact ret_bool (made_empty h0).symm
  | false =>
    by_cases h1 : most < (s.size : Int)
    · go_enter Tryz.func157, Tryz.ntmps157
      go_wp2
      go_ret
      exact ret_bool (made_long h1).symm
    · go_enter Tryz.func157, Tryz.ntmps157
      go_wp2
      go_loop [18] (fun i => ∃ k : Nat, i = .int .i64 k ∧ k ≤ s.size ∧ Hid (((B s).take k).all fun b => dig b.toNat))
        (fun i => s.size - (intOf i).toNat)
      case atStart => exact ⟨0, rfl, Nat.zero_le _, rfl⟩
      case round =>
        obtain ⟨k, rfl, hk, HD⟩ := hrel
        go_wp2_with (go_at_call 236; refine (isDigit _ _).mono ?_; rintro e w' ⟨rfl, rfl⟩)
        · have hlt : k < s.size := by assumption
          have hb : (!dig ↑s[k].toNat) = true := by assumption
          go_ret
          exact ret_bool (made_bad hlt (by simpa using hb)).symm
        · have hlt : k < s.size := by assumption
          have hb : (!dig ↑s[k].toNat) = false := by assumption
          go_round
          case rel => exact ⟨k + 1, by go_num, by omega, all_step hlt HD.out (by simpa using hb)⟩
          case measure => simp [intOf]; omega
        · have hge : ¬ k < s.size := by assumption
          have hk2 : k = s.size := by omega
          subst hk2
          go_ret
          exact ret_bool (made_good h0 (by omega) HD.out).symm
theorem madeOfLetter (s : ByteArray) (most : Int) (hs : s.size ≤ 9223372036854775807) (w : World) :
    Calls Tryz.prog 157 #[.string s, .int .i64 most, .func (.func 199) #[] #[]] w fun e w' => e = .returned (.bool (made let_ most (B s))) ∧ w = w' := by
  cases h0 : s.toList.isEmpty with
  | true =>
    go_enter Tryz.func157, Tryz.ntmps157
    go_wp2
    go_ret
    exact ret_bool (made_empty h0).symm
  | false =>
    by_cases h1 : most < (s.size : Int)
    · go_enter Tryz.func157, Tryz.ntmps157
      go_wp2
      go_ret
      exact ret_bool (made_long h1).symm
    · go_enter Tryz.func157, Tryz.ntmps157
      go_wp2
      go_loop [18] (fun i => ∃ k : Nat, i = .int .i64 k ∧ k ≤ s.size ∧ Hid (((B s).take k).all fun b => let_ b.toNat))
        (fun i => s.size - (intOf i).toNat)
      case atStart => exact ⟨0, rfl, Nat.zero_le _, rfl⟩
      case round =>
        obtain ⟨k, rfl, hk, HD⟩ := hrel
        go_wp2_with (go_at_call 199; refine (isLetter _ _).mono ?_; rintro e w' ⟨rfl, rfl⟩)
        · have hlt : k < s.size := by assumption
          have hb : (!let_ ↑s[k].toNat) = true := by assumption
          go_ret
          exact ret_bool (made_bad hlt (by simpa using hb)).symm
        · have hlt : k < s.size := by assumption
          have hb : (!let_ ↑s[k].toNat) = false := by assumption
          go_round
          case rel => exact ⟨k + 1, by go_num, by omega, all_step hlt HD.out (by simpa using hb)⟩
          case measure => simp [intOf]; omega
        · have hge : ¬ k < s.size := by assumption
          have hk2 : k = s.size := by omega
          subst hk2
          go_ret
          exact ret_bool (made_good h0 (by omega) HD.out).symm
theorem madeOfNameByte (s : ByteArray) (most : Int) (hs : s.size ≤ 9223372036854775807) (w : World) :
    Calls Tryz.prog 157 #[.string s, .int .i64 most, .func (.func 158) #[] #[]] w fun e w' => e = .returned (.bool (made nam most (B s))) ∧ w = w' := by
  cases h0 : s.toList.isEmpty with
  | true =>
    go_enter Tryz.func157, Tryz.ntmps157
    go_wp2
    go_ret
    exact ret_bool (made_empty h0).symm
  | false =>
    by_cases h1 : most < (s.size : Int)
    · go_enter Tryz.func157, Tryz.ntmps157
      go_wp2
      go_ret
      exact ret_bool (made_long h1).symm
    · go_enter Tryz.func157, Tryz.ntmps157
      go_wp2
      go_loop [18] (fun i => ∃ k : Nat, i = .int .i64 k ∧ k ≤ s.size ∧ Hid (((B s).take k).all fun b => nam b.toNat))
        (fun i => s.size - (intOf i).toNat)
      case atStart => exact ⟨0, rfl, Nat.zero_le _, rfl⟩
      case round =>
        obtain ⟨k, rfl, hk, HD⟩ := hrel
        go_wp2_with (go_at_call 158; refine (isNameByte _ _).mono ?_; rintro e w' ⟨rfl, rfl⟩)
        · have hlt : k < s.size := by assumption
          have hb : (!nam ↑s[k].toNat) = true := by assumption
          go_ret
          exact ret_bool (made_bad hlt (by simpa using hb)).symm
        · have hlt : k < s.size := by assumption
          have hb : (!nam ↑s[k].toNat) = false := by assumption
          go_round
          case rel => exact ⟨k + 1, by go_num, by omega, all_step hlt HD.out (by simpa using hb)⟩
          case measure => simp [intOf]; omega
        · have hge : ¬ k < s.size := by assumption
          have hk2 : k = s.size := by omega
          subst hk2
          go_ret
          exact ret_bool (made_good h0 (by omega) HD.out).symm
theorem isName (s : ByteArray) (hs : s.size ≤ 9223372036854775807) (w : World) :
    Calls Tryz.prog 115 #[.string s] w fun e w' => e = .returned (.bool (made nam 16 (B s))) ∧ w = w' := by
  go_enter Tryz.func115, Tryz.ntmps115
  go_wp2_with (go_at_call 157; refine (madeOfNameByte s 16 hs _).mono ?_; rintro e w' ⟨rfl, rfl⟩)
  go_ret
  exact ⟨rfl, rfl⟩
theorem isWord (s : ByteArray) (most : Int) (hs : s.size ≤ 9223372036854775807) (w : World) :
    Calls Tryz.prog 159 #[.string s, .int .i64 most] w fun e w' => e = .returned (.bool (made let_ most (B s))) ∧ w = w' := by
  go_enter Tryz.func159, Tryz.ntmps159
  go_wp2_with (go_at_call 157; refine (madeOfLetter s most hs _).mono ?_; rintro e w' ⟨rfl, rfl⟩)
  go_ret
  exact ⟨rfl, rfl⟩
theorem isDigits (s : ByteArray) (most : Int) (hs : s.size ≤ 9223372036854775807) (w : World) :
    Calls Tryz.prog 201 #[.string s, .int .i64 most] w fun e w' => e = .returned (.bool (made dig most (B s))) ∧ w = w' := by
  go_enter Tryz.func201, Tryz.ntmps201
  go_wp2_with (go_at_call 157; refine (madeOfDigit s most hs _).mono ?_; rintro e w' ⟨rfl, rfl⟩)
  go_ret
  exact ⟨rfl, rfl⟩
end Go.Proofs.YtmkidefdegaamaaGreatDoor.Leaf
