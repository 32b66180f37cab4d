/- A text cut at its commas, into five pieces at most: no Go in sight. -/
import Derived.Test.YtenegfafjjknoaaGreatDoorBytes
import Derived.Lib.Split
import Derived.Lib.IndexBytes
namespace Go.Proofs.YtenegfafjjknoaaGreatDoor.Spl
open Bytes

/-- The pieces between commas, the (k + 1)th being the rest. -/
def spl : Nat → List UInt8 → List (List UInt8)
  | 0, l => [l]
  | k + 1, l => if has 44 l then fore 44 l :: spl k (aft 44 l) else [l]

theorem spl_more (k : Nat) : ∀ l : List UInt8, l.length ≤ k → spl (k + 1) l = spl k l := by
  induction k with
  | zero =>
    intro l hl
    rw [List.eq_nil_of_length_eq_zero (Nat.le_zero.1 hl)]
    rfl
  | succ k ih =>
    intro l hl
    show (if has 44 l = true then fore 44 l :: spl (k + 1) (aft 44 l) else [l]) = (if has 44 l = true then fore 44 l :: spl k (aft 44 l) else [l])
    rcases idx_cases l 44 with ⟨_, h2, _⟩ | ⟨o, _, h0, _, _, h4⟩
    · rw [h2]
      rfl
    · have e : spl (k + 1) (aft 44 l) = spl k (aft 44 l) := by
        refine ih _ ?_
        rw [h4, List.length_drop]
        omega
      rw [e]

theorem spl_min (j : Nat) : ∀ l : List UInt8, spl (min j l.length) l = spl j l := by
  induction j with
  | zero =>
    intro l
    rw [Nat.zero_min]
  | succ j ih =>
    intro l
    by_cases h : j + 1 ≤ l.length
    · rw [Nat.min_eq_left h]
    · rw [spl_more j l (by omega), ← ih l]
      congr 1
      omega

theorem splitB_spl (k : Nat) : ∀ s : ByteArray, (Lib.splitB ⟨#[44]⟩ 0 k s).map B = spl k (B s) := by
  induction k with
  | zero => intro s; rfl
  | succ k ih =>
    intro s
    rw [spl]
    have e : Lib.indexB s ⟨#[44]⟩ = Lib.indexByte (B s) 44 := Lib.index_one _ _
    rcases idx_cases (B s) 44 with ⟨h1, h2, _⟩ | ⟨o, h1, h0, h2, h3, h4⟩
    · rw [Lib.splitB_miss _ _ _ _ (by rw [e, h1]), h2]
      rfl
    · rw [Lib.splitB_hit _ _ _ _ o (by rw [e, h1]), h2, List.map_cons, ih, h3, h4, B_extract, B_extract, if_pos rfl]
      congr 1
      congr 1
      rw [size_B]
      show ((B s).drop (o + 1)).take _ = _
      rw [List.take_of_length_le]
      rw [List.length_drop]
      exact Nat.le_refl _

theorem splitB_len (k : Nat) (s : ByteArray) : (Lib.splitB ⟨#[44]⟩ 0 k s).length ≤ k + 1 := Lib.splitB_length_le _ _ _ _

theorem splitB_size (k : Nat) : ∀ (s : ByteArray) (x : ByteArray), x ∈ Lib.splitB ⟨#[44]⟩ 0 k s → x.size ≤ s.size := by
  induction k with
  | zero =>
    intro s x hx
    rw [Lib.splitB_zero, List.mem_singleton] at hx
    rw [hx]
    exact Nat.le_refl _
  | succ k ih =>
    intro s x hx
    have e : Lib.indexB s ⟨#[44]⟩ = Lib.indexByte (B s) 44 := Lib.index_one _ _
    rcases idx_cases (B s) 44 with ⟨h1, h2, _⟩ | ⟨o, h1, h0, h2, h3, h4⟩
    · rw [Lib.splitB_miss _ _ _ _ (by rw [e, h1]), List.mem_singleton] at hx
      rw [hx]
      exact Nat.le_refl _
    · rw [Lib.splitB_hit _ _ _ _ o (by rw [e, h1]), List.mem_cons] at hx
      rcases hx with hx | hx
      · rw [hx, ByteArray.size_extract]
        omega
      · have := ih _ _ hx
        rw [ByteArray.size_extract] at this
        omega

end Go.Proofs.YtenegfafjjknoaaGreatDoor.Spl
