/- Plain forms, as texts. No Go in sight. -/
import Derived.Test.YtenegfafjjknoaaGreatDoorOpts
import Derived.Lib.ItoaMem
import Derived.Lib.TrimByte
import Derived.Lib.Join
namespace Go.Proofs.YtenegfafjjknoaaGreatDoor.Plain
open Bytes Nums Opts

/-- A number of thousandths, written. -/
def wnAbs (a : Nat) : List UInt8 := Lib.decDigits (a / 1000) ++ (if a % 1000 = 0 then [] else 46 :: Lib.trimRightB ((Lib.decDigits (1000 + a % 1000)).drop 1) 48)
def wn (n : Int) : List UInt8 := (if n < 0 then [45] else []) ++ wnAbs n.natAbs

theorem nd_le (k : Nat) : ∀ u : Nat, u < 10 ^ (k + 1) → Lib.nDigits u ≤ k + 1 := by
  induction k with
  | zero =>
    intro u hu
    rw [Lib.nDigits_small (by simpa using hu)]
    exact Nat.le_refl _
  | succ k ih =>
    intro u hu
    by_cases h : u < 10
    · rw [Lib.nDigits_small h]
      omega
    · rw [Lib.nDigits_big h]
      have := ih (u / 10) (by rw [Nat.pow_succ] at hu; omega)
      omega

theorem dd_len {u : Nat} (h : u < 10000000) : (Lib.decDigits u).length ≤ 7 := by
  rw [Lib.decDigits_length]
  exact nd_le 6 u (by simpa using h)

theorem trim_len (l : List UInt8) (c : UInt8) : (Lib.trimRightB l c).length ≤ l.length := by
  unfold Lib.trimRightB
  rw [List.length_reverse]
  have := (List.dropWhile_suffix (l := l.reverse) (· == c)).length_le
  rwa [List.length_reverse] at this

theorem wnAbs_len {a : Nat} (h : a ≤ 999999999) : (wnAbs a).length ≤ 16 := by
  unfold wnAbs
  rw [List.length_append]
  have h1 := dd_len (u := a / 1000) (by omega)
  have h2 := dd_len (u := 1000 + a % 1000) (by omega)
  split
  · simp only [List.length_nil]
    omega
  · have h3 := trim_len ((Lib.decDigits (1000 + a % 1000)).drop 1) 48
    rw [List.length_drop] at h3
    simp only [List.length_cons]
    omega

theorem wn_len {n : Int} (h1 : -999999999 ≤ n) (h2 : n ≤ 999999999) : (wn n).length ≤ 17 := by
  unfold wn
  rw [List.length_append]
  have := wnAbs_len (a := n.natAbs) (by omega)
  split <;> simp <;> omega

/-- The value, written. -/
def pv (m : Smp) : List UInt8 := if m.kind = [115] then m.word else if m.signed ∧ 0 ≤ m.value then 43 :: wn m.value else wn m.value

/-- The tags, written. -/
def pt (ls : List (List UInt8)) : List UInt8 := if ls = [] then [] else 124 :: 35 :: Lib.join ls [44]

/-- The plain form. -/
def plain (m : Smp) : List UInt8 := m.name ++ [58] ++ pv m ++ [124] ++ m.kind ++ (if m.rate = 1000 then [] else 124 :: 64 :: wn m.rate) ++ pt m.tags

end Go.Proofs.YtenegfafjjknoaaGreatDoor.Plain
