/- Values by their type. No Go in sight. -/
import Derived.Test.YtenegfafjjknoaaGreatDoorNums
namespace Go.Proofs.YtenegfafjjknoaaGreatDoor.Vals
open Bytes Nums

/-- A number with a sign ahead, if it is one of some: the sign, and the number. -/
def signed (t l : List UInt8) : Option (List UInt8 × Int) :=
  (num (l.drop (sg t l).length)).map fun n => (sg t l, if sg t l = [45] then -n else n)

/-- The type (as it is kept), whether a sign stands ahead of a gauge, the number, the word. -/
def rv (k l : List UInt8) : Option (List UInt8 × Bool × Int × List UInt8) :=
  if k = [115] then (if made let_ 16 l then some ([115], false, 0, l) else none)
  else if k = [99] then (signed [45] l).map fun x => ([99], false, x.2, [])
  else if k = [103] then (signed [43, 45] l).map fun x => ([103], !x.1.isEmpty, x.2, [])
  else if k = [104] ∨ k = [109, 115] then (signed [] l).map fun x => ([109, 115], false, x.2, [])
  else none

theorem ne_list {s : ByteArray} {l : List UInt8} (h : ¬ B s = l) : (s.toList == l) = false := by
  rw [Lib.toList_data]
  exact beq_eq_false_iff_ne.2 h

theorem sg_minus (l : List UInt8) : sg [45] l = [] ∨ sg [45] l = [45] := by
  cases l with
  | nil => exact Or.inl rfl
  | cons b l =>
    by_cases h : b = 45
    · subst h
      exact Or.inr rfl
    · refine Or.inl ?_
      simp [sg, has, h]

theorem sg_both (l : List UInt8) : sg [43, 45] l = [] ∨ sg [43, 45] l = [43] ∨ sg [43, 45] l = [45] := by
  cases l with
  | nil => exact Or.inl rfl
  | cons b l =>
    by_cases h : b = 45
    · subst h
      exact Or.inr (Or.inr rfl)
    · by_cases h' : b = 43
      · subst h'
        exact Or.inr (Or.inl rfl)
      · refine Or.inl ?_
        simp [sg, has, h, h']

theorem sg_none (l : List UInt8) : sg [] l = [] := by
  cases l with
  | nil => rfl
  | cons b l => simp [sg, has]

theorem signed_none {t l x : List UInt8} (hx : sg t l = x) (hn : num (l.drop x.length) = none) : signed t l = none := by
  simp [signed, hx, hn]

theorem signed_plain {t l x : List UInt8} {v : Int} (hx : sg t l = x) (hx0 : x = []) (hv : num (l.drop 0) = some v) : signed t l = some ([], v) := by
  subst hx0
  have hv' : num l = some v := hv
  simp [signed, hx, hv']

theorem signed_plus {t l : List UInt8} {v : Int} (hx : sg t l = [43]) (hv : num (l.drop 1) = some v) : signed t l = some ([43], v) := by
  simp only [signed, hx, List.length_singleton, hv]
  rfl

theorem signed_minus {t l : List UInt8} {v : Int} (hx : sg t l = [45]) (hv : num (l.drop 1) = some v) : signed t l = some ([45], -v) := by
  simp only [signed, hx, List.length_singleton, hv]
  rfl

theorem rv_s {k l : List UInt8} (h : k = [115]) : rv k l = (if made let_ 16 l then some ([115], false, 0, l) else none) := by
  simp [rv, h]

theorem rv_c {k l : List UInt8} (h : k = [99]) : rv k l = (signed [45] l).map fun x => ([99], false, x.2, []) := by
  simp [rv, h]

theorem rv_g {k l : List UInt8} (h : k = [103]) : rv k l = (signed [43, 45] l).map fun x => ([103], !x.1.isEmpty, x.2, []) := by
  simp [rv, h]

theorem rv_m {k l : List UInt8} (h : k = [104] ∨ k = [109, 115]) : rv k l = (signed [] l).map fun x => ([109, 115], false, x.2, []) := by
  rcases h with h | h <;> simp [rv, h]

end Go.Proofs.YtenegfafjjknoaaGreatDoor.Vals
