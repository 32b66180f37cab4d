/- A text cut at its commas, into five pieces at most: no Go in sight. -/
import Derived.Test.YtmkidefdegaamaaGreatDoorBytesy
import Derived.Lib.Split
import Derived.Lib.IndexBytes
import Derived.Lib.SlicesCompact
import Derived.Lib.ItoaMem
import Derived.Lib.TrimByte
import Derived.Lib.Join
import Derived.Test.YtmkidefdegaamaaGreatDoorMemy
namespace Go.Proofs.YtmkidefdegaamaaGreatDoor.Spl
open Bytes
/-- The pieces between commas, the (k + 1)th being the rest. -/
def spl : Nat → List UInt8 → List (List UInt8)
  | 0, l => [l]
  | k + 1, l => if has 44 l then fore 44 l :: spl k (aft 44 l) else [l]
theorem spl_more (k : Nat) : ∀ l : List UInt8, l.length ≤ k → spl (k + 1) l = spl k l := by
  induction k with
  | zero =>
    intro l hl
    rw [List.eq_nil_of_length_eq_zero (Nat.le_zero.1 hl)]
    rfl
  | succ k ih =>
    intro l hl
    show (if has 44 l = true then fore 44 l :: spl (k + 1) (aft 44 l) else [l]) = (if has 44 l = true then fore 44 l :: spl k (aft 44 l) else [l])
    rcases idx_cases l 44 with ⟨_, h2, _⟩ | ⟨o, _, h0, _, _, h4⟩
    · rw [h2]
      rfl
    · have e : spl (k + 1) (aft 44 l) = spl k (aft 44 l) := by
        refine ih _ ?_
        rw [h4, List.length_drop]
        omega
      rw [e]
theorem spl_min (j : Nat) : ∀ l : List UInt8, spl (min j l.length) l = spl j l := by
  induction j with
  | zero =>
    intro l
    rw [Nat.zero_min]
  | succ j ih =>
    intro l
    by_cases h : j + 1 ≤ l.length
    · rw [Nat.min_eq_left h]
    · rw [spl_more j l (by omega), ← ih l]
      congr 1
      omega
theorem splitB_spl (k : Nat) : ∀ s : ByteArray, (Lib.splitB ⟨#[44]⟩ 0 k s).map B = spl k (B s) := by
  induction k with
  | zero => intro s; rfl
  | succ k ih =>
    intro s
    rw [spl]
    have e : Lib.indexB s ⟨#[44]⟩ = Lib.indexByte (B s) 44 := Lib.index_one _ _
    rcases idx_cases (B s) 44 with ⟨h1, h2, _⟩ | ⟨o, h1, h0, h2, h3, h4⟩
    · rw [Lib.splitB_miss _ _ _ _ (by rw [e, h1]), h2]
      rfl
    · rw [Lib.splitB_hit _ _ _ _ o (by rw [e, h1]), h2, List.map_cons, ih, h3, h4, B_extract, B_extract, if_pos rfl]
      congr 1
      congr 1
      rw [size_B]
      show ((B s).drop (o + 1)).take _ = _
      rw [List.take_of_length_le]
      rw [List.length_drop]
      exact Nat.le_refl _
theorem splitB_len (k : Nat) (s : ByteArray) : (Lib.splitB ⟨#[44]⟩ 0 k s).length ≤ k + 1 := Lib.splitB_length_le _ _ _ _
theorem splitB_size (k : Nat) : ∀ (s : ByteArray) (x : ByteArray), x ∈ Lib.splitB ⟨#[44]⟩ 0 k s → x.size ≤ s.size := by
  induction k with
  | zero =>
    intro s x hx
    rw [Lib.splitB_zero, List.mem_singleton] at hx
    rw [hx]
    exact Nat.le_refl _
  | succ k ih =>
    intro s x hx
    have e : Lib.indexB s ⟨#[44]⟩ = Lib.indexByte (B s) 44 := Lib.index_one _ _
    rcases idx_cases (B s) 44 with ⟨h1, h2, _⟩ | ⟨o, h1, h0, h2, h3, h4⟩
    · rw [Lib.splitB_miss _ _ _ _ (by rw [e, h1]), List.mem_singleton] at hx
      rw [hx]
      exact Nat.le_refl _
    · rw [Lib.splitB_hit _ _ _ _ o (by rw [e, h1]), List.mem_cons] at hx
      rcases hx with hx | hx
      · rw [hx, ByteArray.size_extract]
        omega
      · have := ih _ _ hx
        rw [ByteArray.size_extract] at this
        omega
end Go.Proofs.YtmkidefdegaamaaGreatDoor.Spl
namespace Go.Proofs.YtmkidefdegaamaaGreatDoor.Tags
open Bytes Spl
/-- The list behind a hash sign: 1 to 4 tags; each once, rising. -/
def tagsOf (text : List UInt8) : Option (List (List UInt8)) :=
  if [35].isPrefixOf text then
    (if (spl 4 (text.drop 1)).length ≤ 4 then (if (spl 4 (text.drop 1)).all (made let_ 8) then some (Lib.compact ((spl 4 (text.drop 1)).mergeSort fun x y => decide (x ≤ y))) else none) else none)
  else none
theorem tagsOf_long {l : List UInt8} (hp : [35].isPrefixOf l = true) (h : 4 < (spl 4 (l.drop 1)).length) : tagsOf l = none := by
  rw [tagsOf, if_pos hp, if_neg (by omega)]
theorem tagsOf_bad {l : List UInt8} (hp : [35].isPrefixOf l = true) (h : (spl 4 (l.drop 1)).all (made let_ 8) = false) : tagsOf l = none := by
  rw [tagsOf, if_pos hp, h]
  simp
theorem tagsOf_good {l : List UInt8} (hp : [35].isPrefixOf l = true) (h4 : (spl 4 (l.drop 1)).length ≤ 4) (h : (spl 4 (l.drop 1)).all (made let_ 8) = true) : tagsOf l = some (Lib.compact ((spl 4 (l.drop 1)).mergeSort fun x y => decide (x ≤ y))) := by
  rw [tagsOf, if_pos hp, if_pos h4, h]
  rfl
theorem tagsOf_not {l : List UInt8} (hp : [35].isPrefixOf l = false) : tagsOf l = none := by
  rw [tagsOf, hp]
  rfl
end Go.Proofs.YtmkidefdegaamaaGreatDoor.Tags
namespace Go.Proofs.YtmkidefdegaamaaGreatDoor.Vals
open Bytes Nums
/-- A number with a sign ahead, if it is one of some: the sign, and the number. -/
def signed (t l : List UInt8) : Option (List UInt8 × Int) :=
  (num (l.drop (sg t l).length)).map fun n => (sg t l, if sg t l = [45] then -n else n)
/-- The type (as it is kept), whether a sign stands ahead of a gauge, the number, the word. -/
def rv (k l : List UInt8) : Option (List UInt8 × Bool × Int × List UInt8) :=
  if k = [115] then (if made let_ 16 l then some ([115], false, 0, l) else none)
  else if k = [99] then (signed [45] l).map fun x => ([99], false, x.2, [])
  else if k = [103] then (signed [43, 45] l).map fun x => ([103], !x.1.isEmpty, x.2, [])
  else if k = [104] ∨ k = [109, 115] then (signed [] l).map fun x => ([109, 115], false, x.2, [])
  else none
theorem ne_list {s : ByteArray} {l : List UInt8} (h : ¬ B s = l) : (s.toList == l) = false := by
  rw [Lib.toList_data]
  exact beq_eq_false_iff_ne.2 h
theorem sg_minus (l : List UInt8) : sg [45] l = [] ∨ sg [45] l = [45] := by
  cases l with
  | nil => exact Or.inl rfl
  | cons b l =>
    by_cases h : b = 45
    · subst h
      exact Or.inr rfl
    · refine Or.inl ?_
      simp [sg, has, h]
theorem sg_both (l : List UInt8) : sg [43, 45] l = [] ∨ sg [43, 45] l = [43] ∨ sg [43, 45] l = [45] := by
  cases l with
  | nil => exact Or.inl rfl
  | cons b l =>
    by_cases h : b = 45
    · subst h
      exact Or.inr (Or.inr rfl)
    · by_cases h' : b = 43
      · subst h'
        exact Or.inr (Or.inl rfl)
      · refine Or.inl ?_
        simp [sg, has, h, h']
theorem sg_none (l : List UInt8) : sg [] l = [] := by
  cases l with
  | nil => rfl
  | cons b l => simp [sg, has]
theorem signed_none {t l x : List UInt8} (hx : sg t l = x) (hn : num (l.drop x.length) = none) : signed t l = none := by
  simp [signed, hx, hn]
theorem signed_plain {t l x : List UInt8} {v : Int} (hx : sg t l = x) (hx0 : x = []) (hv : num (l.drop 0) = some v) : signed t l = some ([], v) := by
  subst hx0
  have hv' : num l = some v := hv
  simp [signed, hx, hv']
theorem signed_plus {t l : List UInt8} {v : Int} (hx : sg t l = [43]) (hv : num (l.drop 1) = some v) : signed t l = some ([43], v) := by
  simp only [signed, hx, List.length_singleton, hv]
  rfl
theorem signed_minus {t l : List UInt8} {v : Int} (hx : sg t l = [45]) (hv : num (l.drop 1) = some v) : signed t l = some ([45], -v) := by
  simp only [signed, hx, List.length_singleton, hv]
  rfl
theorem rv_s {k l : List UInt8} (h : k = [115]) : rv k l = (if made let_ 16 l then some ([115], false, 0, l) else none) := by
  simp [rv, h]
theorem rv_c {k l : List UInt8} (h : k = [99]) : rv k l = (signed [45] l).map fun x => ([99], false, x.2, []) := by
  simp [rv, h]
theorem rv_g {k l : List UInt8} (h : k = [103]) : rv k l = (signed [43, 45] l).map fun x => ([103], !x.1.isEmpty, x.2, []) := by
  simp [rv, h]
theorem rv_m {k l : List UInt8} (h : k = [104] ∨ k = [109, 115]) : rv k l = (signed [] l).map fun x => ([109, 115], false, x.2, []) := by
  rcases h with h | h <;> simp [rv, h]
end Go.Proofs.YtmkidefdegaamaaGreatDoor.Vals
namespace Go.Proofs.YtmkidefdegaamaaGreatDoor.Opts
open Bytes Nums Spl Tags Vals
/-- A rate, tags, or both in this order. -/
def opts (k l : List UInt8) : Option (Int × List (List UInt8)) :=
  if [64].isPrefixOf l then
    (if k = [103] ∨ k = [115] then none
    else (rate (fore 124 (l.drop 1))).bind fun r => if has 124 (l.drop 1) then (tagsOf (aft 124 (l.drop 1))).map fun t => (r, t) else some (r, []))
  else (tagsOf l).map fun t => (1000, t)
theorem opts_tags {k l : List UInt8} (h : [64].isPrefixOf l = false) : opts k l = (tagsOf l).map fun t => (1000, t) := by
  rw [opts, h]
  rfl
theorem opts_bar {k l : List UInt8} (h : [64].isPrefixOf l = true) (hk : k = [103] ∨ k = [115]) : opts k l = none := by
  rw [opts, if_pos h, if_pos hk]
theorem opts_rate {k l : List UInt8} (h : [64].isPrefixOf l = true) (hk : ¬ (k = [103] ∨ k = [115])) : opts k l = (rate (fore 124 (l.drop 1))).bind fun r => if has 124 (l.drop 1) then (tagsOf (aft 124 (l.drop 1))).map fun t => (r, t) else some (r, []) := by
  rw [opts, if_pos h, if_neg hk]
/-- What a line says. -/
structure Smp where
  name : List UInt8
  kind : List UInt8
  signed : Bool
  value : Int
  word : List UInt8
  rate : Int
  tags : List (List UInt8)
/-- Behind the name's colon. -/
def rdBehind (n l : List UInt8) : Option Smp :=
  if has 124 l then
    (rv (fore 124 (aft 124 l)) (fore 124 l)).bind fun x =>
      if has 124 (aft 124 l) then (opts x.1 (aft 124 (aft 124 l))).map fun o => ⟨n, x.1, x.2.1, x.2.2.1, x.2.2.2, o.1, o.2⟩
      else some ⟨n, x.1, x.2.1, x.2.2.1, x.2.2.2, 1000, []⟩
  else none
/-- A line, read. -/
def rd (l : List UInt8) : Option Smp :=
  if has 58 l then (if made nam 16 (fore 58 l) then rdBehind (fore 58 l) (aft 58 l) else none) else none
end Go.Proofs.YtmkidefdegaamaaGreatDoor.Opts
namespace Go.Proofs.YtmkidefdegaamaaGreatDoor.Plain
open Bytes Nums Opts
/-- A number of thousandths, written. -/
def wnAbs (a : Nat) : List UInt8 := Lib.decDigits (a / 1000) ++ (if a % 1000 = 0 then [] else 46 :: Lib.trimRightB ((Lib.decDigits (1000 + a % 1000)).drop 1) 48)
def wn (n : Int) : List UInt8 := (if n < 0 then [45] else []) ++ wnAbs n.natAbs
theorem nd_le (k : Nat) : ∀ u : Nat, u < 10 ^ (k + 1) → Lib.nDigits u ≤ k + 1 := by
  induction k with
  | zero =>
    intro u hu
    rw [Lib.nDigits_small (by simpa using hu)]
    exact Nat.le_refl _
  | succ k ih =>
    intro u hu
    by_cases h : u < 10
    · rw [Lib.nDigits_small h]
      omega
    · rw [Lib.nDigits_big h]
      have := ih (u / 10) (by rw [Nat.pow_succ] at hu; omega)
      omega
/-- The value, written. -/
def pv (m : Smp) : List UInt8 := if m.kind = [115] then m.word else if m.signed ∧ 0 ≤ m.value then 43 :: wn m.value else wn m.value
/-- The tags, written. -/
def pt (ls : List (List UInt8)) : List UInt8 := if ls = [] then [] else 124 :: 35 :: Lib.join ls [44]
/-- The plain form. -/
def plain (m : Smp) : List UInt8 := m.name ++ [58] ++ pv m ++ [124] ++ m.kind ++ (if m.rate = 1000 then [] else 124 :: 64 :: wn m.rate) ++ pt m.tags
end Go.Proofs.YtmkidefdegaamaaGreatDoor.Plain
namespace Go.Proofs.YtmkidefdegaamaaGreatDoor.Im
open Go
abbrev Bs := List UInt8
theorem bb : ∀ a b : Bs, bytesBefore a b = decide (a < b)
  | [], [] => by simp [bytesBefore]
  | [], b :: s => by simp [bytesBefore]
  | a :: r, [] => by simp [bytesBefore]
  | a :: r, b :: s => by
    rw [bytesBefore, bb r s]
    by_cases h : a < b
    · simp [h, List.cons_lt_cons_iff]
    · by_cases h' : a = b
      · subst h'
        simp
      · simp [h, h', List.cons_lt_cons_iff]
def sLit (k : Bs) : Lit := .string k
def sLt (a b : Bs) : Bool := decide (a < b)
theorem sLit_same (a b : Bs) : (sLit a).sameKey (sLit b) = decide (a = b) := by
  simp only [sLit, Lit.sameKey]
  rw [Bool.eq_iff_iff]
  simp
theorem sLit_before (a b : Bs) : (sLit a).before (sLit b) = sLt a b := by simp [sLit, Lit.before, sLt, bb]
theorem sLt_trans (a b c : Bs) (h : sLt a b = true) (h' : sLt b c = true) : sLt a c = true := by
  simp only [sLt, decide_eq_true_eq] at *
  exact List.lt_trans h h'
theorem sLt_total (a b : Bs) (hne : a ≠ b) (h : sLt a b = false) : sLt b a = true := by
  simp only [sLt, decide_eq_true_eq, decide_eq_false_iff_not] at *
  rcases List.le_total b a with h1 | h1
  · exact (List.le_iff_lt_or_eq.1 h1).resolve_right (fun e => hne e.symm)
  · exact absurd ((List.le_iff_lt_or_eq.1 h1).resolve_right hne) h
theorem sLt_irr (a : Bs) : sLt a a = false := by
  simp only [sLt, decide_eq_false_iff_not]
  exact List.lt_irrefl a
end Go.Proofs.YtmkidefdegaamaaGreatDoor.Im
