/- The document's reader, its parts: no Go in sight. -/
import Derived.Test.YtenegfafjjknoaaGreatDoorNums
namespace Go.Proofs.YtenegfafjjknoaaGreatDoor.Refs
open Bytes Nums

/-- The bytes up to the first that is one of some. -/
def tw (t l : List UInt8) : List UInt8 := l.takeWhile fun b => !t.contains b

theorem tw_hit {t l : List UInt8} {j : Nat} {b : UInt8} (hb : l[j]? = some b) (hm : t.contains b = true) (h : (l.take j).all (fun b => !t.contains b) = true) : tw t l = l.take j := by
  unfold tw
  induction l generalizing j with
  | nil => simp at hb
  | cons x l ih =>
    cases j with
    | zero =>
      simp at hb
      subst hb
      rw [List.takeWhile_cons, hm]
      rfl
    | succ j =>
      rw [List.take_succ_cons, List.all_cons, Bool.and_eq_true] at h
      rw [List.takeWhile_cons, h.1, if_pos rfl, List.take_succ_cons, ih (by simpa using hb) h.2]

theorem tw_all {t l : List UInt8} (h : l.all (fun b => !t.contains b) = true) : tw t l = l := by
  unfold tw
  induction l with
  | nil => rfl
  | cons x l ih =>
    rw [List.all_cons, Bool.and_eq_true] at h
    rw [List.takeWhile_cons, h.1, if_pos rfl, ih h.2]

/-- One byte more of a number: its value, the digits ahead of the point, those behind it (-1: no point yet). -/
def nstep (st : Int × Int × Int) (b : UInt8) : Option (Int × Int × Int) :=
  if dig b.toNat then
    (if st.2.2 < 0 then (if 6 < st.2.1 + 1 then none else some (10 * st.1 + ((b.toNat : Int) - 48), st.2.1 + 1, st.2.2))
    else (if 3 < st.2.2 + 1 then none else some (10 * st.1 + ((b.toNat : Int) - 48), st.2.1, st.2.2 + 1)))
  else if b = 46 ∧ st.2.2 < 0 then some (st.1, st.2.1, 0) else none

/-- All bytes of a number. -/
def nrun : Int × Int × Int → List UInt8 → Option (Int × Int × Int)
  | st, [] => some st
  | st, b :: l => (nstep st b).bind fun st' => nrun st' l

theorem nrun_snoc (l : List UInt8) (b : UInt8) : ∀ st, nrun st (l ++ [b]) = (nrun st l).bind fun st' => nstep st' b := by
  induction l with
  | nil =>
    intro st
    show (nstep st b).bind (fun st' => some st') = nstep st b
    cases nstep st b <;> rfl
  | cons x l ih =>
    intro st
    show (nstep st x).bind (fun st' => nrun st' (l ++ [b])) = ((nstep st x).bind fun st' => nrun st' l).bind _
    cases nstep st x with
    | none => rfl
    | some st' => exact ih st'

theorem nrun_take {s : ByteArray} {k : Nat} (h : k < s.size) (st : Int × Int × Int) : nrun st ((B s).take (k + 1)) = (nrun st ((B s).take k)).bind fun st' => nstep st' s[k] := by
  rw [List.take_add_one, B_get h, Option.toList_some, nrun_snoc]

theorem nrun_append (l m : List UInt8) : ∀ st, nrun st (l ++ m) = (nrun st l).bind fun st' => nrun st' m := by
  induction l with
  | nil => intro st; rfl
  | cons x l ih =>
    intro st
    show (nstep st x).bind (fun st' => nrun st' (l ++ m)) = ((nstep st x).bind fun st' => nrun st' l).bind _
    cases nstep st x with
    | none => rfl
    | some st' => exact ih st'

theorem nrun_dead {l : List UInt8} {k : Nat} {st : Int × Int × Int} (h : nrun st (l.take k) = none) : nrun st l = none := by
  rw [← List.take_append_drop k l, nrun_append, h]
  rfl

/-- So small is what was read: a bound by the digits. -/
def Small (v wh rs : Int) : Prop := (rs < 0 → v + 1 ≤ 10 ^ wh.toNat) ∧ (0 ≤ rs → v + 1 ≤ 10 ^ (wh.toNat + rs.toNat))

theorem small_zero : Small 0 0 (-1) := ⟨fun _ => by decide, fun h => by omega⟩

theorem pow_nine {n : Nat} (h : n ≤ 9) : (10 : Int) ^ n ≤ 1000000000 := by
  have e : n = 0 ∨ n = 1 ∨ n = 2 ∨ n = 3 ∨ n = 4 ∨ n = 5 ∨ n = 6 ∨ n = 7 ∨ n = 8 ∨ n = 9 := by omega
  rcases e with e | e | e | e | e | e | e | e | e | e <;> rw [e] <;> decide

theorem small_bound {v wh rs : Int} (h : Small v wh rs) (h6 : wh ≤ 6) (h3 : rs ≤ 3) : v ≤ 999999999 := by
  by_cases hr : rs < 0
  · have a := h.1 hr
    have b := pow_nine (n := wh.toNat) (by omega)
    omega
  · have a := h.2 (by omega)
    have b := pow_nine (n := wh.toNat + rs.toNat) (by omega)
    omega

theorem small_lead {v wh rs d : Int} (h : Small v wh rs) (h0 : 0 ≤ wh) (hr : rs < 0) (hd : d ≤ 9) : Small (10 * v + d) (wh + 1) rs := by
  refine ⟨fun _ => ?_, fun h' => by omega⟩
  have a := h.1 hr
  rw [show (wh + 1).toNat = wh.toNat + 1 by omega, Int.pow_succ]
  omega

theorem small_tail {v wh rs d : Int} (h : Small v wh rs) (hr : 0 ≤ rs) (hd : d ≤ 9) : Small (10 * v + d) wh (rs + 1) := by
  refine ⟨fun h' => by omega, fun _ => ?_⟩
  have a := h.2 hr
  rw [show wh.toNat + (rs + 1).toNat = (wh.toNat + rs.toNat) + 1 by omega, Int.pow_succ]
  omega

theorem small_dot {v wh rs : Int} (h : Small v wh rs) (hr : rs < 0) : Small v wh 0 := by
  refine ⟨fun h' => by omega, fun _ => ?_⟩
  exact h.1 hr

/-- The thousandths of what was read. -/
def nend (st : Int × Int × Int) : Int :=
  if st.2.1 < 1 ∨ st.2.2 = 0 then -1 else if st.2.2 < 1 then st.1 * 1000 else if st.2.2 = 1 then st.1 * 100 else if st.2.2 = 2 then st.1 * 10 else st.1

/-- The document's number; -1: it is none. -/
def refNum (l : List UInt8) : Int := match nrun (0, 0, -1) l with
  | none => -1
  | some st => nend st

/-- What holds of what was read. -/
def Inv (st : Int × Int × Int) : Prop := 0 ≤ st.1 ∧ 0 ≤ st.2.1 ∧ st.2.1 ≤ 6 ∧ -1 ≤ st.2.2 ∧ st.2.2 ≤ 3 ∧ Small st.1 st.2.1 st.2.2

theorem nstep_inv {st st' : Int × Int × Int} {b : UInt8} (h : Inv st) (hs : nstep st b = some st') : Inv st' := by
  obtain ⟨h1, h2, h3, h4, h5, h6⟩ := h
  unfold nstep at hs
  split at hs
  · rename_i hd
    have hd' := dig_iff.1 hd
    split at hs
    · rename_i hr
      split at hs
      · cases hs
      · cases hs
        exact ⟨by dsimp only; omega, by dsimp only; omega, by dsimp only; omega, h4, h5, small_lead h6 h2 hr (by omega)⟩
    · split at hs
      · cases hs
      · cases hs
        exact ⟨by dsimp only; omega, h2, h3, by dsimp only; omega, by dsimp only; omega, small_tail h6 (by omega) (by omega)⟩
  · split at hs
    · rename_i hr
      cases hs
      exact ⟨h1, h2, h3, by dsimp only; omega, by dsimp only; omega, small_dot h6 hr.2⟩
    · cases hs

theorem nrun_inv (l : List UInt8) : ∀ st st', Inv st → nrun st l = some st' → Inv st' := by
  induction l with
  | nil =>
    intro st st' h hs
    cases hs
    exact h
  | cons b l ih =>
    intro st st' h hs
    rw [nrun, Option.bind_eq_some_iff] at hs
    obtain ⟨st1, h1, h2⟩ := hs
    exact ih st1 st' (nstep_inv h h1) h2

theorem nend_bound {st : Int × Int × Int} (h : Inv st) : -1 ≤ nend st ∧ nend st ≤ 999999999 := by
  obtain ⟨h1, h2, h3, h4, h5, h6⟩ := h
  have p6 : ∀ n : Nat, n ≤ 6 → (10 : Int) ^ n ≤ 1000000 := by
    intro n hn
    have e : n = 0 ∨ n = 1 ∨ n = 2 ∨ n = 3 ∨ n = 4 ∨ n = 5 ∨ n = 6 := by omega
    rcases e with e | e | e | e | e | e | e <;> rw [e] <;> decide
  have a := p6 st.2.1.toNat (by omega)
  unfold nend
  split
  · omega
  · split
    · have := h6.1 (by omega)
      omega
    · have b := h6.2 (by omega)
      rw [Int.pow_add] at b
      split
      · rename_i e
        rw [e] at b
        have : (10 : Int) ^ (1 : Int).toNat = 10 := by decide
        rw [this] at b
        omega
      · split
        · rename_i e
          rw [e] at b
          have : (10 : Int) ^ (2 : Int).toNat = 100 := by decide
          rw [this] at b
          omega
        · have e : st.2.2 = 3 := by omega
          rw [e] at b
          have : (10 : Int) ^ (3 : Int).toNat = 1000 := by decide
          rw [this] at b
          omega

theorem refNum_bound (l : List UInt8) : -1 ≤ refNum l ∧ refNum l ≤ 999999999 := by
  unfold refNum
  cases h : nrun (0, 0, -1) l with
  | none => exact ⟨by decide, by decide⟩
  | some st => exact nend_bound (nrun_inv l _ _ ⟨by decide, by decide, by decide, by decide, by decide, small_zero⟩ h)

/-- The sign ahead (0: none), and what stands behind it. -/
def rsg (l : List UInt8) : Int := match l with
  | [] => 0
  | b :: _ => if b = 45 then 45 else if b = 43 then 43 else 0
def rrest (l : List UInt8) : List UInt8 := if rsg l = 0 then l else l.drop 1

/-- The document's value by its type: the kind's byte, the number, the word. -/
def refVal (k l : List UInt8) (rated : Bool) : Option (Int × Int × List UInt8) :=
  if k = [99] then (if 0 ≤ refNum (rrest l) ∧ rsg l ≠ 43 then some (99, if rsg l = 45 then -refNum (rrest l) else refNum (rrest l), []) else none)
  else if k = [103] then (if 0 ≤ refNum (rrest l) ∧ rated = false then some (if rsg l = 0 then 103 else 100, if rsg l = 45 then -refNum (rrest l) else refNum (rrest l), []) else none)
  else if k = [115] then (if made let_ 16 l = true ∧ rated = false then some (115, 0, l) else none)
  else if k = [109, 115] ∨ k = [104] then (if 0 ≤ refNum (rrest l) ∧ rsg l = 0 then some (109, refNum (rrest l), []) else none)
  else none

end Go.Proofs.YtenegfafjjknoaaGreatDoor.Refs
