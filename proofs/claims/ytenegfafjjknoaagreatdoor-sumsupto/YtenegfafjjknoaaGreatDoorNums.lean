/- Numbers and rates, as a line writes them: what they count, in thousandths. No Go in sight. -/
import Derived.Test.YtenegfafjjknoaaGreatDoorBytes
namespace Go.Proofs.YtenegfafjjknoaaGreatDoor.Nums
open Bytes

/-- The value of digits. -/
def val (l : List UInt8) : Int := l.foldl (fun n b => n * 10 + ((b.toNat : Int) - 48)) 0

theorem val_snoc (l : List UInt8) (b : UInt8) : val (l ++ [b]) = val l * 10 + ((b.toNat : Int) - 48) := by
  simp [val, List.foldl_append]

def digs (l : List UInt8) : Bool := l.all fun b => dig b.toNat

theorem dig_iff {c : Int} : dig c = true ↔ 48 ≤ c ∧ c ≤ 57 := by
  simp [dig]

theorem val_pow_len (n : Nat) : ∀ l : List UInt8, l.length = n → digs l = true → 0 ≤ val l ∧ val l + 1 ≤ (10 : Int) ^ n := by
  induction n with
  | zero =>
    intro l hl _
    rw [List.eq_nil_of_length_eq_zero hl]
    simp [val]
  | succ n ih =>
    intro l hl h
    have hne : l ≠ [] := by
      rintro rfl
      simp at hl
    have e := (List.dropLast_concat_getLast hne).symm
    rw [e] at h ⊢
    simp only [digs, List.all_append, Bool.and_eq_true] at h
    obtain ⟨h1, h2⟩ := h
    obtain ⟨i1, i2⟩ := ih l.dropLast (by rw [List.length_dropLast]; omega) h1
    have h3 : dig ((l.getLast hne).toNat : Int) = true := by simpa using h2
    rw [dig_iff] at h3
    rw [val_snoc, Int.pow_succ]
    omega

theorem val_pow (l : List UInt8) (h : digs l = true) : 0 ≤ val l ∧ val l + 1 ≤ (10 : Int) ^ l.length := val_pow_len _ l rfl h

theorem val_six {l : List UInt8} (h : digs l = true) (hl : l.length ≤ 6) : 0 ≤ val l ∧ val l ≤ 999999 := by
  have hv := val_pow l h
  have hp : (10 : Int) ^ l.length ≤ 1000000 := by
    have e : l.length = 0 ∨ l.length = 1 ∨ l.length = 2 ∨ l.length = 3 ∨ l.length = 4 ∨ l.length = 5 ∨ l.length = 6 := by omega
    rcases e with e | e | e | e | e | e | e <;> rw [e] <;> decide
  omega

theorem val_three {l : List UInt8} (h : digs l = true) (hl : l.length ≤ 3) : 0 ≤ val l ∧ val l ≤ 999 := by
  have hv := val_pow l h
  have hp : (10 : Int) ^ l.length ≤ 1000 := by
    have e : l.length = 0 ∨ l.length = 1 ∨ l.length = 2 ∨ l.length = 3 := by omega
    rcases e with e | e | e | e <;> rw [e] <;> decide
  omega

theorem digs_take {l : List UInt8} (k : Nat) (h : digs l = true) : digs (l.take k) = true := by
  simp only [digs, List.all_eq_true] at h ⊢
  exact fun x hx => h x (List.mem_of_mem_take hx)

theorem made_dig {most : Int} {l : List UInt8} (h : made dig most l = true) : digs l = true ∧ (l.length : Int) ≤ most ∧ l ≠ [] := by
  simp only [made, Bool.and_eq_true, decide_eq_true_eq] at h
  refine ⟨h.2.2, h.2.1, ?_⟩
  rintro rfl
  simp at h

theorem dig_at {s : ByteArray} {k : Nat} (hd : digs (B s) = true) (h : k < s.size) : 48 ≤ (s[k].toNat : Int) ∧ (s[k].toNat : Int) ≤ 57 := by
  rw [← dig_iff]
  simp only [digs, List.all_eq_true] at hd
  exact hd _ (List.mem_of_getElem? (B_get h))

theorem val_step {s : ByteArray} {k : Nat} (h : k < s.size) : val ((B s).take (k + 1)) = val ((B s).take k) * 10 + ((s[k].toNat : Int) - 48) := by
  rw [List.take_add_one, B_get h, Option.toList_some, val_snoc]

theorem val_take {s : ByteArray} {k : Nat} (hd : digs (B s) = true) (hl : s.size ≤ 6) : 0 ≤ val ((B s).take k) ∧ val ((B s).take k) ≤ 999999 := by
  refine val_six (digs_take k hd) ?_
  rw [size_B] at hl
  rw [List.length_take]
  omega

/-- Digits behind a point, in thousandths. -/
def dec (l : List UInt8) : Option Int := if made dig 3 l then some (val (l ++ List.replicate (3 - l.length) 48)) else none

/-- A number, in thousandths. -/
def num (l : List UInt8) : Option Int :=
  if made dig 6 (fore 46 l) then (dec (if has 46 l then aft 46 l else [48])).map fun p => val (fore 46 l) * 1000 + p else none

/-- A rate, in thousandths. -/
def rate (l : List UInt8) : Option Int :=
  if l = [49] then some 1000 else if [48, 46].isPrefixOf l then (dec (l.drop 2)).filter fun n => decide (0 < n) else none

theorem num_not {l : List UInt8} (h : made dig 6 (fore 46 l) = false) : num l = none := by
  simp [num, h]

theorem num_point {l : List UInt8} (h : made dig 6 (fore 46 l) = true) (hh : has 46 l = true) : num l = (dec (aft 46 l)).map fun p => val (fore 46 l) * 1000 + p := by
  simp [num, h, hh]

theorem num_plain {l : List UInt8} (h : made dig 6 (fore 46 l) = true) (hh : has 46 l = false) : num l = (dec [48]).map fun p => val (fore 46 l) * 1000 + p := by
  simp [num, h, hh]

/-- The sign ahead, if it is one of some. -/
def sg (t l : List UInt8) : List UInt8 := match l with
  | [] => []
  | b :: _ => if has b t then [b] else []

theorem sg_nil {t : List UInt8} {s : ByteArray} (h : s.toList.isEmpty = true) : sg t (B s) = [] := by
  rw [B_nil] at h
  rw [h]
  rfl

theorem B_cons {s : ByteArray} (h : 0 < s.size) : B s = s[0] :: (B s).drop 1 := by
  have e := B_get h
  cases hb : B s with
  | nil => simp [hb] at e
  | cons x l =>
    rw [hb] at e
    simp at e
    rw [e]
    rfl

theorem sg_yes {t : List UInt8} {s : ByteArray} (h : 0 < s.size) (hh : has s[0] t = true) : sg t (B s) = [s[0]] := by
  rw [B_cons h]
  simp [sg, hh]

theorem sg_no {t : List UInt8} {s : ByteArray} (h : 0 < s.size) (hh : has s[0] t = false) : sg t (B s) = [] := by
  rw [B_cons h]
  simp [sg, hh]

theorem rate_one {s : ByteArray} (h : (s.toList == [49]) = true) : rate (B s) = some 1000 := by
  have e : B s = [49] := by
    rw [Lib.toList_data] at h
    simpa [B] using h
  simp [rate, e]

theorem rate_pre {s : ByteArray} (h : (s.toList == [49]) = false) (hp : Lib.hasPrefix s.data.toList [48, 46] = true) : rate (B s) = (dec ((B s).drop 2)).filter fun n => decide (0 < n) := by
  have e : B s ≠ [49] := by
    rw [Lib.toList_data] at h
    simpa [B] using h
  have hp' : [48, 46].isPrefixOf (B s) = true := hp
  simp only [rate, if_neg e, hp', if_true]

theorem rate_not {s : ByteArray} (h : (s.toList == [49]) = false) (hp : Lib.hasPrefix s.data.toList [48, 46] = false) : rate (B s) = none := by
  have e : B s ≠ [49] := by
    rw [Lib.toList_data] at h
    simpa [B] using h
  have hp' : [48, 46].isPrefixOf (B s) = false := hp
  simp [rate, e, hp']

theorem digs_pad {l : List UInt8} (n : Nat) (h : digs l = true) : digs (l ++ List.replicate n 48) = true := by
  simp only [digs, List.all_append, Bool.and_eq_true] at h ⊢
  refine ⟨h, ?_⟩
  rw [List.all_eq_true]
  intro x hx
  rw [List.eq_of_mem_replicate hx]
  rfl

theorem dec_some {l : List UInt8} {v : Int} (h : dec l = some v) : 0 ≤ v ∧ v ≤ 999 := by
  unfold dec at h
  split at h
  · rename_i hm
    obtain ⟨h1, h2, _⟩ := made_dig hm
    cases h
    refine val_three (digs_pad _ h1) ?_
    rw [List.length_append, List.length_replicate]
    omega
  · cases h

theorem num_some {l : List UInt8} {v : Int} (h : num l = some v) : 0 ≤ v ∧ v ≤ 999999999 := by
  unfold num at h
  split at h
  · rename_i hm
    obtain ⟨h1, h2, _⟩ := made_dig hm
    rw [Option.map_eq_some_iff] at h
    obtain ⟨p, hp, rfl⟩ := h
    have hd := dec_some hp
    have hv := val_six h1 (by omega)
    omega
  · cases h

theorem rate_some {l : List UInt8} {v : Int} (h : rate l = some v) : 1 ≤ v ∧ v ≤ 1000 := by
  unfold rate at h
  split at h
  · cases h
    omega
  · split at h
    · rw [Option.filter_eq_some_iff] at h
      have hd := dec_some h.1
      have h2 : 0 < v := by simpa using h.2
      omega
    · cases h

end Go.Proofs.YtenegfafjjknoaaGreatDoor.Nums
