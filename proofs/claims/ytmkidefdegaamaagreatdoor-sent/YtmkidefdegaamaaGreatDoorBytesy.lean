/- Texts as lists of bytes, and what the readers ask of them: no Go in sight. -/
import Derived.Lib.Strings
import Derived.Lib.Bytealg
import Derived.Lib.IndexLaws
namespace Go.Proofs.YtmkidefdegaamaaGreatDoor.Bytes
/-- A text's bytes. -/
def B (s : ByteArray) : List UInt8 := s.data.toList
theorem size_B (s : ByteArray) : s.size = (B s).length := Lib.size_eq s
theorem B_inj {s t : ByteArray} (h : B s = B t) : s = t := by
  have e := Lib.mk_data s
  unfold B at h
  rw [h, Lib.mk_data t] at e
  exact e.symm
theorem B_get {s : ByteArray} {k : Nat} (h : k < s.size) : (B s)[k]? = some s[k] := by
  obtain ⟨⟨l⟩⟩ := s
  simp only [B]
  rw [List.getElem?_eq_getElem (by exact h)]
  rfl
theorem B_extract (s : ByteArray) (a b : Nat) : B (s.extract a b) = ((B s).drop a).take (b - a) := Lib.extract_data s a b
theorem B_nil {s : ByteArray} : s.toList.isEmpty = true ↔ B s = [] := by
  rw [Lib.toList_data]
  simp [B]
theorem B_append (s t : ByteArray) : B (s ++ t) = B s ++ B t := by
  obtain ⟨⟨l⟩⟩ := s
  obtain ⟨⟨m⟩⟩ := t
  simp [B]
/-- A digit, a letter, a byte of a name. -/
def dig (c : Int) : Bool := decide (48 ≤ c) && decide (c ≤ 57)
def let_ (c : Int) : Bool := (decide (97 ≤ c) && decide (c ≤ 122)) || dig c || (c == 95)
def nam (c : Int) : Bool := let_ c || (c == 46)
/-- 1 to most bytes, all of a kind. -/
def made (p : Int → Bool) (most : Int) (l : List UInt8) : Bool := !l.isEmpty && (decide ((l.length : Int) ≤ most) && l.all fun b => p b.toNat)
theorem made_empty {p : Int → Bool} {most : Int} {s : ByteArray} (h : s.toList.isEmpty = true) : made p most (B s) = false := by
  rw [B_nil] at h
  simp [made, h]
theorem made_long {p : Int → Bool} {most : Int} {s : ByteArray} (h : most < (s.size : Int)) : made p most (B s) = false := by
  rw [size_B] at h
  have : ¬ ((B s).length : Int) ≤ most := by omega
  simp [made, this]
theorem made_bad {p : Int → Bool} {most : Int} {s : ByteArray} {k : Nat} (hk : k < s.size) (h : p (s[k].toNat : Int) = false) : made p most (B s) = false := by
  have e := B_get hk
  have : ((B s).all fun b => p b.toNat) = false := by
    rw [List.all_eq_false]
    exact ⟨s[k], List.mem_of_getElem? e, by simp [h]⟩
  simp [made, this]
theorem made_good {p : Int → Bool} {most : Int} {s : ByteArray} (h0 : s.toList.isEmpty = false) (h1 : (s.size : Int) ≤ most) (h : ((B s).take s.size).all (fun b => p b.toNat) = true) : made p most (B s) = true := by
  have e0 : (B s).isEmpty = false := by
    rw [Lib.toList_data] at h0
    exact h0
  rw [size_B, List.take_length] at h
  rw [size_B] at h1
  simp only [made, e0, h, h1]
  simp
theorem all_step {p : Int → Bool} {s : ByteArray} {k : Nat} (hk : k < s.size) (h : ((B s).take k).all (fun b => p b.toNat) = true) (hp : p (s[k].toNat : Int) = true) : ((B s).take (k + 1)).all (fun b => p b.toNat) = true := by
  have e := B_get hk
  rw [List.take_add_one, List.all_append, h, e]
  simp [hp]
/-! ### A text cut at a byte -/
def fore (c : UInt8) (l : List UInt8) : List UInt8 := l.takeWhile (· != c)
def aft (c : UInt8) (l : List UInt8) : List UInt8 := (l.dropWhile (· != c)).drop 1
def has (c : UInt8) (l : List UInt8) : Bool := l.contains c
theorem idx_cases (l : List UInt8) (c : UInt8) :
    (Lib.indexByte l c = -1 ∧ has c l = false ∧ fore c l = l ∧ aft c l = []) ∨
    (∃ o : Nat, Lib.indexByte l c = (o : Int) ∧ o < l.length ∧ has c l = true ∧ fore c l = l.take o ∧ aft c l = l.drop (o + 1)) := by
  induction l with
  | nil => exact Or.inl ⟨rfl, rfl, rfl, rfl⟩
  | cons b l ih =>
    by_cases hb : b = c
    · subst hb
      refine Or.inr ⟨0, ?_, by simp, ?_, ?_, ?_⟩
      · simp [Lib.indexByte]
      · simp [has]
      · simp [fore]
      · simp [aft]
    · have hb' : (b == c) = false := by simpa using hb
      have hc' : (c == b) = false := by simpa using fun h => hb h.symm
      rcases ih with ⟨h1, h2, h3, h4⟩ | ⟨o, h1, h0, h2, h3, h4⟩
      · refine Or.inl ⟨?_, ?_, ?_, ?_⟩
        · simp [Lib.indexByte, hb, h1]
        · simp only [has] at h2 ⊢
          simp only [List.contains_cons, h2, hc', Bool.or_false]
        · simp only [fore] at h3 ⊢
          simp [hb, h3]
        · simp only [aft] at h4 ⊢
          simpa [List.dropWhile_cons, hb] using h4
      · refine Or.inr ⟨o + 1, ?_, by simpa using h0, ?_, ?_, ?_⟩
        · have e : ((o : Int) == -1) = false := by
            simp only [beq_eq_false_iff_ne]
            omega
          rw [Lib.indexByte, h1]
          simp only [hb', e]
          simp
        · simp only [has] at h2 ⊢
          simp only [List.contains_cons, h2, Bool.or_true]
        · simp only [fore] at h3 ⊢
          simp [hb, h3]
        · simp only [aft] at h4 ⊢
          simpa [List.dropWhile_cons, hb] using h4
end Go.Proofs.YtmkidefdegaamaaGreatDoor.Bytes
namespace Go.Proofs.YtmkidefdegaamaaGreatDoor.Nums
open Bytes
/-- The value of digits. -/
def val (l : List UInt8) : Int := l.foldl (fun n b => n * 10 + ((b.toNat : Int) - 48)) 0
theorem val_snoc (l : List UInt8) (b : UInt8) : val (l ++ [b]) = val l * 10 + ((b.toNat : Int) - 48) := by
  simp [val, List.foldl_append]
def digs (l : List UInt8) : Bool := l.all fun b => dig b.toNat
theorem dig_iff {c : Int} : dig c = true ↔ 48 ≤ c ∧ c ≤ 57 := by
  simp [dig]
theorem val_pow_len (n : Nat) : ∀ l : List UInt8, l.length = n → digs l = true → 0 ≤ val l ∧ val l + 1 ≤ (10 : Int) ^ n := by
  induction n with
  | zero =>
    intro l hl _
    rw [List.eq_nil_of_length_eq_zero hl]
    simp [val]
  | succ n ih =>
    intro l hl h
    have hne : l ≠ [] := by
      rintro rfl
      simp at hl
    have e := (List.dropLast_concat_getLast hne).symm
    rw [e] at h ⊢
    simp only [digs, List.all_append, Bool.and_eq_true] at h
    obtain ⟨h1, h2⟩ := h
    obtain ⟨i1, i2⟩ := ih l.dropLast (by rw [List.length_dropLast]; omega) h1
    have h3 : dig ((l.getLast hne).toNat : Int) = true := by simpa using h2
    rw [dig_iff] at h3
    rw [val_snoc, Int.pow_succ]
    omega
theorem val_pow (l : List UInt8) (h : digs l = true) : 0 ≤ val l ∧ val l + 1 ≤ (10 : Int) ^ l.length := val_pow_len _ l rfl h
theorem val_six {l : List UInt8} (h : digs l = true) (hl : l.length ≤ 6) : 0 ≤ val l ∧ val l ≤ 999999 := by
  have hv := val_pow l h
  have hp : (10 : Int) ^ l.length ≤ 1000000 := by
    have e : l.length = 0 ∨ l.length = 1 ∨ l.length = 2 ∨ l.length = 3 ∨ l.length = 4 ∨ l.length = 5 ∨ l.length = 6 := by omega
    rcases e with e | e | e | e | e | e | e <;> rw [e] <;> decide
  omega
theorem val_three {l : List UInt8} (h : digs l = true) (hl : l.length ≤ 3) : 0 ≤ val l ∧ val l ≤ 999 := by
  have hv := val_pow l h
  have hp : (10 : Int) ^ l.length ≤ 1000 := by
    have e : l.length = 0 ∨ l.length = 1 ∨ l.length = 2 ∨ l.length = 3 := by omega
    rcases e with e | e | e | e <;> rw [e] <;> decide
  omega
theorem digs_take {l : List UInt8} (k : Nat) (h : digs l = true) : digs (l.take k) = true := by
  simp only [digs, List.all_eq_true] at h ⊢
  exact fun x hx => h x (List.mem_of_mem_take hx)
theorem made_dig {most : Int} {l : List UInt8} (h : made dig most l = true) : digs l = true ∧ (l.length : Int) ≤ most ∧ l ≠ [] := by
  simp only [made, Bool.and_eq_true, decide_eq_true_eq] at h
  refine ⟨h.2.2, h.2.1, ?_⟩
  rintro rfl
  simp at h
theorem dig_at {s : ByteArray} {k : Nat} (hd : digs (B s) = true) (h : k < s.size) : 48 ≤ (s[k].toNat : Int) ∧ (s[k].toNat : Int) ≤ 57 := by
  rw [← dig_iff]
  simp only [digs, List.all_eq_true] at hd
  exact hd _ (List.mem_of_getElem? (B_get h))
theorem val_step {s : ByteArray} {k : Nat} (h : k < s.size) : val ((B s).take (k + 1)) = val ((B s).take k) * 10 + ((s[k].toNat : Int) - 48) := by
  rw [List.take_add_one, B_get h, Option.toList_some, val_snoc]
theorem val_take {s : ByteArray} {k : Nat} (hd : digs (B s) = true) (hl : s.size ≤ 6) : 0 ≤ val ((B s).take k) ∧ val ((B s).take k) ≤ 999999 := by
  refine val_six (digs_take k hd) ?_
  rw [size_B] at hl
  rw [List.length_take]
  omega
/-- Digits behind a point, in thousandths. -/
def dec (l : List UInt8) : Option Int := if made dig 3 l then some (val (l ++ List.replicate (3 - l.length) 48)) else none
/-- A number, in thousandths. -/
def num (l : List UInt8) : Option Int :=
  if made dig 6 (fore 46 l) then (dec (if has 46 l then aft 46 l else [48])).map fun p => val (fore 46 l) * 1000 + p else none
/-- A rate, in thousandths. -/
def rate (l : List UInt8) : Option Int :=
  if l = [49] then some 1000 else if [48, 46].isPrefixOf l then (dec (l.drop 2)).filter fun n => decide (0 < n) else none
theorem num_not {l : List UInt8} (h : made dig 6 (fore 46 l) = false) : num l = none := by
  simp [num, h]
theorem num_point {l : List UInt8} (h : made dig 6 (fore 46 l) = true) (hh : has 46 l = true) : num l = (dec (aft 46 l)).map fun p => val (fore 46 l) * 1000 + p := by
  simp [num, h, hh]
theorem num_plain {l : List UInt8} (h : made dig 6 (fore 46 l) = true) (hh : has 46 l = false) : num l = (dec [48]).map fun p => val (fore 46 l) * 1000 + p := by
  simp [num, h, hh]
/-- The sign ahead, if it is one of some. -/
def sg (t l : List UInt8) : List UInt8 := match l with
  | [] => []
  | b :: _ => if has b t then [b] else []
theorem sg_nil {t : List UInt8} {s : ByteArray} (h : s.toList.isEmpty = true) : sg t (B s) = [] := by
  rw [B_nil] at h
  rw [h]
  rfl
theorem B_cons {s : ByteArray} (h : 0 < s.size) : B s = s[0] :: (B s).drop 1 := by
  have e := B_get h
  cases hb : B s with
  | nil => simp [hb] at e
  | cons x l =>
    rw [hb] at e
    simp at e
    rw [e]
    rfl
theorem sg_yes {t : List UInt8} {s : ByteArray} (h : 0 < s.size) (hh : has s[0] t = true) : sg t (B s) = [s[0]] := by
  rw [B_cons h]
  simp [sg, hh]
theorem sg_no {t : List UInt8} {s : ByteArray} (h : 0 < s.size) (hh : has s[0] t = false) : sg t (B s) = [] := by
  rw [B_cons h]
  simp [sg, hh]
theorem rate_one {s : ByteArray} (h : (s.toList == [49]) = true) : rate (B s) = some 1000 := by
  have e : B s = [49] := by
    rw [Lib.toList_data] at h
    simpa [B] using h
  simp [rate, e]
theorem rate_pre {s : ByteArray} (h : (s.toList == [49]) = false) (hp : Lib.hasPrefix s.data.toList [48, 46] = true) : rate (B s) = (dec ((B s).drop 2)).filter fun n => decide (0 < n) := by
  have e : B s ≠ [49] := by
    rw [Lib.toList_data] at h
    simpa [B] using h
  have hp' : [48, 46].isPrefixOf (B s) = true := hp
  simp only [rate, if_neg e, hp', if_true]
theorem rate_not {s : ByteArray} (h : (s.toList == [49]) = false) (hp : Lib.hasPrefix s.data.toList [48, 46] = false) : rate (B s) = none := by
  have e : B s ≠ [49] := by
    rw [Lib.toList_data] at h
    simpa [B] using h
  have hp' : [48, 46].isPrefixOf (B s) = false := hp
  simp [rate, e, hp']
theorem digs_pad {l : List UInt8} (n : Nat) (h : digs l = true) : digs (l ++ List.replicate n 48) = true := by
  simp only [digs, List.all_append, Bool.and_eq_true] at h ⊢
  refine ⟨h, ?_⟩
  rw [List.all_eq_true]
  intro x hx
  rw [List.eq_of_mem_replicate hx]
  rfl
theorem dec_some {l : List UInt8} {v : Int} (h : dec l = some v) : 0 ≤ v ∧ v ≤ 999 := by
  unfold dec at h
  split at h
  · rename_i hm
    obtain ⟨h1, h2, _⟩ := made_dig hm
    cases h
    refine val_three (digs_pad _ h1) ?_
    rw [List.length_append, List.length_replicate]
    omega
  · cases h
theorem num_some {l : List UInt8} {v : Int} (h : num l = some v) : 0 ≤ v ∧ v ≤ 999999999 := by
  unfold num at h
  split at h
  · rename_i hm
    obtain ⟨h1, h2, _⟩ := made_dig hm
    rw [Option.map_eq_some_iff] at h
    obtain ⟨p, hp, rfl⟩ := h
    have hd := dec_some hp
    have hv := val_six h1 (by omega)
    omega
  · cases h
theorem rate_some {l : List UInt8} {v : Int} (h : rate l = some v) : 1 ≤ v ∧ v ≤ 1000 := by
  unfold rate at h
  split at h
  · cases h
    omega
  · split at h
    · rw [Option.filter_eq_some_iff] at h
      have hd := dec_some h.1
      have h2 : 0 < v := by simpa using h.2
      omega
    · cases h
end Go.Proofs.YtmkidefdegaamaaGreatDoor.Nums
