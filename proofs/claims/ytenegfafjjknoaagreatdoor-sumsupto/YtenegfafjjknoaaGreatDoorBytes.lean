/- Texts as lists of bytes, and what the readers ask of them: no Go in sight. -/
import Derived.Lib.Strings
import Derived.Lib.Bytealg
import Derived.Lib.IndexLaws
namespace Go.Proofs.YtenegfafjjknoaaGreatDoor.Bytes

/-- A text's bytes. -/
def B (s : ByteArray) : List UInt8 := s.data.toList

theorem size_B (s : ByteArray) : s.size = (B s).length := Lib.size_eq s

theorem B_inj {s t : ByteArray} (h : B s = B t) : s = t := by
  have e := Lib.mk_data s
  unfold B at h
  rw [h, Lib.mk_data t] at e
  exact e.symm

theorem B_get {s : ByteArray} {k : Nat} (h : k < s.size) : (B s)[k]? = some s[k] := by
  obtain ⟨⟨l⟩⟩ := s
  simp only [B]
  rw [List.getElem?_eq_getElem (by exact h)]
  rfl

theorem B_extract (s : ByteArray) (a b : Nat) : B (s.extract a b) = ((B s).drop a).take (b - a) := Lib.extract_data s a b

theorem B_nil {s : ByteArray} : s.toList.isEmpty = true ↔ B s = [] := by
  rw [Lib.toList_data]
  simp [B]

theorem B_append (s t : ByteArray) : B (s ++ t) = B s ++ B t := by
  obtain ⟨⟨l⟩⟩ := s
  obtain ⟨⟨m⟩⟩ := t
  simp [B]

/-- A digit, a letter, a byte of a name. -/
def dig (c : Int) : Bool := decide (48 ≤ c) && decide (c ≤ 57)
def let_ (c : Int) : Bool := (decide (97 ≤ c) && decide (c ≤ 122)) || dig c || (c == 95)
def nam (c : Int) : Bool := let_ c || (c == 46)

/-- 1 to most bytes, all of a kind. -/
def made (p : Int → Bool) (most : Int) (l : List UInt8) : Bool := !l.isEmpty && (decide ((l.length : Int) ≤ most) && l.all fun b => p b.toNat)

theorem made_empty {p : Int → Bool} {most : Int} {s : ByteArray} (h : s.toList.isEmpty = true) : made p most (B s) = false := by
  rw [B_nil] at h
  simp [made, h]

theorem made_long {p : Int → Bool} {most : Int} {s : ByteArray} (h : most < (s.size : Int)) : made p most (B s) = false := by
  rw [size_B] at h
  have : ¬ ((B s).length : Int) ≤ most := by omega
  simp [made, this]

theorem made_bad {p : Int → Bool} {most : Int} {s : ByteArray} {k : Nat} (hk : k < s.size) (h : p (s[k].toNat : Int) = false) : made p most (B s) = false := by
  have e := B_get hk
  have : ((B s).all fun b => p b.toNat) = false := by
    rw [List.all_eq_false]
    exact ⟨s[k], List.mem_of_getElem? e, by simp [h]⟩
  simp [made, this]

theorem made_good {p : Int → Bool} {most : Int} {s : ByteArray} (h0 : s.toList.isEmpty = false) (h1 : (s.size : Int) ≤ most) (h : ((B s).take s.size).all (fun b => p b.toNat) = true) : made p most (B s) = true := by
  have e0 : (B s).isEmpty = false := by
    rw [Lib.toList_data] at h0
    exact h0
  rw [size_B, List.take_length] at h
  rw [size_B] at h1
  simp only [made, e0, h, h1]
  simp

theorem all_step {p : Int → Bool} {s : ByteArray} {k : Nat} (hk : k < s.size) (h : ((B s).take k).all (fun b => p b.toNat) = true) (hp : p (s[k].toNat : Int) = true) : ((B s).take (k + 1)).all (fun b => p b.toNat) = true := by
  have e := B_get hk
  rw [List.take_add_one, List.all_append, h, e]
  simp [hp]

/-! ### A text cut at a byte -/
def fore (c : UInt8) (l : List UInt8) : List UInt8 := l.takeWhile (· != c)
def aft (c : UInt8) (l : List UInt8) : List UInt8 := (l.dropWhile (· != c)).drop 1
def has (c : UInt8) (l : List UInt8) : Bool := l.contains c

theorem idx_cases (l : List UInt8) (c : UInt8) :
    (Lib.indexByte l c = -1 ∧ has c l = false ∧ fore c l = l ∧ aft c l = []) ∨
    (∃ o : Nat, Lib.indexByte l c = (o : Int) ∧ o < l.length ∧ has c l = true ∧ fore c l = l.take o ∧ aft c l = l.drop (o + 1)) := by
  induction l with
  | nil => exact Or.inl ⟨rfl, rfl, rfl, rfl⟩
  | cons b l ih =>
    by_cases hb : b = c
    · subst hb
      refine Or.inr ⟨0, ?_, by simp, ?_, ?_, ?_⟩
      · simp [Lib.indexByte]
      · simp [has]
      · simp [fore]
      · simp [aft]
    · have hb' : (b == c) = false := by simpa using hb
      have hc' : (c == b) = false := by simpa using fun h => hb h.symm
      rcases ih with ⟨h1, h2, h3, h4⟩ | ⟨o, h1, h0, h2, h3, h4⟩
      · refine Or.inl ⟨?_, ?_, ?_, ?_⟩
        · simp [Lib.indexByte, hb, h1]
        · simp only [has] at h2 ⊢
          simp only [List.contains_cons, h2, hc', Bool.or_false]
        · simp only [fore] at h3 ⊢
          simp [hb, h3]
        · simp only [aft] at h4 ⊢
          simpa [List.dropWhile_cons, hb] using h4
      · refine Or.inr ⟨o + 1, ?_, by simpa using h0, ?_, ?_, ?_⟩
        · have e : ((o : Int) == -1) = false := by
            simp only [beq_eq_false_iff_ne]
            omega
          rw [Lib.indexByte, h1]
          simp only [hb', e]
          simp
        · simp only [has] at h2 ⊢
          simp only [List.contains_cons, h2, Bool.or_true]
        · simp only [fore] at h3 ⊢
          simp [hb, h3]
        · simp only [aft] at h4 ⊢
          simpa [List.dropWhile_cons, hb] using h4

end Go.Proofs.YtenegfafjjknoaaGreatDoor.Bytes
