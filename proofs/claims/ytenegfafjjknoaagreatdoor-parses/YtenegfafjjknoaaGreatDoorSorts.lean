/- Tags in rising order, each once: by the program, and by the document. No Go in sight. -/
import Derived.Test.YtenegfafjjknoaaGreatDoorRefi
import Derived.Test.YtenegfafjjknoaaGreatDoorBounds
import Derived.Sort.Walk0
namespace Go.Proofs.YtenegfafjjknoaaGreatDoor.Sorts
open Bytes Refi Bounds

abbrev Tx := List UInt8

def SS (l : List Tx) : Prop := l.Pairwise (· < ·)

theorem lt_irrefl' (a : Tx) : ¬ a < a := List.lt_irrefl a
theorem lt_trans' {a b c : Tx} (h : a < b) (k : b < c) : a < c := List.lt_trans h k
theorem lt_asymm' {a b : Tx} (h : a < b) : ¬ b < a := fun k => lt_irrefl' a (lt_trans' h k)
theorem tri {a b : Tx} (h : ¬ a < b) (k : ¬ b < a) : a = b := List.le_antisymm (List.not_lt.1 k) (List.not_lt.1 h)

theorem le'_iff {t x : Tx} : le' t x = true ↔ t < x ∨ t = x := by
  rw [le', bytesLess_eq]
  simp

theorem le'_not {t x : Tx} (h : le' t x = false) : x < t := by
  have h1 : ¬ t < x := fun k => by rw [le'_iff.2 (Or.inl k)] at h; cases h
  have h2 : ¬ t = x := fun k => by rw [le'_iff.2 (Or.inr k)] at h; cases h
  by_cases k : x < t
  · exact k
  · exact absurd (tri h1 k) h2

theorem ss_ext : ∀ (l m : List Tx), SS l → SS m → (∀ x, x ∈ l ↔ x ∈ m) → l = m := by
  intro l
  induction l with
  | nil =>
    intro m _ _ h
    cases m with
    | nil => rfl
    | cons b m => exact absurd ((h b).2 (List.mem_cons_self ..)) (by simp)
  | cons a l ih =>
    intro m hl hm h
    cases m with
    | nil => exact absurd ((h a).1 (List.mem_cons_self ..)) (by simp)
    | cons b m =>
      have hl' := List.pairwise_cons.1 hl
      have hm' := List.pairwise_cons.1 hm
      have hab : a = b := by
        rcases List.mem_cons.1 ((h a).1 (List.mem_cons_self ..)) with e | e
        · exact e
        · rcases List.mem_cons.1 ((h b).2 (List.mem_cons_self ..)) with k | k
          · exact k.symm
          · exact absurd (hl'.1 b k) (lt_asymm' (hm'.1 a e))
      subst hab
      rw [ih m hl'.2 hm'.2]
      intro x
      constructor
      · intro hx
        rcases List.mem_cons.1 ((h x).1 (List.mem_cons_of_mem _ hx)) with e | e
        · subst e
          exact absurd (hl'.1 x hx) (lt_irrefl' x)
        · exact e
      · intro hx
        rcases List.mem_cons.1 ((h x).2 (List.mem_cons_of_mem _ hx)) with e | e
        · subst e
          exact absurd (hm'.1 x hx) (lt_irrefl' x)
        · exact e

/-- A tag among others, the plain way. -/
def sins (t : Tx) : List Tx → List Tx
  | [] => [t]
  | x :: l => if le' t x = true then t :: (x :: l).filter (fun y => !(y == t)) else x :: sins t l

theorem fold_put (t : Tx) (l : List Tx) : ∀ acc, l.foldl (Refi.step t) (acc, true) = (acc ++ l.filter (fun y => !(y == t)), true) := by
  induction l with
  | nil => intro acc; simp
  | cons x l ih =>
    intro acc
    rw [List.foldl_cons]
    have e : Refi.step t (acc, true) x = (acc ++ (if x = t then [] else [x]), true) := by
      simp [Refi.step]
    rw [e, ih]
    by_cases hx : x = t
    · subst hx
      simp
    · simp [hx]

theorem ins_acc (t : Tx) (l : List Tx) : ∀ acc, (if (l.foldl (Refi.step t) (acc, false)).2 = true then (l.foldl (Refi.step t) (acc, false)).1 else (l.foldl (Refi.step t) (acc, false)).1 ++ [t]) = acc ++ sins t l := by
  induction l with
  | nil => intro acc; simp [sins]
  | cons x l ih =>
    intro acc
    rw [List.foldl_cons]
    cases h : le' t x with
    | true =>
      have e : Refi.step t (acc, false) x = (acc ++ [t] ++ (if x = t then [] else [x]), true) := by
        simp [Refi.step, h]
      rw [e, fold_put, if_pos rfl, sins, if_pos h]
      by_cases hx : x = t
      · subst hx
        simp
      · simp [hx]
    | false =>
      have hne : ¬ x = t := fun e => by rw [le'_iff.2 (Or.inr e.symm)] at h; cases h
      have e : Refi.step t (acc, false) x = (acc ++ [x], false) := by
        simp [Refi.step, h, hne]
      rw [e, ih, sins, h]
      simp

theorem ins_eq (t : Tx) (l : List Tx) : ins t l = sins t l := by
  have := ins_acc t l []
  rw [List.nil_append] at this
  rw [← this]
  rfl

theorem sins_mem (t : Tx) (l : List Tx) (x : Tx) : x ∈ sins t l ↔ x = t ∨ x ∈ l := by
  induction l with
  | nil => simp [sins]
  | cons y l ih =>
    rw [sins]
    split
    · rw [List.mem_cons, List.mem_filter]
      constructor
      · rintro (h | h)
        · exact Or.inl h
        · exact Or.inr h.1
      · rintro (h | h)
        · exact Or.inl h
        · by_cases e : x = t
          · exact Or.inl e
          · exact Or.inr ⟨h, by simpa using e⟩
    · rw [List.mem_cons, ih, List.mem_cons]
      constructor
      · rintro (h | h | h)
        · exact Or.inr (Or.inl h)
        · exact Or.inl h
        · exact Or.inr (Or.inr h)
      · rintro (h | h | h)
        · exact Or.inr (Or.inl h)
        · exact Or.inl h
        · exact Or.inr (Or.inr h)

theorem sins_ss (t : Tx) (l : List Tx) (h : SS l) : SS (sins t l) := by
  induction l with
  | nil => exact List.pairwise_singleton _ _
  | cons y l ih =>
    have h' := List.pairwise_cons.1 h
    rw [sins]
    split
    · rename_i hle
      refine List.pairwise_cons.2 ⟨fun x hx => ?_, h.filter _⟩
      rw [List.mem_filter] at hx
      have hne : ¬ x = t := by simpa using hx.2
      rcases List.mem_cons.1 hx.1 with e | e
      · subst e
        rcases le'_iff.1 hle with k | k
        · exact k
        · exact absurd k.symm hne
      · rcases le'_iff.1 hle with k | k
        · exact lt_trans' k (h'.1 x e)
        · rw [k]
          exact h'.1 x e
    · rename_i hle
      refine List.pairwise_cons.2 ⟨fun x hx => ?_, ih h'.2⟩
      rcases (sins_mem t l x).1 hx with e | e
      · rw [e]
        exact le'_not (by simpa using hle)
      · exact h'.1 x e

/-- All tags, one by one. -/
def insAll (acc : List Tx) (ps : List Tx) : List Tx := ps.foldl (fun a t => ins t a) acc

theorem insAll_ss (ps : List Tx) : ∀ acc, SS acc → SS (insAll acc ps) := by
  induction ps with
  | nil => intro acc h; exact h
  | cons t ps ih =>
    intro acc h
    show SS (insAll (ins t acc) ps)
    exact ih _ (by rw [ins_eq]; exact sins_ss t acc h)

theorem insAll_mem (ps : List Tx) : ∀ acc x, x ∈ insAll acc ps ↔ x ∈ acc ∨ x ∈ ps := by
  induction ps with
  | nil => intro acc x; simp [insAll]
  | cons t ps ih =>
    intro acc x
    show x ∈ insAll (ins t acc) ps ↔ _
    rw [ih, ins_eq, sins_mem, List.mem_cons]
    constructor
    · rintro ((h | h) | h)
      · exact Or.inr (Or.inl h)
      · exact Or.inl h
      · exact Or.inr (Or.inr h)
    · rintro (h | h | h)
      · exact Or.inl (Or.inr h)
      · exact Or.inl (Or.inl h)
      · exact Or.inr h

theorem compact_ss (zs : List Tx) (h : zs.Pairwise (· ≤ ·)) : SS (Lib.compact zs) := by
  unfold Lib.compact Lib.compactUpTo SS
  rw [List.pairwise_map]
  have hr : (List.range zs.length).Pairwise (· < ·) := List.pairwise_lt_range
  refine (hr.filter _).imp_of_mem fun {i j} hi hj hij => ?_
  rw [List.mem_filter, List.mem_range] at hi hj
  have ei : zs.toArray[i]! = zs[i] := by simp [hi.1]
  have ej : zs.toArray[j]! = zs[j] := by simp [hj.1]
  have hp := List.pairwise_iff_getElem.1 h
  have hk := hj.2
  have hne : zs.toArray[j]! ≠ zs.toArray[j - 1]! := by
    unfold Lib.keeps at hk
    have hk' := of_decide_eq_true hk
    rcases hk' with h0 | h0
    · omega
    · exact h0
  have ej1 : zs.toArray[j - 1]! = zs[j - 1]'(by omega) := by simp [show j - 1 < zs.length by omega]
  rw [ei, ej]
  have h1 : zs[j - 1]'(by omega) ≤ zs[j] := hp (j - 1) j (by omega) hj.1 (by omega)
  have h2 : zs[i] ≤ zs[j - 1]'(by omega) := by
    by_cases e : i = j - 1
    · subst e
      exact List.le_refl _
    · exact hp i (j - 1) hi.1 (by omega) (by omega)
  have h3 : zs[j - 1]'(by omega) < zs[j] := by
    by_cases k : zs[j - 1]'(by omega) < zs[j]
    · exact k
    · exfalso
      apply hne
      rw [ej, ej1]
      exact tri (List.not_lt.2 h1) k
  by_cases e : zs[i] < zs[j - 1]'(by omega)
  · exact lt_trans' e h3
  · have : zs[i] = zs[j - 1]'(by omega) := tri e (List.not_lt.2 h2)
    rw [this]
    exact h3

theorem compact_has (zs : List Tx) : ∀ (j : Nat) (hj : j < zs.length), zs[j] ∈ Lib.compact zs := by
  intro j
  induction j with
  | zero =>
    intro hj
    unfold Lib.compact Lib.compactUpTo
    rw [List.mem_map]
    refine ⟨0, ?_, by simp [hj]⟩
    rw [List.mem_filter, List.mem_range]
    exact ⟨hj, by simp [Lib.keeps]⟩
  | succ j ih =>
    intro hj
    by_cases e : zs[j + 1] = zs[j]'(by omega)
    · rw [e]
      exact ih (by omega)
    · unfold Lib.compact Lib.compactUpTo
      rw [List.mem_map]
      refine ⟨j + 1, ?_, by simp [hj]⟩
      rw [List.mem_filter, List.mem_range]
      refine ⟨hj, ?_⟩
      unfold Lib.keeps
      refine decide_eq_true (Or.inr ?_)
      have e1 : zs.toArray[j + 1]! = zs[j + 1] := by simp [hj]
      have e2 : zs.toArray[j + 1 - 1]! = zs[j]'(by omega) := by simp [show j < zs.length by omega]
      rw [e1, e2]
      exact e

/-- The program's tags are the document's. -/
theorem tags_same (ps : List Tx) : insAll [] ps = Lib.compact (ps.mergeSort fun x y => decide (x ≤ y)) := by
  refine ss_ext _ _ (insAll_ss ps [] List.Pairwise.nil) (compact_ss _ ?_) fun x => ?_
  · have h := List.pairwise_mergeSort (le := fun x y : Tx => decide (x ≤ y)) (fun a b c h1 h2 => decide_eq_true (List.le_trans (of_decide_eq_true h1) (of_decide_eq_true h2))) (fun a b => by rcases List.le_total a b with h | h <;> simp [h]) ps
    exact h.imp fun h => of_decide_eq_true h
  · rw [insAll_mem]
    constructor
    · rintro (h | h)
      · cases h
      · have hm : x ∈ ps.mergeSort fun x y => decide (x ≤ y) := List.mem_mergeSort.2 h
        obtain ⟨j, hj, e⟩ := List.mem_iff_getElem.1 hm
        rw [← e]
        exact compact_has _ j hj
    · intro h
      exact Or.inr (List.mem_mergeSort.1 (compact_mem h))

end Go.Proofs.YtenegfafjjknoaaGreatDoor.Sorts
