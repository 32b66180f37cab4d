/- A disk, as the document has it: no Go in sight. Places and turns in a disk's list: no Go in sight. A disk's measures, and what stays good: no Go in sight. Segments that have been sorted, by their places: no Go in sight. Segments as a row of cells, three a segment. -/
import Derived.Test.YtenegfafjjknoaaGreatDoorBytes
import Derived.Laws.AppendOwn
namespace Go.Proofs.YtenegfafjjknoaaGreatDoor.Dm
open Bytes

/-- A segment: its number, its text, how many bytes are synced. -/
structure Seg where
  num : Int
  text : ByteArray
  syn : Nat

/-- A disk: its segments by rising numbers; its limits. -/
structure Dk where
  segs : List Seg
  left : Int
  room : Int

def fresh : Dk := ⟨[], -1, -1⟩

/-- How many bytes the segments have. -/
def used (l : List Seg) : Nat := (l.map (·.text.size)).sum

/-- A segment's place. -/
def place (n : Int) : List Seg → Option Nat
  | [] => none
  | s :: l => if s.num = n then some 0 else (place n l).map (· + 1)

/-- One operation less. -/
def op (S : Dk) : Dk := { S with left := if 0 < S.left then S.left - 1 else S.left }

/-- The segment of a number turned. -/
def turn (n : Int) (f : Seg → Seg) (l : List Seg) : List Seg := l.map fun s => if s.num = n then f s else s

/-- A segment of that number is there. -/
def ensure (n : Int) : List Seg → List Seg
  | [] => [⟨n, ⟨#[]⟩, 0⟩]
  | s :: l => if s.num = n then s :: l else if n < s.num then ⟨n, ⟨#[]⟩, 0⟩ :: s :: l else s :: ensure n l

def doAppend (S : Dk) (n : Int) (t : ByteArray) : Dk × Int :=
  if S.left = 0 then (S, 8)
  else if n < 0 then (op S, 9)
  else if 0 ≤ S.room ∧ S.room < (used S.segs : Int) + t.size then (op S, 7)
  else ({ op S with segs := turn n (fun s => { s with text := s.text ++ t }) (ensure n S.segs) }, 0)

def doSync (S : Dk) (n : Int) : Dk × Int :=
  if S.left = 0 then (S, 8)
  else match place n S.segs with
    | none => (op S, 9)
    | some _ => ({ op S with segs := turn n (fun s => { s with syn := s.text.size }) S.segs }, 0)

def doTrunc (S : Dk) (n k : Int) : Dk × Int :=
  if S.left = 0 then (S, 8)
  else match place n S.segs with
    | none => (op S, 9)
    | some i =>
      if 0 ≤ k ∧ k ≤ ((S.segs[i]?).map (fun s => (s.text.size : Int))).getD (-1) then ({ op S with segs := turn n (fun s => { s with text := s.text.extract 0 k.toNat, syn := min s.syn k.toNat }) S.segs }, 0)
      else (op S, 9)

def doDelete (S : Dk) (n : Int) : Dk × Int :=
  if S.left = 0 then (S, 8)
  else match place n S.segs with
    | none => (op S, 9)
    | some i => ({ op S with segs := S.segs.eraseIdx i }, 0)

def doRead (S : Dk) (n : Int) : ByteArray × Int :=
  if S.left = 0 then (⟨#[]⟩, 8)
  else match place n S.segs with
    | none => (⟨#[]⟩, 9)
    | some i => (((S.segs[i]?).map (·.text)).getD ⟨#[]⟩, 0)

def doList (S : Dk) : List Int × Int := if S.left = 0 then ([], 8) else (S.segs.map (·.num), 0)

def doLimit (S : Dk) (a b : Int) : Dk := { S with left := if a < 0 then -1 else a, room := if b < 0 then -1 else b }

/-- What the power leaves of a segment. -/
def torn (t : Int) (s : Seg) : Seg :=
  if t < (s.text.size : Int) - s.syn then { s with text := s.text.extract 0 (s.syn + t.toNat), syn := s.syn + t.toNat } else { s with syn := s.text.size }

def doCrash (S : Dk) (t : Int) : Dk := ⟨S.segs.map (torn (if t < 0 then 0 else t)), -1, -1⟩

/-- What always holds of a disk that came to be by these. -/
structure Good (S : Dk) : Prop where
  rise : S.segs.Pairwise fun a b => a.num < b.num
  syn : ∀ s ∈ S.segs, s.syn ≤ s.text.size
  num : ∀ s ∈ S.segs, 0 ≤ s.num ∧ s.num ≤ 9223372036854775807
  left : -1 ≤ S.left ∧ S.left ≤ 9223372036854775807
  room : -1 ≤ S.room ∧ S.room ≤ 9223372036854775807

end Go.Proofs.YtenegfafjjknoaaGreatDoor.Dm

namespace Go.Proofs.YtenegfafjjknoaaGreatDoor.Dm
open Bytes

theorem place_some {n : Int} : ∀ {l : List Seg} {i : Nat}, place n l = some i → ∃ s, l[i]? = some s ∧ s.num = n := by
  intro l
  induction l with
  | nil => intro i h; cases h
  | cons s l ih =>
    intro i h
    rw [place] at h
    split at h
    · cases h
      exact ⟨s, rfl, by assumption⟩
    · rw [Option.map_eq_some_iff] at h
      obtain ⟨j, hj, rfl⟩ := h
      obtain ⟨t, h1, h2⟩ := ih hj
      exact ⟨t, by rw [List.getElem?_cons_succ]; exact h1, h2⟩

theorem place_none {n : Int} : ∀ {l : List Seg}, place n l = none → ∀ s ∈ l, s.num ≠ n := by
  intro l
  induction l with
  | nil => intro _ s hs; cases hs
  | cons t l ih =>
    intro h s hs
    rw [place] at h
    split at h
    · cases h
    · rename_i hne
      rw [Option.map_eq_none_iff] at h
      rcases List.mem_cons.1 hs with e | e
      · subst e
        exact hne
      · exact ih h s e

/-- A search that has come to place i. -/
theorem place_at {n : Int} : ∀ {l : List Seg} {i : Nat} {s : Seg}, (∀ j t, j < i → l[j]? = some t → t.num ≠ n) → l[i]? = some s → s.num = n → place n l = some i := by
  intro l
  induction l with
  | nil => intro i s _ h; simp at h
  | cons t l ih =>
    intro i s hb hs hn
    rw [place]
    cases i with
    | zero =>
      rw [List.getElem?_cons_zero] at hs
      cases hs
      rw [if_pos hn]
    | succ i =>
      have h0 := hb 0 t (by omega) rfl
      rw [if_neg h0, ih (i := i) (s := s) (fun j u hj hu => hb (j + 1) u (by omega) (by rw [List.getElem?_cons_succ]; exact hu)) (by rw [List.getElem?_cons_succ] at hs; exact hs) hn]
      rfl

theorem place_not {n : Int} : ∀ {l : List Seg}, (∀ (j : Nat) t, l[j]? = some t → t.num ≠ n) → place n l = none := by
  intro l
  induction l with
  | nil => intro _; rfl
  | cons t l ih =>
    intro hb
    rw [place, if_neg (hb 0 t rfl), ih (fun j u hu => hb (j + 1) u (by rw [List.getElem?_cons_succ]; exact hu))]
    rfl

/-- Numbers rise: each stands once. -/
theorem rise_once {l : List Seg} (h : l.Pairwise fun a b => a.num < b.num) {i j : Nat} {s t : Seg} (hi : l[i]? = some s) (hj : l[j]? = some t) (e : s.num = t.num) : i = j := by
  obtain ⟨hi', rfl⟩ := List.getElem?_eq_some_iff.1 hi
  obtain ⟨hj', rfl⟩ := List.getElem?_eq_some_iff.1 hj
  have hp := List.pairwise_iff_getElem.1 h
  rcases Nat.lt_trichotomy i j with k | k | k
  · have := hp i j hi' hj' k
    omega
  · exact k
  · have := hp j i hj' hi' k
    omega

/-- The segment of a number turned: the list set at its place. -/
theorem turn_set {n : Int} {f : Seg → Seg} {l : List Seg} (h : l.Pairwise fun a b => a.num < b.num) {i : Nat} {s : Seg} (hi : l[i]? = some s) (hn : s.num = n) : turn n f l = l.set i (f s) := by
  refine List.ext_getElem? fun j => ?_
  rw [turn, List.getElem?_map, List.getElem?_set]
  by_cases hj : i = j
  · subst hj
    have hlt : i < l.length := (List.getElem?_eq_some_iff.1 hi).1
    rw [if_pos rfl, hi, if_pos hlt]
    show some (if s.num = n then f s else s) = _
    rw [if_pos hn]
  · rw [if_neg hj]
    cases ht : l[j]? with
    | none => rfl
    | some t =>
      show some (if t.num = n then f t else t) = some t
      rw [if_neg]
      intro e
      exact hj (rise_once h hi ht (hn.trans e.symm))

theorem ensure_there {n : Int} : ∀ {l : List Seg} {i : Nat} {s : Seg}, l.Pairwise (fun a b => a.num < b.num) → l[i]? = some s → s.num = n → ensure n l = l := by
  intro l
  induction l with
  | nil => intro i s _ h; simp at h
  | cons t l ih =>
    intro i s hr hs hn
    have hr' := List.pairwise_cons.1 hr
    rw [ensure]
    cases i with
    | zero =>
      rw [List.getElem?_cons_zero] at hs
      cases hs
      rw [if_pos hn]
    | succ i =>
      rw [List.getElem?_cons_succ] at hs
      have hlt := hr'.1 s (List.mem_of_getElem? hs)
      rw [if_neg (by omega), if_neg (by omega), ih hr'.2 hs hn]

/-- Where it is not there: the smaller ones, it, the greater ones. -/
theorem ensure_new {n : Int} : ∀ {l : List Seg}, l.Pairwise (fun a b => a.num < b.num) → (∀ s ∈ l, s.num ≠ n) → ensure n l = l.filter (fun s => decide (s.num < n)) ++ ⟨n, ⟨#[]⟩, 0⟩ :: l.filter (fun s => decide (n < s.num)) := by
  intro l
  induction l with
  | nil => intro _ _; rfl
  | cons t l ih =>
    intro hr hn
    have hr' := List.pairwise_cons.1 hr
    have ht := hn t (List.mem_cons_self ..)
    rw [ensure, if_neg ht]
    by_cases hlt : n < t.num
    · have e1 : (t :: l).filter (fun s => decide (s.num < n)) = [] := by
        rw [List.filter_eq_nil_iff]
        intro s hs
        rcases List.mem_cons.1 hs with e | e
        · subst e
          simp
          omega
        · have := hr'.1 s e
          simp
          omega
      have e2 : (t :: l).filter (fun s => decide (n < s.num)) = t :: l := by
        rw [List.filter_eq_self]
        intro s hs
        rcases List.mem_cons.1 hs with e | e
        · subst e
          simp [hlt]
        · have := hr'.1 s e
          simp
          omega
      rw [if_pos hlt, e1, e2]
      rfl
    · rw [if_neg hlt, ih hr'.2 (fun s hs => hn s (List.mem_cons_of_mem _ hs))]
      have h3 : t.num < n := by omega
      simp [h3, hlt]

theorem ensure_rise {n : Int} : ∀ {l : List Seg}, l.Pairwise (fun a b => a.num < b.num) → (ensure n l).Pairwise (fun a b => a.num < b.num) := by
  intro l hr
  by_cases h : ∃ s ∈ l, s.num = n
  · obtain ⟨s, hs, hn⟩ := h
    obtain ⟨i, hi⟩ := List.getElem?_of_mem hs
    rw [ensure_there hr hi hn]
    exact hr
  · have hne : ∀ s ∈ l, s.num ≠ n := fun s hs e => h ⟨s, hs, e⟩
    rw [ensure_new hr hne, List.pairwise_append]
    refine ⟨hr.filter _, List.pairwise_cons.2 ⟨fun s hs => ?_, hr.filter _⟩, fun a ha b hb => ?_⟩
    · have := (List.mem_filter.1 hs).2
      simpa using this
    · have h1 : a.num < n := by simpa using (List.mem_filter.1 ha).2
      rcases List.mem_cons.1 hb with e | e
      · subst e
        exact h1
      · have h2 : n < b.num := by simpa using (List.mem_filter.1 e).2
        omega

end Go.Proofs.YtenegfafjjknoaaGreatDoor.Dm

namespace Go.Proofs.YtenegfafjjknoaaGreatDoor.Dm
open Bytes

/-- Sorted, and the same segments with one more: the one that 'ensure' has. -/
theorem ensure_sorted {n : Int} {l l' : List Seg} (hr : l.Pairwise fun a b => a.num < b.num) (hne : ∀ s ∈ l, s.num ≠ n) (hp : l'.Perm (l ++ [⟨n, ⟨#[]⟩, 0⟩])) (hs : l'.Pairwise fun a b => a.num < b.num) : l' = ensure n l := by
  refine List.Perm.eq_of_pairwise (le := fun a b => a.num < b.num) (fun a b _ _ h1 h2 => by omega) hs (ensure_rise hr) (hp.trans ?_)
  rw [ensure_new hr hne]
  refine List.Perm.trans ?_ List.perm_middle.symm
  refine List.perm_append_singleton _ _ |>.trans (List.Perm.cons _ ?_)
  have h := (List.filter_append_perm (fun s : Seg => decide (s.num < n)) l).symm
  have e : l.filter (fun s => !decide (s.num < n)) = l.filter (fun s => decide (n < s.num)) := by
    refine List.filter_congr fun s hs => ?_
    have := hne s hs
    by_cases h : s.num < n
    · simp [h]
      omega
    · simp [h]
      omega
  rw [e] at h
  exact h

theorem used_nil : used [] = 0 := rfl
theorem used_cons (s : Seg) (l : List Seg) : used (s :: l) = s.text.size + used l := by simp [used]
theorem used_append (l m : List Seg) : used (l ++ m) = used l + used m := by simp [used]

theorem used_mem {l : List Seg} {s : Seg} (h : s ∈ l) : s.text.size ≤ used l := by
  induction l with
  | nil => cases h
  | cons t l ih =>
    rw [used_cons]
    rcases List.mem_cons.1 h with e | e
    · subst e
      omega
    · have := ih e
      omega

theorem used_turn {n : Int} {f : Seg → Seg} {k : Nat} (hf : ∀ s, (f s).text.size ≤ s.text.size + k) : ∀ {l : List Seg}, l.Pairwise (fun a b => a.num < b.num) → used (turn n f l) ≤ used l + k := by
  intro l
  induction l with
  | nil => intro _; show 0 ≤ _; omega
  | cons t l ih =>
    intro hr
    have hr' := List.pairwise_cons.1 hr
    show used ((if t.num = n then f t else t) :: turn n f l) ≤ _
    rw [used_cons, used_cons]
    by_cases h : t.num = n
    · rw [if_pos h]
      have e : turn n f l = l := by
        rw [turn]
        conv => rhs; rw [← List.map_id l]
        refine List.map_congr_left fun s hs => ?_
        have := hr'.1 s hs
        rw [if_neg (by omega)]
        rfl
      rw [e]
      have := hf t
      omega
    · rw [if_neg h]
      have := ih hr'.2
      omega

theorem used_ensure {n : Int} : ∀ (l : List Seg), used (ensure n l) = used l := by
  intro l
  induction l with
  | nil => rfl
  | cons t l ih =>
    rw [ensure]
    split
    · rfl
    · split
      · rw [used_cons]
        show 0 + _ = _
        omega
      · rw [used_cons, used_cons, ih]

theorem ensure_length {n : Int} : ∀ (l : List Seg), (ensure n l).length ≤ l.length + 1 := by
  intro l
  induction l with
  | nil => exact Nat.le_refl _
  | cons t l ih =>
    rw [ensure]
    split
    · simp
    · split
      · simp
      · simpa using ih

theorem used_erase : ∀ (l : List Seg) (i : Nat), used (l.eraseIdx i) ≤ used l := by
  intro l
  induction l with
  | nil => intro i; simp
  | cons t l ih =>
    intro i
    cases i with
    | zero =>
      rw [List.eraseIdx_cons_zero, used_cons]
      omega
    | succ i =>
      have := ih i
      rw [List.eraseIdx_cons_succ, used_cons, used_cons]
      omega

theorem used_torn (t : Int) : ∀ (l : List Seg), used (l.map (torn t)) ≤ used l := by
  intro l
  induction l with
  | nil => simp
  | cons s l ih =>
    rw [List.map_cons, used_cons, used_cons]
    have : (torn t s).text.size ≤ s.text.size := by
      rw [torn]
      split
      · simp
        omega
      · exact Nat.le_refl _
    omega

theorem turn_mem {n : Int} {f : Seg → Seg} {l : List Seg} {s : Seg} (h : s ∈ turn n f l) : s ∈ l ∨ ∃ t ∈ l, s = f t := by
  rw [turn, List.mem_map] at h
  obtain ⟨t, ht, rfl⟩ := h
  split
  · exact Or.inr ⟨t, ht, rfl⟩
  · exact Or.inl ht

theorem turn_rise {n : Int} {f : Seg → Seg} (hf : ∀ s, (f s).num = s.num) {l : List Seg} (h : l.Pairwise fun a b => a.num < b.num) : (turn n f l).Pairwise fun a b => a.num < b.num := by
  rw [turn, List.pairwise_map]
  refine h.imp fun {a b} hab => ?_
  have e : ∀ s : Seg, (if s.num = n then f s else s).num = s.num := fun s => by
    split
    · exact hf s
    · rfl
  rw [e, e]
  exact hab

theorem ensure_mem {n : Int} : ∀ {l : List Seg} {s : Seg}, s ∈ ensure n l → s ∈ l ∨ s = ⟨n, ⟨#[]⟩, 0⟩ := by
  intro l
  induction l with
  | nil => intro s h; rw [ensure] at h; exact Or.inr (by simpa using h)
  | cons t l ih =>
    intro s h
    rw [ensure] at h
    split at h
    · exact Or.inl h
    · split at h
      · rcases List.mem_cons.1 h with e | e
        · exact Or.inr e
        · exact Or.inl e
      · rcases List.mem_cons.1 h with e | e
        · exact Or.inl (e ▸ List.mem_cons_self ..)
        · rcases ih e with e | e
          · exact Or.inl (List.mem_cons_of_mem _ e)
          · exact Or.inr e

theorem turn_length (n : Int) (f : Seg → Seg) (l : List Seg) : (turn n f l).length = l.length := List.length_map ..

theorem good_op {S : Dk} (h : Good S) : Good (op S) :=
  ⟨h.rise, h.syn, h.num, by
    have := h.left
    show -1 ≤ (if 0 < S.left then S.left - 1 else S.left) ∧ (if 0 < S.left then S.left - 1 else S.left) ≤ _
    split <;> omega, h.room⟩

theorem good_fresh : Good fresh := ⟨List.Pairwise.nil, fun s h => by simp [fresh] at h, fun s h => by simp [fresh] at h, by decide, by decide⟩

theorem good_turn {S : Dk} (h : Good S) {n : Int} {f : Seg → Seg} (h1 : ∀ s, (f s).num = s.num) (h2 : ∀ s, s.syn ≤ s.text.size → (f s).syn ≤ (f s).text.size) : Good { op S with segs := turn n f S.segs } :=
  ⟨turn_rise h1 h.rise, fun s hs => by
    rcases turn_mem hs with e | ⟨t, ht, rfl⟩
    · exact h.syn s e
    · exact h2 t (h.syn t ht), fun s hs => by
    rcases turn_mem hs with e | ⟨t, ht, rfl⟩
    · exact h.num s e
    · rw [h1 t]
      exact h.num t ht, (good_op h).left, h.room⟩

/-- A disk within bounds: it is good, of at most k segments, u bytes. -/
structure Fit (S : Dk) (k u : Nat) : Prop where
  good : Good S
  len : S.segs.length ≤ k
  use : used S.segs ≤ u

theorem Fit.op {S : Dk} {k u : Nat} (h : Fit S k u) : Fit (Dm.op S) k u := ⟨good_op h.good, h.len, h.use⟩

theorem Fit.more {S : Dk} {k u k' u' : Nat} (h : Fit S k u) (hk : k ≤ k') (hu : u ≤ u') : Fit S k' u' := ⟨h.good, Nat.le_trans h.len hk, Nat.le_trans h.use hu⟩

theorem fit_append {S : Dk} {k u : Nat} (h : Fit S k u) (n : Int) (t : ByteArray) (hn : n ≤ 9223372036854775807) : Fit (doAppend S n t).1 (k + 1) (u + t.size) := by
  rw [doAppend]
  split
  · exact h.more (by omega) (by omega)
  · split
    · exact h.op.more (by omega) (by omega)
    · split
      · exact h.op.more (by omega) (by omega)
      · rename_i h0 _
        have hE : Good { S with segs := ensure n S.segs } := ⟨ensure_rise h.good.rise, fun s hs => by
          rcases ensure_mem hs with e | e
          · exact h.good.syn s e
          · subst e
            exact Nat.le_refl _, fun s hs => by
          rcases ensure_mem hs with e | e
          · exact h.good.num s e
          · subst e
            show 0 ≤ n ∧ n ≤ _
            omega, h.good.left, h.good.room⟩
        have hT := good_turn hE (n := n) (f := fun s => { s with text := s.text ++ t }) (fun _ => rfl) (fun s hs => by
          show s.syn ≤ (s.text ++ t).size
          rw [ByteArray.size_append]
          omega)
        refine ⟨hT, ?_, ?_⟩
        · show (turn _ _ (ensure n S.segs)).length ≤ _
          rw [turn_length]
          have := ensure_length (n := n) S.segs
          have := h.len
          omega
        · show used (turn _ _ (ensure n S.segs)) ≤ _
          have := used_turn (n := n) (f := fun s => { s with text := s.text ++ t }) (k := t.size) (fun s => by
            show (s.text ++ t).size ≤ _
            rw [ByteArray.size_append]
            exact Nat.le_refl _) (ensure_rise (n := n) h.good.rise)
          rw [used_ensure] at this
          have := h.use
          omega

theorem fit_sync {S : Dk} {k u : Nat} (h : Fit S k u) (n : Int) : Fit (doSync S n).1 k u := by
  rw [doSync]
  split
  · exact h
  · split
    · exact h.op
    · refine ⟨good_turn h.good (fun _ => rfl) (fun s _ => Nat.le_refl _), ?_, ?_⟩
      · show (turn _ _ S.segs).length ≤ _
        rw [turn_length]
        exact h.len
      · exact Nat.le_trans (used_turn (n := n) (f := fun s => { s with syn := s.text.size }) (k := 0) (fun s => Nat.le_refl _) h.good.rise) h.use

theorem fit_trunc {S : Dk} {k u : Nat} (h : Fit S k u) (n m : Int) : Fit (doTrunc S n m).1 k u := by
  rw [doTrunc]
  split
  · exact h
  · split
    · exact h.op
    · rename_i i hp
      obtain ⟨s, hs, hn⟩ := place_some hp
      have hsz := h.good.syn s (List.mem_of_getElem? hs)
      split
      · rename_i hb
        rw [hs] at hb
        have hb2 : m ≤ (s.text.size : Int) := hb.2
        have hT : turn n (fun s => { s with text := s.text.extract 0 m.toNat, syn := min s.syn m.toNat }) S.segs = turn n (fun s => { s with text := s.text.extract 0 m.toNat, syn := min (min s.syn m.toNat) (s.text.extract 0 m.toNat).size }) S.segs := by
          rw [turn_set h.good.rise hs hn, turn_set h.good.rise hs hn]
          congr 2
          simp
          omega
        refine ⟨?_, ?_, ?_⟩
        · show Good { Dm.op S with segs := turn n _ S.segs }
          rw [hT]
          exact good_turn h.good (fun _ => rfl) (fun s _ => Nat.min_le_right _ _)
        · show (turn _ _ S.segs).length ≤ _
          rw [turn_length]
          exact h.len
        · refine Nat.le_trans (used_turn (k := 0) (fun s => ?_) h.good.rise) h.use
          show (s.text.extract 0 m.toNat).size ≤ s.text.size + 0
          simp
          omega
      · exact h.op

theorem fit_delete {S : Dk} {k u : Nat} (h : Fit S k u) (n : Int) : Fit (doDelete S n).1 k u := by
  rw [doDelete]
  split
  · exact h
  · split
    · exact h.op
    · refine ⟨⟨h.good.rise.sublist (List.eraseIdx_sublist ..), fun s hs => h.good.syn s (List.mem_of_mem_eraseIdx hs), fun s hs => h.good.num s (List.mem_of_mem_eraseIdx hs), (good_op h.good).left, h.good.room⟩, ?_, Nat.le_trans (used_erase _ _) h.use⟩
      exact Nat.le_trans (List.eraseIdx_sublist ..).length_le h.len

theorem fit_limit {S : Dk} {k u : Nat} (h : Fit S k u) (a b : Int) (ha : a ≤ 9223372036854775807) (hb : b ≤ 9223372036854775807) : Fit (doLimit S a b) k u :=
  ⟨⟨h.good.rise, h.good.syn, h.good.num, by
    show -1 ≤ (if a < 0 then -1 else a) ∧ (if a < 0 then -1 else a) ≤ _
    split <;> omega, by
    show -1 ≤ (if b < 0 then -1 else b) ∧ (if b < 0 then -1 else b) ≤ _
    split <;> omega⟩, h.len, h.use⟩

theorem fit_crash {S : Dk} {k u : Nat} (h : Fit S k u) (t : Int) : Fit (doCrash S t) k u := by
  have hnum : ∀ (t : Int) (s : Seg), (torn t s).num = s.num := fun t s => by
    rw [torn]
    split <;> rfl
  refine ⟨⟨?_, fun s hs => ?_, fun s hs => ?_, ⟨by show -1 ≤ (-1 : Int); omega, by show (-1 : Int) ≤ _; omega⟩, ⟨by show -1 ≤ (-1 : Int); omega, by show (-1 : Int) ≤ _; omega⟩⟩, ?_, Nat.le_trans (used_torn _ _) h.use⟩
  · show (S.segs.map _).Pairwise _
    rw [List.pairwise_map]
    refine h.good.rise.imp fun {a b} hab => ?_
    rw [hnum, hnum]
    exact hab
  · obtain ⟨x, hx, rfl⟩ := List.mem_map.1 hs
    have := h.good.syn x hx
    generalize (if t < 0 then 0 else t) = t'
    rw [torn]
    split
    · simp
      omega
    · exact Nat.le_refl _
  · obtain ⟨x, hx, rfl⟩ := List.mem_map.1 hs
    rw [hnum]
    exact h.good.num x hx
  · show (S.segs.map _).length ≤ _
    rw [List.length_map]
    exact h.len

end Go.Proofs.YtenegfafjjknoaaGreatDoor.Dm

namespace Go.Proofs.YtenegfafjjknoaaGreatDoor.Dm

/-- The segments at these places. -/
def at_ {m : Nat} (l : List Seg) (hl : l.length = m + 1) (d : List (Fin (m + 1))) : List Seg := d.map fun i => l[i.1]'(by rw [hl]; exact i.2)
def bat {m : Nat} (l : List Nat) (hl : l.length = m + 1) (d : List (Fin (m + 1))) : List Nat := d.map fun i => l[i.1]'(by rw [hl]; exact i.2)

theorem at_all {m : Nat} (l : List Seg) (hl : l.length = m + 1) : at_ l hl (List.ofFn id) = l := by
  rw [at_, List.map_ofFn]
  refine List.ext_getElem (by rw [List.length_ofFn, hl]) fun i h1 h2 => ?_
  rw [List.getElem_ofFn]
  rfl

theorem bat_all {m : Nat} (l : List Nat) (hl : l.length = m + 1) : bat l hl (List.ofFn id) = l := by
  rw [bat, List.map_ofFn]
  refine List.ext_getElem (by rw [List.length_ofFn, hl]) fun i h1 h2 => ?_
  rw [List.getElem_ofFn]
  rfl

theorem at_get {m : Nat} {l : List Seg} {b : List Nat} {hl : l.length = m + 1} {hb : b.length = m + 1} {d : List (Fin (m + 1))} {i : Nat} {s : Seg} {c : Nat} (h1 : (bat b hb d)[i]? = some c) (h2 : (at_ l hl d)[i]? = some s) : ∃ j : Nat, b[j]? = some c ∧ l[j]? = some s := by
  rw [bat, List.getElem?_map, Option.map_eq_some_iff] at h1
  rw [at_, List.getElem?_map, Option.map_eq_some_iff] at h2
  obtain ⟨j, hj, rfl⟩ := h1
  obtain ⟨k, hk, rfl⟩ := h2
  rw [hj] at hk
  cases hk
  exact ⟨j.1, List.getElem?_eq_getElem _, List.getElem?_eq_getElem _⟩

/-- Sorted places: the segments in their order. -/
theorem at_sorted {m : Nat} {n : Int} {l : List Seg} (hl : (l ++ [(⟨n, ⟨#[]⟩, 0⟩ : Seg)]).length = m + 1) (hr : l.Pairwise fun a b => a.num < b.num) (hne : ∀ s ∈ l, s.num ≠ n) {d : List (Fin (m + 1))} (hp : d.Perm (List.ofFn id))
    (hs : d.Pairwise fun i j => ¬ ((l ++ [(⟨n, ⟨#[]⟩, 0⟩ : Seg)])[j.1]'(by rw [hl]; exact j.2)).num < ((l ++ [(⟨n, ⟨#[]⟩, 0⟩ : Seg)])[i.1]'(by rw [hl]; exact i.2)).num) :
    at_ (l ++ [⟨n, ⟨#[]⟩, 0⟩]) hl d = ensure n l := by
  have hnd : d.Nodup := (hp.nodup_iff).2 (by
    rw [List.Nodup, List.pairwise_iff_getElem]
    intro i j hi hj hij e
    rw [List.getElem_ofFn, List.getElem_ofFn] at e
    have := congrArg Fin.val e
    simp only [id] at this
    omega)
  refine ensure_sorted hr hne ?_ ?_
  · have := hp.map fun i : Fin (m + 1) => (l ++ [(⟨n, ⟨#[]⟩, 0⟩ : Seg)])[i.1]'(by rw [hl]; exact i.2)
    have e := at_all (l ++ [(⟨n, ⟨#[]⟩, 0⟩ : Seg)]) hl
    rw [at_] at e
    rw [e] at this
    exact this
  · rw [at_, List.pairwise_map]
    refine (hs.and hnd).imp fun {i j} ⟨h1, h2⟩ => ?_
    have hij : i.1 ≠ j.1 := fun e => h2 (Fin.ext e)
    refine Int.lt_iff_le_and_ne.2 ⟨by omega, fun e => hij ?_⟩
    have hil : i.1 < l.length + 1 := by have := i.2; simp at hl; omega
    have hjl : j.1 < l.length + 1 := by have := j.2; simp at hl; omega
    rw [List.getElem_append, List.getElem_append] at e
    by_cases hi : i.1 < l.length
    · by_cases hj : j.1 < l.length
      · rw [dif_pos hi, dif_pos hj] at e
        exact rise_once hr (List.getElem?_eq_getElem hi) (List.getElem?_eq_getElem hj) e
      · rw [dif_pos hi, dif_neg hj] at e
        have : (l[i.1]).num = n := by simpa using e
        exact absurd this (hne _ (List.getElem_mem hi))
    · by_cases hj : j.1 < l.length
      · rw [dif_neg hi, dif_pos hj] at e
        have : (l[j.1]).num = n := by simpa using e.symm
        exact absurd this (hne _ (List.getElem_mem hj))
      · omega

end Go.Proofs.YtenegfafjjknoaaGreatDoor.Dm

namespace Go.Proofs.YtenegfafjjknoaaGreatDoor.Dm
open Go

def cells3 (s : Seg) : List Value := [.int .i64 s.num, .string s.text, .int .i64 (s.syn : Int)]

def rows : List Seg → List Value
  | [] => []
  | s :: l => .int .i64 s.num :: .string s.text :: .int .i64 (s.syn : Int) :: rows l

theorem rows_append (l m : List Seg) : rows (l ++ m) = rows l ++ rows m := by
  induction l with
  | nil => rfl
  | cons s l ih => simp [rows, ih]

theorem rows_length (l : List Seg) : (rows l).length = l.length * 3 := by
  induction l with
  | nil => rfl
  | cons s l ih =>
    simp [rows, ih]
    omega

theorem rows_one (s : Seg) : rows [s] = cells3 s := rfl

theorem rows_oneCell (l : List Seg) : ∀ u ∈ rows l, u.oneCell' = true := by
  induction l with
  | nil => intro u h; cases h
  | cons s l ih =>
    intro u h
    rw [rows, List.mem_cons, List.mem_cons, List.mem_cons] at h
    rcases h with rfl | rfl | rfl | h
    · rfl
    · rfl
    · rfl
    · exact ih u h

theorem rows_get : ∀ {l : List Seg} {i : Nat} {s : Seg}, l[i]? = some s → (rows l)[i * 3]? = some (.int .i64 s.num) ∧ (rows l)[i * 3 + 1]? = some (.string s.text) ∧ (rows l)[i * 3 + 2]? = some (.int .i64 (s.syn : Int)) := by
  intro l
  induction l with
  | nil => intro i s h; simp at h
  | cons t l ih =>
    intro i s h
    cases i with
    | zero =>
      rw [List.getElem?_cons_zero] at h
      cases h
      exact ⟨rfl, rfl, rfl⟩
    | succ i =>
      rw [List.getElem?_cons_succ] at h
      obtain ⟨a, b, c⟩ := ih h
      rw [rows, show (i + 1) * 3 = i * 3 + 1 + 1 + 1 by omega, show i * 3 + 1 + 1 + 1 + 1 = i * 3 + 1 + 1 + 1 + 1 by omega]
      refine ⟨?_, ?_, ?_⟩
      · simpa using a
      · rw [show i * 3 + 1 + 1 + 1 + 1 = (i * 3 + 1) + 1 + 1 + 1 by omega]
        simpa using b
      · rw [show i * 3 + 1 + 1 + 1 + 2 = (i * 3 + 2) + 1 + 1 + 1 by omega]
        simpa using c

theorem rows_drop (l : List Seg) (i : Nat) : (rows l).drop (i * 3) = rows (l.drop i) := by
  induction l generalizing i with
  | nil => simp [rows]
  | cons s l ih =>
    cases i with
    | zero => rfl
    | succ i =>
      rw [show (i + 1) * 3 = i * 3 + 1 + 1 + 1 by omega]
      simpa [rows] using ih i

theorem rows_set1 (t : ByteArray) : ∀ {l : List Seg} {i : Nat} {s : Seg}, l[i]? = some s → (rows l).set (i * 3 + 1) (.string t) = rows (l.set i { s with text := t }) := by
  intro l
  induction l with
  | nil => intro i s h; simp at h
  | cons x l ih =>
    intro i s h
    cases i with
    | zero =>
      rw [List.getElem?_cons_zero] at h
      cases h
      rfl
    | succ i =>
      rw [List.getElem?_cons_succ] at h
      rw [show (i + 1) * 3 + 1 = (i * 3 + 1) + 1 + 1 + 1 by omega]
      have := ih h
      simp [rows, this]

theorem rows_set2 (n : Nat) : ∀ {l : List Seg} {i : Nat} {s : Seg}, l[i]? = some s → (rows l).set (i * 3 + 2) (.int .i64 (n : Int)) = rows (l.set i { s with syn := n }) := by
  intro l
  induction l with
  | nil => intro i s h; simp at h
  | cons x l ih =>
    intro i s h
    cases i with
    | zero =>
      rw [List.getElem?_cons_zero] at h
      cases h
      rfl
    | succ i =>
      rw [List.getElem?_cons_succ] at h
      rw [show (i + 1) * 3 + 2 = (i * 3 + 2) + 1 + 1 + 1 by omega]
      have := ih h
      simp [rows, this]

/-- A new segment at its place. -/
theorem ensure_at {n : Int} : ∀ {l : List Seg} {k : Nat}, k ≤ l.length → (∀ (j : Nat) s, j < k → l[j]? = some s → s.num < n) → (∀ s, l[k]? = some s → n < s.num) → ensure n l = l.take k ++ ⟨n, ⟨#[]⟩, 0⟩ :: l.drop k := by
  intro l
  induction l with
  | nil =>
    intro k _ _ _
    simp [ensure]
  | cons t l ih =>
    intro k hk h1 h2
    rw [ensure]
    cases k with
    | zero =>
      have := h2 t rfl
      rw [if_neg (by omega), if_pos (by omega)]
      rfl
    | succ k =>
      have h0 := h1 0 t (by omega) rfl
      rw [if_neg (by omega), if_neg (by omega), ih (k := k) (by simpa using hk) (fun j s hj hs => h1 (j + 1) s (by omega) (by simpa using hs)) (fun s hs => h2 s (by simpa using hs))]
      rfl

/-- The place of a new segment. -/
theorem ensure_get {n : Int} {l : List Seg} {k : Nat} (hk : k ≤ l.length) : (l.take k ++ (⟨n, ⟨#[]⟩, 0⟩ : Seg) :: l.drop k)[k]? = some ⟨n, ⟨#[]⟩, 0⟩ := by
  rw [List.getElem?_append_right (by simp; omega)]
  simp [Nat.min_eq_left hk]

/-- One taken away: what is ahead of it, what is behind it. -/
theorem erase_at (l : List Seg) (i : Nat) : l.eraseIdx i = l.take i ++ l.drop (i + 1) := List.eraseIdx_eq_take_drop_succ ..

end Go.Proofs.YtenegfafjjknoaaGreatDoor.Dm
