/- A disk, as the document has it: no Go in sight. Places and turns in a disk's list: no Go in sight. A disk's measures, and what stays good: no Go in sight. Segments that have been sorted, by their places: no Go in sight. Segments as a row of cells, three a segment. -/
import Derived.Laws.AppendOwn
import Derived.Test.YtmkidefdegaamaaGreatDoorMemy
import Derived.Test.YtmkidefdegaamaaGreatDoorLeaf
import Derived.Deep.QuietTactic
import Derived.BigQuiet
import Derived.Lib.MinMax
namespace Go.Proofs.YtmkidefdegaamaaGreatDoor.Dm
open Bytes
/-- A segment: its number, its text, how many bytes are synced. -/
structure Seg where
  num : Int
  text : ByteArray
  syn : Nat
/-- A disk: its segments by rising numbers; its limits. -/
structure Dk where
  segs : List Seg
  left : Int
  room : Int
def fresh : Dk := ⟨[], -1, -1⟩
/-- How many bytes the segments have. -/
def used (l : List Seg) : Nat := (l.map (·.text.size)).sum
/-- A segment's place. -/
def place (n : Int) : List Seg → Option Nat
  | [] => none
  | s :: l => if s.num = n then some 0 else (place n l).map (· + 1)
/-- One operation less. -/
def op (S : Dk) : Dk := { S with left := if 0 < S.left then S.left - 1 else S.left }
/-- The segment of a number turned. -/
def turn (n : Int) (f : Seg → Seg) (l : List Seg) : List Seg := l.map fun s => if s.num = n then f s else s
/-- A segment of that number is there. -/
def ensure (n : Int) : List Seg → List Seg
  | [] => [⟨n, ⟨#[]⟩, 0⟩]
  | s :: l => if s.num = n then s :: l else if n < s.num then ⟨n, ⟨#[]⟩, 0⟩ :: s :: l else s :: ensure n l
def doAppend (S : Dk) (n : Int) (t : ByteArray) : Dk × Int :=
  if S.left = 0 then (S, 8)
  else if n < 0 then (op S, 9)
  else if 0 ≤ S.room ∧ S.room < (used S.segs : Int) + t.size then (op S, 7)
  else ({ op S with segs := turn n (fun s => { s with text := s.text ++ t }) (ensure n S.segs) }, 0)
def doSync (S : Dk) (n : Int) : Dk × Int :=
  if S.left = 0 then (S, 8)
  else match place n S.segs with
    | none => (op S, 9)
    | some _ => ({ op S with segs := turn n (fun s => { s with syn := s.text.size }) S.segs }, 0)
def doTrunc (S : Dk) (n k : Int) : Dk × Int :=
  if S.left = 0 then (S, 8)
  else match place n S.segs with
    | none => (op S, 9)
    | some i =>
      if 0 ≤ k ∧ k ≤ ((S.segs[i]?).map (fun s => (s.text.size : Int))).getD (-1) then ({ op S with segs := turn n (fun s => { s with text := s.text.extract 0 k.toNat, syn := min s.syn k.toNat }) S.segs }, 0)
      else (op S, 9)
def doDelete (S : Dk) (n : Int) : Dk × Int :=
  if S.left = 0 then (S, 8)
  else match place n S.segs with
    | none => (op S, 9)
    | some i => ({ op S with segs := S.segs.eraseIdx i }, 0)
def doRead (S : Dk) (n : Int) : ByteArray × Int :=
  if S.left = 0 then (⟨#[]⟩, 8)
  else match place n S.segs with
    | none => (⟨#[]⟩, 9)
    | some i => (((S.segs[i]?).map (·.text)).getD ⟨#[]⟩, 0)
def doList (S : Dk) : List Int × Int := if S.left = 0 then ([], 8) else (S.segs.map (·.num), 0)
/-- What the power leaves of a segment. -/
def torn (t : Int) (s : Seg) : Seg :=
  if t < (s.text.size : Int) - s.syn then { s with text := s.text.extract 0 (s.syn + t.toNat), syn := s.syn + t.toNat } else { s with syn := s.text.size }
def doCrash (S : Dk) (t : Int) : Dk := ⟨S.segs.map (torn (if t < 0 then 0 else t)), -1, -1⟩
/-- What always holds of a disk that came to be by these. -/
structure Good (S : Dk) : Prop where
  rise : S.segs.Pairwise fun a b => a.num < b.num
  syn : ∀ s ∈ S.segs, s.syn ≤ s.text.size
  num : ∀ s ∈ S.segs, 0 ≤ s.num ∧ s.num ≤ 9223372036854775807
  left : -1 ≤ S.left ∧ S.left ≤ 9223372036854775807
  room : -1 ≤ S.room ∧ S.room ≤ 9223372036854775807
end Go.Proofs.YtmkidefdegaamaaGreatDoor.Dm
namespace Go.Proofs.YtmkidefdegaamaaGreatDoor.Dm
open Bytes
theorem place_some {n : Int} : ∀ {l : List Seg} {i : Nat}, place n l = some i → ∃ s, l[i]? = some s ∧ s.num = n := by
  intro l
  induction l with
  | nil => intro i h; cases h
  | cons s l ih =>
    intro i h
    rw [place] at h
    split at h
    · cases h
      exact ⟨s, rfl, by assumption⟩
    · rw [Option.map_eq_some_iff] at h
      obtain ⟨j, hj, rfl⟩ := h
      obtain ⟨t, h1, h2⟩ := ih hj
      exact ⟨t, by rw [List.getElem?_cons_succ]; exact h1, h2⟩
theorem place_none {n : Int} : ∀ {l : List Seg}, place n l = none → ∀ s ∈ l, s.num ≠ n := by
  intro l
  induction l with
  | nil => intro _ s hs; cases hs
  | cons t l ih =>
    intro h s hs
    rw [place] at h
    split at h
    · cases h
    · rename_i hne
      rw [Option.map_eq_none_iff] at h
      rcases List.mem_cons.1 hs with e | e
      · subst e
        exact hne
      · exact ih h s e
/-- A search that has come to place i. -/
theorem place_at {n : Int} : ∀ {l : List Seg} {i : Nat} {s : Seg}, (∀ j t, j < i → l[j]? = some t → t.num ≠ n) → l[i]? = some s → s.num = n → place n l = some i := by
  intro l
  induction l with
  | nil => intro i s _ h; simp at h
  | cons t l ih =>
    intro i s hb hs hn
    rw [place]
    cases i with
    | zero =>
      rw [List.getElem?_cons_zero] at hs
      cases hs
      rw [if_pos hn]
    | succ i =>
      have h0 := hb 0 t (by omega) rfl
      rw [if_neg h0, ih (i := i) (s := s) (fun j u hj hu => hb (j + 1) u (by omega) (by rw [List.getElem?_cons_succ]; exact hu)) (by rw [List.getElem?_cons_succ] at hs; exact hs) hn]
      rfl
theorem place_not {n : Int} : ∀ {l : List Seg}, (∀ (j : Nat) t, l[j]? = some t → t.num ≠ n) → place n l = none := by
  intro l
  induction l with
  | nil => intro _; rfl
  | cons t l ih =>
    intro hb
    rw [place, if_neg (hb 0 t rfl), ih (fun j u hu => hb (j + 1) u (by rw [List.getElem?_cons_succ]; exact hu))]
    rfl
/-- Numbers rise: each stands once. -/
theorem rise_once {l : List Seg} (h : l.Pairwise fun a b => a.num < b.num) {i j : Nat} {s t : Seg} (hi : l[i]? = some s) (hj : l[j]? = some t) (e : s.num = t.num) : i = j := by
  obtain ⟨hi', rfl⟩ := List.getElem?_eq_some_iff.1 hi
  obtain ⟨hj', rfl⟩ := List.getElem?_eq_some_iff.1 hj
  have hp := List.pairwise_iff_getElem.1 h
  rcases Nat.lt_trichotomy i j with k | k | k
  · have := hp i j hi' hj' k
    omega
  · exact k
  · have := hp j i hj' hi' k
    omega
/-- The segment of a number turned: the list set at its place. -/
theorem turn_set {n : Int} {f : Seg → Seg} {l : List Seg} (h : l.Pairwise fun a b => a.num < b.num) {i : Nat} {s : Seg} (hi : l[i]? = some s) (hn : s.num = n) : turn n f l = l.set i (f s) := by
  refine List.ext_getElem? fun j => ?_
  rw [turn, List.getElem?_map, List.getElem?_set]
  by_cases hj : i = j
  · subst hj
    have hlt : i < l.length := (List.getElem?_eq_some_iff.1 hi).1
    rw [if_pos rfl, hi, if_pos hlt]
    show some (if s.num = n then f s else s) = _
    rw [if_pos hn]
  · rw [if_neg hj]
    cases ht : l[j]? with
    | none => rfl
    | some t =>
      show some (if t.num = n then f t else t) = some t
      rw [if_neg]
      intro e
      exact hj (rise_once h hi ht (hn.trans e.symm))
theorem ensure_there {n : Int} : ∀ {l : List Seg} {i : Nat} {s : Seg}, l.Pairwise (fun a b => a.num < b.num) → l[i]? = some s → s.num = n → ensure n l = l := by
  intro l
  induction l with
  | nil => intro i s _ h; simp at h
  | cons t l ih =>
    intro i s hr hs hn
    have hr' := List.pairwise_cons.1 hr
    rw [ensure]
    cases i with
    | zero =>
      rw [List.getElem?_cons_zero] at hs
      cases hs
      rw [if_pos hn]
    | succ i =>
      rw [List.getElem?_cons_succ] at hs
      have hlt := hr'.1 s (List.mem_of_getElem? hs)
      rw [if_neg (by omega), if_neg (by omega), ih hr'.2 hs hn]
/-- Where it is not there: the smaller ones, it, the greater ones. -/
theorem ensure_new {n : Int} : ∀ {l : List Seg}, l.Pairwise (fun a b => a.num < b.num) → (∀ s ∈ l, s.num ≠ n) → ensure n l = l.filter (fun s => decide (s.num < n)) ++ ⟨n, ⟨#[]⟩, 0⟩ :: l.filter (fun s => decide (n < s.num)) := by
  intro l
  induction l with
  | nil => intro _ _; rfl
  | cons t l ih =>
    intro hr hn
    have hr' := List.pairwise_cons.1 hr
    have ht := hn t (List.mem_cons_self ..)
    rw [ensure, if_neg ht]
    by_cases hlt : n < t.num
    · have e1 : (t :: l).filter (fun s => decide (s.num < n)) = [] := by
        rw [List.filter_eq_nil_iff]
        intro s hs
        rcases List.mem_cons.1 hs with e | e
        · subst e
          simp
          omega
        · have := hr'.1 s e
          simp
          omega
      have e2 : (t :: l).filter (fun s => decide (n < s.num)) = t :: l := by
        rw [List.filter_eq_self]
        intro s hs
        rcases List.mem_cons.1 hs with e | e
        · subst e
          simp [hlt]
        · have := hr'.1 s e
          simp
          omega
      rw [if_pos hlt, e1, e2]
      rfl
    · rw [if_neg hlt, ih hr'.2 (fun s hs => hn s (List.mem_cons_of_mem _ hs))]
      have h3 : t.num < n := by omega
      simp [h3, hlt]
theorem ensure_rise {n : Int} : ∀ {l : List Seg}, l.Pairwise (fun a b => a.num < b.num) → (ensure n l).Pairwise (fun a b => a.num < b.num) := by
  intro l hr
  by_cases h : ∃ s ∈ l, s.num = n
  · obtain ⟨s, hs, hn⟩ := h
    obtain ⟨i, hi⟩ := List.getElem?_of_mem hs
    rw [ensure_there hr hi hn]
    exact hr
  · have hne : ∀ s ∈ l, s.num ≠ n := fun s hs e => h ⟨s, hs, e⟩
    rw [ensure_new hr hne, List.pairwise_append]
    refine ⟨hr.filter _, List.pairwise_cons.2 ⟨fun s hs => ?_, hr.filter _⟩, fun a ha b hb => ?_⟩
    · have := (List.mem_filter.1 hs).2
      simpa using this
    · have h1 : a.num < n := by simpa using (List.mem_filter.1 ha).2
      rcases List.mem_cons.1 hb with e | e
      · subst e
        exact h1
      · have h2 : n < b.num := by simpa using (List.mem_filter.1 e).2
        omega
end Go.Proofs.YtmkidefdegaamaaGreatDoor.Dm
namespace Go.Proofs.YtmkidefdegaamaaGreatDoor.Dm
open Bytes
/-- Sorted, and the same segments with one more: the one that 'ensure' has. -/
theorem ensure_sorted {n : Int} {l l' : List Seg} (hr : l.Pairwise fun a b => a.num < b.num) (hne : ∀ s ∈ l, s.num ≠ n) (hp : l'.Perm (l ++ [⟨n, ⟨#[]⟩, 0⟩])) (hs : l'.Pairwise fun a b => a.num < b.num) : l' = ensure n l := by
  refine List.Perm.eq_of_pairwise (le := fun a b => a.num < b.num) (fun a b _ _ h1 h2 => by omega) hs (ensure_rise hr) (hp.trans ?_)
  rw [ensure_new hr hne]
  refine List.Perm.trans ?_ List.perm_middle.symm
  refine List.perm_append_singleton _ _ |>.trans (List.Perm.cons _ ?_)
  have h := (List.filter_append_perm (fun s : Seg => decide (s.num < n)) l).symm
  have e : l.filter (fun s => !decide (s.num < n)) = l.filter (fun s => decide (n < s.num)) := by
    refine List.filter_congr fun s hs => ?_
    have := hne s hs
    by_cases h : s.num < n
    · simp [h]
      omega
    · simp [h]
      omega
  rw [e] at h
  exact h
theorem used_cons (s : Seg) (l : List Seg) : used (s :: l) = s.text.size + used l := by simp [used]
theorem used_append (l m : List Seg) : used (l ++ m) = used l + used m := by simp [used]
theorem used_mem {l : List Seg} {s : Seg} (h : s ∈ l) : s.text.size ≤ used l := by
  induction l with
  | nil => cases h
  | cons t l ih =>
    rw [used_cons]
    rcases List.mem_cons.1 h with e | e
    · subst e
      omega
    · have := ih e
      omega
theorem used_turn {n : Int} {f : Seg → Seg} {k : Nat} (hf : ∀ s, (f s).text.size ≤ s.text.size + k) : ∀ {l : List Seg}, l.Pairwise (fun a b => a.num < b.num) → used (turn n f l) ≤ used l + k := by
  intro l
  induction l with
  | nil => intro _; show 0 ≤ _; omega
  | cons t l ih =>
    intro hr
    have hr' := List.pairwise_cons.1 hr
    show used ((if t.num = n then f t else t) :: turn n f l) ≤ _
    rw [used_cons, used_cons]
    by_cases h : t.num = n
    · rw [if_pos h]
      have e : turn n f l = l := by
        rw [turn]
        conv => rhs; rw [← List.map_id l]
        refine List.map_congr_left fun s hs => ?_
        have := hr'.1 s hs
        rw [if_neg (by omega)]
        rfl
      rw [e]
      have := hf t
      omega
    · rw [if_neg h]
      have := ih hr'.2
      omega
theorem used_ensure {n : Int} : ∀ (l : List Seg), used (ensure n l) = used l := by
  intro l
  induction l with
  | nil => rfl
  | cons t l ih =>
    rw [ensure]
    split
    · rfl
    · split
      · rw [used_cons]
        show 0 + _ = _
        omega
      · rw [used_cons, used_cons, ih]
theorem ensure_length {n : Int} : ∀ (l : List Seg), (ensure n l).length ≤ l.length + 1 := by
  intro l
  induction l with
  | nil => exact Nat.le_refl _
  | cons t l ih =>
    rw [ensure]
    split
    · simp
    · split
      · simp
      · simpa using ih
theorem used_erase : ∀ (l : List Seg) (i : Nat), used (l.eraseIdx i) ≤ used l := by
  intro l
  induction l with
  | nil => intro i; simp
  | cons t l ih =>
    intro i
    cases i with
    | zero =>
      rw [List.eraseIdx_cons_zero, used_cons]
      omega
    | succ i =>
      have := ih i
      rw [List.eraseIdx_cons_succ, used_cons, used_cons]
      omega
theorem used_torn (t : Int) : ∀ (l : List Seg), used (l.map (torn t)) ≤ used l := by
  intro l
  induction l with
  | nil => simp
  | cons s l ih =>
    rw [List.map_cons, used_cons, used_cons]
    have : (torn t s).text.size ≤ s.text.size := by
      rw [torn]
      split
      · simp
        omega
      · exact Nat.le_refl _
    omega
theorem turn_mem {n : Int} {f : Seg → Seg} {l : List Seg} {s : Seg} (h : s ∈ turn n f l) : s ∈ l ∨ ∃ t ∈ l, s = f t := by
  rw [turn, List.mem_map] at h
  obtain ⟨t, ht, rfl⟩ := h
  split
  · exact Or.inr ⟨t, ht, rfl⟩
  · exact Or.inl ht
theorem turn_rise {n : Int} {f : Seg → Seg} (hf : ∀ s, (f s).num = s.num) {l : List Seg} (h : l.Pairwise fun a b => a.num < b.num) : (turn n f l).Pairwise fun a b => a.num < b.num := by
  rw [turn, List.pairwise_map]
  refine h.imp fun {a b} hab => ?_
  have e : ∀ s : Seg, (if s.num = n then f s else s).num = s.num := fun s => by
    split
    · exact hf s
    · rfl
  rw [e, e]
  exact hab
theorem ensure_mem {n : Int} : ∀ {l : List Seg} {s : Seg}, s ∈ ensure n l → s ∈ l ∨ s = ⟨n, ⟨#[]⟩, 0⟩ := by
  intro l
  induction l with
  | nil => intro s h; rw [ensure] at h; exact Or.inr (by simpa using h)
  | cons t l ih =>
    intro s h
    rw [ensure] at h
    split at h
    · exact Or.inl h
    · split at h
      · rcases List.mem_cons.1 h with e | e
        · exact Or.inr e
        · exact Or.inl e
      · rcases List.mem_cons.1 h with e | e
        · exact Or.inl (e ▸ List.mem_cons_self ..)
        · rcases ih e with e | e
          · exact Or.inl (List.mem_cons_of_mem _ e)
          · exact Or.inr e
theorem turn_length (n : Int) (f : Seg → Seg) (l : List Seg) : (turn n f l).length = l.length := List.length_map ..
theorem good_op {S : Dk} (h : Good S) : Good (op S) :=
  ⟨h.rise, h.syn, h.num, by
    have := h.left
    show -1 ≤ (if 0 < S.left then S.left - 1 else S.left) ∧ (if 0 < S.left then S.left - 1 else S.left) ≤ _
    split <;> omega, h.room⟩
theorem good_fresh : Good fresh := ⟨List.Pairwise.nil, fun s h => by simp [fresh] at h, fun s h => by simp [fresh] at h, by decide, by decide⟩
theorem good_turn {S : Dk} (h : Good S) {n : Int} {f : Seg → Seg} (h1 : ∀ s, (f s).num = s.num) (h2 : ∀ s, s.syn ≤ s.text.size → (f s).syn ≤ (f s).text.size) : Good { op S with segs := turn n f S.segs } :=
  ⟨turn_rise h1 h.rise, fun s hs => by
    rcases turn_mem hs with e | ⟨t, ht, rfl⟩
    · exact h.syn s e
    · exact h2 t (h.syn t ht), fun s hs => by
    rcases turn_mem hs with e | ⟨t, ht, rfl⟩
    · exact h.num s e
    · rw [h1 t]
      exact h.num t ht, (good_op h).left, h.room⟩
/-- A disk within bounds: it is good, of at most k segments, u bytes. -/
structure Fit (S : Dk) (k u : Nat) : Prop where
  good : Good S
  len : S.segs.length ≤ k
  use : used S.segs ≤ u
theorem Fit.op {S : Dk} {k u : Nat} (h : Fit S k u) : Fit (Dm.op S) k u := ⟨good_op h.good, h.len, h.use⟩
theorem Fit.more {S : Dk} {k u k' u' : Nat} (h : Fit S k u) (hk : k ≤ k') (hu : u ≤ u') : Fit S k' u' := ⟨h.good, Nat.le_trans h.len hk, Nat.le_trans h.use hu⟩
theorem fit_append {S : Dk} {k u : Nat} (h : Fit S k u) (n : Int) (t : ByteArray) (hn : n ≤ 9223372036854775807) : Fit (doAppend S n t).1 (k + 1) (u + t.size) := by
  rw [doAppend]
  split
  · exact h.more (by omega) (by omega)
  · split
    · exact h.op.more (by omega) (by omega)
    · split
      · exact h.op.more (by omega) (by omega)
      · rename_i h0 _
        have hE : Good { S with segs := ensure n S.segs } := ⟨ensure_rise h.good.rise, fun s hs => by
          rcases ensure_mem hs with e | e
          · exact h.good.syn s e
          · subst e
            exact Nat.le_refl _, fun s hs => by
          rcases ensure_mem hs with e | e
          · exact h.good.num s e
          · subst e
            show 0 ≤ n ∧ n ≤ _
            omega, h.good.left, h.good.room⟩
        have hT := good_turn hE (n := n) (f := fun s => { s with text := s.text ++ t }) (fun _ => rfl) (fun s hs => by
          show s.syn ≤ (s.text ++ t).size
          rw [ByteArray.size_append]
          omega)
        refine ⟨hT, ?_, ?_⟩
        · show (turn _ _ (ensure n S.segs)).length ≤ _
          rw [turn_length]
          have := ensure_length (n := n) S.segs
          have := h.len
          omega
        · show used (turn _ _ (ensure n S.segs)) ≤ _
          have := used_turn (n := n) (f := fun s => { s with text := s.text ++ t }) (k := t.size) (fun s => by
            show (s.text ++ t).size ≤ _
            rw [ByteArray.size_append]
            exact Nat.le_refl _) (ensure_rise (n := n) h.good.rise)
          rw [used_ensure] at this
          have := h.use
          omega
theorem fit_sync {S : Dk} {k u : Nat} (h : Fit S k u) (n : Int) : Fit (doSync S n).1 k u := by
  rw [doSync]
  split
  · exact h
  · split
    · exact h.op
    · refine ⟨good_turn h.good (fun _ => rfl) (fun s _ => Nat.le_refl _), ?_, ?_⟩
      · show (turn _ _ S.segs).length ≤ _
        rw [turn_length]
        exact h.len
      · exact Nat.le_trans (used_turn (n := n) (f := fun s => { s with syn := s.text.size }) (k := 0) (fun s => Nat.le_refl _) h.good.rise) h.use
theorem fit_trunc {S : Dk} {k u : Nat} (h : Fit S k u) (n m : Int) : Fit (doTrunc S n m).1 k u := by
  rw [doTrunc]
  split
  · exact h
  · split
    · exact h.op
    · rename_i i hp
      obtain ⟨s, hs, hn⟩ := place_some hp
      have hsz := h.good.syn s (List.mem_of_getElem? hs)
      split
      · rename_i hb
        rw [hs] at hb
        have hb2 : m ≤ (s.text.size : Int) := hb.2
        have hT : turn n (fun s => { s with text := s.text.extract 0 m.toNat, syn := min s.syn m.toNat }) S.segs = turn n (fun s => { s with text := s.text.extract 0 m.toNat, syn := min (min s.syn m.toNat) (s.text.extract 0 m.toNat).size }) S.segs := by
          rw [turn_set h.good.rise hs hn, turn_set h.good.rise hs hn]
          congr 2
          simp
          omega
        refine ⟨?_, ?_, ?_⟩
        · show Good { Dm.op S with segs := turn n _ S.segs }
          rw [hT]
          exact good_turn h.good (fun _ => rfl) (fun s _ => Nat.min_le_right _ _)
        · show (turn _ _ S.segs).length ≤ _
          rw [turn_length]
          exact h.len
        · refine Nat.le_trans (used_turn (k := 0) (fun s => ?_) h.good.rise) h.use
          show (s.text.extract 0 m.toNat).size ≤ s.text.size + 0
          simp
          omega
      · exact h.op
theorem fit_delete {S : Dk} {k u : Nat} (h : Fit S k u) (n : Int) : Fit (doDelete S n).1 k u := by
  rw [doDelete]
  split
  · exact h
  · split
    · exact h.op
    · refine ⟨⟨h.good.rise.sublist (List.eraseIdx_sublist ..), fun s hs => h.good.syn s (List.mem_of_mem_eraseIdx hs), fun s hs => h.good.num s (List.mem_of_mem_eraseIdx hs), (good_op h.good).left, h.good.room⟩, ?_, Nat.le_trans (used_erase _ _) h.use⟩
      exact Nat.le_trans (List.eraseIdx_sublist ..).length_le h.len
theorem fit_crash {S : Dk} {k u : Nat} (h : Fit S k u) (t : Int) : Fit (doCrash S t) k u := by
  have hnum : ∀ (t : Int) (s : Seg), (torn t s).num = s.num := fun t s => by
    rw [torn]
    split <;> rfl
  refine ⟨⟨?_, fun s hs => ?_, fun s hs => ?_, ⟨by show -1 ≤ (-1 : Int); omega, by show (-1 : Int) ≤ _; omega⟩, ⟨by show -1 ≤ (-1 : Int); omega, by show (-1 : Int) ≤ _; omega⟩⟩, ?_, Nat.le_trans (used_torn _ _) h.use⟩
  · show (S.segs.map _).Pairwise _
    rw [List.pairwise_map]
    refine h.good.rise.imp fun {a b} hab => ?_
    rw [hnum, hnum]
    exact hab
  · obtain ⟨x, hx, rfl⟩ := List.mem_map.1 hs
    have := h.good.syn x hx
    generalize (if t < 0 then 0 else t) = t'
    rw [torn]
    split
    · simp
      omega
    · exact Nat.le_refl _
  · obtain ⟨x, hx, rfl⟩ := List.mem_map.1 hs
    rw [hnum]
    exact h.good.num x hx
  · show (S.segs.map _).length ≤ _
    rw [List.length_map]
    exact h.len
end Go.Proofs.YtmkidefdegaamaaGreatDoor.Dm
namespace Go.Proofs.YtmkidefdegaamaaGreatDoor.Dm
/-- The segments at these places. -/
def at_ {m : Nat} (l : List Seg) (hl : l.length = m + 1) (d : List (Fin (m + 1))) : List Seg := d.map fun i => l[i.1]'(by rw [hl]; exact i.2)
def bat {m : Nat} (l : List Nat) (hl : l.length = m + 1) (d : List (Fin (m + 1))) : List Nat := d.map fun i => l[i.1]'(by rw [hl]; exact i.2)
theorem at_all {m : Nat} (l : List Seg) (hl : l.length = m + 1) : at_ l hl (List.ofFn id) = l := by
  rw [at_, List.map_ofFn]
  refine List.ext_getElem (by rw [List.length_ofFn, hl]) fun i h1 h2 => ?_
  rw [List.getElem_ofFn]
  rfl
theorem bat_all {m : Nat} (l : List Nat) (hl : l.length = m + 1) : bat l hl (List.ofFn id) = l := by
  rw [bat, List.map_ofFn]
  refine List.ext_getElem (by rw [List.length_ofFn, hl]) fun i h1 h2 => ?_
  rw [List.getElem_ofFn]
  rfl
theorem at_get {m : Nat} {l : List Seg} {b : List Nat} {hl : l.length = m + 1} {hb : b.length = m + 1} {d : List (Fin (m + 1))} {i : Nat} {s : Seg} {c : Nat} (h1 : (bat b hb d)[i]? = some c) (h2 : (at_ l hl d)[i]? = some s) : ∃ j : Nat, b[j]? = some c ∧ l[j]? = some s := by
  rw [bat, List.getElem?_map, Option.map_eq_some_iff] at h1
  rw [at_, List.getElem?_map, Option.map_eq_some_iff] at h2
  obtain ⟨j, hj, rfl⟩ := h1
  obtain ⟨k, hk, rfl⟩ := h2
  rw [hj] at hk
  cases hk
  exact ⟨j.1, List.getElem?_eq_getElem _, List.getElem?_eq_getElem _⟩
/-- Sorted places: the segments in their order. -/
theorem at_sorted {m : Nat} {n : Int} {l : List Seg} (hl : (l ++ [(⟨n, ⟨#[]⟩, 0⟩ : Seg)]).length = m + 1) (hr : l.Pairwise fun a b => a.num < b.num) (hne : ∀ s ∈ l, s.num ≠ n) {d : List (Fin (m + 1))} (hp : d.Perm (List.ofFn id))
    (hs : d.Pairwise fun i j => ¬ ((l ++ [(⟨n, ⟨#[]⟩, 0⟩ : Seg)])[j.1]'(by rw [hl]; exact j.2)).num < ((l ++ [(⟨n, ⟨#[]⟩, 0⟩ : Seg)])[i.1]'(by rw [hl]; exact i.2)).num) :
    at_ (l ++ [⟨n, ⟨#[]⟩, 0⟩]) hl d = ensure n l := by
  have hnd : d.Nodup := (hp.nodup_iff).2 (by
    rw [List.Nodup, List.pairwise_iff_getElem]
    intro i j hi hj hij e
    rw [List.getElem_ofFn, List.getElem_ofFn] at e
    have := congrArg Fin.val e
    simp only [id] at this
    omega)
  refine ensure_sorted hr hne ?_ ?_
  · have := hp.map fun i : Fin (m + 1) => (l ++ [(⟨n, ⟨#[]⟩, 0⟩ : Seg)])[i.1]'(by rw [hl]; exact i.2)
    have e := at_all (l ++ [(⟨n, ⟨#[]⟩, 0⟩ : Seg)]) hl
    rw [at_] at e
    rw [e] at this
    exact this
  · rw [at_, List.pairwise_map]
    refine (hs.and hnd).imp fun {i j} ⟨h1, h2⟩ => ?_
    have hij : i.1 ≠ j.1 := fun e => h2 (Fin.ext e)
    refine Int.lt_iff_le_and_ne.2 ⟨by omega, fun e => hij ?_⟩
    have hil : i.1 < l.length + 1 := by have := i.2; simp at hl; omega
    have hjl : j.1 < l.length + 1 := by have := j.2; simp at hl; omega
    rw [List.getElem_append, List.getElem_append] at e
    by_cases hi : i.1 < l.length
    · by_cases hj : j.1 < l.length
      · rw [dif_pos hi, dif_pos hj] at e
        exact rise_once hr (List.getElem?_eq_getElem hi) (List.getElem?_eq_getElem hj) e
      · rw [dif_pos hi, dif_neg hj] at e
        have : (l[i.1]).num = n := by simpa using e
        exact absurd this (hne _ (List.getElem_mem hi))
    · by_cases hj : j.1 < l.length
      · rw [dif_neg hi, dif_pos hj] at e
        have : (l[j.1]).num = n := by simpa using e.symm
        exact absurd this (hne _ (List.getElem_mem hj))
      · omega
end Go.Proofs.YtmkidefdegaamaaGreatDoor.Dm
namespace Go.Proofs.YtmkidefdegaamaaGreatDoor.Dm
open Go
def rows : List Seg → List Value
  | [] => []
  | s :: l => .int .i64 s.num :: .string s.text :: .int .i64 (s.syn : Int) :: rows l
/-- One taken away: what is ahead of it, what is behind it. -/
theorem erase_at (l : List Seg) (i : Nat) : l.eraseIdx i = l.take i ++ l.drop (i + 1) := List.eraseIdx_eq_take_drop_succ ..
end Go.Proofs.YtmkidefdegaamaaGreatDoor.Dm
namespace Go.Proofs.YtmkidefdegaamaaGreatDoor.Dh
open Go.RowKit Mem Foot Dm
def segCells (s : Seg) : Array Value := #[.int .i64 s.num, .string s.text, .int .i64 (s.syn : Int)]
/-- The slice of the segments: nil where there is none. -/
def sl (ba : Nat) (n cap : Nat) : Value := if n = 0 then .slice none 0 0 else .slice (some ⟨ba, 0, none⟩) n cap
/-- The disk at block bx: its array at ba, its segments at bs. -/
structure PD (w : World) (bx : Nat) (S : Dk) (ba cap : Nat) (bs : List Nat) : Prop where
  head : Sits w bx 55 #[sl ba bs.length cap, .int .i64 S.left, .int .i64 S.room]
  len : bs.length = S.segs.length
  arr : bs ≠ [] → ∃ cs : Array Value, Sits w ba 127 cs ∧ cs.size = cap ∧ bs.length ≤ cap ∧ ∀ (i b : Nat), bs[i]? = some b → cs[i]? = some (Value.pointer (some ⟨b, 0, none⟩))
  seg : ∀ (i b : Nat) (s : Seg), bs[i]? = some b → S.segs[i]? = some s → Sits w b 129 (segCells s)
  apart : (bx :: ba :: bs).Nodup
  capm : bs ≠ [] → cap ≤ maxLen
theorem head3 {w : World} {b : Nat} {t : TypeId} {v0 v1 v2 : Value} (h : Sits w b t #[v0, v1, v2]) :
    w.cell? ⟨b, 0, none⟩ = some v0 ∧ w.cell? ⟨b, 1, none⟩ = some v1 ∧ w.cell? ⟨b, 2, none⟩ = some v2 ∧ w.frozen? ⟨b, 0, none⟩ = false ∧ w.frozen? ⟨b, 1, none⟩ = false ∧ w.frozen? ⟨b, 2, none⟩ = false :=
  ⟨h.cell 0 _ rfl, h.cell 1 _ rfl, h.cell 2 _ rfl, h.frozen 0, h.frozen 1, h.frozen 2⟩
/-- One operation: the program. -/
theorem operation (bx : Nat) (S : Dk) (v : Value) (w : World) (hS : Sits w bx 55 #[v, .int .i64 S.left, .int .i64 S.room]) (hg : -1 ≤ S.left ∧ S.left ≤ 9223372036854775807) :
    Calls Tryz.prog 63 #[.pointer (some ⟨bx, 0, none⟩)] w fun e w' => e = .returned (.bool (!decide (S.left = 0))) ∧ But bx w w' ∧ Sits w' bx 55 #[v, .int .i64 (if S.left = 0 then S else op S).left, .int .i64 S.room] := by
  obtain ⟨c0, c1, c2, f0, f1, f2⟩ := head3 hS
  have HS := hide hS
  clear hS
  by_cases h0 : S.left = 0
  · have h0b : (S.left == 0) = true := by simpa using h0
    go_enter Tryz.func63, Tryz.ntmps63
    go_wp2_with fail
    go_ret
    refine ⟨by simp, But.refl _ _, ?_⟩
    have := HS.out
    rwa [h0] at this
  · have h0b : (S.left == 0) = false := by simpa using h0
    by_cases hp : 0 < S.left
    · go_enter Tryz.func63, Tryz.ntmps63
      go_wp2_with fail
      go_ret
      refine ⟨by simp, (But.refl _ _).set _ _, ?_⟩
      have := HS.out.set 1 (.int .i64 (S.left - 1))
      simpa [op, hp] using this
    · have HE := hide (show (op S).left = S.left from if_neg hp)
      go_enter Tryz.func63, Tryz.ntmps63
      go_wp2_with fail
      go_ret
      refine ⟨by simp, But.refl _ _, ?_⟩
      rw [HE.out]
      exact HS.out
/-- Where a segment of a number lies. -/
def ptr (S : Dk) (bs : List Nat) (n : Int) : Option Addr := ((place n S.segs).bind fun i => bs[i]?).map fun b => ⟨b, 0, none⟩
theorem ptr_none {S : Dk} {bs : List Nat} {n : Int} (h : place n S.segs = none) : ptr S bs n = none := by
  rw [ptr, h]
  rfl
theorem ptr_at {S : Dk} {bs : List Nat} {n : Int} {k b : Nat} (h : place n S.segs = some k) (hb : bs[k]? = some b) : ptr S bs n = some ⟨b, 0, none⟩ := by
  rw [ptr, h]
  show (bs[k]?).map _ = _
  rw [hb]
  rfl
/-- The segment of a number: its block; nil where there is none. -/
theorem find (bx ba cap : Nat) (bs : List Nat) (S : Dk) (n : Int) (w : World) (hP : PD w bx S ba cap bs) (hl : bs.length ≤ 1000000000) :
    Calls Tryz.prog 62 #[.pointer (some ⟨bx, 0, none⟩), .int .i64 n] w fun e w' => w = w' ∧ e = .returned (.pointer (ptr S bs n)) := by
  obtain ⟨c0, c1, c2, f0, f1, f2⟩ := head3 hP.head
  have HP := hide hP
  clear hP
  unfold sl at c0
  by_cases h0 : bs.length = 0
  · rw [if_pos h0] at c0
    have hsn : S.segs = [] := List.eq_nil_of_length_eq_zero (HP.out.len ▸ h0)
    have HE := hide (show ptr S bs n = none from ptr_none (by rw [hsn]; rfl))
    clear h0 hsn
    go_enter Tryz.func62, Tryz.ntmps62
    go_wp2_with fail
    go_loopw [12] (fun s12 wr => s12 = .int .i64 0 ∧ wr = w) (fun _ _ => 0)
    case atStart => exact ⟨rfl, rfl⟩
    case round =>
      obtain ⟨rfl, rfl⟩ := hrel
      go_wp2_with fail
      go_ret
      exact ⟨rfl, congrArg (fun z => Ending.returned (.pointer z)) HE.out.symm⟩
  · rw [if_neg h0] at c0
    obtain ⟨cs, hA, hcs, hcap, hptr⟩ := HP.out.arr (fun e => h0 (by rw [e]; rfl))
    have HA := hide hA
    have HPT := hide hptr
    clear hA hptr hcs
    go_enter Tryz.func62, Tryz.ntmps62
    go_wp2_with fail
    go_loopw [12] (fun s12 wr => ∃ k : Nat, s12 = .int .i64 (k : Int) ∧ wr = w ∧ k ≤ bs.length ∧ Hid (∀ j t, j < k → S.segs[j]? = some t → t.num ≠ n)) (fun s12 _ => bs.length - (intOf s12).toNat)
    case atStart => exact ⟨0, rfl, rfl, by omega, fun j t h => by omega⟩
    case round =>
      obtain ⟨k, rfl, rfl, hk, HB⟩ := hrel
      by_cases hkl : k < bs.length
      · have hkz : (k : Int) < (bs.length : Int) := by omega
        obtain ⟨b, hb⟩ : ∃ b, bs[k]? = some b := ⟨_, List.getElem?_eq_getElem hkl⟩
        obtain ⟨s, hs⟩ : ∃ s, S.segs[k]? = some s := ⟨_, List.getElem?_eq_getElem (by rw [← HP.out.len]; exact hkl)⟩
        have a0 := HA.out.cell k _ (HPT.out k b hb)
        obtain ⟨b0, b1, b2, g0, g1, g2⟩ := head3 (HP.out.seg k b s hb hs)
        have HT := hide (show s.num = n → ptr S bs n = some ⟨b, 0, none⟩ from fun hn => ptr_at (place_at HB.out hs hn) hb)
        have HF := hide (show ¬ s.num = n → ∀ j t, j < k + 1 → S.segs[j]? = some t → t.num ≠ n from fun hn j t hj ht => by
          by_cases e : j = k
          · subst e
            rw [hs] at ht
            cases ht
            exact hn
          · exact HB.out j t (by omega) ht)
        clear hb hs
        go_wp2_with fail
        · have hnb : (s.num == n) = true := by assumption
          go_ret
          exact ⟨rfl, congrArg (fun z => Ending.returned (.pointer z)) (HT.out (by simpa using hnb)).symm⟩
        · have hnb : (s.num == n) = false := by assumption
          go_roundw
          case rel => exact ⟨k + 1, by go_num, trivial, by omega, HF.out (by simpa using hnb)⟩
          case measure => simp [intOf]; omega
      · have hkz : ¬ (k : Int) < (bs.length : Int) := by omega
        have HE := hide (show ptr S bs n = none from ptr_none (place_not (fun j t ht => HB.out j t (by have := (List.getElem?_eq_some_iff.1 ht).1; have := HP.out.len; omega) ht)))
        go_wp2_with fail
        go_ret
        exact ⟨rfl, congrArg (fun z => Ending.returned (.pointer z)) HE.out.symm⟩
end Go.Proofs.YtmkidefdegaamaaGreatDoor.Dh
namespace Go.Proofs.YtmkidefdegaamaaGreatDoor.Dh
open Go.RowKit Mem Foot Dm
theorem PD.ne_arr {w : World} {bx ba cap : Nat} {bs : List Nat} {S : Dk} (h : PD w bx S ba cap bs) : ba ≠ bx := by
  have := h.apart
  rw [List.nodup_cons] at this
  exact fun e => this.1 (e ▸ List.mem_cons_self ..)
theorem PD.ne_seg {w : World} {bx ba cap : Nat} {bs : List Nat} {S : Dk} (h : PD w bx S ba cap bs) {b : Nat} (hb : b ∈ bs) : b ≠ bx ∧ b ≠ ba := by
  have := h.apart
  rw [List.nodup_cons, List.nodup_cons] at this
  exact ⟨fun e => this.1 (e ▸ List.mem_cons_of_mem _ hb), fun e => this.2.1 (e ▸ hb)⟩
/-- The limits turned. -/
theorem PD.turned {w w' : World} {bx ba cap : Nat} {bs : List Nat} {S : Dk} {a b : Int} (h : PD w bx S ba cap bs) (hb : But bx w w') (hs : Sits w' bx 55 #[sl ba bs.length cap, .int .i64 a, .int .i64 b]) : PD w' bx ⟨S.segs, a, b⟩ ba cap bs :=
  ⟨hs, h.len, fun hne => by
    obtain ⟨cs, h1, h2, h3, h4⟩ := h.arr hne
    exact ⟨cs, h1.but hb h.ne_arr, h2, h3, h4⟩, fun i c s hi hS => (h.seg i c s hi hS).but hb (h.ne_seg (List.mem_of_getElem? hi)).1, h.apart, h.capm⟩
/-- A segment turned. -/
theorem PD.seg_turned {w w' : World} {bx ba cap : Nat} {bs : List Nat} {S : Dk} {k c : Nat} {s' : Seg} (h : PD w bx S ba cap bs) (hk : bs[k]? = some c) (hb : But c w w') (hs : Sits w' c 129 (segCells s')) : PD w' bx ⟨S.segs.set k s', S.left, S.room⟩ ba cap bs := by
  have hc := h.ne_seg (List.mem_of_getElem? hk)
  refine ⟨h.head.but hb (fun e => hc.1 e.symm), by rw [List.length_set]; exact h.len, fun hne => ?_, fun i d s hi hS => ?_, h.apart, h.capm⟩
  · obtain ⟨cs, h1, h2, h3, h4⟩ := h.arr hne
    exact ⟨cs, h1.but hb (fun e => hc.2 e.symm), h2, h3, h4⟩
  · rw [List.getElem?_set] at hS
    by_cases e : k = i
    · subst e
      rw [hk] at hi
      cases hi
      rw [if_pos rfl] at hS
      split at hS
      · cases hS
        exact hs
      · cases hS
    · rw [if_neg e] at hS
      have hne : d ≠ c := by
        intro hd
        subst hd
        have hn := h.apart
        rw [List.nodup_cons, List.nodup_cons] at hn
        have h1 := (List.getElem?_eq_some_iff.1 hk)
        have h2 := (List.getElem?_eq_some_iff.1 hi)
        obtain ⟨h1l, h1e⟩ := h1
        obtain ⟨h2l, h2e⟩ := h2
        have hp := List.pairwise_iff_getElem.1 hn.2.2
        rcases Nat.lt_trichotomy k i with q | q | q
        · exact hp k i h1l h2l q (h1e.trans h2e.symm)
        · exact e q
        · exact hp i k h2l h1l q (h2e.trans h1e.symm)
      exact (h.seg i d s hi hS).but hb hne
end Go.Proofs.YtmkidefdegaamaaGreatDoor.Dh
namespace Go.Proofs.YtmkidefdegaamaaGreatDoor.Dh
open Go.RowKit Mem Foot Dm
theorem op_left {S : Dk} (h : ¬ S.left = 0) : (if S.left = 0 then S else op S) = op S := if_neg h
theorem sync (bx ba cap : Nat) (bs : List Nat) (S : Dk) (n : Int) (w : World) (hP : PD w bx S ba cap bs) (hG : Dm.Good S) (hl : bs.length ≤ 1000000000) :
    Calls Tryz.prog 36 #[.pointer (some ⟨bx, 0, none⟩), .int .i64 n] w fun e w' => e = .returned (.int .i64 (doSync S n).2) ∧ Off (bx :: bs) w w' ∧ PD w' bx (doSync S n).1 ba cap bs := by
  have HP := hide hP
  have HG := hide hG
  clear hP hG
  go_enter Tryz.func36, Tryz.ntmps36
  go_wp2_with fail
  refine (operation bx S _ w HP.out.head HG.out.left).mono ?_
  rintro e w1 ⟨rfl, hb1, hs1⟩
  by_cases h0 : S.left = 0
  · have hd : decide (S.left = 0) = true := decide_eq_true h0
    have HE := hide (show doSync S n = (S, 8) from if_pos h0)
    rw [if_pos h0] at hs1
    have HQ := hide (HP.out.turned hb1 hs1)
    have HB := hide hb1
    clear hb1 hs1 h0
    rw [hd]
    go_wp2_with fail
    go_ret
    rw [HE.out]
    exact ⟨rfl, Off.of_but HB.out (List.mem_cons_self ..), HQ.out⟩
  · have hd : decide (S.left = 0) = false := decide_eq_false h0
    rw [op_left h0] at hs1
    have HQ := hide (HP.out.turned hb1 hs1)
    have HB := hide hb1
    have H0 := hide h0
    clear hb1 hs1 h0
    rw [hd]
    go_wp2_with fail
    refine (find bx ba cap bs (op S) n w1 HQ.out hl).mono ?_
    rintro e w2 ⟨rfl, rfl⟩
    cases hp : place n S.segs with
    | none =>
      have HE := hide (show doSync S n = (op S, 9) by rw [doSync, if_neg H0.out, hp])
      rw [ptr_none (S := op S) hp]
      clear hp
      go_wp2_with fail
      go_ret
      rw [HE.out]
      exact ⟨rfl, Off.of_but HB.out (List.mem_cons_self ..), HQ.out⟩
    | some k =>
      obtain ⟨s, hs, hn⟩ := place_some hp
      obtain ⟨b, hb⟩ : ∃ b, bs[k]? = some b := ⟨_, List.getElem?_eq_getElem (by rw [HP.out.len]; exact (List.getElem?_eq_some_iff.1 hs).1)⟩
      have HE := hide (show doSync S n = (⟨S.segs.set k { s with syn := s.text.size }, (op S).left, S.room⟩, 0) by rw [doSync, if_neg H0.out, hp, turn_set HG.out.rise hs hn]; rfl)
      rw [ptr_at (S := op S) hp hb]
      have hS := HQ.out.seg k b s hb hs
      obtain ⟨b0, b1, b2, g0, g1, g2⟩ := head3 hS
      have HS := hide hS
      have HK := hide hb
      clear hp hs hn hb hS
      go_wp2_with fail
      go_ret
      rw [HE.out]
      have hmem : b ∈ bx :: bs := List.mem_cons_of_mem _ (List.mem_of_getElem? HK.out)
      exact ⟨rfl, (Off.of_but HB.out (List.mem_cons_self ..)).set hmem _ _, HQ.out.seg_turned HK.out ((But.refl _ _).set _ _) (HS.out.set 2 _)⟩
end Go.Proofs.YtmkidefdegaamaaGreatDoor.Dh
namespace Go.Proofs.YtmkidefdegaamaaGreatDoor.Dh
open Go.RowKit Mem Foot Dm
theorem new (w : World) : Calls Tryz.prog 6 #[] w fun e w' => e = .returned (.pointer (some ⟨w.heap.size, 0, none⟩)) ∧ w' = w.alloc (.cells #[.slice none 0 0, .int .i64 (-1), .int .i64 (-1)] 55) := by
  go_enter Tryz.func6, Tryz.ntmps6
  go_wp2_with fail
  go_ret
  exact ⟨rfl, rfl⟩
theorem read (bx ba cap : Nat) (bs : List Nat) (S : Dk) (n : Int) (w : World) (hP : PD w bx S ba cap bs) (hl : bs.length ≤ 1000000000) :
    Calls Tryz.prog 34 #[.pointer (some ⟨bx, 0, none⟩), .int .i64 n] w fun e w' => e = .returned (.tuple #[.string (doRead S n).1, .int .i64 (doRead S n).2]) ∧ w = w' := by
  obtain ⟨c0, c1, c2, f0, f1, f2⟩ := head3 hP.head
  have HP := hide hP
  clear hP
  by_cases h0 : S.left = 0
  · have h0b : (S.left == 0) = true := by simpa using h0
    have HE := hide (show doRead S n = (⟨#[]⟩, 8) from if_pos h0)
    go_enter Tryz.func34, Tryz.ntmps34
    go_wp2_with fail
    go_ret2
    rw [HE.out]
    exact ⟨rfl, rfl⟩
  · have h0b : (S.left == 0) = false := by simpa using h0
    have H0 := hide h0
    clear h0
    go_enter Tryz.func34, Tryz.ntmps34
    go_wp2_with fail
    refine (find bx ba cap bs S n w HP.out hl).mono ?_
    rintro e w2 ⟨rfl, rfl⟩
    cases hp : place n S.segs with
    | none =>
      have HE := hide (show doRead S n = (⟨#[]⟩, 9) by rw [doRead, if_neg H0.out, hp])
      rw [ptr_none (S := S) hp]
      clear hp
      go_wp2_with fail
      go_ret2
      rw [HE.out]
      exact ⟨rfl, rfl⟩
    | some k =>
      obtain ⟨s, hs, hn⟩ := place_some hp
      obtain ⟨b, hb⟩ : ∃ b, bs[k]? = some b := ⟨_, List.getElem?_eq_getElem (by rw [HP.out.len]; exact (List.getElem?_eq_some_iff.1 hs).1)⟩
      have HE := hide (show doRead S n = (s.text, 0) by rw [doRead, if_neg H0.out, hp]; show (((S.segs[k]?).map (·.text)).getD ⟨#[]⟩, (0 : Int)) = _; rw [hs]; rfl)
      rw [ptr_at (S := S) hp hb]
      obtain ⟨b0, b1, b2, g0, g1, g2⟩ := head3 (HP.out.seg k b s hb hs)
      clear hp hs hn hb
      go_wp2_with fail
      go_ret2
      rw [HE.out]
      exact ⟨rfl, rfl⟩
end Go.Proofs.YtmkidefdegaamaaGreatDoor.Dh
namespace Go.Proofs.YtmkidefdegaamaaGreatDoor.Dh
open Go.RowKit Mem Foot Dm
end Go.Proofs.YtmkidefdegaamaaGreatDoor.Dh
namespace Go.Proofs.YtmkidefdegaamaaGreatDoor.Dh
open Go.RowKit Mem Foot Dm
theorem truncate (bx ba cap : Nat) (bs : List Nat) (S : Dk) (n m : Int) (w : World) (hP : PD w bx S ba cap bs) (hG : Dm.Good S) (hl : bs.length ≤ 1000000000) :
    Calls Tryz.prog 103 #[.pointer (some ⟨bx, 0, none⟩), .int .i64 n, .int .i64 m] w fun e w' => e = .returned (.int .i64 (doTrunc S n m).2) ∧ Off (bx :: bs) w w' ∧ PD w' bx (doTrunc S n m).1 ba cap bs := by
  have HP := hide hP
  have HG := hide hG
  clear hP hG
  go_enter Tryz.func103, Tryz.ntmps103
  go_wp2_with fail
  refine (operation bx S _ w HP.out.head HG.out.left).mono ?_
  rintro e w1 ⟨rfl, hb1, hs1⟩
  by_cases h0 : S.left = 0
  · have hd : decide (S.left = 0) = true := decide_eq_true h0
    have HE := hide (show doTrunc S n m = (S, 8) from if_pos h0)
    rw [if_pos h0] at hs1
    have HQ := hide (HP.out.turned hb1 hs1)
    have HB := hide hb1
    clear hb1 hs1 h0
    rw [hd]
    go_wp2_with fail
    go_ret
    rw [HE.out]
    exact ⟨rfl, Off.of_but HB.out (List.mem_cons_self ..), HQ.out⟩
  · have hd : decide (S.left = 0) = false := decide_eq_false h0
    rw [op_left h0] at hs1
    have HQ := hide (HP.out.turned hb1 hs1)
    have HB := hide hb1
    have H0 := hide h0
    clear hb1 hs1 h0
    rw [hd]
    go_wp2_with fail
    refine (find bx ba cap bs (op S) n w1 HQ.out hl).mono ?_
    rintro e w2 ⟨rfl, rfl⟩
    cases hp : place n S.segs with
    | none =>
      have HE := hide (show doTrunc S n m = (op S, 9) by rw [doTrunc, if_neg H0.out, hp])
      rw [ptr_none (S := op S) hp]
      clear hp
      go_wp2_with fail
      go_ret
      rw [HE.out]
      exact ⟨rfl, Off.of_but HB.out (List.mem_cons_self ..), HQ.out⟩
    | some k =>
      obtain ⟨s, hs, hn⟩ := place_some hp
      obtain ⟨b, hb⟩ : ∃ b, bs[k]? = some b := ⟨_, List.getElem?_eq_getElem (by rw [HP.out.len]; exact (List.getElem?_eq_some_iff.1 hs).1)⟩
      rw [ptr_at (S := op S) hp hb]
      have hS := HQ.out.seg k b s hb hs
      obtain ⟨b0, b1, b2, g0, g1, g2⟩ := head3 hS
      have HS := hide hS
      have HK := hide hb
      have hgd : ((S.segs[k]?).map (fun s => (s.text.size : Int))).getD (-1) = (s.text.size : Int) := by rw [hs]; rfl
      have hd2 : doTrunc S n m = if 0 ≤ m ∧ m ≤ (s.text.size : Int) then (⟨S.segs.set k { s with text := s.text.extract 0 m.toNat, syn := min s.syn m.toNat }, (op S).left, S.room⟩, 0) else (op S, 9) := by
        rw [doTrunc, if_neg H0.out, hp]
        show (if 0 ≤ m ∧ m ≤ ((S.segs[k]?).map (fun s => (s.text.size : Int))).getD (-1) then _ else _) = _
        rw [hgd, turn_set HG.out.rise hs hn]
        rfl
      have HD2 := hide hd2
      have hsyn : ((min s.syn m.toNat : Nat) : Int) = min (s.syn : Int) (m.toNat : Int) := by omega
      clear hp hs hn hb hS hgd hd2
      by_cases h1 : m < 0
      · have HE := hide (show doTrunc S n m = (op S, 9) by rw [HD2.out, if_neg (by omega)])
        go_wp2_with fail
        go_ret
        rw [HE.out]
        exact ⟨rfl, Off.of_but HB.out (List.mem_cons_self ..), HQ.out⟩
      · by_cases h2 : (s.text.size : Int) < m
        · have HE := hide (show doTrunc S n m = (op S, 9) by rw [HD2.out, if_neg (by omega)])
          go_wp2_with fail
          go_ret
          rw [HE.out]
          exact ⟨rfl, Off.of_but HB.out (List.mem_cons_self ..), HQ.out⟩
        · obtain ⟨j, rfl⟩ : ∃ j : Nat, m = (j : Int) := ⟨m.toNat, by omega⟩
          have h3 : j ≤ s.text.size := by omega
          have HE := hide (show doTrunc S n (j : Int) = (⟨S.segs.set k { s with text := s.text.extract 0 j, syn := min s.syn j }, (op S).left, S.room⟩, 0) by rw [HD2.out, if_pos (by omega)]; rfl)
          have HSY := hide (show ((min s.syn j : Nat) : Int) = min (s.syn : Int) (j : Int) by omega)
          clear hsyn HD2
          go_wp2_with fail
          go_ret
          rw [HE.out]
          have hmem : b ∈ bx :: bs := List.mem_cons_of_mem _ (List.mem_of_getElem? HK.out)
          refine ⟨rfl, ((Off.of_but HB.out (List.mem_cons_self ..)).set hmem _ _).set hmem _ _, HQ.out.seg_turned HK.out (((But.refl _ _).set _ _).set _ _) ?_⟩
          have := (HS.out.set 1 (.string (s.text.extract 0 j))).set 2 (.int .i64 (min (s.syn : Int) (j : Int)))
          rw [← HSY.out] at this ⊢
          exact this
end Go.Proofs.YtmkidefdegaamaaGreatDoor.Dh
namespace Go.Proofs.YtmkidefdegaamaaGreatDoor.Dh
open Go.RowKit Mem Foot Dm
/-- The first k segments torn. -/
def tornTo (t : Int) (k : Nat) (l : List Seg) : List Seg := (l.take k).map (torn t) ++ l.drop k
theorem tornTo_all (t : Int) (l : List Seg) : tornTo t l.length l = l.map (torn t) := by
  simp [tornTo]
theorem tornTo_get {t : Int} {k : Nat} {l : List Seg} {s : Seg} (h : l[k]? = some s) : (tornTo t k l)[k]? = some s := by
  have hk := (List.getElem?_eq_some_iff.1 h).1
  rw [tornTo, List.getElem?_append_right (by simp; omega)]
  have e : k - ((l.take k).map (torn t)).length = 0 := by simp; omega
  rw [e, List.getElem?_drop, Nat.add_zero, h]
theorem tornTo_set {t : Int} {k : Nat} {l : List Seg} {s : Seg} (h : l[k]? = some s) : (tornTo t k l).set k (torn t s) = tornTo t (k + 1) l := by
  have hk := (List.getElem?_eq_some_iff.1 h).1
  have e : k - ((l.take k).map (torn t)).length = 0 := by simp; omega
  rw [tornTo, List.set_append_right _ _ (by simp; omega), e, tornTo, List.take_add_one, h, List.map_append, List.append_assoc]
  have hd : l.drop k = s :: l.drop (k + 1) := by
    obtain ⟨_, e⟩ := List.getElem?_eq_some_iff.1 h
    rw [← e]
    exact List.drop_eq_getElem_cons hk
  rw [hd]
  rfl
end Go.Proofs.YtmkidefdegaamaaGreatDoor.Dh
namespace Go.Proofs.YtmkidefdegaamaaGreatDoor.Dh
open Go.RowKit Mem Foot Dm
theorem crash (bx ba cap : Nat) (bs : List Nat) (S : Dk) (t : Int) (w : World) (hP : PD w bx S ba cap bs) (hG : Dm.Good S) (hl : bs.length ≤ 1000000000) (hz : ∀ s ∈ S.segs, s.text.size ≤ 1000000000000) :
    Calls Tryz.prog 32 #[.pointer (some ⟨bx, 0, none⟩), .int .i64 t] w fun e w' => e = .returned (.tuple #[]) ∧ Off (bx :: bs) w w' ∧ PD w' bx (doCrash S t) ba cap bs := by
  obtain ⟨c0, c1, c2, f0, f1, f2⟩ := head3 hP.head
  have HP := hide hP
  have HG := hide hG
  have HZ := hide hz
  clear hP hG hz
  unfold sl at c0
  obtain ⟨u, hu⟩ : ∃ u : Nat, (u : Int) = max t 0 := ⟨(max t 0).toNat, by omega⟩
  have HE := hide (show doCrash S t = ⟨S.segs.map (torn (u : Int)), -1, -1⟩ by
    have : (if t < 0 then 0 else t) = (u : Int) := by omega
    rw [doCrash, this])
  by_cases h0 : bs.length = 0
  · rw [if_pos h0] at c0
    have hsn : S.segs = [] := List.eq_nil_of_length_eq_zero (HP.out.len ▸ h0)
    have HSN := hide hsn
    clear hsn hu
    go_enter Tryz.func32, Tryz.ntmps32
    go_wp2_with fail
    go_loopw [13] (fun s13 wr => s13 = .int .i64 0 ∧ wr = w) (fun _ _ => 0)
    case atStart => exact ⟨rfl, rfl⟩
    case round =>
      obtain ⟨rfl, rfl⟩ := hrel
      go_wp2_with fail
      go_end0
      rw [HE.out]
      have hB := ((But.refl bx wr).set 1 (.int .i64 (-1))).set 2 (.int .i64 (-1))
      have hT := HP.out.turned hB ((HP.out.head.set 1 _).set 2 _)
      rw [HSN.out] at hT ⊢
      exact ⟨rfl, Off.of_but hB (List.mem_cons_self ..), hT⟩
  · rw [if_neg h0] at c0
    have HU := hide hu
    clear hu
    go_enter Tryz.func32, Tryz.ntmps32
    go_wp2_with fail
    rw [← HU.out]
    go_loopw [13] (fun s13 wr => ∃ k : Nat, s13 = .int .i64 (k : Int) ∧ k ≤ bs.length ∧ Hid (PD wr bx ⟨tornTo (u : Int) k S.segs, S.left, S.room⟩ ba cap bs ∧ Off (bx :: bs) w wr)) (fun s13 _ => bs.length - (intOf s13).toNat)
    case atStart => exact ⟨0, rfl, by omega, HP.out, Off.refl _ _⟩
    case round =>
      clear c0 c1 c2 f0 f1 f2
      obtain ⟨k, rfl, hk, HR⟩ := hrel
      obtain ⟨c0, c1, c2, f0, f1, f2⟩ := head3 HR.out.1.head
      by_cases hkl : k < bs.length
      · have hkz : (k : Int) < (bs.length : Int) := by omega
        obtain ⟨b, hb⟩ : ∃ b, bs[k]? = some b := ⟨_, List.getElem?_eq_getElem hkl⟩
        obtain ⟨s, hs⟩ : ∃ s, S.segs[k]? = some s := ⟨_, List.getElem?_eq_getElem (by rw [← HP.out.len]; exact hkl)⟩
        obtain ⟨cs, hA, hcs, hcap, hptr⟩ := HR.out.1.arr (fun e => h0 (by rw [e]; rfl))
        have a0 := hA.cell k _ (hptr k b hb)
        have hS := HR.out.1.seg k b s hb (tornTo_get hs)
        obtain ⟨b0, b1, b2, g0, g1, g2⟩ := head3 hS
        have HS := hide hS
        have hsy := HG.out.syn s (List.mem_of_getElem? hs)
        have hsz := HZ.out s (List.mem_of_getElem? hs)
        have HT := hide (tornTo_set (t := (u : Int)) hs)
        have HK := hide hb
        clear hb hs hA hptr hS hcs
        by_cases ht : (u : Int) < (s.text.size : Int) - (s.syn : Int)
        · have HTN := hide (show torn (u : Int) s = { s with text := s.text.extract 0 (s.syn + u), syn := s.syn + u } from if_pos ht)
          go_wp2_with fail
          go_quiet (fail)
          go_wp2_with fail
          go_region
          go_wp2_with fail
          have hmin : min (s.syn + u) s.text.size = s.syn + u := by omega
          rw [hmin]
          have hB : But b wr (((wr.drewN (nq + 1)).setCell ⟨b, 1, none⟩ (.string (s.text.extract 0 (s.syn + u)))).setCell ⟨b, 2, none⟩ (.int .i64 ((s.syn + u : Nat) : Int))) := ((((But.refl b wr).drewN _).set _ _).set _ _)
          refine ⟨⟨k + 1, by go_num, by omega, ?_, HR.out.2.trans (Off.of_but hB (List.mem_cons_of_mem _ (List.mem_of_getElem? HK.out)))⟩, by simp [intOf]; omega⟩
          have hq := HR.out.1.seg_turned (s' := torn (u : Int) s) HK.out hB (by rw [HTN.out]; exact ((HS.out.drewN (nq + 1)).set 1 _).set 2 _)
          rw [HT.out] at hq
          exact hq
        · have HTN := hide (show torn (u : Int) s = { s with syn := s.text.size } from if_neg ht)
          go_wp2_with fail
          go_quiet (fail)
          go_wp2_with fail
          have hB : But b wr ((wr.drewN nq).setCell ⟨b, 2, none⟩ (.int .i64 (s.text.size : Int))) := (((But.refl b wr).drewN _).set _ _)
          refine ⟨⟨k + 1, by go_num, by omega, ?_, HR.out.2.trans (Off.of_but hB (List.mem_cons_of_mem _ (List.mem_of_getElem? HK.out)))⟩, by simp [intOf]; omega⟩
          have hq := HR.out.1.seg_turned (s' := torn (u : Int) s) HK.out hB (by rw [HTN.out]; exact (HS.out.drewN nq).set 2 _)
          rw [HT.out] at hq
          exact hq
      · have hkz : ¬ (k : Int) < (bs.length : Int) := by omega
        obtain rfl : k = S.segs.length := by have := HP.out.len; omega
        have HR2 := HR
        rw [tornTo_all] at HR2
        go_wp2_with fail
        go_end0
        rw [HE.out]
        have hB := ((But.refl bx wr).set 1 (.int .i64 (-1))).set 2 (.int .i64 (-1))
        exact ⟨rfl, HR2.out.2.trans (Off.of_but hB (List.mem_cons_self ..)), HR2.out.1.turned hB ((HR2.out.1.head.set 1 _).set 2 _)⟩
end Go.Proofs.YtmkidefdegaamaaGreatDoor.Dh
