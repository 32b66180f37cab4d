/- Maps in memory, by the list of their entries. -/
import Derived.Maps.OwnSet
import Derived.Maps.Views
namespace Go.Proofs.Ytenegfafjjknoaa.Im
open Go

/-- How an element reads: as itself, if it is of the right shape. -/
def exE (ok : Value → Bool) (v : Value) : Option (DataW Value × List MemPlace) := if ok v = true then some (.held v, []) else none

theorem exE_mk {ok : Value → Bool} {v : Value} (h : ok v = true) : exE ok v = some (.held v, []) := by simp [exE, h]

theorem exE_inv {ok : Value → Bool} {v : Value} {z : DataW Value × List MemPlace} (h : exE ok v = some z) : ok v = true ∧ z = (.held v, []) := by
  unfold exE at h
  split at h
  · rename_i h1
    injection h with h
    exact ⟨h1, h.symm⟩
  · cases h

section
variable {κ β : Type} {lit : κ → Lit} {lt : κ → κ → Bool} {f : β → Value}
def mp (lit : κ → Lit) (f : β → Value) (l : List (κ × β)) : DataW Value := .map (l.map fun p => (lit p.1, .held (f p.2)))

def ins (lt : κ → κ → Bool) (x : κ × β) : List (κ × β) → List (κ × β)
  | [] => [x]
  | y :: r => if lt x.1 y.1 then x :: y :: r else y :: ins lt x r

theorem mp_size (l : List (κ × β)) : Maps.size (mp lit f l) = l.length := by
  show (l.map fun p => (lit p.1, DataW.held (f p.2))).length = _
  simp

theorem mp_ins (hb : ∀ a b, (lit a).before (lit b) = lt a b) (x : κ × β) (l : List (κ × β)) : DataW.insert (lit x.1, DataW.held (f x.2)) (l.map fun p => (lit p.1, DataW.held (f p.2))) = (ins lt x l).map fun p => (lit p.1, DataW.held (f p.2)) := by
  induction l with
  | nil => rfl
  | cons y r ih =>
    rw [List.map_cons, DataW.insert, ins]
    by_cases h : lt x.1 y.1 = true
    · simp [hb, h]
    · simp [hb, h, ih]

theorem mem_ins (x : κ × β) (l : List (κ × β)) (y : κ × β) : y ∈ ins lt x l ↔ y = x ∨ y ∈ l := by
  induction l with
  | nil => simp [ins]
  | cons p r ih =>
    rw [ins]
    by_cases h : lt x.1 p.1 = true
    · simp [h]
    · simp only [h, Bool.false_eq_true, if_false, List.mem_cons, ih]
      constructor
      · rintro (h | h | h)
        · exact Or.inr (Or.inl h)
        · exact Or.inl h
        · exact Or.inr (Or.inr h)
      · rintro (h | h | h)
        · exact Or.inr (Or.inl h)
        · exact Or.inl h
        · exact Or.inr (Or.inr h)

theorem ins_length (x : κ × β) (l : List (κ × β)) : (ins lt x l).length = l.length + 1 := by
  induction l with
  | nil => rfl
  | cons p r ih =>
    rw [ins]
    by_cases h : lt x.1 p.1 = true
    · simp [h]
    · simp [h, ih]

theorem ins_perm (x : κ × β) (l : List (κ × β)) : (ins lt x l).Perm (x :: l) := by
  induction l with
  | nil => exact List.Perm.refl _
  | cons p r ih =>
    rw [ins]
    by_cases h : lt x.1 p.1 = true
    · simp [h]
    · simp only [h, Bool.false_eq_true, if_false]
      exact (List.Perm.cons p ih).trans (List.Perm.swap x p r)

def Up (lt : κ → κ → Bool) (l : List (κ × β)) : Prop := l.Pairwise fun p q => lt p.1 q.1 = true

theorem Up.ins (htr : ∀ a b c, lt a b = true → lt b c = true → lt a c = true) (hto : ∀ a b, a ≠ b → lt a b = false → lt b a = true) {l : List (κ × β)} (h : Up lt l) (x : κ × β) (hx : ∀ p ∈ l, p.1 ≠ x.1) : Up lt (ins lt x l) := by
  induction l with
  | nil => exact List.pairwise_singleton _ _
  | cons p r ih =>
    obtain ⟨h1, h2⟩ := List.pairwise_cons.1 h
    rw [Im.ins]
    by_cases hl : lt x.1 p.1 = true
    · simp only [hl, if_true]
      refine List.pairwise_cons.2 ⟨fun q hq => ?_, h⟩
      rcases List.mem_cons.1 hq with rfl | hq
      · exact hl
      · exact htr _ _ _ hl (h1 q hq)
    · simp only [hl, Bool.false_eq_true, if_false]
      refine List.pairwise_cons.2 ⟨fun q hq => ?_, ih h2 fun q hq => hx q (List.mem_cons_of_mem _ hq)⟩
      rcases (mem_ins x r q).1 hq with rfl | hq
      · exact hto _ _ (fun e => hx p (List.mem_cons_self ..) e.symm) (by simpa using hl)
      · exact h1 q hq

theorem Up.nodup (hir : ∀ a, lt a a = false) {l : List (κ × β)} (h : Up lt l) : (l.map (·.1)).Nodup := by
  rw [List.nodup_iff_pairwise_ne, List.pairwise_map]
  refine h.imp fun {p q} hpq e => ?_
  rw [e, hir] at hpq
  cases hpq

end

section
variable {κ β : Type} [DecidableEq κ] {lit : κ → Lit} {lt : κ → κ → Bool} {f : β → Value}
def del (k : κ) (l : List (κ × β)) : List (κ × β) := l.filter fun p => !decide (p.1 = k)
def put (lt : κ → κ → Bool) (k : κ) (b : β) (l : List (κ × β)) : List (κ × β) := ins lt (k, b) (del k l)
def getE (k : κ) (l : List (κ × β)) : Option β := (l.find? fun p => decide (p.1 = k)).map (·.2)
def has (k : κ) (l : List (κ × β)) : Bool := l.any fun p => decide (p.1 = k)

theorem mp_has (hs : ∀ a b, (lit a).sameKey (lit b) = decide (a = b)) (k : κ) (l : List (κ × β)) : Maps.has (mp lit f l) (lit k) = has k l := by
  show (l.map fun p => (lit p.1, DataW.held (f p.2))).any (fun p => p.1.sameKey (lit k)) = _
  rw [List.any_map]
  simp [has, hs, Function.comp_def]

theorem mp_at (hs : ∀ a b, (lit a).sameKey (lit b) = decide (a = b)) (k : κ) (l : List (κ × β)) (z : DataW Value) : (mp lit f l).atKey (lit k) z = match getE k l with | some b => .held (f b) | none => z := by
  simp only [mp, DataW.atKey]
  unfold getE
  induction l with
  | nil => rfl
  | cons p r ih =>
    by_cases h : p.1 = k
    · simp [hs, h]
    · simpa [hs, h] using ih

theorem mp_del (hs : ∀ a b, (lit a).sameKey (lit b) = decide (a = b)) (k : κ) (l : List (κ × β)) : (mp lit f l).del (lit k) = mp lit f (del k l) := by
  show DataW.map ((l.map fun p => (lit p.1, DataW.held (f p.2))).filter fun p => !p.1.sameKey (lit k)) = _
  unfold mp del
  rw [List.filter_map]
  congr 2
  simp [hs, Function.comp_def]

theorem mp_put (hs : ∀ a b, (lit a).sameKey (lit b) = decide (a = b)) (hb : ∀ a b, (lit a).before (lit b) = lt a b) (k : κ) (b : β) (l : List (κ × β)) : (mp lit f l).put (lit k) (.held (f b)) = mp lit f (put lt k b l) := by
  show DataW.map (DataW.insert (lit k, DataW.held (f b)) ((l.map fun p => (lit p.1, DataW.held (f p.2))).filter fun p => !p.1.sameKey (lit k))) = _
  have e : ((l.map fun p => (lit p.1, DataW.held (f p.2))).filter fun p => !p.1.sameKey (lit k)) = (del k l).map fun p => (lit p.1, DataW.held (f p.2)) := by
    unfold del
    rw [List.filter_map]
    congr 1
    simp [hs, Function.comp_def]
  rw [e, mp_ins hb (k, b)]
  rfl

theorem has_getE (k : κ) (l : List (κ × β)) : has k l = (getE k l).isSome := by
  unfold has getE
  induction l with
  | nil => rfl
  | cons p r ih =>
    by_cases h : p.1 = k
    · simp [h]
    · simpa [h] using ih

theorem has_iff (k : κ) (l : List (κ × β)) : has k l = true ↔ k ∈ l.map (·.1) := by
  unfold has
  simp

theorem has_false (k : κ) (l : List (κ × β)) : has k l = false ↔ k ∉ l.map (·.1) := by
  rw [← has_iff]
  simp

theorem del_of_not (k : κ) (l : List (κ × β)) (h : has k l = false) : del k l = l := by
  unfold del
  rw [List.filter_eq_self]
  intro p hp
  have := (has_false k l).1 h
  simp only [Bool.not_eq_true', decide_eq_false_iff_not]
  intro e
  exact this (List.mem_map.2 ⟨p, hp, e⟩)

/-- Rising. -/
theorem Up.del {l : List (κ × β)} (h : Up lt l) (k : κ) : Up lt (del k l) := h.filter _

theorem Up.put (htr : ∀ a b c, lt a b = true → lt b c = true → lt a c = true) (hto : ∀ a b, a ≠ b → lt a b = false → lt b a = true) {l : List (κ × β)} (h : Up lt l) (k : κ) (b : β) : Up lt (put lt k b l) := by
  refine Up.ins htr hto (h.del k) (k, b) fun p hp => ?_
  have := (List.mem_filter.1 hp).2
  simpa using this

end

/-- The number of entries is the list's. -/
theorem own_tight {P : Program} {k : TypeId} {R : Value → Option (DataW Value × List MemPlace)} {w : World} {b n : Nat} {D : DataW Value} (h : w.ownsMap P k R b n D) : w.ownsMap P k R b (Maps.size D) D := by
  obtain ⟨es, clock, hb, F, _, rfl⟩ := h
  exact ⟨es, clock, hb, F, by simp [Maps.size, length_sorted], rfl⟩

def iLit (k : Int) : Lit := .int .i64 k
def iLt (a b : Int) : Bool := decide (a < b)
theorem iLit_same (a b : Int) : (iLit a).sameKey (iLit b) = decide (a = b) := by simp [iLit, Lit.sameKey]
theorem iLit_before (a b : Int) : (iLit a).before (iLit b) = iLt a b := by simp [iLit, Lit.before, iLt]
theorem iLt_trans (a b c : Int) (h : iLt a b = true) (h' : iLt b c = true) : iLt a c = true := by
  simp [iLt] at *
  omega
theorem iLt_total (a b : Int) (hne : a ≠ b) (h : iLt a b = false) : iLt b a = true := by
  simp [iLt] at *
  omega
theorem iLt_irr (a : Int) : iLt a a = false := by simp [iLt]

end Go.Proofs.Ytenegfafjjknoaa.Im
