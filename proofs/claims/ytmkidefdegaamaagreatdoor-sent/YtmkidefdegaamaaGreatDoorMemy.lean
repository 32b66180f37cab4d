/- A struct of the call's own in memory: its block, written and read; all else stays. -/
import Derived.Test.YtmkidefdegaamaaGreatDoorProg
import Derived.WalkKit
import Derived.Below
import Derived.Laws.Rows
import Derived.Deep.Draws
import Derived.Handy
import Derived.Maps.OwnSet
import Derived.Maps.Views
import Derived.WalkLawsBesides
import Derived.Deep.QuietTactic
import Derived.BigQuiet
namespace Go.Proofs.YtmkidefdegaamaaGreatDoor.Mem
open Go.RowKit
/-- Block b is a row of these cells, none of them frozen. -/
def Sits (w : World) (b : Nat) (t : TypeId) (cs : Array Value) : Prop := w.heap[b]? = some (.cells cs t (0, 0))
theorem Sits.lt {w : World} {b : Nat} {t : TypeId} {cs : Array Value} (h : Sits w b t cs) : b < w.heap.size := by
  unfold Sits at h
  exact (Array.getElem?_eq_some_iff.1 h).1
theorem Sits.frozen {w : World} {b : Nat} {t : TypeId} {cs : Array Value} (h : Sits w b t cs) (j : Nat) : w.frozen? ⟨b, j, none⟩ = false := by
  unfold Sits at h
  simp only [World.frozen?, h]
  simp
theorem Sits.cell {w : World} {b : Nat} {t : TypeId} {cs : Array Value} (h : Sits w b t cs) (j : Nat) (v : Value) (hv : cs[j]? = some v) : w.cell? ⟨b, j, none⟩ = some v := by
  unfold Sits at h
  simp [World.cell?, h, hv]
theorem Sits.set {w : World} {b : Nat} {t : TypeId} {cs : Array Value} (h : Sits w b t cs) (j : Nat) (v : Value) : Sits (w.setCell ⟨b, j, none⟩ v) b t (cs.setIfInBounds j v) := by
  unfold Sits at h ⊢
  exact heap_setCell_same w b j cs t v h
theorem Sits.drewN {w : World} {b : Nat} {t : TypeId} {cs : Array Value} (h : Sits w b t cs) (n : Nat) : Sits (w.drewN n) b t cs := h
theorem Sits.below {w w' : World} {b B : Nat} {t : TypeId} {cs : Array Value} (h : Sits w b t cs) (hb : Below B w w') (hB : b < B) : Sits w' b t cs := by
  unfold Sits at h ⊢
  rw [hb.block b hB, h]
/-- All but block b is as it was. -/
structure But (b : Nat) (w w' : World) : Prop where
  os : w'.os = w.os
  tape : w'.tape = w.tape
  output : w'.output = w.output
  size : w.heap.size ≤ w'.heap.size
  block : ∀ k, k < w.heap.size → k ≠ b → w'.heap[k]? = w.heap[k]?
theorem But.refl (b : Nat) (w : World) : But b w w := ⟨rfl, rfl, rfl, Nat.le_refl _, fun _ _ _ => rfl⟩
theorem But.of_below {b : Nat} {w w' : World} (h : Below w.heap.size w w') : But b w w' := ⟨h.os, h.tape, h.output, h.size, fun k hk _ => h.block k hk⟩
theorem But.trans {b : Nat} {x y z : World} (h : But b x y) (k : But b y z) : But b x z :=
  ⟨k.os.trans h.os, k.tape.trans h.tape, k.output.trans h.output, Nat.le_trans h.size k.size, fun i hi hb => (k.block i (Nat.lt_of_lt_of_le hi h.size) hb).trans (h.block i hi hb)⟩
theorem But.drewN {b : Nat} {w w' : World} (h : But b w w') (n : Nat) : But b w (w'.drewN n) := ⟨h.os, h.tape, h.output, h.size, h.block⟩
theorem But.set {b : Nat} {w w' : World} (h : But b w w') (j : Nat) (v : Value) : But b w (w'.setCell ⟨b, j, none⟩ v) :=
  h.trans ⟨rfl, rfl, rfl, by simp, fun k _ hb => Below.heap_setCell _ _ _ _ hb⟩
/-- What is below B, and b from B on: below B all is as it was. -/
theorem But.below {b B : Nat} {w w' : World} (h : But b w w') (hB : B ≤ b) (hw : B ≤ w.heap.size) : Below B w w' :=
  ⟨h.os, h.tape, h.output, h.size, fun k hk => h.block k (by omega) (by omega)⟩
theorem Sits.but {w w' : World} {b c : Nat} {t : TypeId} {cs : Array Value} (h : Sits w c t cs) (hb : But b w w') (hc : c ≠ b) : Sits w' c t cs := by
  have hl := h.lt
  unfold Sits at h ⊢
  rw [hb.block c hl hc, h]
theorem Sits.new (w : World) (t : TypeId) (cs : Array Value) : Sits (w.alloc (.cells cs t)) w.heap.size t cs := by
  unfold Sits
  show (w.heap.push _)[w.heap.size]? = _
  simp
theorem Sits.alloc {w : World} {b : Nat} {t : TypeId} {cs : Array Value} (h : Sits w b t cs) (o : Obj) : Sits (w.alloc o) b t cs := by
  have hl := h.lt
  unfold Sits at h ⊢
  rw [Below.heap_alloc w o b hl, h]
theorem cell_set_other (w : World) {b c : Nat} (i j : Nat) (v : Value) (h : b ≠ c) : (w.setCell ⟨b, i, none⟩ v).cell? ⟨c, j, none⟩ = w.cell? ⟨c, j, none⟩ :=
  World.cell?_of_block (w := w) (Below.heap_setCell _ _ _ _ (fun e => h e.symm))
theorem below7 {B b : Nat} {w w' : World} (h : Below B w w') (hb : B ≤ b) (v0 v1 v2 v3 v4 v5 v6 : Value) :
    Below B w (((((((w'.setCell ⟨b, 0, none⟩ v0).setCell ⟨b, 1, none⟩ v1).setCell ⟨b, 2, none⟩ v2).setCell ⟨b, 3, none⟩ v3).setCell ⟨b, 4, none⟩ v4).setCell ⟨b, 5, none⟩ v5).setCell ⟨b, 6, none⟩ v6) :=
  ((((((h.setCell hb _).setCell hb _).setCell hb _).setCell hb _).setCell hb _).setCell hb _).setCell hb _
theorem below_drewN' {B n : Nat} {w w' : World} (h : Below B w w') : Below B w (w'.drewN n) := ⟨h.os, h.tape, h.output, h.size, h.block⟩
theorem below_new {w : World} (o : Obj) : Below w.heap.size w (w.alloc o) := (Below.refl _ _).alloc (Nat.le_refl _) o
end Go.Proofs.YtmkidefdegaamaaGreatDoor.Mem
namespace Go.Proofs.YtmkidefdegaamaaGreatDoor.Im
open Go
/-- How an element reads: as itself, if it is of the right shape. -/
def exE (ok : Value → Bool) (v : Value) : Option (DataW Value × List MemPlace) := if ok v = true then some (.held v, []) else none
theorem exE_mk {ok : Value → Bool} {v : Value} (h : ok v = true) : exE ok v = some (.held v, []) := by simp [exE, h]
theorem exE_inv {ok : Value → Bool} {v : Value} {z : DataW Value × List MemPlace} (h : exE ok v = some z) : ok v = true ∧ z = (.held v, []) := by
  unfold exE at h
  split at h
  · rename_i h1
    injection h with h
    exact ⟨h1, h.symm⟩
  · cases h
section
variable {κ β : Type} {lit : κ → Lit} {lt : κ → κ → Bool} {f : β → Value}
def mp (lit : κ → Lit) (f : β → Value) (l : List (κ × β)) : DataW Value := .map (l.map fun p => (lit p.1, .held (f p.2)))
def ins (lt : κ → κ → Bool) (x : κ × β) : List (κ × β) → List (κ × β)
  | [] => [x]
  | y :: r => if lt x.1 y.1 then x :: y :: r else y :: ins lt x r
theorem mp_size (l : List (κ × β)) : Maps.size (mp lit f l) = l.length := by
  show (l.map fun p => (lit p.1, DataW.held (f p.2))).length = _
  simp
theorem mp_ins (hb : ∀ a b, (lit a).before (lit b) = lt a b) (x : κ × β) (l : List (κ × β)) : DataW.insert (lit x.1, DataW.held (f x.2)) (l.map fun p => (lit p.1, DataW.held (f p.2))) = (ins lt x l).map fun p => (lit p.1, DataW.held (f p.2)) := by
  induction l with
  | nil => rfl
  | cons y r ih =>
    rw [List.map_cons, DataW.insert, ins]
    by_cases h : lt x.1 y.1 = true
    · simp [hb, h]
    · simp [hb, h, ih]
theorem mem_ins (x : κ × β) (l : List (κ × β)) (y : κ × β) : y ∈ ins lt x l ↔ y = x ∨ y ∈ l := by
  induction l with
  | nil => simp [ins]
  | cons p r ih =>
    rw [ins]
    by_cases h : lt x.1 p.1 = true
    · simp [h]
    · simp only [h, Bool.false_eq_true, if_false, List.mem_cons, ih]
      constructor
      · rintro (h | h | h)
        · exact Or.inr (Or.inl h)
        · exact Or.inl h
        · exact Or.inr (Or.inr h)
      · rintro (h | h | h)
        · exact Or.inr (Or.inl h)
        · exact Or.inl h
        · exact Or.inr (Or.inr h)
theorem ins_length (x : κ × β) (l : List (κ × β)) : (ins lt x l).length = l.length + 1 := by
  induction l with
  | nil => rfl
  | cons p r ih =>
    rw [ins]
    by_cases h : lt x.1 p.1 = true
    · simp [h]
    · simp [h, ih]
theorem ins_perm (x : κ × β) (l : List (κ × β)) : (ins lt x l).Perm (x :: l) := by
  induction l with
  | nil => exact List.Perm.refl _
  | cons p r ih =>
    rw [ins]
    by_cases h : lt x.1 p.1 = true
    · simp [h]
    · simp only [h, Bool.false_eq_true, if_false]
      exact (List.Perm.cons p ih).trans (List.Perm.swap x p r)
def Up (lt : κ → κ → Bool) (l : List (κ × β)) : Prop := l.Pairwise fun p q => lt p.1 q.1 = true
theorem Up.ins (htr : ∀ a b c, lt a b = true → lt b c = true → lt a c = true) (hto : ∀ a b, a ≠ b → lt a b = false → lt b a = true) {l : List (κ × β)} (h : Up lt l) (x : κ × β) (hx : ∀ p ∈ l, p.1 ≠ x.1) : Up lt (ins lt x l) := by
  induction l with
  | nil => exact List.pairwise_singleton _ _
  | cons p r ih =>
    obtain ⟨h1, h2⟩ := List.pairwise_cons.1 h
    rw [Im.ins]
    by_cases hl : lt x.1 p.1 = true
    · simp only [hl, if_true]
      refine List.pairwise_cons.2 ⟨fun q hq => ?_, h⟩
      rcases List.mem_cons.1 hq with rfl | hq
      · exact hl
      · exact htr _ _ _ hl (h1 q hq)
    · simp only [hl, Bool.false_eq_true, if_false]
      refine List.pairwise_cons.2 ⟨fun q hq => ?_, ih h2 fun q hq => hx q (List.mem_cons_of_mem _ hq)⟩
      rcases (mem_ins x r q).1 hq with rfl | hq
      · exact hto _ _ (fun e => hx p (List.mem_cons_self ..) e.symm) (by simpa using hl)
      · exact h1 q hq
theorem Up.nodup (hir : ∀ a, lt a a = false) {l : List (κ × β)} (h : Up lt l) : (l.map (·.1)).Nodup := by
  rw [List.nodup_iff_pairwise_ne, List.pairwise_map]
  refine h.imp fun {p q} hpq e => ?_
  rw [e, hir] at hpq
  cases hpq
end
section
variable {κ β : Type} [DecidableEq κ] {lit : κ → Lit} {lt : κ → κ → Bool} {f : β → Value}
def del (k : κ) (l : List (κ × β)) : List (κ × β) := l.filter fun p => !decide (p.1 = k)
def put (lt : κ → κ → Bool) (k : κ) (b : β) (l : List (κ × β)) : List (κ × β) := ins lt (k, b) (del k l)
def getE (k : κ) (l : List (κ × β)) : Option β := (l.find? fun p => decide (p.1 = k)).map (·.2)
def has (k : κ) (l : List (κ × β)) : Bool := l.any fun p => decide (p.1 = k)
theorem mp_has (hs : ∀ a b, (lit a).sameKey (lit b) = decide (a = b)) (k : κ) (l : List (κ × β)) : Maps.has (mp lit f l) (lit k) = has k l := by
  show (l.map fun p => (lit p.1, DataW.held (f p.2))).any (fun p => p.1.sameKey (lit k)) = _
  rw [List.any_map]
  simp [has, hs, Function.comp_def]
theorem mp_at (hs : ∀ a b, (lit a).sameKey (lit b) = decide (a = b)) (k : κ) (l : List (κ × β)) (z : DataW Value) : (mp lit f l).atKey (lit k) z = match getE k l with | some b => .held (f b) | none => z := by
  simp only [mp, DataW.atKey]
  unfold getE
  induction l with
  | nil => rfl
  | cons p r ih =>
    by_cases h : p.1 = k
    · simp [hs, h]
    · simpa [hs, h] using ih
theorem mp_del (hs : ∀ a b, (lit a).sameKey (lit b) = decide (a = b)) (k : κ) (l : List (κ × β)) : (mp lit f l).del (lit k) = mp lit f (del k l) := by
  show DataW.map ((l.map fun p => (lit p.1, DataW.held (f p.2))).filter fun p => !p.1.sameKey (lit k)) = _
  unfold mp del
  rw [List.filter_map]
  congr 2
  simp [hs, Function.comp_def]
theorem mp_put (hs : ∀ a b, (lit a).sameKey (lit b) = decide (a = b)) (hb : ∀ a b, (lit a).before (lit b) = lt a b) (k : κ) (b : β) (l : List (κ × β)) : (mp lit f l).put (lit k) (.held (f b)) = mp lit f (put lt k b l) := by
  show DataW.map (DataW.insert (lit k, DataW.held (f b)) ((l.map fun p => (lit p.1, DataW.held (f p.2))).filter fun p => !p.1.sameKey (lit k))) = _
  have e : ((l.map fun p => (lit p.1, DataW.held (f p.2))).filter fun p => !p.1.sameKey (lit k)) = (del k l).map fun p => (lit p.1, DataW.held (f p.2)) := by
    unfold del
    rw [List.filter_map]
    congr 1
    simp [hs, Function.comp_def]
  rw [e, mp_ins hb (k, b)]
  rfl
theorem has_getE (k : κ) (l : List (κ × β)) : has k l = (getE k l).isSome := by
  unfold has getE
  induction l with
  | nil => rfl
  | cons p r ih =>
    by_cases h : p.1 = k
    · simp [h]
    · simpa [h] using ih
theorem has_iff (k : κ) (l : List (κ × β)) : has k l = true ↔ k ∈ l.map (·.1) := by
  unfold has
  simp
theorem has_false (k : κ) (l : List (κ × β)) : has k l = false ↔ k ∉ l.map (·.1) := by
  rw [← has_iff]
  simp
theorem del_of_not (k : κ) (l : List (κ × β)) (h : has k l = false) : del k l = l := by
  unfold del
  rw [List.filter_eq_self]
  intro p hp
  have := (has_false k l).1 h
  simp only [Bool.not_eq_true', decide_eq_false_iff_not]
  intro e
  exact this (List.mem_map.2 ⟨p, hp, e⟩)
/-- Rising. -/
theorem Up.del {l : List (κ × β)} (h : Up lt l) (k : κ) : Up lt (del k l) := h.filter _
theorem Up.put (htr : ∀ a b c, lt a b = true → lt b c = true → lt a c = true) (hto : ∀ a b, a ≠ b → lt a b = false → lt b a = true) {l : List (κ × β)} (h : Up lt l) (k : κ) (b : β) : Up lt (put lt k b l) := by
  refine Up.ins htr hto (h.del k) (k, b) fun p hp => ?_
  have := (List.mem_filter.1 hp).2
  simpa using this
end
/-- The number of entries is the list's. -/
theorem own_tight {P : Program} {k : TypeId} {R : Value → Option (DataW Value × List MemPlace)} {w : World} {b n : Nat} {D : DataW Value} (h : w.ownsMap P k R b n D) : w.ownsMap P k R b (Maps.size D) D := by
  obtain ⟨es, clock, hb, F, _, rfl⟩ := h
  exact ⟨es, clock, hb, F, by simp [Maps.size, length_sorted], rfl⟩
def iLit (k : Int) : Lit := .int .i64 k
def iLt (a b : Int) : Bool := decide (a < b)
theorem iLit_same (a b : Int) : (iLit a).sameKey (iLit b) = decide (a = b) := by simp [iLit, Lit.sameKey]
theorem iLit_before (a b : Int) : (iLit a).before (iLit b) = iLt a b := by simp [iLit, Lit.before, iLt]
theorem iLt_trans (a b c : Int) (h : iLt a b = true) (h' : iLt b c = true) : iLt a c = true := by
  simp [iLt] at *
  omega
theorem iLt_total (a b : Int) (hne : a ≠ b) (h : iLt a b = false) : iLt b a = true := by
  simp [iLt] at *
  omega
theorem iLt_irr (a : Int) : iLt a a = false := by simp [iLt]
end Go.Proofs.YtmkidefdegaamaaGreatDoor.Im
namespace Go.Proofs.YtmkidefdegaamaaGreatDoor.Bnd
/-- The boundary behind b. -/
def nxt (b : Int) : Int := max (51 * b / 49) (b + 1)
/-- The boundaries. -/
def bnd : Nat → Int
  | 0 => 0
  | n + 1 => nxt (bnd n)
/-- What a bucket with these bounds stands for. -/
def stand (l h : Int) : Int := 2 * l * h / (l + h)
/-- What Bucket answers at v. -/
def IsB (v n s : Int) : Prop :=
  ((v < 0 ∨ 1000000000 < v) ∧ n = -1 ∧ s = 0) ∨
  (0 ≤ v ∧ v ≤ 1000000000 ∧ ∃ k : Nat, n = (k : Int) ∧ bnd k ≤ v ∧ v < bnd (k + 1) ∧ s = stand (bnd k) (bnd (k + 1)))
theorem nxt_gt (b : Int) : b + 1 ≤ nxt b := by
  unfold nxt
  omega
theorem bnd_step (k : Nat) : bnd k + 1 ≤ bnd (k + 1) := nxt_gt _
theorem bnd_ge (k : Nat) : (k : Int) ≤ bnd k := by
  induction k with
  | zero => simp [bnd]
  | succ k ih =>
    have := bnd_step k
    omega
theorem bnd_nonneg (k : Nat) : 0 ≤ bnd k := by
  have := bnd_ge k
  omega
theorem bnd_mono {j k : Nat} (h : j ≤ k) : bnd j ≤ bnd k := by
  induction h with
  | refl => exact Int.le_refl _
  | step _ ih =>
    rename_i m _
    have : bnd m + 1 ≤ bnd m.succ := bnd_step m
    omega
theorem bnd_one {v : Int} {j k : Nat} (hj : bnd j ≤ v) (hj' : v < bnd (j + 1)) (hk : bnd k ≤ v) (hk' : v < bnd (k + 1)) : j = k := by
  rcases Nat.lt_trichotomy j k with h | h | h
  · have := bnd_mono (j := j + 1) (k := k) h
    omega
  · exact h
  · have := bnd_mono (j := k + 1) (k := j) h
    omega
theorem isB_one {v n s m t : Int} (h : IsB v n s) (g : IsB v m t) : n = m ∧ s = t := by
  rcases h with ⟨h1, rfl, rfl⟩ | ⟨h1, h2, k, rfl, h3, h4, rfl⟩ <;> rcases g with ⟨g1, rfl, rfl⟩ | ⟨g1, g2, j, rfl, g3, g4, rfl⟩
  · exact ⟨rfl, rfl⟩
  · omega
  · omega
  · have e := bnd_one h3 h4 g3 g4
    subst e
    exact ⟨rfl, rfl⟩
/-! ### What a bucket stands for -/
theorem stand_lo {l h : Int} (hl : 0 ≤ l) (hh : l < h) : stand l h * (l + h) ≤ 2 * l * h :=
  Int.ediv_mul_le _ (by omega)
theorem stand_hi {l h : Int} (hl : 0 ≤ l) (hh : l < h) : 2 * l * h < (stand l h + 1) * (l + h) := by
  have := Int.lt_ediv_add_one_mul_self (2 * l * h) (b := l + h) (by omega)
  exact this
theorem stand_nonneg {l h : Int} (hl : 0 ≤ l) (hh : l < h) : 0 ≤ stand l h :=
  Int.ediv_nonneg (Int.mul_nonneg (by omega) (by omega)) (by omega)
/-- Two bounds behind one another: the second is the first's neighbour, or at most 51 to 49 of it. -/
theorem bnd_cases (k : Nat) : bnd (k + 1) = bnd k + 1 ∨ 49 * bnd (k + 1) ≤ 51 * bnd k := by
  show nxt (bnd k) = _ ∨ 49 * nxt (bnd k) ≤ _
  unfold nxt
  omega
/-- The arithmetic of a fiftieth: q is l times h, twice, over l and h together. -/
theorem near_wide {l h x q : Int} (hl : 0 ≤ l) (hx : l ≤ x) (hxh : x < h) (hr : 49 * h ≤ 51 * l) (h1 : q * (l + h) ≤ 2 * l * h) (h2 : 2 * l * h < (q + 1) * (l + h)) :
    50 * (q - x) ≤ x + 50 ∧ 50 * (x - q) ≤ x + 50 := by
  have hp : 0 < l + h := by omega
  constructor
  · -- 50 q ≤ 51 l, since 100 l h ≤ 51 l (l + h)
    have a : 50 * q ≤ 51 * l := by
      refine Int.le_of_mul_le_mul_right (a := l + h) ?_ hp
      have b : 0 ≤ l * (51 * l - 49 * h) := Int.mul_nonneg hl (by omega)
      rw [Int.mul_sub] at b
      have c1 : 50 * q * (l + h) = 50 * (q * (l + h)) := Int.mul_assoc _ _ _
      have c2 : 51 * l * (l + h) = 51 * (l * l) + 51 * (l * h) := by
        rw [Int.mul_assoc, Int.mul_add]
        omega
      have c3 : l * (51 * l) = 51 * (l * l) := by
        rw [Int.mul_left_comm]
      have c4 : l * (49 * h) = 49 * (l * h) := by
        rw [Int.mul_left_comm]
      have c5 : 2 * l * h = 2 * (l * h) := Int.mul_assoc _ _ _
      omega
    omega
  · -- 49 h ≤ 50 (q + 1), since 49 h (l + h) ≤ 100 l h
    have a : 49 * h < 50 * (q + 1) := by
      refine Int.lt_of_mul_lt_mul_right (a := l + h) ?_ (by omega)
      have b : 0 ≤ h * (51 * l - 49 * h) := Int.mul_nonneg (by omega) (by omega)
      rw [Int.mul_sub] at b
      have c1 : 50 * (q + 1) * (l + h) = 50 * ((q + 1) * (l + h)) := Int.mul_assoc _ _ _
      have c2 : 49 * h * (l + h) = 49 * (l * h) + 49 * (h * h) := by
        rw [Int.mul_assoc, Int.mul_add, Int.mul_comm h l]
        omega
      have c3 : h * (51 * l) = 51 * (l * h) := by
        rw [Int.mul_left_comm, Int.mul_comm h l]
      have c4 : h * (49 * h) = 49 * (h * h) := by
        rw [Int.mul_left_comm]
      have c5 : 2 * l * h = 2 * (l * h) := Int.mul_assoc _ _ _
      omega
    omega
theorem near_slim {l q : Int} (hl : 0 ≤ l) (h1 : q * (l + (l + 1)) ≤ 2 * l * (l + 1)) (h2 : 2 * l * (l + 1) < (q + 1) * (l + (l + 1))) : q = l := by
  have hp : 0 < l + (l + 1) := by omega
  have e : 2 * l * (l + 1) = l * (l + (l + 1)) + l := by
    have c1 : 2 * l * (l + 1) = 2 * (l * l) + 2 * l := by
      rw [Int.mul_add, Int.mul_one, Int.mul_assoc]
    have c2 : l * (l + (l + 1)) = l * l + (l * l + l) := by
      rw [Int.mul_add, Int.mul_add, Int.mul_one]
    omega
  have a : q < l + 1 := by
    refine Int.lt_of_mul_lt_mul_right (a := l + (l + 1)) ?_ (by omega)
    rw [Int.add_mul]
    omega
  have b : l < q + 1 := by
    refine Int.lt_of_mul_lt_mul_right (a := l + (l + 1)) ?_ (by omega)
    omega
  omega
/-- What a bucket stands for is near to every value in it. -/
theorem near {x n e : Int} (h : IsB x n e) (h0 : 0 ≤ x) (hm : x ≤ 1000000000) : 0 ≤ n ∧ n ≤ x ∧ 50 * (e - x) ≤ x + 50 ∧ 50 * (x - e) ≤ x + 50 ∧ 0 ≤ e ∧ e ≤ 2000000000 := by
  rcases h with ⟨h1, rfl, rfl⟩ | ⟨h1, h2, k, rfl, h3, h4, rfl⟩
  · omega
  · have g := bnd_ge k
    have hl := bnd_nonneg k
    have hs := bnd_step k
    have s1 := stand_lo hl (by omega : bnd k < bnd (k + 1))
    have s2 := stand_hi hl (by omega : bnd k < bnd (k + 1))
    have s0 := stand_nonneg hl (by omega : bnd k < bnd (k + 1))
    rcases bnd_cases k with hc | hc
    · rw [hc] at s1 s2 s0 h4 ⊢
      have e := near_slim hl s1 s2
      omega
    · have e := near_wide hl h3 h4 hc s1 s2
      omega
/-! ### Bounds for the walks -/
theorem stand_room {l h : Int} (hl : 0 ≤ l) (hl' : l ≤ 1000000000) (hh : 0 ≤ h) (hh' : h ≤ 2000000000) : 0 ≤ 2 * l * h ∧ 2 * l * h ≤ 4000000000000000000 := by
  constructor
  · exact Int.mul_nonneg (by omega) hh
  · have a : 2 * l * h ≤ 2000000000 * 2000000000 := Int.mul_le_mul (by omega) hh' hh (by omega)
    omega
theorem nxt_room {b : Int} (h1 : 0 ≤ b) (h2 : b ≤ 1000000000) : nxt b ≤ 2000000000 := by
  unfold nxt
  omega
end Go.Proofs.YtmkidefdegaamaaGreatDoor.Bnd
namespace Go.Proofs.YtmkidefdegaamaaGreatDoor.Foot
open Go.RowKit Mem
theorem hide {p : Prop} (h : p) : Hid p := h
/-- All blocks but those of F are as they were. -/
structure Off (F : List Nat) (w w' : World) : Prop where
  os : w'.os = w.os
  tape : w'.tape = w.tape
  output : w'.output = w.output
  size : w.heap.size ≤ w'.heap.size
  block : ∀ k, k < w.heap.size → k ∉ F → w'.heap[k]? = w.heap[k]?
theorem Off.refl (F : List Nat) (w : World) : Off F w w := ⟨rfl, rfl, rfl, Nat.le_refl _, fun _ _ _ => rfl⟩
theorem Off.of_below {F : List Nat} {w w' : World} (h : Below w.heap.size w w') : Off F w w' := ⟨h.os, h.tape, h.output, h.size, fun k hk _ => h.block k hk⟩
theorem Off.of_but {b : Nat} {F : List Nat} {w w' : World} (h : But b w w') (hb : b ∈ F) : Off F w w' := ⟨h.os, h.tape, h.output, h.size, fun k hk hF => h.block k hk (fun e => hF (e ▸ hb))⟩
theorem Off.mono {F G : List Nat} {w w' : World} (h : Off F w w') (hs : ∀ k, k < w.heap.size → k ∈ F → k ∈ G) : Off G w w' :=
  ⟨h.os, h.tape, h.output, h.size, fun k hk hG => h.block k hk (fun e => hG (hs k hk e))⟩
theorem Off.trans {F : List Nat} {x y z : World} (h : Off F x y) (k : Off F y z) : Off F x z :=
  ⟨k.os.trans h.os, k.tape.trans h.tape, k.output.trans h.output, Nat.le_trans h.size k.size, fun i hi hF => (k.block i (Nat.lt_of_lt_of_le hi h.size) hF).trans (h.block i hi hF)⟩
theorem Off.drewN {F : List Nat} {w w' : World} (h : Off F w w') (n : Nat) : Off F w (w'.drewN n) := ⟨h.os, h.tape, h.output, h.size, h.block⟩
theorem Off.set {F : List Nat} {w w' : World} (h : Off F w w') {b : Nat} (hb : b ∈ F) (j : Nat) (v : Value) : Off F w (w'.setCell ⟨b, j, none⟩ v) :=
  h.trans (Off.of_but ((But.refl b w').set j v) hb)
theorem Off.alloc {F : List Nat} {w w' : World} (h : Off F w w') (o : Obj) : Off F w (w'.alloc o) :=
  h.trans (Off.of_below (below_new o))
theorem Sits.off {w w' : World} {c : Nat} {F : List Nat} {t : TypeId} {cs : Array Value} (h : Sits w c t cs) (ho : Off F w w') (hc : c ∉ F) : Sits w' c t cs := by
  have hl := h.lt
  unfold Sits at h ⊢
  rw [ho.block c hl hc, h]
/-- Where nothing is written but what is new. -/
theorem Off.below {B : Nat} {F : List Nat} {w w' : World} (h : Off F w w') (hF : ∀ k ∈ F, B ≤ k) (hw : B ≤ w.heap.size) : Below B w w' :=
  ⟨h.os, h.tape, h.output, h.size, fun k hk => h.block k (by omega) (fun e => by have := hF k e; omega)⟩
end Go.Proofs.YtmkidefdegaamaaGreatDoor.Foot
namespace Go.Proofs.YtmkidefdegaamaaGreatDoor.Bkw
open Go.RowKit Bnd
theorem nextBound (b : Int) (w : World) (h1 : 0 ≤ b) (h2 : b ≤ 1000000000) :
    Calls Tryz.prog 238 #[.int .i64 b] w fun e w' => e = .returned (.int .i64 (nxt b)) ∧ w = w' := by
  go_enter Tryz.func238, Tryz.ntmps238
  go_wp2
  · have hm : b + 1 = nxt b := by
      unfold nxt
      omega
    go_ret
    exact ⟨congrArg (fun z => Ending.returned (.int .i64 z)) hm, rfl⟩
  · have hm : 51 * b / 49 = nxt b := by
      unfold nxt
      omega
    go_ret
    exact ⟨congrArg (fun z => Ending.returned (.int .i64 z)) hm, rfl⟩
theorem standsFor (l h : Int) (w : World) (h1 : 0 ≤ l) (h2 : l ≤ 1000000000) (h3 : 1 ≤ h) (h4 : h ≤ 2000000000) :
    Calls Tryz.prog 239 #[.int .i64 l, .int .i64 h] w fun e w' => e = .returned (.int .i64 (stand l h)) ∧ w = w' := by
  obtain ⟨r1, r2⟩ := stand_room h1 h2 (by omega : 0 ≤ h) h4
  go_enter Tryz.func239, Tryz.ntmps239
  go_wp2
  go_ret
  exact ⟨rfl, rfl⟩
theorem skBucket (v : Int) (w : World) :
    Calls Tryz.prog 209 #[.int .i64 v] w fun e w' => (∃ n s, e = .returned (.tuple #[.int .i64 n, .int .i64 s]) ∧ IsB v n s) ∧ w = w' := by
  by_cases c0 : v < 0
  · go_enter Tryz.func209, Tryz.ntmps209
    go_wp2
    go_ret2
    exact ⟨⟨_, _, rfl, Or.inl ⟨Or.inl c0, rfl, rfl⟩⟩, rfl⟩
  · by_cases c1 : 1000000000 < v
    · go_enter Tryz.func209, Tryz.ntmps209
      go_wp2
      go_ret2
      exact ⟨⟨_, _, rfl, Or.inl ⟨Or.inr c1, rfl, rfl⟩⟩, rfl⟩
    · go_enter Tryz.func209, Tryz.ntmps209
      go_wp2
      go_loop [4, 5, 6] (fun n lo hi => ∃ (l h : Int) (k : Nat), lo = .int .i64 l ∧ hi = .int .i64 h ∧ n = .int .i64 k ∧ 0 ≤ l ∧ l ≤ v ∧ l < h ∧ h ≤ 2000000000 ∧ (k : Int) ≤ l ∧ Hid (l = bnd k ∧ h = bnd (k + 1)))
        (fun _ _ hi => (v + 1 - intOf hi).toNat)
      case atStart => exact ⟨0, 1, 0, rfl, rfl, rfl, by omega, by omega, by omega, by omega, by omega, ⟨rfl, rfl⟩⟩
      case round =>
        obtain ⟨l, h, k, rfl, rfl, rfl, p1, p2, p3, p4, p5, HD⟩ := hrel
        have r1 : l ≤ 1000000000 := by omega
        go_wp2_with (first
          | (go_at_call 238; refine (nextBound h _ (by omega) (by omega)).mono ?_; rintro e w' ⟨rfl, rfl⟩)
          | (go_at_call 239; refine (standsFor l h _ (by omega) (by omega) (by omega) (by omega)).mono ?_; rintro e w' ⟨rfl, rfl⟩))
        · have t1 : h ≤ v := by assumption
          have hn := nxt_gt h
          have hr := nxt_room (b := h) (by omega) (by omega)
          go_round
          case rel => exact ⟨h, nxt h, k + 1, rfl, rfl, by go_num, by omega, t1, by omega, by omega, by omega, ⟨HD.out.2, by rw [HD.out.2]; rfl⟩⟩
          case measure => simp only [intOf]; omega
        · have t1 : v < h := by assumption
          go_ret2
          refine ⟨⟨_, _, rfl, Or.inr ⟨by omega, by omega, k, rfl, ?_, ?_, ?_⟩⟩, ?_⟩
          · rw [← HD.out.1]
            exact p2
          · rw [← HD.out.2]
            exact t1
          · rw [← HD.out.1, ← HD.out.2]
          · rfl
end Go.Proofs.YtmkidefdegaamaaGreatDoor.Bkw
