/- A struct of the call's own in memory: its block, written and read; all else stays. -/
import Derived.Test.YtenegfafjjknoaaGreatDoorProg
import Derived.WalkKit
import Derived.Below
import Derived.Laws.Rows
import Derived.Deep.Draws
import Derived.Handy
namespace Go.Proofs.YtenegfafjjknoaaGreatDoor.Mem
open Go.RowKit

/-- Block b is a row of these cells, none of them frozen. -/
def Sits (w : World) (b : Nat) (t : TypeId) (cs : Array Value) : Prop := w.heap[b]? = some (.cells cs t (0, 0))

theorem Sits.lt {w : World} {b : Nat} {t : TypeId} {cs : Array Value} (h : Sits w b t cs) : b < w.heap.size := by
  unfold Sits at h
  exact (Array.getElem?_eq_some_iff.1 h).1

theorem Sits.frozen {w : World} {b : Nat} {t : TypeId} {cs : Array Value} (h : Sits w b t cs) (j : Nat) : w.frozen? ⟨b, j, none⟩ = false := by
  unfold Sits at h
  simp only [World.frozen?, h]
  simp

theorem Sits.cell {w : World} {b : Nat} {t : TypeId} {cs : Array Value} (h : Sits w b t cs) (j : Nat) (v : Value) (hv : cs[j]? = some v) : w.cell? ⟨b, j, none⟩ = some v := by
  unfold Sits at h
  simp [World.cell?, h, hv]

theorem Sits.set {w : World} {b : Nat} {t : TypeId} {cs : Array Value} (h : Sits w b t cs) (j : Nat) (v : Value) : Sits (w.setCell ⟨b, j, none⟩ v) b t (cs.setIfInBounds j v) := by
  unfold Sits at h ⊢
  exact heap_setCell_same w b j cs t v h

theorem Sits.drewN {w : World} {b : Nat} {t : TypeId} {cs : Array Value} (h : Sits w b t cs) (n : Nat) : Sits (w.drewN n) b t cs := h

theorem Sits.below {w w' : World} {b B : Nat} {t : TypeId} {cs : Array Value} (h : Sits w b t cs) (hb : Below B w w') (hB : b < B) : Sits w' b t cs := by
  unfold Sits at h ⊢
  rw [hb.block b hB, h]

/-- All but block b is as it was. -/
structure But (b : Nat) (w w' : World) : Prop where
  os : w'.os = w.os
  tape : w'.tape = w.tape
  output : w'.output = w.output
  size : w.heap.size ≤ w'.heap.size
  block : ∀ k, k < w.heap.size → k ≠ b → w'.heap[k]? = w.heap[k]?

theorem But.refl (b : Nat) (w : World) : But b w w := ⟨rfl, rfl, rfl, Nat.le_refl _, fun _ _ _ => rfl⟩

theorem But.of_below {b : Nat} {w w' : World} (h : Below w.heap.size w w') : But b w w' := ⟨h.os, h.tape, h.output, h.size, fun k hk _ => h.block k hk⟩

theorem But.trans {b : Nat} {x y z : World} (h : But b x y) (k : But b y z) : But b x z :=
  ⟨k.os.trans h.os, k.tape.trans h.tape, k.output.trans h.output, Nat.le_trans h.size k.size, fun i hi hb => (k.block i (Nat.lt_of_lt_of_le hi h.size) hb).trans (h.block i hi hb)⟩

theorem But.drewN {b : Nat} {w w' : World} (h : But b w w') (n : Nat) : But b w (w'.drewN n) := ⟨h.os, h.tape, h.output, h.size, h.block⟩

theorem But.of_drewN {b n : Nat} {w w' : World} (h : But b (w.drewN n) w') : But b w w' := ⟨h.os, h.tape, h.output, h.size, h.block⟩

theorem But.set {b : Nat} {w w' : World} (h : But b w w') (j : Nat) (v : Value) : But b w (w'.setCell ⟨b, j, none⟩ v) :=
  h.trans ⟨rfl, rfl, rfl, by simp, fun k _ hb => Below.heap_setCell _ _ _ _ hb⟩

/-- What is below B, and b from B on: below B all is as it was. -/
theorem But.below {b B : Nat} {w w' : World} (h : But b w w') (hB : B ≤ b) (hw : B ≤ w.heap.size) : Below B w w' :=
  ⟨h.os, h.tape, h.output, h.size, fun k hk => h.block k (by omega) (by omega)⟩

theorem Sits.but {w w' : World} {b c : Nat} {t : TypeId} {cs : Array Value} (h : Sits w c t cs) (hb : But b w w') (hc : c ≠ b) : Sits w' c t cs := by
  have hl := h.lt
  unfold Sits at h ⊢
  rw [hb.block c hl hc, h]

theorem Sits.new (w : World) (t : TypeId) (cs : Array Value) : Sits (w.alloc (.cells cs t)) w.heap.size t cs := by
  unfold Sits
  show (w.heap.push _)[w.heap.size]? = _
  simp

theorem Sits.alloc {w : World} {b : Nat} {t : TypeId} {cs : Array Value} (h : Sits w b t cs) (o : Obj) : Sits (w.alloc o) b t cs := by
  have hl := h.lt
  unfold Sits at h ⊢
  rw [Below.heap_alloc w o b hl, h]

theorem But.alloc {b : Nat} {w w' : World} (h : But b w w') (o : Obj) : But b w (w'.alloc o) :=
  h.trans ⟨rfl, rfl, rfl, by simp, fun k hk _ => Below.heap_alloc _ _ _ hk⟩

theorem cell_set_other (w : World) {b c : Nat} (i j : Nat) (v : Value) (h : b ≠ c) : (w.setCell ⟨b, i, none⟩ v).cell? ⟨c, j, none⟩ = w.cell? ⟨c, j, none⟩ :=
  World.cell?_of_block (w := w) (Below.heap_setCell _ _ _ _ (fun e => h e.symm))

theorem below7 {B b : Nat} {w w' : World} (h : Below B w w') (hb : B ≤ b) (v0 v1 v2 v3 v4 v5 v6 : Value) :
    Below B w (((((((w'.setCell ⟨b, 0, none⟩ v0).setCell ⟨b, 1, none⟩ v1).setCell ⟨b, 2, none⟩ v2).setCell ⟨b, 3, none⟩ v3).setCell ⟨b, 4, none⟩ v4).setCell ⟨b, 5, none⟩ v5).setCell ⟨b, 6, none⟩ v6) :=
  ((((((h.setCell hb _).setCell hb _).setCell hb _).setCell hb _).setCell hb _).setCell hb _).setCell hb _

theorem below_drewN' {B n : Nat} {w w' : World} (h : Below B w w') : Below B w (w'.drewN n) := ⟨h.os, h.tape, h.output, h.size, h.block⟩

theorem below_new {w : World} (o : Obj) : Below w.heap.size w (w.alloc o) := (Below.refl _ _).alloc (Nat.le_refl _) o

end Go.Proofs.YtenegfafjjknoaaGreatDoor.Mem
