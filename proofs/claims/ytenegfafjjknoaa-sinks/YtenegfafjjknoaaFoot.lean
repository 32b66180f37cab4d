/- Footprints: the blocks that a call may write. -/
import Derived.Test.YtenegfafjjknoaaMem
namespace Go.Proofs.Ytenegfafjjknoaa.Foot
open Go.RowKit Mem

theorem hide {p : Prop} (h : p) : Hid p := h

/-- All blocks but those of F are as they were. -/
structure Off (F : List Nat) (w w' : World) : Prop where
  os : w'.os = w.os
  tape : w'.tape = w.tape
  output : w'.output = w.output
  size : w.heap.size ≤ w'.heap.size
  block : ∀ k, k < w.heap.size → k ∉ F → w'.heap[k]? = w.heap[k]?

theorem Off.refl (F : List Nat) (w : World) : Off F w w := ⟨rfl, rfl, rfl, Nat.le_refl _, fun _ _ _ => rfl⟩

theorem Off.of_below {F : List Nat} {w w' : World} (h : Below w.heap.size w w') : Off F w w' := ⟨h.os, h.tape, h.output, h.size, fun k hk _ => h.block k hk⟩

theorem Off.of_but {b : Nat} {F : List Nat} {w w' : World} (h : But b w w') (hb : b ∈ F) : Off F w w' := ⟨h.os, h.tape, h.output, h.size, fun k hk hF => h.block k hk (fun e => hF (e ▸ hb))⟩

theorem Off.mono {F G : List Nat} {w w' : World} (h : Off F w w') (hs : ∀ k, k < w.heap.size → k ∈ F → k ∈ G) : Off G w w' :=
  ⟨h.os, h.tape, h.output, h.size, fun k hk hG => h.block k hk (fun e => hG (hs k hk e))⟩

theorem Off.trans {F : List Nat} {x y z : World} (h : Off F x y) (k : Off F y z) : Off F x z :=
  ⟨k.os.trans h.os, k.tape.trans h.tape, k.output.trans h.output, Nat.le_trans h.size k.size, fun i hi hF => (k.block i (Nat.lt_of_lt_of_le hi h.size) hF).trans (h.block i hi hF)⟩

theorem Off.drewN {F : List Nat} {w w' : World} (h : Off F w w') (n : Nat) : Off F w (w'.drewN n) := ⟨h.os, h.tape, h.output, h.size, h.block⟩

theorem Off.set {F : List Nat} {w w' : World} (h : Off F w w') {b : Nat} (hb : b ∈ F) (j : Nat) (v : Value) : Off F w (w'.setCell ⟨b, j, none⟩ v) :=
  h.trans (Off.of_but ((But.refl b w').set j v) hb)

theorem Off.alloc {F : List Nat} {w w' : World} (h : Off F w w') (o : Obj) : Off F w (w'.alloc o) :=
  h.trans (Off.of_below (below_new o))

theorem Sits.off {w w' : World} {c : Nat} {F : List Nat} {t : TypeId} {cs : Array Value} (h : Sits w c t cs) (ho : Off F w w') (hc : c ∉ F) : Sits w' c t cs := by
  have hl := h.lt
  unfold Sits at h ⊢
  rw [ho.block c hl hc, h]

theorem cell_off {w w' : World} {c : Nat} {F : List Nat} (ho : Off F w w') (hl : c < w.heap.size) (hc : c ∉ F) (j : Nat) : w'.cell? ⟨c, j, none⟩ = w.cell? ⟨c, j, none⟩ :=
  World.cell?_of_block (w := w) (ho.block c hl hc)

/-- Where nothing is written but what is new. -/
theorem Off.below {B : Nat} {F : List Nat} {w w' : World} (h : Off F w w') (hF : ∀ k ∈ F, B ≤ k) (hw : B ≤ w.heap.size) : Below B w w' :=
  ⟨h.os, h.tape, h.output, h.size, fun k hk => h.block k (by omega) (fun e => by have := hF k e; omega)⟩

end Go.Proofs.Ytenegfafjjknoaa.Foot
