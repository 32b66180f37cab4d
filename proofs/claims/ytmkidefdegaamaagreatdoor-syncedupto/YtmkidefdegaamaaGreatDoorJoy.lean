/- Going backward through a row of numbers; segments deleted one by one. -/
import Derived.Test.YtmkidefdegaamaaGreatDoorJgy
import Derived.RangeFuncBound
import Derived.RangeFuncCalls
import Derived.RangeFuncLeaves
import Derived.RangeFuncNested
import Derived.RangeFuncFrom
import Derived.LoopNIn
import Derived.TacticsInMore
namespace Go.Proofs.YtmkidefdegaamaaGreatDoor.Jr
open Go.RowKit Go.Maps Mem Foot Bytes Im Wm Hi Plainw Cq Dm Dh
def jdels (S : Dk) : List Int → Dk × Int
  | [] => (S, 0)
  | n :: l => if (doDelete S n).2 ≠ 0 then doDelete S n else jdels (doDelete S n).1 l
/-- What the iterator tells: a place, and a number. -/
abbrev Yd := { x : Int × Int // -9223372036854775808 ≤ x.2 ∧ x.2 ≤ 9223372036854775807 }
def nums (l : List Yd) : List Int := l.map fun x => x.1.2
end Go.Proofs.YtmkidefdegaamaaGreatDoor.Jr
namespace Go.Proofs.YtmkidefdegaamaaGreatDoor.Jr
open Go.RowKit Go.Maps Mem Foot Bytes Im Wm Hi Plainw Cq Dm Dh
theorem pf_del {bx ba ba' n : Nat} {bs bs' : List Nat} (h1 : ∀ b ∈ bs', b ∈ bs) (h2 : ba' = ba ∨ n ≤ ba') : ∀ b ∈ pf bx ba' bs', b ∈ pf bx ba bs ∨ n ≤ b := by
  intro b hb
  cases bs' with
  | nil => exact Or.inl (pf_sub (List.mem_singleton.1 hb ▸ List.mem_cons_self ..))
  | cons x r =>
    cases bs with
    | nil => exact absurd (h1 x (List.mem_cons_self ..)) (by simp)
    | cons y r2 =>
      rcases List.mem_cons.1 hb with e | e
      · exact Or.inl (e ▸ List.mem_cons_self ..)
      · rcases List.mem_cons.1 e with e | e
        · rcases h2 with h2 | h2
          · exact Or.inl (by rw [e, h2]; exact List.mem_cons_of_mem _ (List.mem_cons_self ..))
          · exact Or.inr (by omega)
        · exact Or.inl (List.mem_cons_of_mem _ (List.mem_cons_of_mem _ (h1 b e)))
theorem KeepsOthers.of_off {W W' : World} (h : Below W.heap.size W W') : KeepsOthers W W' :=
  ⟨h.size, fun k _ hk _ => (h.block k (Array.getElem?_eq_some_iff.1 hk).1).trans hk⟩
/-- What holds between two rounds. -/
def Inv (S : Dk) (bx ba : Nat) (bs : List Nat) (w3 : World) (pre : List Yd) (W : World) : Prop :=
  (jdels S (nums pre)).2 = 0 ∧ Off (pf bx ba bs) w3 W ∧ ∃ ba' cap' bs', PD W bx (jdels S (nums pre)).1 ba' cap' bs' ∧ ∀ b ∈ pf bx ba' bs', b ∈ pf bx ba bs ∨ w3.heap.size ≤ b
theorem row_off {W W' : World} {row : Option Nat} (h : W.grownBy W' row) : Off row.toList W W' :=
  ⟨h.os, h.tape, h.output, h.size, fun k hk hF => h.block k hk (fun e => hF (by simp [← e]))⟩
theorem row_not {W : World} {row : Option Nat} {B : Nat} (hr : ∀ r, row = some r → B ≤ r ∧ ∃ o : Obj, W.heap[r]? = some o ∧ o.isCells = false) {k : Nat} {t : TypeId} {cs : Array Value} (hs : Sits W k t cs) : k ∉ row.toList := by
  intro e
  obtain ⟨_, o, h1, h2⟩ := hr k (by simpa using e)
  unfold Sits at hs
  rw [hs] at h1
  cases h1
  cases h2
end Go.Proofs.YtmkidefdegaamaaGreatDoor.Jr
