/- Configurations: the program's Check and the document's Good answer alike. -/
import Derived.Test.YtmkidefdegaamaaGreatDoorTextsy
namespace Go.Proofs.YtmkidefdegaamaaGreatDoor.Check
open Go.RowKit Mem
/-- Within two bounds. -/
def inb (lo hi n : Int) : Bool := decide (lo ≤ n) && decide (n ≤ hi)
/-- A configuration, by the document. -/
def good (a b c d e f : Int) : Bool := inb 1 1000 a && (inb 1 32 b && (inb 1 16 c && (inb 2 64 d && (inb 1 16 e && inb 64 4096 f))))
theorem within (n lo hi : Int) (w : World) :
    Calls Tryz.prog 40 #[.int .i64 n, .int .i64 lo, .int .i64 hi] w fun e w' => e = .returned (.bool (inb lo hi n)) ∧ w = w' := by
  by_cases h : lo ≤ n
  · go_enter Tryz.func40, Tryz.ntmps40
    go_wp2_with fail
    go_ret
    exact ⟨by simp [inb, h], rfl⟩
  · go_enter Tryz.func40, Tryz.ntmps40
    go_wp2_with fail
    go_ret
    refine ⟨congrArg (fun z => Ending.returned (.bool z)) ?_, rfl⟩
    have h2 : decide (lo ≤ n) = false := decide_eq_false (by omega)
    show false = inb lo hi n
    rw [inb, h2]
    rfl
theorem hide {p : Prop} (h : p) : Hid p := h
theorem check (a b c d e f : Int) (w : World) :
    Calls Tryz.prog 22 #[.agg #[.int .i64 a, .int .i64 b, .int .i64 c, .int .i64 d, .int .i64 e, .int .i64 f]] w fun r w' => r = .returned (.int .i64 (if good a b c d e f = true then 0 else 1)) ∧ Below w.heap.size w w' := by
  generalize hgood : (if good a b c d e f = true then (0 : Int) else 1) = R
  have HR := hide hgood
  clear hgood
  go_enter Tryz.func22, Tryz.ntmps22
  go_wp2_with (go_at_call 40; refine (within _ _ _ _).mono ?_; rintro e w' ⟨rfl, rfl⟩)
  all_goals go_ret
  all_goals refine ⟨congrArg (fun z => Ending.returned (.int .i64 z)) ?_, below_new _⟩
  all_goals rw [← HR.out]
  all_goals simp_all [good]
end Go.Proofs.YtmkidefdegaamaaGreatDoor.Check
