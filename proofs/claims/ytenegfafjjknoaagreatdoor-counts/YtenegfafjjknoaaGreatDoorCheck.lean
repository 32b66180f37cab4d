/- Configurations: the program's Check and the document's Good answer alike. -/
import Derived.Test.YtenegfafjjknoaaGreatDoorTexts
import Derived.Test.YtenegfafjjknoaaGreatDoorMem
namespace Go.Proofs.YtenegfafjjknoaaGreatDoor.Check
open Go.RowKit Mem

/-- Within two bounds. -/
def inb (lo hi n : Int) : Bool := decide (lo ≤ n) && decide (n ≤ hi)

/-- A configuration, by the document. -/
def good (a b c d e f : Int) : Bool := inb 1 1000 a && (inb 1 32 b && (inb 1 16 c && (inb 2 64 d && (inb 1 16 e && inb 64 4096 f))))

theorem inb_iff {lo hi n : Int} : inb lo hi n = true ↔ lo ≤ n ∧ n ≤ hi := by simp [inb]

theorem within (n lo hi : Int) (w : World) :
    Calls Tryz.prog 40 #[.int .i64 n, .int .i64 lo, .int .i64 hi] w fun e w' => e = .returned (.bool (inb lo hi n)) ∧ w = w' := by
  by_cases h : lo ≤ n
  · go_enter Tryz.func40, Tryz.ntmps40
    go_wp2_with fail
    go_ret
    exact ⟨by simp [inb, h], rfl⟩
  · go_enter Tryz.func40, Tryz.ntmps40
    go_wp2_with fail
    go_ret
    refine ⟨congrArg (fun z => Ending.returned (.bool z)) ?_, rfl⟩
    have h2 : decide (lo ≤ n) = false := decide_eq_false (by omega)
    show false = inb lo hi n
    rw [inb, h2]
    rfl

theorem num (n : Int) (w : World) : Calls Tryz.prog 18 #[.int .i64 n] w fun e w' => e = .returned (.int .i64 n) ∧ w = w' := by
  go_enter Tryz.func18, Tryz.ntmps18
  go_wp2_with fail
  go_ret
  exact ⟨rfl, rfl⟩

theorem conf (a b c d e f : Int) (w : World) :
    Calls Tryz.prog 16 #[.agg #[.int .i64 a, .int .i64 b, .int .i64 c, .int .i64 d, .int .i64 e, .int .i64 f]] w fun r w' => r = .returned (.agg #[.int .i64 a, .int .i64 b, .int .i64 c, .int .i64 d, .int .i64 e, .int .i64 f]) ∧ Below w.heap.size w w' := by
  go_enter Tryz.func16, Tryz.ntmps16
  go_wp2_with fail
  go_returns
  exact ⟨rfl, (below_new _).alloc (by simp) _⟩

theorem hide {p : Prop} (h : p) : Hid p := h

theorem check (a b c d e f : Int) (w : World) :
    Calls Tryz.prog 15 #[.agg #[.int .i64 a, .int .i64 b, .int .i64 c, .int .i64 d, .int .i64 e, .int .i64 f]] w fun r w' => r = .returned (.int .i64 (if good a b c d e f = true then 0 else 1)) ∧ Below w.heap.size w w' := by
  generalize hgood : (if good a b c d e f = true then (0 : Int) else 1) = R
  have HR := hide hgood
  clear hgood
  go_enter Tryz.func15, Tryz.ntmps15
  go_wp2_with (go_at_call 40; refine (within _ _ _ _).mono ?_; rintro e w' ⟨rfl, rfl⟩)
  all_goals go_ret
  all_goals refine ⟨congrArg (fun z => Ending.returned (.int .i64 z)) ?_, below_new _⟩
  all_goals rw [← HR.out]
  all_goals simp_all [good]

theorem refGood (a b c d e f : Int) (w : World) :
    Calls Tryz.prog 17 #[.agg #[.int .i64 a, .int .i64 b, .int .i64 c, .int .i64 d, .int .i64 e, .int .i64 f]] w fun r w' => r = .returned (.bool (good a b c d e f)) ∧ Below w.heap.size w w' := by
  generalize hgood : good a b c d e f = R
  have HR := hide hgood
  clear hgood
  go_enter Tryz.func17, Tryz.ntmps17
  go_wp2_with fail
  all_goals go_ret
  all_goals refine ⟨congrArg (fun z => Ending.returned (.bool z)) ?_, below_new _⟩
  all_goals rw [← HR.out]
  all_goals first | (simp [good, inb]; omega) | (rw [Bool.eq_iff_iff]; simp [good, inb]; omega)

end Go.Proofs.YtenegfafjjknoaaGreatDoor.Check
