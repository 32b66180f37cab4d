/- strings.SplitN at a comma, five pieces at most: the library's text walked, at every length. -/
import Derived.Test.YtenegfafjjknoaaGreatDoorTexts
import Derived.Test.YtenegfafjjknoaaGreatDoorSpl
import Derived.Lib.Walk
import Derived.Laws.Strings3
import Derived.Deep.OwnRows
import Derived.Deep.LoopGhost
namespace Go.Proofs.YtenegfafjjknoaaGreatDoor.Split
open Go.RowKit Bytes Spl Go.Lib

theorem hide {p : Prop} (h : p) : Hid p := h

theorem hi9 : (Tryz.prog.info? 9).map (fun i => (i.zero, i.size, i.bytes)) = some (some (.string ByteArray.empty), 1, 16) := by kernel_rfl

set_option maxHeartbeats 4000000 in
set_option maxRecDepth 1000000 in
theorem genSplit (s : ByteArray) (N : Nat) (w : World) (hs : s.size ≤ 140737488355328) (hN : N = min 5 (s.size + 1)) :
    Calls Tryz.prog 186 #[.string s, .string ⟨#[44]⟩, .int .i64 0, .int .i64 5] w fun e w' =>
      e = .returned (.slice (some ⟨w.heap.size, 0, none⟩) (Lib.splitB ⟨#[44]⟩ 0 (N - 1) s).length N) ∧ w' = w.alloc (.cells (Lib.cellsOf (Lib.splitB ⟨#[44]⟩ 0 (N - 1) s) N) 9) := by
  have hI : ∀ (x : ByteArray) (w : World), Calls Tryz.prog 241 #[.string x, .string ⟨#[44]⟩] w fun e w' => e = .returned (.int .i64 (Lib.indexB x ⟨#[44]⟩)) ∧ w' = w := fun x w =>
    (Tryz.strings_Index_one x 44 w).mono fun e w' ⟨he, hw⟩ => ⟨by rw [he, ← Lib.index_one], hw⟩
  have eN' : min (5 : Int) ((s.size : Int) + 1) = (N : Int) := by omega
  have hNs : (N : Int) ≤ (s.size : Int) + 1 := by omega
  have hN1 : (1 : Int) ≤ (N : Int) := by omega
  have hN5 : (N : Int) ≤ 5 := by omega
  clear hN
  have hmk := run_make_row' (P := Tryz.prog) 36 9 (.string ByteArray.empty) 16 Tryz.underlying36 hi9 rfl .i64 .i64 N (by omega) (by omega)
  have HI := hide hI
  clear hI
  go_enter Tryz.func186, Tryz.ntmps186
  go_wp2_with fail
  clear hmk
  go_loopg [0, 10] (N - 1) (fun g s0 s10 wr => ∃ (done : List ByteArray) (rest : ByteArray), s0 = .string rest ∧ s10 = .int .i64 done.length ∧ done.length ≤ N - 1 ∧ g = N - 1 - done.length ∧ rest.size ≤ s.size ∧
    wr = w.alloc (.cells (Lib.cellsOf done N) 9) ∧ done ++ Lib.splitB ⟨#[44]⟩ 0 (N - 1 - done.length) rest = Lib.splitB ⟨#[44]⟩ 0 (N - 1) s)
  case atStart => exact ⟨[], s, rfl, rfl, Nat.zero_le _, rfl, Nat.le_refl _, by rw [Lib.cellsOf_nil], rfl⟩
  case round =>
    obtain ⟨done, rest, rfl, rfl, hd, rfl, hrs, rfl, hsp⟩ := hrel
    have hnext : (Lib.cellsOf done N)[done.length]? = some (.string ByteArray.empty) := Lib.cellsOf_next (by omega)
    have HS := hide hsp
    clear hsp
    have fin : Lib.splitB ⟨#[44]⟩ 0 (N - 1 - done.length) rest = [rest] → (Lib.splitB ⟨#[44]⟩ 0 (N - 1) s).length = done.length + 1 ∧ (Lib.cellsOf done N).setIfInBounds done.length (.string rest) = Lib.cellsOf (Lib.splitB ⟨#[44]⟩ 0 (N - 1) s) N := fun h => by
      have e := HS.out
      rw [h] at e
      rw [← e]
      exact ⟨by simp, Lib.cellsOf_set (by omega) rest⟩
    have FIN := hide fin
    clear fin
    by_cases hlt : done.length < N - 1
    · have hltz : ((done.length : Nat) : Int) < (N : Int) - 1 := by omega
      rcases Lib.indexB_cases rest ⟨#[44]⟩ with hix | ⟨i, hix, hroom⟩
      · have HX := hide hix
        clear hix
        go_wp2_with (go_at_call 241; refine (HI.out rest _).mono ?_; rintro e w' ⟨rfl, hw⟩; rw [hw, HX.out])
        go_ret
        obtain ⟨f1, f2⟩ := FIN.out (Lib.splitB_miss _ 0 _ rest HX.out)
        rw [f1, ← f2]
        exact ⟨by first | rfl | (congr 2 <;> omega), rfl⟩
      · have hroom1 : i + 1 ≤ rest.size := hroom
        have HX := hide hix
        clear hix hroom
        go_wp2_with (go_at_call 241; refine (HI.out rest _).mono ?_; rintro e w' ⟨rfl, hw⟩; rw [hw, HX.out])
        go_roundg (N - 1 - (done.length + 1))
        case measure => omega
        case rel =>
          refine ⟨done ++ [rest.extract 0 i], rest.extract (i + 1) rest.size, rfl, by simp, by simp; omega, by simp, by rw [ByteArray.size_extract]; omega, by rw [← Lib.cellsOf_set (by omega)], ?_⟩
          rw [← HS.out, show N - 1 - done.length = (N - 1 - (done.length + 1)) + 1 by omega, Lib.splitB_hit _ 0 _ rest i HX.out]
          simp
          rfl
    · have hltz : ¬ (((done.length : Nat) : Int) < (N : Int) - 1) := by omega
      go_wp2_with fail
      go_ret
      obtain ⟨f1, f2⟩ := FIN.out (by rw [show N - 1 - done.length = 0 by omega]; rfl)
      rw [f1, ← f2]
      exact ⟨by first | rfl | (congr 2 <;> omega), rfl⟩

/-- The pieces of a text: at most five, each no longer than it. -/
theorem splitN (s : ByteArray) (hs : s.size ≤ 140737488355328) (w : World) :
    Calls Tryz.prog 178 #[.string s, .string ⟨#[44]⟩, .int .i64 5] w fun e w' => ∃ (ps : List ByteArray) (N : Nat), ps.map B = spl 4 (B s) ∧ ps.length ≤ N ∧ N ≤ 5 ∧ (∀ x ∈ ps, x.size ≤ s.size) ∧ e = .returned (.slice (some ⟨w.heap.size, 0, none⟩) ps.length N) ∧ w' = w.alloc (.cells (Lib.cellsOf ps N) 9) := by
  have hc := genSplit s (min 5 (s.size + 1)) w hs rfl
  have HC := hide hc
  clear hc
  go_enter Tryz.func178, Tryz.ntmps178
  go_wp2_with (go_at_call 186; refine HC.out.mono ?_; rintro e w' ⟨rfl, hw⟩; rw [hw])
  go_ret
  refine ⟨_, _, ?_, ?_, ?_, fun x hx => splitB_size _ _ _ hx, rfl, rfl⟩
  · rw [splitB_spl, ← spl_min 4, ← size_B]
    congr 1
    omega
  · have := splitB_len (min 5 (s.size + 1) - 1) s
    omega
  · omega

end Go.Proofs.YtenegfafjjknoaaGreatDoor.Split
