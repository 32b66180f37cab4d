/- The walks: what the program's Bucket, and the document's, answer at every number: one and the same bucket, and what it stands for (Bnd.IsB). -/
import Derived.Test.YtenegfafjjknoaaRows
import Derived.Test.YtenegfafjjknoaaBnd
import Derived.WalkKit
import Derived.WalkLawsBesides
import Derived.Handy
import Derived.Deep.QuietTactic
import Derived.BigQuiet
namespace Go.Proofs.Ytenegfafjjknoaa.Walks
open Go.RowKit Bnd

theorem grown_drewN (w : World) (n : Nat) : Grown w (w.drewN n) := by
  induction n with
  | zero => exact Grown.refl _
  | succ n ih => exact ih.drew

theorem nextBound (b : Int) (w : World) (h1 : 0 ≤ b) (h2 : b ≤ 1000000000) :
    Calls Try.prog 19 #[.int .i64 b] w fun e w' => e = .returned (.int .i64 (nxt b)) ∧ w = w' := by
  go_enter Try.func19, Try.ntmps19
  go_wp2
  · have hm : b + 1 = nxt b := by
      unfold nxt
      omega
    go_ret
    exact ⟨congrArg (fun z => Ending.returned (.int .i64 z)) hm, rfl⟩
  · have hm : 51 * b / 49 = nxt b := by
      unfold nxt
      omega
    go_ret
    exact ⟨congrArg (fun z => Ending.returned (.int .i64 z)) hm, rfl⟩

theorem standsFor (l h : Int) (w : World) (h1 : 0 ≤ l) (h2 : l ≤ 1000000000) (h3 : 1 ≤ h) (h4 : h ≤ 2000000000) :
    Calls Try.prog 20 #[.int .i64 l, .int .i64 h] w fun e w' => e = .returned (.int .i64 (stand l h)) ∧ w = w' := by
  obtain ⟨r1, r2⟩ := stand_room h1 h2 (by omega : 0 ≤ h) h4
  go_enter Try.func20, Try.ntmps20
  go_wp2
  go_ret
  exact ⟨rfl, rfl⟩

theorem refBucket (v : Int) (w : World) :
    Calls Try.prog 7 #[.int .i64 v] w fun e w' => (∃ n s, e = .returned (.tuple #[.int .i64 n, .int .i64 s]) ∧ IsB v n s) ∧ Grown w w' := by
  by_cases c0 : v < 0
  · go_enter Try.func7, Try.ntmps7
    go_wp2
    go_ret2
    exact ⟨⟨_, _, rfl, Or.inl ⟨Or.inl c0, rfl, rfl⟩⟩, Grown.refl _⟩
  · by_cases c1 : 1000000000 < v
    · go_enter Try.func7, Try.ntmps7
      go_wp2
      go_ret2
      exact ⟨⟨_, _, rfl, Or.inl ⟨Or.inr c1, rfl, rfl⟩⟩, Grown.refl _⟩
    · go_enter Try.func7, Try.ntmps7
      go_wp2
      go_loop [4, 5, 6] (fun lo hi n => ∃ (l h : Int) (k : Nat), lo = .int .i64 l ∧ hi = .int .i64 h ∧ n = .int .i64 k ∧ 0 ≤ l ∧ l ≤ v ∧ l < h ∧ h ≤ 2000000000 ∧ (k : Int) ≤ l ∧ Hid (l = bnd k ∧ h = bnd (k + 1)))
        (fun _ hi _ => (v + 1 - intOf hi).toNat)
      case atStart => exact ⟨0, 1, 0, rfl, rfl, rfl, by omega, by omega, by omega, by omega, by omega, ⟨rfl, rfl⟩⟩
      case round =>
        obtain ⟨l, h, k, rfl, rfl, rfl, p1, p2, p3, p4, p5, HD⟩ := hrel
        have r1 : l ≤ 1000000000 := by omega
        obtain ⟨q1, q2⟩ := stand_room p1 r1 (by omega : 0 ≤ h) p4
        go_wp2
        · have t1 : h ≤ v := by assumption
          have t2 : 51 * h / 49 ≤ h := by assumption
          have hn : h + 1 = nxt h := by
            unfold nxt
            omega
          go_round
          case rel => exact ⟨h, h + 1, k + 1, rfl, rfl, by go_num, by omega, t1, by omega, by omega, by omega, ⟨HD.out.2, by rw [hn, HD.out.2]; rfl⟩⟩
          case measure => simp only [intOf]; omega
        · have t1 : h ≤ v := by assumption
          have t2 : h < 51 * h / 49 := by assumption
          have hn : 51 * h / 49 = nxt h := by
            unfold nxt
            omega
          go_round
          case rel => exact ⟨h, 51 * h / 49, k + 1, rfl, rfl, by go_num, by omega, t1, by omega, by omega, by omega, ⟨HD.out.2, by rw [hn, HD.out.2]; rfl⟩⟩
          case measure => simp only [intOf]; omega
        · have t1 : v < h := by assumption
          go_quiet (fail)
          go_wp2
          go_ret2
          refine ⟨⟨_, _, rfl, Or.inr ⟨by omega, by omega, k, rfl, ?_, ?_, ?_⟩⟩, ?_⟩
          · rw [← HD.out.1]
            exact p2
          · rw [← HD.out.2]
            exact t1
          · rw [← HD.out.1, ← HD.out.2]
            rfl
          · exact grown_drewN _ _

theorem skBucket (v : Int) (w : World) :
    Calls Try.prog 14 #[.int .i64 v] w fun e w' => (∃ n s, e = .returned (.tuple #[.int .i64 n, .int .i64 s]) ∧ IsB v n s) ∧ w = w' := by
  by_cases c0 : v < 0
  · go_enter Try.func14, Try.ntmps14
    go_wp2
    go_ret2
    exact ⟨⟨_, _, rfl, Or.inl ⟨Or.inl c0, rfl, rfl⟩⟩, rfl⟩
  · by_cases c1 : 1000000000 < v
    · go_enter Try.func14, Try.ntmps14
      go_wp2
      go_ret2
      exact ⟨⟨_, _, rfl, Or.inl ⟨Or.inr c1, rfl, rfl⟩⟩, rfl⟩
    · go_enter Try.func14, Try.ntmps14
      go_wp2
      go_loop [4, 5, 6] (fun n lo hi => ∃ (l h : Int) (k : Nat), lo = .int .i64 l ∧ hi = .int .i64 h ∧ n = .int .i64 k ∧ 0 ≤ l ∧ l ≤ v ∧ l < h ∧ h ≤ 2000000000 ∧ (k : Int) ≤ l ∧ Hid (l = bnd k ∧ h = bnd (k + 1)))
        (fun _ _ hi => (v + 1 - intOf hi).toNat)
      case atStart => exact ⟨0, 1, 0, rfl, rfl, rfl, by omega, by omega, by omega, by omega, by omega, ⟨rfl, rfl⟩⟩
      case round =>
        obtain ⟨l, h, k, rfl, rfl, rfl, p1, p2, p3, p4, p5, HD⟩ := hrel
        have r1 : l ≤ 1000000000 := by omega
        go_wp2_with (first
          | (go_at_call 19; refine (nextBound h _ (by omega) (by omega)).mono ?_; rintro e w' ⟨rfl, rfl⟩)
          | (go_at_call 20; refine (standsFor l h _ (by omega) (by omega) (by omega) (by omega)).mono ?_; rintro e w' ⟨rfl, rfl⟩))
        · have t1 : h ≤ v := by assumption
          have hn := nxt_gt h
          have hr := nxt_room (b := h) (by omega) (by omega)
          go_round
          case rel => exact ⟨h, nxt h, k + 1, rfl, rfl, by go_num, by omega, t1, by omega, by omega, by omega, ⟨HD.out.2, by rw [HD.out.2]; rfl⟩⟩
          case measure => simp only [intOf]; omega
        · have t1 : v < h := by assumption
          go_ret2
          refine ⟨⟨_, _, rfl, Or.inr ⟨by omega, by omega, k, rfl, ?_, ?_, ?_⟩⟩, ?_⟩
          · rw [← HD.out.1]
            exact p2
          · rw [← HD.out.2]
            exact t1
          · rw [← HD.out.1, ← HD.out.2]
          · rfl

theorem bucket (v : Int) (w : World) :
    Calls Try.prog 6 #[.int .i64 v] w fun e w' => (∃ n s, e = .returned (.tuple #[.int .i64 n, .int .i64 s]) ∧ IsB v n s) ∧ w = w' := by
  go_enter Try.func6, Try.ntmps6
  go_wp2_with (go_at_call 14; refine (skBucket v _).mono ?_; rintro e w' ⟨⟨n, s, rfl, hb⟩, rfl⟩)
  go_ret2
  exact ⟨⟨_, _, rfl, hb⟩, rfl⟩

end Go.Proofs.Ytenegfafjjknoaa.Walks
