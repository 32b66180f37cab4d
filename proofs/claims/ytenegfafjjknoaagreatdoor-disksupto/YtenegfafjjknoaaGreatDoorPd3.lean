/- deed: Sync. -/
import Derived.Test.YtenegfafjjknoaaGreatDoorPq
import Derived.Deep.DeepCutAuto
namespace Go.Proofs.YtenegfafjjknoaaGreatDoor.Pp
open Go.RowKit Mem Foot Dm Dh Dr

set_option maxRecDepth 10000 in
set_option maxHeartbeats 4000000 in
theorem deed_sync (px : Nat) (S : Dk) (p : PI) (c a b : Int) (t : ByteArray) (w : World) {K U : Nat} (hP : Pr w px S p) (hf : Fit S K U) (hK : K ≤ 100000000) (_hU : U + t.size ≤ 1000000000000) :
    Calls Tryz.prog 29 #[.pointer (some ⟨px, 0, none⟩), .agg #[.int .i64 c, .int .i64 3, .int .i64 a, .int .i64 b, .string t]] w fun e w' => e = .returned (.bool true) ∧ Off (foot px S p) w w' ∧ ∃ S' p', Pr w' px S' p' ∧ Fit S' (K + 1) (U + t.size) ∧ p'.vs.length ≤ p.vs.length + 1 ∧ ∀ k ∈ foot px S' p', k ∈ foot px S p ∨ w.heap.size ≤ k := by
  have HP := hide hP
  have HF := hide hf
  clear hP hf
  go_enter Tryz.func29, Tryz.ntmps29
  go_upto_region 10 with fail
  have HB1 := hide (below_new (w := w) (.cells #[.int .i64 c, .int .i64 3, .int .i64 a, .int .i64 b, .string t] 61))
  have HS1 := hide (Sits.new w 61 #[.int .i64 c, .int .i64 3, .int .i64 a, .int .i64 b, .string t])
  have HP1 := hide (HP.out.keep HB1.out)
  generalize w.alloc (.cells #[.int .i64 c, .int .i64 3, .int .i64 a, .int .i64 b, .string t] 61) = w1 at *
  obtain ⟨c0, c1, c2, c3, f0, f1, f2, f3⟩ := head4 HP1.out.head
  obtain ⟨b0, b1, b2, b3, b4⟩ := head5 HS1.out
  have HC := hide (px_sync (w := w1.drewN 1) (S := S) (HP1.out.pd.drewN 1) HF.out (Nat.le_trans hK (by decide)) a)
  go_cut [10] (fun sx wx => sx = .int .i64 (doSync S a).2 ∧ Hid (PX p (doSync S a).1 (w1.drewN 1) wx))
  case first =>
    go_region_with (go_at_call 50; refine HC.out.mono ?_; rintro e w2 ⟨rfl, hx2⟩)
    all_goals
      go_wp2_with fail
      go_meet
      exact ⟨rfl, hx2⟩
  case rest =>
  obtain ⟨rfl, HX2⟩ := hcut
  obtain ⟨hr2, hp2, hs2⟩ := (HP1.out.keep (w' := w1.drewN 1) (below_drewN' (Below.refl _ _))).behind HX2.out (bo := w.heap.size) (HS1.out.drewN 1)
  have HR2 := hide hr2
  clear c0 c1 c2 c3 f0 f1 f2 f3 b0 b1 b2 b3 b4 HC hr2
  obtain ⟨c0, c1, c2, c3, f0, f1, f2, f3⟩ := head4 hp2
  obtain ⟨b0, b1, b2, b3, b4⟩ := head5 hs2
  have HC := hide (rx_sync (w := wc.drewN 1) (S := S) (HR2.out.drewN 1) HF.out (Nat.le_trans hK (by decide)) a)
  clear hp2 hs2
  go_wp2_with fail
  go_region_with (first | (go_at_call 18; refine (Check.num _ _).mono ?_; rintro e w' ⟨rfl, rfl⟩) | (go_at_call 51; refine HC.out.mono ?_; rintro e w4 ⟨rfl, hx4⟩))
  all_goals
    have HX4 := hide hx4
    clear hx4
    go_wp2_with fail
    go_ret
    obtain ⟨h1, p', h2, h3, h4⟩ := HP.out.after (w := w1.drewN 1) (below_drewN' HB1.out) HX2.out 1 HX4.out
    exact ⟨rfl, h1, _, p', h2, (fit_sync HF.out a).more (by omega) (by omega), by rw [h3]; omega, h4⟩

end Go.Proofs.YtenegfafjjknoaaGreatDoor.Pp
