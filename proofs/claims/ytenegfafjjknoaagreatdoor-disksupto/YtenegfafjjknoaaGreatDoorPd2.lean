/- deed: Read, List, nothing. -/
import Derived.Test.YtenegfafjjknoaaGreatDoorPq
import Derived.Deep.DeepCutAuto
namespace Go.Proofs.YtenegfafjjknoaaGreatDoor.Pp
open Go.RowKit Mem Foot Dm Dh Dr

set_option maxRecDepth 10000 in
set_option maxHeartbeats 4000000 in
theorem deed_read (px : Nat) (S : Dk) (p : PI) (c a b : Int) (t : ByteArray) (w : World) {K U : Nat} (hP : Pr w px S p) (hf : Fit S K U) (hK : K ≤ 100000000) (_hU : U + t.size ≤ 1000000000000) :
    Calls Tryz.prog 29 #[.pointer (some ⟨px, 0, none⟩), .agg #[.int .i64 c, .int .i64 2, .int .i64 a, .int .i64 b, .string t]] w fun e w' => e = .returned (.bool true) ∧ Off (foot px S p) w w' ∧ ∃ S' p', Pr w' px S' p' ∧ Fit S' (K + 1) (U + t.size) ∧ p'.vs.length ≤ p.vs.length + 1 ∧ ∀ k ∈ foot px S' p', k ∈ foot px S p ∨ w.heap.size ≤ k := by
  have HP := hide hP
  have HF := hide hf
  clear hP hf
  go_enter Tryz.func29, Tryz.ntmps29
  go_wp2_with fail
  have HB1 := hide (below_new (w := w) (.cells #[.int .i64 c, .int .i64 2, .int .i64 a, .int .i64 b, .string t] 61))
  have HS1 := hide (Sits.new w 61 #[.int .i64 c, .int .i64 2, .int .i64 a, .int .i64 b, .string t])
  have HP1 := hide (HP.out.keep HB1.out)
  generalize w.alloc (.cells #[.int .i64 c, .int .i64 2, .int .i64 a, .int .i64 b, .string t] 61) = w1 at *
  obtain ⟨c0, c1, c2, c3, f0, f1, f2, f3⟩ := head4 HP1.out.head
  obtain ⟨b0, b1, b2, b3, b4⟩ := head5 HS1.out
  have hbl : p.bs.length ≤ 1000000000 := by have := HP1.out.pd.len; have := HF.out.len; omega
  have hsl : S.segs.length ≤ 1000000000 := by have := HF.out.len; omega
  have HC := hide (Dh.read p.bx p.ba p.cap p.bs S a (w1.drewN 1) (HP1.out.pd.drewN 1) hbl)
  have HD := hide (Dr.read p.dx p.da p.dcap S a ((w1.drewN 1).drewN 1) ((HP1.out.rd.drewN 1).drewN 1) hsl)
  generalize (doRead S a).1 = rt at *
  generalize (doRead S a).2 = rc at *
  go_region_with (go_at_call 48; refine HC.out.mono ?_; rintro e w2 ⟨rfl, rfl⟩)
  all_goals
    go_wp2_with fail
    go_region_with (go_at_call 49; refine HD.out.mono ?_; rintro e w2 ⟨rfl, rfl⟩)
    all_goals
      go_wp2_with (go_at_call 18; refine (Check.num _ _).mono ?_; rintro e w' ⟨rfl, rfl⟩)
      all_goals
        go_ret
        have hb2 := below_drewN' (n := 2) HB1.out
        exact ⟨rfl, Off.of_below hb2, S, p, HP.out.keep hb2, HF.out.more (by omega) (by omega), by omega, fun _ h => Or.inl h⟩

set_option maxRecDepth 10000 in
set_option maxHeartbeats 4000000 in
theorem deed_list (px : Nat) (S : Dk) (p : PI) (c a b : Int) (t : ByteArray) (w : World) {K U : Nat} (hP : Pr w px S p) (hf : Fit S K U) (hK : K ≤ 100000000) (_hU : U + t.size ≤ 1000000000000) (hv : p.vs.length ≤ 100000000) :
    Calls Tryz.prog 29 #[.pointer (some ⟨px, 0, none⟩), .agg #[.int .i64 c, .int .i64 6, .int .i64 a, .int .i64 b, .string t]] w fun e w' => e = .returned (.bool true) ∧ Off (foot px S p) w w' ∧ ∃ S' p', Pr w' px S' p' ∧ Fit S' (K + 1) (U + t.size) ∧ p'.vs.length ≤ p.vs.length + 1 ∧ ∀ k ∈ foot px S' p', k ∈ foot px S p ∨ w.heap.size ≤ k := by
  have HP := hide hP
  have HF := hide hf
  clear hP hf
  go_enter Tryz.func29, Tryz.ntmps29
  go_wp2_with fail
  have HB1 := hide (below_new (w := w) (.cells #[.int .i64 c, .int .i64 6, .int .i64 a, .int .i64 b, .string t] 61))
  have HS1 := hide (Sits.new w 61 #[.int .i64 c, .int .i64 6, .int .i64 a, .int .i64 b, .string t])
  have HP1 := hide (HP.out.keep HB1.out)
  generalize w.alloc (.cells #[.int .i64 c, .int .i64 6, .int .i64 a, .int .i64 b, .string t] 61) = w1 at *
  obtain ⟨c0, c1, c2, c3, f0, f1, f2, f3⟩ := head4 HP1.out.head
  obtain ⟨b0, b1, b2, b3, b4⟩ := head5 HS1.out
  refine (listed px S p w1 HP1.out (Nat.le_trans HF.out.len hK) hv).mono ?_
  rintro e w2 ⟨rfl, ho, p', h1, h2, h3⟩
  have HE := hide (show Off (foot px S p) w w2 ∧ ∃ S' p', Pr w2 px S' p' ∧ Fit S' (K + 1) (U + t.size) ∧ p'.vs.length ≤ p.vs.length + 1 ∧ ∀ k ∈ foot px S' p', k ∈ foot px S p ∨ w.heap.size ≤ k from ⟨off_more (Off.of_below HB1.out) ho fun k hk => Or.inl hk, S, p', h1, HF.out.more (by omega) (by omega), by omega, fun k hk => (h3 k hk).imp id (Nat.le_trans HB1.out.size)⟩)
  clear ho h1 h2 h3
  go_wp2_with fail
  go_ret
  exact ⟨rfl, HE.out⟩

set_option maxRecDepth 10000 in
set_option maxHeartbeats 4000000 in
theorem deed_none (px : Nat) (S : Dk) (p : PI) (c a b : Int) (t : ByteArray) (w : World) {K U : Nat} (hP : Pr w px S p) (hf : Fit S K U) (_hK : K ≤ 100000000) (_hU : U + t.size ≤ 1000000000000) (d : Int) (h1 : d ≠ 1) (h2 : d ≠ 2) (h3 : d ≠ 3) (h4 : d ≠ 4) (h5 : d ≠ 5) (h6 : d ≠ 6) (h7 : d ≠ 7) (h8 : d ≠ 8) :
    Calls Tryz.prog 29 #[.pointer (some ⟨px, 0, none⟩), .agg #[.int .i64 c, .int .i64 d, .int .i64 a, .int .i64 b, .string t]] w fun e w' => e = .returned (.bool true) ∧ Off (foot px S p) w w' ∧ ∃ S' p', Pr w' px S' p' ∧ Fit S' (K + 1) (U + t.size) ∧ p'.vs.length ≤ p.vs.length + 1 ∧ ∀ k ∈ foot px S' p', k ∈ foot px S p ∨ w.heap.size ≤ k := by
  have e1 : (d == 1) = false := by simpa using h1
  have e2 : (d == 2) = false := by simpa using h2
  have e3 : (d == 3) = false := by simpa using h3
  have e4 : (d == 4) = false := by simpa using h4
  have e5 : (d == 5) = false := by simpa using h5
  have e6 : (d == 6) = false := by simpa using h6
  have e7 : (d == 7) = false := by simpa using h7
  have e8 : (d == 8) = false := by simpa using h8
  have HP := hide hP
  have HF := hide hf
  clear hP hf h1 h2 h3 h4 h5 h6 h7 h8
  go_enter Tryz.func29, Tryz.ntmps29
  go_wp2_with fail
  go_ret
  have hb := below_new (w := w) (.cells #[.int .i64 c, .int .i64 d, .int .i64 a, .int .i64 b, .string t] 61)
  exact ⟨rfl, Off.of_below hb, S, p, HP.out.keep hb, HF.out.more (by omega) (by omega), by omega, fun _ h => Or.inl h⟩

end Go.Proofs.YtenegfafjjknoaaGreatDoor.Pp
