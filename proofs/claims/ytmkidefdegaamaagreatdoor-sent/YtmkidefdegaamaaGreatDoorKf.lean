/- Configurations out of any numbers (the laws' own). -/
import Derived.Test.YtmkidefdegaamaaGreatDoorWzy
namespace Go.Proofs.YtmkidefdegaamaaGreatDoor.Kf
open Go.RowKit Mem Foot Wi
def pk (c n : Int) : Int := (if c < 0 then -(c + 1) else c) % n
def wi (v lo hi : Int) : Int := if lo ≤ v ∧ v ≤ hi then v else lo + pk v (hi - lo + 1)
theorem pk_range {c n : Int} (h : 0 < n) : 0 ≤ pk c n ∧ pk c n < n := by
  unfold pk
  exact ⟨Int.emod_nonneg _ (by omega), Int.emod_lt_of_pos _ h⟩
theorem wi_range {v lo hi : Int} (h : lo ≤ hi) : lo ≤ wi v lo hi ∧ wi v lo hi ≤ hi := by
  unfold wi
  split
  · omega
  · have := pk_range (c := v) (n := hi - lo + 1) (by omega)
    omega
theorem pickW (c n : Int) (h0 : -9223372036854775808 ≤ c) (h1 : c ≤ 9223372036854775807) (hn0 : 0 < n) (hn1 : n ≤ 1000000000000) (w : World) :
    Calls Tryz.prog 17 #[.int .i64 c, .int .i64 n] w fun e w' => e = .returned (.int .i64 (pk c n)) ∧ w' = w := by
  by_cases h : c < 0
  · have e : pk c n = -((c + 1).tmod n) := by
      unfold pk
      rw [if_pos h, ← Int.neg_tmod, Int.tmod_eq_emod_of_nonneg (by omega)]
    have hm : 0 ≤ -((c + 1).tmod n) ∧ -((c + 1).tmod n) < n := by
      rw [← e]
      exact pk_range hn0
    rw [e]
    clear e
    go_enter Tryz.func17, Tryz.ntmps17
    go_wp2_with fail
    go_ret
    exact ⟨rfl, rfl⟩
  · have e : pk c n = c % n := by
      unfold pk
      rw [if_neg h]
    have hm : 0 ≤ c % n ∧ c % n < n := by
      rw [← e]
      exact pk_range hn0
    rw [e]
    clear e
    go_enter Tryz.func17, Tryz.ntmps17
    go_wp2_with fail
    go_ret
    exact ⟨rfl, rfl⟩
theorem withinW (v lo hi : Int) (h0 : -9223372036854775808 ≤ v) (h1 : v ≤ 9223372036854775807) (hl : 0 ≤ lo) (hh : lo ≤ hi) (hm : hi ≤ 1000000) (w : World) :
    Calls Tryz.prog 21 #[.int .i64 v, .int .i64 lo, .int .i64 hi] w fun e w' => e = .returned (.int .i64 (wi v lo hi)) ∧ w' = w := by
  have hp := pickW v (hi - lo + 1) h0 h1 (by omega) (by omega)
  have hr := pk_range (c := v) (n := hi - lo + 1) (by omega)
  by_cases h : lo ≤ v
  · by_cases h2 : v ≤ hi
    · have e : wi v lo hi = v := by rw [wi, if_pos ⟨h, h2⟩]
      rw [e]
      go_enter Tryz.func21, Tryz.ntmps21
      go_wp2_with fail
      go_ret
      exact ⟨rfl, rfl⟩
    · have e : wi v lo hi = lo + pk v (hi - lo + 1) := by rw [wi, if_neg (fun h => h2 h.2)]
      rw [e]
      generalize pk v (hi - lo + 1) = q at *
      clear e
      go_enter Tryz.func21, Tryz.ntmps21
      go_wp2_with fail
      refine (hp w).mono ?_
      rintro e w' ⟨rfl, rfl⟩
      go_wp2_with fail
      go_ret
      exact ⟨rfl, rfl⟩
  · have e : wi v lo hi = lo + pk v (hi - lo + 1) := by rw [wi, if_neg (fun h3 => h h3.1)]
    rw [e]
    generalize pk v (hi - lo + 1) = q at *
    clear e
    go_enter Tryz.func21, Tryz.ntmps21
    go_wp2_with fail
    refine (hp w).mono ?_
    rintro e w' ⟨rfl, rfl⟩
    go_wp2_with fail
    go_ret
    exact ⟨rfl, rfl⟩
def fitc (c : Fin 6 → Int) : Fin 6 → Int
  | 0 => wi (c 0) 1 1000
  | 1 => wi (c 1) 1 32
  | 2 => wi (c 2) 1 16
  | 3 => wi (c 3) 2 64
  | 4 => wi (c 4) 1 16
  | 5 => wi (c 5) 64 4096
theorem fit_ok (c : Fin 6 → Int) : COk (fitc c) :=
  ⟨wi_range (by omega), wi_range (by omega), wi_range (by omega), wi_range (by omega), wi_range (by omega), wi_range (by omega)⟩
set_option maxRecDepth 10000 in
set_option maxHeartbeats 2000000 in
theorem fitW (c : Fin 6 → Int) (hc : ∀ i, -9223372036854775808 ≤ c i ∧ c i ≤ 9223372036854775807) (w : World) :
    Calls Tryz.prog 5 #[Hn.cfg c] w fun e w' => e = .returned (Hn.cfg (fitc c)) ∧ Below w.heap.size w w' := by
  have h0 := withinW (c 0) 1 1000 (hc 0).1 (hc 0).2 (by omega) (by omega) (by omega)
  have h1 := withinW (c 1) 1 32 (hc 1).1 (hc 1).2 (by omega) (by omega) (by omega)
  have h2 := withinW (c 2) 1 16 (hc 2).1 (hc 2).2 (by omega) (by omega) (by omega)
  have h3 := withinW (c 3) 2 64 (hc 3).1 (hc 3).2 (by omega) (by omega) (by omega)
  have h4 := withinW (c 4) 1 16 (hc 4).1 (hc 4).2 (by omega) (by omega) (by omega)
  have h5 := withinW (c 5) 64 4096 (hc 5).1 (hc 5).2 (by omega) (by omega) (by omega)
  show Calls _ _ _ _ fun e w' => e = .returned (.agg #[.int .i64 (wi (c 0) 1 1000), .int .i64 (wi (c 1) 1 32), .int .i64 (wi (c 2) 1 16), .int .i64 (wi (c 3) 2 64), .int .i64 (wi (c 4) 1 16), .int .i64 (wi (c 5) 64 4096)]) ∧ _
  unfold Hn.cfg
  generalize wi (c 0) 1 1000 = d0 at *
  generalize wi (c 1) 1 32 = d1 at *
  generalize wi (c 2) 1 16 = d2 at *
  generalize wi (c 3) 2 64 = d3 at *
  generalize wi (c 4) 1 16 = d4 at *
  generalize wi (c 5) 64 4096 = d5 at *
  have H0 := hide h0
  have H1 := hide h1
  have H2 := hide h2
  have H3 := hide h3
  have H4 := hide h4
  have H5 := hide h5
  clear h0 h1 h2 h3 h4 h5 hc
  have hS0 := Sits.new w 23 #[.int .i64 (c 0), .int .i64 (c 1), .int .i64 (c 2), .int .i64 (c 3), .int .i64 (c 4), .int .i64 (c 5)]
  have hZ0 := Sits.new (w.alloc (.cells #[.int .i64 (c 0), .int .i64 (c 1), .int .i64 (c 2), .int .i64 (c 3), .int .i64 (c 4), .int .i64 (c 5)] 23)) 23 #[.int .i64 0, .int .i64 0, .int .i64 0, .int .i64 0, .int .i64 0, .int .i64 0]
  have hS1 := hS0.alloc (.cells #[.int .i64 0, .int .i64 0, .int .i64 0, .int .i64 0, .int .i64 0, .int .i64 0] 23)
  have HB := hide (((below_new (w := w) (.cells #[.int .i64 (c 0), .int .i64 (c 1), .int .i64 (c 2), .int .i64 (c 3), .int .i64 (c 4), .int .i64 (c 5)] 23))).alloc (by simp) (.cells #[.int .i64 0, .int .i64 0, .int .i64 0, .int .i64 0, .int .i64 0, .int .i64 0] 23))
  rw [World.size_alloc] at hZ0
  clear hS0
  have HS0 := hide hS1
  have HZ0 := hide hZ0
  clear hS1 hZ0
  go_enter Tryz.func5, Tryz.ntmps5
  go_wp2_with fail
  generalize (w.alloc (.cells #[.int .i64 (c 0), .int .i64 (c 1), .int .i64 (c 2), .int .i64 (c 3), .int .i64 (c 4), .int .i64 (c 5)] 23)).alloc (.cells #[.int .i64 0, .int .i64 0, .int .i64 0, .int .i64 0, .int .i64 0, .int .i64 0] 23) = w0 at *
  obtain ⟨B, hB⟩ : ∃ B, w.heap.size = B := ⟨_, rfl⟩
  rw [hB] at HS0 HZ0
  rw [hB]
  have HBE := hide hB
  clear hB
  have HB0 := hide (show Below B w w0 by rw [← HBE.out]; exact HB.out)
  have HS1 := hide (show Sits (w0.setCell ⟨B, 0, none⟩ (.int .i64 d0)) B 23 #[.int .i64 (d0), .int .i64 (c 1), .int .i64 (c 2), .int .i64 (c 3), .int .i64 (c 4), .int .i64 (c 5)] from HS0.out.set 0 (.int .i64 d0))
  have HZ1 := hide (show Sits (w0.setCell ⟨B, 0, none⟩ (.int .i64 d0)) (B + 1) 23 #[.int .i64 0, .int .i64 0, .int .i64 0, .int .i64 0, .int .i64 0, .int .i64 0] from (Below.heap_setCell _ _ _ _ (by simp)).trans HZ0.out)
  have HB1 := hide (show Below B w (w0.setCell ⟨B, 0, none⟩ (.int .i64 d0)) from HB0.out.setCell (p := ⟨B, 0, none⟩) (Nat.le_refl _) _)
  have a0 : w0.cell? ⟨B, 0, none⟩ = some (.int .i64 (c 0)) := HS0.out.cell 0 _ rfl
  have f0 := HS0.out.frozen 0
  have e0 : (w0.setCell ⟨B, 0, none⟩ (.int .i64 d0)).cell? ⟨B, 1, none⟩ = some (.int .i64 (c 1)) := HS1.out.cell 1 _ rfl
  refine (H0.out _).mono ?_
  rintro e w' ⟨rfl, hw'⟩
  subst w'
  go_wp2_with fail
  clear a0 f0 e0
  generalize w0.setCell ⟨B, 0, none⟩ (.int .i64 d0) = w1 at *
  have HS2 := hide (show Sits (w1.setCell ⟨B, 1, none⟩ (.int .i64 d1)) B 23 #[.int .i64 (d0), .int .i64 (d1), .int .i64 (c 2), .int .i64 (c 3), .int .i64 (c 4), .int .i64 (c 5)] from HS1.out.set 1 (.int .i64 d1))
  have HZ2 := hide (show Sits (w1.setCell ⟨B, 1, none⟩ (.int .i64 d1)) (B + 1) 23 #[.int .i64 0, .int .i64 0, .int .i64 0, .int .i64 0, .int .i64 0, .int .i64 0] from (Below.heap_setCell _ _ _ _ (by simp)).trans HZ1.out)
  have HB2 := hide (show Below B w (w1.setCell ⟨B, 1, none⟩ (.int .i64 d1)) from HB1.out.setCell (p := ⟨B, 1, none⟩) (Nat.le_refl _) _)
  have a1 : w1.cell? ⟨B, 1, none⟩ = some (.int .i64 (c 1)) := HS1.out.cell 1 _ rfl
  have f1 := HS1.out.frozen 1
  have e1 : (w1.setCell ⟨B, 1, none⟩ (.int .i64 d1)).cell? ⟨B, 2, none⟩ = some (.int .i64 (c 2)) := HS2.out.cell 2 _ rfl
  refine (H1.out _).mono ?_
  rintro e w' ⟨rfl, hw'⟩
  subst w'
  go_wp2_with fail
  clear a1 f1 e1
  generalize w1.setCell ⟨B, 1, none⟩ (.int .i64 d1) = w2 at *
  have HS3 := hide (show Sits (w2.setCell ⟨B, 2, none⟩ (.int .i64 d2)) B 23 #[.int .i64 (d0), .int .i64 (d1), .int .i64 (d2), .int .i64 (c 3), .int .i64 (c 4), .int .i64 (c 5)] from HS2.out.set 2 (.int .i64 d2))
  have HZ3 := hide (show Sits (w2.setCell ⟨B, 2, none⟩ (.int .i64 d2)) (B + 1) 23 #[.int .i64 0, .int .i64 0, .int .i64 0, .int .i64 0, .int .i64 0, .int .i64 0] from (Below.heap_setCell _ _ _ _ (by simp)).trans HZ2.out)
  have HB3 := hide (show Below B w (w2.setCell ⟨B, 2, none⟩ (.int .i64 d2)) from HB2.out.setCell (p := ⟨B, 2, none⟩) (Nat.le_refl _) _)
  have a2 : w2.cell? ⟨B, 2, none⟩ = some (.int .i64 (c 2)) := HS2.out.cell 2 _ rfl
  have f2 := HS2.out.frozen 2
  have e2 : (w2.setCell ⟨B, 2, none⟩ (.int .i64 d2)).cell? ⟨B, 3, none⟩ = some (.int .i64 (c 3)) := HS3.out.cell 3 _ rfl
  refine (H2.out _).mono ?_
  rintro e w' ⟨rfl, hw'⟩
  subst w'
  go_wp2_with fail
  clear a2 f2 e2
  generalize w2.setCell ⟨B, 2, none⟩ (.int .i64 d2) = w3 at *
  have HS4 := hide (show Sits (w3.setCell ⟨B, 3, none⟩ (.int .i64 d3)) B 23 #[.int .i64 (d0), .int .i64 (d1), .int .i64 (d2), .int .i64 (d3), .int .i64 (c 4), .int .i64 (c 5)] from HS3.out.set 3 (.int .i64 d3))
  have HZ4 := hide (show Sits (w3.setCell ⟨B, 3, none⟩ (.int .i64 d3)) (B + 1) 23 #[.int .i64 0, .int .i64 0, .int .i64 0, .int .i64 0, .int .i64 0, .int .i64 0] from (Below.heap_setCell _ _ _ _ (by simp)).trans HZ3.out)
  have HB4 := hide (show Below B w (w3.setCell ⟨B, 3, none⟩ (.int .i64 d3)) from HB3.out.setCell (p := ⟨B, 3, none⟩) (Nat.le_refl _) _)
  have a3 : w3.cell? ⟨B, 3, none⟩ = some (.int .i64 (c 3)) := HS3.out.cell 3 _ rfl
  have f3 := HS3.out.frozen 3
  have e3 : (w3.setCell ⟨B, 3, none⟩ (.int .i64 d3)).cell? ⟨B, 4, none⟩ = some (.int .i64 (c 4)) := HS4.out.cell 4 _ rfl
  refine (H3.out _).mono ?_
  rintro e w' ⟨rfl, hw'⟩
  subst w'
  go_wp2_with fail
  clear a3 f3 e3
  generalize w3.setCell ⟨B, 3, none⟩ (.int .i64 d3) = w4 at *
  have HS5 := hide (show Sits (w4.setCell ⟨B, 4, none⟩ (.int .i64 d4)) B 23 #[.int .i64 (d0), .int .i64 (d1), .int .i64 (d2), .int .i64 (d3), .int .i64 (d4), .int .i64 (c 5)] from HS4.out.set 4 (.int .i64 d4))
  have HZ5 := hide (show Sits (w4.setCell ⟨B, 4, none⟩ (.int .i64 d4)) (B + 1) 23 #[.int .i64 0, .int .i64 0, .int .i64 0, .int .i64 0, .int .i64 0, .int .i64 0] from (Below.heap_setCell _ _ _ _ (by simp)).trans HZ4.out)
  have HB5 := hide (show Below B w (w4.setCell ⟨B, 4, none⟩ (.int .i64 d4)) from HB4.out.setCell (p := ⟨B, 4, none⟩) (Nat.le_refl _) _)
  have a4 : w4.cell? ⟨B, 4, none⟩ = some (.int .i64 (c 4)) := HS4.out.cell 4 _ rfl
  have f4 := HS4.out.frozen 4
  have e4 : (w4.setCell ⟨B, 4, none⟩ (.int .i64 d4)).cell? ⟨B, 5, none⟩ = some (.int .i64 (c 5)) := HS5.out.cell 5 _ rfl
  refine (H4.out _).mono ?_
  rintro e w' ⟨rfl, hw'⟩
  subst w'
  go_wp2_with fail
  clear a4 f4 e4
  generalize w4.setCell ⟨B, 4, none⟩ (.int .i64 d4) = w5 at *
  have HS6 := hide (show Sits (w5.setCell ⟨B, 5, none⟩ (.int .i64 d5)) B 23 #[.int .i64 (d0), .int .i64 (d1), .int .i64 (d2), .int .i64 (d3), .int .i64 (d4), .int .i64 (d5)] from HS5.out.set 5 (.int .i64 d5))
  have HZ6 := hide (show Sits (w5.setCell ⟨B, 5, none⟩ (.int .i64 d5)) (B + 1) 23 #[.int .i64 0, .int .i64 0, .int .i64 0, .int .i64 0, .int .i64 0, .int .i64 0] from (Below.heap_setCell _ _ _ _ (by simp)).trans HZ5.out)
  have HB6 := hide (show Below B w (w5.setCell ⟨B, 5, none⟩ (.int .i64 d5)) from HB5.out.setCell (p := ⟨B, 5, none⟩) (Nat.le_refl _) _)
  have a5 : w5.cell? ⟨B, 5, none⟩ = some (.int .i64 (c 5)) := HS5.out.cell 5 _ rfl
  have f5 := HS5.out.frozen 5
  have g0 : (w5.setCell ⟨B, 5, none⟩ (.int .i64 d5)).cell? ⟨B, 0, none⟩ = some (.int .i64 d0) := HS6.out.cell 0 _ rfl
  have q0 := HZ6.out.frozen 0
  have y0 : (w5.setCell ⟨B, 5, none⟩ (.int .i64 d5)).cell? ⟨B + 1, 0, none⟩ = some (.int .i64 0) := HZ6.out.cell 0 _ rfl
  have g1 : (w5.setCell ⟨B, 5, none⟩ (.int .i64 d5)).cell? ⟨B, 1, none⟩ = some (.int .i64 d1) := HS6.out.cell 1 _ rfl
  have q1 := HZ6.out.frozen 1
  have y1 : (w5.setCell ⟨B, 5, none⟩ (.int .i64 d5)).cell? ⟨B + 1, 1, none⟩ = some (.int .i64 0) := HZ6.out.cell 1 _ rfl
  have g2 : (w5.setCell ⟨B, 5, none⟩ (.int .i64 d5)).cell? ⟨B, 2, none⟩ = some (.int .i64 d2) := HS6.out.cell 2 _ rfl
  have q2 := HZ6.out.frozen 2
  have y2 : (w5.setCell ⟨B, 5, none⟩ (.int .i64 d5)).cell? ⟨B + 1, 2, none⟩ = some (.int .i64 0) := HZ6.out.cell 2 _ rfl
  have g3 : (w5.setCell ⟨B, 5, none⟩ (.int .i64 d5)).cell? ⟨B, 3, none⟩ = some (.int .i64 d3) := HS6.out.cell 3 _ rfl
  have q3 := HZ6.out.frozen 3
  have y3 : (w5.setCell ⟨B, 5, none⟩ (.int .i64 d5)).cell? ⟨B + 1, 3, none⟩ = some (.int .i64 0) := HZ6.out.cell 3 _ rfl
  have g4 : (w5.setCell ⟨B, 5, none⟩ (.int .i64 d5)).cell? ⟨B, 4, none⟩ = some (.int .i64 d4) := HS6.out.cell 4 _ rfl
  have q4 := HZ6.out.frozen 4
  have y4 : (w5.setCell ⟨B, 5, none⟩ (.int .i64 d5)).cell? ⟨B + 1, 4, none⟩ = some (.int .i64 0) := HZ6.out.cell 4 _ rfl
  have g5 : (w5.setCell ⟨B, 5, none⟩ (.int .i64 d5)).cell? ⟨B, 5, none⟩ = some (.int .i64 d5) := HS6.out.cell 5 _ rfl
  have q5 := HZ6.out.frozen 5
  have y5 : (w5.setCell ⟨B, 5, none⟩ (.int .i64 d5)).cell? ⟨B + 1, 5, none⟩ = some (.int .i64 0) := HZ6.out.cell 5 _ rfl
  refine (H5.out _).mono ?_
  rintro e w' ⟨rfl, hw'⟩
  subst w'
  go_wp2_with fail
  have HFZ := hide (show Sits (((((((w5.setCell ⟨B, 5, none⟩ (.int .i64 d5)).setCell ⟨B + 1, 0, none⟩ (.int .i64 d0)).setCell ⟨B + 1, 1, none⟩ (.int .i64 d1)).setCell ⟨B + 1, 2, none⟩ (.int .i64 d2)).setCell ⟨B + 1, 3, none⟩ (.int .i64 d3)).setCell ⟨B + 1, 4, none⟩ (.int .i64 d4)).setCell ⟨B + 1, 5, none⟩ (.int .i64 d5)) (B + 1) 23 #[.int .i64 d0, .int .i64 d1, .int .i64 d2, .int .i64 d3, .int .i64 d4, .int .i64 d5] from ((((((HZ6.out.set 0 (.int .i64 d0)).set 1 (.int .i64 d1)).set 2 (.int .i64 d2)).set 3 (.int .i64 d3)).set 4 (.int .i64 d4)).set 5 (.int .i64 d5)))
  have HFB := hide (show Below B w (((((((w5.setCell ⟨B, 5, none⟩ (.int .i64 d5)).setCell ⟨B + 1, 0, none⟩ (.int .i64 d0)).setCell ⟨B + 1, 1, none⟩ (.int .i64 d1)).setCell ⟨B + 1, 2, none⟩ (.int .i64 d2)).setCell ⟨B + 1, 3, none⟩ (.int .i64 d3)).setCell ⟨B + 1, 4, none⟩ (.int .i64 d4)).setCell ⟨B + 1, 5, none⟩ (.int .i64 d5)) from ((((((HB6.out.setCell (p := ⟨B + 1, 0, none⟩) (Nat.le_succ _) (.int .i64 d0)).setCell (p := ⟨B + 1, 1, none⟩) (Nat.le_succ _) (.int .i64 d1)).setCell (p := ⟨B + 1, 2, none⟩) (Nat.le_succ _) (.int .i64 d2)).setCell (p := ⟨B + 1, 3, none⟩) (Nat.le_succ _) (.int .i64 d3)).setCell (p := ⟨B + 1, 4, none⟩) (Nat.le_succ _) (.int .i64 d4)).setCell (p := ⟨B + 1, 5, none⟩) (Nat.le_succ _) (.int .i64 d5)))
  clear a5 f5 g0 g1 g2 g3 g4 g5 q0 q1 q2 q3 q4 q5 y0 y1 y2 y3 y4 y5
  generalize (((((((w5.setCell ⟨B, 5, none⟩ (.int .i64 d5)).setCell ⟨B + 1, 0, none⟩ (.int .i64 d0)).setCell ⟨B + 1, 1, none⟩ (.int .i64 d1)).setCell ⟨B + 1, 2, none⟩ (.int .i64 d2)).setCell ⟨B + 1, 3, none⟩ (.int .i64 d3)).setCell ⟨B + 1, 4, none⟩ (.int .i64 d4)).setCell ⟨B + 1, 5, none⟩ (.int .i64 d5)) = wf at *
  obtain ⟨z0, z1, z2, z3, z4, z5⟩ := cells6 HFZ.out
  refine bodyPost_ret (v := .agg #[.int .i64 d0, .int .i64 d1, .int .i64 d2, .int .i64 d3, .int .i64 d4, .int .i64 d5]) (by simp [results, Tryz.results5, go_sem, z0, z1, z2, z3, z4, z5]) rfl ?_
  exact ⟨rfl, by rw [HBE.out]; exact HFB.out⟩
end Go.Proofs.YtmkidefdegaamaaGreatDoor.Kf
