/- The walks of the document's numerals. -/
import Derived.Test.YtenegfafjjknoaaGreatDoorTexts
import Derived.Test.YtenegfafjjknoaaGreatDoorNumw
import Derived.Test.YtenegfafjjknoaaGreatDoorMem
import Derived.Test.YtenegfafjjknoaaGreatDoorPlain
import Derived.Lib.ItoaMem
import Derived.Laws.IdiomStrings
import Derived.Deep.RegionWith
import Derived.BigRegion
namespace Go.Proofs.YtenegfafjjknoaaGreatDoor.Refd
open Go.RowKit Bytes Numw Mem Plain

/-- A text of one byte. -/
def one (c : Int) : ByteArray := ⟨#[UInt8.ofNat c.toNat]⟩

theorem conv1 (c : Int) (h0 : 0 ≤ c) (h1 : c ≤ 255) (W : World) (g : Nat) (hc : W.cell? ⟨g, 0, none⟩ = some (.int .u8 c)) :
    (convert 97 9 (.slice (some ⟨g, 0, none⟩) 1 1)).run Tryz.prog W = .ok (.string (one c)) W := by
  refine run_convert_bytes_back (P := Tryz.prog) W 97 9 5 ⟨g, 0, none⟩ 1 [UInt8.ofNat c.toNat] Tryz.underlying97 Tryz.underlying5 Tryz.underlying9 fun j hj => ?_
  have hj0 : j = 0 := by simpa using hj
  subst hj0
  have e : ((UInt8.ofNat c.toNat).toNat : Int) = c := by
    rw [UInt8.toNat_ofNat']
    omega
  show W.cell? _ = some (.int .u8 ((UInt8.ofNat c.toNat).toNat : Int))
  rw [e]
  exact hc

theorem B_one (c : Int) : B (one c) = [UInt8.ofNat c.toNat] := rfl
theorem size_one (c : Int) : (one c).size = 1 := rfl

theorem digits_small (v : Int) (h0 : 0 ≤ v) (h1 : v < 10) (w : World) :
    Calls Tryz.prog 96 #[.int .i64 v] w fun e w' => (∃ z, e = .returned (.string z) ∧ B z = Lib.decDigits v.toNat) ∧ Below w.heap.size w w' := by
  have hcv := conv1 (48 + v) (by omega) (by omega)
  go_enter Tryz.func96, Tryz.ntmps96
  go_wp2_with fail
  go_ret
  refine ⟨⟨_, rfl, ?_⟩, below_new _⟩
  rw [B_one, Lib.decDigits_one (by omega)]
  congr 2
  omega

theorem dec_step {v : Int} (h : 10 ≤ v) : Lib.decDigits v.toNat = Lib.decDigits (v / 10).toNat ++ [UInt8.ofNat (48 + v % 10).toNat] := by
  rw [Lib.decDigits, dif_neg (by omega)]
  congr 2
  · omega
  · congr 1
    omega

theorem below_d {w w1 : World} (h : Below w.drew.heap.size w.drew w1) : Below w.heap.size w w1 := ⟨h.os, h.tape, h.output, h.size, h.block⟩

theorem below_a {w w1 : World} {o : Obj} (h : Below (w.alloc o).drew.heap.size (w.alloc o).drew w1) : Below w.heap.size w w1 :=
  ((below_new o).drew).trans (h.mono (by simp))

set_option maxHeartbeats 4000000 in
set_option maxRecDepth 100000 in
theorem digits_step (v : Int) (h0 : 10 ≤ v) (h1 : v ≤ 1000000000) (w : World)
    (ih : ∀ W : World, Calls Tryz.prog 96 #[.int .i64 (v / 10)] W fun e w' => (∃ z, e = .returned (.string z) ∧ B z = Lib.decDigits (v / 10).toNat ∧ z.size ≤ 20) ∧ Below W.heap.size W w') :
    Calls Tryz.prog 96 #[.int .i64 v] w fun e w' => (∃ z, e = .returned (.string z) ∧ B z = Lib.decDigits v.toNat) ∧ Below w.heap.size w w' := by
  have HI := hide ih
  clear ih
  have hcv := conv1 (48 + v % 10) (by omega) (by omega)
  have hq : IntKind.i64.wrap (v.tdiv 10) = v / 10 := by
    rw [Int.tdiv_eq_ediv_of_nonneg (by omega)]
    exact IntWalk.i64_in _ (by omega)
  have hone : (one (48 + v % 10)).size = 1 := rfl
  have hm : v.tmod 10 = v % 10 := Int.tmod_eq_emod_of_nonneg (by omega)
  have ha : IntKind.i64.wrap (48 + v % 10) = 48 + v % 10 := IntWalk.i64_in _ (by omega)
  have hu : IntKind.u8.wrap (48 + v % 10) = 48 + v % 10 := IntWalk.u8_in _ (by omega)
  go_enter Tryz.func96, Tryz.ntmps96
  go_wp2_with fail
  go_region_with (go_at_call 96; refine (HI.out _).mono ?_; rintro e w1 ⟨⟨z, rfl, hz, hzz⟩, hb1⟩; try (have hcc : w1.cell? ⟨w.heap.size, 0, none⟩ = some (.int .u8 (48 + v % 10)) := by rw [hb1.cell (p := ⟨w.heap.size, 0, none⟩) (by simp)]; simp))
  all_goals (go_wp2_with fail; go_ret; refine ⟨⟨_, rfl, ?_⟩, ?_⟩)
  all_goals first | (rw [B_append, hz, B_one]; exact (dec_step h0).symm) | exact (below_d hb1).alloc (below_d hb1).size _ | exact below_a hb1

theorem digits_up (n : Nat) : ∀ (v : Int), 0 ≤ v → v ≤ 1000000000 → v.toNat ≤ n → ∀ w : World,
    Calls Tryz.prog 96 #[.int .i64 v] w fun e w' => (∃ z, e = .returned (.string z) ∧ B z = Lib.decDigits v.toNat) ∧ Below w.heap.size w w' := by
  induction n with
  | zero =>
    intro v h0 h1 hn w
    exact digits_small v h0 (by omega) w
  | succ n ih =>
    intro v h0 h1 hn w
    by_cases h : v < 10
    · exact digits_small v h0 h w
    · refine digits_step v (by omega) h1 w fun W => (ih (v / 10) (by omega) (by omega) (by omega) W).mono fun e w' h => ?_
      obtain ⟨⟨z, he, hz⟩, hb⟩ := h
      refine ⟨⟨z, he, hz, ?_⟩, hb⟩
      rw [size_B, hz, Lib.decDigits_length]
      exact Nat.le_trans (nd_le 9 _ (by have : (10 : Nat) ^ (9 + 1) = 10000000000 := by decide
                                        omega)) (by decide)

theorem digits (v : Int) (h0 : 0 ≤ v) (h1 : v ≤ 1000000000) (w : World) :
    Calls Tryz.prog 96 #[.int .i64 v] w fun e w' => (∃ z, e = .returned (.string z) ∧ B z = Lib.decDigits v.toNat ∧ z.size ≤ 20) ∧ Below w.heap.size w w' := by
  refine (digits_up v.toNat v h0 h1 (Nat.le_refl _) w).mono fun e w' h => ?_
  obtain ⟨⟨z, he, hz⟩, hb⟩ := h
  refine ⟨⟨z, he, hz, ?_⟩, hb⟩
  rw [size_B, hz, Lib.decDigits_length]
  exact Nat.le_trans (nd_le 9 _ (by have : (10 : Nat) ^ (9 + 1) = 10000000000 := by decide
                                    omega)) (by decide)

end Go.Proofs.YtenegfafjjknoaaGreatDoor.Refd
