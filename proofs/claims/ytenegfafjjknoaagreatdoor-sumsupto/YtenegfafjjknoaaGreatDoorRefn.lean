/- The walk of the document's number. -/
import Derived.Test.YtenegfafjjknoaaGreatDoorRefw
namespace Go.Proofs.YtenegfafjjknoaaGreatDoor.Refn
open Go.RowKit Bytes Nums Refs Numw

theorem nstep_lead {st : Int × Int × Int} {b : UInt8} (hd : dig b.toNat = true) (h : st.2.2 < 0) (h6 : ¬ 6 < st.2.1 + 1) : nstep st b = some (10 * st.1 + ((b.toNat : Int) - 48), st.2.1 + 1, st.2.2) := by
  rw [nstep, if_pos hd, if_pos h, if_neg h6]
theorem nstep_lead7 {st : Int × Int × Int} {b : UInt8} (hd : dig b.toNat = true) (h : st.2.2 < 0) (h6 : 6 < st.2.1 + 1) : nstep st b = none := by
  rw [nstep, if_pos hd, if_pos h, if_pos h6]
theorem nstep_tail {st : Int × Int × Int} {b : UInt8} (hd : dig b.toNat = true) (h : ¬ st.2.2 < 0) (h3 : ¬ 3 < st.2.2 + 1) : nstep st b = some (10 * st.1 + ((b.toNat : Int) - 48), st.2.1, st.2.2 + 1) := by
  rw [nstep, if_pos hd, if_neg h, if_neg h3]
theorem nstep_tail4 {st : Int × Int × Int} {b : UInt8} (hd : dig b.toNat = true) (h : ¬ st.2.2 < 0) (h3 : 3 < st.2.2 + 1) : nstep st b = none := by
  rw [nstep, if_pos hd, if_neg h, if_pos h3]
theorem nstep_dot {st : Int × Int × Int} {b : UInt8} (hb : (b.toNat : Int) = 46) (h : st.2.2 < 0) : nstep st b = some (st.1, st.2.1, 0) := by
  have e : b = 46 := by
    apply UInt8.toNat_inj.1
    show b.toNat = 46
    omega
  subst e
  rw [nstep, if_neg (by decide), if_pos ⟨rfl, h⟩]
theorem nstep_bad {st : Int × Int × Int} {b : UInt8} (hd : dig b.toNat = false) (h : ¬ ((b.toNat : Int) = 46 ∧ st.2.2 < 0)) : nstep st b = none := by
  rw [nstep, hd]
  have e : ¬ (b = 46 ∧ st.2.2 < 0) := by
    rintro ⟨rfl, h2⟩
    exact h ⟨rfl, h2⟩
  simp only [Bool.false_eq_true, if_false, if_neg e]

theorem dead {s : ByteArray} {k : Nat} {v wh rs : Int} (hk : k < s.size) (h : nrun (0, 0, -1) ((B s).take k) = some (v, wh, rs)) (hb : nstep (v, wh, rs) s[k] = none) : refNum (B s) = -1 := by
  have e : nrun (0, 0, -1) ((B s).take (k + 1)) = none := by
    rw [nrun_take hk, h]
    exact hb
  rw [refNum, nrun_dead e]

theorem alive {s : ByteArray} {k : Nat} {v wh rs : Int} {st : Int × Int × Int} (hk : k < s.size) (h : nrun (0, 0, -1) ((B s).take k) = some (v, wh, rs)) (hb : nstep (v, wh, rs) s[k] = some st) : nrun (0, 0, -1) ((B s).take (k + 1)) = some st := by
  rw [nrun_take hk, h]
  exact hb

theorem done {s : ByteArray} {v wh rs : Int} (h : nrun (0, 0, -1) ((B s).take s.size) = some (v, wh, rs)) : refNum (B s) = nend (v, wh, rs) := by
  rw [size_B, List.take_length] at h
  rw [refNum, h]

/-- What a number's value can be. -/
theorem ret_int {a b : Int} {w : World} (h : a = b) : Ending.returned (.int .i64 a) = Ending.returned (.int .i64 b) ∧ w = w := ⟨by rw [h], rfl⟩

set_option maxHeartbeats 2000000 in
theorem number (s : ByteArray) (hs : s.size ≤ 140737488355328) (w : World) :
    Calls Tryz.prog 82 #[.string s] w fun e w' => e = .returned (.int .i64 (refNum (B s))) ∧ w = w' := by
  go_enter Tryz.func82, Tryz.ntmps82
  go_wp2_with fail
  go_loop [3, 4, 5, 6] (fun s3 s4 s5 s6 => ∃ (k : Nat) (v wh rs : Int), s3 = .int .i64 v ∧ s4 = .int .i64 wh ∧ s5 = .int .i64 rs ∧ s6 = .int .i64 k ∧ k ≤ s.size ∧ 0 ≤ wh ∧ wh ≤ 6 ∧ -1 ≤ rs ∧ rs ≤ 3 ∧ 0 ≤ v ∧ v ≤ 999999999999999 ∧ Hid (nrun (0, 0, -1) ((B s).take k) = some (v, wh, rs) ∧ Small v wh rs))
    (fun _ _ _ s6 => s.size - (intOf s6).toNat)
  case atStart => exact ⟨0, 0, 0, -1, rfl, rfl, rfl, rfl, Nat.zero_le _, by omega, by omega, by omega, by omega, by omega, by omega, ⟨rfl, small_zero⟩⟩
  case round =>
    obtain ⟨k, v, wh, rs, rfl, rfl, rfl, rfl, hk, a1, a2, a3, a4, a5, a6, HN⟩ := hrel
    by_cases hlt : k < s.size
    · have hltz : (k : Int) < (s.size : Int) := by omega
      cases hd : dig (s[k].toNat : Int) with
      | true =>
        have hdb := dig_iff.1 hd
        have HD := hide hd
        by_cases hr : rs < 0
        · by_cases h6 : 6 < wh + 1
          · go_wp2_with (go_at_call 139; refine (Leaf.refDigit _ _).mono ?_; rintro e w' ⟨rfl, rfl⟩)
            go_ret
            exact ret_int (dead hlt HN.out.1 (nstep_lead7 HD.out hr h6)).symm
          · go_wp2_with (go_at_call 139; refine (Leaf.refDigit _ _).mono ?_; rintro e w' ⟨rfl, rfl⟩)
            go_round
            case rel =>
              have hsm := small_lead HN.out.2 a1 hr (d := (s[k].toNat : Int) - 48) (by omega)
              have hb := small_bound hsm (by omega) (by omega)
              exact ⟨k + 1, 10 * v + ((s[k].toNat : Int) - 48), wh + 1, rs, congrArg (Value.int .i64) (by omega), rfl, rfl, by go_num, by omega, by omega, by omega, by omega, by omega, by omega, by omega, ⟨alive hlt HN.out.1 (nstep_lead HD.out (by dsimp only; omega) (by dsimp only; omega)), hsm⟩⟩
            case measure => simp [intOf]; omega
        · by_cases h3 : 3 < rs + 1
          · go_wp2_with (go_at_call 139; refine (Leaf.refDigit _ _).mono ?_; rintro e w' ⟨rfl, rfl⟩)
            go_ret
            exact ret_int (dead hlt HN.out.1 (nstep_tail4 HD.out (by dsimp only; omega) h3)).symm
          · go_wp2_with (go_at_call 139; refine (Leaf.refDigit _ _).mono ?_; rintro e w' ⟨rfl, rfl⟩)
            go_round
            case rel =>
              have hsm := small_tail HN.out.2 (by omega : 0 ≤ rs) (d := (s[k].toNat : Int) - 48) (by omega)
              have hb := small_bound hsm (by omega) (by omega)
              exact ⟨k + 1, 10 * v + ((s[k].toNat : Int) - 48), wh, rs + 1, congrArg (Value.int .i64) (by omega), rfl, rfl, by go_num, by omega, by omega, by omega, by omega, by omega, by omega, by omega, ⟨alive hlt HN.out.1 (nstep_tail HD.out (by dsimp only; omega) (by dsimp only; omega)), hsm⟩⟩
            case measure => simp [intOf]; omega
      | false =>
        by_cases hb : (s[k].toNat : Int) = 46
        · have hbe : ((s[k].toNat : Int) == 46) = true := by simpa using hb
          have HB := hide hb
          clear hb
          by_cases hr : rs < 0
          · go_wp2_with (go_at_call 139; refine (Leaf.refDigit _ _).mono ?_; rintro e w' ⟨rfl, rfl⟩)
            go_round
            case rel =>
              exact ⟨k + 1, v, wh, 0, rfl, rfl, rfl, by go_num, by omega, by omega, by omega, by omega, by omega, by omega, by omega, ⟨alive hlt HN.out.1 (nstep_dot HB.out hr), small_dot HN.out.2 hr⟩⟩
            case measure => simp [intOf]; omega
          · go_wp2_with (go_at_call 139; refine (Leaf.refDigit _ _).mono ?_; rintro e w' ⟨rfl, rfl⟩)
            go_ret
            exact ret_int (dead hlt HN.out.1 (nstep_bad hd (fun h => by have := h.2; dsimp only at this; omega))).symm
        · have hbe : ((s[k].toNat : Int) == 46) = false := by simpa using hb
          go_wp2_with (go_at_call 139; refine (Leaf.refDigit _ _).mono ?_; rintro e w' ⟨rfl, rfl⟩)
          go_ret
          exact ret_int (dead hlt HN.out.1 (nstep_bad hd (fun h => hb h.1))).symm
    · have hltz : ¬ (k : Int) < (s.size : Int) := by omega
      have hkk : k = s.size := by omega
      subst hkk
      have hE := done HN.out.1
      have HE := hide hE
      clear hE
      by_cases hw1 : wh < 1
      · go_wp2_with fail
        go_ret
        refine ret_int ?_
        rw [HE.out, nend, if_pos (Or.inl hw1)]
      · by_cases hr0 : rs = 0
        · have hr0e : (rs == 0) = true := by simpa using hr0
          go_wp2_with fail
          go_ret
          refine ret_int ?_
          rw [HE.out, nend, if_pos (Or.inr hr0)]
        · have hr0e : (rs == 0) = false := by simpa using hr0
          have hsb := small_bound HN.out.2 (by omega) (by omega)
          have hcases : rs = -1 ∨ rs = 1 ∨ rs = 2 ∨ rs = 3 := by omega
          have hend : refNum (B s) = (if rs = -1 then v * 1000 else if rs = 1 then v * 100 else if rs = 2 then v * 10 else v) := by
            rw [HE.out, nend, if_neg (by dsimp only; omega)]
            dsimp only
            rcases hcases with e | e | e | e <;> rw [e] <;> rfl
          have HEND := hide hend
          clear hend HE HN
          rcases hcases with e | e | e | e
          all_goals subst e
          · go_wp2_with fail
            go_rounds 5
            go_ret
            refine ret_int ?_
            rw [HEND.out]
            simp
            omega
          · go_wp2_with fail
            go_rounds 3
            go_ret
            refine ret_int ?_
            rw [HEND.out]
            simp
            omega
          · go_wp2_with fail
            go_rounds 2
            go_ret
            refine ret_int ?_
            rw [HEND.out]
            simp
            omega
          · go_wp2_with fail
            go_rounds 1
            go_ret
            refine ret_int ?_
            rw [HEND.out, if_neg (by decide), if_neg (by decide), if_neg (by decide)]

end Go.Proofs.YtenegfafjjknoaaGreatDoor.Refn
