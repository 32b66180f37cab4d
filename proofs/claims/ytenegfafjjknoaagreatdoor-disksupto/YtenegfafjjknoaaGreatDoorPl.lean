/- listed. -/
import Derived.Test.YtenegfafjjknoaaGreatDoorPpm
import Derived.Test.YtenegfafjjknoaaGreatDoorCheck
namespace Go.Proofs.YtenegfafjjknoaaGreatDoor.Pp
open Go.RowKit Mem Foot Dm Dh Dr

set_option maxRecDepth 10000 in
set_option maxHeartbeats 4000000 in
theorem listed (px : Nat) (S : Dk) (p : PI) (w : World) (hP : Pr w px S p) (hl : S.segs.length ≤ 100000000) (hv : p.vs.length ≤ 100000000) :
    Calls Tryz.prog 56 #[.pointer (some ⟨px, 0, none⟩)] w fun e w' => e = .returned (.bool true) ∧ Off (foot px S p) w w' ∧ ∃ p', Pr w' px S p' ∧ p'.vs.length = p.vs.length + 1 ∧ ∀ k ∈ foot px S p', k ∈ foot px S p ∨ w.heap.size ≤ k := by
  obtain ⟨c0, c1, c2, c3, f0, f1, f2, f3⟩ := head4 hP.head
  have HP := hide hP
  have hbl : p.bs.length ≤ 1000000000 := by have := hP.pd.len; omega
  have hnl : (doList S).1.length ≤ 100000000 := Nat.le_trans (nums_le S) hl
  clear hP
  obtain ⟨gao, gcv, hgs⟩ := Own.shape HP.out.grown
  obtain ⟨lao, lcv, hls⟩ := Own.shape HP.out.lists
  have HGS := hide hgs
  have HLS := hide hls
  clear hgs hls
  go_enter Tryz.func56, Tryz.ntmps56
  go_wp2_with fail
  refine (Dh.list p.bx p.ba p.cap p.bs S w HP.out.pd hbl).mono ?_
  rintro e w1 ⟨v, rfl, hov, hb1⟩
  have HP1 := hide (HP.out.keep hb1)
  have HB1 := hide hb1
  obtain ⟨vao, vcv, rfl⟩ := Own.shape hov
  have HOV := hide hov
  clear c0 c1 c2 c3 f0 f1 f2 f3 hb1 hov
  obtain ⟨c0, c1, c2, c3, f0, f1, f2, f3⟩ := head4 HP1.out.head
  go_wp2_with fail
  refine (Dr.list p.dx p.da p.dcap S w1 HP1.out.rd (by omega)).mono ?_
  rintro e w2 ⟨m, rfl, hom, hb2⟩
  obtain ⟨mao, mcv, rfl⟩ := Own.shape hom
  have HOV2 := hide (own_keep HOV.out hb2)
  have HOM := hide hom
  have HB2 := hide (HB1.out.trans (hb2.mono HB1.out.size))
  clear c0 c1 c2 c3 f0 f1 f2 f3 hb2 hom HOV HB1 HP1
  generalize (doList S).2 = code at *
  generalize (doList S).1 = nums at *
  have hb := HP.out.keep HB2.out
  have HP2 := hide hb
  clear hb
  obtain ⟨c0, c1, c2, c3, f0, f1, f2, f3⟩ := head4 HP2.out.head
  rw [HLS.out] at c2
  rw [HGS.out] at c3
  go_wp2_with (go_at_call 18; refine (Check.num _ _).mono ?_; rintro e w' ⟨rfl, rfl⟩)
  go_loopw [7] (fun s7 wr => ∃ k q : Nat, s7 = .int .i64 (k : Int) ∧ wr = w2.drewN q ∧ k ≤ nums.length) (fun s7 _ => nums.length - (intOf s7).toNat)
  case atStart => exact ⟨0, 0, rfl, rfl, by omega⟩
  case round =>
    obtain ⟨k, q, rfl, rfl, hk⟩ := hrel
    by_cases hkl : k < nums.length
    · have hkz : (k : Int) < (nums.length : Int) := by omega
      obtain ⟨vb, vcap, hve, hvcap, _, _, hvc⟩ := row_from HOV2.out hkl
      obtain ⟨mb, mcap, hme, hmcap, _, _, hmc⟩ := row_from HOM.out hkl
      injection hve with e1 _ e2
      injection hme with e3 _ e4
      subst e1
      subst e2
      subst e3
      subst e4
      obtain ⟨z, hz⟩ : ∃ z, nums[k]? = some z := ⟨_, List.getElem?_eq_getElem hkl⟩
      have k1 := (hvc k (.int .i64 z) (by rw [List.getElem?_map, hz]; rfl)).1
      have k2 := (hmc k (.int .i64 z) (by rw [List.getElem?_map, hz]; rfl)).1
      clear hvc hmc hz
      go_wp2_with fail
      go_quiet (fail)
      go_wp2_with fail
      go_roundw
      case rel => exact ⟨k + 1, q + nq, by go_num, rfl, by omega⟩
      case measure => simp [intOf]; omega
    · have hkz : ¬ (k : Int) < (nums.length : Int) := by omega
      have HB3 := hide (show Below w.heap.size w (w2.drewN q) from below_drewN' HB2.out)
      have HOV3 := hide (show (w2.drewN q).ownsRow w.heap.size 3 1 (.slice vao nums.length vcv) nums.length (nums.map (Value.int .i64)) from HOV2.out)
      have HC2 := hide (show (w2.drewN q).cell? ⟨px, 2, none⟩ = some (.slice lao p.vs.length lcv) from c2)
      clear c0 c1 c2 c3 f0 f1 f2 f3 HB2 HOV2 HOM HP2
      generalize w2.drewN q = w3 at *
      have c2 := HC2.out
      have hsub : IntKind.i64.wrap (-1 - (p.vs.length : Int)) = -1 - (p.vs.length : Int) := IntWalk.i64_in _ (by omega)
      go_wp2_with fail
      go_loopw [9] (fun s9 wr => ∃ i : Nat, s9 = .int .i64 (i : Int) ∧ i ≤ nums.length ∧ Hid (wr.ownsRow w.heap.size 3 1 (.slice vao nums.length vcv) nums.length (filled i (-1 - (p.vs.length : Int)) nums) ∧ Below w.heap.size w wr)) (fun s9 _ => nums.length - (intOf s9).toNat)
      case atStart => exact ⟨0, rfl, by omega, by rw [filled_zero]; exact HOV3.out, HB3.out⟩
      case round =>
        obtain ⟨i, rfl, hi, HR⟩ := hrel
        clear c2 HC2
        by_cases hil : i < nums.length
        · have hiz : (i : Int) < (nums.length : Int) := by omega
          obtain ⟨vb, vcap, hve, hvcap, hvb, hvl, hvc⟩ := row_from HR.out.1 hil
          injection hve with e1 _ e2
          subst e1
          subst e2
          obtain ⟨k1, k2⟩ := hvc i _ (filled_get hil)
          clear hvc
          have HST := hide (own_set (j := i) HR.out.1 (.int .i64 (-1 - (p.vs.length : Int))))
          have HBS := hide (HR.out.2.setCell (p := ⟨vb, i, none⟩) hvb (.int .i64 (-1 - (p.vs.length : Int))))
          have HFS := hide (filled_set (z := -1 - (p.vs.length : Int)) hil)
          go_wp2_with fail
          go_roundw
          case rel => exact ⟨i + 1, by go_num, by omega, by rw [← HFS.out]; exact HST.out, HBS.out⟩
          case measure => simp [intOf]; omega
        · have hiz : ¬ (i : Int) < (nums.length : Int) := by omega
          obtain rfl : i = nums.length := by omega
          have hown := HR.out.1
          rw [filled_all] at hown
          have HOW := hide hown
          have hPr := HP.out.keep HR.out.2
          obtain ⟨c0, c1, c2, c3, f0, f1, f2, f3⟩ := head4 hPr.head
          rw [HLS.out] at c2
          rw [HGS.out] at c3
          have HPr := hide hPr
          have hpx := hPr.head.lt
          clear hown hPr
          obtain ⟨i0, hi, hz0, hz1, hz2⟩ := info_parts hiRow
          obtain ⟨j0, hj, hy0, hy1, hy2⟩ := info_parts hiInt
          go_wp2_with (at_builtin; refine Apn.wpList_any _ rfl (.tmp 72) (.tmp 74) 57 rfl 48 i0 (.slice none 0 0) 1 24 Tryz.underlying57 hi hz0 hz1 hz2 rfl (by decide) _ _ p.vs rfl (own_as HPr.out.lists HLS.out _) _ 1 1 [.slice vao nums.length vcv] rfl (src_val _ _ _ _ (by simp) rfl) (by unfold maxLen; omega) (by omega) ?_; intro v3 x3 o3 gr3 sm3 nn3; obtain ⟨a3, cv3, rfl⟩ := Own.shape o3; have hs3 := lists_head HPr.out HLS.out gr3; have d2 := (head4 hs3).2.2.1; have g2 := (head4 hs3).2.2.2.2.2.2.1; have HM := hide (mid HP.out HR.out.2 HOW.out o3 (HLS.out ▸ gr3) (HLS.out ▸ sm3)); clear hs3 gr3 sm3 nn3 o3)
          clear c0 c1 c2 c3 f0 f1 f2 f3 d2 g2
          generalize x3.setCell ⟨px, 2, none⟩ (.slice a3 (p.vs.length + 1) cv3) = x at *
          obtain ⟨c0, c1, c2, c3, f0, f1, f2, f3⟩ := head4 HM.out.head
          rw [HGS.out] at c3
          have hpx2 := HM.out.head.lt
          have HROW := hide (Apn.weaken HM.out.row)
          have HGR := hide HM.out.grown
          have HGL := hide HP.out.len
          clear hpx
          go_region_law (first | (refine Apn.step_any2 rfl (.tmp 83) (.tmp 87) 48 rfl 3 j0 (.int .i64 0) 1 8 Tryz.underlying48 hj hy0 hy1 hy2 rfl (by decide) (.slice vao nums.length vcv) _ _ rfl (own_drew HROW.out _) _ 3 3 (List.replicate 3 (.int .i64 (-1 - (p.vs.length : Int)))) rfl (src_three _ _ _ _ rfl) (by unfold maxLen; omega) (by omega) ?_; intro v5 x5 o5 gr5 sm5 st5; obtain ⟨a5, cv5, rfl⟩ := Own.shape o5; have hx5 := head_on (x := x.drew) HM.out.head HROW.out (by decide) gr5; have hpx5 := hx5.lt; have k3 := (head4 hx5).2.2.2.1; rw [HGS.out] at k3; have HX5 := hide hx5; have HG5 := hide (own_off2 (w := x.drew) HGR.out (grown_off gr5) (row_ne HGR.out HROW.out (by decide))); clear hx5) | (refine Apn.step_any rfl (.tmp 82) (.tmp 89) 57 rfl 48 i0 (.slice none 0 0) 1 24 Tryz.underlying57 hi hz0 hz1 hz2 rfl (by decide) (.slice gao p.gs.length gcv) _ p.gs rfl (own_as HG5.out HGS.out _) _ 1 1 [.slice a5 (nums.length + 3) cv5] rfl (src_val _ _ _ _ rfl rfl) (by have := HGL.out; unfold maxLen; omega) (by have := HGL.out; omega) ?_; intro v6 x6 o6 gr6 sm6 nn6; obtain ⟨a6, cv6, rfl⟩ := Own.shape o6; have hx6 := head_on HX5.out HG5.out (by decide) (HGS.out.symm ▸ gr6); have k3 := (head4 hx6).2.2.2.1; have y3 := (head4 hx6).2.2.2.2.2.2.2; clear hx6))
          all_goals
            have HDN := hide (done HP.out HM.out.drew (by omega) o5 gr5 st5 o6 (HGS.out.symm ▸ gr6) (HGS.out.symm ▸ sm6))
            clear gr5 o5 st5 sm5 gr6 o6 sm6 nn6
            go_wp2_with fail
            go_ret
            exact ⟨rfl, HDN.out.1, HDN.out.2⟩

end Go.Proofs.YtenegfafjjknoaaGreatDoor.Pp
