/- looks, walked. -/
import Derived.Test.YtenegfafjjknoaaSq
import Derived.Deep.Cut
namespace Go.Proofs.Ytenegfafjjknoaa.Sk
open Go.RowKit Go.Maps Go.Shelf Mem Foot Im

set_option maxRecDepth 10000 in
set_option maxHeartbeats 8000000 in
theorem looks (S : Nat) (ms : List Ms) (p : LI) (w : World) (h : Sn w S ms p) (hl : ms.length ≤ 3600000000000) (hv : p.vs.length ≤ 3600000000000) :
    Calls Try.prog 11 #[.pointer (some ⟨S, 0, none⟩)] w fun e w' => e = .returned (.bool true) ∧ Off (foot S p) w w' ∧ ∃ p', Sn w' S ms p' ∧ p'.vs.length = p.vs.length + 1 ∧ ∀ k ∈ foot S p', k ∈ foot S p ∨ w.heap.size ≤ k := by
  obtain ⟨c0, c1, c2, c3, f0, f1, f2, f3⟩ := head4 h.head
  have HP := hide h
  have htk := taken p.X p.mb ms h.rise w h.sk (by omega)
  clear h
  obtain ⟨gao, gcv, hgs⟩ := Own.shape HP.out.grown
  obtain ⟨lao, lcv, hls⟩ := Own.shape HP.out.lists
  have HGS := hide hgs
  have HLS := hide hls
  clear hgs hls
  go_enter Try.func11, Try.ntmps11
  go_wp2_with fail
  refine htk.mono ?_
  clear htk
  rintro e w1 ⟨v, rfl, hov, hb1⟩
  have HP1 := hide (HP.out.keep hb1)
  have HB1 := hide hb1
  have HOV := hide hov
  clear c0 c1 c2 c3 f0 f1 f2 f3 hb1 hov
  obtain ⟨c0, c1, c2, c3, f0, f1, f2, f3⟩ := head4 HP1.out.head
  have hsm := same _ _ v p.lw ms w1 HOV.out HP1.out.own (by omega)
  go_wp2_with fail
  refine hsm.mono ?_
  clear hsm
  rintro e w2 ⟨rfl, q, rfl⟩
  have HB2 := hide (show Below w.heap.size w (w1.drewN q) from below_drewN' HB1.out)
  have HOV2 := hide (show (w1.drewN q).ownsRow w.heap.size 36 2 v ms.length (mcells ms) from HOV.out)
  have HC2 := hide (show (w1.drewN q).cell? ⟨S, 2, none⟩ = some p.lv from c2)
  clear c0 c1 c2 c3 f0 f1 f2 f3 HOV HB1 HP1
  generalize w1.drewN q = w2 at *
  have c2 := HC2.out
  rw [HLS.out] at c2
  have HS3 := hide (show Sits (w2.alloc (.cells #[.int .i64 (p.vs.length : Int), .string ⟨#[116, 104, 101, 32, 99, 97, 108, 108, 101, 114, 39, 115]⟩] 36)) w2.heap.size 36 #[.int .i64 (mark p.vs.length).k, .string (mark p.vs.length).t] from Sits.new w2 36 #[.int .i64 (p.vs.length : Int), .string ⟨#[116, 104, 101, 32, 99, 97, 108, 108, 101, 114, 39, 115]⟩])
  have HB3 := hide (HB2.out.alloc HB2.out.size (.cells #[.int .i64 (p.vs.length : Int), .string ⟨#[116, 104, 101, 32, 99, 97, 108, 108, 101, 114, 39, 115]⟩] 36))
  have HOV3 := hide (HOV2.out.alloc (.cells #[.int .i64 (p.vs.length : Int), .string ⟨#[116, 104, 101, 32, 99, 97, 108, 108, 101, 114, 39, 115]⟩] 36))
  have HGL := hide (show ∀ k ∈ v.ownBlock.toList, k < w2.heap.size from fun k hk => (own_lt HOV2.out hk).2)
  obtain ⟨B, hB⟩ : ∃ B, w2.heap.size = B := ⟨_, rfl⟩
  rw [hB] at HS3 HGL
  go_upto_region 4 with fail
  generalize w2.alloc (.cells #[.int .i64 (p.vs.length : Int), .string ⟨#[116, 104, 101, 32, 99, 97, 108, 108, 101, 114, 39, 115]⟩] 36) = w3 at *
  obtain ⟨vao, vcv, rfl⟩ := Own.shape HOV3.out
  clear c2 HC2 hB
  go_wp2_with fail
  go_loopw [6] (fun s6 wr => ∃ i : Nat, s6 = .int .i64 (i : Int) ∧ i ≤ ms.length ∧ Hid (wr.ownsRow w.heap.size 36 2 (.slice vao ms.length vcv) ms.length (mcells (filled i (mark p.vs.length) ms)) ∧ Below w.heap.size w wr ∧ Sits wr B 36 #[.int .i64 (mark p.vs.length).k, .string (mark p.vs.length).t])) (fun s6 _ => ms.length - (intOf s6).toNat)
  case atStart => exact ⟨0, rfl, by omega, by rw [filled_zero]; exact HOV3.out, HB3.out, HS3.out⟩
  case round =>
    obtain ⟨i, rfl, hi, HR⟩ := hrel
    have b0 := HR.out.2.2.cell 0 _ rfl
    have b1 := HR.out.2.2.cell 1 _ rfl
    by_cases hil : i < ms.length
    · have hiz : (i : Int) < (ms.length : Int) := by omega
      obtain ⟨vb, vcap, hve, hvcap, hvb, hvl, k0, k1, g0, g1⟩ := msg_at HR.out.1 (filled_get hil)
      injection hve with e1 em e2
      clear em
      subst e1
      subst e2
      have hne : vb ≠ B := by
        have := HGL.out vb (by simp [Value.ownBlock])
        omega
      have HST := hide (own_set2 (mark p.vs.length) (i := i) (by rw [filled_length hi]; exact hil) HR.out.1)
      have HBS := hide ((HR.out.2.1.setCell (p := ⟨vb, i * 2, none⟩) hvb (.int .i64 (mark p.vs.length).k)).setCell (p := ⟨vb, i * 2 + 1, none⟩) hvb (.string (mark p.vs.length).t))
      have HFS := hide (filled_set (z := mark p.vs.length) hil)
      have HSB := hide (show Sits ((wr.setCell ⟨vb, i * 2, none⟩ (.int .i64 (mark p.vs.length).k)).setCell ⟨vb, i * 2 + 1, none⟩ (.string (mark p.vs.length).t)) B 36 #[.int .i64 (mark p.vs.length).k, .string (mark p.vs.length).t] from (Below.heap_setCell _ _ _ _ (Ne.symm hne)).trans ((Below.heap_setCell _ _ _ _ (Ne.symm hne)).trans HR.out.2.2))
      go_wp2_with fail
      go_roundw
      case rel => exact ⟨i + 1, by go_num, by omega, by rw [← HFS.out]; exact HST.out, HBS.out, HSB.out⟩
      case measure => simp [intOf]; omega
    · have hiz : ¬ (i : Int) < (ms.length : Int) := by omega
      obtain rfl : i = ms.length := by omega
      have hown := HR.out.1
      rw [filled_all] at hown
      have HOW := hide hown
      have hPr := HP.out.keep HR.out.2.1
      obtain ⟨c0, c1, c2, c3, f0, f1, f2, f3⟩ := head4 hPr.head
      rw [HLS.out] at c2
      rw [HGS.out] at c3
      have HPr := hide hPr
      have hpx := hPr.head.lt
      clear hown hPr
      obtain ⟨i0, hi, hz0, hz1, hz2⟩ := info_parts infoRow
      obtain ⟨j0, hj, hy0, hy1, hy2⟩ := info_parts infoM
      go_upto_region 9 with (at_builtin; refine Apn.wpList_any _ rfl (.tmp 38) (.tmp 40) 31 rfl 30 i0 (.slice none 0 0) 1 24 Try.underlying31 hi hz0 hz1 hz2 rfl (by decide) _ _ p.vs rfl (own_as HPr.out.lists HLS.out _) _ 1 1 [.slice vao ms.length vcv] rfl (src_val _ _ _ _ (by simp) rfl) (by unfold maxLen; omega) (by omega) ?_; intro v3 x3 o3 gr3 sm3 nn3; obtain ⟨a3, cv3, rfl⟩ := Own.shape o3; have hs3 := lists_head HPr.out HLS.out gr3; have d2 := (head4 hs3).2.2.1; have g2 := (head4 hs3).2.2.2.2.2.2.1; have HM := hide (mid HP.out HR.out.2.1 HOW.out HR.out.2.2 o3 (HLS.out ▸ gr3) (HLS.out ▸ sm3)); clear hs3 gr3 sm3 nn3 o3)
      clear c0 c1 c2 c3 f0 f1 f2 f3 d2 g2 b0 b1
      generalize x3.setCell ⟨S, 2, none⟩ (.slice a3 (p.vs.length + 1) cv3) = x at *
      obtain ⟨c0, c1, c2, c3, f0, f1, f2, f3⟩ := head4 HM.out.head
      rw [HGS.out] at c3
      have hpx2 := HM.out.head.lt
      have hbx := HM.out.box.lt
      have b0 : x.cell? ⟨B, 0, none⟩ = some (.int .i64 (mark p.vs.length).k) := HM.out.box.cell 0 _ rfl
      have b1 : x.cell? ⟨B, 1, none⟩ = some (.string (mark p.vs.length).t) := HM.out.box.cell 1 _ rfl
      have HROW := hide (Apn.weaken HM.out.row)
      have HGR := hide HM.out.grown
      have HGLN := hide HP.out.len
      have HBX := hide HM.out.box
      have HBN := hide (show B ∉ (Value.slice vao ms.length vcv).ownBlock.toList from fun hm => by have := HGL.out B hm; omega)
      clear hpx
      go_region_law (first | (refine Apn.step_any2 rfl (.tmp 49) (.tmp 53) 30 rfl 36 j0 (.agg #[.int .i64 0, .string ⟨#[]⟩]) 2 24 Try.underlying30 hj hy0 hy1 hy2 rfl (by decide) (.slice vao ms.length vcv) _ _ rfl (own_drew HROW.out _) _ 3 3 (mcells (List.replicate 3 (mark p.vs.length))) rfl (src_three _ _ _ _ rfl) (by unfold maxLen; omega) (by omega) ?_; intro v5 x5 o5 gr5 sm5 st5; obtain ⟨a5, cv5, rfl⟩ := Own.shape o5; have hx5 := head_on (x := x.drew) HM.out.head HROW.out (by decide) gr5; have hpx5 := hx5.lt; have k3 := (head4 hx5).2.2.2.1; rw [HGS.out] at k3; have HX5 := hide hx5; have HG5 := hide (own_off2 (w := x.drew) HGR.out (grown_off gr5) (row_ne HGR.out HROW.out (by decide))); clear hx5) | (refine Apn.step_any rfl (.tmp 48) (.tmp 55) 31 rfl 30 i0 (.slice none 0 0) 1 24 Try.underlying31 hi hz0 hz1 hz2 rfl (by decide) (.slice gao p.gs.length gcv) _ p.gs rfl (own_as HG5.out HGS.out _) _ 1 1 [.slice a5 (ms.length + 3) cv5] rfl (src_val _ _ _ _ rfl rfl) (by have := HGLN.out; unfold maxLen; omega) (by have := HGLN.out; omega) ?_; intro v6 x6 o6 gr6 sm6 nn6; obtain ⟨a6, cv6, rfl⟩ := Own.shape o6; have hx6 := head_on HX5.out HG5.out (by decide) (HGS.out.symm ▸ gr6); have k3 := (head4 hx6).2.2.2.1; have y3 := (head4 hx6).2.2.2.2.2.2.2; clear hx6))
      all_goals
        rw [rep_more] at o5
        have HDN := hide (done HP.out HM.out.drew (by omega) o5 gr5 st5 o6 (HGS.out.symm ▸ gr6) (HGS.out.symm ▸ sm6))
        clear gr5 o5 st5 sm5 gr6 o6 sm6 nn6
        go_wp2_with fail
        go_ret
        exact ⟨rfl, HDN.out.1, HDN.out.2⟩

end Go.Proofs.Ytenegfafjjknoaa.Sk
