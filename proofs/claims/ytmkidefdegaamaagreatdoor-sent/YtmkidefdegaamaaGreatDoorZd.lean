/- P8 to P12: each window comes to the sink once, whatever fails between; the law Sent, walked. -/
import Derived.Test.YtmkidefdegaamaaGreatDoorQmy
import Derived.Deep.DeepCutAuto
namespace Go.Proofs.YtmkidefdegaamaaGreatDoor.Dd
open Go.RowKit Go.Maps Mem Foot Bytes Im Wm Hi Plainw Cq Dm Dh Jr Wi Sk Hn Kr Kf
theorem row_one (w : World) (x : Value) (e : TypeId) : (w.alloc (.cells #[x] e)).ownsRow w.heap.size e 1 (.slice (some ⟨w.heap.size, 0, none⟩) 1 1) 1 [x] :=
  ⟨rfl, .inr ⟨w.heap.size, 1, #[x], rfl, Nat.le_refl _, heap_alloc_new w _, Nat.le_refl _, by decide, rfl, rfl⟩⟩
theorem row_short {w : World} {base n c : Nat} {a : Option Addr} {e : TypeId} {xs : List Value} (h : w.ownsRow base e 1 (.slice a n c) n xs) {k : Nat} (hk : k ≤ n) (h0 : 0 < k) : w.ownsRow base e 1 (.slice a k c) k (xs.take k) := by
  rcases h.2 with ⟨_, h1⟩ | ⟨g, cap, cur, e1, hb, hg, hn, hm, hs, ht⟩
  · omega
  · injection e1 with e1 _ e3
    subst e1
    subst e3
    have hl := h.1
    refine ⟨by rw [List.length_take]; omega, .inr ⟨g, c, cur, rfl, hb, hg, by omega, hm, hs, ?_⟩⟩
    rw [← ht, List.take_take]
    congr 1
    omega
theorem LZ.short {wb : World} {bx X K N k ac : Nat} {av : Option Addr} {L : List ByteArray} {mb : Option Nat} {ms : List Ms} {wr : World} {D : Dn} {q : Pl} (h : LZ wb bx X K (.slice av N ac) L mb ms wr D q) (hN : L.length = N) (hk : k ≤ N) (h0 : 0 < k) : LZ wb bx X K (.slice av k ac) (L.take k) mb ms wr D q := by
  have hb : (Value.slice av k ac).ownBlock = (Value.slice av N ac).ownBlock := by cases av <;> rfl
  have hr := h.lp.row
  rw [hN] at hr
  have hr2 := row_short hr hk h0
  rw [← List.map_take] at hr2
  have hl : (L.take k).length = k := by rw [List.length_take]; omega
  exact ⟨⟨h.lp.da, h.lp.bx, h.lp.far, by rw [hb]; exact h.lp.ap, h.lp.bl, by rw [hl]; exact hr2⟩, h.sk, h.far, h.ap, by rw [hb]; exact h.ar⟩
theorem row_nth {w : World} {base n c g : Nat} {L : List ByteArray} (h : w.ownsRow base 9 1 (.slice (some ⟨g, 0, none⟩) n c) L.length (L.map Value.string)) (hn : L.length = n) {j : Nat} {s : ByteArray} (hj : L[j]? = some s) (hc : j + 1 ≤ c) : Row w (.slice (some ⟨g, j, none⟩) 1 (c - j)) ([s].map B) := by
  rw [hn] at h
  have hcell := row_at h (i := j) (u := .string s) (by rw [List.getElem?_map, hj]; rfl)
  have hlt := (World.ownsRow.lt h g rfl).2
  refine ⟨some ⟨g, j, none⟩, c - j, rfl, by simp; omega, fun i x hx => ⟨g, j, rfl, hlt, ?_⟩⟩
  cases i with
  | zero =>
    have hx' : B s = x := by simpa using hx
    have hB : (⟨x.toArray⟩ : ByteArray) = s := Bytes.B_inj (by rw [← hx']; simp [Bytes.B])
    rw [hB]
    exact hcell
  | succ i => simp at hx
/-- What lies there ahead of the rounds. -/
structure Lay (wb : World) (bx X K : Nat) (p : Fin 6 → Int) (av : Value) (N : Nat) (L : List ByteArray) (wr : World) (q : Pl) : Prop where
  lz : LZ wb bx X K av L none [] wr (D0 p Dm.fresh) q
  len : L.length = N
  top : N ≤ 50
  pos : 0 < N
  short : ∀ s ∈ L, s.size ≤ 256
set_option maxRecDepth 100000 in
set_option maxHeartbeats 4000000 in
theorem sent (c : Fin 6 → Int) (hc : ∀ i, -9223372036854775808 ≤ c i ∧ c i ≤ 9223372036854775807) (a1 : Option Addr) (c1 n1 : Nat) (texts : List ByteArray) (hn1 : texts.length = n1) (ao : Option Addr) (cap nf : Nat) (fl : List Int) (hnf : fl.length = nf) (w : World) (hfl : ∀ x ∈ fl, -9223372036854775808 ≤ x ∧ x ≤ 9223372036854775807) (hsrc : ∀ (i : Nat) x, fl[i]? = some x → ∃ g off, ao = some ⟨g, off, none⟩ ∧ g < w.heap.size ∧ w.cell? ⟨g, off + i, none⟩ = some (.int .i64 x))
    (hT : Tab w) (hE : Ers w) (hEG : 4 < w.heap.size ∧ 5 < w.heap.size)
    (s1 : Apn.Src w 1 a1 n1 (texts.map Value.string)) (hl12 : n1 ≤ 8796093022207) :
    Calls Tryz.prog 4 #[cfg c, .slice a1 n1 c1, .slice ao nf cap] w fun e w' => e = .returned (.bool true) ∧ Below w.heap.size w w' := by
  have hS0 := Sits.new w 23 #[.int .i64 (c 0), .int .i64 (c 1), .int .i64 (c 2), .int .i64 (c 3), .int .i64 (c 4), .int .i64 (c 5)]
  have HB0 := hide (below_new (w := w) (.cells #[.int .i64 (c 0), .int .i64 (c 1), .int .i64 (c 2), .int .i64 (c 3), .int .i64 (c 4), .int .i64 (c 5)] 23))
  have HF1 := hide (fitW c hc)
  have HOP := hide (fit_ok c)
  have HT := hide hT
  have HE := hide (And.intro hE hEG)
  have HS1 := hide s1
  have HN1 := hide hn1
  have HFL := hide (And.intro hfl hsrc)
  have HNF := hide hnf
  obtain ⟨i0, hi, hz0, hz1, hz2⟩ := info_parts infoStr
  generalize fitc c = p at *
  clear hc hT hE hEG s1 hn1 hfl hsrc hnf
  unfold cfg at HF1 ⊢
  go_enter Tryz.func4, Tryz.ntmps4
  go_wp2_with fail
  generalize w.alloc (.cells #[.int .i64 (c 0), .int .i64 (c 1), .int .i64 (c 2), .int .i64 (c 3), .int .i64 (c 4), .int .i64 (c 5)] 23) = w0 at *
  obtain ⟨B0, hBe⟩ : ∃ B0, w.heap.size = B0 := ⟨_, rfl⟩
  rw [hBe] at hS0
  rw [hBe]
  clear hBe
  obtain ⟨c0, c1', c2', c3, c4, c5⟩ := cells6 hS0
  clear hS0
  go_wp2_with fail
  refine (HF1.out w0).mono ?_
  rintro e w1 ⟨rfl, hb1⟩
  have HB1 := hide (HB0.out.trans (hb1.mono HB0.out.size))
  have HP2 := hide (Sits.new w1 23 #[.int .i64 (p 0), .int .i64 (p 1), .int .i64 (p 2), .int .i64 (p 3), .int .i64 (p 4), .int .i64 (p 5)])
  have HB2 := hide (HB1.out.alloc HB1.out.size (.cells #[.int .i64 (p 0), .int .i64 (p 1), .int .i64 (p 2), .int .i64 (p 3), .int .i64 (p 4), .int .i64 (p 5)] 23))
  obtain ⟨P, hP⟩ : ∃ P, w1.heap.size = P := ⟨_, rfl⟩
  rw [hP] at HP2
  clear c0 c1' c2' c3 c4 c5 hb1
  go_upto_region 2 with fail
  generalize w1.alloc (.cells #[.int .i64 (p 0), .int .i64 (p 1), .int .i64 (p 2), .int .i64 (p 3), .int .i64 (p 4), .int .i64 (p 5)] 23) = wb at *
  clear hP HF1 HB1
  have HTB := hide (HT.out.below HB2.out)
  have HEB := hide (HE.out.1.below HB2.out HE.out.2)
  go_wp2_with fail
  refine (new wb).mono ?_
  rintro e w3 ⟨rfl, rfl⟩
  have HS3 := hide (Sits.new wb 55 #[.slice none 0 0, .int .i64 (-1), .int .i64 (-1)])
  have HB3 := hide (below_new (w := wb) (.cells #[.slice none 0 0, .int .i64 (-1), .int .i64 (-1)] 55))
  generalize wb.alloc (.cells #[.slice none 0 0, .int .i64 (-1), .int .i64 (-1)] 55) = w3 at *
  obtain ⟨bx, hbx⟩ : ∃ bx, wb.heap.size = bx := ⟨_, rfl⟩
  rw [hbx] at HS3 ⊢
  have HBX := hide hbx
  clear hbx
  have hPD : PD w3 bx Dm.fresh (bx + 1) 0 [] := ⟨HS3.out, rfl, fun e => absurd rfl e, fun i b s h => (by cases h), by simp, fun e => absurd rfl e⟩
  have HPD := hide hPD
  clear hPD
  go_wp2_with fail
  refine (newSink w3).mono ?_
  rintro e w3s ⟨rfl, rfl⟩
  have HK3 := hide (show SK (w3.alloc (.cells #[.map none] 87)) w3.heap.size none [] from ⟨Sits.new w3 _ _, rfl⟩)
  have HB3s := hide (below_new (w := w3) (.cells #[.map none] 87))
  have HKL := hide HB3.out.size
  have HKS := hide (show w3.heap.size < (w3.alloc (.cells #[.map none] 87)).heap.size by simp)
  generalize w3.alloc (.cells #[.map none] 87) = w3s at *
  have HKB := hide (show bx < w3.heap.size from HS3.out.lt)
  obtain ⟨K, hK⟩ : ∃ K, w3.heap.size = K := ⟨_, rfl⟩
  rw [hK] at HK3 HKL HKS HKB ⊢
  clear hK
  have HBs := hide (HB3.out.trans (HB3s.out.mono HB3.out.size))
  have hst := startD p HOP.out bx (bx + 1) 0 [] Dm.fresh w3s (HPD.out.keep HB3s.out) rfl rfl
  unfold cfg at hst
  have HP3 := hide (Mem.Sits.below HP2.out HBs.out HP2.out.lt)
  obtain ⟨p0, p1, p2, p3, p4, p5⟩ := cells6 HP3.out
  clear HP3 HPD
  go_wp2_with fail
  refine hst.mono ?_
  clear hst p0 p1 p2 p3 p4 p5
  rintro e w4 ⟨X, q, rfl, hda, hqb, hdf, hb4⟩
  have HDA := hide hda
  have HQB := hide hqb
  have HDF := hide (show ∀ b ∈ df X q, wb.heap.size ≤ b ∧ b ≠ K from fun b hb => (hdf b hb).elim (fun e => by
    have h1 : b = bx := by simpa [pf] using e
    have h2 := HBX.out
    have h3 := HKB.out
    omega) fun e => by
    have h1 := HBs.out.size
    have h2 := HKS.out
    omega)
  have HB4 := hide (HBs.out.trans (hb4.mono HBs.out.size))
  have HK4 := hide (HK3.out.keep hb4)
  clear hda hqb hdf hb4 HS3 HB3 HB3s HBs HKB HKS HK3
  go_upto_region 7 with fail
  have HO5 := hide (row_one w4 (.string ⟨#[97, 58, 49, 124, 99]⟩) 9)
  have HB5 := hide (below_new (w := w4) (.cells #[.string ⟨#[97, 58, 49, 124, 99]⟩] 9))
  have HW4 := hide (HB2.out.trans (HB4.out.mono HB2.out.size))
  have HR5 := hide (src_keep HS1.out ((HW4.out.trans (HB5.out.mono HW4.out.size))))
  go_wp2_with (at_builtin; (refine Apn.wpList_own _ rfl _ _ 24 rfl w4.heap.size 9 i0 (.string ⟨#[]⟩) 1 16 Tryz.underlying24 hi hz0 hz1 hz2 rfl (by decide) (.slice (some ⟨w4.heap.size, 0, none⟩) 1 1) 1 [.string ⟨#[97, 58, 49, 124, 99]⟩] rfl HO5.out a1 n1 c1 (texts.map Value.string) rfl HR5.out (by unfold maxLen; omega) (by omega) HB5.out.size ?_
                            intro v7 w7 hown7 hg7 hn7
                            obtain ⟨ao7, cv7, rfl⟩ := Own.shape hown7
                            have HB7 := hide (Own.below_grown HB5.out HB5.out.size HO5.out hg7)
                            have HO7 := hide hown7
                            clear hown7 hg7 hn7 HO5 HR5))
  obtain ⟨l, hle⟩ : ∃ l : List ByteArray, (⟨#[97, 58, 49, 124, 99]⟩ : ByteArray) :: texts = l := ⟨_, rfl⟩
  have hll : l.length = 1 + n1 := by
    rw [← hle, List.length_cons, HN1.out]
    omega
  have hlm : [Value.string ⟨#[97, 58, 49, 124, 99]⟩] ++ texts.map Value.string = l.map Value.string := by
    rw [← hle, List.map_cons]
    rfl
  have hrow := own_base HO7.out (Nat.zero_le _)
  rw [hlm, ← hll] at hrow
  have hsh := shortL w7 ao7 cv7 l hrow (by omega)
  rw [hll] at hsh
  have HLC := hide (show (l.map cut256).length = 1 + n1 by rw [List.length_map, hll])
  have HCS := hide (show ∀ s ∈ l.map cut256, s.size ≤ 256 from fun s hs => by
    obtain ⟨t, _, rfl⟩ := List.mem_map.1 hs
    exact cut256_size t)
  generalize l.map cut256 = L at *
  clear hle hll hlm hrow HO7 hi hz0 hz1 hz2
  refine hsh.mono ?_
  clear hsh
  rintro e w8 ⟨av, ac, rfl, hrow8, hb8⟩
  obtain ⟨N, hN⟩ : ∃ N, 1 + n1 = N := ⟨_, rfl⟩
  rw [hN] at hrow8 HLC ⊢
  have HNN := hide (show 0 < N by omega)
  clear hN
  have HB8 := hide (HB7.out.trans (hb8.mono HB7.out.size))
  have HGT := hide (show ∀ g ∈ (Value.slice av N ac).ownBlock.toList, w4.heap.size ≤ g from fun g hg => by
    have h2 := (World.ownsRow.lt hrow8 g (by simpa using hg)).1
    have h3 := HB7.out.size
    omega)
  have HLZ := hide (show LZ wb bx X K (.slice av N ac) L none [] w8 (D0 p Dm.fresh) q by
    refine ⟨⟨HDA.out.keep HB8.out, HQB.out, fun b hb => (HDF.out b hb).1, fun g hg hm => ?_, HB4.out.trans (HB8.out.mono HB4.out.size), by rw [HLC.out]; exact own_base hrow8 (Nat.zero_le _)⟩, HK4.out.keep HB8.out, fun b hb => ?_, fun b hb hm => ?_, fun b hb hm => ?_⟩
    · have h1 := HDA.out.lt g hm
      have h2 := HGT.out g hg
      omega
    · have h1 : b = K := by simpa using hb
      rw [h1]
      exact HKL.out
    · have h1 : b = K := by simpa using hb
      exact (HDF.out b hm).2 h1
    · have h1 : b = K := by simpa using hb
      have h2 := HGT.out b hm
      have h3 := HK4.out.head.lt
      omega)
  clear hrow8 hb8 HB5 HB7 HB8 HB4 HDA HQB HDF HS1 HW4 hl12 HK4 HKL
  go_upto_if 49 with fail
  go_cut [12] (fun s12 wx => ∃ (N' : Nat) (L' : List ByteArray), s12 = .slice av N' ac ∧ Hid (Lay wb bx X K p (.slice av N' ac) N' L' wx q))
  case first =>
    obtain ⟨s0, hs0⟩ : ∃ s0, L[0]? = some s0 := ⟨_, List.getElem?_eq_getElem (by rw [HLC.out]; exact HNN.out)⟩
    obtain ⟨g, cp, hv, hcap, _, _⟩ := row_cell HLZ.out.lp.row (i := 0) (u := .string s0) (by rw [List.getElem?_map, hs0]; rfl)
    rw [HLC.out] at hv hcap
    injection hv with v1 v2 v3
    clear v2 hs0
    subst v1
    subst v3
    by_cases h50 : 50 < N
    · have hz : (50 : Int) < (N : Int) := by omega
      have hz2 : (50 : Int) ≤ (ac : Int) := by omega
      have HY := hide (show Lay wb bx X K p (.slice (some ⟨g, 0, none⟩) 50 ac) 50 (L.take 50) w8 q from ⟨HLZ.out.short HLC.out (by omega) (by omega), by rw [List.length_take, HLC.out]; omega, by omega, by omega, fun s hs => HCS.out s (List.mem_of_mem_take hs)⟩)
      go_wp2_with fail
      go_meet
      exact ⟨50, L.take 50, rfl, HY⟩
    · have hz : ¬ (50 : Int) < (N : Int) := by omega
      have HY := hide (show Lay wb bx X K p (.slice (some ⟨g, 0, none⟩) N ac) N L w8 q from ⟨HLZ.out, HLC.out, by omega, HNN.out, HCS.out⟩)
      go_wp2_with fail
      go_meet
      exact ⟨N, L, rfl, HY⟩
  case rest =>
    obtain ⟨N', L', rfl, HY⟩ := hcut
    clear HLZ HLC HCS HNN HGT
    have hN50 := HY.out.top
    have HLC := hide HY.out.len
    have HCS := hide HY.out.short
    have HPH := hide (Rd1.begin p HOP.out L')
    have hp0 : 1 ≤ p 0 ∧ p 0 ≤ 1000 := HOP.out.w
    have HP0 := hide hp0
    clear hp0
    go_wp2_with fail
    go_loopw [8, 10, 11, 13] (fun s8 s10 s11 s13 wr => ∃ (i b x : Nat) (D : Dn) (q : Pl) (mb : Option Nat), s8 = .pointer (some ⟨b, 0, none⟩) ∧ s10 = .pointer (some ⟨x, 0, none⟩) ∧ s11 = .int .i64 0 ∧ s13 = .int .i64 (i : Int) ∧ i ≤ N' ∧ Hid (LZ wb b x K (.slice av N' ac) L' mb (sunk p L' i) wr D q) ∧ Hid (Rd1 p L' i D)) (fun _ _ _ s _ => N' - (intOf s).toNat)
    case atStart => exact ⟨0, bx, X, _, q, none, rfl, rfl, rfl, rfl, Nat.zero_le _, HY.out.lz, HPH.out⟩
    case round =>
      obtain ⟨i, b1, X1, D, q1, mb, rfl, rfl, rfl, rfl, hiN, HL, HH⟩ := hrel
      by_cases hi : i < N'
      · have hiz : (i : Int) < (N' : Int) := by omega
        obtain ⟨s, hs⟩ : ∃ s, L'[i]? = some s := ⟨_, List.getElem?_eq_getElem (by rw [HLC.out]; exact hi)⟩
        obtain ⟨g, cp, hv, hcap, _, hcell⟩ := row_cell HL.out.lp.row (i := i) (u := .string s) (by rw [List.getElem?_map, hs]; rfl)
        rw [HLC.out] at hv
        injection hv with e1 e2 e3
        clear e2
        subst e1
        subst e3
        have hs2 := HCS.out s (List.mem_of_getElem? hs)
        obtain ⟨ds, n, hok, hnn⟩ := HH.out.ok (by omega)
        have hpk := packetD wb wr HTB.out HL.out.lp.bl X1 D q1 ds n HL.out.lp.da HL.out.lp.far hok (by omega) s hs2
        have HPK := hide (HH.out.packet HOP.out (by omega) hs hs2)
        clear hok hs2 hs hcap
        go_wp2_with fail
        refine hpk.mono ?_
        clear hpk hcell
        rintro e w9 ⟨rfl, hq9⟩
        obtain ⟨q9, hlp9⟩ := HL.out.call hq9
        have HL9 := hide hlp9
        clear hq9 hlp9 HL HH
        obtain ⟨ds9, m9, hok9, hm9⟩ := HPK.out.ok (by omega)
        obtain ⟨D2, hD2, hsl⟩ := HPK.out.clock HOP.out (by omega)
        have hck := clockD wb w9 HTB.out HL9.out.lp.bl X1 _ q9 ds9 m9 HL9.out.lp.da HL9.out.lp.far hok9 (by omega) (((i : Int) + 1) * p 0)
        rw [hD2] at hck
        have HSL := hide hsl
        have p0 := (cells6 (Mem.Sits.below HP2.out HL9.out.lp.bl HP2.out.lt)).1
        have hmb := mul_bound HP0.out (i := i) (by omega)
        obtain ⟨T, hTe⟩ : ∃ T, ((i : Int) + 1) * p 0 = T := ⟨_, rfl⟩
        rw [hTe] at hmb hck
        have hT1 : T ≤ 51000 := hmb.2.1
        have hT2 : 0 < T := hmb.2.2
        have hi' : i < 50 := by omega
        clear hok9 hD2 hsl hmb HPK
        go_wp2_with fail
        refine hck.mono ?_
        clear hck p0
        rintro e w10 ⟨rfl, hq10⟩
        obtain ⟨q10, hlp10⟩ := HL9.out.call hq10
        have HL10 := hide hlp10
        clear hq10 hlp10 HL9
        go_upto_if 80 with fail
        go_cut [16] (fun s16 wx => ∃ h : Int, s16 = .int .i64 h ∧ Hid (0 ≤ h ∧ h < 8) ∧ wx = w10)
        case first =>
          by_cases hif : i < nf
          · have hiz2 : (i : Int) < (nf : Int) := by omega
            obtain ⟨x, hx⟩ : ∃ x, fl[i]? = some x := ⟨_, List.getElem?_eq_getElem (by rw [HNF.out]; exact hif)⟩
            obtain ⟨gf, off, hao, hgl, hcf⟩ := HFL.out.2 i x hx
            have hxr := HFL.out.1 x (List.mem_of_getElem? hx)
            have hcf2 : w10.cell? ⟨gf, off + i, none⟩ = some (.int .i64 x) := by
              have hb := HB2.out.trans (HL10.out.lp.bl.mono HB2.out.size)
              rw [hb.cell (p := ⟨gf, off + i, none⟩) hgl]
              exact hcf
            subst hao
            have hpi := pickW x 8 hxr.1 hxr.2 (by omega) (by omega) w10
            have HRG := hide (pk_range (c := x) (n := 8) (by omega))
            clear hx hcf hxr hgl
            go_wp2_with fail
            refine hpi.mono ?_
            clear hpi
            rintro e wx ⟨rfl, rfl⟩
            go_wp2_with fail
            go_meet
            exact ⟨_, rfl, HRG, rfl⟩
          · have hiz2 : ¬ (i : Int) < (nf : Int) := by omega
            go_wp2_with fail
            go_meet
            exact ⟨0, rfl, ⟨by omega, by omega⟩, rfl⟩
        case rest =>
          obtain ⟨h, rfl, HHR, hwc⟩ := hcut
          subst hwc
          have hh8 := HHR.out
          go_upto_if 88 with fail
          go_cut [8, 10, 11, 15] (fun s8 s10 s11 s15 wx => ∃ (b x : Nat) (D : Dn) (q : Pl), s8 = .pointer (some ⟨b, 0, none⟩) ∧ s10 = .pointer (some ⟨x, 0, none⟩) ∧ s11 = .int .i64 0 ∧ s15 = .int .i64 0 ∧ Hid (LZ wb b x K (.slice (some ⟨g, 0, none⟩) N' ac) L' mb (sunk p L' i) wx D q) ∧ Hid (Sl1 p L' i D))
          case first =>
            by_cases hodd : h % 2 = 1
            · have hob : (h % 2 == 1) = true := by simp [hodd]
              obtain ⟨ds, n, hok, hnn⟩ := HSL.out.ok (by omega)
              obtain ⟨R, H, m, j1, j2, j3, j4, j5, D3, j6, j7⟩ := HSL.out.whole HOP.out hi' h
              have hfit := fit_of hok.calm.good
              have hfk1 := hok.segs
              have hfu1 := hok.used
              have hcp := copiedL wc q10.bx q10.ba q10.cap q10.bs D2.S HL10.out.lp.da.pd _ _ hfit (by omega) (by omega) h
              rw [HL10.out.lp.bx, j1] at hcp
              have HFC := hide (And.intro hfit hok.calm.left)
              have HJ2 := hide j2
              have HJ3 := hide j3
              have HJ5 := hide j5
              have HJ6 := hide j6
              have HJ7 := hide j7
              have hsg : D2.S.segs.length ≤ 20000 := by omega
              clear hok hfit hfk1 hfu1 j1 j2 j3 j5 j6 j7
              go_wp2_with fail
              refine hcp.mono ?_
              clear hcp
              rintro e w11 ⟨nb, ba', cap', bs', rfl, hP11, hnew11, ho11⟩
              have HO11 := hide (show Off (q10.bx :: q10.bs) wc w11 by rw [HL10.out.lp.bx]; exact ho11)
              have hb11 := (HL10.out.lp.copy HO11.out).2
              have hst := startR wb w11 HTB.out HEB.out hb11 p HOP.out nb ba' cap' bs' D2.S hP11 (fun b hb => Nat.le_trans HL10.out.lp.bl.size (hnew11 b hb)) HFC.out.2 _ _ HFC.out.1 (by omega) R H HJ2.out (HJ3.out.dgok (by omega)) HJ3.out.dg (by have := HJ5.out; omega)
              unfold cfg at hst
              have HN11 := hide hnew11
              obtain ⟨p0, p1, p2, p3, p4, p5⟩ := cells6 (Mem.Sits.below HP2.out hb11 HP2.out.lt)
              clear hP11 hb11 hnew11 ho11
              go_wp2_with fail
              refine hst.mono ?_
              clear hst p0 p1 p2 p3 p4 p5
              rintro e w12 ⟨X2, q2, rfl, hda12, hqb12, hdf12, ho12⟩
              have HL12 := hide (HL10.out.again HO11.out HN11.out hda12 hqb12 hdf12 ho12)
              clear hda12 hqb12 hdf12 ho12 HN11 HO11 HL10
              generalize Dof p D2.S H = D4 at *
              have hck := clockD wb w12 HTB.out HL12.out.lp.bl X2 D4 q2 _ m HL12.out.lp.da HL12.out.lp.far HJ3.out.ok (by omega) T
              rw [hTe] at HJ6
              rw [HJ6.out] at hck
              have p0 := (cells6 (Mem.Sits.below HP2.out HL12.out.lp.bl HP2.out.lt)).1
              go_wp2_with fail
              refine hck.mono ?_
              clear hck p0
              rintro e w13 ⟨rfl, hq13⟩
              obtain ⟨q13, hlp13⟩ := HL12.out.call hq13
              have HL13 := hide hlp13
              clear hq13 hlp13 HL12
              go_wp2_with fail
              go_meet
              exact ⟨nb, X2, _, q13, rfl, rfl, rfl, rfl, HL13, HJ7⟩
            · have hob : (h % 2 == 1) = false := by simp [hodd]
              go_wp2_with fail
              go_meet
              exact ⟨b1, X1, _, q10, rfl, rfl, rfl, rfl, HL10, HSL⟩
          case rest =>
            obtain ⟨b2, X2, D3, q3, rfl, rfl, rfl, rfl, HL3, HS3⟩ := hcut
            clear HL10 HSL
            obtain ⟨r, hdu, hr⟩ := HS3.out.due
            obtain ⟨ms, hms⟩ : ∃ ms, D3.due = ms := ⟨_, rfl⟩
            rw [hms] at hdu
            have hmlen : ms.length = r.length + 1 := by rw [hdu]; simp
            obtain ⟨ds3, n3, hok3, hnn3⟩ := HS3.out.ok (by omega)
            have hd3 := hok3.dues
            rw [hms] at hd3
            have hduD := dueD wc X2 D3 q3 HL3.out.lp.da (by rw [hms]; omega)
            rw [hms] at hduD
            have HMS := hide hms
            have HDU := hide hdu
            have HR := hide hr
            have HOK3 := hide hok3
            obtain ⟨M, hM⟩ : ∃ M, ms.length = M := ⟨_, rfl⟩
            rw [hM] at hmlen hd3 hduD
            have HM := hide hM
            have HMR := hide hmlen
            have hM0 : 0 < M := by omega
            have hMb : M ≤ 20000 := by omega
            clear hms hdu hr hok3 hmlen hM hd3
            go_wp2_with fail
            refine hduD.mono ?_
            clear hduD
            rintro e w14 ⟨v14, rfl, hv14, hb14⟩
            have HL4 := hide (HL3.out.keep hb14)
            have HSZ14 := hide hb14.size
            obtain ⟨m0, hm0⟩ : ∃ m0, ms[0]? = some m0 := ⟨_, List.getElem?_eq_getElem (by rw [HM.out]; exact hM0)⟩
            obtain ⟨gm, cm, hvm, hcm, _, _⟩ := row_cell hv14 (i := 0 * 2) (u := .int .i64 m0.k) (mcells_at hm0).1
            subst hvm
            have HGM := hide (World.ownsRow.lt hv14 gm rfl)
            have HMRW := hide (show MR w14 K mb (.slice (some ⟨gm, 0, none⟩) M cm) ms from ⟨by rw [HM.out]; exact own_base hv14 (Nat.zero_le _), fun b hb hm => by
              have h1 : b = gm := by simpa [Value.ownBlock] using hm
              have h2 := sk_lt HL3.out.sk b hb
              have h3 := HGM.out.1
              omega⟩)
            have hlast : ms[M - 1]? = some (mg p L' i) := by
              rw [HDU.out, show M - 1 = r.length by have := HMR.out; omega]
              exact List.getElem?_concat_length
            have hrowM := HMRW.out.row
            rw [HM.out] at hrowM
            have hlc := (msg_at hrowM hlast).1
            have hlc2 : w14.cell? ⟨gm, (M - 1) * 2, none⟩ = some (.int .i64 (i : Int)) := hlc
            have hMz : ((M : Int) == 0) = false := by
              simp
              omega
            have hMn : ¬ (M : Int) = 0 := by omega
            have hMs : ((M - 1 : Nat) : Int) = (M : Int) - 1 := by omega
            clear hv14 hb14 HL3 hlc hrowM hlast hm0
            go_upto_region 31 with fail
            clear hlc2 hMz hMn hMs
            go_wp2_with fail
            go_loopw [18] (fun s18 wz => ∃ (j : Nat) (mb2 : Option Nat), s18 = .int .i64 (j : Int) ∧ j ≤ M ∧ Hid (LZ wb b2 X2 K (.slice (some ⟨g, 0, none⟩) N' ac) L' mb2 (if j < M then sunk p L' i else sunk p L' (i + 1)) wz D3 q3) ∧ Hid (MR wz K mb2 (.slice (some ⟨gm, 0, none⟩) M cm) ms)) (fun s _ => M - (intOf s).toNat)
            case atStart => exact ⟨0, mb, rfl, Nat.zero_le _, by rw [if_pos hM0]; exact HL4, HMRW⟩
            case round =>
              obtain ⟨j, mb2, rfl, hjM, HLJ, HMJ⟩ := hrel
              by_cases hj : j < M
              · have hjz : (j : Int) < (M : Int) := by omega
                obtain ⟨mj, hmj⟩ : ∃ mj, ms[j]? = some mj := ⟨_, List.getElem?_eq_getElem (by rw [HM.out]; exact hj)⟩
                have hrowM := HMJ.out.row
                rw [HM.out] at hrowM
                obtain ⟨k0, k1⟩ := msg_at hrowM hmj
                have hlzj := HLJ.out
                rw [if_pos hj] at hlzj
                have htk : Calls Tryz.prog 18 #[.pointer (some ⟨K, 0, none⟩), mv mj] wr fun e w' => ∃ (ev : Int) (mb3 : Option Nat), e = .returned (.int .i64 ev) ∧ Hid (LZ wb b2 X2 K (.slice (some ⟨g, 0, none⟩) N' ac) L' mb3 (if j + 1 < M then sunk p L' i else sunk p L' (i + 1)) w' D3 q3) ∧ Hid (MR w' K mb3 (.slice (some ⟨gm, 0, none⟩) M cm) ms) := by
                  have hlr : r.length + 1 = M := HMR.out.symm
                  have hkk : (j + 1 < M ∧ ∃ k, k < i ∧ mj = mg p L' k) ∨ (¬ j + 1 < M ∧ mj = mg p L' i) := by
                    rw [HDU.out] at hmj
                    by_cases h1 : j < r.length
                    · rw [List.getElem?_append_left h1] at hmj
                      exact Or.inl ⟨by omega, HR.out mj (List.mem_of_getElem? hmj)⟩
                    · obtain rfl : j = r.length := by omega
                      rw [List.getElem?_concat_length] at hmj
                      exact Or.inr ⟨by omega, (Option.some.inj hmj).symm⟩
                  have hwf : (Lit.int .i64 mj.k).wf = true := by
                    rcases hkk with ⟨_, k, hk, e⟩ | ⟨_, e⟩
                    · rw [e]
                      exact wf_int (show -9223372036854775808 ≤ (k : Int) by omega) (show (k : Int) ≤ 9223372036854775807 by omega)
                    · rw [e]
                      exact wf_int (show -9223372036854775808 ≤ (i : Int) by omega) (show (i : Int) ≤ 9223372036854775807 by omega)
                  refine (take K mb2 (sunk p L' i) mj hwf wr hlzj.sk (by rw [sunk_len]; unfold maxLen; omega)).mono ?_
                  rintro e w' (⟨h1, rfl, h3⟩ | ⟨h1, rfl, h3, b, h4, h5⟩)
                  · rcases hkk with ⟨h6, _⟩ | ⟨_, e⟩
                    · exact ⟨10, mb2, rfl, by rw [if_pos h6]; exact hlzj.keep h3, HMJ.out.keep h3⟩
                    · rw [e] at h1
                      exact absurd h1 (sunk_not p L' i)
                  · rcases hkk with ⟨_, k, hk, e⟩ | ⟨h6, e⟩
                    · rw [e] at h1
                      exact absurd (sunk_has p L' hk) h1
                    · rw [e, sunk_next] at h4
                      exact ⟨0, some b, rfl, by rw [if_neg h6]; exact hlzj.took h3 h4 h5, HMJ.out.took h3 h5⟩
                unfold mv at htk
                clear hlzj hrowM hmj
                go_wp2_with fail
                refine htk.mono ?_
                clear htk k0 k1
                rintro e wk ⟨ev, mb3, rfl, HLK, HMK⟩
                go_wp2_with fail
                go_roundw
                case rel => exact ⟨j + 1, mb3, by go_num, by omega, HLK, HMK⟩
                case measure => simp only [intOf]; omega
              · have hjz : ¬ (j : Int) < (M : Int) := by omega
                have hlz5 := HLJ.out
                rw [if_neg hj] at hlz5
                have HL5 := hide hlz5
                clear hlz5 HLJ HL4
                obtain ⟨m0, r0, hmr⟩ : ∃ m0 r0, ms = m0 :: r0 := by
                  cases ms with
                  | nil => exact absurd HM.out (by simp; omega)
                  | cons m0 r0 => exact ⟨m0, r0, rfl⟩
                by_cases h4 : 4 ≤ h
                · obtain ⟨hin, hrd⟩ := HS3.out.ack (by omega) (HMS.out.trans hmr)
                  have hrng : 0 ≤ m0.k ∧ m0.k ≤ 1000000000 := by
                    have h1 := HOK3.out.low m0 (by rw [HMS.out, hmr]; exact List.mem_cons_self ..)
                    have h2 := HOK3.out.lt m0 (by rw [HMS.out, hmr]; exact List.mem_cons_self ..)
                    have h3 := HOK3.out.num
                    omega
                  have hak := ackD wb wr HTB.out HL5.out.lp.bl X2 D3 q3 ds3 n3 HL5.out.lp.da HL5.out.lp.far HOK3.out (by omega) m0.k (by omega) (by omega)
                  rw [if_pos hin, if_pos hin] at hak
                  have hrowM := HMJ.out.row
                  rw [HM.out] at hrowM
                  have k0 := (msg_at (i := 0) hrowM (by rw [hmr]; rfl)).1
                  have k0' : wr.cell? ⟨gm, 0, none⟩ = some (.int .i64 m0.k) := by simpa using k0
                  have HRD := hide hrd
                  clear k0 hrowM hin hrd hmr
                  go_wp2_with fail
                  refine hak.mono ?_
                  clear hak k0'
                  rintro e w16 ⟨rfl, hq16⟩
                  obtain ⟨q16, hlp16⟩ := HL5.out.call hq16
                  have HL16 := hide hlp16
                  clear hq16 hlp16 HL5
                  go_wp2_with fail
                  refine ⟨⟨i + 1, b2, X2, _, q16, mb2, rfl, rfl, rfl, by go_num, by omega, HL16, HRD⟩, ?_⟩
                  simp only [intOf]
                  omega
                · have h4' : h < 4 := by omega
                  have HRD := hide HS3.out.next
                  clear hmr
                  go_wp2_with fail
                  refine ⟨⟨i + 1, b2, X2, _, q3, mb2, rfl, rfl, rfl, by go_num, by omega, HL5, HRD⟩, ?_⟩
                  simp only [intOf]
                  omega
      · have hiz : ¬ (i : Int) < (N' : Int) := by omega
        obtain rfl : i = N' := by omega
        have htn := taken K mb (sunk p L' i) (sunk_rise p L' i) wr HL.out.sk (by rw [sunk_len]; omega)
        rw [sunk_len] at htn
        go_wp2_with fail
        refine htn.mono ?_
        clear htn
        rintro e w20 ⟨v20, rfl, hv20, hb20⟩
        have HL20 := hide (HL.out.keep hb20)
        have HN0 := hide HY.out.pos
        obtain ⟨gg, cg, hvg, hcg, _, _⟩ := row_cell hv20 (i := 0 * 2) (u := .int .i64 (mg p L' 0).k) (mcells_at (sunk_at p L' HN0.out)).1
        subst hvg
        have HG20 := hide (own_base hv20 (Nat.zero_le _))
        obtain ⟨s0, hs0⟩ : ∃ s0, L'[0]? = some s0 := ⟨_, List.getElem?_eq_getElem (by rw [HLC.out]; exact HN0.out)⟩
        obtain ⟨g, cp, hv, hcap, _, _⟩ := row_cell HL20.out.lp.row (i := 0) (u := .string s0) (by rw [List.getElem?_map, hs0]; rfl)
        rw [HLC.out] at hv hcap
        injection hv with e1 e2 e3
        clear e2 hs0
        subst e1
        subst e3
        clear hv20 hb20 HL HH HPH
        go_wp2_with fail
        go_loopw [20] (fun s20 wz => ∃ (j : Nat), s20 = .int .i64 (j : Int) ∧ j ≤ i ∧ Hid (Below w20.heap.size w20 wz)) (fun s _ => i - (intOf s).toNat)
        case atStart => exact ⟨0, rfl, Nat.zero_le _, Below.refl _ _⟩
        case round =>
          obtain ⟨j, rfl, hjN, HBJ⟩ := hrel
          by_cases hj : j < i
          · have hjz : (j : Int) < (i : Int) := by omega
            have hj1 : (j : Int) + 1 ≤ (ac : Int) := by omega
            have hj2 : (j : Int) ≤ (j : Int) + 1 := by omega
            go_upto_region 45 with fail
            have HLJ := hide (HL20.out.keep HBJ.out)
            have HPS := hide (fun s : Bw wr => cells6 (Mem.Sits.below HP2.out (HLJ.out.lp.bl.trans (s.is.mono HLJ.out.lp.bl.size)) HP2.out.lt))
            have C0 : ∀ s : Bw wr, s.val.cell? ⟨P, 0, none⟩ = some (.int .i64 (p 0)) := fun s => (HPS.out s).1
            have C1 : ∀ s : Bw wr, s.val.cell? ⟨P, 1, none⟩ = some (.int .i64 (p 1)) := fun s => (HPS.out s).2.1
            have C2 : ∀ s : Bw wr, s.val.cell? ⟨P, 2, none⟩ = some (.int .i64 (p 2)) := fun s => (HPS.out s).2.2.1
            have C3 : ∀ s : Bw wr, s.val.cell? ⟨P, 3, none⟩ = some (.int .i64 (p 3)) := fun s => (HPS.out s).2.2.2.1
            have C4 : ∀ s : Bw wr, s.val.cell? ⟨P, 4, none⟩ = some (.int .i64 (p 4)) := fun s => (HPS.out s).2.2.2.2.1
            have C5 : ∀ s : Bw wr, s.val.cell? ⟨P, 5, none⟩ = some (.int .i64 (p 5)) := fun s => (HPS.out s).2.2.2.2.2
            obtain ⟨sj, hsj⟩ : ∃ sj, L'[j]? = some sj := ⟨_, List.getElem?_eq_getElem (by rw [HLC.out]; exact hj)⟩
            have hszj := HCS.out sj (List.mem_of_getElem? hsj)
            have HSM := hide (fun s : Bw wr => call_cls (sumT p HOP.out (j : Int) (.slice (some ⟨g, j, none⟩) 1 (ac - j)) [sj] s.val (row_nth (own_keep HLJ.out.lp.row s.is) HLC.out hsj (by omega)) ((HTB.out.below HLJ.out.lp.bl).below s.is) (by simp only [wt, List.map_cons, List.map_nil, List.sum_cons, List.sum_nil]; omega) (by omega) (by omega)))
            unfold cfg at HSM
            have HMJ := hide (show (mg p L' j).t = tx p (j : Int) [sj] by unfold mg; rw [nth_of hsj])
            clear hsj hszj
            refine region_cls (by kernel_rfl) (by kernel_rfl) ?_
            repeat (first
              | go_big_quiet_skip
              | (go_big_quiet_want; go_big_quiet_op; first | go_big_quiet_on | (apply Exists.intro; refine ⟨fun _ => ?_, ?_⟩; (go_at_call 13; exact HSM.out _); go_big_quiet_on)))
            refine wpQuiet_nil ?_
            rintro _ ⟨s, rfl⟩
            have HBS := hide (HBJ.out.trans (s.is.mono HBJ.out.size))
            clear C0 C1 C2 C3 C4 C5 HPS HSM
            generalize s.val = w21 at *
            obtain ⟨k0, k1⟩ := msg_at (own_keep HG20.out HBS.out) (sunk_at p L' hj)
            rw [HMJ.out] at k1
            have k0' : w21.cell? ⟨gg, j * 2, none⟩ = some (.int .i64 (j : Int)) := k0
            generalize tx p (j : Int) [sj] = T2 at *
            clear k0 hj1 hj2
            go_wp2_with fail
            go_roundw
            case rel => exact ⟨j + 1, by go_num, by omega, HBS⟩
            case measure => simp only [intOf]; omega
          · have hjz : ¬ (j : Int) < (i : Int) := by omega
            have HBF := hide (HB2.out.trans (((HL20.out.keep HBJ.out).lp.bl).mono HB2.out.size))
            go_wp2_with fail
            go_ret
            exact ⟨rfl, HBF.out⟩
end Go.Proofs.YtmkidefdegaamaaGreatDoor.Dd
