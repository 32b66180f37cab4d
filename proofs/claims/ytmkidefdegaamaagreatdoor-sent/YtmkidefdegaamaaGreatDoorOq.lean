/- The window that some datagrams come to: all of it is new. -/
import Derived.Test.YtmkidefdegaamaaGreatDoorWzy
namespace Go.Proofs.YtmkidefdegaamaaGreatDoor.Kr
open Go.RowKit Go.Maps Mem Foot Im Wm Hk Hb Hi Hn Plainw Cq Hs Sh Readw Wi Go.Sort Go.Shelf
set_option maxRecDepth 10000 in
set_option maxHeartbeats 4000000 in
theorem summedN (c : Fin 6 → Int) (hc : COk c) (v : Value) (ds : List Bs) (w : World) (hr : Row w v ds) (hz : ∀ d ∈ ds, d.length ≤ 140737488355328) (hn : nls ds ≤ 1000000000000) (hl : ds.length ≤ 1000000000000) :
    Calls Tryz.prog 24 #[cfg c, v] w fun e w' => ∃ (p : WI) (rj dr : Nat) (E : List Ent), e = .returned (.pointer (some ⟨p.P, 0, none⟩)) ∧ WiAt w' p (limOf c) rj dr E ∧ winOf rj dr E = wsum (limOf c) ds ∧ (∀ x ∈ wfoot p E, w.heap.size ≤ x) ∧ Below w.heap.size w w' := by
  obtain ⟨a, cap, rfl, hcap, hrow⟩ := hr
  have hN := Sits.new w 23 #[.int .i64 (c 0), .int .i64 (c 1), .int .i64 (c 2), .int .i64 (c 3), .int .i64 (c 4), .int .i64 (c 5)]
  have HB1 := hide (below_new (w := w) (.cells #[.int .i64 (c 0), .int .i64 (c 1), .int .i64 (c 2), .int .i64 (c 3), .int .i64 (c 4), .int .i64 (c 5)] 23))
  have HC := hide hc
  have HRW := hide hrow
  have HZ := hide hz
  have HNW := hide (newW c hc)
  clear hc hrow hz
  unfold cfg at HNW ⊢
  go_enter Tryz.func24, Tryz.ntmps24
  go_wp2_with fail
  generalize w.alloc (.cells #[.int .i64 (c 0), .int .i64 (c 1), .int .i64 (c 2), .int .i64 (c 3), .int .i64 (c 4), .int .i64 (c 5)] 23) = w1 at *
  obtain ⟨B, hBe⟩ : ∃ B, w.heap.size = B := ⟨_, rfl⟩
  rw [hBe] at hN
  rw [hBe]
  clear hBe
  obtain ⟨c0, c1, c2, c3, c4, c5⟩ := cells6 hN
  clear hN
  go_wp2_with fail
  refine (HNW.out w1).mono ?_
  rintro e w2 ⟨p, rfl, hpc, hw2, hf2, hb2⟩
  have HW2 := hide hw2
  have HF2 := hide hf2
  have HB2 := hide (show Below w.heap.size w w2 from HB1.out.trans (hb2.mono HB1.out.size))
  have HFt := hide (show ∀ x ∈ wfoot p [], w.heap.size ≤ x from fun x hx => Nat.le_trans HB1.out.size (hf2 x hx))
  clear hpc hw2 hf2 hb2 c0 c1 c2 c3 c4 c5
  go_wp2_with fail
  go_loopw [12] (fun i wr => ∃ k : Nat, i = .int .i64 (k : Int) ∧ k ≤ ds.length ∧ Hid (Grew w2 wr p (limOf c) [] ((ds.take k).foldl (wgram (limOf c)) win0))) (fun i _ => ds.length - (intOf i).toNat)
  case atStart => exact ⟨0, rfl, by omega, Grew.refl HW2.out⟩
  case round =>
    obtain ⟨k, rfl, hk, HI⟩ := hrel
    by_cases hkl : k < ds.length
    · have hkz : (k : Int) < (ds.length : Int) := by omega
      obtain ⟨x, hx⟩ : ∃ x, ds[k]? = some x := ⟨_, List.getElem?_eq_getElem hkl⟩
      obtain ⟨g, off, rfl, hgl, cg⟩ := HRW.out k x hx
      obtain ⟨rj, dr, E, k1, k2, k3, k4⟩ := HI.out
      have HB3 := hide (show Below w.heap.size w wr from below_off HB2.out k3 HFt.out HB2.out.size)
      have cgr : wr.cell? ⟨g, off + k, none⟩ = some (.string ⟨x.toArray⟩) := by
        rw [HB3.out.cell (p := ⟨g, off + k, none⟩) hgl]
        exact cg
      have HTK := hide (show ds.take (k + 1) = ds.take k ++ [x] by rw [List.take_add_one, hx]; rfl)
      have hft := wfit_grams HC.out.lim.b0 (ds.take k) (WFit.zero (limOf c))
      rw [← k2, Nat.zero_add] at hft
      have hnk : nls (ds.take k) + (Lib.countByte x 10 + 1) ≤ 1000000000000 := by
        have h1 := nls_take (k + 1) ds
        rw [HTK.out, nls_append] at h1
        simp only [nls] at h1
        omega
      have htg := takeGram p (limOf c) (nls (ds.take k)) rj dr E ⟨x.toArray⟩ wr k1 hft HC.out.lim (by
        rw [Bytes.size_B]
        exact HZ.out x (List.mem_of_getElem? hx)) hnk
      have HK := hide (And.intro k1 (And.intro k2 (And.intro k3 k4)))
      clear hx cg hft k1 k2 k3 k4 hgl hnk
      generalize hxb : (⟨x.toArray⟩ : ByteArray) = xb at *
      have HXB := hide hxb
      clear hxb
      go_wp2_with fail
      refine htg.mono ?_
      clear htg
      rintro e w4 ⟨rfl, hgr, _⟩
      have HGR := hide hgr
      clear hgr cgr
      go_wp2_with fail
      go_roundw
      case rel =>
        obtain ⟨k1, k2, k3, k4⟩ := HK.out
        refine ⟨k + 1, by go_num, by omega, ?_⟩
        have h5 := Grew.more k1 k3 k4 HGR.out
        rw [k2, ← HXB.out] at h5
        show Grew _ _ _ _ _ _
        rw [HTK.out, List.foldl_append]
        exact h5
      case measure => simp only [intOf]; omega
    · have hkz : ¬ (k : Int) < (ds.length : Int) := by omega
      have hk2 : k = ds.length := by omega
      subst hk2
      go_wp2_with fail
      go_ret
      obtain ⟨rj, dr, E, k1, k2, k3, k4⟩ := HI.out
      rw [List.take_length] at k2
      exact ⟨p, rfl, rj, dr, E, k1, k2, fun x hx => (k4 x hx).elim (HFt.out x) fun h => Nat.le_trans HB2.out.size h, below_off HB2.out k3 HFt.out HB2.out.size⟩
end Go.Proofs.YtmkidefdegaamaaGreatDoor.Kr
