/- A daemon's start on an empty disk. -/
import Derived.Test.YtmkidefdegaamaaGreatDoorEay
import Derived.Test.YtmkidefdegaamaaGreatDoorJs
namespace Go.Proofs.YtmkidefdegaamaaGreatDoor.Dd
open Go.RowKit Go.Maps Mem Foot Bytes Im Wm Hi Plainw Cq Dm Dh Jr Wi Sk Hn Kr
def D0 (c : Fin 6 → Int) (S : Dk) : Dn := ⟨c, J0 (c 5), S, 0, 0, 0, win0, [], false⟩
theorem made_due (w : World) : (w.alloc (.map #[] 0)).ownsMap Tryz.prog 3 (exE okM) w.heap.size 0 (Sk.D []) := World.ownsMap_made w Tryz.prog 3 (exE okM)
set_option maxRecDepth 10000 in
set_option maxHeartbeats 1000000 in
theorem summed0 (c : Fin 6 → Int) (hc : COk c) (w : World) :
    Calls Tryz.prog 24 #[cfg c, .slice none 0 0] w fun e w' => ∃ p : WI, e = .returned (.pointer (some ⟨p.P, 0, none⟩)) ∧ WiAt w' p (limOf c) 0 0 [] ∧ (∀ x ∈ wfoot p [], w.heap.size ≤ x) ∧ Below w.heap.size w w' := by
  have hN := Sits.new w 23 #[.int .i64 (c 0), .int .i64 (c 1), .int .i64 (c 2), .int .i64 (c 3), .int .i64 (c 4), .int .i64 (c 5)]
  have HB1 := hide (below_new (w := w) (.cells #[.int .i64 (c 0), .int .i64 (c 1), .int .i64 (c 2), .int .i64 (c 3), .int .i64 (c 4), .int .i64 (c 5)] 23))
  have HNW := hide (fun w => newW c hc w)
  clear hc
  unfold cfg at HNW ⊢
  go_enter Tryz.func24, Tryz.ntmps24
  obtain ⟨c0, c1, c2, c3, c4, c5⟩ := cells6 hN
  clear hN
  go_wp2_with fail
  generalize w.alloc (.cells #[.int .i64 (c 0), .int .i64 (c 1), .int .i64 (c 2), .int .i64 (c 3), .int .i64 (c 4), .int .i64 (c 5)] 23) = w1 at *
  refine (HNW.out w1).mono ?_
  rintro e w2 ⟨p, rfl, hpc, hwi, hfr, hb⟩
  have HWI := hide hwi
  have HFR := hide (show ∀ x ∈ wfoot p [], w.heap.size ≤ x from fun x hx => Nat.le_trans HB1.out.size (hfr x hx))
  have HB2 := hide (HB1.out.trans (hb.mono HB1.out.size))
  clear hpc hwi hfr hb c0 c1 c2 c3 c4 c5
  go_wp2_with fail
  go_loopw [12] (fun s wr => s = .int .i64 0 ∧ wr = w2) (fun _ _ => 0)
  case atStart => exact ⟨rfl, rfl⟩
  case round =>
    obtain ⟨rfl, rfl⟩ := hrel
    go_wp2_with fail
    go_ret
    exact ⟨p, rfl, HWI.out, HFR.out, HB2.out⟩
set_option maxRecDepth 20000 in
set_option maxHeartbeats 4000000 in
theorem startD (c : Fin 6 → Int) (hc : COk c) (bx ba cap : Nat) (bs : List Nat) (S : Dk) (w : World) (hP : PD w bx S ba cap bs) (hl : S.left = -1) (hs : S.segs = []) :
    Calls Tryz.prog 7 #[cfg c, .pointer (some ⟨bx, 0, none⟩)] w fun e w' => ∃ X q, e = .returned (.tuple #[.pointer (some ⟨X, 0, none⟩), .int .i64 0]) ∧ DA w' X (D0 c S) q ∧ q.bx = bx ∧ (∀ b ∈ df X q, b ∈ pf bx ba bs ∨ w.heap.size ≤ b) ∧ Below w.heap.size w w' := by
  have hN := Sits.new w 23 #[.int .i64 (c 0), .int .i64 (c 1), .int .i64 (c 2), .int .i64 (c 3), .int .i64 (c 4), .int .i64 (c 5)]
  have HB1 := hide (below_new (w := w) (.cells #[.int .i64 (c 0), .int .i64 (c 1), .int .i64 (c 2), .int .i64 (c 3), .int .i64 (c 4), .int .i64 (c 5)] 23))
  have HCK := hide (fun w => by
    have h := Check.check (c 0) (c 1) (c 2) (c 3) (c 4) (c 5) w
    rw [if_pos (good_of hc)] at h
    exact h)
  have HC := hide hc
  have HP := hide hP
  have HL := hide hl
  have HS := hide hs
  clear hc hP hl hs
  unfold cfg
  go_enter Tryz.func7, Tryz.ntmps7
  go_wp2_with fail
  generalize w.alloc (.cells #[.int .i64 (c 0), .int .i64 (c 1), .int .i64 (c 2), .int .i64 (c 3), .int .i64 (c 4), .int .i64 (c 5)] 23) = w1 at *
  obtain ⟨B, hBe⟩ : ∃ B, w.heap.size = B := ⟨_, rfl⟩
  rw [hBe] at hN HB1
  rw [hBe]
  have HBE := hide hBe
  clear hBe
  have HN := hide hN
  obtain ⟨c0, c1, c2, c3, c4, c5⟩ := cells6 hN
  clear hN
  go_wp2_with fail
  refine (HCK.out w1).mono ?_
  rintro e w2 ⟨rfl, hb2⟩
  have hN2 := HN.out.below hb2 HN.out.lt
  have HB2 := hide (show Below B w w2 from HB1.out.trans (hb2.mono (Nat.le_of_lt HN.out.lt)))
  have HN2 := hide hN2
  clear c0 c1 c2 c3 c4 c5 hb2
  obtain ⟨c0, c1, c2, c3, c4, c5⟩ := cells6 hN2
  clear hN2
  have hop := open0 bx ba cap bs S w2 (HP.out.keep (by rw [HBE.out]; exact HB2.out)) HL.out HS.out (c 5)
  go_wp2_with fail
  refine hop.mono ?_
  clear hop c0 c1 c2 c3 c4 c5
  rintro e w3 ⟨jb, mb, rfl, hjw, hlj, hlm, hb3⟩
  have hz2 : B < w2.heap.size := HN2.out.lt
  have HB3 := hide (show Below B w w3 from HB2.out.trans (hb3.mono (Nat.le_of_lt hz2)))
  have HJ3 := hide hjw
  have HN3 := hide (HN2.out.below hb3 HN2.out.lt)
  have hz3 := hb3.size
  have hb4 := below_new (w := w3) (.cells found0 62)
  have HF4 := hide (Sits.new w3 62 found0)
  have HN4 := hide (HN3.out.below hb4 HN3.out.lt)
  have HJ4 := hide (hjw.keep hb4)
  have HB4 := hide (HB3.out.trans (hb4.mono (by omega)))
  have HZ4 := hide (show (w3.alloc (.cells found0 62)).heap.size = w3.heap.size + 1 by simp)
  clear hjw hb3 hb4
  unfold found0 at *
  have hmm := @run_makeMap Tryz.prog
  obtain ⟨c0, c1, c2, c3, c4, c5⟩ := cells6 HN4.out
  obtain ⟨d0, d1, d2, d3, d4, d5⟩ := cells6 (HN4.out.alloc (.map #[] 0))
  have f0 := ((HF4.out.alloc (.map #[] 0)).alloc (.cells #[.int .i64 (c 0), .int .i64 (c 1), .int .i64 (c 2), .int .i64 (c 3), .int .i64 (c 4), .int .i64 (c 5), .pointer (some ⟨jb, 0, none⟩), .int .i64 0, .int .i64 0, .int .i64 0, .pointer none, .map (some (w3.heap.size + 1)), .bool false] 72)).cell 0 _ rfl
  go_wp2_with fail
  clear c0 c1 c2 c3 c4 c5 d0 d1 d2 d3 d4 d5 f0 hmm
  have hX5 := Sits.new ((w3.alloc (.cells #[.slice none 0 0, .int .i64 0, .slice none 0 0, .slice none 0 0] 62)).alloc (.map #[] 0)) 72 #[.int .i64 (c 0), .int .i64 (c 1), .int .i64 (c 2), .int .i64 (c 3), .int .i64 (c 4), .int .i64 (c 5), .pointer (some ⟨jb, 0, none⟩), .int .i64 0, .int .i64 0, .int .i64 0, .pointer none, .map (some (w3.heap.size + 1)), .bool false]
  rw [World.size_alloc, World.size_alloc] at hX5
  have HX5 := hide hX5
  have hb5 : Below (w3.alloc (.cells #[.slice none 0 0, .int .i64 0, .slice none 0 0, .slice none 0 0] 62)).heap.size (w3.alloc (.cells #[.slice none 0 0, .int .i64 0, .slice none 0 0, .slice none 0 0] 62)) (((w3.alloc (.cells #[.slice none 0 0, .int .i64 0, .slice none 0 0, .slice none 0 0] 62)).alloc (.map #[] 0)).alloc (.cells #[.int .i64 (c 0), .int .i64 (c 1), .int .i64 (c 2), .int .i64 (c 3), .int .i64 (c 4), .int .i64 (c 5), .pointer (some ⟨jb, 0, none⟩), .int .i64 0, .int .i64 0, .int .i64 0, .pointer none, .map (some (w3.heap.size + 1)), .bool false] 72)) := (below_new _).alloc (by simp) _
  have hm5 := own_at (w' := ((w3.alloc (.cells #[.slice none 0 0, .int .i64 0, .slice none 0 0, .slice none 0 0] 62)).alloc (.map #[] 0)).alloc (.cells #[.int .i64 (c 0), .int .i64 (c 1), .int .i64 (c 2), .int .i64 (c 3), .int .i64 (c 4), .int .i64 (c 5), .pointer (some ⟨jb, 0, none⟩), .int .i64 0, .int .i64 0, .int .i64 0, .pointer none, .map (some (w3.heap.size + 1)), .bool false] 72)) (made_due (w3.alloc (.cells #[.slice none 0 0, .int .i64 0, .slice none 0 0, .slice none 0 0] 62))) (Below.heap_alloc _ _ _ (by simp))
  rw [World.size_alloc] at hm5
  have HM5 := hide hm5
  have HF5 := hide (Mem.Sits.below HF4.out hb5 HF4.out.lt)
  have HN5 := hide (Mem.Sits.below HN4.out hb5 HN4.out.lt)
  have HJ5 := hide (HJ4.out.keep hb5)
  have HB5 := hide (HB4.out.trans (hb5.mono (by have := HZ4.out; omega)))
  have HZ5 := hide (show (((w3.alloc (.cells #[.slice none 0 0, .int .i64 0, .slice none 0 0, .slice none 0 0] 62)).alloc (.map #[] 0)).alloc (.cells #[.int .i64 (c 0), .int .i64 (c 1), .int .i64 (c 2), .int .i64 (c 3), .int .i64 (c 4), .int .i64 (c 5), .pointer (some ⟨jb, 0, none⟩), .int .i64 0, .int .i64 0, .int .i64 0, .pointer none, .map (some (w3.heap.size + 1)), .bool false] 72)).heap.size = w3.heap.size + 3 by simp)
  clear hX5 hb5 hm5 HF4 HN4 HJ4 HB4 HZ4
  generalize ((w3.alloc (.cells #[.slice none 0 0, .int .i64 0, .slice none 0 0, .slice none 0 0] 62)).alloc (.map #[] 0)).alloc (.cells #[.int .i64 (c 0), .int .i64 (c 1), .int .i64 (c 2), .int .i64 (c 3), .int .i64 (c 4), .int .i64 (c 5), .pointer (some ⟨jb, 0, none⟩), .int .i64 0, .int .i64 0, .int .i64 0, .pointer none, .map (some (w3.heap.size + 1)), .bool false] 72) = w5 at *
  obtain ⟨fb, hfb⟩ : ∃ fb, w3.heap.size = fb := ⟨_, rfl⟩
  rw [hfb] at HX5 HM5 HF5 HZ5 hz3
  rw [hfb]
  have HFB := hide hfb
  clear hfb
  have HS0 := hide (fun w => summed0 c HC.out w)
  unfold cfg at HS0
  go_loopw [36] (fun s wr => s = .int .i64 0 ∧ wr = w5) (fun _ _ => 0)
  case atStart => exact ⟨rfl, rfl⟩
  case round =>
    obtain ⟨rfl, hwr⟩ := hrel
    subst hwr
    obtain ⟨c0, c1, c2, c3, c4, c5⟩ := cells6 HN5.out
    have f1 := HF5.out.cell 1 _ rfl
    have f2 := HF5.out.cell 2 _ rfl
    have FIN := hide (show ∀ (w6 : World) (p : WI), WiAt w6 p (limOf c) 0 0 [] → (∀ x ∈ wfoot p [], wr.heap.size ≤ x) → Below wr.heap.size wr w6 →
        ∃ X q, Ending.returned (.tuple #[.pointer (some ⟨fb + 1 + 1, 0, none⟩), .int .i64 0]) = .returned (.tuple #[.pointer (some ⟨X, 0, none⟩), .int .i64 0]) ∧ DA (((w6.setCell ⟨fb + 1 + 1, 8, none⟩ (.int .i64 0)).setCell ⟨fb + 1 + 1, 9, none⟩ (.int .i64 0)).setCell ⟨fb + 1 + 1, 10, none⟩ (.pointer (some ⟨p.P, 0, none⟩))) X (D0 c S) q ∧ q.bx = bx ∧ (∀ b ∈ df X q, b ∈ pf bx ba bs ∨ w.heap.size ≤ b) ∧ Below w.heap.size w (((w6.setCell ⟨fb + 1 + 1, 8, none⟩ (.int .i64 0)).setCell ⟨fb + 1 + 1, 9, none⟩ (.int .i64 0)).setCell ⟨fb + 1 + 1, 10, none⟩ (.pointer (some ⟨p.P, 0, none⟩))) from fun w6 p hwi hfr hb6 => by
      have hbe := HBE.out
      have hz5 := HZ5.out
      have hP5 : PD wr bx S ba cap bs := HP.out.keep (by rw [hbe]; exact HB5.out)
      have hpl : ∀ b ∈ pf bx ba bs, b < B := fun b hb => by
        obtain ⟨t, cs, hs⟩ := pd_cells HP.out hb
        have := hs.lt
        omega
      have hjl := HJ3.out.ja.head.lt
      have hml := HJ3.out.sm.own.lt
      have hfb := HFB.out
      have hx6 := Mem.Sits.below HX5.out hb6 HX5.out.lt
      have hkf : ∀ k ∈ Jr.kf jb bx mb [] (.slice none 0 0) ba bs, k < fb ∧ (k ∈ pf bx ba bs ∨ B ≤ k) := fun k hk => by
        rcases List.mem_cons.1 hk with e | e
        · exact ⟨by omega, Or.inr (by omega)⟩
        · rcases List.mem_append.1 e with e | e
          · cases e
          · rcases List.mem_cons.1 e with e | e
            · exact ⟨by omega, Or.inr (by omega)⟩
            · rcases List.mem_append.1 e with e | e
              · simp [Value.ownBlock] at e
              · have := hpl k e
                exact ⟨by omega, Or.inl e⟩
      have ho : Off [fb + 1 + 1] w6 (((w6.setCell ⟨fb + 1 + 1, 8, none⟩ (.int .i64 0)).setCell ⟨fb + 1 + 1, 9, none⟩ (.int .i64 0)).setCell ⟨fb + 1 + 1, 10, none⟩ (.pointer (some ⟨p.P, 0, none⟩))) := (((Off.refl _ _).set (List.mem_singleton.2 rfl) _ _).set (List.mem_singleton.2 rfl) _ _).set (List.mem_singleton.2 rfl) _ _
      have hX7 := ((hx6.set 8 (.int .i64 0)).set 9 (.int .i64 0)).set 10 (.pointer (some ⟨p.P, 0, none⟩))
      have hB6 : Below B w w6 := HB5.out.trans (hb6.mono (by omega))
      refine ⟨fb + 1 + 1, ⟨jb, bx, mb, [], .slice none 0 0, ba, cap, bs, p, 0, 0, [], fb + 1⟩, rfl, ⟨hX7, (HJ5.out.keep hb6).off (ba := ba) (bs := bs) ho (fun k hk e => ?_), pd_off (hP5.keep hb6) ho (fun k hk e => ?_), hwi.off ho (fun k hk e => ?_), (rfl : winOf 0 0 [] = win0), ⟨0, map_off (map_off HM5.out (Off.of_below (F := []) hb6) (by simp)) ho (by simp)⟩, List.Pairwise.nil, fun k hk hw => ?_, ⟨fun hm => ?_, fun hm => ?_, by simp⟩, ⟨fun hm => ?_, fun hm => ?_⟩⟩, rfl, fun b hb => ?_, ?_⟩
      · have := (hkf k hk).1
        rw [List.mem_singleton] at e
        omega
      · have := hpl k hk
        rw [List.mem_singleton] at e
        omega
      · have := hfr k hk
        rw [List.mem_singleton] at e
        omega
      · have := (hkf k hk).1
        have := hfr k hw
        omega
      · have := (hkf _ hm).1
        omega
      · have := hfr _ hm
        omega
      · have h1 : fb + 1 < fb := (hkf _ hm).1
        omega
      · have h1 : wr.heap.size ≤ fb + 1 := hfr _ hm
        omega
      · rcases List.mem_cons.1 hb with e | e
        · exact Or.inr (by omega)
        · rcases List.mem_cons.1 e with e | e
          · have e' : b = fb + 1 := e
            exact Or.inr (by omega)
          · rcases List.mem_append.1 e with e | e
            · exact (hkf b e).2.imp id (by omega)
            · have := hfr b e
              exact Or.inr (by omega)
      · rw [hbe]
        exact hB6.trans (ho.below (fun b hb => by rw [List.mem_singleton.1 hb]; omega) (by rw [← hbe]; exact hB6.size)))
    have G1 := hide (show ∀ W, Below wr.heap.size wr W → W.cell? ⟨fb, 1, none⟩ = some (.int .i64 0) from fun W hW => (Mem.Sits.below HF5.out hW HF5.out.lt).cell 1 _ rfl)
    have G2 := hide (show ∀ W, Below wr.heap.size wr W → W.cell? ⟨fb, 2, none⟩ = some (.slice none 0 0) from fun W hW => (Mem.Sits.below HF5.out hW HF5.out.lt).cell 2 _ rfl)
    have GC := hide (fun W (hW : Below wr.heap.size wr W) => cells6 (Mem.Sits.below HN5.out hW HN5.out.lt))
    go_wp2_with fail
    clear HCK HC HP HL HS HN HN2 HN3 HB1 HB2 HB3 HJ3 HJ5 HM5 HB5 HBE HFB HZ5 hz2 hz3 hlj hlm c0 c1 c2 c3 c4 c5 f1 f2
    refine region_C (fun W => Below wr.heap.size wr W) 14 (by kernel_rfl) (Below.refl _ _) (fun W h => h.drew) ?_
    intro wd hwd hheap
    have HWR := hide hwd
    clear hwd hheap
    refine take_C (i := 0) (v := .pointer (some ⟨fb + 1 + 1, 0, none⟩)) rfl (by decide) (by kernel_rfl) (by kernel_rfl) (by kernel_rfl) (by kernel_rfl) (fun _ _ _ h => h) (Or.inl ⟨by rfl, by intro W hW; have k1 := G1.out W hW; have k2 := G2.out W hW; obtain ⟨b0, b1, b2, b3, b4, b5⟩ := GC.out W hW; go_simp⟩) HWR.out ?_
    refine take_C (i := 1) (v := .pointer (some ⟨fb, 1, none⟩)) rfl (by decide) (by kernel_rfl) (by kernel_rfl) (by kernel_rfl) (by kernel_rfl) (fun _ _ _ h => h) (Or.inl ⟨by rfl, by intro W hW; have k1 := G1.out W hW; have k2 := G2.out W hW; obtain ⟨b0, b1, b2, b3, b4, b5⟩ := GC.out W hW; go_simp⟩) HWR.out ?_
    refine take_C (i := 2) (v := .pointer (some ⟨fb, 1, none⟩)) rfl (by decide) (by kernel_rfl) (by kernel_rfl) (by kernel_rfl) (by kernel_rfl) (fun _ _ _ h => h) (Or.inl ⟨by rfl, by intro W hW; have k1 := G1.out W hW; have k2 := G2.out W hW; obtain ⟨b0, b1, b2, b3, b4, b5⟩ := GC.out W hW; go_simp⟩) HWR.out ?_
    refine take_C (i := 3) (v := .int .i64 0) rfl (by decide) (by kernel_rfl) (by kernel_rfl) (by kernel_rfl) (by kernel_rfl) (fun _ _ _ h => h) (Or.inl ⟨by rfl, by intro W hW; have k1 := G1.out W hW; have k2 := G2.out W hW; obtain ⟨b0, b1, b2, b3, b4, b5⟩ := GC.out W hW; go_simp⟩) HWR.out ?_
    refine take_C (i := 4) (v := .pointer (some ⟨fb, 1, none⟩)) rfl (by decide) (by kernel_rfl) (by kernel_rfl) (by kernel_rfl) (by kernel_rfl) (fun _ _ _ h => h) (Or.inl ⟨by rfl, by intro W hW; have k1 := G1.out W hW; have k2 := G2.out W hW; obtain ⟨b0, b1, b2, b3, b4, b5⟩ := GC.out W hW; go_simp⟩) HWR.out ?_
    refine take_C (i := 5) (v := .pointer (some ⟨fb, 2, none⟩)) rfl (by decide) (by kernel_rfl) (by kernel_rfl) (by kernel_rfl) (by kernel_rfl) (fun _ _ _ h => h) (Or.inl ⟨by rfl, by intro W hW; have k1 := G1.out W hW; have k2 := G2.out W hW; obtain ⟨b0, b1, b2, b3, b4, b5⟩ := GC.out W hW; go_simp⟩) HWR.out ?_
    refine take_C (i := 6) (v := .slice none 0 0) rfl (by decide) (by kernel_rfl) (by kernel_rfl) (by kernel_rfl) (by kernel_rfl) (fun _ _ _ h => h) (Or.inl ⟨by rfl, by intro W hW; have k1 := G1.out W hW; have k2 := G2.out W hW; obtain ⟨b0, b1, b2, b3, b4, b5⟩ := GC.out W hW; go_simp⟩) HWR.out ?_
    refine take_C (i := 7) (v := .int .i64 0) rfl (by decide) (by kernel_rfl) (by kernel_rfl) (by kernel_rfl) (by kernel_rfl) (fun _ _ _ h => h) (Or.inl ⟨by rfl, by intro W hW; have k1 := G1.out W hW; have k2 := G2.out W hW; obtain ⟨b0, b1, b2, b3, b4, b5⟩ := GC.out W hW; go_simp⟩) HWR.out ?_
    refine take_C (i := 8) (v := .agg #[.int .i64 (c 0), .int .i64 (c 1), .int .i64 (c 2), .int .i64 (c 3), .int .i64 (c 4), .int .i64 (c 5)]) rfl (by decide) (by kernel_rfl) (by kernel_rfl) (by kernel_rfl) (by kernel_rfl) (fun _ _ _ h => h) (Or.inl ⟨by rfl, by intro W hW; have k1 := G1.out W hW; have k2 := G2.out W hW; obtain ⟨b0, b1, b2, b3, b4, b5⟩ := GC.out W hW; go_simp⟩) HWR.out ?_
    refine take_C (i := 9) (v := .pointer (some ⟨fb, 1, none⟩)) rfl (by decide) (by kernel_rfl) (by kernel_rfl) (by kernel_rfl) (by kernel_rfl) (fun _ _ _ h => h) (Or.inl ⟨by rfl, by intro W hW; have k1 := G1.out W hW; have k2 := G2.out W hW; obtain ⟨b0, b1, b2, b3, b4, b5⟩ := GC.out W hW; go_simp⟩) HWR.out ?_
    refine take_C (i := 10) (v := .pointer (some ⟨fb, 2, none⟩)) rfl (by decide) (by kernel_rfl) (by kernel_rfl) (by kernel_rfl) (by kernel_rfl) (fun _ _ _ h => h) (Or.inl ⟨by rfl, by intro W hW; have k1 := G1.out W hW; have k2 := G2.out W hW; obtain ⟨b0, b1, b2, b3, b4, b5⟩ := GC.out W hW; go_simp⟩) HWR.out ?_
    refine take_C (i := 11) (v := .slice none 0 0) rfl (by decide) (by kernel_rfl) (by kernel_rfl) (by kernel_rfl) (by kernel_rfl) (fun _ _ _ h => h) (Or.inl ⟨by rfl, by intro W hW; have k1 := G1.out W hW; have k2 := G2.out W hW; obtain ⟨b0, b1, b2, b3, b4, b5⟩ := GC.out W hW; go_simp⟩) HWR.out ?_
    refine one_C (j := 12) (by kernel_rfl) rfl (fun K hK => ?_)
    go_simp
    refine (HS0.out wd).mono ?_
    rintro e w6 ⟨p, rfl, hwi, hfr, hb6⟩
    have HB6 := hide (show Below wr.heap.size wr w6 from HWR.out.trans (hb6.mono HWR.out.size))
    have HWI := hide hwi
    have HFR := hide (show ∀ x ∈ wfoot p [], wr.heap.size ≤ x from fun x hx => Nat.le_trans HWR.out.size (hfr x hx))
    have hx6 := Mem.Sits.below HX5.out HB6.out HX5.out.lt
    have e8 := hx6.cell 8 _ rfl
    have h8 := hx6.frozen 8
    have hx7 := hx6.set 8 (.int .i64 0)
    have e9 := hx7.cell 9 _ rfl
    have h9 := hx7.frozen 9
    have hx8 := hx7.set 9 (.int .i64 0)
    have e10 := hx8.cell 10 _ rfl
    have h10 := hx8.frozen 10
    clear hwi hfr hb6 hx6 hx7 hx8
    refine hK _ _ (fun _ => HB6.out) ?_
    clear hK K
    refine one_C (j := 13) (by kernel_rfl) rfl (fun K hK => ?_)
    go_simp
    refine hK _ _ (fun _ => HB6.out) ?_
    clear hK K
    refine one_C (j := 14) (by kernel_rfl) rfl (fun K hK => ?_)
    go_simp
    refine hK _ _ (fun h => absurd h (by decide)) ?_
    clear hK K
    refine one_C (j := 15) (by kernel_rfl) rfl (fun K hK => ?_)
    go_simp
    refine hK _ _ (fun h => absurd h (by decide)) ?_
    clear hK K
    refine one_C (j := 16) (by kernel_rfl) rfl (fun K hK => ?_)
    go_simp
    refine hK _ _ (fun h => absurd h (by decide)) ?_
    clear hK K
    refine done_C (by kernel_rfl) ?_ _
    go_wp2_with fail
    refine bodyPost_ret (results_tmp2 rfl _ _ _) rfl ?_
    exact FIN.out _ _ HWI.out HFR.out HB6.out
end Go.Proofs.YtmkidefdegaamaaGreatDoor.Dd
namespace Go.Proofs.YtmkidefdegaamaaGreatDoor.Dd
open Go.RowKit Go.Maps Mem Foot Bytes Im Wm Hi Plainw Cq Dm Dh Jr Wi Sk Hn Kr
/-- What a journal's call asks. -/
theorem DOk.fits {D : Dn} {ds : List Bs} {n : Nat} (h : DOk D ds n) : Fit D.S n (500 * n) := ⟨h.calm.good, h.segs, h.used⟩
theorem keys_len {D : Dn} {ds : List Bs} {n : Nat} (h : DOk D ds n) {w : World} {X : Nat} {q : Pl} (hd : DA w X D q) : q.sv.length ≤ n := by
  have h1 := congrArg List.length h.keys
  have h2 := congrArg List.length hd.jw.eq
  rw [List.length_map] at h1 h2
  rw [List.length_map] at h1
  have := h.dues
  omega
theorem df_k {X : Nat} {q : Pl} {k : Nat} (h : k ∈ q.kf) : k ∈ df X q := List.mem_cons_of_mem _ (List.mem_cons_of_mem _ (List.mem_append_left _ h))
theorem sealD (w0 w : World) (hT : Tab w0) (h0 : Below w0.heap.size w0 w) (X : Nat) (D : Dn) (q : Pl) (ds : List Bs) (n : Nat) (h : DA w X D q) (hfar : ∀ b ∈ df X q, w0.heap.size ≤ b) (ok : DOk D ds n) (hn : n ≤ 10000000) (hp : 0 < D.count) :
    Calls Tryz.prog 50 #[.pointer (some ⟨q.jb, 0, none⟩), .int .i64 D.num] w fun e w' => e = .returned .nilIface ∧ Kq w w' q.jb q.bx q.mb (jseal D.J D.S D.num).1 (jseal D.J D.S D.num).2.1 q.kf := by
  have hz := (ok.turn).2.2.1 hp
  have hl := ok.calm.lasts
  have hs := ok.sz
  have hm := ok.num
  have ho := ok.calm.len
  have hsg := ok.segs
  refine (sealJ w0 w hT h0 q.jb q.bx q.mb D.J q.sv q.ov D.S q.ba q.cap q.bs D.num n (500 * n) h.jw h.pd (fun b hb => hfar b (df_k hb)) ok.fits hn (by omega) (ok.opn hp) (by omega) (by have := keys_len ok h; omega) (by omega) (by omega) (by omega) (by omega) (by omega)).mono ?_
  rintro e w' ⟨v, rfl, hv, hk⟩
  rw [hz] at hv
  rcases hv with ⟨_, rfl⟩ | ⟨h1, _⟩
  · exact ⟨rfl, hk⟩
  · exact absurd rfl h1
set_option maxRecDepth 10000 in
set_option maxHeartbeats 4000000 in
theorem turnD (w0 w : World) (hT : Tab w0) (h0 : Below w0.heap.size w0 w) (X : Nat) (D : Dn) (q : Pl) (ds : List Bs) (n : Nat) (h : DA w X D q) (hfar : ∀ b ∈ df X q, w0.heap.size ≤ b) (ok : DOk D ds n) (hn : n ≤ 10000000) :
    Calls Tryz.prog 26 #[.pointer (some ⟨X, 0, none⟩)] w fun e w' => e = .returned .nilIface ∧ Dq w w' X (dturn D) (df X q) q.bx := by
  have hc0 := COk.pos ok.cok
  have hck := ok.clk
  have C0 : ∀ s : Bw w, s.val.cell? ⟨X, 0, none⟩ = some (.int .i64 (D.c 0)) := fun s => (h.keep s.is).head.cell 0 _ rfl
  have C7 : ∀ s : Bw w, s.val.cell? ⟨X, 7, none⟩ = some (.int .i64 D.clock) := fun s => (h.keep s.is).head.cell 7 _ rfl
  have hnz : ¬ D.c 0 = 0 := by omega
  obtain ⟨now, hnow⟩ : ∃ now, D.clock / D.c 0 = now := ⟨_, rfl⟩
  have htd : D.clock.tdiv (D.c 0) = now := by rw [Int.tdiv_eq_ediv_of_nonneg hck.1, hnow]
  have hn0 : 0 ≤ now := by rw [← hnow]; exact Int.ediv_nonneg hck.1 (by omega)
  have hn1 : now ≤ 1000000000 := by rw [← hnow]; exact Int.le_trans (Int.ediv_le_self _ hck.1) hck.2
  have hwn : IntKind.i64.wrap now = now := IntWalk.i64_in _ (by omega)
  have HNOW := hide hnow
  have HOK := hide ok
  have HD := hide h
  have HT := hide hT
  have HB0 := hide h0
  have HFAR := hide hfar
  clear h ok hT h0 hfar hnow
  go_enter Tryz.func26, Tryz.ntmps26
  go_wp2_with fail
  refine region_cls (by kernel_rfl) (by kernel_rfl) ?_
  repeat (first
    | go_big_quiet_skip
    | (go_big_quiet_want; go_big_quiet_op; go_big_quiet_on))
  refine wpQuiet_nil ?_
  rintro _ ⟨s, rfl⟩
  have HB1 := hide s.is
  have HD1 := hide (HD.out.keep s.is)
  clear C0 C7 htd hwn
  generalize s.val = w1 at *
  have c8 := HD1.out.head.cell 8 _ rfl
  have c9 := HD1.out.head.cell 9 _ rfl
  have hnum := HOK.out.num
  by_cases hle : now ≤ D.num
  · have HDT := hide (show dturn D = D by unfold dturn; rw [HNOW.out, if_pos hle])
    go_wp2_with fail
    go_ret
    refine ⟨rfl, ?_⟩
    rw [HDT.out]
    exact Dq.of HD.out HB1.out
  · by_cases hp : 0 < D.count
    · have hpz : (0 : Int) < (D.count : Int) := by omega
      have HDT := hide (show dturn D = { D with J := (jseal D.J D.S D.num).1, S := (jseal D.J D.S D.num).2.1, due := insM ⟨D.num, dtext D⟩ D.due, num := now, count := 0, W := win0 } by unfold dturn; rw [HNOW.out, if_neg hle, if_pos hp])
      have HLE := hide hle
      have HPP := hide hp
      go_wp2_with fail
      have C6 : ∀ s : Bw w1, s.val.cell? ⟨X, 6, none⟩ = some (.pointer (some ⟨q.jb, 0, none⟩)) := fun s => (HD1.out.keep s.is).head.cell 6 _ rfl
      have C8 : ∀ s : Bw w1, s.val.cell? ⟨X, 8, none⟩ = some (.int .i64 D.num) := fun s => (HD1.out.keep s.is).head.cell 8 _ rfl
      clear c8 c9 hle hp hpz
      refine region_pre 9 (by kernel_rfl) (by kernel_rfl) ?_
      simp only [List.take_succ_cons, List.take_zero, List.drop_succ_cons, List.drop_zero]
      repeat (first
        | go_big_quiet_skip
        | (go_big_quiet_want; go_big_quiet_op; go_big_quiet_on))
      refine wpQuiet_nil ?_
      intro s
      have HB2 := hide (HB1.out.trans (s.is.mono HB1.out.size))
      have HDs := hide (HD1.out.keep s.is)
      clear C6 C8
      generalize s.val = ws at *
      have hse := sealD w0 ws HT.out (HB0.out.trans (HB2.out.mono HB0.out.size)) X D q ds n HDs.out HFAR.out HOK.out hn HPP.out
      go_wp2_with fail
      refine hse.mono ?_
      clear hse
      rintro e w4 ⟨rfl, hkq⟩
      obtain ⟨q4, hd4, hf4, ho4, e1, e2, e3, e4, e5, e6, e7, e8⟩ := HDs.out.jour hkq
      have HD4 := hide hd4
      have HO4 := hide ((Off.of_below HB2.out).trans ho4)
      have HF4 := hide (show ∀ b ∈ df X q4, b ∈ df X q ∨ w.heap.size ≤ b from fun b hb => (hf4 b hb).imp id fun h => Nat.le_trans HB2.out.size h)
      have HT4 := hide (HT.out.below (HB0.out.trans (HO4.out.below HFAR.out HB0.out.size)))
      have HBX := hide e7
      clear hkq hd4 hf4 ho4 e1 e2 e3 e4 e5 e6 e7 e8
      have hlv : Live D.W := live_of HOK.out
      have hft : WFit (limOf D.c) (nls ds) D.W := HOK.out.fit
      have HTX := hide (fun s : Bw w4 => call_cls (dtext_call2 (m := nls ds) (HD4.out.keep s.is) hft hlv HOK.out.cok (by have := HOK.out.lines; omega) HOK.out.num (HT4.out.below s.is)))
      have C8 : ∀ s : Bw w4, s.val.cell? ⟨X, 8, none⟩ = some (.int .i64 D.num) := fun s => (HD4.out.keep s.is).head.cell 8 _ rfl
      have C9 : ∀ s : Bw w4, s.val.cell? ⟨X, 9, none⟩ = some (.int .i64 (D.count : Int)) := fun s => (HD4.out.keep s.is).head.cell 9 _ rfl
      have C10 : ∀ s : Bw w4, s.val.cell? ⟨X, 10, none⟩ = some (.pointer (some ⟨q4.p.P, 0, none⟩)) := fun s => (HD4.out.keep s.is).head.cell 10 _ rfl
      have C11 : ∀ s : Bw w4, s.val.cell? ⟨X, 11, none⟩ = some (.map (some q4.db)) := fun s => (HD4.out.keep s.is).head.cell 11 _ rfl
      clear hlv hft
      generalize hJ2 : (jseal D.J D.S D.num).1 = J2 at *
      generalize hS2 : (jseal D.J D.S D.num).2.1 = S2 at *
      clear hJ2 hS2
      have HZX := hide (show dtext { D with J := J2, S := S2 } = dtext D from rfl)
      rw [HZX.out] at HTX
      obtain ⟨zt, hzt⟩ : ∃ zt, dtext D = zt := ⟨_, rfl⟩
      rw [hzt] at HTX HDT
      have HKN := hide (show (⟨D.num, zt⟩ : Ms).k ∉ D.due.map (·.k) from fun hm => by
        obtain ⟨m, hm, e⟩ := List.mem_map.1 hm
        have h1 := HOK.out.lt m hm
        have e : m.k = D.num := e
        omega)
      clear hzt
      go_wp2_with fail
      refine region_pre 20 (by kernel_rfl) (by kernel_rfl) ?_
      simp only [List.take_succ_cons, List.take_zero, List.drop_succ_cons, List.drop_zero]
      repeat (first
        | go_big_quiet_skip
        | (go_big_quiet_want; go_big_quiet_op; first | go_big_quiet_on | (apply Exists.intro; refine ⟨fun _ => ?_, ?_⟩; (go_at_call 37; exact HTX.out _); go_big_quiet_on)))
      refine wpQuiet_nil ?_
      intro s
      have HB5 := hide s.is
      have HD5 := hide (HD4.out.keep s.is)
      clear C8 C9 C10 C11 HTX
      generalize s.val = w5 at *
      obtain ⟨w2, hu6, hm6, hg6⟩ := HD5.out.due.tight.update (t := 67) (int_keyed Tryz.underlying3) Tryz.underlying67 (Nat.lt_of_le_of_lt (show D.due.length ≤ 10000000 from by have := HOK.out.dues; omega) (by decide)) (Maps.keyOf_int_mk (P := Tryz.prog) (k := 3) Tryz.underlying3 (wf_int (n := D.num) (by omega) (by omega))) (exE_mk (okM_mv ⟨D.num, zt⟩))
      have hm7 : w2.ownsMap Tryz.prog 3 (exE okM) q4.db (D.due.length + 1) ((Sk.D D.due).put (Lit.int .i64 (⟨D.num, zt⟩ : Ms).k) (.held (mv ⟨D.num, zt⟩))) := hm6
      rw [D_put HKN.out] at hm7
      obtain ⟨hd6, ho6⟩ := HD5.out.more hm7 hg6 HKN.out
      have HD2 := hide hd6
      have HOQ := hide (show Off (df X q) w w2 from off_trans (HO4.out.trans (Off.of_below HB5.out)) HF4.out ho6)
      have HFQ := hide HF4.out
      simp only [mv] at hu6
      clear hm6 hm7 hg6 hd6 ho6
      have hnw := newW D.c HOK.out.cok w2
      unfold cfg at hnw
      obtain ⟨c0, c1, c2, c3, c4, c5, c6, c7, c8, c9, c10, c11, c12⟩ := cells13 HD2.out.head
      go_wp2_with fail
      refine hnw.mono ?_
      clear hnw c0 c1 c2 c3 c4 c5 c6 c7 c8 c9 c10 c11 c12
      rintro e w3 ⟨p', rfl, hpc, hwi, hfr, hb3⟩
      have HWI := hide hwi
      have HFR := hide hfr
      have HB3 := hide hb3
      have hh := (HD2.out.keep hb3).head
      have d8 := hh.cell 8 _ rfl
      have f8 := hh.frozen 8
      have hh9 := hh.set 8 (.int .i64 now)
      have d9 := hh9.cell 9 _ rfl
      have f9 := hh9.frozen 9
      have hh10 := hh9.set 9 (.int .i64 0)
      have d10 := hh10.cell 10 _ rfl
      have f10 := hh10.frozen 10
      have HH := hide (hh10.set 10 (.pointer (some ⟨p'.P, 0, none⟩)))
      clear hh hh9 hh10 hwi hfr hb3 hpc
      go_wp2_with fail
      go_ret
      refine ⟨rfl, ?_⟩
      have hq := HD2.out.fresh HB3.out HWI.out HFR.out (((((Off.refl _ _).set (List.mem_singleton.2 rfl) _ _).set (List.mem_singleton.2 rfl) _ _).set (List.mem_singleton.2 rfl) _ _)) HH.out
      rw [HDT.out]
      rw [HBX.out] at hq
      exact Dq.trans HOQ.out HFQ.out hq
    · have hpz : ¬ (0 : Int) < (D.count : Int) := by omega
      have hcz : (D.count : Int) = 0 := by omega
      have HDT := hide (show dturn D = { D with num := now, count := 0, W := win0 } by unfold dturn; rw [HNOW.out, if_neg hle, if_neg hp])
      have HD2 := hide HD1.out
      have HOQ := hide (show Off (df X q) w w1 from Off.of_below HB1.out)
      have HFQ := hide (show ∀ b ∈ df X q, b ∈ df X q ∨ w.heap.size ≤ b from fun b hb => Or.inl hb)
      clear c8 c9 hcz
      generalize w1 = w2 at *
      have hnw := newW D.c HOK.out.cok w2
      unfold cfg at hnw
      obtain ⟨c0, c1, c2, c3, c4, c5, c6, c7, c8, c9, c10, c11, c12⟩ := cells13 HD2.out.head
      go_wp2_with fail
      refine hnw.mono ?_
      clear hnw c0 c1 c2 c3 c4 c5 c6 c7 c8 c9 c10 c11 c12
      rintro e w3 ⟨p', rfl, hpc, hwi, hfr, hb3⟩
      have HWI := hide hwi
      have HFR := hide hfr
      have HB3 := hide hb3
      have hh := (HD2.out.keep hb3).head
      have d8 := hh.cell 8 _ rfl
      have f8 := hh.frozen 8
      have hh9 := hh.set 8 (.int .i64 now)
      have d9 := hh9.cell 9 _ rfl
      have f9 := hh9.frozen 9
      have hh10 := hh9.set 9 (.int .i64 0)
      have d10 := hh10.cell 10 _ rfl
      have f10 := hh10.frozen 10
      have HH := hide (hh10.set 10 (.pointer (some ⟨p'.P, 0, none⟩)))
      clear hh hh9 hh10 hwi hfr hb3 hpc
      go_wp2_with fail
      go_ret
      refine ⟨rfl, ?_⟩
      have hq := HD2.out.fresh HB3.out HWI.out HFR.out (((((Off.refl _ _).set (List.mem_singleton.2 rfl) _ _).set (List.mem_singleton.2 rfl) _ _).set (List.mem_singleton.2 rfl) _ _)) HH.out
      rw [HDT.out]
      exact Dq.trans HOQ.out HFQ.out hq
end Go.Proofs.YtmkidefdegaamaaGreatDoor.Dd
namespace Go.Proofs.YtmkidefdegaamaaGreatDoor.Dd
open Go.RowKit Go.Maps Mem Foot Bytes Im Wm Hi Plainw Cq Dm Dh Jr Wi Sk Hn Kr
theorem answer0 (X : Nat) (w : World) : Calls Tryz.prog 27 #[.pointer (some ⟨X, 0, none⟩), .nilIface] w fun e w' => e = .returned (.int .i64 0) ∧ w' = w := by
  go_enter Tryz.func27, Tryz.ntmps27
  go_wp2_with fail
  go_ret
  exact ⟨rfl, rfl⟩
theorem writeD (w0 w : World) (hT : Tab w0) (h0 : Below w0.heap.size w0 w) (X : Nat) (D : Dn) (q : Pl) (ds : List Bs) (n : Nat) (h : DA w X D q) (hfar : ∀ b ∈ df X q, w0.heap.size ≤ b) (ok : DOk D ds n) (hn : n ≤ 10000000) (s : ByteArray) (hs : s.size ≤ 256) :
    Calls Tryz.prog 28 #[.pointer (some ⟨q.jb, 0, none⟩), .int .i64 D.num, .string s] w fun e w' => e = .returned .nilIface ∧ Kq w w' q.jb q.bx q.mb (jwrite D.J D.S D.num s).1 (jwrite D.J D.S D.num s).2.1 q.kf := by
  have hz := (ok.write (by omega) hs).2.2
  have hl := ok.calm.lasts
  have hsz := ok.sz
  have hm := ok.num
  have ho := ok.calm.len
  have hsg := ok.segs
  have hx := ok.next
  have hx0 := ok.calm.next0
  have hg := ok.great
  refine (write w0 w hT h0 q.jb q.bx D.J (.map (some q.mb)) q.ov D.S q.ba q.cap q.bs D.num s n (500 * n) h.jw.ja h.pd (fun b hb => hfar b (df_k (kf_jf hb))) ok.fits hn (by omega) (by omega) (by omega) hx0 (by omega) (by omega) (by omega) (by omega) (by omega) (by omega) (by omega)).mono ?_
  rintro e w' ⟨v, rfl, hv, hk⟩
  rw [hz] at hv
  rcases hv with ⟨_, rfl⟩ | ⟨h1, _⟩
  · exact ⟨rfl, h.jw.kq h.pd hk (write_sealed ..)⟩
  · exact absurd rfl h1
theorem forgetD (w0 w : World) (hT : Tab w0) (h0 : Below w0.heap.size w0 w) (X : Nat) (D : Dn) (q : Pl) (ds : List Bs) (n : Nat) (h : DA w X D q) (hfar : ∀ b ∈ df X q, w0.heap.size ≤ b) (ok : DOk D ds n) (hn : n ≤ 10000000) (win : Int) (hw : win ∈ D.due.map (·.k)) :
    Calls Tryz.prog 39 #[.pointer (some ⟨q.jb, 0, none⟩), .int .i64 win] w fun e w' => e = .returned .nilIface ∧ Kq w w' q.jb q.bx q.mb (jforget D.J D.S win).1 (jforget D.J D.S win).2.1 q.kf := by
  have hz := (ok.ack (by omega) hw).2.2
  have hl := ok.calm.lasts
  have hsz := ok.sz
  have ho := ok.calm.len
  have hsg := ok.segs
  have hx := ok.next
  have hx0 := ok.calm.next0
  have hg := ok.great
  have hm := ok.num
  have hwr : -1 ≤ win ∧ win < D.num := by
    have hw2 : win ∈ D.J.sealed.map (·.1) := by rw [ok.keys]; exact hw
    obtain ⟨m, hm1, hm2⟩ := List.mem_map.1 hw
    have h1 := ok.lt m hm1
    have h2 := ok.low m hm1
    omega
  refine (forgetJ w0 w hT h0 q.jb q.bx q.mb D.J q.sv q.ov D.S q.ba q.cap q.bs win n (500 * n) h.jw h.pd (fun b hb => hfar b (df_k hb)) ok.fits hn (by omega) (by omega) (by omega) hx0 (by omega) (by omega) (by omega) (by omega) (by omega) (by omega) (by omega) (fun p hp => ?_)).mono ?_
  · obtain ⟨r1, r2⟩ := ok.calm.rows p hp
    exact ⟨by omega, fun x hx => by have := r2 x hx; omega⟩
  rintro e w' ⟨v, rfl, hv, hk⟩
  rw [hz] at hv
  rcases hv with ⟨_, rfl⟩ | ⟨h1, _⟩
  · exact ⟨rfl, hk⟩
  · exact absurd rfl h1
set_option maxRecDepth 10000 in
set_option maxHeartbeats 2000000 in
theorem packetD (w0 w : World) (hT : Tab w0) (h0 : Below w0.heap.size w0 w) (X : Nat) (D : Dn) (q : Pl) (ds : List Bs) (n : Nat) (h : DA w X D q) (hfar : ∀ b ∈ df X q, w0.heap.size ≤ b) (ok : DOk D ds n) (hn : n ≤ 9000000) (s : ByteArray) (hs : s.size ≤ 256) :
    Calls Tryz.prog 9 #[.pointer (some ⟨X, 0, none⟩), .string s] w fun e w' => e = .returned (.int .i64 0) ∧ Dq w w' X (dpacket D s) (df X q) q.bx := by
  have c12 := h.head.cell 12 _ rfl
  rw [ok.spent] at c12
  have hsz : ¬ (256 : Int) < (s.size : Int) := by omega
  have htu := turnD w0 w hT h0 X D q ds n h hfar ok (by omega)
  have HOK1 := hide ok.turn.1
  have HC := hide ok.turn.2.2.2.2.1
  have HT := hide hT
  have HB0 := hide h0
  have HFAR := hide hfar
  generalize (if D.clock / D.c 0 ≤ D.num then ds else []) = ds1 at *
  have HDP := hide (show dpacket D s = dwrite (dturn D) s from rfl)
  generalize dturn D = D1 at *
  clear h ok hT h0 hfar
  go_enter Tryz.func9, Tryz.ntmps9
  go_wp2_with fail
  refine htu.mono ?_
  clear htu c12
  rintro e w1 ⟨rfl, hq1⟩
  obtain ⟨q1, hd1, hx1, hf1⟩ := hq1.ex
  have HX1 := hide hx1
  have HD1 := hide hd1
  have HF1 := hide hf1
  have HO1 := hide hq1.off
  have HFAR1 := hide (show ∀ b ∈ df X q1, w0.heap.size ≤ b from fun b hb => (hf1 b hb).elim (HFAR.out b) fun h => Nat.le_trans HB0.out.size h)
  have HB1 := hide (HB0.out.trans (hq1.off.below HFAR.out HB0.out.size))
  clear hd1 hf1 hq1 hx1
  have C6 : ∀ s : Bw w1, s.val.cell? ⟨X, 6, none⟩ = some (.pointer (some ⟨q1.jb, 0, none⟩)) := fun s => (HD1.out.keep s.is).head.cell 6 _ rfl
  have C8 : ∀ s : Bw w1, s.val.cell? ⟨X, 8, none⟩ = some (.int .i64 D1.num) := fun s => (HD1.out.keep s.is).head.cell 8 _ rfl
  go_wp2_with fail
  refine region_pre 10 (by kernel_rfl) (by kernel_rfl) ?_
  simp only [List.take_succ_cons, List.take_zero, List.drop_succ_cons, List.drop_zero]
  repeat (first
    | go_big_quiet_skip
    | (go_big_quiet_want; go_big_quiet_op; go_big_quiet_on))
  refine wpQuiet_nil ?_
  intro st
  have HB2 := hide st.is
  have HD2 := hide (HD1.out.keep st.is)
  clear C6 C8
  generalize st.val = w2 at *
  have hwd := writeD w0 w2 HT.out (HB1.out.trans (HB2.out.mono HB1.out.size)) X D1 q1 ds1 (n + 1) HD2.out HFAR1.out HOK1.out (by omega) s hs
  go_wp2_with fail
  refine hwd.mono ?_
  clear hwd
  rintro e w3 ⟨rfl, hkq⟩
  obtain ⟨q3, hd3, hf3, ho3, e1, e2, e3, e4, e5, e6, e7, e8⟩ := HD2.out.jour hkq
  have HD3 := hide hd3
  have HO3 := hide (off_trans HO1.out HF1.out ((Off.of_below HB2.out).trans ho3))
  have HF3 := hide (show ∀ b ∈ df X q3, b ∈ df X q ∨ w.heap.size ≤ b from fun b hb => (hf3 b hb).elim (HF1.out b) fun h => Or.inr (Nat.le_trans HO1.out.size (Nat.le_trans HB2.out.size h)))
  have HX3 := hide (e7.trans HX1.out)
  clear hkq hd3 hf3 ho3 e1 e2 e3 e4 e5 e6 e7 e8
  have hft : WFit (limOf D1.c) (nls ds1) D1.W := HOK1.out.fit
  have hcb : Lib.countByte (B s) 10 ≤ (B s).length := List.countP_le_length
  have hbs : (B s).length = s.size := (Bytes.size_B s).symm
  have hln := HOK1.out.lines
  have hwn := HD3.out.win
  have htk := takeGram q3.p (limOf D1.c) (nls ds1) q3.rj q3.dr q3.E s w3 HD3.out.wi (by rw [hwn]; exact hft) HOK1.out.cok.lim (by omega) (by omega)
  have hwn' : winOf q3.rj q3.dr q3.E = D1.W := hwn
  rw [hwn'] at htk
  have c10 := HD3.out.head.cell 10 _ rfl
  clear hft hcb hbs hln hwn hwn'
  go_wp2_with fail
  refine htk.mono ?_
  clear htk c10
  rintro e w4 ⟨rfl, hg, _⟩
  obtain ⟨q4, hd4, hf4, ho4, e1, e2, e3⟩ := HD3.out.grew hg
  have HD4 := hide hd4
  have HO4 := hide (off_trans HO3.out HF3.out ho4)
  have HF4 := hide (show ∀ b ∈ df X q4, b ∈ df X q ∨ w.heap.size ≤ b from fun b hb => (hf4 b hb).elim (HF3.out b) fun h => Or.inr (Nat.le_trans HO3.out.size h))
  have HX4 := hide (e3.trans HX3.out)
  clear hg hd4 hf4 ho4 e1 e2 e3
  have hh := HD4.out.head
  have c9 := hh.cell 9 _ rfl
  have f9 := hh.frozen 9
  have hcn : D1.count ≤ 10000000 := by
    rw [HOK1.out.cnt]
    have := HOK1.out.len
    omega
  have HH := hide (hh.set 9 (.int .i64 ((D1.count : Int) + 1)))
  have HCC := hide (show (D1.count : Int) + 1 = ((D1.count + 1 : Nat) : Int) by omega)
  clear hh
  go_wp2_with fail
  go_ret
  refine ⟨rfl, ?_⟩
  rw [HDP.out]
  have hset : Off [X] w4 (w4.setCell ⟨X, 9, none⟩ (.int .i64 ((D1.count : Int) + 1))) := (Off.refl _ _).set (List.mem_singleton.2 rfl) _ _
  refine ⟨⟨q4, HD4.out.put (D' := dwrite D1 s) hset ?_ rfl rfl rfl rfl rfl, HX4.out, HF4.out⟩, off_trans HO4.out (fun b hb => Or.inl (List.mem_singleton.1 hb ▸ List.mem_cons_self ..)) hset⟩
  have := HH.out
  rw [HCC.out] at this
  rw [HCC.out]
  exact this
end Go.Proofs.YtmkidefdegaamaaGreatDoor.Dd
namespace Go.Proofs.YtmkidefdegaamaaGreatDoor.Dd
open Go.RowKit Go.Maps Mem Foot Bytes Im Wm Hi Plainw Cq Dm Dh Jr Wi Sk Hn Kr
theorem DOk.tick {D : Dn} {ds : List Bs} {n : Nat} (h : DOk D ds n) {t : Int} (h0 : 0 ≤ t) (h1 : t ≤ 1000000000) : DOk { D with clock := t } ds n :=
  { h with clk := ⟨h0, h1⟩ }
set_option maxRecDepth 10000 in
set_option maxHeartbeats 2000000 in
theorem clockD (w0 w : World) (hT : Tab w0) (h0 : Below w0.heap.size w0 w) (X : Nat) (D : Dn) (q : Pl) (ds : List Bs) (n : Nat) (h : DA w X D q) (hfar : ∀ b ∈ df X q, w0.heap.size ≤ b) (ok : DOk D ds n) (hn : n ≤ 9000000) (t : Int) :
    Calls Tryz.prog 14 #[.pointer (some ⟨X, 0, none⟩), .int .i64 t] w fun e w' => e = .returned (.int .i64 0) ∧ Dq w w' X (if t ≤ D.clock ∨ 1000000000 < t then D else dclock D t) (df X q) q.bx := by
  have c12 := h.head.cell 12 _ rfl
  rw [ok.spent] at c12
  have c7 := h.head.cell 7 _ rfl
  by_cases h1 : t ≤ D.clock
  · have HD := hide h
    rw [if_pos (Or.inl h1)]
    clear h ok hT h0 hfar
    go_enter Tryz.func14, Tryz.ntmps14
    go_wp2_with fail
    go_ret
    exact ⟨rfl, Dq.of HD.out (Below.refl _ _)⟩
  · by_cases h2 : 1000000000 < t
    · have HD := hide h
      rw [if_pos (Or.inr h2)]
      clear h ok hT h0 hfar
      go_enter Tryz.func14, Tryz.ntmps14
      go_wp2_with fail
      go_ret
      exact ⟨rfl, Dq.of HD.out (Below.refl _ _)⟩
    · rw [if_neg (fun e => e.elim h1 h2)]
      have hc := ok.clk
      have f7 := h.head.frozen 7
      have hset : Off [X] w (w.setCell ⟨X, 7, none⟩ (.int .i64 t)) := (Off.refl _ _).set (List.mem_singleton.2 rfl) _ _
      have hd := h.put (D' := { D with clock := t }) hset (h.head.set 7 (.int .i64 t)) rfl rfl rfl rfl rfl
      have hsF : Off (df X q) w (w.setCell ⟨X, 7, none⟩ (.int .i64 t)) := hset.mono fun k _ hk => List.mem_singleton.1 hk ▸ List.mem_cons_self ..
      have htu := turnD w0 (w.setCell ⟨X, 7, none⟩ (.int .i64 t)) hT (h0.trans (hsF.below hfar h0.size)) X { D with clock := t } q ds n hd hfar (ok.tick (by omega) (by omega)) (by omega)
      have HO := hide hsF
      have HDC := hide (show dclock D t = dturn { D with clock := t } from rfl)
      clear h ok hT h0 hfar hset hd hsF
      go_enter Tryz.func14, Tryz.ntmps14
      go_wp2_with fail
      refine htu.mono ?_
      clear htu
      rintro e w1 ⟨rfl, hq⟩
      have HQ := hide (Dq.trans HO.out (fun b hb => Or.inl hb) hq)
      clear hq
      go_wp2_with fail
      refine (answer0 X w1).mono ?_
      rintro e w2 ⟨rfl, rfl⟩
      go_wp2_with fail
      go_ret
      exact ⟨rfl, by rw [HDC.out]; exact HQ.out⟩
set_option maxRecDepth 10000 in
set_option maxHeartbeats 2000000 in
theorem ackD (w0 w : World) (hT : Tab w0) (h0 : Below w0.heap.size w0 w) (X : Nat) (D : Dn) (q : Pl) (ds : List Bs) (n : Nat) (h : DA w X D q) (hfar : ∀ b ∈ df X q, w0.heap.size ≤ b) (ok : DOk D ds n) (hn : n ≤ 9000000) (win : Int) (hw0 : -9223372036854775808 ≤ win) (hw1 : win ≤ 9223372036854775807) :
    Calls Tryz.prog 19 #[.pointer (some ⟨X, 0, none⟩), .int .i64 win] w fun e w' => e = .returned (.int .i64 (if win ∈ D.due.map (·.k) then 0 else 4)) ∧ Dq w w' X (if win ∈ D.due.map (·.k) then dack D win else D) (df X q) q.bx := by
  have c12 := h.head.cell 12 _ rfl
  rw [ok.spent] at c12
  have c11 := h.head.cell 11 _ rfl
  have hkey := Maps.keyOf_int_mk (P := Tryz.prog) (k := 3) Tryz.underlying3 (wf_int hw0 hw1)
  obtain ⟨v, hv, _, hall⟩ := look_all 67 3 44 (int_keyed Tryz.underlying3) Tryz.underlying67 infoZ rfl h.due.tight hkey
  obtain ⟨m', rfl⟩ := okM_inv hv
  have hl1 := hall w rfl
  rw [D_has] at hl1
  simp only [mv] at hl1
  have HKEY := hide hkey
  have HD := hide h
  have HT := hide hT
  have HB0 := hide h0
  have HFAR := hide hfar
  have HOK := hide ok
  clear hall hv hkey h ok hT h0 hfar
  by_cases hin : win ∈ D.due.map (·.k)
  · rw [decide_eq_true hin] at hl1
    rw [if_pos hin, if_pos hin]
    have HIN := hide hin
    clear hin
    go_enter Tryz.func19, Tryz.ntmps19
    have HB1 := hide (below_new (w := w) (.cells #[.int .i64 m'.k, .string m'.t] 44))
    have HD1 := hide (HD.out.keep HB1.out)
    have c6 := HD1.out.head.cell 6 _ rfl
    go_wp2_with fail
    clear c12 c11 hl1 c6
    generalize w.alloc (.cells #[.int .i64 m'.k, .string m'.t] 44) = w1 at *
    have hfg := forgetD w0 w1 HT.out (HB0.out.trans (HB1.out.mono HB0.out.size)) X D q ds n HD1.out HFAR.out HOK.out (by omega) win HIN.out
    refine hfg.mono ?_
    clear hfg
    rintro e w2 ⟨rfl, hk⟩
    obtain ⟨q2, hd2, hf2, ho2, hrest⟩ := HD1.out.jour hk
    have HBX := hide hrest.2.2.2.2.2.2.1
    clear hrest
    have HD2 := hide hd2
    have HO2 := hide ((Off.of_below HB1.out).trans ho2)
    have HF2 := hide (show ∀ b ∈ df X q2, b ∈ df X q ∨ w.heap.size ≤ b from fun b hb => (hf2 b hb).imp id fun h => Nat.le_trans HB1.out.size h)
    have c11 := hd2.head.cell 11 _ rfl
    obtain ⟨w3, hdr, hm3, hg3⟩ := hd2.due.tight.drop (t := 67) (int_keyed Tryz.underlying3) Tryz.underlying67 HKEY.out 0
    rw [D_del] at hm3
    obtain ⟨hd3, ho3⟩ := hd2.less hm3 hg3.grown
    have HQ := hide (show Dq w w3 X (dack D win) (df X q) q.bx from ⟨⟨q2, hd3, HBX.out, HF2.out⟩, off_trans HO2.out HF2.out ho3⟩)
    clear hk hd2 hf2 ho2 hm3 hg3 hd3 ho3
    go_wp2_with fail
    go_ret
    exact ⟨rfl, HQ.out⟩
  · rw [decide_eq_false hin] at hl1
    rw [if_neg hin, if_neg hin]
    have HIN := hide hin
    clear hin
    go_enter Tryz.func19, Tryz.ntmps19
    go_wp2_with fail
    go_ret
    exact ⟨rfl, Dq.of HD.out (below_new _)⟩
end Go.Proofs.YtmkidefdegaamaaGreatDoor.Dd
