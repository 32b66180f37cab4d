/- Datagrams taken one behind the other: the window that Sum asks for its text. The program's Sum. -/
import Derived.Test.YtenegfafjjknoaaGreatDoorWo
import Derived.Test.YtenegfafjjknoaaGreatDoorCheck
namespace Go.Proofs.YtenegfafjjknoaaGreatDoor.Kr
open Go.RowKit Go.Maps Mem Foot Im Wm Hk Hb Hi Hn Plainw Cq Hs Sh Readw Wi Go.Sort Go.Shelf

/-- How many lines the datagrams have. -/
def nls : List Bs → Nat
  | [] => 0
  | d :: r => (Lib.countByte d 10 + 1) + nls r

theorem nls_append (a b : List Bs) : nls (a ++ b) = nls a + nls b := by
  induction a with
  | nil => simp [nls]
  | cons d r ih => simp only [List.cons_append, nls, ih]; omega

theorem nls_take (k : Nat) (l : List Bs) : nls (l.take k) ≤ nls l := by
  have h := nls_append (l.take k) (l.drop k)
  rw [List.take_append_drop] at h
  omega

theorem lines_count (d : Bs) : (lines d).length = Lib.countByte d 10 + 1 := by
  induction d with
  | nil => rfl
  | cons c r ih =>
    rw [lines]
    by_cases h : c = 10
    · rw [if_pos h, List.length_cons, ih]
      subst h
      simp [Lib.countByte]
    · rw [if_neg h]
      have e : Lib.countByte (c :: r) 10 = Lib.countByte r 10 := by simp [Lib.countByte, h]
      rw [e, ← ih]
      cases hl : lines r with
      | nil => exact absurd hl (lines_ne r)
      | cons x y => rfl

theorem wfit_grams {L : Lim} (hL : 2 ≤ L.buckets) (ds : List Bs) : ∀ {n : Nat} {w : Win}, WFit L n w → WFit L (n + nls ds) (ds.foldl (wgram L) w) := by
  induction ds with
  | nil => intro n w h; exact h
  | cons d r ih =>
    intro n w h
    have h1 := fold_fit hL (lines d) n w h
    rw [lines_count] at h1
    have h2 := ih h1
    simp only [nls]
    rw [← Nat.add_assoc]
    exact h2

theorem Grew.more {w w1 w2 : World} {p : WI} {L : Lim} {rj dr : Nat} {E E1 : List Ent} {W : Win} (_ : WiAt w1 p L rj dr E1) (ho : Off (wfoot p E) w w1) (hx : ∀ x, x ∈ wfoot p E1 → x ∈ wfoot p E ∨ w.heap.size ≤ x) (h2 : Grew w1 w2 p L E1 W) : Grew w w2 p L E W := by
  obtain ⟨rj2, dr2, E2, m1, m2, m3, m4⟩ := h2
  refine ⟨rj2, dr2, E2, m1, m2, off_grow ho m3 hx, fun y hy => ?_⟩
  rcases m4 y hy with h | h
  · exact hx y h
  · have := ho.size
    exact Or.inr (by omega)

/-- A row of texts handed in. -/
def Row (w : World) (v : Value) (ds : List Bs) : Prop := ∃ a cap, v = .slice a ds.length cap ∧ ds.length ≤ cap ∧ ∀ (j : Nat) x, ds[j]? = some x → ∃ g off, a = some ⟨g, off, none⟩ ∧ g < w.heap.size ∧ w.cell? ⟨g, off + j, none⟩ = some (.string ⟨x.toArray⟩)

theorem Row.below {w w' : World} {v : Value} {ds : List Bs} (h : Row w v ds) (hb : Below w.heap.size w w') : Row w' v ds := by
  obtain ⟨a, cap, h1, h2, h3⟩ := h
  refine ⟨a, cap, h1, h2, fun j x hx => ?_⟩
  obtain ⟨g, off, e1, e2, e3⟩ := h3 j x hx
  exact ⟨g, off, e1, Nat.lt_of_lt_of_le e2 hb.size, by rw [hb.cell (p := ⟨g, off + j, none⟩) e2]; exact e3⟩

set_option maxRecDepth 10000 in
set_option maxHeartbeats 4000000 in
theorem summed (c : Fin 6 → Int) (hc : COk c) (v : Value) (ds : List Bs) (w : World) (hr : Row w v ds) (hz : ∀ d ∈ ds, d.length ≤ 140737488355328) (hn : nls ds ≤ 1000000000000) (hl : ds.length ≤ 1000000000000) :
    Calls Tryz.prog 41 #[cfg c, v] w fun e w' => ∃ (p : WI) (rj dr : Nat) (E : List Ent), e = .returned (.pointer (some ⟨p.P, 0, none⟩)) ∧ WiAt w' p (limOf c) rj dr E ∧ winOf rj dr E = wsum (limOf c) ds ∧ Below w.heap.size w w' := by
  obtain ⟨a, cap, rfl, hcap, hrow⟩ := hr
  have hN := Sits.new w 31 #[.int .i64 (c 0), .int .i64 (c 1), .int .i64 (c 2), .int .i64 (c 3), .int .i64 (c 4), .int .i64 (c 5)]
  have HB1 := hide (below_new (w := w) (.cells #[.int .i64 (c 0), .int .i64 (c 1), .int .i64 (c 2), .int .i64 (c 3), .int .i64 (c 4), .int .i64 (c 5)] 31))
  have HC := hide hc
  have HRW := hide hrow
  have HZ := hide hz
  have HNW := hide (newW c hc)
  clear hc hrow hz
  unfold cfg at HNW ⊢
  go_enter Tryz.func41, Tryz.ntmps41
  go_wp2_with fail
  generalize w.alloc (.cells #[.int .i64 (c 0), .int .i64 (c 1), .int .i64 (c 2), .int .i64 (c 3), .int .i64 (c 4), .int .i64 (c 5)] 31) = w1 at *
  obtain ⟨B, hBe⟩ : ∃ B, w.heap.size = B := ⟨_, rfl⟩
  rw [hBe] at hN
  rw [hBe]
  clear hBe
  obtain ⟨c0, c1, c2, c3, c4, c5⟩ := cells6 hN
  clear hN
  go_wp2_with fail
  refine (HNW.out w1).mono ?_
  rintro e w2 ⟨p, rfl, hpc, hw2, hf2, hb2⟩
  have HW2 := hide hw2
  have HF2 := hide hf2
  have HB2 := hide (show Below w.heap.size w w2 from HB1.out.trans (hb2.mono HB1.out.size))
  have HFt := hide (show ∀ x ∈ wfoot p [], w.heap.size ≤ x from fun x hx => Nat.le_trans HB1.out.size (hf2 x hx))
  clear hpc hw2 hf2 hb2 c0 c1 c2 c3 c4 c5
  go_wp2_with fail
  go_loopw [12] (fun i wr => ∃ k : Nat, i = .int .i64 (k : Int) ∧ k ≤ ds.length ∧ Hid (Grew w2 wr p (limOf c) [] ((ds.take k).foldl (wgram (limOf c)) win0))) (fun i _ => ds.length - (intOf i).toNat)
  case atStart => exact ⟨0, rfl, by omega, Grew.refl HW2.out⟩
  case round =>
    obtain ⟨k, rfl, hk, HI⟩ := hrel
    by_cases hkl : k < ds.length
    · have hkz : (k : Int) < (ds.length : Int) := by omega
      obtain ⟨x, hx⟩ : ∃ x, ds[k]? = some x := ⟨_, List.getElem?_eq_getElem hkl⟩
      obtain ⟨g, off, rfl, hgl, cg⟩ := HRW.out k x hx
      obtain ⟨rj, dr, E, k1, k2, k3, k4⟩ := HI.out
      have HB3 := hide (show Below w.heap.size w wr from below_off HB2.out k3 HFt.out HB2.out.size)
      have cgr : wr.cell? ⟨g, off + k, none⟩ = some (.string ⟨x.toArray⟩) := by
        rw [HB3.out.cell (p := ⟨g, off + k, none⟩) hgl]
        exact cg
      have HTK := hide (show ds.take (k + 1) = ds.take k ++ [x] by rw [List.take_add_one, hx]; rfl)
      have hft := wfit_grams HC.out.lim.b0 (ds.take k) (WFit.zero (limOf c))
      rw [← k2, Nat.zero_add] at hft
      have hnk : nls (ds.take k) + (Lib.countByte x 10 + 1) ≤ 1000000000000 := by
        have h1 := nls_take (k + 1) ds
        rw [HTK.out, nls_append] at h1
        simp only [nls] at h1
        omega
      have htg := takeGram p (limOf c) (nls (ds.take k)) rj dr E ⟨x.toArray⟩ wr k1 hft HC.out.lim (by
        rw [Bytes.size_B]
        exact HZ.out x (List.mem_of_getElem? hx)) hnk
      have HK := hide (And.intro k1 (And.intro k2 (And.intro k3 k4)))
      clear hx cg hft k1 k2 k3 k4 hgl hnk
      generalize hxb : (⟨x.toArray⟩ : ByteArray) = xb at *
      have HXB := hide hxb
      clear hxb
      go_wp2_with fail
      refine htg.mono ?_
      clear htg
      rintro e w4 ⟨rfl, hgr, _⟩
      have HGR := hide hgr
      clear hgr cgr
      go_wp2_with fail
      go_roundw
      case rel =>
        obtain ⟨k1, k2, k3, k4⟩ := HK.out
        refine ⟨k + 1, by go_num, by omega, ?_⟩
        have h5 := Grew.more k1 k3 k4 HGR.out
        rw [k2, ← HXB.out] at h5
        show Grew _ _ _ _ _ _
        rw [HTK.out, List.foldl_append]
        exact h5
      case measure => simp only [intOf]; omega
    · have hkz : ¬ (k : Int) < (ds.length : Int) := by omega
      have hk2 : k = ds.length := by omega
      subst hk2
      go_wp2_with fail
      go_ret
      obtain ⟨rj, dr, E, k1, k2, k3, k4⟩ := HI.out
      rw [List.take_length] at k2
      exact ⟨p, rfl, rj, dr, E, k1, k2, below_off HB2.out k3 HFt.out HB2.out.size⟩

end Go.Proofs.YtenegfafjjknoaaGreatDoor.Kr

namespace Go.Proofs.YtenegfafjjknoaaGreatDoor.Kr
open Go.RowKit Go.Maps Mem Foot Im Wm Hk Hb Hi Hn Plainw Cq Hs Sh Readw Wi Go.Sort Go.Shelf

theorem good_of {c : Fin 6 → Int} (h : COk c) : Check.good (c 0) (c 1) (c 2) (c 3) (c 4) (c 5) = true := by
  have h0 := h.w
  have h1 := h.s
  have h2 := h.t
  have h3 := h.b
  have h4 := h.n
  have h5 := h.g
  simp [Check.good, Check.inb, h0, h1, h2, h3, h4, h5]

set_option maxRecDepth 10000 in
set_option maxHeartbeats 2000000 in
theorem sumW (c : Fin 6 → Int) (hc : COk c) (num : Int) (v : Value) (ds : List Bs) (w : World) (hr : Row w v ds) (ht : Tab w) (hz : ∀ d ∈ ds, d.length ≤ 140737488355328) (hn : nls ds ≤ 1000000000000) (hl : ds.length ≤ 1000000000000) (hn0 : -9223372036854775808 ≤ num) (hn1 : num ≤ 9223372036854775807) :
    Calls Tryz.prog 20 #[cfg c, .int .i64 num, v] w fun e w' => (∃ z, e = .returned (.tuple #[.string z, .int .i64 0]) ∧ Bytes.B z = wtext num (wsum (limOf c) ds)) ∧ Below w.heap.size w w' := by
  have hN := Sits.new w 31 #[.int .i64 (c 0), .int .i64 (c 1), .int .i64 (c 2), .int .i64 (c 3), .int .i64 (c 4), .int .i64 (c 5)]
  have HB1 := hide (below_new (w := w) (.cells #[.int .i64 (c 0), .int .i64 (c 1), .int .i64 (c 2), .int .i64 (c 3), .int .i64 (c 4), .int .i64 (c 5)] 31))
  have HC := hide hc
  have HR := hide hr
  have HT := hide ht
  have HZ := hide hz
  have HCK := hide (fun w => by
    have h := Check.check (c 0) (c 1) (c 2) (c 3) (c 4) (c 5) w
    rw [if_pos (good_of hc)] at h
    exact h)
  have HSM := hide (fun w1 (h : Below w.heap.size w w1) => summed c hc v ds w1 (hr.below h) hz hn hl)
  have hvs : ∃ a n cap, v = .slice a n cap := by
    obtain ⟨a, cap, e, _⟩ := hr
    exact ⟨_, _, _, e⟩
  clear hc hr ht hz
  unfold cfg at HSM ⊢
  obtain ⟨a, nv, cap, rfl⟩ := hvs
  go_enter Tryz.func20, Tryz.ntmps20
  go_wp2_with fail
  generalize w.alloc (.cells #[.int .i64 (c 0), .int .i64 (c 1), .int .i64 (c 2), .int .i64 (c 3), .int .i64 (c 4), .int .i64 (c 5)] 31) = w1 at *
  obtain ⟨B, hBe⟩ : ∃ B, w.heap.size = B := ⟨_, rfl⟩
  rw [hBe] at hN
  rw [hBe]
  clear hBe
  have HN := hide hN
  obtain ⟨c0, c1, c2, c3, c4, c5⟩ := cells6 hN
  clear hN
  go_wp2_with fail
  refine (HCK.out w1).mono ?_
  rintro e w2 ⟨rfl, hb2⟩
  have hN2 := HN.out.below hb2 HN.out.lt
  have HB2 := hide (show Below w.heap.size w w2 from HB1.out.trans (hb2.mono HB1.out.size))
  have HN2 := hide hN2
  clear c0 c1 c2 c3 c4 c5 hb2
  obtain ⟨c0, c1, c2, c3, c4, c5⟩ := cells6 hN2
  clear hN2
  go_wp2_with fail
  refine (HSM.out w2 HB2.out).mono ?_
  rintro e w3 ⟨p, rj, dr, E, rfl, hwi, hwe, hb3⟩
  have HB3 := hide (show Below w.heap.size w w3 from HB2.out.trans (hb3.mono HB2.out.size))
  have hft : WFit (limOf c) (nls ds) (winOf rj dr E) := by
    have h1 := wfit_grams HC.out.lim.b0 ds (WFit.zero (limOf c))
    rw [Nat.zero_add] at h1
    rw [hwe]
    exact h1
  have htx := textW num p (limOf c) (nls ds) rj dr E w3 hwi hft HC.out.lim (by rw [hwe]; exact live_grams ds live0) (HT.out.below HB3.out) (by omega) hn0 hn1
  rw [hwe] at htx
  clear hwi hwe hb3 hft c0 c1 c2 c3 c4 c5
  go_wp2_with fail
  refine htx.mono ?_
  clear htx
  rintro e w4 ⟨⟨z, rfl, hz⟩, hb4⟩
  have HZ4 := hide hz
  have HB4 := hide hb4
  clear hz hb4
  go_wp2_with fail
  go_ret2
  exact ⟨⟨z, rfl, HZ4.out⟩, HB3.out.trans (HB4.out.mono HB3.out.size)⟩

end Go.Proofs.YtenegfafjjknoaaGreatDoor.Kr
