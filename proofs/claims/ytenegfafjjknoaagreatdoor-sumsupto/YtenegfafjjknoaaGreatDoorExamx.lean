/- The document's example. Sums, walked. -/
import Derived.Test.YtenegfafjjknoaaGreatDoorParsewx
import Derived.Test.YtenegfafjjknoaaGreatDoorSpnx
import Derived.Test.YtenegfafjjknoaaGreatDoorRmx
import Derived.BigQuiet
namespace Go.Proofs.YtenegfafjjknoaaGreatDoor.Exam
open Go.RowKit Bytes Nums Numw Mem Tags Tagw Opts Plain Readw Plainw Plainv Plainp Bounds Parsew Same

theorem lit_bytes (z : ByteArray) (h : B z = (parsed [97, 46, 98, 58, 48, 49, 50, 46, 53, 48, 124, 99, 124, 64, 48, 46, 49, 48, 124, 35, 122, 44, 98, 44, 122]).1) : z = ⟨#[97, 46, 98, 58, 49, 50, 46, 53, 124, 99, 124, 64, 48, 46, 49, 124, 35, 98, 44, 122]⟩ := by
  rw [lit_said] at h
  exact B_inj h

theorem example_ (w : World) (ht : Tab w) : Calls Tryz.prog 12 #[] w fun e w' => e = .returned (.bool true) ∧ Below w.heap.size w w' := by
  have HT := hide ht
  clear ht
  go_enter Tryz.func12, Tryz.ntmps12
  go_wp2_with fail
  refine (parse _ (by decide) _ HT.out).mono ?_
  rintro e w1 ⟨⟨z, rfl, hz⟩, hb⟩
  obtain rfl := lit_bytes z hz
  rw [show (parsed (B ⟨#[97, 46, 98, 58, 48, 49, 50, 46, 53, 48, 124, 99, 124, 64, 48, 46, 49, 48, 124, 35, 122, 44, 98, 44, 122]⟩)).2 = 0 from by show (parsed [97, 46, 98, 58, 48, 49, 50, 46, 53, 48, 124, 99, 124, 64, 48, 46, 49, 48, 124, 35, 122, 44, 98, 44, 122]).2 = 0; rw [lit_said]]
  clear hz
  have HB := hide hb
  clear hb
  go_wp2_with fail
  all_goals go_ret
  exact ⟨rfl, HB.out⟩

end Go.Proofs.YtenegfafjjknoaaGreatDoor.Exam

namespace Go.Proofs.YtenegfafjjknoaaGreatDoor.Rv
open Go.RowKit Mem Foot Im Wm Hn Plainw Wi Kr Ra

theorem cok_of {c : Fin 6 → Int} (h : Check.good (c 0) (c 1) (c 2) (c 3) (c 4) (c 5) = true) : COk c := by
  unfold Check.good at h
  simp only [Bool.and_eq_true, Check.inb_iff] at h
  obtain ⟨h0, h1, h2, h3, h4, h5⟩ := h
  exact ⟨h0, h1, h2, h3, h4, h5⟩

/-- Where a row of texts lies, whatever its address. -/
def Src (w : World) (ao : Option Addr) (ds : List (List UInt8)) : Prop := ∀ (i : Nat) x, ds[i]? = some x → ∃ a, ao = some a ∧ a.block < w.heap.size ∧ w.cell? (a.add i) = some (.string ⟨x.toArray⟩)

theorem Src.below {w w' : World} {ao : Option Addr} {ds : List (List UInt8)} (h : Src w ao ds) (hb : Below w.heap.size w w') : Src w' ao ds := fun i x hx => by
  obtain ⟨a, h1, h2, h3⟩ := h i x hx
  exact ⟨a, h1, Nat.lt_of_lt_of_le h2 hb.size, by rw [hb.cell (p := a.add i) (by rw [add_blockQ]; exact h2)]; exact h3⟩

theorem pair (c : Fin 6 → Int) (number : Int) (hn0 : -9223372036854775808 ≤ number) (hn1 : number ≤ 9223372036854775807) (ds : List (List UInt8)) (hdl : ds.length ≤ 100000000) (hds : ∀ d ∈ ds, d.length ≤ 1000000000) (hnl : nls ds ≤ 1000000000000) (hal : (allL ds).length ≤ 10000000) :
    ∃ (z : ByteArray) (er : Int), (∀ v w, Row w v ds → Tab w → Calls Tryz.prog 20 #[.agg #[.int .i64 (c 0), .int .i64 (c 1), .int .i64 (c 2), .int .i64 (c 3), .int .i64 (c 4), .int .i64 (c 5)], .int .i64 number, v] w fun e w' => e = .returned (.tuple #[.string z, .int .i64 er]) ∧ Below w.heap.size w w') ∧
      (∀ ao cap w, Src w ao ds → Calls Tryz.prog 21 #[.agg #[.int .i64 (c 0), .int .i64 (c 1), .int .i64 (c 2), .int .i64 (c 3), .int .i64 (c 4), .int .i64 (c 5)], .int .i64 number, .slice ao ds.length cap] w fun e w' => e = .returned (.tuple #[.string z, .int .i64 er]) ∧ Below w.heap.size w w') := by
  cases hg : Check.good (c 0) (c 1) (c 2) (c 3) (c 4) (c 5) with
  | false => exact ⟨⟨#[]⟩, 1, fun v w _ _ => Rz.sumW_bad c number v w hg, fun ao cap w _ => sumR_bad c number _ w hg⟩
  | true =>
    have hc := cok_of hg
    have h1 := hc.s
    have h2 := hc.t
    have h3 := hc.b
    have hb : 2 ≤ (limOf c).buckets := by show 2 ≤ (c 3).toNat; omega
    have hs : 1 ≤ (limOf c).sets := by show 1 ≤ (c 2).toNat; omega
    have hs1 : (limOf c).series ≤ 1000 := by show (c 1).toNat ≤ 1000; omega
    have hs2 : (limOf c).sets ≤ 1000 := by show (c 2).toNat ≤ 1000; omega
    have hl := rl_sum hb hs ds
    refine ⟨⟨(wtext number (wsum (limOf c) ds)).toArray⟩, 0, fun v w hr ht => ?_, fun ao cap w hsrc => ?_⟩
    · refine (sumW c hc number v ds w hr ht (fun d hd => by have := hds d hd; omega) hnl (by omega) hn0 hn1).mono ?_
      rintro e w' ⟨⟨z, rfl, hz⟩, hb⟩
      have : z = ⟨(wtext number (wsum (limOf c) ds)).toArray⟩ := Bytes.B_inj (by rw [hz]; rfl)
      exact ⟨by rw [this], hb⟩
    · refine (sumR c number hn0 hn1 ao cap ds w (limOf c).series (limOf c).sets (limOf c).buckets (by show c 1 = ((c 1).toNat : Int); omega) (by show c 2 = ((c 2).toNat : Int); omega) (by show c 3 = ((c 3).toNat : Int); omega) hb (by show (c 3).toNat ≤ 64; omega) hg hsrc hdl hds (sum_ok hb hs hs1 hs2 hal) (rl_tok hl hs1 hs2 hal)).mono ?_
      rintro e w' ⟨⟨z, rfl, hz⟩, hb⟩
      have : z = ⟨(wtext number (wsum (limOf c) ds)).toArray⟩ := Bytes.B_inj (by rw [hz, rl_text hl]; rfl)
      exact ⟨by rw [this], hb⟩

/-- What stays throughout. -/
structure St (w wx : World) (X G : Nat) (c : Fin 6 → Int) (cs : Array Value) : Prop where
  b : Below w.heap.size w wx
  x : Sits wx X 23 #[.int .i64 (c 0), .int .i64 (c 1), .int .i64 (c 2), .int .i64 (c 3), .int .i64 (c 4), .int .i64 (c 5)]
  g : Sits wx G 9 cs

theorem St.on {w wx wy : World} {X G : Nat} {c : Fin 6 → Int} {cs : Array Value} (h : St w wx X G c cs) (hb : Below wx.heap.size wx wy) : St w wy X G c cs :=
  ⟨h.b.trans (hb.mono h.b.size), Mem.Sits.below h.x hb h.x.lt, Mem.Sits.below h.g hb h.g.lt⟩

theorem St.row {w wx : World} {X G : Nat} {c : Fin 6 → Int} {cs : Array Value} (h : St w wx X G c cs) {ds : List (List UInt8)} (ho : ∀ (j : Nat) x, ds[j]? = some x → cs[j]? = some (.string ⟨x.toArray⟩)) : Row wx (.slice (some ⟨G, 0, none⟩) ds.length (ds.length + 8)) ds :=
  ⟨_, _, rfl, by omega, fun j x hx => ⟨G, 0, rfl, h.g.lt, by
    rw [Nat.zero_add]
    exact h.g.cell j _ (ho j x hx)⟩⟩

theorem row_nil (w : World) : Row w (.slice none 0 0) [] := ⟨none, 0, rfl, Nat.le_refl _, fun j x hx => by simp at hx⟩
theorem src_nil (w : World) : Src w none [] := fun i x hx => by simp at hx

set_option maxRecDepth 10000 in
set_option maxHeartbeats 2000000 in
theorem sums (c : Fin 6 → Int) (number : Int) (hn0 : -9223372036854775808 ≤ number) (hn1 : number ≤ 9223372036854775807) (ao : Option Addr) (cap : Nat) (ds : List (List UInt8)) (w : World) (hT : Tab w) (hdl : ds.length ≤ 100000000) (hds : ∀ d ∈ ds, d.length ≤ 1000000000) (hnl : nls ds ≤ 1000000000000) (hal : (allL ds).length ≤ 10000000) (hsrc : Src w ao ds) :
    Calls Tryz.prog 4 #[.agg #[.int .i64 (c 0), .int .i64 (c 1), .int .i64 (c 2), .int .i64 (c 3), .int .i64 (c 4), .int .i64 (c 5)], .int .i64 number, .slice ao ds.length cap] w fun e w' => e = .returned (.bool true) ∧ Below w.heap.size w w' := by
  obtain ⟨z1, e1, hp1, hq1⟩ := pair c number hn0 hn1 ds hdl hds hnl hal
  obtain ⟨z2, e2, hp2, hq2⟩ := pair c number hn0 hn1 [] (by simp) (by simp) (by simp [nls]) (by simp [allL])
  have HP1 := hide hp1
  have HQ1 := hide hq1
  have HP2 := hide hp2
  have HQ2 := hide hq2
  have HT := hide hT
  have HSR := hide hsrc
  have HS1 := hide (Sits.new w 23 #[.int .i64 (c 0), .int .i64 (c 1), .int .i64 (c 2), .int .i64 (c 3), .int .i64 (c 4), .int .i64 (c 5)])
  have HB1 := hide (below_new (w := w) (.cells #[.int .i64 (c 0), .int .i64 (c 1), .int .i64 (c 2), .int .i64 (c 3), .int .i64 (c 4), .int .i64 (c 5)] 23))
  clear hp1 hq1 hp2 hq2 hT hsrc hds hnl hal hn0 hn1
  go_enter Tryz.func4, Tryz.ntmps4
  go_upto_region 1 with fail
  obtain ⟨X, hX⟩ : ∃ X, w.heap.size = X := ⟨_, rfl⟩
  rw [hX] at HS1 ⊢
  have HX := hide hX
  clear hX
  generalize w.alloc (.cells #[.int .i64 (c 0), .int .i64 (c 1), .int .i64 (c 2), .int .i64 (c 3), .int .i64 (c 4), .int .i64 (c 5)] 23) = w1 at *
  go_wp2_with fail
  refine (Exam.example_ w1 (HT.out.below HB1.out)).mono ?_
  rintro e w2 ⟨rfl, hb2⟩
  have HS2 := hide (Mem.Sits.below HS1.out hb2 HS1.out.lt)
  have HB2 := hide (show Below w.heap.size w w2 from HB1.out.trans (hb2.mono HB1.out.size))
  have HW1 := hide HS1.out.lt
  clear hb2 HS1 HB1
  have hrm := Rz.roomy ao cap ds w2 hdl (HSR.out.below HB2.out)
  go_wp2_with fail
  refine hrm.mono ?_
  clear hrm
  rintro e w3 ⟨cs, rfl, hS3, hsz, hold, hmk, hb3⟩
  have HC3 := hide (Mem.Sits.below HS2.out hb3 HS2.out.lt)
  have HB3 := hide (show Below w.heap.size w w3 from HB2.out.trans (hb3.mono HB2.out.size))
  obtain ⟨G, hG⟩ : ∃ G, w2.heap.size = G := ⟨_, rfl⟩
  have HGX := hide (show w.heap.size ≤ G by rw [← hG]; exact HB2.out.size)
  rw [hG] at hS3 ⊢
  clear hG hb3 HS2 HB2
  have HST := hide (show St w w3 X G c cs from ⟨HB3.out, HC3.out, hS3⟩)
  have HO := hide hold
  have HM := hide hmk
  clear hS3 hold hmk HB3 HC3
  obtain ⟨b0, b1, b2, b3, b4, b5⟩ := cells6s HST.out.x
  go_wp2_with fail
  refine (Check.conf _ _ _ _ _ _ w3).mono ?_
  rintro e w4 ⟨rfl, hb4⟩
  have HST4 := hide (HST.out.on hb4)
  clear b0 b1 b2 b3 b4 b5 hb4 HST
  go_wp2_with fail
  refine (HP1.out _ w4 (HST4.out.row HO.out) (HT.out.below HST4.out.b)).mono ?_
  rintro e w5 ⟨rfl, hb5⟩
  have HST5 := hide (HST4.out.on hb5)
  clear hb5 HST4 HP1
  obtain ⟨b0, b1, b2, b3, b4, b5⟩ := cells6s HST5.out.x
  go_wp2_with fail
  refine (HQ1.out ao cap w5 (HSR.out.below HST5.out.b)).mono ?_
  rintro e w6 ⟨rfl, hb6⟩
  have HST6 := hide (HST5.out.on hb6)
  clear b0 b1 b2 b3 b4 b5 hb6 HST5 HQ1
  go_wp2_with fail
  refine (Check.num _ w6).mono ?_
  rintro e w7 ⟨rfl, rfl⟩
  obtain ⟨b0, b1, b2, b3, b4, b5⟩ := cells6s HST6.out.x
  go_wp2_with fail
  refine (Check.conf _ _ _ _ _ _ w6).mono ?_
  rintro e w7 ⟨rfl, hb7⟩
  have HST7 := hide (HST6.out.on hb7)
  clear b0 b1 b2 b3 b4 b5 hb7 HST6
  go_wp2_with fail
  refine (HP2.out _ w7 (row_nil w7) (HT.out.below HST7.out.b)).mono ?_
  rintro e w8 ⟨rfl, hb8⟩
  have HST8 := hide (HST7.out.on hb8)
  clear hb8 HST7 HP2
  obtain ⟨b0, b1, b2, b3, b4, b5⟩ := cells6s HST8.out.x
  go_wp2_with fail
  refine (HQ2.out none 0 w8 (src_nil w8)).mono ?_
  rintro e w9 ⟨rfl, hb9⟩
  have HST9 := hide (HST8.out.on hb9)
  clear b0 b1 b2 b3 b4 b5 hb9 HST8 HQ2
  go_wp2_with fail
  refine (Check.num _ w9).mono ?_
  rintro e w10 ⟨rfl, rfl⟩
  go_wp2_with fail
  go_loopw [19] (fun i wr => ∃ k : Nat, i = .int .i64 (k : Int) ∧ k ≤ ds.length + 8 ∧ Hid (St w wr X G c cs)) (fun i _ => ds.length + 8 - (intOf i).toNat)
  case atStart => exact ⟨0, rfl, by omega, HST9.out⟩
  case round =>
    obtain ⟨k, rfl, hk, HS⟩ := hrel
    by_cases hk8 : k < ds.length + 8
    · have hkz : (k : Int) < (ds.length : Int) + 8 := by omega
      by_cases hkl : k < ds.length
      · obtain ⟨x, hx⟩ : ∃ x, ds[k]? = some x := ⟨_, List.getElem?_eq_getElem hkl⟩
        obtain ⟨a, rfl, hab, hcell⟩ := (HSR.out.below HS.out.b) k x hx
        have hcellG : wr.cell? ⟨G, k, none⟩ = some (.string ⟨x.toArray⟩) := HS.out.g.cell k _ (HO.out k x hx)
        have hkd : (k : Int) < (ds.length : Int) := by omega
        have hnd : decide (ds.length ≤ k) = false := decide_eq_false (by omega)
        generalize (⟨x.toArray⟩ : ByteArray) = xb at hcell hcellG
        clear hx
        go_wp2_with fail
        go_quiet (fail)
        have HSN := hide (HS.out.on (below_drewN' (n := nq) (Below.refl _ _)))
        go_wp2_with fail
        go_roundw
        case rel => exact ⟨k + 1, by go_num, by omega, HSN.out⟩
        case measure => simp only [intOf]; omega
      · have hcellG : wr.cell? ⟨G, k, none⟩ = some (.string ⟨#[109, 97, 114, 107]⟩) := HS.out.g.cell k _ (HM.out k (by omega) hk8)
        have hkd : ¬ (k : Int) < (ds.length : Int) := by omega
        have hnd : (ds.length : Int) ≤ (k : Int) := by omega
        go_wp2_with fail
        go_quiet (fail)
        have HSN := hide (HS.out.on (below_drewN' (n := nq) (Below.refl _ _)))
        go_wp2_with fail
        go_roundw
        case rel => exact ⟨k + 1, by go_num, by omega, HSN.out⟩
        case measure => simp only [intOf]; omega
    · have hkz : ¬ (k : Int) < (ds.length : Int) + 8 := by omega
      go_wp2_with fail
      go_ret
      exact ⟨rfl, HS.out.b⟩

end Go.Proofs.YtenegfafjjknoaaGreatDoor.Rv
