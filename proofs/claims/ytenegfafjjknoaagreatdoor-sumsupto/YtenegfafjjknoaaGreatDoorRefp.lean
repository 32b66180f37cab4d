/- The walk of the document's plain form. -/
import Derived.Test.YtenegfafjjknoaaGreatDoorReft
import Derived.Deep.RegionWith
import Derived.BigRegion
import Derived.Deep.CutRange
namespace Go.Proofs.YtenegfafjjknoaaGreatDoor.Refp
open Go.RowKit Bytes Numw Mem Plain Tagw Bounds Refe Reft Refd

theorem cells6 {w : World} {b : Nat} {t : TypeId} {v0 v1 v2 v3 v4 v5 : Value} (h : Sits w b t #[v0, v1, v2, v3, v4, v5]) :
    w.cell? ⟨b, 0, none⟩ = some v0 ∧ w.cell? ⟨b, 1, none⟩ = some v1 ∧ w.cell? ⟨b, 2, none⟩ = some v2 ∧ w.cell? ⟨b, 3, none⟩ = some v3 ∧ w.cell? ⟨b, 4, none⟩ = some v4 ∧ w.cell? ⟨b, 5, none⟩ = some v5 :=
  ⟨h.cell 0 _ rfl, h.cell 1 _ rfl, h.cell 2 _ rfl, h.cell 3 _ rfl, h.cell 4 _ rfl, h.cell 5 _ rfl⟩

/-- The value, written. -/
def pvr (K v : Int) (x : List UInt8) : List UInt8 := if K = 115 then x else (if v < 0 then [45] else if K = 100 then [43] else []) ++ wnAbs v.natAbs

/-- What stands behind the value's writing. -/
def Valued (K v : Int) (wb : ByteArray) (w : World) (cs : Array Value) (s3 : Value) (wx : World) : Prop :=
  ∃ y : ByteArray, s3 = .string y ∧ y.size ≤ 40 ∧ B y = pvr K v (B wb) ∧ Below w.heap.size w wx ∧ Sits wx w.heap.size 85 cs

theorem valued_word {wb : ByteArray} {v : Int} {w : World} {cs : Array Value} (hz : wb.size ≤ 16) : Valued 115 v wb w cs (.string wb) (w.alloc (.cells cs 85)) :=
  ⟨wb, rfl, by omega, by rw [pvr, if_pos rfl], below_new _, Sits.new _ _ _⟩

theorem valued_num {K v : Int} {wb p z : ByteArray} {w w1 : World} {cs : Array Value} (hK : ¬ K = 115) (hp : B p = (if v < 0 then [45] else if K = 100 then [43] else [])) (hpz : p.size ≤ 1) (hz : B z = wnAbs v.natAbs) (hzz : z.size ≤ 16)
    (hb : Below (w.alloc (.cells cs 85)).heap.size (w.alloc (.cells cs 85)) w1) : Valued K v wb w cs (.string (p ++ z)) w1 := by
  have e : B (p ++ z) = pvr K v (B wb) := by
    rw [B_append, pvr, if_neg hK, hp, hz]
  refine ⟨_, rfl, ?_, e, (below_new _).trans (hb.mono (by simp)), (Sits.new w _ _).below hb (by simp)⟩
  rw [size_B]
  refine Nat.le_trans (Nat.le_of_eq (congrArg List.length (B_append _ _))) ?_
  rw [List.length_append, ← size_B, ← size_B]
  omega

/-- The document's plain form. -/
def pfr (n : List UInt8) (K v : Int) (x : List UInt8) (r : Int) (ls : List (List UInt8)) : List UInt8 :=
  n ++ [58] ++ pvr K v x ++ [124] ++ B (ty K) ++ (if r = 1000 then [] else [124, 64] ++ wnAbs r.toNat) ++ pt ls

/-- What stands behind the region. -/
def Stands (nb : ByteArray) (p : List UInt8) (K : Int) (w : World) (cs : Array Value) (s5 : Value) (wx : World) : Prop :=
  ∃ y : ByteArray, s5 = .string y ∧ y.size ≤ 100 ∧ B y = B nb ++ [58] ++ p ++ [124] ++ B (ty K) ∧ Below w.heap.size w wx ∧ Sits wx w.heap.size 85 cs

theorem stands {nb y : ByteArray} {p : List UInt8} {K : Int} {w wc w1 : World} {cs : Array Value} (h1 : nb.size ≤ 16) (hy : B y = p) (hyz : y.size ≤ 40) (hb : Below w.heap.size w wc) (hS : Sits wc w.heap.size 85 cs)
    (hb1 : Below wc.drew.heap.size wc.drew w1) : Stands nb p K w cs (.string ((((nb ++ ⟨#[58]⟩) ++ y) ++ ⟨#[124]⟩) ++ ty K)) w1 := by
  have e : B ((((nb ++ ⟨#[58]⟩) ++ y) ++ ⟨#[124]⟩) ++ ty K) = B nb ++ [58] ++ p ++ [124] ++ B (ty K) := by
    rw [B_append, B_append, B_append, B_append, hy]
    rfl
  have hb2 : Below wc.heap.size wc w1 := below_d hb1
  refine ⟨_, rfl, ?_, e, hb.trans (hb2.mono hb.size), hS.below hb2 hS.lt⟩
  rw [size_B, e]
  simp only [List.length_append, List.length_singleton]
  have hk := ty_size K
  rw [size_B] at h1 hyz hk
  rw [hy] at hyz
  omega

theorem pfr_whole {n y t x : List UInt8} {K v : Int} {ls : List (List UInt8)} (hy : y = n ++ [58] ++ pvr K v x ++ [124] ++ B (ty K)) (ht : t = y ++ pt ls) : t = pfr n K v x 1000 ls := by
  rw [pfr, if_pos rfl, List.append_nil, ht, hy]

theorem pfr_rate {n y t x q : List UInt8} {K v r : Int} {ls : List (List UInt8)} (hr : ¬ r = 1000) (hy : y = n ++ [58] ++ pvr K v x ++ [124] ++ B (ty K)) (hq : q = wnAbs r.toNat) (ht : t = y ++ [124, 64] ++ q ++ pt ls) : t = pfr n K v x r ls := by
  rw [pfr, if_neg hr, ht, hy, hq, List.append_assoc _ [124, 64]]

set_option maxHeartbeats 4000000 in
theorem refPlain (nb wb : ByteArray) (K v r : Int) (lo : Nat) (ls : List (List UInt8)) (sa : Option Addr) (sl sc : Nat) (w : World) (hst : Strs lo w (.slice sa sl sc) ls)
    (hz1 : nb.size ≤ 16) (hz3 : wb.size ≤ 16) (hz5 : ls.length ≤ 4) (hz6 : ∀ x ∈ ls, x.length ≤ 8) (hv1 : -999999999 ≤ v) (hv2 : v ≤ 999999999) (hr1 : 1 ≤ r) (hr2 : r ≤ 1000) :
    Calls Tryz.prog 39 #[.agg #[.string nb, .int .u8 K, .int .i64 v, .string wb, .int .i64 r, .slice sa sl sc]] w fun e w' => (∃ z, e = .returned (.string z) ∧ B z = pfr (B nb) K v (B wb) r ls) ∧ Below w.heap.size w w' := by
  have HST := hide hst
  have H6 := hide hz6
  clear hst hz6
  go_enter Tryz.func39, Tryz.ntmps39
  go_upto_if 12 with fail
  go_cut [3] from 4 to 45 (fun s3 wx => Valued K v wb w #[.string nb, .int .u8 K, .int .i64 v, .string wb, .int .i64 r, .slice sa sl sc] s3 wx)
  case first =>
    by_cases hK : K = 115
    · subst hK
      go_wp2_with fail
      go_meet
      exact valued_word hz3
    · have hKb : (K != 115) = true := by simpa using hK
      by_cases hD : K = 100
      · subst hD
        by_cases hv : v < 0
        · go_wp2_with (go_at_call 85; refine (decimal' (-v) (by omega) (by omega) _).mono ?_; rintro e w1 ⟨⟨z, rfl, hz, hzz⟩, hb1⟩)
          go_meet
          exact valued_num hK (by rw [if_pos hv]; rfl) (by decide) (by rw [hz]; congr 1; omega) hzz hb1
        · go_wp2_with (go_at_call 85; refine (decimal' v (by omega) (by omega) _).mono ?_; rintro e w1 ⟨⟨z, rfl, hz, hzz⟩, hb1⟩)
          go_meet
          exact valued_num hK (by rw [if_neg (by omega), if_pos rfl]; rfl) (by decide) (by rw [hz]; congr 1; omega) hzz hb1
      · have hDb : (K == 100) = false := by simpa using hD
        by_cases hv : v < 0
        · go_wp2_with (go_at_call 85; refine (decimal' (-v) (by omega) (by omega) _).mono ?_; rintro e w1 ⟨⟨z, rfl, hz, hzz⟩, hb1⟩)
          go_meet
          exact valued_num hK (by rw [if_pos hv]; rfl) (by decide) (by rw [hz]; congr 1; omega) hzz hb1
        · go_wp2_with (go_at_call 85; refine (decimal' v (by omega) (by omega) _).mono ?_; rintro e w1 ⟨⟨z, rfl, hz, hzz⟩, hb1⟩)
          go_meet
          exact valued_num hK (by rw [if_neg (by omega), if_neg hD]; rfl) (by decide) (by rw [hz]; congr 1; omega) hzz hb1
  case rest =>
    obtain ⟨y, rfl, hy1, hy2, hyb, hyS⟩ := hcut
    have htz := ty_size K
    go_wp2_with fail
    go_cut [5] from 4 to 45 (fun s5 wx => Stands nb (pvr K v (B wb)) K w #[.string nb, .int .u8 K, .int .i64 v, .string wb, .int .i64 r, .slice sa sl sc] s5 wx)
    case first =>
      obtain ⟨c0, c1, c2, c3, c4, c5⟩ := cells6 hyS
      have HY2 := hide hy2
      have HYB := hide hyb
      have HYS := hide hyS
      clear hy2 hyb hyS HST H6 hz3 hz5 hv1 hv2 hr1 hr2
      go_region_with (go_at_call 86; refine (typeOf nb wb K v r sa sl sc _).mono ?_; rintro e w1 ⟨rfl, hb1⟩; obtain ⟨d0, d1, d2, d3, d4, d5⟩ := cells6 (HYS.out.below (below_d hb1) HYS.out.lt))
      all_goals (go_wp2_with fail; go_meet; exact stands hz1 HY2.out hy1 HYB.out HYS.out hb1)
    case rest =>
      clear hy1 hy2 hyb hyS
      obtain ⟨x, rfl, hx1, hx2, hxb, hxS⟩ := hcut
      obtain ⟨c0, c1, c2, c3, c4, c5⟩ := cells6 hxS
      have hst0 := HST.out.below hxb
      have HX2 := hide hx2
      have HXB := hide hxb
      have HXS := hide hxS
      have HST0 := hide hst0
      clear hx2 hxb hxS hst0
      by_cases hr : r = 1000
      · subst hr
        go_wp2_with (go_at_call 87; refine (tagged lo _ ls x _ HST0.out (by omega) hz5 H6.out).mono ?_; rintro e w1 ⟨⟨t, rfl, ht⟩, rfl⟩)
        go_ret
        exact ⟨⟨_, rfl, pfr_whole HX2.out ht⟩, HXB.out⟩
      · have hrb : (r != 1000) = true := by simpa using hr
        go_wp2_with (go_at_call 85; refine (decimal' r (by omega) (by omega) _).mono ?_; rintro e w1 ⟨⟨q, rfl, hq, hqz⟩, hb1⟩; obtain ⟨d0, d1, d2, d3, d4, d5⟩ := cells6 (HXS.out.below hb1 HXS.out.lt))
        have hst1 := HST0.out.below hb1
        have eB : B (x ++ ⟨#[124, 64]⟩ ++ q) = B x ++ [124, 64] ++ B q := (B_append _ _).trans (congrArg (· ++ B q) (B_append _ _))
        have eZ : (x ++ ⟨#[124, 64]⟩ ++ q).size ≤ 1000 := by
          rw [size_B, eB]
          simp only [List.length_append, ← size_B]
          show x.size + 2 + q.size ≤ 1000
          omega
        have htag := tagged lo (.slice sa sl sc) ls (x ++ ⟨#[124, 64]⟩ ++ q) w1 hst1 eZ hz5 H6.out
        clear hst1 eZ c0 c1 c2 c3 c4 c5 d0 d1 d2 d3 d4 d5
        refine htag.mono ?_
        clear htag
        rintro e w2 ⟨⟨t, rfl, ht⟩, rfl⟩
        rw [eB] at ht
        have HT := hide ht
        have HB1 := hide hb1
        have HQ := hide hq
        clear ht hb1 hq eB
        go_wp2_with fail
        go_ret
        exact ⟨⟨_, rfl, pfr_rate hr HX2.out HQ.out HT.out⟩, HXB.out.trans (HB1.out.mono HXB.out.size)⟩

end Go.Proofs.YtenegfafjjknoaaGreatDoor.Refp
