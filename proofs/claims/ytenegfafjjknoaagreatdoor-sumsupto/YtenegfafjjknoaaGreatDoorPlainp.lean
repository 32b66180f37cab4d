/- The walk of Plain: a region that draws its order and holds a call. -/
import Derived.Test.YtenegfafjjknoaaGreatDoorPlainv
import Derived.Deep.RegionWith
import Derived.BigRegion
import Derived.Deep.CutRange
namespace Go.Proofs.YtenegfafjjknoaaGreatDoor.Plainp
open Go.RowKit Bytes Nums Numw Mem Tags Tagw Opts Plain Readw Plainw Plainv

theorem sits_call {w w1 : World} {cs : Array Value} {t : TypeId} (h : Below (w.alloc (.cells cs t)).drew.heap.size (w.alloc (.cells cs t)).drew w1) : Sits w1 w.heap.size t cs := by
  have hs : Sits (w.alloc (.cells cs t)).drew w.heap.size t cs := Sits.new w t cs
  exact hs.below h (by simp)

theorem below_call {w w1 : World} {o : Obj} (h : Below (w.alloc o).drew.heap.size (w.alloc o).drew w1) : Below w.heap.size w w1 :=
  ((below_new o).drew).trans (h.mono (by simp))

/-- The plain form, out of the fields. -/
def pform (n k : List UInt8) (g : Bool) (v : Int) (x : List UInt8) (r : Int) (ls : List (List UInt8)) : List UInt8 :=
  n ++ [58] ++ pvf k g v x ++ [124] ++ k ++ (if r = 1000 then [] else [124, 64] ++ wn r) ++ pt ls

theorem pform_whole {n k y t : List UInt8} {g : Bool} {v : Int} {x : List UInt8} {ls : List (List UInt8)} (hy : y = n ++ [58] ++ pvf k g v x ++ [124] ++ k) (ht : t = pt ls) : y ++ t = pform n k g v x 1000 ls := by
  rw [pform, if_pos rfl, List.append_nil, hy, ht]

theorem pform_rate {n k y t q : List UInt8} {g : Bool} {v r : Int} {x : List UInt8} {ls : List (List UInt8)} (hr : ¬ r = 1000) (hy : y = n ++ [58] ++ pvf k g v x ++ [124] ++ k) (hq : q = wn r) (ht : t = pt ls) : y ++ ([124, 64] ++ q) ++ t = pform n k g v x r ls := by
  rw [pform, if_neg hr, hy, ht, hq]

/-- What stands behind the region. -/
def Stands (nb kb : ByteArray) (p : List UInt8) (w : World) (cs : Array Value) (s3 : Value) (wx : World) : Prop :=
  ∃ y : ByteArray, s3 = .string y ∧ y.size ≤ 140737488355400 ∧ B y = B nb ++ [58] ++ p ++ [124] ++ B kb ∧ Below w.heap.size w wx ∧ Sits wx w.heap.size 80 cs

theorem met {nb kb z : ByteArray} {p : List UInt8} {w w1 : World} {cs : Array Value} (h1 : nb.size ≤ 16) (h2 : kb.size ≤ 2) (hz : B z = p) (hzz : z.size ≤ 140737488355346)
    (hb : Below (w.alloc (.cells cs 80)).drew.heap.size (w.alloc (.cells cs 80)).drew w1) : Stands nb kb p w cs (.string ((((nb ++ ⟨#[58]⟩) ++ z) ++ ⟨#[124]⟩) ++ kb)) w1 := by
  have e : B ((((nb ++ ⟨#[58]⟩) ++ z) ++ ⟨#[124]⟩) ++ kb) = B nb ++ [58] ++ p ++ [124] ++ B kb := by
    rw [B_append, B_append, B_append, B_append, hz]
    rfl
  refine ⟨_, rfl, ?_, e, below_call hb, sits_call hb⟩
  rw [size_B, e]
  simp only [List.length_append, List.length_singleton]
  rw [size_B] at h1 h2 hzz
  rw [hz] at hzz
  omega

set_option maxHeartbeats 4000000 in
theorem plainForm (nb kb wb : ByteArray) (g : Bool) (v r : Int) (lo : Nat) (ls : List (List UInt8)) (sa : Option Addr) (sl sc : Nat) (w : World) (hst : Strs lo w (.slice sa sl sc) ls) (ht : Tab w)
    (hz1 : nb.size ≤ 16) (hz2 : kb.size ≤ 2) (hz3 : wb.size ≤ 16) (hz4 : (Lib.join ls [44]).length ≤ 1000) (hz5 : ls.length ≤ 4) (hv1 : -999999999 ≤ v) (hv2 : v ≤ 999999999) (hr1 : 1 ≤ r) (hr2 : r ≤ 1000) :
    Calls Tryz.prog 37 #[.agg #[.string nb, .string kb, .bool g, .int .i64 v, .string wb, .int .i64 r, .slice sa sl sc]] w fun e w' => (∃ z, e = .returned (.string z) ∧ B z = pform (B nb) (B kb) g v (B wb) r ls) ∧ Below w.heap.size w w' := by
  have HT := hide ht
  have HST := hide hst
  clear ht hst
  have hpv := fun (W : World) (hb : Below w.heap.size w W) => plainValue nb kb wb g v r sa sl sc W (HT.out.below hb) (by omega) hv1 hv2
  have HPV := hide hpv
  clear hpv
  go_enter Tryz.func37, Tryz.ntmps37
  go_wp2_with fail
  go_cut [3] from 4 to 26 (fun s3 wx => Stands nb kb (pvf (B kb) g v (B wb)) w #[.string nb, .string kb, .bool g, .int .i64 v, .string wb, .int .i64 r, .slice sa sl sc] s3 wx)
  case first =>
    clear HT HST hz3 hz4 hz5 hv1 hv2 hr1 hr2
    go_region_with (go_at_call 77; refine (HPV.out _ ((below_new _).drew)).mono ?_; rintro e w1 ⟨⟨z, rfl, hz, hzz⟩, hb1⟩; obtain ⟨c0, c1, c2, c3, c4, c5, c6⟩ := cells7 (sits_call hb1))
    all_goals (go_wp2_with fail; go_meet; exact met hz1 hz2 hz hzz hb1)
  case rest =>
    obtain ⟨y, rfl, hy1, hy2, hyb, hyS⟩ := hcut
    clear HPV
    obtain ⟨c0, c1, c2, c3, c4, c5, c6⟩ := cells7 hyS
    have HY2 := hide hy2
    have HYB := hide hyb
    have HYS := hide hyS
    clear hy2 hyb hyS
    have hb0 : ∀ W, Below wc.heap.size wc W → Below w.heap.size w W := fun W h => HYB.out.trans (h.mono HYB.out.size)
    have hstw : ∀ W, Below w.heap.size w W → Strs lo W (.slice sa sl sc) ls := fun W h => HST.out.below h
    have HB0 := hide hb0
    have HSTW := hide hstw
    clear hb0 hstw
    by_cases hr : r = 1000
    · subst hr
      go_wp2_with (go_at_call 79; refine (plainTags nb kb wb g v 1000 lo ls _ wc (HSTW.out _ HYB.out) (by omega) (by omega)).mono ?_; rintro e w2 ⟨⟨t, rfl, hpt, hpz⟩, hb2⟩)
      go_ret
      refine ⟨⟨_, rfl, ?_⟩, HB0.out _ hb2⟩
      rw [← pform_whole HY2.out hpt]
      exact B_append _ _
    · have hrb : (r != 1000) = true := by simpa using hr
      go_wp2_with (first
        | (go_at_call 78; refine (writeNumber r (by omega) (by omega) wc (HT.out.below HYB.out)).mono ?_; rintro e w2 ⟨⟨q, rfl, hq, hq1⟩, hb2⟩; obtain ⟨d0, d1, d2, d3, d4, d5, d6⟩ := cells7 (HYS.out.below hb2 HYS.out.lt))
        | (go_at_call 79; refine (plainTags nb kb wb g v r lo ls _ w2 (HSTW.out _ (HB0.out _ hb2)) (by omega) (by omega)).mono ?_; rintro e w3 ⟨⟨t, rfl, hpt, hpz⟩, hb3⟩))
      go_ret
      refine ⟨⟨_, rfl, ?_⟩, HB0.out _ (hb2.trans (hb3.mono hb2.size))⟩
      rw [← pform_rate hr HY2.out hq hpt]
      refine (B_append _ _).trans (congrArg (· ++ B t) ?_)
      refine (B_append _ _).trans (congrArg (B y ++ ·) ?_)
      exact B_append _ _

end Go.Proofs.YtenegfafjjknoaaGreatDoor.Plainp
