/- The walk of a sample's plain form. -/
import Derived.Test.YtenegfafjjknoaaGreatDoorPlainw
namespace Go.Proofs.YtenegfafjjknoaaGreatDoor.Plainv
open Go.RowKit Bytes Nums Numw Mem Tags Tagw Opts Plain Readw Plainw

/-- The value, written, out of the fields. -/
def pn (g : Bool) (v : Int) : List UInt8 := if g = true ∧ 0 ≤ v then 43 :: wn v else wn v
def pvf (k : List UInt8) (g : Bool) (v : Int) (x : List UInt8) : List UInt8 := if k = [115] then x else pn g v

theorem pn_plus {v : Int} (h : 0 ≤ v) : pn true v = 43 :: wn v := by
  rw [pn, if_pos ⟨rfl, h⟩]
theorem pn_false (v : Int) : pn false v = wn v := by
  rw [pn, if_neg (by simp)]
theorem pn_neg {g : Bool} {v : Int} (h : ¬ 0 ≤ v) : pn g v = wn v := by
  rw [pn, if_neg (by omega)]

theorem joinTags (G cap : Nat) (ls : List (List UInt8)) (w : World) (hG1 : G < w.heap.size) (hG2 : ls.length ≤ cap) (hG3 : ∀ j x, ls[j]? = some x → w.cell? ⟨G, j, none⟩ = some (.string ⟨x.toArray⟩)) (hl : ls.length ≤ 140737488355328) (hz : (Lib.join ls [44]).length ≤ 140737488355328) :
    Calls Tryz.prog 137 #[.slice (some ⟨G, 0, none⟩) ls.length cap, .string ⟨#[44]⟩] w fun e w' => (∃ z, e = .returned (.string z) ∧ B z = Lib.join ls [44] ∧ z.size ≤ 140737488355328) ∧ Below w.heap.size w w' := by
  have em : (ls.map fun x => (⟨x.toArray⟩ : ByteArray)).map (fun x => x.data.toList) = ls := by
    rw [List.map_map]
    exact List.map_id ls
  have hj := Tryz.strings_Join G 0 cap (ls.map fun x => ⟨x.toArray⟩) ⟨#[44]⟩ w (fun j x hx => by
      rw [List.getElem?_map, Option.map_eq_some_iff] at hx
      obtain ⟨y, hy, rfl⟩ := hx
      rw [Nat.zero_add]
      exact hG3 j y hy) hG1 (by rw [List.length_map]; exact hl) (by rw [List.length_map]; exact hG2) (by rw [em]; exact hz)
  rw [List.length_map, em] at hj
  refine hj.mono fun e w' h => ?_
  obtain ⟨he, hb⟩ := h
  refine ⟨⟨_, he, rfl, ?_⟩, hb⟩
  rw [size_B]
  exact hz

theorem value_word (nb wb : ByteArray) (g : Bool) (v r : Int) (sa : Option Addr) (sl sc : Nat) (w : World) :
    Calls Tryz.prog 77 #[.agg #[.string nb, .string ⟨#[115]⟩, .bool g, .int .i64 v, .string wb, .int .i64 r, .slice sa sl sc]] w fun e w' => e = .returned (.string wb) ∧ Below w.heap.size w w' := by
  go_enter Tryz.func77, Tryz.ntmps77
  go_wp2_with fail
  go_ret
  exact ⟨rfl, below_new _⟩

theorem value_num (nb kb wb : ByteArray) (g : Bool) (v r : Int) (sa : Option Addr) (sl sc : Nat) (w : World) (ht : Tab w) (hk : (kb.toList == [115]) = false) (h1 : -999999999 ≤ v) (h2 : v ≤ 999999999) :
    Calls Tryz.prog 77 #[.agg #[.string nb, .string kb, .bool g, .int .i64 v, .string wb, .int .i64 r, .slice sa sl sc]] w fun e w' => (∃ z, e = .returned (.string z) ∧ B z = pn g v ∧ z.size ≤ 18) ∧ Below w.heap.size w w' := by
  have HT := hide ht
  clear ht
  by_cases h0 : 0 ≤ v
  · cases g with
    | true =>
      go_enter Tryz.func77, Tryz.ntmps77
      go_wp2_with (go_at_call 78; refine (writeNumber v h1 h2 _ (HT.out.below (below_new _))).mono ?_; rintro e w1 ⟨⟨z, rfl, hz, hz1⟩, hb1⟩)
      go_ret
      refine ⟨⟨_, rfl, ?_, ?_⟩, (below_new _).trans (hb1.mono (by simp))⟩
      · rw [pn_plus h0, ← hz]
        exact B_append _ _
      · rw [size_B]
        refine Nat.le_trans (Nat.le_of_eq (congrArg List.length (B_append _ _))) ?_
        rw [List.length_append, ← size_B z]
        show 1 + z.size ≤ 18
        omega
    | false =>
      go_enter Tryz.func77, Tryz.ntmps77
      go_wp2_with (go_at_call 78; refine (writeNumber v h1 h2 _ (HT.out.below (below_new _))).mono ?_; rintro e w1 ⟨⟨z, rfl, hz, hz1⟩, hb1⟩)
      go_ret
      refine ⟨⟨_, rfl, ?_, by omega⟩, (below_new _).trans (hb1.mono (by simp))⟩
      rw [pn_false, ← hz]
  · cases g with
    | true =>
      go_enter Tryz.func77, Tryz.ntmps77
      go_wp2_with (go_at_call 78; refine (writeNumber v h1 h2 _ (HT.out.below (below_new _))).mono ?_; rintro e w1 ⟨⟨z, rfl, hz, hz1⟩, hb1⟩)
      go_ret
      refine ⟨⟨_, rfl, ?_, by omega⟩, (below_new _).trans (hb1.mono (by simp))⟩
      rw [pn_neg (by omega), ← hz]
    | false =>
      go_enter Tryz.func77, Tryz.ntmps77
      go_wp2_with (go_at_call 78; refine (writeNumber v h1 h2 _ (HT.out.below (below_new _))).mono ?_; rintro e w1 ⟨⟨z, rfl, hz, hz1⟩, hb1⟩)
      go_ret
      refine ⟨⟨_, rfl, ?_, by omega⟩, (below_new _).trans (hb1.mono (by simp))⟩
      rw [pn_false, ← hz]

theorem plainValue (nb kb wb : ByteArray) (g : Bool) (v r : Int) (sa : Option Addr) (sl sc : Nat) (w : World) (ht : Tab w) (hw : wb.size ≤ 140737488355328) (h1 : -999999999 ≤ v) (h2 : v ≤ 999999999) :
    Calls Tryz.prog 77 #[.agg #[.string nb, .string kb, .bool g, .int .i64 v, .string wb, .int .i64 r, .slice sa sl sc]] w fun e w' => (∃ z, e = .returned (.string z) ∧ B z = pvf (B kb) g v (B wb) ∧ z.size ≤ 140737488355346) ∧ Below w.heap.size w w' := by
  by_cases hk : B kb = [115]
  · obtain rfl : kb = ⟨#[115]⟩ := B_inj hk
    refine (value_word nb wb g v r sa sl sc w).mono fun e w' h => ?_
    obtain ⟨he, hb⟩ := h
    exact ⟨⟨_, he, by rw [pvf, if_pos hk], by omega⟩, hb⟩
  · refine (value_num nb kb wb g v r sa sl sc w ht (Vals.ne_list hk) h1 h2).mono fun e w' h => ?_
    obtain ⟨⟨z, he, hz, hz1⟩, hb⟩ := h
    exact ⟨⟨_, he, by rw [pvf, if_neg hk, hz], by omega⟩, hb⟩

theorem plainTags (nb kb wb : ByteArray) (g : Bool) (v r : Int) (lo : Nat) (ls : List (List UInt8)) (tv : Value) (w : World) (hst : Strs lo w tv ls) (hl : ls.length ≤ 140737488355328) (hz : (Lib.join ls [44]).length ≤ 140737488355328) :
    Calls Tryz.prog 79 #[.agg #[.string nb, .string kb, .bool g, .int .i64 v, .string wb, .int .i64 r, tv]] w fun e w' => (∃ z, e = .returned (.string z) ∧ B z = pt ls ∧ z.size ≤ 140737488355340) ∧ Below w.heap.size w w' := by
  rcases hst with ⟨rfl, rfl⟩ | ⟨G, cap, rfl, hG0, hG1, hG2, hG3⟩
  · go_enter Tryz.func79, Tryz.ntmps79
    go_wp2_with fail
    go_ret
    exact ⟨⟨_, rfl, rfl, by decide⟩, below_new _⟩
  · by_cases hn : ls = []
    · subst hn
      go_enter Tryz.func79, Tryz.ntmps79
      go_wp2_with fail
      go_ret
      exact ⟨⟨_, rfl, rfl, by decide⟩, below_new _⟩
    · have hn1 : 1 ≤ ls.length := by
        cases ls with
        | nil => exact absurd rfl hn
        | cons x l => simp
      have hj := joinTags G cap ls (w.alloc (.cells #[.string nb, .string kb, .bool g, .int .i64 v, .string wb, .int .i64 r, .slice (some ⟨G, 0, none⟩) ls.length cap] 80)) (by simp; omega) hG2 (fun j x hx => by
          rw [(below_new _).cell (p := ⟨G, j, none⟩) hG1]
          exact hG3 j x hx) hl hz
      have HJ := hide hj
      clear hj
      have hnz : ((ls.length : Int) == 0) = false := by
        simp only [beq_eq_false_iff_ne]
        omega
      go_enter Tryz.func79, Tryz.ntmps79
      go_wp2_with (go_at_call 137; refine HJ.out.mono ?_; rintro e w1 ⟨⟨z, rfl, hz1, hz2⟩, hb1⟩)
      go_ret
      refine ⟨⟨_, rfl, ?_, ?_⟩, (below_new _).trans (hb1.mono (by simp))⟩
      · rw [pt, if_neg hn, ← hz1]
        exact B_append _ _
      · rw [size_B]
        refine Nat.le_trans (Nat.le_of_eq (congrArg List.length (B_append _ _))) ?_
        rw [List.length_append, ← size_B z]
        show 2 + z.size ≤ _
        omega

end Go.Proofs.YtenegfafjjknoaaGreatDoor.Plainv
