/- The walks of the plain form's writing. -/
import Derived.Test.YtenegfafjjknoaaGreatDoorReadw
import Derived.Test.YtenegfafjjknoaaGreatDoorPlain
import Derived.Lib.SmallJoins
namespace Go.Proofs.YtenegfafjjknoaaGreatDoor.Plainw
open Go.RowKit Bytes Nums Numw Mem Tags Tagw Opts Plain Readw

/-- The library's table of powers lies where its text lays it. -/
def Tab (w : World) : Prop := Lib.TabIs Tryz.prog w "internal/strconv.uint64pow10" .u64 Lib.pow10Tab

theorem tab_named : ∃ g, Tryz.prog.globalNamed "internal/strconv.uint64pow10" = some g := Option.isSome_iff_exists.1 (by kernel_rfl)

theorem Tab.below {w w' : World} (h : Tab w) (hb : Below w.heap.size w w') : Tab w' := by
  obtain ⟨g, hg⟩ := tab_named
  exact Joins.tab_stays hg h hb (Nat.le_refl _)

theorem Tab.drewN {w : World} {n : Nat} (h : Tab w) : Tab (w.drewN n) := h

theorem below_grow (w : World) (k : Nat) (os : Array Obj) : Below w.heap.size w (Sort.grow (w.drewN k) os) :=
  ⟨rfl, rfl, rfl, by simp, fun i hi => Sort.heap_grow_old _ _ (by simpa using hi)⟩

theorem itoa (n : Int) (h0 : 0 ≤ n) (h1 : n < 10000000) (w : World) (ht : Tab w) :
    Calls Tryz.prog 91 #[.int .i64 n] w fun e w' => (∃ z, e = .returned (.string z) ∧ B z = Lib.decDigits n.toNat ∧ 1 ≤ z.size ∧ z.size ≤ 7) ∧ Below w.heap.size w w' := by
  refine (Tryz.strconv_Itoa n (by omega) (by omega) w ht).mono fun e w' h => ?_
  obtain ⟨he, k, os, hw⟩ := h
  subst hw
  have e1 : B ⟨(Lib.itoa n).toArray⟩ = Lib.decDigits n.toNat := by
    unfold Lib.itoa
    rw [if_neg (by omega)]
    rfl
  refine ⟨⟨_, he, e1, ?_, ?_⟩, below_grow _ _ _⟩
  · rw [size_B, e1, Lib.decDigits_length]
    exact Lib.nDigits_pos _
  · rw [size_B, e1]
    exact dd_len (by omega)

theorem trim0 (s : ByteArray) (hs : s.size ≤ 7) (w : World) :
    Calls Tryz.prog 136 #[.string s, .string ⟨#[48]⟩] w fun e w' => (∃ z, e = .returned (.string z) ∧ B z = Lib.trimRightB (B s) 48 ∧ z.size ≤ 7) ∧ w = w' := by
  refine (Tryz.strings_TrimRight_one s 48 (by decide) w (by omega)).mono fun e w' h => ?_
  obtain ⟨he, hw⟩ := h
  refine ⟨⟨_, he, rfl, ?_⟩, hw.symm⟩
  rw [size_B]
  have := trim_len s.data.toList 48
  rw [size_B] at hs
  exact Nat.le_trans this hs

theorem wn_whole {n : Int} (h0 : 0 ≤ n) (h : n % 1000 = 0) : wn n = Lib.decDigits (n / 1000).toNat := by
  unfold wn wnAbs
  rw [if_neg (by omega), if_pos (by omega), List.nil_append, List.append_nil]
  congr 1
  omega

theorem wn_part {n : Int} (h0 : 0 ≤ n) (h : ¬ n % 1000 = 0) : wn n = Lib.decDigits (n / 1000).toNat ++ [46] ++ Lib.trimRightB ((Lib.decDigits (1000 + n % 1000).toNat).drop 1) 48 := by
  unfold wn wnAbs
  rw [if_neg (by omega), if_neg (by omega), List.nil_append, List.append_assoc]
  congr 1
  · congr 1
    omega
  · show _ = 46 :: _
    congr 3
    congr 1
    omega

theorem wn_neg {n : Int} (h0 : 0 < n) : wn (-n) = [45] ++ wn n := by
  unfold wn
  rw [if_pos (by omega), if_neg (by omega), Int.natAbs_neg]
  rfl

/-- What writeNumber says. -/
theorem write_pos (n : Int) (h0 : 0 ≤ n) (h1 : n ≤ 999999999) (w : World) (ht : Tab w) :
    Calls Tryz.prog 78 #[.int .i64 n] w fun e w' => (∃ z, e = .returned (.string z) ∧ B z = wn n) ∧ Below w.heap.size w w' := by
  have HT := hide ht
  clear ht
  go_enter Tryz.func78, Tryz.ntmps78
  go_wp2_with fail
  refine (itoa (n / 1000) (by omega) (by omega) w HT.out).mono ?_
  rintro e w1 ⟨⟨z, rfl, hz, hz0, hz1⟩, hb1⟩
  have HZ := hide hz
  have HB1 := hide hb1
  clear hz hb1
  by_cases hm : n % 1000 = 0
  · go_wp2_with fail
    go_ret
    refine ⟨⟨_, rfl, ?_⟩, HB1.out⟩
    rw [wn_whole h0 hm, ← HZ.out]
    exact B_append _ _
  · go_wp2_with fail
    refine (itoa (1000 + n % 1000) (by omega) (by omega) w1 (HT.out.below HB1.out)).mono ?_
    rintro e w2 ⟨⟨y, rfl, hy, hy0, hy1⟩, hb2⟩
    have HY := hide hy
    have HB2 := hide hb2
    clear hy hb2
    go_wp2_with fail
    refine (trim0 (y.extract 1 y.size) (by rw [ByteArray.size_extract]; omega) w2).mono ?_
    rintro e w' ⟨⟨x, rfl, hx, hx1⟩, rfl⟩
    have HX := hide hx
    clear hx
    go_wp2_with fail
    go_ret
    refine ⟨⟨_, rfl, ?_⟩, HB1.out.trans (HB2.out.mono HB1.out.size)⟩
    rw [wn_part h0 hm, ← HZ.out, ← HY.out]
    have e1 : B (y.extract 1 y.size) = (B y).drop 1 := by
      rw [B_extract, List.take_of_length_le]
      rw [List.length_drop, size_B]
      exact Nat.le_refl _
    rw [← e1, ← HX.out]
    refine (B_append _ _).trans ?_
    refine congrArg (· ++ B x) ?_
    refine (B_append _ _).trans ?_
    exact congrArg (· ++ [46]) (B_append _ _)

theorem write_neg (n : Int) (h0 : 0 < n) (h1 : n ≤ 999999999) (w : World) (ht : Tab w) :
    Calls Tryz.prog 78 #[.int .i64 (-n)] w fun e w' => (∃ z, e = .returned (.string z) ∧ B z = wn (-n)) ∧ Below w.heap.size w w' := by
  have HT := hide ht
  clear ht
  have hn := wn_neg h0
  have HN := hide hn
  clear hn
  go_enter Tryz.func78, Tryz.ntmps78
  go_wp2_with fail
  refine (itoa (n / 1000) (by omega) (by omega) w HT.out).mono ?_
  rintro e w1 ⟨⟨z, rfl, hz, hz0, hz1⟩, hb1⟩
  have HZ := hide hz
  have HB1 := hide hb1
  clear hz hb1
  by_cases hm : n % 1000 = 0
  · go_wp2_with fail
    go_ret
    refine ⟨⟨_, rfl, ?_⟩, HB1.out⟩
    rw [HN.out, wn_whole (by omega) hm, ← HZ.out]
    exact B_append _ _
  · go_wp2_with fail
    refine (itoa (1000 + n % 1000) (by omega) (by omega) w1 (HT.out.below HB1.out)).mono ?_
    rintro e w2 ⟨⟨y, rfl, hy, hy0, hy1⟩, hb2⟩
    have HY := hide hy
    have HB2 := hide hb2
    clear hy hb2
    go_wp2_with fail
    refine (trim0 (y.extract 1 y.size) (by rw [ByteArray.size_extract]; omega) w2).mono ?_
    rintro e w' ⟨⟨x, rfl, hx, hx1⟩, rfl⟩
    have HX := hide hx
    clear hx
    go_wp2_with fail
    go_ret
    refine ⟨⟨_, rfl, ?_⟩, HB1.out.trans (HB2.out.mono HB1.out.size)⟩
    rw [HN.out, wn_part (by omega) hm, ← HZ.out, ← HY.out]
    have e1 : B (y.extract 1 y.size) = (B y).drop 1 := by
      rw [B_extract, List.take_of_length_le]
      rw [List.length_drop, size_B]
      exact Nat.le_refl _
    rw [← e1, ← HX.out, ← List.append_assoc, ← List.append_assoc]
    refine (B_append _ _).trans ?_
    refine congrArg (· ++ B x) ?_
    refine (B_append _ _).trans ?_
    exact congrArg (· ++ [46]) (B_append _ _)

theorem writeNumber (n : Int) (h0 : -999999999 ≤ n) (h1 : n ≤ 999999999) (w : World) (ht : Tab w) :
    Calls Tryz.prog 78 #[.int .i64 n] w fun e w' => (∃ z, e = .returned (.string z) ∧ B z = wn n ∧ z.size ≤ 17) ∧ Below w.heap.size w w' := by
  have h : Calls Tryz.prog 78 #[.int .i64 n] w fun e w' => (∃ z, e = .returned (.string z) ∧ B z = wn n) ∧ Below w.heap.size w w' := by
    by_cases hn : n < 0
    · have := write_neg (-n) (by omega) (by omega) w ht
      rwa [Int.neg_neg] at this
    · exact write_pos n (by omega) h1 w ht
  refine h.mono fun e w' h => ?_
  obtain ⟨⟨z, he, hz⟩, hb⟩ := h
  exact ⟨⟨z, he, hz, by rw [size_B, hz]; exact wn_len h0 h1⟩, hb⟩

end Go.Proofs.YtenegfafjjknoaaGreatDoor.Plainw
