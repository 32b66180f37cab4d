/- strings.Split at newlines: the library's text walked, at every length. -/
import Derived.Test.YtenegfafjjknoaaGreatDoorWix
import Derived.Test.YtenegfafjjknoaaGreatDoorSplit
import Derived.Test.YtenegfafjjknoaaGreatDoorShelg
namespace Go.Proofs.YtenegfafjjknoaaGreatDoor.Spn
open Go.RowKit Bytes Go.Lib Split

set_option maxHeartbeats 4000000 in
set_option maxRecDepth 1000000 in
theorem genSplit10 (s : ByteArray) (N : Nat) (w : World) (hs : s.size ≤ 140737488355328) (hN : N = Lib.countByte s.data.toList 10 + 1) (hNb : N ≤ 1000000000000) :
    Calls Tryz.prog 186 #[.string s, .string ⟨#[10]⟩, .int .i64 0, .int .i64 (-1)] w fun e w' =>
      e = .returned (.slice (some ⟨w.heap.size, 0, none⟩) (Lib.splitB ⟨#[10]⟩ 0 (N - 1) s).length N) ∧ w' = w.alloc (.cells (Lib.cellsOf (Lib.splitB ⟨#[10]⟩ 0 (N - 1) s) N) 9) := by
  have hI : ∀ (x : ByteArray) (w : World), Calls Tryz.prog 241 #[.string x, .string ⟨#[10]⟩] w fun e w' => e = .returned (.int .i64 (Lib.indexB x ⟨#[10]⟩)) ∧ w' = w := fun x w =>
    (Tryz.strings_Index_one x 10 w).mono fun e w' ⟨he, hw⟩ => ⟨by rw [he, ← Lib.index_one], hw⟩
  have hcz : Lib.countByte s.data.toList 10 ≤ s.size := by
    rw [size_B]
    exact List.count_le_length
  have hCt := Tryz.strings_Count_one s 10 w
  have eC : ((Lib.countByte s.data.toList 10 : Nat) : Int) = (N : Int) - 1 := by omega
  rw [eC] at hCt
  have HCt := hide hCt
  have eN' : min (N : Int) ((s.size : Int) + 1) = (N : Int) := by omega
  have hN1 : (1 : Int) ≤ (N : Int) := by omega
  have eN2 : (N : Int) - 1 + 1 = (N : Int) := by omega
  clear hN hCt eC
  have hmk := run_make_row' (P := Tryz.prog) 36 9 (.string ByteArray.empty) 16 Tryz.underlying36 hi9 rfl .i64 .i64 N (by omega) (by omega)
  have HI := hide hI
  clear hI
  go_enter Tryz.func186, Tryz.ntmps186
  go_wp2_with (go_at_call 240; refine HCt.out.mono ?_; rintro e w' ⟨rfl, hw⟩; rw [hw])
  clear hmk
  go_loopg [0, 10] (N - 1) (fun g s0 s10 wr => ∃ (done : List ByteArray) (rest : ByteArray), s0 = .string rest ∧ s10 = .int .i64 done.length ∧ done.length ≤ N - 1 ∧ g = N - 1 - done.length ∧ rest.size ≤ s.size ∧
    wr = w.alloc (.cells (Lib.cellsOf done N) 9) ∧ done ++ Lib.splitB ⟨#[10]⟩ 0 (N - 1 - done.length) rest = Lib.splitB ⟨#[10]⟩ 0 (N - 1) s)
  case atStart => exact ⟨[], s, rfl, rfl, Nat.zero_le _, rfl, Nat.le_refl _, by rw [Lib.cellsOf_nil], rfl⟩
  case round =>
    obtain ⟨done, rest, rfl, rfl, hd, rfl, hrs, rfl, hsp⟩ := hrel
    have hnext : (Lib.cellsOf done N)[done.length]? = some (.string ByteArray.empty) := Lib.cellsOf_next (by omega)
    have HS := hide hsp
    clear hsp
    have fin : Lib.splitB ⟨#[10]⟩ 0 (N - 1 - done.length) rest = [rest] → (Lib.splitB ⟨#[10]⟩ 0 (N - 1) s).length = done.length + 1 ∧ (Lib.cellsOf done N).setIfInBounds done.length (.string rest) = Lib.cellsOf (Lib.splitB ⟨#[10]⟩ 0 (N - 1) s) N := fun h => by
      have e := HS.out
      rw [h] at e
      rw [← e]
      exact ⟨by simp, Lib.cellsOf_set (by omega) rest⟩
    have FIN := hide fin
    clear fin
    by_cases hlt : done.length < N - 1
    · have hltz : ((done.length : Nat) : Int) < (N : Int) - 1 := by omega
      rcases Lib.indexB_cases rest ⟨#[10]⟩ with hix | ⟨i, hix, hroom⟩
      · have HX := hide hix
        clear hix
        go_wp2_with (go_at_call 241; refine (HI.out rest _).mono ?_; rintro e w' ⟨rfl, hw⟩; rw [hw, HX.out])
        go_ret
        obtain ⟨f1, f2⟩ := FIN.out (Lib.splitB_miss _ 0 _ rest HX.out)
        rw [f1, ← f2]
        exact ⟨by first | rfl | (congr 2 <;> omega), rfl⟩
      · have hroom1 : i + 1 ≤ rest.size := hroom
        have HX := hide hix
        clear hix hroom
        go_wp2_with (go_at_call 241; refine (HI.out rest _).mono ?_; rintro e w' ⟨rfl, hw⟩; rw [hw, HX.out])
        go_roundg (N - 1 - (done.length + 1))
        case measure => omega
        case rel =>
          refine ⟨done ++ [rest.extract 0 i], rest.extract (i + 1) rest.size, rfl, by simp, by simp; omega, by simp, by rw [ByteArray.size_extract]; omega, by rw [← Lib.cellsOf_set (by omega)], ?_⟩
          rw [← HS.out, show N - 1 - done.length = (N - 1 - (done.length + 1)) + 1 by omega, Lib.splitB_hit _ 0 _ rest i HX.out]
          simp
          rfl
    · have hltz : ¬ (((done.length : Nat) : Int) < (N : Int) - 1) := by omega
      go_wp2_with fail
      go_ret
      obtain ⟨f1, f2⟩ := FIN.out (by rw [show N - 1 - done.length = 0 by omega]; rfl)
      rw [f1, ← f2]
      exact ⟨by first | rfl | (congr 2 <;> omega), rfl⟩


open Wm in
theorem lines_miss {l : List UInt8} (h : has 10 l = false) : lines l = [l] := lines_one (by
  unfold has at h
  simpa using h)

theorem fore_not (c : UInt8) (l : List UInt8) : c ∉ fore c l := by
  induction l with
  | nil => simp [fore]
  | cons b r ih =>
    unfold fore at ih ⊢
    by_cases h : b = c
    · subst h
      simp
    · rw [List.takeWhile_cons_of_pos (by simpa using h)]
      simp only [List.mem_cons, not_or]
      exact ⟨fun e => h e.symm, ih⟩

theorem cut_at {c : UInt8} {l : List UInt8} (h : has c l = true) : l = fore c l ++ c :: aft c l := by
  induction l with
  | nil => simp [has] at h
  | cons b r ih =>
    by_cases hb : b = c
    · subst hb
      simp [fore, aft]
    · have h2 : has c r = true := by
        unfold has at h ⊢
        simp only [List.contains_cons, Bool.or_eq_true, beq_iff_eq] at h
        exact h.resolve_left (fun e => hb e.symm)
      have h3 := ih h2
      have e1 : fore c (b :: r) = b :: fore c r := by
        unfold fore
        rw [List.takeWhile_cons_of_pos (by simpa using hb)]
      have e2 : aft c (b :: r) = aft c r := by
        unfold aft
        rw [List.dropWhile_cons_of_pos (by simpa using hb)]
      rw [e1, e2, List.cons_append, ← h3]

theorem split_lines (k : Nat) : ∀ s : ByteArray, Lib.countByte (B s) 10 = k → (Lib.splitB ⟨#[10]⟩ 0 k s).map B = Wm.lines (B s) := by
  induction k with
  | zero =>
    intro s hc
    have : has 10 (B s) = false := by
      unfold has
      simp only [Lib.countByte, List.count_eq_zero] at hc
      simpa using hc
    rw [lines_miss this]
    rfl
  | succ k ih =>
    intro s hc
    have e : Lib.indexB s ⟨#[10]⟩ = Lib.indexByte (B s) 10 := Lib.index_one _ _
    rcases idx_cases (B s) 10 with ⟨h1, h2, _⟩ | ⟨o, h1, h0, h2, h3, h4⟩
    · exfalso
      unfold has at h2
      have : (10 : UInt8) ∉ B s := by simpa using h2
      rw [Lib.countByte, List.count_eq_zero.2 this] at hc
      omega
    · have hj := cut_at h2
      have hcc : Lib.countByte (aft 10 (B s)) 10 = k := by
        have h5 : (10 : UInt8) ∉ fore 10 (B s) := fore_not 10 (B s)
        have h6 : Lib.countByte (B s) 10 = Lib.countByte (fore 10 (B s) ++ 10 :: aft 10 (B s)) 10 := congrArg (fun l => Lib.countByte l 10) hj
        rw [hc] at h6
        simp only [Lib.countByte, List.count_append, List.count_eq_zero.2 h5, List.count_cons_self] at h6
        simp only [Lib.countByte]
        omega
      have e2 : B (s.extract (o + 1) s.size) = aft 10 (B s) := by
        rw [B_extract, h4, List.take_of_length_le]
        rw [List.length_drop, size_B]
        exact Nat.le_refl _
      rw [Lib.splitB_hit _ _ _ _ o (by rw [e, h1]), List.map_cons]
      have ih2 := ih (s.extract (o + 1) s.size) (by rw [e2]; exact hcc)
      show B (s.extract 0 (o + 0)) :: (Lib.splitB ⟨#[10]⟩ 0 k (s.extract (o + 1) s.size)).map B = _
      rw [ih2, e2, B_extract, List.drop_zero, Nat.add_zero, Nat.sub_zero, ← h3]
      have := Wm.lines_join (fore 10 (B s)) (aft 10 (B s))
      rw [← hj] at this
      have h7 : Wm.lines (fore 10 (B s)) = [fore 10 (B s)] := Wm.lines_one (fore_not 10 (B s))
      rw [this, h7]
      rfl

theorem split_size (k : Nat) : ∀ (s : ByteArray) (x : ByteArray), x ∈ Lib.splitB ⟨#[10]⟩ 0 k s → x.size ≤ s.size := by
  induction k with
  | zero =>
    intro s x hx
    rw [Lib.splitB_zero, List.mem_singleton] at hx
    rw [hx]
    exact Nat.le_refl _
  | succ k ih =>
    intro s x hx
    have e : Lib.indexB s ⟨#[10]⟩ = Lib.indexByte (B s) 10 := Lib.index_one _ _
    rcases idx_cases (B s) 10 with ⟨h1, h2, _⟩ | ⟨o, h1, h0, h2, h3, h4⟩
    · rw [Lib.splitB_miss _ _ _ _ (by rw [e, h1]), List.mem_singleton] at hx
      rw [hx]
      exact Nat.le_refl _
    · rw [Lib.splitB_hit _ _ _ _ o (by rw [e, h1])] at hx
      rcases List.mem_cons.1 hx with rfl | hx
      · rw [ByteArray.size_extract]
        omega
      · have := ih _ x hx
        rw [ByteArray.size_extract] at this
        omega

/-- The lines of a text. -/
theorem split10 (s : ByteArray) (hs : s.size ≤ 140737488355328) (hc : Lib.countByte (B s) 10 + 1 ≤ 1000000000000) (w : World) :
    Calls Tryz.prog 141 #[.string s, .string ⟨#[10]⟩] w fun e w' => ∃ ps : List ByteArray, ps.map B = Wm.lines (B s) ∧ (∀ x ∈ ps, x.size ≤ s.size) ∧ e = .returned (.slice (some ⟨w.heap.size, 0, none⟩) ps.length (Lib.countByte (B s) 10 + 1)) ∧ ps.length = Lib.countByte (B s) 10 + 1 ∧ w' = w.alloc (.cells (Lib.cellsOf ps (Lib.countByte (B s) 10 + 1)) 9) := by
  have hc' := genSplit10 s (Lib.countByte (B s) 10 + 1) w hs rfl hc
  have HC := hide hc'
  clear hc'
  go_enter Tryz.func141, Tryz.ntmps141
  go_wp2_with (go_at_call 186; refine HC.out.mono ?_; rintro e w' ⟨rfl, hw⟩; rw [hw])
  go_ret
  refine ⟨_, split_lines _ s rfl, fun x hx => split_size _ _ _ hx, rfl, ?_, rfl⟩
  have h1 := congrArg List.length (split_lines _ s rfl)
  rw [List.length_map] at h1
  have h2 : (Wm.lines (B s)).length = Lib.countByte (B s) 10 + 1 := by
    generalize B s = l
    induction l with
    | nil => rfl
    | cons c r ih =>
      rw [Wm.lines]
      by_cases hcc : c = 10
      · subst hcc
        simp only [if_true, List.length_cons, ih, Lib.countByte, List.count_cons_self]
      · rw [if_neg hcc]
        have h3 : Lib.countByte (c :: r) 10 = Lib.countByte r 10 := by simp [Lib.countByte, hcc]
        rw [h3]
        cases hr : Wm.lines r with
        | nil => exact absurd hr (Wm.lines_ne r)
        | cons x y =>
          rw [hr] at ih
          simpa using ih
  exact h1.trans h2

end Go.Proofs.YtenegfafjjknoaaGreatDoor.Spn
