/- Texts cut at one byte, as the library cuts them. -/
import Derived.Test.YtmkidefdegaamaaGreatDoorLeaf
import Derived.Test.YtmkidefdegaamaaGreatDoorShelf
import Derived.Deep.QuietTactic
import Derived.BigQuiet
import Derived.Test.YtmkidefdegaamaaGreatDoorSply
import Derived.Lib.Walk
import Derived.Laws.Strings3
import Derived.Deep.OwnRows
import Derived.Deep.LoopGhost
namespace Go.Proofs.YtmkidefdegaamaaGreatDoor.Texts
open Go.RowKit Bytes
theorem cut1 (s : ByteArray) (c : UInt8) (hs : s.size ≤ 9223372036854775807) (w : World) :
    Calls Tryz.prog 114 #[.string s, .string ⟨#[c]⟩] w fun e w' => (∃ a b, e = .returned (.tuple #[.string a, .string b, .bool (has c (B s))]) ∧ B a = fore c (B s) ∧ B b = aft c (B s) ∧ a.size ≤ s.size ∧ b.size ≤ s.size) ∧ ∃ n, w' = w.drewN n := by
  have hz := size_B s
  rcases idx_cases (B s) c with ⟨h1, h2, h3, h4⟩ | ⟨o, h1, h0, h2, h3, h4⟩
  · have hc : ∀ w, Calls Tryz.prog 155 #[.string s, .string ⟨#[c]⟩] w fun e w' => e = .returned (.int .i64 (-1)) ∧ w = w' := fun w => (Tryz.stringslite_Index_one s c w).mono fun e w' ⟨he, hw⟩ => ⟨by rw [he, ← h1]; rfl, hw.symm⟩
    rw [h2]
    have HC : Hid (∀ w, Calls Tryz.prog 155 #[.string s, .string ⟨#[c]⟩] w fun e w' => e = .returned (.int .i64 (-1)) ∧ w = w') := hc
    clear hc
    go_enter Tryz.func114, Tryz.ntmps114
    go_wp2_with (first
      | (go_at_call 156; go_in)
      | (go_at_call 155; refine (HC.out _).mono ?_; rintro e w' ⟨rfl, rfl⟩))
    go_ret3
    exact ⟨⟨s, ⟨#[]⟩, rfl, h3.symm, h4.symm, Nat.le_refl _, Nat.zero_le _⟩, 0, rfl⟩
  · have hc : ∀ w, Calls Tryz.prog 155 #[.string s, .string ⟨#[c]⟩] w fun e w' => e = .returned (.int .i64 (o : Int)) ∧ w = w' := fun w => (Tryz.stringslite_Index_one s c w).mono fun e w' ⟨he, hw⟩ => ⟨by rw [he, ← h1]; rfl, hw.symm⟩
    rw [h2]
    have HC : Hid (∀ w, Calls Tryz.prog 155 #[.string s, .string ⟨#[c]⟩] w fun e w' => e = .returned (.int .i64 (o : Int)) ∧ w = w') := hc
    clear hc
    have ho : o + 1 ≤ s.size := by omega
    have e1 : B (s.extract 0 o) = fore c (B s) := by
      rw [B_extract, h3, List.drop_zero, Nat.sub_zero]
    have e2 : B (s.extract (o + 1) s.size) = aft c (B s) := by
      rw [B_extract, h4, size_B, List.take_of_length_le]
      rw [List.length_drop]
      omega
    have e3 : (s.extract 0 o).size ≤ s.size := by
      rw [size_B, e1, h3, hz, List.length_take]
      omega
    have e4 : (s.extract (o + 1) s.size).size ≤ s.size := by
      rw [size_B, e2, h4, hz, List.length_drop]
      omega
    have HE : Hid (B (s.extract 0 o) = fore c (B s) ∧ B (s.extract (o + 1) s.size) = aft c (B s) ∧ (s.extract 0 o).size ≤ s.size ∧ (s.extract (o + 1) s.size).size ≤ s.size) := ⟨e1, e2, e3, e4⟩
    clear e1 e2 e3 e4 h1 h2 h3 h4 h0 hz
    go_enter Tryz.func114, Tryz.ntmps114
    go_wp2_with (first
      | (go_at_call 156; go_in)
      | (go_at_call 155; refine (HC.out _).mono ?_; rintro e w' ⟨rfl, rfl⟩))
    go_quiet (fail)
    go_wp2
    go_ret3
    exact ⟨⟨_, _, rfl, HE.out.1, HE.out.2.1, HE.out.2.2.1, HE.out.2.2.2⟩, _, rfl⟩
end Go.Proofs.YtmkidefdegaamaaGreatDoor.Texts
namespace Go.Proofs.YtmkidefdegaamaaGreatDoor.Split
open Go.RowKit Bytes Spl Go.Lib
theorem hide {p : Prop} (h : p) : Hid p := h
theorem hi9 : (Tryz.prog.info? 9).map (fun i => (i.zero, i.size, i.bytes)) = some (some (.string ByteArray.empty), 1, 16) := by kernel_rfl
set_option maxHeartbeats 4000000 in
set_option maxRecDepth 1000000 in
theorem genSplit (s : ByteArray) (N : Nat) (w : World) (hs : s.size ≤ 140737488355328) (hN : N = min 5 (s.size + 1)) :
    Calls Tryz.prog 88 #[.string s, .string ⟨#[44]⟩, .int .i64 0, .int .i64 5] w fun e w' =>
      e = .returned (.slice (some ⟨w.heap.size, 0, none⟩) (Lib.splitB ⟨#[44]⟩ 0 (N - 1) s).length N) ∧ w' = w.alloc (.cells (Lib.cellsOf (Lib.splitB ⟨#[44]⟩ 0 (N - 1) s) N) 9) := by
  have hI : ∀ (x : ByteArray) (w : World), Calls Tryz.prog 113 #[.string x, .string ⟨#[44]⟩] w fun e w' => e = .returned (.int .i64 (Lib.indexB x ⟨#[44]⟩)) ∧ w' = w := fun x w =>
    (Tryz.strings_Index_one x 44 w).mono fun e w' ⟨he, hw⟩ => ⟨by rw [he, ← Lib.index_one], hw⟩
  have eN' : min (5 : Int) ((s.size : Int) + 1) = (N : Int) := by omega
  have hNs : (N : Int) ≤ (s.size : Int) + 1 := by omega
  have hN1 : (1 : Int) ≤ (N : Int) := by omega
  have hN5 : (N : Int) ≤ 5 := by omega
  clear hN
  have hmk := run_make_row' (P := Tryz.prog) 24 9 (.string ByteArray.empty) 16 Tryz.underlying24 hi9 rfl .i64 .i64 N (by omega) (by omega)
  have HI := hide hI
  clear hI
  go_enter Tryz.func88, Tryz.ntmps88
  go_wp2_with fail
  clear hmk
  go_loopg [0, 10] (N - 1) (fun g s0 s10 wr => ∃ (done : List ByteArray) (rest : ByteArray), s0 = .string rest ∧ s10 = .int .i64 done.length ∧ done.length ≤ N - 1 ∧ g = N - 1 - done.length ∧ rest.size ≤ s.size ∧
    wr = w.alloc (.cells (Lib.cellsOf done N) 9) ∧ done ++ Lib.splitB ⟨#[44]⟩ 0 (N - 1 - done.length) rest = Lib.splitB ⟨#[44]⟩ 0 (N - 1) s)
  case atStart => exact ⟨[], s, rfl, rfl, Nat.zero_le _, rfl, Nat.le_refl _, by rw [Lib.cellsOf_nil], rfl⟩
  case round =>
    obtain ⟨done, rest, rfl, rfl, hd, rfl, hrs, rfl, hsp⟩ := hrel
    have hnext : (Lib.cellsOf done N)[done.length]? = some (.string ByteArray.empty) := Lib.cellsOf_next (by omega)
    have HS := hide hsp
    clear hsp
    have fin : Lib.splitB ⟨#[44]⟩ 0 (N - 1 - done.length) rest = [rest] → (Lib.splitB ⟨#[44]⟩ 0 (N - 1) s).length = done.length + 1 ∧ (Lib.cellsOf done N).setIfInBounds done.length (.string rest) = Lib.cellsOf (Lib.splitB ⟨#[44]⟩ 0 (N - 1) s) N := fun h => by
      have e := HS.out
      rw [h] at e
      rw [← e]
      exact ⟨by simp, Lib.cellsOf_set (by omega) rest⟩
    have FIN := hide fin
    clear fin
    by_cases hlt : done.length < N - 1
    · have hltz : ((done.length : Nat) : Int) < (N : Int) - 1 := by omega
      rcases Lib.indexB_cases rest ⟨#[44]⟩ with hix | ⟨i, hix, hroom⟩
      · have HX := hide hix
        clear hix
        go_wp2_with (go_at_call 113; refine (HI.out rest _).mono ?_; rintro e w' ⟨rfl, hw⟩; rw [hw, HX.out])
        go_ret
        obtain ⟨f1, f2⟩ := FIN.out (Lib.splitB_miss _ 0 _ rest HX.out)
        rw [f1, ← f2]
        exact ⟨by first | rfl | (congr 2 <;> omega), rfl⟩
      · have hroom1 : i + 1 ≤ rest.size := hroom
        have HX := hide hix
        clear hix hroom
        go_wp2_with (go_at_call 113; refine (HI.out rest _).mono ?_; rintro e w' ⟨rfl, hw⟩; rw [hw, HX.out])
        go_roundg (N - 1 - (done.length + 1))
        case measure => omega
        case rel =>
          refine ⟨done ++ [rest.extract 0 i], rest.extract (i + 1) rest.size, rfl, by simp, by simp; omega, by simp, by rw [ByteArray.size_extract]; omega, by rw [← Lib.cellsOf_set (by omega)], ?_⟩
          rw [← HS.out, show N - 1 - done.length = (N - 1 - (done.length + 1)) + 1 by omega, Lib.splitB_hit _ 0 _ rest i HX.out]
          simp
          rfl
    · have hltz : ¬ (((done.length : Nat) : Int) < (N : Int) - 1) := by omega
      go_wp2_with fail
      go_ret
      obtain ⟨f1, f2⟩ := FIN.out (by rw [show N - 1 - done.length = 0 by omega]; rfl)
      rw [f1, ← f2]
      exact ⟨by first | rfl | (congr 2 <;> omega), rfl⟩
/-- The pieces of a text: at most five, each no longer than it. -/
theorem splitN (s : ByteArray) (hs : s.size ≤ 140737488355328) (w : World) :
    Calls Tryz.prog 205 #[.string s, .string ⟨#[44]⟩, .int .i64 5] w fun e w' => ∃ (ps : List ByteArray) (N : Nat), ps.map B = spl 4 (B s) ∧ ps.length ≤ N ∧ N ≤ 5 ∧ (∀ x ∈ ps, x.size ≤ s.size) ∧ e = .returned (.slice (some ⟨w.heap.size, 0, none⟩) ps.length N) ∧ w' = w.alloc (.cells (Lib.cellsOf ps N) 9) := by
  have hc := genSplit s (min 5 (s.size + 1)) w hs rfl
  have HC := hide hc
  clear hc
  go_enter Tryz.func205, Tryz.ntmps205
  go_wp2_with (go_at_call 88; refine HC.out.mono ?_; rintro e w' ⟨rfl, hw⟩; rw [hw])
  go_ret
  refine ⟨_, _, ?_, ?_, ?_, fun x hx => splitB_size _ _ _ hx, rfl, rfl⟩
  · rw [splitB_spl, ← spl_min 4, ← size_B]
    congr 1
    omega
  · have := splitB_len (min 5 (s.size + 1) - 1) s
    omega
  · omega
end Go.Proofs.YtmkidefdegaamaaGreatDoor.Split
namespace Go.Proofs.YtmkidefdegaamaaGreatDoor.Numw
open Go.RowKit Bytes Nums
theorem hide {p : Prop} (h : p) : Hid p := h
theorem rep_one (n : Nat) : B ⟨(Lib.repeatL (⟨#[48]⟩ : ByteArray).data.toList n).toArray⟩ = List.replicate n 48 := by
  simp only [B]
  induction n with
  | zero => rfl
  | succ n ih =>
    rw [List.replicate_succ, ← ih]
    rfl
theorem digitsValue (s : ByteArray) (hd : digs (B s) = true) (hl : s.size ≤ 6) (w : World) :
    Calls Tryz.prog 203 #[.string s] w fun e w' => e = .returned (.int .i64 (val (B s))) ∧ w = w' := by
  have HD : Hid (digs (B s) = true) := hd
  clear hd
  go_enter Tryz.func203, Tryz.ntmps203
  go_wp2
  go_loop [3, 7] (fun n i => ∃ (k : Nat) (v : Int), i = .int .i64 k ∧ n = .int .i64 v ∧ k ≤ s.size ∧ 0 ≤ v ∧ v ≤ 999999 ∧ Hid (v = val ((B s).take k)))
    (fun _ i => s.size - (intOf i).toNat)
  case atStart => exact ⟨0, 0, rfl, rfl, Nat.zero_le _, by omega, by omega, rfl⟩
  case round =>
    obtain ⟨k, v, rfl, rfl, hk, h0, h1, HV⟩ := hrel
    have hb : ∀ h : k < s.size, 48 ≤ (s[k].toNat : Int) ∧ (s[k].toNat : Int) ≤ 57 := fun h => dig_at HD.out h
    have HB : Hid (∀ h : k < s.size, 48 ≤ (s[k].toNat : Int) ∧ (s[k].toNat : Int) ≤ 57) := hb
    clear hb
    go_wp2
    · have hlt : k < s.size := by assumption
      have hb := HB.out hlt
      have ev : v * 10 + ((s[k].toNat : Int) - 48) % 256 = val ((B s).take (k + 1)) := by
        rw [val_step hlt, ← HV.out]
        omega
      have hr := val_take (k := k + 1) HD.out hl
      go_round
      case rel => exact ⟨k + 1, val ((B s).take (k + 1)), by go_num, congrArg (Value.int IntKind.i64) ev, by omega, hr.1, hr.2, rfl⟩
      case measure => simp [intOf]; omega
    · have hge : ¬ k < s.size := by assumption
      have ev : v = val (B s) := by
        rw [HV.out, List.take_of_length_le]
        rw [← size_B]
        omega
      go_ret
      exact ⟨congrArg (fun z => Ending.returned (.int .i64 z)) ev, rfl⟩
theorem readDecimals (s : ByteArray) (hs : s.size ≤ 9223372036854775807) (w : World) :
    Calls Tryz.prog 202 #[.string s] w fun e w' => ((∃ v, dec (B s) = some v ∧ e = .returned (.tuple #[.int .i64 v, .bool true])) ∨ (dec (B s) = none ∧ e = .returned (.tuple #[.int .i64 0, .bool false]))) ∧ Below w.heap.size w w' := by
  cases hm : made dig 3 (B s) with
  | false =>
    have hN : dec (B s) = none := by simp [dec, hm]
    have hc : ∀ w, Calls Tryz.prog 201 #[.string s, .int .i64 3] w fun e w' => e = .returned (.bool false) ∧ w = w' := fun w => by rw [← hm]; exact Leaf.isDigits s 3 hs w
    have HC := hide hc
    clear hc hm
    go_enter Tryz.func202, Tryz.ntmps202
    go_wp2_with (go_at_call 201; refine (HC.out _).mono ?_; rintro e w' ⟨rfl, rfl⟩)
    go_ret2
    exact ⟨Or.inr ⟨hN, rfl⟩, Below.refl _ _⟩
  | true =>
    obtain ⟨h1, h2, h3⟩ := made_dig hm
    have hS : dec (B s) = some (val (B s ++ List.replicate (3 - (B s).length) 48)) := by simp [dec, hm]
    have hc : ∀ w, Calls Tryz.prog 201 #[.string s, .int .i64 3] w fun e w' => e = .returned (.bool true) ∧ w = w' := fun w => by rw [← hm]; exact Leaf.isDigits s 3 hs w
    have HC := hide hc
    rw [← size_B] at h2
    have hz : s.size ≤ 3 := by omega
    have hr : ∀ w, Calls Tryz.prog 237 #[.string ⟨#[48]⟩, .int .i64 (3 - (s.size : Int))] w fun e w' => (∃ z, e = .returned (.string z) ∧ B z = List.replicate (3 - s.size) 48 ∧ z.size ≤ 3) ∧ Below w.heap.size w w' := fun w => by
      have e : (3 - (s.size : Int)) = ((3 - s.size : Nat) : Int) := by omega
      rw [e]
      refine (Tryz.strings_Repeat ⟨#[48]⟩ (3 - s.size) w (by omega) ?_).mono fun e w' ⟨he, hw⟩ => ⟨⟨_, he, ?_, ?_⟩, hw⟩
      · show 1 * (3 - s.size) ≤ _
        omega
      · exact rep_one _
      · rw [size_B, rep_one, List.length_replicate]
        omega
    have HR := hide hr
    have hv : ∀ z w, B z = List.replicate (3 - s.size) 48 → Calls Tryz.prog 203 #[.string (s ++ z)] w fun e w' => e = .returned (.int .i64 (val (B s ++ List.replicate (3 - (B s).length) 48))) ∧ w = w' := fun z w hz' => by
      have e : B (s ++ z) = B s ++ List.replicate (3 - (B s).length) 48 := by rw [B_append, hz', size_B]
      rw [← e]
      refine digitsValue (s ++ z) ?_ ?_ w
      · rw [e]
        exact digs_pad _ h1
      · rw [size_B, e, List.length_append, List.length_replicate, ← size_B]
        omega
    have HV := hide hv
    clear hc hr hv hm h1 h3 h2
    go_enter Tryz.func202, Tryz.ntmps202
    go_wp2_with (first
      | (go_at_call 201; refine (HC.out _).mono ?_; rintro e w' ⟨rfl, rfl⟩)
      | (go_at_call 237; refine (HR.out _).mono ?_; rintro e w' ⟨⟨z, rfl, hz1, hz2⟩, hb⟩)
      | (go_at_call 203; refine (HV.out _ _ hz1).mono ?_; rintro e w' ⟨rfl, rfl⟩))
    go_ret2
    exact ⟨Or.inl ⟨_, hS, rfl⟩, hb⟩
theorem not_t {b : Bool} (h : (!b) = true) : b = false := by simpa using h
theorem not_f {b : Bool} (h : (!b) = false) : b = true := by simpa using h
/-- The two ways of a text with or without a point. -/
theorem cutPoint (s : ByteArray) (hs : s.size ≤ 9223372036854775807) (f : Bool) (hf : has 46 (B s) = f) (w : World) :
    Calls Tryz.prog 114 #[.string s, .string ⟨#[46]⟩] w fun e w' => (∃ a b, e = .returned (.tuple #[.string a, .string b, .bool f]) ∧ B a = fore 46 (B s) ∧ B b = aft 46 (B s) ∧ a.size ≤ s.size ∧ b.size ≤ s.size) ∧ ∃ n, w' = w.drewN n := by
  rw [← hf]
  exact Texts.cut1 s 46 hs w
theorem below_back {w w' : World} {n : Nat} (h : Below (w.drewN n).heap.size (w.drewN n) w') : Below w.heap.size w w' :=
  ⟨h.os, h.tape, h.output, h.size, h.block⟩
theorem readNumber (s : ByteArray) (hs : s.size ≤ 9223372036854775807) (w : World) :
    Calls Tryz.prog 161 #[.string s] w fun e w' => ((∃ v, num (B s) = some v ∧ e = .returned (.tuple #[.int .i64 v, .bool true])) ∨ (num (B s) = none ∧ e = .returned (.tuple #[.int .i64 0, .bool false]))) ∧ Below w.heap.size w w' := by
  cases hh : has 46 (B s) with
  | true =>
    have HH := hide hh
    clear hh
    go_enter Tryz.func161, Tryz.ntmps161
    go_wp2_with (first
      | (go_at_call 114; refine (cutPoint s hs true HH.out _).mono ?_; rintro e w' ⟨⟨a, b, rfl, ha, hb, hsa, hsb⟩, n, rfl⟩)
      | (go_at_call 201; refine (Leaf.isDigits a 6 (by omega) _).mono ?_; rintro e w' ⟨rfl, rfl⟩)
      | (go_at_call 202; refine (readDecimals b (by omega) _).mono ?_; rintro e w' ⟨⟨v, hv, rfl⟩ | ⟨hv, rfl⟩, hbw⟩))
    · have hm : (!made dig 6 (fore 46 (B s))) = true := by assumption
      go_ret2
      exact ⟨Or.inr ⟨num_not (not_t hm), rfl⟩, below_back (Below.refl _ _)⟩
    · have hm : (!made dig 6 (fore 46 (B s))) = false := by assumption
      obtain ⟨m1, m2, m3⟩ := made_dig (not_f hm)
      have hx := val_six m1 (by omega)
      have hvv := dec_some hv
      have eq : num (B s) = some (val (fore 46 (B s)) * 1000 + v) := by
        rw [num_point (not_f hm) HH.out]
        exact Option.map_eq_some_iff.2 ⟨v, by rw [← hb]; exact hv, rfl⟩
      refine (digitsValue a (by rw [ha]; exact m1) (by rw [size_B, ha]; omega) _).mono ?_
      rintro e w'' ⟨rfl, rfl⟩
      rw [ha]
      clear hv m1 m2 m3 ha hb
      have HE := hide eq
      clear eq
      generalize val (fore 46 (B s)) = x at hx HE
      go_wp2_with fail
      go_ret2
      exact ⟨Or.inl ⟨_, HE.out, rfl⟩, below_back hbw⟩
    · have hm : (!made dig 6 (fore 46 (B s))) = false := by assumption
      go_ret2
      refine ⟨Or.inr ⟨?_, rfl⟩, below_back hbw⟩
      rw [num_point (not_f hm) HH.out]
      exact Option.map_eq_none_iff.2 (by rw [← hb]; exact hv)
  | false =>
    have HH := hide hh
    clear hh
    go_enter Tryz.func161, Tryz.ntmps161
    go_wp2_with (first
      | (go_at_call 114; refine (cutPoint s hs false HH.out _).mono ?_; rintro e w' ⟨⟨a, b, rfl, ha, hb, hsa, hsb⟩, n, rfl⟩)
      | (go_at_call 201; refine (Leaf.isDigits a 6 (by omega) _).mono ?_; rintro e w' ⟨rfl, rfl⟩)
      | (go_at_call 202; refine (readDecimals ⟨#[48]⟩ (by decide) _).mono ?_; rintro e w' ⟨⟨v, hv, rfl⟩ | ⟨hv, rfl⟩, hbw⟩))
    · have hm : (!made dig 6 (fore 46 (B s))) = true := by assumption
      go_ret2
      exact ⟨Or.inr ⟨num_not (not_t hm), rfl⟩, below_back (Below.refl _ _)⟩
    · have hm : (!made dig 6 (fore 46 (B s))) = false := by assumption
      obtain ⟨m1, m2, m3⟩ := made_dig (not_f hm)
      have hx := val_six m1 (by omega)
      have hvv := dec_some hv
      have eq : num (B s) = some (val (fore 46 (B s)) * 1000 + v) := by
        rw [num_plain (not_f hm) HH.out]
        exact Option.map_eq_some_iff.2 ⟨v, hv, rfl⟩
      refine (digitsValue a (by rw [ha]; exact m1) (by rw [size_B, ha]; omega) _).mono ?_
      rintro e w'' ⟨rfl, rfl⟩
      rw [ha]
      clear hv m1 m2 m3 ha hb
      have HE := hide eq
      clear eq
      generalize val (fore 46 (B s)) = x at hx HE
      go_wp2_with fail
      go_ret2
      exact ⟨Or.inl ⟨_, HE.out, rfl⟩, below_back hbw⟩
    · have hm : (!made dig 6 (fore 46 (B s))) = false := by assumption
      go_ret2
      refine ⟨Or.inr ⟨?_, rfl⟩, below_back hbw⟩
      rw [num_plain (not_f hm) HH.out]
      exact Option.map_eq_none_iff.2 (hv)
/-- CutPrefix where the prefix stands ahead, and where not. -/
theorem cutPreT (s p : ByteArray) (n : Nat) (hn : p.size = n) (hf : Lib.hasPrefix s.data.toList p.data.toList = true) (w : World) :
    Calls Tryz.prog 162 #[.string s, .string p] w fun e w' => (∃ a, e = .returned (.tuple #[.string a, .bool true]) ∧ B a = (B s).drop n ∧ a.size ≤ s.size) ∧ w = w' := by
  refine (Tryz.strings_CutPrefix s p w).mono fun e w' h => ?_
  obtain ⟨rfl, rfl⟩ := h
  have e1 : B ⟨(Lib.trimPrefix s.data.toList p.data.toList).toArray⟩ = (B s).drop n := by
    simp only [Lib.trimPrefix, hf, if_true, ← hn, size_B]
    rfl
  refine ⟨⟨_, by rw [hf], e1, ?_⟩, rfl⟩
  rw [size_B, e1, size_B, List.length_drop]
  omega
theorem cutPreF (s p : ByteArray) (hf : Lib.hasPrefix s.data.toList p.data.toList = false) (w : World) :
    Calls Tryz.prog 162 #[.string s, .string p] w fun e w' => (∃ a, e = .returned (.tuple #[.string a, .bool false]) ∧ a.size ≤ s.size) ∧ w = w' := by
  refine (Tryz.strings_CutPrefix s p w).mono fun e w' h => ?_
  obtain ⟨rfl, rfl⟩ := h
  have e1 : B ⟨(Lib.trimPrefix s.data.toList p.data.toList).toArray⟩ = B s := by
    simp only [Lib.trimPrefix, hf]
    rfl
  refine ⟨⟨_, by rw [hf], ?_⟩, rfl⟩
  rw [size_B, e1, size_B]
  omega
theorem readRate (s : ByteArray) (hs : s.size ≤ 9223372036854775807) (w : World) :
    Calls Tryz.prog 164 #[.string s] w fun e w' => ((∃ v, rate (B s) = some v ∧ e = .returned (.tuple #[.int .i64 v, .bool true])) ∨ (rate (B s) = none ∧ e = .returned (.tuple #[.int .i64 0, .bool false]))) ∧ Below w.heap.size w w' := by
  cases h1 : s.toList == [49] with
  | true =>
    go_enter Tryz.func164, Tryz.ntmps164
    go_wp2_with fail
    go_ret2
    exact ⟨Or.inl ⟨_, rate_one h1, rfl⟩, Below.refl _ _⟩
  | false =>
    cases hp : Lib.hasPrefix s.data.toList [48, 46] with
    | false =>
      have HP := hide hp
      clear hp
      go_enter Tryz.func164, Tryz.ntmps164
      go_wp2_with (go_at_call 162; refine (cutPreF s ⟨#[48, 46]⟩ HP.out _).mono ?_; rintro e w' ⟨⟨a, rfl, hsa⟩, rfl⟩)
      go_ret2
      exact ⟨Or.inr ⟨rate_not h1 HP.out, rfl⟩, Below.refl _ _⟩
    | true =>
      have HP := hide hp
      clear hp
      go_enter Tryz.func164, Tryz.ntmps164
      go_wp2_with (first
        | (go_at_call 162; refine (cutPreT s ⟨#[48, 46]⟩ 2 rfl HP.out _).mono ?_; rintro e w' ⟨⟨a, rfl, ha, hsa⟩, rfl⟩)
        | (go_at_call 202; refine (readDecimals a (by omega) _).mono ?_; rintro e w' ⟨⟨v, hv, rfl⟩ | ⟨hv, rfl⟩, hbw⟩))
      · have hd := dec_some hv
        rw [ha] at hv
        have hr := rate_pre h1 HP.out
        rw [hv] at hr
        by_cases hv0 : 0 < v
        · go_ret2
          refine ⟨Or.inl ⟨v, ?_, ?_⟩, hbw⟩
          · rw [hr]
            simp [Option.filter, hv0]
          · simp [hv0]
        · have hvz : v = 0 := by omega
          go_ret2
          refine ⟨Or.inr ⟨?_, ?_⟩, hbw⟩
          · rw [hr]
            simp [Option.filter, hv0]
          · simp [hvz]
      · rw [ha] at hv
        have hr := rate_pre h1 HP.out
        rw [hv] at hr
        go_ret2
        exact ⟨Or.inr ⟨hr, rfl⟩, hbw⟩
theorem byte_back (b : UInt8) : ((b.toNat : Nat) : Int).toNat.toUInt8 = b := by
  simp
theorem cutSign (s t : ByteArray) (hs : s.size ≤ 9223372036854775807) (w : World) :
    Calls Tryz.prog 160 #[.string s, .string t] w fun e w' => (∃ a b, e = .returned (.tuple #[.string a, .string b]) ∧ B a = sg (B t) (B s) ∧ B b = (B s).drop (sg (B t) (B s)).length ∧ b.size ≤ s.size) ∧ ∃ n, w' = w.drewN n := by
  cases h0 : s.toList.isEmpty with
  | true =>
    go_enter Tryz.func160, Tryz.ntmps160
    go_wp2_with fail
    go_ret2
    refine ⟨⟨_, _, rfl, ?_, ?_, Nat.le_refl _⟩, 0, rfl⟩
    · rw [sg_nil h0]
      rfl
    · rw [sg_nil h0]
      rfl
  | false =>
    have hz : 0 < s.size := by
      rw [size_B]
      rw [Lib.toList_data] at h0
      unfold B
      cases hb : s.data.toList with
      | nil => simp [hb] at h0
      | cons x l => simp
    rcases idx_cases (B t) s[0] with ⟨k1, k2, -, -⟩ | ⟨o, k1, -, k2, -, -⟩
    · have hc : ∀ w, Calls Tryz.prog 200 #[.string t, .int .u8 (s[0].toNat : Int)] w fun e w' => e = .returned (.int .i64 (-1)) ∧ w = w' := fun w => (Tryz.strings_IndexByte t _ w).mono fun e w' ⟨he, hw⟩ => ⟨by rw [he, byte_back, ← k1]; rfl, hw.symm⟩
      have HC := hide hc
      have K2 := hide k2
      clear hc k1 k2
      go_enter Tryz.func160, Tryz.ntmps160
      go_wp2_with (go_at_call 200; refine (HC.out _).mono ?_; rintro e w' ⟨rfl, rfl⟩)
      go_ret2
      refine ⟨⟨_, _, rfl, ?_, ?_, Nat.le_refl _⟩, 0, rfl⟩
      · rw [sg_no hz K2.out]
        rfl
      · rw [sg_no hz K2.out]
        rfl
    · have hc : ∀ w, Calls Tryz.prog 200 #[.string t, .int .u8 (s[0].toNat : Int)] w fun e w' => e = .returned (.int .i64 (o : Int)) ∧ w = w' := fun w => (Tryz.strings_IndexByte t _ w).mono fun e w' ⟨he, hw⟩ => ⟨by rw [he, byte_back, ← k1]; rfl, hw.symm⟩
      have HC := hide hc
      have K2 := hide k2
      clear hc k1 k2
      go_enter Tryz.func160, Tryz.ntmps160
      go_wp2_with (go_at_call 200; refine (HC.out _).mono ?_; rintro e w' ⟨rfl, rfl⟩)
      go_quiet (fail)
      go_wp2_with fail
      go_ret2
      refine ⟨⟨_, _, rfl, ?_, ?_, ?_⟩, _, rfl⟩
      · rw [sg_yes hz K2.out, B_extract, B_cons hz]
        rfl
      · rw [sg_yes hz K2.out, B_extract, size_B, List.take_of_length_le]
        · rfl
        · rw [List.length_drop]
          exact Nat.le_refl _
      · rw [size_B, B_extract, List.length_take, List.length_drop, size_B]
        omega
end Go.Proofs.YtmkidefdegaamaaGreatDoor.Numw
namespace Go.Proofs.YtmkidefdegaamaaGreatDoor.Valw
open Go.RowKit Bytes Nums Numw Mem Vals
theorem cutSignAt (s t x : ByteArray) (hs : s.size ≤ 9223372036854775807) (hx : sg (B t) (B s) = B x) (w : World) :
    Calls Tryz.prog 160 #[.string s, .string t] w fun e w' => (∃ r, e = .returned (.tuple #[.string x, .string r]) ∧ B r = (B s).drop (B x).length ∧ r.size ≤ s.size) ∧ ∃ n, w' = w.drewN n := by
  refine (cutSign s t hs w).mono fun e w' h => ?_
  obtain ⟨⟨a, r, he, ha, hr, hz⟩, n, hw⟩ := h
  rw [hx] at ha hr
  have e1 := B_inj ha
  subst e1
  exact ⟨⟨r, he, hr, hz⟩, n, hw⟩
theorem value_c_plain (b : Nat) (vl : ByteArray) (hs : vl.size ≤ 9223372036854775807) (nm r0 t0 : Value) (w : World) (hx : sg (B ⟨#[45]⟩) (B vl) = B ⟨#[]⟩)
    (hS : Sits w b 172 #[nm, .string ⟨#[]⟩, .bool false, .int .i64 0, .string ⟨#[]⟩, r0, t0]) :
    Calls Tryz.prog 116 #[.pointer (some ⟨b, 0, none⟩), .string ⟨#[99]⟩, .string vl] w fun e w' => But b w w' ∧
      ((num ((B vl).drop 0) = none ∧ e = .returned (.bool false)) ∨ (∃ v, num ((B vl).drop 0) = some v ∧ e = .returned (.bool true) ∧ Sits w' b 172 #[nm, .string ⟨#[99]⟩, .bool false, .int .i64 (v), .string ⟨#[]⟩, r0, t0])) := by
  have HS := hide hS
  have HX := hide hx
  clear hS hx
  go_enter Tryz.func116, Tryz.ntmps116
  go_wp2_with (go_at_call 160; refine (cutSignAt vl ⟨#[45]⟩ ⟨#[]⟩ hs HX.out _).mono ?_; rintro e w' ⟨⟨r, rfl, hr, hsr⟩, n, rfl⟩)
  go_at_call 161
  refine (readNumber r (by omega) _).mono ?_
  have hr2 : B r = (B vl).drop 0 := hr
  rintro e w' ⟨⟨v, hv, rfl⟩ | ⟨hv, rfl⟩, hbw⟩
  · rw [hr2] at hv
    have hbw' : Below w.heap.size w w' := below_back hbw
    have hS' := HS.out.below hbw' HS.out.lt
    have HS' := hide hS'
    have f1 := hS'.frozen 1
    have f2 := hS'.frozen 2
    have f3 := hS'.frozen 3
    have c1 := hS'.cell 1 _ rfl
    have c2 := hS'.cell 2 _ rfl
    have c3 := hS'.cell 3 _ rfl
    have hnv := num_some hv
    have HV := hide hv
    have HW := hide hbw'
    clear hv hS' hbw hbw'
    go_wp2_with fail
    go_ret
    refine ⟨(((But.of_below HW.out).set 1 _).set 3 _).set 2 _, Or.inr ⟨v, HV.out, rfl, ((HS'.out.set 1 _).set 3 _).set 2 _⟩⟩
  · rw [hr2] at hv
    have hbw' : Below w.heap.size w w' := below_back hbw
    have hS' := HS.out.below hbw' HS.out.lt
    have HS' := hide hS'
    have f1 := hS'.frozen 1
    have f2 := hS'.frozen 2
    have f3 := hS'.frozen 3
    have c1 := hS'.cell 1 _ rfl
    have c2 := hS'.cell 2 _ rfl
    have c3 := hS'.cell 3 _ rfl
    have HV := hide hv
    have HW := hide hbw'
    clear hv hS' hbw hbw'
    go_wp2_with fail
    go_ret
    refine ⟨(((But.of_below HW.out).set 1 _).set 3 _).set 2 _, Or.inl ⟨HV.out, rfl⟩⟩
theorem value_c_minus (b : Nat) (vl : ByteArray) (hs : vl.size ≤ 9223372036854775807) (nm r0 t0 : Value) (w : World) (hx : sg (B ⟨#[45]⟩) (B vl) = B ⟨#[45]⟩)
    (hS : Sits w b 172 #[nm, .string ⟨#[]⟩, .bool false, .int .i64 0, .string ⟨#[]⟩, r0, t0]) :
    Calls Tryz.prog 116 #[.pointer (some ⟨b, 0, none⟩), .string ⟨#[99]⟩, .string vl] w fun e w' => But b w w' ∧
      ((num ((B vl).drop 1) = none ∧ e = .returned (.bool false)) ∨ (∃ v, num ((B vl).drop 1) = some v ∧ e = .returned (.bool true) ∧ Sits w' b 172 #[nm, .string ⟨#[99]⟩, .bool false, .int .i64 (-v), .string ⟨#[]⟩, r0, t0])) := by
  have HS := hide hS
  have HX := hide hx
  clear hS hx
  go_enter Tryz.func116, Tryz.ntmps116
  go_wp2_with (go_at_call 160; refine (cutSignAt vl ⟨#[45]⟩ ⟨#[45]⟩ hs HX.out _).mono ?_; rintro e w' ⟨⟨r, rfl, hr, hsr⟩, n, rfl⟩)
  go_at_call 161
  refine (readNumber r (by omega) _).mono ?_
  have hr2 : B r = (B vl).drop 1 := hr
  rintro e w' ⟨⟨v, hv, rfl⟩ | ⟨hv, rfl⟩, hbw⟩
  · rw [hr2] at hv
    have hbw' : Below w.heap.size w w' := below_back hbw
    have hS' := HS.out.below hbw' HS.out.lt
    have HS' := hide hS'
    have f1 := hS'.frozen 1
    have f2 := hS'.frozen 2
    have f3 := hS'.frozen 3
    have c1 := hS'.cell 1 _ rfl
    have c2 := hS'.cell 2 _ rfl
    have c3 := hS'.cell 3 _ rfl
    have hnv := num_some hv
    have HV := hide hv
    have HW := hide hbw'
    clear hv hS' hbw hbw'
    go_wp2_with fail
    go_ret
    refine ⟨(((But.of_below HW.out).set 1 _).set 3 _).set 2 _, Or.inr ⟨v, HV.out, rfl, ((HS'.out.set 1 _).set 3 _).set 2 _⟩⟩
  · rw [hr2] at hv
    have hbw' : Below w.heap.size w w' := below_back hbw
    have hS' := HS.out.below hbw' HS.out.lt
    have HS' := hide hS'
    have f1 := hS'.frozen 1
    have f2 := hS'.frozen 2
    have f3 := hS'.frozen 3
    have c1 := hS'.cell 1 _ rfl
    have c2 := hS'.cell 2 _ rfl
    have c3 := hS'.cell 3 _ rfl
    have HV := hide hv
    have HW := hide hbw'
    clear hv hS' hbw hbw'
    go_wp2_with fail
    go_ret
    refine ⟨(((But.of_below HW.out).set 1 _).set 3 _).set 2 _, Or.inl ⟨HV.out, rfl⟩⟩
theorem value_g_plain (b : Nat) (vl : ByteArray) (hs : vl.size ≤ 9223372036854775807) (nm r0 t0 : Value) (w : World) (hx : sg (B ⟨#[43, 45]⟩) (B vl) = B ⟨#[]⟩)
    (hS : Sits w b 172 #[nm, .string ⟨#[]⟩, .bool false, .int .i64 0, .string ⟨#[]⟩, r0, t0]) :
    Calls Tryz.prog 116 #[.pointer (some ⟨b, 0, none⟩), .string ⟨#[103]⟩, .string vl] w fun e w' => But b w w' ∧
      ((num ((B vl).drop 0) = none ∧ e = .returned (.bool false)) ∨ (∃ v, num ((B vl).drop 0) = some v ∧ e = .returned (.bool true) ∧ Sits w' b 172 #[nm, .string ⟨#[103]⟩, .bool false, .int .i64 (v), .string ⟨#[]⟩, r0, t0])) := by
  have HS := hide hS
  have HX := hide hx
  clear hS hx
  go_enter Tryz.func116, Tryz.ntmps116
  go_wp2_with (go_at_call 160; refine (cutSignAt vl ⟨#[43, 45]⟩ ⟨#[]⟩ hs HX.out _).mono ?_; rintro e w' ⟨⟨r, rfl, hr, hsr⟩, n, rfl⟩)
  go_at_call 161
  refine (readNumber r (by omega) _).mono ?_
  have hr2 : B r = (B vl).drop 0 := hr
  rintro e w' ⟨⟨v, hv, rfl⟩ | ⟨hv, rfl⟩, hbw⟩
  · rw [hr2] at hv
    have hbw' : Below w.heap.size w w' := below_back hbw
    have hS' := HS.out.below hbw' HS.out.lt
    have HS' := hide hS'
    have f1 := hS'.frozen 1
    have f2 := hS'.frozen 2
    have f3 := hS'.frozen 3
    have c1 := hS'.cell 1 _ rfl
    have c2 := hS'.cell 2 _ rfl
    have c3 := hS'.cell 3 _ rfl
    have hnv := num_some hv
    have HV := hide hv
    have HW := hide hbw'
    clear hv hS' hbw hbw'
    go_wp2_with fail
    go_ret
    refine ⟨(((But.of_below HW.out).set 1 _).set 3 _).set 2 _, Or.inr ⟨v, HV.out, rfl, ((HS'.out.set 1 _).set 3 _).set 2 _⟩⟩
  · rw [hr2] at hv
    have hbw' : Below w.heap.size w w' := below_back hbw
    have hS' := HS.out.below hbw' HS.out.lt
    have HS' := hide hS'
    have f1 := hS'.frozen 1
    have f2 := hS'.frozen 2
    have f3 := hS'.frozen 3
    have c1 := hS'.cell 1 _ rfl
    have c2 := hS'.cell 2 _ rfl
    have c3 := hS'.cell 3 _ rfl
    have HV := hide hv
    have HW := hide hbw'
    clear hv hS' hbw hbw'
    go_wp2_with fail
    go_ret
    refine ⟨(((But.of_below HW.out).set 1 _).set 3 _).set 2 _, Or.inl ⟨HV.out, rfl⟩⟩
theorem value_g_plus (b : Nat) (vl : ByteArray) (hs : vl.size ≤ 9223372036854775807) (nm r0 t0 : Value) (w : World) (hx : sg (B ⟨#[43, 45]⟩) (B vl) = B ⟨#[43]⟩)
    (hS : Sits w b 172 #[nm, .string ⟨#[]⟩, .bool false, .int .i64 0, .string ⟨#[]⟩, r0, t0]) :
    Calls Tryz.prog 116 #[.pointer (some ⟨b, 0, none⟩), .string ⟨#[103]⟩, .string vl] w fun e w' => But b w w' ∧
      ((num ((B vl).drop 1) = none ∧ e = .returned (.bool false)) ∨ (∃ v, num ((B vl).drop 1) = some v ∧ e = .returned (.bool true) ∧ Sits w' b 172 #[nm, .string ⟨#[103]⟩, .bool true, .int .i64 (v), .string ⟨#[]⟩, r0, t0])) := by
  have HS := hide hS
  have HX := hide hx
  clear hS hx
  go_enter Tryz.func116, Tryz.ntmps116
  go_wp2_with (go_at_call 160; refine (cutSignAt vl ⟨#[43, 45]⟩ ⟨#[43]⟩ hs HX.out _).mono ?_; rintro e w' ⟨⟨r, rfl, hr, hsr⟩, n, rfl⟩)
  go_at_call 161
  refine (readNumber r (by omega) _).mono ?_
  have hr2 : B r = (B vl).drop 1 := hr
  rintro e w' ⟨⟨v, hv, rfl⟩ | ⟨hv, rfl⟩, hbw⟩
  · rw [hr2] at hv
    have hbw' : Below w.heap.size w w' := below_back hbw
    have hS' := HS.out.below hbw' HS.out.lt
    have HS' := hide hS'
    have f1 := hS'.frozen 1
    have f2 := hS'.frozen 2
    have f3 := hS'.frozen 3
    have c1 := hS'.cell 1 _ rfl
    have c2 := hS'.cell 2 _ rfl
    have c3 := hS'.cell 3 _ rfl
    have hnv := num_some hv
    have HV := hide hv
    have HW := hide hbw'
    clear hv hS' hbw hbw'
    go_wp2_with fail
    go_ret
    refine ⟨(((But.of_below HW.out).set 1 _).set 3 _).set 2 _, Or.inr ⟨v, HV.out, rfl, ((HS'.out.set 1 _).set 3 _).set 2 _⟩⟩
  · rw [hr2] at hv
    have hbw' : Below w.heap.size w w' := below_back hbw
    have hS' := HS.out.below hbw' HS.out.lt
    have HS' := hide hS'
    have f1 := hS'.frozen 1
    have f2 := hS'.frozen 2
    have f3 := hS'.frozen 3
    have c1 := hS'.cell 1 _ rfl
    have c2 := hS'.cell 2 _ rfl
    have c3 := hS'.cell 3 _ rfl
    have HV := hide hv
    have HW := hide hbw'
    clear hv hS' hbw hbw'
    go_wp2_with fail
    go_ret
    refine ⟨(((But.of_below HW.out).set 1 _).set 3 _).set 2 _, Or.inl ⟨HV.out, rfl⟩⟩
theorem value_g_minus (b : Nat) (vl : ByteArray) (hs : vl.size ≤ 9223372036854775807) (nm r0 t0 : Value) (w : World) (hx : sg (B ⟨#[43, 45]⟩) (B vl) = B ⟨#[45]⟩)
    (hS : Sits w b 172 #[nm, .string ⟨#[]⟩, .bool false, .int .i64 0, .string ⟨#[]⟩, r0, t0]) :
    Calls Tryz.prog 116 #[.pointer (some ⟨b, 0, none⟩), .string ⟨#[103]⟩, .string vl] w fun e w' => But b w w' ∧
      ((num ((B vl).drop 1) = none ∧ e = .returned (.bool false)) ∨ (∃ v, num ((B vl).drop 1) = some v ∧ e = .returned (.bool true) ∧ Sits w' b 172 #[nm, .string ⟨#[103]⟩, .bool true, .int .i64 (-v), .string ⟨#[]⟩, r0, t0])) := by
  have HS := hide hS
  have HX := hide hx
  clear hS hx
  go_enter Tryz.func116, Tryz.ntmps116
  go_wp2_with (go_at_call 160; refine (cutSignAt vl ⟨#[43, 45]⟩ ⟨#[45]⟩ hs HX.out _).mono ?_; rintro e w' ⟨⟨r, rfl, hr, hsr⟩, n, rfl⟩)
  go_at_call 161
  refine (readNumber r (by omega) _).mono ?_
  have hr2 : B r = (B vl).drop 1 := hr
  rintro e w' ⟨⟨v, hv, rfl⟩ | ⟨hv, rfl⟩, hbw⟩
  · rw [hr2] at hv
    have hbw' : Below w.heap.size w w' := below_back hbw
    have hS' := HS.out.below hbw' HS.out.lt
    have HS' := hide hS'
    have f1 := hS'.frozen 1
    have f2 := hS'.frozen 2
    have f3 := hS'.frozen 3
    have c1 := hS'.cell 1 _ rfl
    have c2 := hS'.cell 2 _ rfl
    have c3 := hS'.cell 3 _ rfl
    have hnv := num_some hv
    have HV := hide hv
    have HW := hide hbw'
    clear hv hS' hbw hbw'
    go_wp2_with fail
    go_ret
    refine ⟨(((But.of_below HW.out).set 1 _).set 3 _).set 2 _, Or.inr ⟨v, HV.out, rfl, ((HS'.out.set 1 _).set 3 _).set 2 _⟩⟩
  · rw [hr2] at hv
    have hbw' : Below w.heap.size w w' := below_back hbw
    have hS' := HS.out.below hbw' HS.out.lt
    have HS' := hide hS'
    have f1 := hS'.frozen 1
    have f2 := hS'.frozen 2
    have f3 := hS'.frozen 3
    have c1 := hS'.cell 1 _ rfl
    have c2 := hS'.cell 2 _ rfl
    have c3 := hS'.cell 3 _ rfl
    have HV := hide hv
    have HW := hide hbw'
    clear hv hS' hbw hbw'
    go_wp2_with fail
    go_ret
    refine ⟨(((But.of_below HW.out).set 1 _).set 3 _).set 2 _, Or.inl ⟨HV.out, rfl⟩⟩
theorem value_h_plain (b : Nat) (vl : ByteArray) (hs : vl.size ≤ 9223372036854775807) (nm r0 t0 : Value) (w : World) (hx : sg (B ⟨#[]⟩) (B vl) = B ⟨#[]⟩)
    (hS : Sits w b 172 #[nm, .string ⟨#[]⟩, .bool false, .int .i64 0, .string ⟨#[]⟩, r0, t0]) :
    Calls Tryz.prog 116 #[.pointer (some ⟨b, 0, none⟩), .string ⟨#[104]⟩, .string vl] w fun e w' => But b w w' ∧
      ((num ((B vl).drop 0) = none ∧ e = .returned (.bool false)) ∨ (∃ v, num ((B vl).drop 0) = some v ∧ e = .returned (.bool true) ∧ Sits w' b 172 #[nm, .string ⟨#[109, 115]⟩, .bool false, .int .i64 (v), .string ⟨#[]⟩, r0, t0])) := by
  have HS := hide hS
  have HX := hide hx
  clear hS hx
  go_enter Tryz.func116, Tryz.ntmps116
  go_wp2_with (go_at_call 160; refine (cutSignAt vl ⟨#[]⟩ ⟨#[]⟩ hs HX.out _).mono ?_; rintro e w' ⟨⟨r, rfl, hr, hsr⟩, n, rfl⟩)
  go_at_call 161
  refine (readNumber r (by omega) _).mono ?_
  have hr2 : B r = (B vl).drop 0 := hr
  rintro e w' ⟨⟨v, hv, rfl⟩ | ⟨hv, rfl⟩, hbw⟩
  · rw [hr2] at hv
    have hbw' : Below w.heap.size w w' := below_back hbw
    have hS' := HS.out.below hbw' HS.out.lt
    have HS' := hide hS'
    have f1 := hS'.frozen 1
    have f2 := hS'.frozen 2
    have f3 := hS'.frozen 3
    have c1 := hS'.cell 1 _ rfl
    have c2 := hS'.cell 2 _ rfl
    have c3 := hS'.cell 3 _ rfl
    have hnv := num_some hv
    have HV := hide hv
    have HW := hide hbw'
    clear hv hS' hbw hbw'
    go_wp2_with fail
    go_ret
    refine ⟨(((But.of_below HW.out).set 1 _).set 3 _).set 2 _, Or.inr ⟨v, HV.out, rfl, ((HS'.out.set 1 _).set 3 _).set 2 _⟩⟩
  · rw [hr2] at hv
    have hbw' : Below w.heap.size w w' := below_back hbw
    have hS' := HS.out.below hbw' HS.out.lt
    have HS' := hide hS'
    have f1 := hS'.frozen 1
    have f2 := hS'.frozen 2
    have f3 := hS'.frozen 3
    have c1 := hS'.cell 1 _ rfl
    have c2 := hS'.cell 2 _ rfl
    have c3 := hS'.cell 3 _ rfl
    have HV := hide hv
    have HW := hide hbw'
    clear hv hS' hbw hbw'
    go_wp2_with fail
    go_ret
    refine ⟨(((But.of_below HW.out).set 1 _).set 3 _).set 2 _, Or.inl ⟨HV.out, rfl⟩⟩
theorem value_ms_plain (b : Nat) (vl : ByteArray) (hs : vl.size ≤ 9223372036854775807) (nm r0 t0 : Value) (w : World) (hx : sg (B ⟨#[]⟩) (B vl) = B ⟨#[]⟩)
    (hS : Sits w b 172 #[nm, .string ⟨#[]⟩, .bool false, .int .i64 0, .string ⟨#[]⟩, r0, t0]) :
    Calls Tryz.prog 116 #[.pointer (some ⟨b, 0, none⟩), .string ⟨#[109, 115]⟩, .string vl] w fun e w' => But b w w' ∧
      ((num ((B vl).drop 0) = none ∧ e = .returned (.bool false)) ∨ (∃ v, num ((B vl).drop 0) = some v ∧ e = .returned (.bool true) ∧ Sits w' b 172 #[nm, .string ⟨#[109, 115]⟩, .bool false, .int .i64 (v), .string ⟨#[]⟩, r0, t0])) := by
  have HS := hide hS
  have HX := hide hx
  clear hS hx
  go_enter Tryz.func116, Tryz.ntmps116
  go_wp2_with (go_at_call 160; refine (cutSignAt vl ⟨#[]⟩ ⟨#[]⟩ hs HX.out _).mono ?_; rintro e w' ⟨⟨r, rfl, hr, hsr⟩, n, rfl⟩)
  go_at_call 161
  refine (readNumber r (by omega) _).mono ?_
  have hr2 : B r = (B vl).drop 0 := hr
  rintro e w' ⟨⟨v, hv, rfl⟩ | ⟨hv, rfl⟩, hbw⟩
  · rw [hr2] at hv
    have hbw' : Below w.heap.size w w' := below_back hbw
    have hS' := HS.out.below hbw' HS.out.lt
    have HS' := hide hS'
    have f1 := hS'.frozen 1
    have f2 := hS'.frozen 2
    have f3 := hS'.frozen 3
    have c1 := hS'.cell 1 _ rfl
    have c2 := hS'.cell 2 _ rfl
    have c3 := hS'.cell 3 _ rfl
    have hnv := num_some hv
    have HV := hide hv
    have HW := hide hbw'
    clear hv hS' hbw hbw'
    go_wp2_with fail
    go_ret
    refine ⟨(((But.of_below HW.out).set 1 _).set 3 _).set 2 _, Or.inr ⟨v, HV.out, rfl, ((HS'.out.set 1 _).set 3 _).set 2 _⟩⟩
  · rw [hr2] at hv
    have hbw' : Below w.heap.size w w' := below_back hbw
    have hS' := HS.out.below hbw' HS.out.lt
    have HS' := hide hS'
    have f1 := hS'.frozen 1
    have f2 := hS'.frozen 2
    have f3 := hS'.frozen 3
    have c1 := hS'.cell 1 _ rfl
    have c2 := hS'.cell 2 _ rfl
    have c3 := hS'.cell 3 _ rfl
    have HV := hide hv
    have HW := hide hbw'
    clear hv hS' hbw hbw'
    go_wp2_with fail
    go_ret
    refine ⟨(((But.of_below HW.out).set 1 _).set 3 _).set 2 _, Or.inl ⟨HV.out, rfl⟩⟩
theorem value_set (b : Nat) (vl : ByteArray) (hs : vl.size ≤ 9223372036854775807) (nm r0 t0 : Value) (w : World)
    (hS : Sits w b 172 #[nm, .string ⟨#[]⟩, .bool false, .int .i64 0, .string ⟨#[]⟩, r0, t0]) :
    Calls Tryz.prog 116 #[.pointer (some ⟨b, 0, none⟩), .string ⟨#[115]⟩, .string vl] w fun e w' => But b w w' ∧
      e = .returned (.bool (made let_ 16 (B vl))) ∧ Sits w' b 172 #[nm, .string ⟨#[115]⟩, .bool false, .int .i64 0, .string vl, r0, t0] := by
  have HS := hide hS
  have f1 := hS.frozen 1
  have f4 := hS.frozen 4
  have c1 := hS.cell 1 _ rfl
  have c4 := hS.cell 4 _ rfl
  clear hS
  go_enter Tryz.func116, Tryz.ntmps116
  go_wp2_with (go_at_call 159; refine (Leaf.isWord vl 16 hs _).mono ?_; rintro e w' ⟨rfl, rfl⟩)
  go_ret
  exact ⟨((But.refl _ _).set 1 _).set 4 _, rfl, (HS.out.set 1 _).set 4 _⟩
theorem value_none (b : Nat) (kd vl : ByteArray) (w : World) (h1 : (kd.toList == [115]) = false) (h2 : (kd.toList == [99]) = false) (h3 : (kd.toList == [103]) = false) (h4 : (kd.toList == [104]) = false) (h5 : (kd.toList == [109, 115]) = false) :
    Calls Tryz.prog 116 #[.pointer (some ⟨b, 0, none⟩), .string kd, .string vl] w fun e w' => e = .returned (.bool false) ∧ w = w' := by
  go_enter Tryz.func116, Tryz.ntmps116
  go_wp2_with fail
  go_ret
  exact ⟨rfl, rfl⟩
end Go.Proofs.YtmkidefdegaamaaGreatDoor.Valw
