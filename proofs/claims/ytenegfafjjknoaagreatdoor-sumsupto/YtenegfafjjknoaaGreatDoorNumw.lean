/- The walks of the program's numbers and rates. -/
import Derived.Test.YtenegfafjjknoaaGreatDoorTexts
import Derived.Test.YtenegfafjjknoaaGreatDoorNums
namespace Go.Proofs.YtenegfafjjknoaaGreatDoor.Numw
open Go.RowKit Bytes Nums

theorem hide {p : Prop} (h : p) : Hid p := h

theorem rep_one (n : Nat) : B ⟨(Lib.repeatL (⟨#[48]⟩ : ByteArray).data.toList n).toArray⟩ = List.replicate n 48 := by
  simp only [B]
  induction n with
  | zero => rfl
  | succ n ih =>
    rw [List.replicate_succ, ← ih]
    rfl

theorem digitsValue (s : ByteArray) (hd : digs (B s) = true) (hl : s.size ≤ 6) (w : World) :
    Calls Tryz.prog 176 #[.string s] w fun e w' => e = .returned (.int .i64 (val (B s))) ∧ w = w' := by
  have HD : Hid (digs (B s) = true) := hd
  clear hd
  go_enter Tryz.func176, Tryz.ntmps176
  go_wp2
  go_loop [3, 7] (fun n i => ∃ (k : Nat) (v : Int), i = .int .i64 k ∧ n = .int .i64 v ∧ k ≤ s.size ∧ 0 ≤ v ∧ v ≤ 999999 ∧ Hid (v = val ((B s).take k)))
    (fun _ i => s.size - (intOf i).toNat)
  case atStart => exact ⟨0, 0, rfl, rfl, Nat.zero_le _, by omega, by omega, rfl⟩
  case round =>
    obtain ⟨k, v, rfl, rfl, hk, h0, h1, HV⟩ := hrel
    have hb : ∀ h : k < s.size, 48 ≤ (s[k].toNat : Int) ∧ (s[k].toNat : Int) ≤ 57 := fun h => dig_at HD.out h
    have HB : Hid (∀ h : k < s.size, 48 ≤ (s[k].toNat : Int) ∧ (s[k].toNat : Int) ≤ 57) := hb
    clear hb
    go_wp2
    · have hlt : k < s.size := by assumption
      have hb := HB.out hlt
      have ev : v * 10 + ((s[k].toNat : Int) - 48) % 256 = val ((B s).take (k + 1)) := by
        rw [val_step hlt, ← HV.out]
        omega
      have hr := val_take (k := k + 1) HD.out hl
      go_round
      case rel => exact ⟨k + 1, val ((B s).take (k + 1)), by go_num, congrArg (Value.int IntKind.i64) ev, by omega, hr.1, hr.2, rfl⟩
      case measure => simp [intOf]; omega
    · have hge : ¬ k < s.size := by assumption
      have ev : v = val (B s) := by
        rw [HV.out, List.take_of_length_le]
        rw [← size_B]
        omega
      go_ret
      exact ⟨congrArg (fun z => Ending.returned (.int .i64 z)) ev, rfl⟩

theorem readDecimals (s : ByteArray) (hs : s.size ≤ 9223372036854775807) (w : World) :
    Calls Tryz.prog 175 #[.string s] w fun e w' => ((∃ v, dec (B s) = some v ∧ e = .returned (.tuple #[.int .i64 v, .bool true])) ∨ (dec (B s) = none ∧ e = .returned (.tuple #[.int .i64 0, .bool false]))) ∧ Below w.heap.size w w' := by
  cases hm : made dig 3 (B s) with
  | false =>
    have hN : dec (B s) = none := by simp [dec, hm]
    have hc : ∀ w, Calls Tryz.prog 174 #[.string s, .int .i64 3] w fun e w' => e = .returned (.bool false) ∧ w = w' := fun w => by rw [← hm]; exact Leaf.isDigits s 3 hs w
    have HC := hide hc
    clear hc hm
    go_enter Tryz.func175, Tryz.ntmps175
    go_wp2_with (go_at_call 174; refine (HC.out _).mono ?_; rintro e w' ⟨rfl, rfl⟩)
    go_ret2
    exact ⟨Or.inr ⟨hN, rfl⟩, Below.refl _ _⟩
  | true =>
    obtain ⟨h1, h2, h3⟩ := made_dig hm
    have hS : dec (B s) = some (val (B s ++ List.replicate (3 - (B s).length) 48)) := by simp [dec, hm]
    have hc : ∀ w, Calls Tryz.prog 174 #[.string s, .int .i64 3] w fun e w' => e = .returned (.bool true) ∧ w = w' := fun w => by rw [← hm]; exact Leaf.isDigits s 3 hs w
    have HC := hide hc
    rw [← size_B] at h2
    have hz : s.size ≤ 3 := by omega
    have hr : ∀ w, Calls Tryz.prog 232 #[.string ⟨#[48]⟩, .int .i64 (3 - (s.size : Int))] w fun e w' => (∃ z, e = .returned (.string z) ∧ B z = List.replicate (3 - s.size) 48 ∧ z.size ≤ 3) ∧ Below w.heap.size w w' := fun w => by
      have e : (3 - (s.size : Int)) = ((3 - s.size : Nat) : Int) := by omega
      rw [e]
      refine (Tryz.strings_Repeat ⟨#[48]⟩ (3 - s.size) w (by omega) ?_).mono fun e w' ⟨he, hw⟩ => ⟨⟨_, he, ?_, ?_⟩, hw⟩
      · show 1 * (3 - s.size) ≤ _
        omega
      · exact rep_one _
      · rw [size_B, rep_one, List.length_replicate]
        omega
    have HR := hide hr
    have hv : ∀ z w, B z = List.replicate (3 - s.size) 48 → Calls Tryz.prog 176 #[.string (s ++ z)] w fun e w' => e = .returned (.int .i64 (val (B s ++ List.replicate (3 - (B s).length) 48))) ∧ w = w' := fun z w hz' => by
      have e : B (s ++ z) = B s ++ List.replicate (3 - (B s).length) 48 := by rw [B_append, hz', size_B]
      rw [← e]
      refine digitsValue (s ++ z) ?_ ?_ w
      · rw [e]
        exact digs_pad _ h1
      · rw [size_B, e, List.length_append, List.length_replicate, ← size_B]
        omega
    have HV := hide hv
    clear hc hr hv hm h1 h3 h2
    go_enter Tryz.func175, Tryz.ntmps175
    go_wp2_with (first
      | (go_at_call 174; refine (HC.out _).mono ?_; rintro e w' ⟨rfl, rfl⟩)
      | (go_at_call 232; refine (HR.out _).mono ?_; rintro e w' ⟨⟨z, rfl, hz1, hz2⟩, hb⟩)
      | (go_at_call 176; refine (HV.out _ _ hz1).mono ?_; rintro e w' ⟨rfl, rfl⟩))
    go_ret2
    exact ⟨Or.inl ⟨_, hS, rfl⟩, hb⟩

theorem not_t {b : Bool} (h : (!b) = true) : b = false := by simpa using h
theorem not_f {b : Bool} (h : (!b) = false) : b = true := by simpa using h

/-- The two ways of a text with or without a point. -/
theorem cutPoint (s : ByteArray) (hs : s.size ≤ 9223372036854775807) (f : Bool) (hf : has 46 (B s) = f) (w : World) :
    Calls Tryz.prog 73 #[.string s, .string ⟨#[46]⟩] w fun e w' => (∃ a b, e = .returned (.tuple #[.string a, .string b, .bool f]) ∧ B a = fore 46 (B s) ∧ B b = aft 46 (B s) ∧ a.size ≤ s.size ∧ b.size ≤ s.size) ∧ ∃ n, w' = w.drewN n := by
  rw [← hf]
  exact Texts.cut1 s 46 hs w

theorem below_back {w w' : World} {n : Nat} (h : Below (w.drewN n).heap.size (w.drewN n) w') : Below w.heap.size w w' :=
  ⟨h.os, h.tape, h.output, h.size, h.block⟩

theorem readNumber (s : ByteArray) (hs : s.size ≤ 9223372036854775807) (w : World) :
    Calls Tryz.prog 132 #[.string s] w fun e w' => ((∃ v, num (B s) = some v ∧ e = .returned (.tuple #[.int .i64 v, .bool true])) ∨ (num (B s) = none ∧ e = .returned (.tuple #[.int .i64 0, .bool false]))) ∧ Below w.heap.size w w' := by
  cases hh : has 46 (B s) with
  | true =>
    have HH := hide hh
    clear hh
    go_enter Tryz.func132, Tryz.ntmps132
    go_wp2_with (first
      | (go_at_call 73; refine (cutPoint s hs true HH.out _).mono ?_; rintro e w' ⟨⟨a, b, rfl, ha, hb, hsa, hsb⟩, n, rfl⟩)
      | (go_at_call 174; refine (Leaf.isDigits a 6 (by omega) _).mono ?_; rintro e w' ⟨rfl, rfl⟩)
      | (go_at_call 175; refine (readDecimals b (by omega) _).mono ?_; rintro e w' ⟨⟨v, hv, rfl⟩ | ⟨hv, rfl⟩, hbw⟩))
    · have hm : (!made dig 6 (fore 46 (B s))) = true := by assumption
      go_ret2
      exact ⟨Or.inr ⟨num_not (not_t hm), rfl⟩, below_back (Below.refl _ _)⟩
    · have hm : (!made dig 6 (fore 46 (B s))) = false := by assumption
      obtain ⟨m1, m2, m3⟩ := made_dig (not_f hm)
      have hx := val_six m1 (by omega)
      have hvv := dec_some hv
      have eq : num (B s) = some (val (fore 46 (B s)) * 1000 + v) := by
        rw [num_point (not_f hm) HH.out]
        exact Option.map_eq_some_iff.2 ⟨v, by rw [← hb]; exact hv, rfl⟩
      refine (digitsValue a (by rw [ha]; exact m1) (by rw [size_B, ha]; omega) _).mono ?_
      rintro e w'' ⟨rfl, rfl⟩
      rw [ha]
      clear hv m1 m2 m3 ha hb
      have HE := hide eq
      clear eq
      generalize val (fore 46 (B s)) = x at hx HE
      go_wp2_with fail
      go_ret2
      exact ⟨Or.inl ⟨_, HE.out, rfl⟩, below_back hbw⟩
    · have hm : (!made dig 6 (fore 46 (B s))) = false := by assumption
      go_ret2
      refine ⟨Or.inr ⟨?_, rfl⟩, below_back hbw⟩
      rw [num_point (not_f hm) HH.out]
      exact Option.map_eq_none_iff.2 (by rw [← hb]; exact hv)
  | false =>
    have HH := hide hh
    clear hh
    go_enter Tryz.func132, Tryz.ntmps132
    go_wp2_with (first
      | (go_at_call 73; refine (cutPoint s hs false HH.out _).mono ?_; rintro e w' ⟨⟨a, b, rfl, ha, hb, hsa, hsb⟩, n, rfl⟩)
      | (go_at_call 174; refine (Leaf.isDigits a 6 (by omega) _).mono ?_; rintro e w' ⟨rfl, rfl⟩)
      | (go_at_call 175; refine (readDecimals ⟨#[48]⟩ (by decide) _).mono ?_; rintro e w' ⟨⟨v, hv, rfl⟩ | ⟨hv, rfl⟩, hbw⟩))
    · have hm : (!made dig 6 (fore 46 (B s))) = true := by assumption
      go_ret2
      exact ⟨Or.inr ⟨num_not (not_t hm), rfl⟩, below_back (Below.refl _ _)⟩
    · have hm : (!made dig 6 (fore 46 (B s))) = false := by assumption
      obtain ⟨m1, m2, m3⟩ := made_dig (not_f hm)
      have hx := val_six m1 (by omega)
      have hvv := dec_some hv
      have eq : num (B s) = some (val (fore 46 (B s)) * 1000 + v) := by
        rw [num_plain (not_f hm) HH.out]
        exact Option.map_eq_some_iff.2 ⟨v, hv, rfl⟩
      refine (digitsValue a (by rw [ha]; exact m1) (by rw [size_B, ha]; omega) _).mono ?_
      rintro e w'' ⟨rfl, rfl⟩
      rw [ha]
      clear hv m1 m2 m3 ha hb
      have HE := hide eq
      clear eq
      generalize val (fore 46 (B s)) = x at hx HE
      go_wp2_with fail
      go_ret2
      exact ⟨Or.inl ⟨_, HE.out, rfl⟩, below_back hbw⟩
    · have hm : (!made dig 6 (fore 46 (B s))) = false := by assumption
      go_ret2
      refine ⟨Or.inr ⟨?_, rfl⟩, below_back hbw⟩
      rw [num_plain (not_f hm) HH.out]
      exact Option.map_eq_none_iff.2 (hv)

/-- CutPrefix where the prefix stands ahead, and where not. -/
theorem cutPreT (s p : ByteArray) (n : Nat) (hn : p.size = n) (hf : Lib.hasPrefix s.data.toList p.data.toList = true) (w : World) :
    Calls Tryz.prog 133 #[.string s, .string p] w fun e w' => (∃ a, e = .returned (.tuple #[.string a, .bool true]) ∧ B a = (B s).drop n ∧ a.size ≤ s.size) ∧ w = w' := by
  refine (Tryz.strings_CutPrefix s p w).mono fun e w' h => ?_
  obtain ⟨rfl, rfl⟩ := h
  have e1 : B ⟨(Lib.trimPrefix s.data.toList p.data.toList).toArray⟩ = (B s).drop n := by
    simp only [Lib.trimPrefix, hf, if_true, ← hn, size_B]
    rfl
  refine ⟨⟨_, by rw [hf], e1, ?_⟩, rfl⟩
  rw [size_B, e1, size_B, List.length_drop]
  omega

theorem cutPreF (s p : ByteArray) (hf : Lib.hasPrefix s.data.toList p.data.toList = false) (w : World) :
    Calls Tryz.prog 133 #[.string s, .string p] w fun e w' => (∃ a, e = .returned (.tuple #[.string a, .bool false]) ∧ a.size ≤ s.size) ∧ w = w' := by
  refine (Tryz.strings_CutPrefix s p w).mono fun e w' h => ?_
  obtain ⟨rfl, rfl⟩ := h
  have e1 : B ⟨(Lib.trimPrefix s.data.toList p.data.toList).toArray⟩ = B s := by
    simp only [Lib.trimPrefix, hf]
    rfl
  refine ⟨⟨_, by rw [hf], ?_⟩, rfl⟩
  rw [size_B, e1, size_B]
  omega

theorem readRate (s : ByteArray) (hs : s.size ≤ 9223372036854775807) (w : World) :
    Calls Tryz.prog 135 #[.string s] w fun e w' => ((∃ v, rate (B s) = some v ∧ e = .returned (.tuple #[.int .i64 v, .bool true])) ∨ (rate (B s) = none ∧ e = .returned (.tuple #[.int .i64 0, .bool false]))) ∧ Below w.heap.size w w' := by
  cases h1 : s.toList == [49] with
  | true =>
    go_enter Tryz.func135, Tryz.ntmps135
    go_wp2_with fail
    go_ret2
    exact ⟨Or.inl ⟨_, rate_one h1, rfl⟩, Below.refl _ _⟩
  | false =>
    cases hp : Lib.hasPrefix s.data.toList [48, 46] with
    | false =>
      have HP := hide hp
      clear hp
      go_enter Tryz.func135, Tryz.ntmps135
      go_wp2_with (go_at_call 133; refine (cutPreF s ⟨#[48, 46]⟩ HP.out _).mono ?_; rintro e w' ⟨⟨a, rfl, hsa⟩, rfl⟩)
      go_ret2
      exact ⟨Or.inr ⟨rate_not h1 HP.out, rfl⟩, Below.refl _ _⟩
    | true =>
      have HP := hide hp
      clear hp
      go_enter Tryz.func135, Tryz.ntmps135
      go_wp2_with (first
        | (go_at_call 133; refine (cutPreT s ⟨#[48, 46]⟩ 2 rfl HP.out _).mono ?_; rintro e w' ⟨⟨a, rfl, ha, hsa⟩, rfl⟩)
        | (go_at_call 175; refine (readDecimals a (by omega) _).mono ?_; rintro e w' ⟨⟨v, hv, rfl⟩ | ⟨hv, rfl⟩, hbw⟩))
      · have hd := dec_some hv
        rw [ha] at hv
        have hr := rate_pre h1 HP.out
        rw [hv] at hr
        by_cases hv0 : 0 < v
        · go_ret2
          refine ⟨Or.inl ⟨v, ?_, ?_⟩, hbw⟩
          · rw [hr]
            simp [Option.filter, hv0]
          · simp [hv0]
        · have hvz : v = 0 := by omega
          go_ret2
          refine ⟨Or.inr ⟨?_, ?_⟩, hbw⟩
          · rw [hr]
            simp [Option.filter, hv0]
          · simp [hvz]
      · rw [ha] at hv
        have hr := rate_pre h1 HP.out
        rw [hv] at hr
        go_ret2
        exact ⟨Or.inr ⟨hr, rfl⟩, hbw⟩

theorem byte_back (b : UInt8) : ((b.toNat : Nat) : Int).toNat.toUInt8 = b := by
  simp

theorem cutSign (s t : ByteArray) (hs : s.size ≤ 9223372036854775807) (w : World) :
    Calls Tryz.prog 131 #[.string s, .string t] w fun e w' => (∃ a b, e = .returned (.tuple #[.string a, .string b]) ∧ B a = sg (B t) (B s) ∧ B b = (B s).drop (sg (B t) (B s)).length ∧ b.size ≤ s.size) ∧ ∃ n, w' = w.drewN n := by
  cases h0 : s.toList.isEmpty with
  | true =>
    go_enter Tryz.func131, Tryz.ntmps131
    go_wp2_with fail
    go_ret2
    refine ⟨⟨_, _, rfl, ?_, ?_, Nat.le_refl _⟩, 0, rfl⟩
    · rw [sg_nil h0]
      rfl
    · rw [sg_nil h0]
      rfl
  | false =>
    have hz : 0 < s.size := by
      rw [size_B]
      rw [Lib.toList_data] at h0
      unfold B
      cases hb : s.data.toList with
      | nil => simp [hb] at h0
      | cons x l => simp
    rcases idx_cases (B t) s[0] with ⟨k1, k2, -, -⟩ | ⟨o, k1, -, k2, -, -⟩
    · have hc : ∀ w, Calls Tryz.prog 173 #[.string t, .int .u8 (s[0].toNat : Int)] w fun e w' => e = .returned (.int .i64 (-1)) ∧ w = w' := fun w => (Tryz.strings_IndexByte t _ w).mono fun e w' ⟨he, hw⟩ => ⟨by rw [he, byte_back, ← k1]; rfl, hw.symm⟩
      have HC := hide hc
      have K2 := hide k2
      clear hc k1 k2
      go_enter Tryz.func131, Tryz.ntmps131
      go_wp2_with (go_at_call 173; refine (HC.out _).mono ?_; rintro e w' ⟨rfl, rfl⟩)
      go_ret2
      refine ⟨⟨_, _, rfl, ?_, ?_, Nat.le_refl _⟩, 0, rfl⟩
      · rw [sg_no hz K2.out]
        rfl
      · rw [sg_no hz K2.out]
        rfl
    · have hc : ∀ w, Calls Tryz.prog 173 #[.string t, .int .u8 (s[0].toNat : Int)] w fun e w' => e = .returned (.int .i64 (o : Int)) ∧ w = w' := fun w => (Tryz.strings_IndexByte t _ w).mono fun e w' ⟨he, hw⟩ => ⟨by rw [he, byte_back, ← k1]; rfl, hw.symm⟩
      have HC := hide hc
      have K2 := hide k2
      clear hc k1 k2
      go_enter Tryz.func131, Tryz.ntmps131
      go_wp2_with (go_at_call 173; refine (HC.out _).mono ?_; rintro e w' ⟨rfl, rfl⟩)
      go_quiet (fail)
      go_wp2_with fail
      go_ret2
      refine ⟨⟨_, _, rfl, ?_, ?_, ?_⟩, _, rfl⟩
      · rw [sg_yes hz K2.out, B_extract, B_cons hz]
        rfl
      · rw [sg_yes hz K2.out, B_extract, size_B, List.take_of_length_le]
        · rfl
        · rw [List.length_drop]
          exact Nat.le_refl _
      · rw [size_B, B_extract, List.length_take, List.length_drop, size_B]
        omega

end Go.Proofs.YtenegfafjjknoaaGreatDoor.Numw
