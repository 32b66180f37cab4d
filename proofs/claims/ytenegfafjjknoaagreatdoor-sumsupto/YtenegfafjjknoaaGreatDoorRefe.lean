/- The walks of the document's decimals, types and tags. -/
import Derived.Test.YtenegfafjjknoaaGreatDoorRefd
import Derived.Test.YtenegfafjjknoaaGreatDoorRefi
namespace Go.Proofs.YtenegfafjjknoaaGreatDoor.Refe
open Go.RowKit Bytes Numw Mem Plain Refd Tagw

/-! ### Three digits without zeros at their end -/
theorem trim_zero (l : List UInt8) : Lib.trimRightB (l ++ [48]) 48 = Lib.trimRightB l 48 := by
  unfold Lib.trimRightB
  rw [List.reverse_append]
  simp

theorem trim_other (l : List UInt8) {b : UInt8} (h : b ≠ 48) : Lib.trimRightB (l ++ [b]) 48 = l ++ [b] := by
  unfold Lib.trimRightB
  rw [List.reverse_append]
  simp [h]

theorem B_last {u : ByteArray} (h : 1 ≤ u.size) : B u = (B u).take (u.size - 1) ++ [u[u.size - 1]] := by
  have e := B_get (s := u) (k := u.size - 1) (by omega)
  have e2 : (B u).take (u.size - 1 + 1) = B u := by
    rw [show u.size - 1 + 1 = u.size by omega, size_B, List.take_length]
  rw [List.take_add_one, e] at e2
  exact e2.symm

theorem dd_three {r : Nat} (h : r < 1000) : (Lib.decDigits (1000 + r)).drop 1 = [UInt8.ofNat (48 + r / 100), UInt8.ofNat (48 + r / 10 % 10), UInt8.ofNat (48 + r % 10)] := by
  rw [Lib.decDigits, dif_neg (by omega), Lib.decDigits, dif_neg (by omega), Lib.decDigits, dif_neg (by omega), Lib.decDigits_one (by omega)]
  simp only [List.append_assoc, List.singleton_append]
  have e1 : (1000 + r) / 10 / 10 % 10 = r / 100 := by omega
  have e2 : (1000 + r) / 10 % 10 = r / 10 % 10 := by omega
  have e3 : (1000 + r) % 10 = r % 10 := by omega
  rw [e1, e2, e3]
  rfl

def three (a b c : Int) : ByteArray := ⟨#[UInt8.ofNat a.toNat, UInt8.ofNat b.toNat, UInt8.ofNat c.toNat]⟩

theorem conv3 (a b c : Int) (ha : 0 ≤ a ∧ a ≤ 255) (hb : 0 ≤ b ∧ b ≤ 255) (hc : 0 ≤ c ∧ c ≤ 255) (W : World) (g : Nat) (h0 : W.cell? ⟨g, 0, none⟩ = some (.int .u8 a)) (h1 : W.cell? ⟨g, 1, none⟩ = some (.int .u8 b)) (h2 : W.cell? ⟨g, 2, none⟩ = some (.int .u8 c)) :
    (convert 97 9 (.slice (some ⟨g, 0, none⟩) 3 3)).run Tryz.prog W = .ok (.string (three a b c)) W := by
  refine run_convert_bytes_back (P := Tryz.prog) W 97 9 5 ⟨g, 0, none⟩ 3 [UInt8.ofNat a.toNat, UInt8.ofNat b.toNat, UInt8.ofNat c.toNat] Tryz.underlying97 Tryz.underlying5 Tryz.underlying9 fun j hj => ?_
  have e : ∀ x : Int, 0 ≤ x → x ≤ 255 → ((UInt8.ofNat x.toNat).toNat : Int) = x := by
    intro x h0 h1
    rw [UInt8.toNat_ofNat']
    omega
  have hj3 : j = 0 ∨ j = 1 ∨ j = 2 := by
    simp at hj
    omega
  rcases hj3 with rfl | rfl | rfl
  · show W.cell? _ = some (.int .u8 ((UInt8.ofNat a.toNat).toNat : Int))
    rw [e a ha.1 ha.2]
    exact h0
  · show W.cell? _ = some (.int .u8 ((UInt8.ofNat b.toNat).toNat : Int))
    rw [e b hb.1 hb.2]
    exact h1
  · show W.cell? _ = some (.int .u8 ((UInt8.ofNat c.toNat).toNat : Int))
    rw [e c hc.1 hc.2]
    exact h2

def strSize : Value → Nat | .string u => u.size | _ => 0

theorem wnAbs_whole {v : Int} (h0 : 0 ≤ v) (h : v % 1000 = 0) : wnAbs v.toNat = Lib.decDigits (v / 1000).toNat := by
  unfold wnAbs
  rw [if_pos (by omega), List.append_nil]
  congr 1
  omega

theorem wnAbs_part {v : Int} (h0 : 0 ≤ v) (h : ¬ v % 1000 = 0) : wnAbs v.toNat = Lib.decDigits (v / 1000).toNat ++ [46] ++ Lib.trimRightB (B (three (48 + v % 1000 / 100) (48 + v % 1000 / 10 % 10) (48 + v % 1000 % 10))) 48 := by
  unfold wnAbs
  rw [if_neg (by omega), dd_three (by omega), List.append_assoc]
  congr 1
  · congr 1
    omega
  · show 46 :: _ = 46 :: _
    congr 2
    show _ = [UInt8.ofNat _, UInt8.ofNat _, UInt8.ofNat _]
    have e1 : 48 + v.toNat % 1000 / 100 = (48 + v % 1000 / 100).toNat := by omega
    have e2 : 48 + v.toNat % 1000 / 10 % 10 = (48 + v % 1000 / 10 % 10).toNat := by omega
    have e3 : 48 + v.toNat % 1000 % 10 = (48 + v % 1000 % 10).toNat := by omega
    rw [e1, e2, e3]

theorem three_live {a b c : Int} (h : ¬ (a = 48 ∧ b = 48 ∧ c = 48)) (ha : 0 ≤ a ∧ a ≤ 255) (hb : 0 ≤ b ∧ b ≤ 255) (hc : 0 ≤ c ∧ c ≤ 255) : Lib.trimRightB (B (three a b c)) 48 ≠ [] := by
  have e : ∀ x : Int, 0 ≤ x → x ≤ 255 → ¬ x = 48 → UInt8.ofNat x.toNat ≠ 48 := by
    intro x h0 h1 hx hne
    have h2 : (UInt8.ofNat x.toNat).toNat = 48 := by rw [hne]; rfl
    rw [UInt8.toNat_ofNat'] at h2
    omega
  show Lib.trimRightB [UInt8.ofNat a.toNat, UInt8.ofNat b.toNat, UInt8.ofNat c.toNat] 48 ≠ []
  by_cases h3 : UInt8.ofNat c.toNat = 48
  · rw [h3]
    have e1 := trim_zero [UInt8.ofNat a.toNat, UInt8.ofNat b.toNat]
    simp only [List.cons_append, List.nil_append] at e1
    rw [e1]
    by_cases h2 : UInt8.ofNat b.toNat = 48
    · rw [h2]
      have e2 := trim_zero [UInt8.ofNat a.toNat]
      simp only [List.cons_append, List.nil_append] at e2
      rw [e2]
      by_cases h1 : UInt8.ofNat a.toNat = 48
      · exfalso
        apply h
        refine ⟨?_, ?_, ?_⟩
        · by_cases hx : a = 48
          · exact hx
          · exact absurd h1 (e a ha.1 ha.2 hx)
        · by_cases hx : b = 48
          · exact hx
          · exact absurd h2 (e b hb.1 hb.2 hx)
        · by_cases hx : c = 48
          · exact hx
          · exact absurd h3 (e c hc.1 hc.2 hx)
      · have e3 := trim_other [] h1
        simp only [List.nil_append] at e3
        rw [e3]
        simp
    · have e3 := trim_other [UInt8.ofNat a.toNat] h2
      simp only [List.cons_append, List.nil_append] at e3
      rw [e3]
      simp
  · have e3 := trim_other [UInt8.ofNat a.toNat, UInt8.ofNat b.toNat] h3
    simp only [List.cons_append, List.nil_append] at e3
    rw [e3]
    simp

set_option maxHeartbeats 1000000 in
set_option maxRecDepth 100000 in
theorem decimal (v : Int) (h0 : 0 ≤ v) (h1 : v ≤ 999999999) (w : World) :
    Calls Tryz.prog 85 #[.int .i64 v] w fun e w' => (∃ z, e = .returned (.string z) ∧ B z = wnAbs v.toNat) ∧ Below w.heap.size w w' := by
  go_enter Tryz.func85, Tryz.ntmps85
  go_wp2_with fail
  refine (digits (v / 1000) (by omega) (by omega) w).mono ?_
  rintro e w1 ⟨⟨z, rfl, hz, hzz⟩, hb1⟩
  have HZ := hide hz
  have HB1 := hide hb1
  clear hz hb1
  by_cases hm : v % 1000 = 0
  · go_wp2_with fail
    go_ret
    refine ⟨⟨_, rfl, ?_⟩, HB1.out⟩
    rw [wnAbs_whole h0 hm]
    exact HZ.out
  · have hp := wnAbs_part h0 hm
    obtain ⟨r, hr⟩ : ∃ r, v % 1000 = r := ⟨_, rfl⟩
    rw [hr] at hp hm
    have hr1 : 0 ≤ r ∧ r ≤ 999 := by omega
    have hmb : (r == 0) = false := by simpa using hm
    have hcv := conv3 (48 + r / 100) (48 + r / 10 % 10) (48 + r % 10) (by omega) (by omega) (by omega)
    have hlv := three_live (a := 48 + r / 100) (b := 48 + r / 10 % 10) (c := 48 + r % 10) (by omega) (by omega) (by omega) (by omega)
    have hts : (three (48 + r / 100) (48 + r / 10 % 10) (48 + r % 10)).size = 3 := rfl
    generalize three (48 + r / 100) (48 + r / 10 % 10) (48 + r % 10) = tb at hcv hlv hp hts
    have HLV := hide hlv
    have HP := hide hp
    clear hlv hp
    go_wp2_with fail
    clear hcv
    rw [hr]
    clear hr
    go_loop [5] (fun s5 => ∃ u : ByteArray, s5 = .string u ∧ 1 ≤ u.size ∧ u.size ≤ 3 ∧ Hid (Lib.trimRightB (B u) 48 = Lib.trimRightB (B tb) 48))
      (fun s5 => strSize s5)
    case atStart => exact ⟨tb, rfl, by omega, by omega, rfl⟩
    case round =>
      obtain ⟨u, rfl, hu1, hu3, HU⟩ := hrel
      have hidx : u.size - 1 < u.size := by omega
      have hlb := B_last hu1
      have HLB := hide hlb
      clear hlb
      cases hlast : ((u[u.size - 1].toNat : Int) == 48) with
      | true =>
        have h48 : u[u.size - 1] = 48 := by
          apply UInt8.toNat_inj.1
          have h48z : (u[u.size - 1].toNat : Int) = 48 := by simpa using hlast
          show _ = 48
          omega
        have hex : B (u.extract 0 (u.size - 1)) = (B u).take (u.size - 1) := by
          rw [B_extract, List.drop_zero, Nat.sub_zero]
        have htr : Lib.trimRightB (B (u.extract 0 (u.size - 1))) 48 = Lib.trimRightB (B tb) 48 := by
          rw [hex, ← trim_zero, ← HU.out, ← h48]
          exact congrArg (fun l => Lib.trimRightB l u[u.size - 1]) HLB.out.symm
        have hsz : (u.extract 0 (u.size - 1)).size = u.size - 1 := by
          rw [ByteArray.size_extract]
          omega
        have h2 : 2 ≤ u.size := by
          rcases Nat.lt_or_ge u.size 2 with h | h
          · exfalso
            apply HLV.out
            have hn : B (u.extract 0 (u.size - 1)) = [] := List.eq_nil_of_length_eq_zero (by rw [← size_B, hsz]; omega)
            rw [← htr, hn]
            rfl
          · exact h
        have HT := hide htr
        have HSZ := hide hsz
        clear h48 hex htr hsz
        go_wp2_with fail
        go_round
        case rel => exact ⟨_, rfl, by rw [HSZ.out]; omega, by rw [HSZ.out]; omega, HT.out⟩
        case measure =>
          show (u.extract 0 (u.size - 1)).size < u.size
          rw [HSZ.out]
          omega
      | false =>
        have h48 : u[u.size - 1] ≠ 48 := by
          intro h
          rw [h] at hlast
          cases hlast
        have hd : B u = Lib.trimRightB (B tb) 48 := by
          rw [← HU.out]
          have e := trim_other ((B u).take (u.size - 1)) h48
          rw [← HLB.out] at e
          exact e.symm
        have HD := hide hd
        clear hd h48
        go_wp2_with fail
        go_ret
        refine ⟨⟨_, rfl, ?_⟩, HB1.out.trans ((below_new _).mono HB1.out.size)⟩
        rw [HP.out, ← HZ.out, ← HD.out]
        refine (B_append _ _).trans (congrArg (· ++ B u) ?_)
        exact B_append _ _

theorem decimal' (v : Int) (h0 : 0 ≤ v) (h1 : v ≤ 999999999) (w : World) :
    Calls Tryz.prog 85 #[.int .i64 v] w fun e w' => (∃ z, e = .returned (.string z) ∧ B z = wnAbs v.toNat ∧ z.size ≤ 16) ∧ Below w.heap.size w w' := by
  refine (decimal v h0 h1 w).mono fun e w' h => ?_
  obtain ⟨⟨z, he, hz⟩, hb⟩ := h
  exact ⟨⟨z, he, hz, by rw [size_B, hz]; exact wnAbs_len (by omega)⟩, hb⟩

end Go.Proofs.YtenegfafjjknoaaGreatDoor.Refe
