/- Letters out of a text (the laws' own). P4, P5: a counter's line, put together: the law, walked. P4, P5: a counter's line, put together: the law at every input. -/
import Derived.Test.YtenegfafjjknoaaGreatDoorKg
import Derived.Laws.BytesArg
import Derived.Maps.AppendAt
import Derived.Test.YtenegfafjjknoaaGreatDoorMqx
import Derived.Test.YtenegfafjjknoaaGreatDoorLeaf
import Derived.Test.YtenegfafjjknoaaGreatDoorPlain
import Derived.Lib.ItoaNum
import Derived.Deep.Cut
import Derived.Test.YtenegfafjjknoaaGreatDoorKd
namespace Go.Proofs.YtenegfafjjknoaaGreatDoor.Kf
open Go.RowKit Mem Foot Wi Wm Kr Opts Plainw Hn Cq

def allL : List UInt8 := [97, 98, 99, 100, 101, 102, 103, 104, 105, 106, 107, 108, 109, 110, 111, 112, 113, 114, 115, 116, 117, 118, 119, 120, 121, 122, 48, 49, 50, 51, 52, 53, 54, 55, 56, 57, 95]

theorem lit_mem (m : Nat) (h : m < 37) : (⟨#[97, 98, 99, 100, 101, 102, 103, 104, 105, 106, 107, 108, 109, 110, 111, 112, 113, 114, 115, 116, 117, 118, 119, 120, 121, 122, 48, 49, 50, 51, 52, 53, 54, 55, 56, 57, 95]⟩ : ByteArray)[m]'(by exact h) ∈ allL := by
  have : ∀ i : Fin 37, (⟨#[97, 98, 99, 100, 101, 102, 103, 104, 105, 106, 107, 108, 109, 110, 111, 112, 113, 114, 115, 116, 117, 118, 119, 120, 121, 122, 48, 49, 50, 51, 52, 53, 54, 55, 56, 57, 95]⟩ : ByteArray)[i.val]'(by exact i.isLt) ∈ allL := by decide
  exact this ⟨m, h⟩

theorem own_slice {w : World} {base n : Nat} {e : TypeId} {v : Value} {xs : List Value} (h : w.ownsRow base e 1 v n xs) : ∃ a l c, v = .slice a l c := by
  rcases h.2 with ⟨rfl, _⟩ | ⟨g, cap, cur, rfl, _⟩
  · exact ⟨_, _, _, rfl⟩
  · exact ⟨_, _, _, rfl⟩

theorem own_grows {w wr w2 : World} {v : Value} {n : Nat} {e : TypeId} {xs : List Value} {o : Obj} (hB : Below w.heap.size w wr) (hr : wr.ownsRow w.heap.size e 1 v n xs) (hg : (wr.alloc o).grownBy w2 v.ownBlock) : Below w.heap.size w w2 :=
  (hB.alloc hB.size _).grown hg (by have := hB.size; simp; omega) (fun k hk => (hr.lt k hk).1)

theorem conv_row (bs : List UInt8) {w : World} {base k : Nat} {a : Option Addr} {l c : Nat} (h : w.ownsRow base 5 1 (.slice a l c) k (Lib.byteCells bs)) (hl : bs.length = k) : (convert 97 9 (.slice a l c)).run Tryz.prog w = .ok (.string ⟨bs.toArray⟩) w := by
  have hr := h
  rcases h.2 with ⟨e, h0⟩ | ⟨g, cap, cur, e, _⟩
  · cases e
    have hb : bs = [] := List.eq_nil_of_length_eq_zero (by omega)
    subst hb
    exact run_convert_bytes_nil w 97 5 Tryz.underlying97 Tryz.underlying5 0 0 9 Tryz.underlying9
  · cases e
    have := run_convert_bytes_arg w 97 5 Tryz.underlying97 Tryz.underlying5 g 0 k c (bs.map fun b => (b.toNat : Int)) (by simp [hl]) (fun i hi => by
      have hib : i < bs.length := by omega
      have h2 := hr.cells (g := g) rfl i (.int .u8 (bs[i].toNat : Int)) (by simp [Lib.byteCells, hib])
      have hplain : (⟨g, 0, none⟩ : Addr).add i = ⟨g, 0 + i, none⟩ := by unfold Addr.add; split <;> simp_all
      rw [hplain] at h2
      rw [h2]
      simp [hib]) 9 Tryz.underlying9
    rw [this]
    have e2 : strOfNums (bs.map fun b => (b.toNat : Int)) = ⟨bs.toArray⟩ := by
      refine Bytes.B_inj ?_
      simp [strOfNums, Bytes.B, Function.comp_def]
    rw [e2]

set_option maxRecDepth 10000 in
set_option maxHeartbeats 4000000 in
theorem letters (s : ByteArray) (n : Nat) (hn : n ≤ 16) (_ : s.size ≤ 140737488355328) (w : World) :
    Calls Tryz.prog 22 #[.string s, .int .i64 (n : Int)] w fun e w' => (∃ z, e = .returned (.string z) ∧ (Bytes.B z).length = n ∧ ∀ c ∈ Bytes.B z, c ∈ allL) ∧ Below w.heap.size w w' := by
  obtain ⟨i0, hi, hz0, hz1, hz2⟩ := info_parts Hb.infoByte
  go_enter Tryz.func22, Tryz.ntmps22
  go_wp2_with fail
  go_loopw [5, 6] (fun v i wr => ∃ (k : Nat) (bs : List UInt8), i = .int .i64 (k : Int) ∧ k ≤ n ∧ bs.length = k ∧ (∃ a l c, v = .slice a l c) ∧ Hid (∀ c ∈ bs, c ∈ allL) ∧ Hid (wr.ownsRow w.heap.size 5 1 v k (Lib.byteCells bs)) ∧ Hid (Below w.heap.size w wr)) (fun _ i _ => n - (intOf i).toNat)
  case atStart => exact ⟨0, [], rfl, by omega, rfl, ⟨_, _, _, rfl⟩, by simp [Hid], World.ownsRow_nil _ _ _ _, Below.refl _ _⟩
  case round =>
    obtain ⟨k, bs, rfl, hk, hl, ⟨a, l, c, rfl⟩, HA, HR, HB⟩ := hrel
    by_cases hkn : k < n
    · have hkz : (k : Int) < (n : Int) := by omega
      by_cases hks : k < s.size
      · have hksz : (k : Int) < (s.size : Int) := by omega
        obtain ⟨x, hx⟩ : ∃ x : Nat, s[k].toNat = x := ⟨_, rfl⟩
        have hx255 : x ≤ 255 := by have := s[k].toNat_lt; omega
        have hxz : (x : Int) ≤ 255 := by omega
        obtain ⟨m, hm⟩ : ∃ m : Nat, m = x % 37 := ⟨_, rfl⟩
        have hxm : (x : Int).tmod 37 = (m : Int) := by rw [Int.tmod_eq_emod_of_nonneg (by omega)]; omega
        have hxm2 : (x : Int) % 37 = (m : Int) := by omega
        have hxl : m < 37 := by omega
        have hxlz : (m : Int) < 37 := by omega
        clear hm
        go_wp2_with (at_builtin; refine wpList_append_own _ rfl _ _ 97 rfl w.heap.size 5 i0 (.int .u8 0) 1 1 Tryz.underlying97 hi hz0 hz1 hz2 rfl (by decide) _ _ _ rfl (HR.out.alloc _) ⟨wr.heap.size, 0, none⟩ 1 1 [_] rfl rfl (cell_one_new _ _ _) (fun x hx => by simp at hx; subst hx; rfl) (by unfold maxLen; omega) (by omega) (by have := HB.out.size; simp; omega) ?_; intro v2 w2 hown2 hg2 hn2)
        refine ⟨⟨k + 1, bs ++ [(⟨#[97, 98, 99, 100, 101, 102, 103, 104, 105, 106, 107, 108, 109, 110, 111, 112, 113, 114, 115, 116, 117, 118, 119, 120, 121, 122, 48, 49, 50, 51, 52, 53, 54, 55, 56, 57, 95]⟩ : ByteArray)[m]], by go_num, by omega, by simp [hl], own_slice hown2, fun c hc => ?_, ?_, own_grows HB.out HR.out hg2⟩, by simp only [intOf]; omega⟩
        · rcases List.mem_append.1 hc with h | h
          · exact HA.out c h
          · rw [List.mem_singleton.1 h]
            exact lit_mem m hxl
        · have e : Lib.byteCells (bs ++ [(⟨#[97, 98, 99, 100, 101, 102, 103, 104, 105, 106, 107, 108, 109, 110, 111, 112, 113, 114, 115, 116, 117, 118, 119, 120, 121, 122, 48, 49, 50, 51, 52, 53, 54, 55, 56, 57, 95]⟩ : ByteArray)[m]]) = Lib.byteCells bs ++ [.int .u8 (((⟨#[97, 98, 99, 100, 101, 102, 103, 104, 105, 106, 107, 108, 109, 110, 111, 112, 113, 114, 115, 116, 117, 118, 119, 120, 121, 122, 48, 49, 50, 51, 52, 53, 54, 55, 56, 57, 95]⟩ : ByteArray)[m] : UInt8).toNat : Int)] := by simp [Lib.byteCells]
          show World.ownsRow _ _ _ _ _ _ _
          rw [e]
          exact hown2
      · have hksz : ¬ (k : Int) < (s.size : Int) := by omega
        go_wp2_with (at_builtin; refine wpList_append_own _ rfl _ _ 97 rfl w.heap.size 5 i0 (.int .u8 0) 1 1 Tryz.underlying97 hi hz0 hz1 hz2 rfl (by decide) _ _ _ rfl (HR.out.alloc _) ⟨wr.heap.size, 0, none⟩ 1 1 [_] rfl rfl (cell_one_new _ _ _) (fun x hx => by simp at hx; subst hx; rfl) (by unfold maxLen; omega) (by omega) (by have := HB.out.size; simp; omega) ?_; intro v2 w2 hown2 hg2 hn2)
        refine ⟨⟨k + 1, bs ++ [97], by go_num, by omega, by simp [hl], own_slice hown2, fun c hc => ?_, ?_, own_grows HB.out HR.out hg2⟩, by simp only [intOf]; omega⟩
        · rcases List.mem_append.1 hc with h | h
          · exact HA.out c h
          · rw [List.mem_singleton.1 h]
            decide
        · have e : Lib.byteCells (bs ++ [97]) = Lib.byteCells bs ++ [.int .u8 ((97 : UInt8).toNat : Int)] := by simp [Lib.byteCells]
          show World.ownsRow _ _ _ _ _ _ _
          rw [e]
          exact hown2
    · have hkz : ¬ (k : Int) < (n : Int) := by omega
      have hkn2 : k = n := by omega
      subst hkn2
      have hcv := conv_row bs HR.out hl
      go_wp2_with fail
      go_ret
      exact ⟨⟨_, rfl, hl, HA.out⟩, HB.out⟩

end Go.Proofs.YtenegfafjjknoaaGreatDoor.Kf

namespace Go.Proofs.YtenegfafjjknoaaGreatDoor.Kf
open Go.RowKit Mem Foot

set_option maxRecDepth 100000 in
set_option maxHeartbeats 4000000 in
theorem counts_walk (s u : ByteArray) (long v : Int) (q x : Nat) (hq : q ≤ 15) (hx : x ≤ 999999) (cv : Value) (LN LT : ByteArray → Prop) (w : World) (T : World → Prop)
    (hTT : ∀ w w' : World, T w → Below w.heap.size w w' → T w')
    (ht : T w)
    (hp1 : ∀ w : World, Calls Tryz.prog 23 #[.int .i64 long, .int .i64 16] w fun e w' => e = .returned (.int .i64 (q : Int)) ∧ w' = w)
    (hp2 : ∀ w : World, Calls Tryz.prog 23 #[.int .i64 v, .int .i64 1000000] w fun e w' => e = .returned (.int .i64 (x : Int)) ∧ w' = w)
    (hl1 : ∀ w : World, Calls Tryz.prog 22 #[.string s, .int .i64 (1 + (q : Int))] w fun e w' => (∃ z, e = .returned (.string z) ∧ z.size ≤ 16 ∧ LN z) ∧ Below w.heap.size w w')
    (hl2 : ∀ w : World, Calls Tryz.prog 22 #[.string u, .int .i64 3] w fun e w' => (∃ z, e = .returned (.string z) ∧ z.size ≤ 3 ∧ LT z) ∧ Below w.heap.size w w')
    (hdig : ∀ v : Nat, v ≤ 999999999999 → ∀ w : World, Calls Tryz.prog 24 #[.int .i64 (v : Int)] w fun e w' => (∃ z, e = .returned (.string z) ∧ z.size ≤ 19 ∧ Bytes.B z = Lib.decDigits v) ∧ Below w.heap.size w w')
    (hpar : ∀ n t line : ByteArray, LN n → LT t → line.size ≤ 50 → Bytes.B line = Bytes.B n ++ [58] ++ Lib.decDigits x ++ [124, 99, 124, 35] ++ Bytes.B t → ∀ w : World, T w → Calls Tryz.prog 13 #[.string line] w fun e w' => e = .returned (.tuple #[.string line, .int .i64 0]) ∧ Below w.heap.size w w')
    (hfit : ∀ w : World, Calls Tryz.prog 25 #[.agg #[.int .i64 0, .int .i64 0, .int .i64 0, .int .i64 0, .int .i64 0, .int .i64 0]] w fun e w' => e = .returned cv ∧ Below w.heap.size w w')
    (hsum : ∀ n t line : ByteArray, LN n → LT t → line.size ≤ 50 → Bytes.B line = Bytes.B n ++ [58] ++ Lib.decDigits x ++ [124, 99, 124, 35] ++ Bytes.B t → ∀ w : World, T w → Calls Tryz.prog 20 #[cv, .int .i64 0, .slice (some ⟨w.heap.size, 0, none⟩) 1 1] (w.alloc (.cells #[.string line] 9)) fun e w' => (∃ z, e = .returned (.tuple #[.string z, .int .i64 0]) ∧ Bytes.B z = [119, 105, 110, 100, 111, 119, 32, 48, 32, 114, 101, 106, 101, 99, 116, 115, 32, 48, 32, 100, 114, 111, 112, 115, 32, 48, 10] ++ (Bytes.B n ++ [124, 99, 124, 35] ++ Bytes.B t) ++ [61] ++ Lib.decDigits (1000 * x) ++ [10]) ∧ Below w.heap.size w w') :
    Calls Tryz.prog 5 #[.string s, .int .i64 long, .int .i64 v, .string u] w fun e w' => e = .returned (.bool true) ∧ Below w.heap.size w w' := by
  have HT := hide ht
  have HTT := hide hTT
  have HP1 := hide hp1
  have HP2 := hide hp2
  have HL1 := hide hl1
  have HL2 := hide hl2
  have HDG := hide hdig
  have HPA := hide hpar
  have HF := hide hfit
  have HS := hide hsum
  clear ht hTT hp1 hp2 hl1 hl2 hdig hpar hfit hsum
  go_enter Tryz.func5, Tryz.ntmps5
  go_wp2_with fail
  refine (HP1.out w).mono ?_
  rintro e w' ⟨rfl, hw⟩
  subst w'
  go_wp2_with fail
  refine (HL1.out w).mono ?_
  rintro e w1 ⟨⟨n, rfl, hns, hln⟩, hb1⟩
  have HB1 := hide hb1
  have HLN := hide hln
  clear hln hb1
  go_wp2_with fail
  refine (HP2.out w1).mono ?_
  rintro e w' ⟨rfl, hw⟩
  subst w'
  go_wp2_with fail
  refine (HL2.out w1).mono ?_
  rintro e w2 ⟨⟨t, rfl, hts, hlt⟩, hb2⟩
  have HB2 := hide (HB1.out.trans (hb2.mono HB1.out.size))
  have HLT := hide hlt
  clear hlt hb2
  go_wp2_with fail
  refine (HDG.out x (by omega) w2).mono ?_
  rintro e w3 ⟨⟨dx, rfl, hds, hdx⟩, hb3⟩
  have HB3 := hide (HB2.out.trans (hb3.mono HB2.out.size))
  have HDX := hide hdx
  clear hdx hb3
  go_wp2_with fail
  obtain ⟨line, hline⟩ : ∃ line : ByteArray, n ++ ⟨#[58]⟩ ++ dx ++ ⟨#[124, 99, 124, 35]⟩ ++ t = line := ⟨_, rfl⟩
  have hls : line.size ≤ 50 := by
    rw [← hline]
    simp only [ByteArray.size_append]
    have e1 : (⟨#[58]⟩ : ByteArray).size = 1 := rfl
    have e2 : (⟨#[124, 99, 124, 35]⟩ : ByteArray).size = 4 := rfl
    omega
  have HLB := hide (show Bytes.B line = Bytes.B n ++ [58] ++ Lib.decDigits x ++ [124, 99, 124, 35] ++ Bytes.B t by
    rw [← hline]
    simp only [Bytes.B_append, HDX.out]
    rfl)
  rw [hline]
  obtain ⟨ky, hky⟩ : ∃ ky : ByteArray, n ++ ⟨#[124, 99, 124, 35]⟩ ++ t = ky := ⟨_, rfl⟩
  have hks : ky.size ≤ 23 := by
    rw [← hky]
    simp only [ByteArray.size_append]
    have e2 : (⟨#[124, 99, 124, 35]⟩ : ByteArray).size = 4 := rfl
    omega
  have HKB := hide (show Bytes.B ky = Bytes.B n ++ [124, 99, 124, 35] ++ Bytes.B t by
    rw [← hky]
    simp only [Bytes.B_append]
    rfl)
  rw [hky]
  clear hky hline
  have hT3 := hide (HTT.out _ _ HT.out HB3.out)
  refine (HPA.out n t line HLN.out HLT.out hls HLB.out w3 hT3.out).mono ?_
  rintro e w4 ⟨rfl, hb4⟩
  have HB4 := hide (HB3.out.trans (hb4.mono HB3.out.size))
  clear hb4
  go_wp2_with fail
  refine (HPA.out n t line HLN.out HLT.out hls HLB.out w4 (HTT.out _ _ HT.out HB4.out)).mono ?_
  rintro e w5 ⟨rfl, hb5⟩
  have HB5 := hide (HB4.out.trans (hb5.mono HB4.out.size))
  clear hb5
  go_wp2_with fail
  refine (HF.out _).mono ?_
  rintro e w6 ⟨rfl, hb6⟩
  have HB6 := hide (HB5.out.trans (hb6.mono HB5.out.size))
  clear hb6
  go_wp2_with fail
  refine (HS.out n t line HLN.out HLT.out hls HLB.out w6 (HTT.out _ _ HT.out HB6.out)).mono ?_
  rintro e w7 ⟨⟨z, rfl, hz⟩, hb7⟩
  have HB7 := hide (HB6.out.trans (hb7.mono HB6.out.size))
  have HZ := hide hz
  clear hb7 hz
  go_wp2_with fail
  refine (HDG.out (1000 * x) (by omega) w7).mono ?_
  rintro e w8 ⟨⟨dk, rfl, hdks, hdk⟩, hb8⟩
  have HB8 := hide (HB7.out.trans (hb8.mono HB7.out.size))
  have hze : ⟨#[119, 105, 110, 100, 111, 119, 32, 48, 32, 114, 101, 106, 101, 99, 116, 115, 32, 48, 32, 100, 114, 111, 112, 115, 32, 48, 10]⟩ ++ ky ++ ⟨#[61]⟩ ++ dk ++ ⟨#[10]⟩ = z := Bytes.B_inj (by
    rw [HZ.out]
    simp only [Bytes.B_append, HKB.out, hdk]
    rfl)
  have HZE := hide hze
  clear hdk hb8 hze
  go_wp2_with fail
  · go_ret
    exact ⟨rfl, HB8.out⟩
  · rename_i hne
    exact absurd (by rw [HZE.out]) hne

end Go.Proofs.YtenegfafjjknoaaGreatDoor.Kf

namespace Go.Proofs.YtenegfafjjknoaaGreatDoor.Kf
open Go.RowKit Mem Foot Wi Wm Kr Opts Plainw Hn Cq Parsew

theorem made_of {p : Int → Bool} {most : Int} {l : List UInt8} (h0 : l ≠ []) (h1 : (l.length : Int) ≤ most) (h : ∀ c ∈ l, p (c.toNat : Int) = true) : Bytes.made p most l = true := by
  simp only [Bytes.made, Bool.and_eq_true, List.all_eq_true, decide_eq_true_eq]
  refine ⟨?_, h1, h⟩
  cases l with
  | nil => exact absurd rfl h0
  | cons x r => rfl

theorem allL_nam : ∀ c ∈ allL, Bytes.nam (c.toNat : Int) = true := by decide
theorem allL_let : ∀ c ∈ allL, Bytes.let_ (c.toNat : Int) = true := by decide

theorem head0 : whead 0 0 0 = [119, 105, 110, 100, 111, 119, 32, 48, 32, 114, 101, 106, 101, 99, 116, 115, 32, 48, 32, 100, 114, 111, 112, 115, 32, 48, 10] := by decide +kernel

theorem letters_of {s : ByteArray} {n : Nat} (hn : n ≤ 16) (hs : s.size ≤ 140737488355328) {k : Int} (hk : k = (n : Int)) {P : ByteArray → Prop} (hP : ∀ z, (Bytes.B z).length = n → (∀ c ∈ Bytes.B z, c ∈ allL) → P z) (w : World) :
    Calls Tryz.prog 22 #[.string s, .int .i64 k] w fun e w' => (∃ z, e = .returned (.string z) ∧ z.size ≤ n ∧ P z) ∧ Below w.heap.size w w' := by
  subst hk
  exact (letters s n hn hs w).mono fun e w' ⟨⟨z, h1, h2, h3⟩, hb⟩ => ⟨⟨z, h1, by rw [Bytes.size_B, h2]; exact Nat.le_refl _, hP z h2 h3⟩, hb⟩

theorem digits_of (v : Nat) (h : v ≤ 999999999999) (w : World) : Calls Tryz.prog 24 #[.int .i64 (v : Int)] w fun e w' => (∃ z, e = .returned (.string z) ∧ z.size ≤ 19 ∧ Bytes.B z = Lib.decDigits v) ∧ Below w.heap.size w w' :=
  (digits v h w).mono fun e w' ⟨⟨z, h1, h2⟩, hb⟩ => ⟨⟨z, h1, by rw [Bytes.size_B, h2]; exact Hi.dd_len20 (by omega), h2⟩, hb⟩

theorem counts (s u : ByteArray) (long v : Int) (hl0 : -9223372036854775808 ≤ long) (hl1 : long ≤ 9223372036854775807) (hv0 : -9223372036854775808 ≤ v) (hv1 : v ≤ 9223372036854775807) (hs : s.size ≤ 140737488355328) (hu : u.size ≤ 140737488355328) (w : World) (ht : Tab w) :
    Calls Tryz.prog 5 #[.string s, .int .i64 long, .int .i64 v, .string u] w fun e w' => e = .returned (.bool true) ∧ Below w.heap.size w w' := by
  have hp1 := pickW long 16 hl0 hl1 (by omega) (by omega)
  have hr1 := pk_range (c := long) (n := 16) (by omega)
  have hp2 := pickW v 1000000 hv0 hv1 (by omega) (by omega)
  have hr2 := pk_range (c := v) (n := 1000000) (by omega)
  obtain ⟨q, hq⟩ : ∃ q : Nat, pk long 16 = (q : Int) := ⟨(pk long 16).toNat, by omega⟩
  obtain ⟨x, hx⟩ : ∃ x : Nat, pk v 1000000 = (x : Int) := ⟨(pk v 1000000).toNat, by omega⟩
  rw [hq] at hp1 hr1
  rw [hx] at hp2 hr2
  have hq15 : q ≤ 15 := by omega
  have hx6 : x ≤ 999999 := by omega
  refine counts_walk s u long v q x hq15 hx6 (cfg cz) (fun n => Bytes.made Bytes.nam 16 (Bytes.B n) = true) (fun t => Bytes.made Bytes.let_ 8 (Bytes.B t) = true) w Tab (fun _ _ h hb => h.below hb) ht hp1 hp2 ?_ ?_ digits_of ?_ fit0 ?_
  · intro w
    exact (letters_of (n := q + 1) (by omega) hs (by omega) (P := fun n => Bytes.made Bytes.nam 16 (Bytes.B n) = true) (fun z h1 h2 => made_of (by intro e; rw [e] at h1; simp at h1) (by omega) fun c hc => allL_nam c (h2 c hc)) w).mono fun e w' ⟨⟨z, h1, h2, h3⟩, hb⟩ => ⟨⟨z, h1, by omega, h3⟩, hb⟩
  · exact letters_of (n := 3) (by omega) hu rfl (P := fun n => Bytes.made Bytes.let_ 8 (Bytes.B n) = true) (fun z h1 h2 => made_of (by intro e; rw [e] at h1; simp at h1) (by omega) fun c hc => allL_let c (h2 c hc))
  · intro n t line hn ht' hls hB w hT
    have hr : rd (Bytes.B line) = some (Wm.nSmp (Bytes.B n) (Bytes.B t) x) := by
      rw [hB]
      exact Wm.rd_nLine hn ht' hx6
    have hpl : plainOf (Wm.nSmp (Bytes.B n) (Bytes.B t) x) = Bytes.B line := by
      rw [hB]
      exact (Wm.nLine_is (Bytes.B n) (Bytes.B t) x).symm
    refine (parse line (by omega) w hT).mono ?_
    rintro e w' ⟨⟨z, rfl, hz⟩, hb⟩
    rw [parsed_some hr] at hz ⊢
    have hze : z = line := same_text (by rw [hz, hpl])
    rw [hze]
    exact ⟨rfl, hb⟩
  · intro n t line hn ht' hls hB w hT
    have hr : rd (Bytes.B line) = some (Wm.nSmp (Bytes.B n) (Bytes.B t) x) := by
      rw [hB]
      exact Wm.rd_nLine hn ht' hx6
    refine (sumOne 0 line w hT (by omega) (rd_nl hr) (by omega) (by omega)).mono ?_
    rintro e w' ⟨⟨z, h1, hz⟩, hb⟩
    refine ⟨⟨z, h1, ?_⟩, hb⟩
    rw [hz, ← wsum_one (limOf cz) (rd_nl hr), hB]
    have := Wm.counts_text (L := limOf cz) cz_series hn ht' hx6
    rw [head0] at this
    exact this

end Go.Proofs.YtenegfafjjknoaaGreatDoor.Kf
