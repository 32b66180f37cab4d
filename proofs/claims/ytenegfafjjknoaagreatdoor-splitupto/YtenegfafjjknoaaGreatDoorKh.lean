/- P5: it does not matter how lines are laid into datagrams, nor in how many shards: the law, walked. -/
import Derived.Test.YtenegfafjjknoaaGreatDoorKg
namespace Go.Proofs.YtenegfafjjknoaaGreatDoor.Kf
open Go.RowKit Mem Foot Wi Wm Kr Opts Plainw Hn

/-- The two configurations of the law. -/
def mix (p q : Fin 6 → Int) : Fin 6 → Int
  | 0 => q 0
  | 1 => p 1
  | 2 => p 2
  | 3 => p 3
  | 4 => q 4
  | 5 => q 5

theorem mix_ok {p q : Fin 6 → Int} (hp : COk p) (hq : COk q) : COk (mix p q) := ⟨hq.w, hp.s, hp.t, hp.b, hq.n, hq.g⟩
theorem mix_lim (p q : Fin 6 → Int) : limOf (mix p q) = limOf p := rfl

theorem rowTwo (w : World) (x y : ByteArray) : Row (w.alloc (.cells #[.string x, .string y] 9)) (.slice (some ⟨w.heap.size, 0, none⟩) 2 2) [Bytes.B x, Bytes.B y] := by
  refine ⟨_, 2, rfl, Nat.le_refl _, fun j z hz => ⟨w.heap.size, 0, rfl, by simp, ?_⟩⟩
  have h := Sits.new w 9 #[.string x, .string y]
  match j, hz with
  | 0, hz => cases hz; exact h.cell 0 _ rfl
  | 1, hz => cases hz; exact h.cell 1 _ rfl

theorem rowFour (w : World) (x y z u : ByteArray) : Row (w.alloc (.cells #[.string x, .string y, .string z, .string u] 9)) (.slice (some ⟨w.heap.size, 0, none⟩) 4 4) [Bytes.B x, Bytes.B y, Bytes.B z, Bytes.B u] := by
  refine ⟨_, 4, rfl, Nat.le_refl _, fun j v hv => ⟨w.heap.size, 0, rfl, by simp, ?_⟩⟩
  have h := Sits.new w 9 #[.string x, .string y, .string z, .string u]
  match j, hv with
  | 0, hv => cases hv; exact h.cell 0 _ rfl
  | 1, hv => cases hv; exact h.cell 1 _ rfl
  | 2, hv => cases hv; exact h.cell 2 _ rfl
  | 3, hv => cases hv; exact h.cell 3 _ rfl

theorem nls_le (d : List UInt8) : Lib.countByte d 10 ≤ d.length := List.count_le_length

set_option maxRecDepth 100000 in
set_option maxHeartbeats 4000000 in
theorem split (c d : Fin 6 → Int) (hc : ∀ i, -9223372036854775808 ≤ c i ∧ c i ≤ 9223372036854775807) (hd : ∀ i, -9223372036854775808 ≤ d i ∧ d i ≤ 9223372036854775807) (num : Int) (hn0 : -9223372036854775808 ≤ num) (hn1 : num ≤ 9223372036854775807) (a b : ByteArray) (ha : a.size ≤ 1048576) (hb : b.size ≤ 1048576) (w : World) (ht : Tab w) :
    Calls Tryz.prog 7 #[cfg c, cfg d, .int .i64 num, .string a, .string b] w fun e w' => e = .returned (.bool true) ∧ Below w.heap.size w w' := by
  have hS0 := (Sits.new w 31 #[.int .i64 (c 0), .int .i64 (c 1), .int .i64 (c 2), .int .i64 (c 3), .int .i64 (c 4), .int .i64 (c 5)]).alloc (.cells #[.int .i64 (d 0), .int .i64 (d 1), .int .i64 (d 2), .int .i64 (d 3), .int .i64 (d 4), .int .i64 (d 5)] 31)
  have hD0 := Sits.new (w.alloc (.cells #[.int .i64 (c 0), .int .i64 (c 1), .int .i64 (c 2), .int .i64 (c 3), .int .i64 (c 4), .int .i64 (c 5)] 31)) 31 #[.int .i64 (d 0), .int .i64 (d 1), .int .i64 (d 2), .int .i64 (d 3), .int .i64 (d 4), .int .i64 (d 5)]
  rw [World.size_alloc] at hD0
  have HB0 := hide ((below_new (w := w) (.cells #[.int .i64 (c 0), .int .i64 (c 1), .int .i64 (c 2), .int .i64 (c 3), .int .i64 (c 4), .int .i64 (c 5)] 31)).alloc (by simp) (.cells #[.int .i64 (d 0), .int .i64 (d 1), .int .i64 (d 2), .int .i64 (d 3), .int .i64 (d 4), .int .i64 (d 5)] 31))
  have HF1 := hide (fitW c hc)
  have HF2 := hide (fitW d hd)
  have HOP := hide (fit_ok c)
  have HOQ := hide (fit_ok d)
  have HT := hide ht
  generalize fitc c = p at *
  generalize fitc d = q at *
  clear hc hd ht
  unfold cfg at HF1 HF2 ⊢
  go_enter Tryz.func7, Tryz.ntmps7
  go_wp2_with fail
  generalize (w.alloc (.cells #[.int .i64 (c 0), .int .i64 (c 1), .int .i64 (c 2), .int .i64 (c 3), .int .i64 (c 4), .int .i64 (c 5)] 31)).alloc (.cells #[.int .i64 (d 0), .int .i64 (d 1), .int .i64 (d 2), .int .i64 (d 3), .int .i64 (d 4), .int .i64 (d 5)] 31) = w0 at *
  obtain ⟨B, hBe⟩ : ∃ B, w.heap.size = B := ⟨_, rfl⟩
  rw [hBe] at hS0 hD0
  rw [hBe]
  clear hBe
  have HD0 := hide hD0
  obtain ⟨c0, c1, c2, c3, c4, c5⟩ := cells6 hS0
  clear hS0 hD0
  go_wp2_with fail
  refine (HF1.out w0).mono ?_
  rintro e w1 ⟨rfl, hb1⟩
  have HB1 := hide (HB0.out.trans (hb1.mono HB0.out.size))
  have HP2 := hide (Sits.new w1 31 #[.int .i64 (p 0), .int .i64 (p 1), .int .i64 (p 2), .int .i64 (p 3), .int .i64 (p 4), .int .i64 (p 5)])
  have HD2 := hide ((HD0.out.below hb1 HD0.out.lt).alloc (.cells #[.int .i64 (p 0), .int .i64 (p 1), .int .i64 (p 2), .int .i64 (p 3), .int .i64 (p 4), .int .i64 (p 5)] 31))
  have HB2 := hide (HB1.out.alloc HB1.out.size (.cells #[.int .i64 (p 0), .int .i64 (p 1), .int .i64 (p 2), .int .i64 (p 3), .int .i64 (p 4), .int .i64 (p 5)] 31))
  obtain ⟨P, hP⟩ : ∃ P, w1.heap.size = P := ⟨_, rfl⟩
  rw [hP] at HP2
  clear c0 c1 c2 c3 c4 c5 hb1
  go_upto_region 2 with fail
  generalize w1.alloc (.cells #[.int .i64 (p 0), .int .i64 (p 1), .int .i64 (p 2), .int .i64 (p 3), .int .i64 (p 4), .int .i64 (p 5)] 31) = w2 at *
  clear hP
  obtain ⟨d0, d1, d2, d3, d4, d5⟩ := cells6 HD2.out
  go_wp2_with fail
  refine (HF2.out w2).mono ?_
  rintro e w3 ⟨rfl, hb3⟩
  have HB3 := hide (HB2.out.trans (hb3.mono HB2.out.size))
  have HQ4 := hide (Sits.new w3 31 #[.int .i64 (q 0), .int .i64 (q 1), .int .i64 (q 2), .int .i64 (q 3), .int .i64 (q 4), .int .i64 (q 5)])
  have HP3 := hide (HP2.out.below hb3 HP2.out.lt)
  have HP4 := hide (HP3.out.alloc (.cells #[.int .i64 (q 0), .int .i64 (q 1), .int .i64 (q 2), .int .i64 (q 3), .int .i64 (q 4), .int .i64 (q 5)] 31))
  have HB4 := hide (HB3.out.alloc HB3.out.size (.cells #[.int .i64 (q 0), .int .i64 (q 1), .int .i64 (q 2), .int .i64 (q 3), .int .i64 (q 4), .int .i64 (q 5)] 31))
  have HPQ := hide (show P ≠ w3.heap.size from Nat.ne_of_lt HP3.out.lt)
  have HQL := hide (show w.heap.size ≤ w3.heap.size from HB3.out.size)
  obtain ⟨Q, hQ⟩ : ∃ Q, w3.heap.size = Q := ⟨_, rfl⟩
  rw [hQ] at HQ4 HPQ HQL
  clear d0 d1 d2 d3 d4 d5 hb3
  go_upto_region 3 with fail
  generalize w3.alloc (.cells #[.int .i64 (q 0), .int .i64 (q 1), .int .i64 (q 2), .int .i64 (q 3), .int .i64 (q 4), .int .i64 (q 5)] 31) = w4 at *
  clear hQ
  have a1 : w4.cell? ⟨P, 1, none⟩ = some (.int .i64 (p 1)) := HP4.out.cell 1 _ rfl
  have f1 := HQ4.out.frozen 1
  have b1 : w4.cell? ⟨Q, 1, none⟩ = some (.int .i64 (q 1)) := HQ4.out.cell 1 _ rfl
  have HQ5 := hide (show Sits (w4.setCell ⟨Q, 1, none⟩ (.int .i64 (p 1))) Q 31 #[.int .i64 (q 0), .int .i64 (p 1), .int .i64 (q 2), .int .i64 (q 3), .int .i64 (q 4), .int .i64 (q 5)] from HQ4.out.set 1 (.int .i64 (p 1)))
  have HP5 := hide (show Sits (w4.setCell ⟨Q, 1, none⟩ (.int .i64 (p 1))) P 31 #[.int .i64 (p 0), .int .i64 (p 1), .int .i64 (p 2), .int .i64 (p 3), .int .i64 (p 4), .int .i64 (p 5)] from (Below.heap_setCell _ _ _ _ HPQ.out).trans HP4.out)
  have HB5 := hide (HB4.out.setCell (p := ⟨Q, 1, none⟩) HQL.out (.int .i64 (p 1)))
  go_upto_region 4 with fail
  clear a1 f1 b1
  generalize w4.setCell ⟨Q, 1, none⟩ (.int .i64 (p 1)) = w5 at *
  have a2 : w5.cell? ⟨P, 2, none⟩ = some (.int .i64 (p 2)) := HP5.out.cell 2 _ rfl
  have f2 := HQ5.out.frozen 2
  have b2 : w5.cell? ⟨Q, 2, none⟩ = some (.int .i64 (q 2)) := HQ5.out.cell 2 _ rfl
  have HQ6 := hide (show Sits (w5.setCell ⟨Q, 2, none⟩ (.int .i64 (p 2))) Q 31 #[.int .i64 (q 0), .int .i64 (p 1), .int .i64 (p 2), .int .i64 (q 3), .int .i64 (q 4), .int .i64 (q 5)] from HQ5.out.set 2 (.int .i64 (p 2)))
  have HP6 := hide (show Sits (w5.setCell ⟨Q, 2, none⟩ (.int .i64 (p 2))) P 31 #[.int .i64 (p 0), .int .i64 (p 1), .int .i64 (p 2), .int .i64 (p 3), .int .i64 (p 4), .int .i64 (p 5)] from (Below.heap_setCell _ _ _ _ HPQ.out).trans HP5.out)
  have HB6 := hide (HB5.out.setCell (p := ⟨Q, 2, none⟩) HQL.out (.int .i64 (p 2)))
  go_upto_region 5 with fail
  clear a2 f2 b2
  generalize w5.setCell ⟨Q, 2, none⟩ (.int .i64 (p 2)) = w6 at *
  have a3 : w6.cell? ⟨P, 3, none⟩ = some (.int .i64 (p 3)) := HP6.out.cell 3 _ rfl
  have f3 := HQ6.out.frozen 3
  have b3 : w6.cell? ⟨Q, 3, none⟩ = some (.int .i64 (q 3)) := HQ6.out.cell 3 _ rfl
  have HQ7 := hide (show Sits (w6.setCell ⟨Q, 3, none⟩ (.int .i64 (p 3))) Q 31 #[.int .i64 (q 0), .int .i64 (p 1), .int .i64 (p 2), .int .i64 (p 3), .int .i64 (q 4), .int .i64 (q 5)] from HQ6.out.set 3 (.int .i64 (p 3)))
  have HP7 := hide (show Sits (w6.setCell ⟨Q, 3, none⟩ (.int .i64 (p 3))) P 31 #[.int .i64 (p 0), .int .i64 (p 1), .int .i64 (p 2), .int .i64 (p 3), .int .i64 (p 4), .int .i64 (p 5)] from (Below.heap_setCell _ _ _ _ HPQ.out).trans HP6.out)
  have HB7 := hide (HB6.out.setCell (p := ⟨Q, 3, none⟩) HQL.out (.int .i64 (p 3)))
  go_upto_region 6 with fail
  clear a3 f3 b3
  generalize w6.setCell ⟨Q, 3, none⟩ (.int .i64 (p 3)) = w7 at *
  obtain ⟨p0, p1, p2, p3, p4, p5⟩ := cells6 HP7.out
  have has1 : (a ++ (⟨#[10]⟩ : ByteArray)).size ≤ 1048577 := by
    rw [Bytes.size_B, str_add, List.length_append, ← Bytes.size_B]
    show a.size + 1 ≤ _
    omega
  have hsm := sumW p HOP.out num _ _ _ (rowTwo w7 ((a ++ (⟨#[10]⟩ : ByteArray)) ++ b) ⟨#[110, 58, 49, 124, 99]⟩) ((HT.out.below HB7.out).below (below_new _)) ?hz1 ?hn1 (by simp) hn0 hn1
  case hz1 =>
    intro x hx
    simp only [List.mem_cons, List.not_mem_nil, or_false] at hx
    rcases hx with rfl | rfl
    · rw [str_add, List.length_append, ← Bytes.size_B, ← Bytes.size_B]
      omega
    · decide
  case hn1 =>
    have h1 := nls_le (Bytes.B ((a ++ (⟨#[10]⟩ : ByteArray)) ++ b))
    rw [str_add, List.length_append, ← Bytes.size_B, ← Bytes.size_B] at h1
    have h2 := nls_le (Bytes.B ⟨#[110, 58, 49, 124, 99]⟩)
    have h3 : (Bytes.B ⟨#[110, 58, 49, 124, 99]⟩).length = 5 := rfl
    rw [str_add] 
    simp only [nls]
    omega
  rw [str_add, str_add] at hsm
  unfold cfg at hsm
  have HSM := hide hsm
  clear hsm
  go_wp2_with fail
  refine HSM.out.mono ?_
  rintro e w8 ⟨⟨z1, rfl, hz1⟩, hb8⟩
  have HZ1 := hide hz1
  have HB78 := hide ((below_new (w := w7) (.cells #[.string ((a ++ (⟨#[10]⟩ : ByteArray)) ++ b), .string ⟨#[110, 58, 49, 124, 99]⟩] 9)).trans (hb8.mono (by simp)))
  have HB8 := hide (HB7.out.trans (HB78.out.mono HB7.out.size))
  have hlen : 27 ≤ z1.size := by
    rw [Bytes.size_B, hz1, wtext, List.length_append]
    have := whead_len num (wsum (limOf p) [Bytes.B a ++ Bytes.B ⟨#[10]⟩ ++ Bytes.B b, Bytes.B ⟨#[110, 58, 49, 124, 99]⟩]).rejects (wsum (limOf p) [Bytes.B a ++ Bytes.B ⟨#[10]⟩ ++ Bytes.B b, Bytes.B ⟨#[110, 58, 49, 124, 99]⟩]).drops
    omega
  have HQ8 := hide (HQ7.out.below HB78.out HQ7.out.lt)
  clear p0 p1 p2 p3 p4 p5 hz1 hb8
  obtain ⟨q0, q1, q2, q3, q4, q5⟩ := cells6 HQ8.out
  have hsm := sumW (mix p q) (mix_ok HOP.out HOQ.out) num _ _ _ (rowFour w8 a ⟨#[]⟩ b ⟨#[10, 10, 110, 58, 49, 124, 99, 10]⟩) ((HT.out.below HB8.out).below (below_new _)) ?hz2 ?hn2 (by simp) hn0 hn1
  case hz2 =>
    intro x hx
    simp only [List.mem_cons, List.not_mem_nil, or_false] at hx
    rcases hx with rfl | rfl | rfl | rfl
    · rw [← Bytes.size_B]
      omega
    · decide
    · rw [← Bytes.size_B]
      omega
    · decide
  case hn2 =>
    have h1 := nls_le (Bytes.B a)
    have h2 := nls_le (Bytes.B b)
    rw [← Bytes.size_B] at h1 h2
    have h3 := nls_le (Bytes.B ⟨#[10, 10, 110, 58, 49, 124, 99, 10]⟩)
    have h4 : (Bytes.B ⟨#[10, 10, 110, 58, 49, 124, 99, 10]⟩).length = 8 := rfl
    have h5 := nls_le (Bytes.B ⟨#[]⟩)
    have h6 : (Bytes.B ⟨#[]⟩).length = 0 := rfl
    simp only [nls]
    omega
  rw [mix_lim] at hsm
  have HSM2 := hide (show Calls _ _ #[.agg #[.int .i64 (q 0), .int .i64 (p 1), .int .i64 (p 2), .int .i64 (p 3), .int .i64 (q 4), .int .i64 (q 5)], .int .i64 num, _] _ _ from hsm)
  clear hsm
  go_wp2_with fail
  refine HSM2.out.mono ?_
  rintro e w9 ⟨⟨z2, rfl, hz2⟩, hb9⟩
  have hze : z2 = z1 := same_text (by
    rw [hz2, HZ1.out]
    refine congrArg (wtext num) ?_
    have h := split_same (limOf p) (Bytes.B a) (Bytes.B b) [110, 58, 49, 124, 99]
    exact h.symm)
  subst z2
  have HB9 := hide (HB8.out.trans (((below_new (w := w8) _).trans (hb9.mono (by simp))).mono HB8.out.size))
  have hlz : (20 : Int) < (z1.size : Int) := by omega
  clear hz2 hb9 q0 q1 q2 q3 q4 q5
  go_wp2_with fail
  go_ret
  exact ⟨rfl, HB9.out⟩

end Go.Proofs.YtenegfafjjknoaaGreatDoor.Kf
