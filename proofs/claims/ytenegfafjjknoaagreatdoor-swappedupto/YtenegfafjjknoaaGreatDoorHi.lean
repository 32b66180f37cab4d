/- Numbers written; a timer's text. -/
import Derived.Test.YtenegfafjjknoaaGreatDoorHs
import Derived.Test.YtenegfafjjknoaaGreatDoorPlainw
import Derived.Laws.MakeOwn
namespace Go.Proofs.YtenegfafjjknoaaGreatDoor.Hi
open Go.RowKit Go.Maps Mem Foot Im Wm Hk Hb Plainw

theorem dd_len20 {u : Nat} (h : u < 10 ^ 19) : (Lib.decDigits u).length ≤ 19 := by
  rw [Lib.decDigits_length]
  exact Plain.nd_le 18 _ h

theorem itoa_len {n : Int} (h0 : -9223372036854775808 ≤ n) (h1 : n ≤ 9223372036854775807) : (Lib.itoa n).length ≤ 20 := by
  unfold Lib.itoa
  split
  · have := dd_len20 (u := n.natAbs) (by omega)
    simp only [List.length_cons]
    omega
  · have := dd_len20 (u := n.toNat) (by omega)
    omega

/-- strconv.Itoa at every number. -/
theorem itoaG (n : Int) (h0 : -9223372036854775808 ≤ n) (h1 : n ≤ 9223372036854775807) (w : World) (ht : Tab w) :
    Calls Tryz.prog 91 #[.int .i64 n] w fun e w' => (∃ z, e = .returned (.string z) ∧ Bytes.B z = Lib.itoa n ∧ z.size ≤ 20) ∧ Below w.heap.size w w' := by
  refine (Tryz.strconv_Itoa n h0 h1 w ht).mono fun e w' h => ?_
  obtain ⟨he, k, os, hw⟩ := h
  subst hw
  refine ⟨⟨_, he, rfl, ?_⟩, below_grow _ _ _⟩
  rw [Bytes.size_B]
  exact itoa_len h0 h1

theorem joinBlanks (G cap : Nat) (ls : List (List UInt8)) (w : World) (hG1 : G < w.heap.size) (hG2 : ls.length ≤ cap) (hG3 : ∀ j x, ls[j]? = some x → w.cell? ⟨G, j, none⟩ = some (.string ⟨x.toArray⟩)) (hl : ls.length ≤ 140737488355328) (hz : (Lib.join ls [32]).length ≤ 140737488355328) :
    Calls Tryz.prog 137 #[.slice (some ⟨G, 0, none⟩) ls.length cap, .string ⟨#[32]⟩] w fun e w' => (∃ z, e = .returned (.string z) ∧ Bytes.B z = Lib.join ls [32]) ∧ Below w.heap.size w w' := by
  have em : (ls.map fun x => (⟨x.toArray⟩ : ByteArray)).map (fun x => x.data.toList) = ls := by
    rw [List.map_map]
    exact List.map_id ls
  have hj := Tryz.strings_Join G 0 cap (ls.map fun x => ⟨x.toArray⟩) ⟨#[32]⟩ w (fun j x hx => by
      rw [List.getElem?_map, Option.map_eq_some_iff] at hx
      obtain ⟨y, hy, rfl⟩ := hx
      rw [Nat.zero_add]
      exact hG3 j y hy) hG1 (by rw [List.length_map]; exact hl) (by rw [List.length_map]; exact hG2) (by rw [em]; exact hz)
  rw [List.length_map, em] at hj
  refine hj.mono fun e w' h => ?_
  obtain ⟨he, hb⟩ := h
  exact ⟨⟨_, he, rfl⟩, hb⟩

/-- A new row of so many elements of one cell. -/
theorem made (t e : TypeId) (z : Value) (by_ : Nat) (ht : Tryz.prog.underlying t = some (.slice e)) (hi : (Tryz.prog.info? e).map (fun i => (i.zero, i.size, i.bytes)) = some (some z, 1, by_)) (n : Nat) (hb : by_ * n ≤ 281474976710656) (hn : n ≤ 281474976710656) (w : World) :
    ∃ cs : Array Value, cs.size = n ∧ (Instr.makeSlice t (.int .i64 (n : Int)) (.int .i64 (n : Int))).run Tryz.prog w = .ok (.slice (some ⟨w.heap.size, 0, none⟩) n n) (w.alloc (.cells cs e)) := by
  obtain ⟨i, hi, hz0, hz1, hz2⟩ := info_parts hi
  have h := run_make (P := Tryz.prog) w t e i z ht hi hz0 .i64 .i64 (n : Int) (n : Int) (by omega) (Int.le_refl _) (by
    rw [hz2]
    have h1 : ((by_ * n : Nat) : Int) ≤ 281474976710656 := by omega
    rwa [Int.natCast_mul] at h1) (by omega)
  rw [hz1, Nat.mul_one, Int.toNat_natCast] at h
  exact ⟨_, size_madeCells _ _, h⟩

theorem infoS : (Tryz.prog.info? 9).map (fun i => (i.zero, i.size, i.bytes)) = some (some (.string ⟨#[]⟩), 1, 16) := by kernel_rfl

set_option maxRecDepth 10000 in
set_option maxHeartbeats 4000000 in
theorem joined (g cap : Nat) (xs : List Int) (w : World) (ht : Tab w) (hg : g < w.heap.size) (hcap : xs.length ≤ cap) (hx : ∀ (j : Nat) x, xs[j]? = some x → w.cell? ⟨g, j, none⟩ = some (.int .i64 x)) (hr : ∀ x ∈ xs, -9223372036854775808 ≤ x ∧ x ≤ 9223372036854775807) (hn : xs.length = 8) :
    Calls Tryz.prog 194 #[.slice (some ⟨g, 0, none⟩) 8 cap] w fun e w' => (∃ z, e = .returned (.string z) ∧ Bytes.B z = Lib.join (xs.map Lib.itoa) [32]) ∧ Below w.heap.size w w' := by
  have HT := hide ht
  have HX := hide hx
  have HR := hide hr
  clear ht hx hr
  obtain ⟨cs0, hcs0, hmk⟩ := made 36 9 _ 16 Tryz.underlying36 infoS 8 (by omega) (by omega) w
  obtain ⟨G, hG⟩ : ∃ G, w.heap.size = G := ⟨_, rfl⟩
  have HS0 := hide (Sits.new w 9 cs0)
  have HB0 := hide (below_new (w := w) (.cells cs0 9))
  have HGE := hide hG
  rw [hG] at hmk HS0
  have hmk' : (Instr.makeSlice 36 (.int .i64 8) (.int .i64 8)).run Tryz.prog w = .ok (.slice (some ⟨G, 0, none⟩) 8 8) (w.alloc (.cells cs0 9)) := hmk
  clear hmk hG
  generalize w.alloc (.cells cs0 9) = w0 at *
  go_enter Tryz.func194, Tryz.ntmps194
  go_wp2_with fail
  go_loopw [11] (fun i wr => ∃ k : Nat, i = .int .i64 (k : Int) ∧ k ≤ 8 ∧ Hid (∃ cs : Array Value, Sits wr G 9 cs ∧ cs.size = 8 ∧ (∀ (j : Nat) x, j < k → xs[j]? = some x → cs[j]? = some (.string ⟨(Lib.itoa x).toArray⟩)) ∧ Below w.heap.size w wr)) (fun i _ => 8 - (intOf i).toNat)
  case atStart => exact ⟨0, rfl, by omega, cs0, HS0.out, hcs0, fun j x h => by omega, HB0.out⟩
  case round =>
    obtain ⟨k, rfl, hk, HI⟩ := hrel
    by_cases hk8 : k < 8
    · have hkz : (k : Int) < 8 := by omega
      obtain ⟨cs, hS, hsz, hdone, hB⟩ := HI.out
      obtain ⟨x, hxk⟩ : ∃ x, xs[k]? = some x := ⟨_, List.getElem?_eq_getElem (by omega)⟩
      have gc : wr.cell? ⟨g, k, none⟩ = some (.int .i64 x) := (hB.cell (p := ⟨g, k, none⟩) hg).trans (HX.out k x hxk)
      obtain ⟨r0, r1⟩ := HR.out x (List.mem_of_getElem? hxk)
      have htab : Tab wr := HT.out.below hB
      have hit := itoaG x r0 r1 wr htab
      have HS := hide hS
      have HDn := hide hdone
      have HB := hide hB
      have HXK := hide hxk
      have hcapk : k < cap := by omega
      clear hS hdone hB hxk htab r0 r1
      go_wp2_with fail
      refine hit.mono ?_
      clear hit
      rintro e w2 ⟨⟨z, rfl, hz, hzs⟩, hb2⟩
      have HZ := hide hz
      have HS2 := hide (HS.out.below hb2 HS.out.lt)
      have HB2 := hide (HB.out.trans (hb2.mono HB.out.size))
      have c0 := HS2.out.cell k (cs[k]'(by omega)) (by simp [hsz, hk8])
      have f0 := HS2.out.frozen k
      clear hz hb2 gc
      go_wp2_with fail
      go_roundw
      case rel =>
        refine ⟨k + 1, by go_num, by omega, _, HS2.out.set k _, by simp [hsz], fun j y hj hy => ?_, ?_⟩
        · by_cases e : j = k
          · subst e
            rw [HXK.out] at hy
            cases hy
            have : z = ⟨(Lib.itoa x).toArray⟩ := Bytes.B_inj (by rw [HZ.out]; rfl)
            rw [this]
            simp [hsz, hk8]
          · rw [Array.getElem?_setIfInBounds_ne (fun h => e h.symm)]
            exact HDn.out j y (by omega) hy
        · exact HB2.out.setCell (p := ⟨G, k, none⟩) (by have := HGE.out; simp; omega) _
      case measure => simp only [intOf]; omega
    · have hkz : ¬ (k : Int) < 8 := by omega
      have hk2 : k = 8 := by omega
      subst hk2
      obtain ⟨cs, hS, hsz, hdone, hB⟩ := HI.out
      have hlen : (xs.map Lib.itoa).length = 8 := by simpa using hn
      have hjn := joinBlanks G 8 (xs.map Lib.itoa) wr hS.lt (by omega) (fun j x hx => by
        rw [List.getElem?_map, Option.map_eq_some_iff] at hx
        obtain ⟨y, hy, rfl⟩ := hx
        have hj : j < xs.length := (List.getElem?_eq_some_iff.1 hy).1
        exact hS.cell j _ (hdone j y (by omega) hy)) (by omega) (by
        have : ∀ ls : List (List UInt8), (∀ x ∈ ls, x.length ≤ 20) → (Lib.join ls [32]).length ≤ 21 * ls.length := by
          intro ls
          induction ls with
          | nil => intro _; simp [Lib.join_nil]
          | cons x r ih =>
            intro hx
            have h1 := hx x (List.mem_cons_self ..)
            have h2 := ih fun y hy => hx y (List.mem_cons_of_mem _ hy)
            cases r with
            | nil =>
              rw [Lib.join_one]
              simp
              omega
            | cons y r =>
              have e : Lib.join (x :: y :: r) [32] = x ++ 32 :: Lib.join (y :: r) [32] := by simp [Lib.join]
              rw [e]
              simp only [List.length_append, List.length_cons] at h2 ⊢
              omega
        have := this (xs.map Lib.itoa) fun y hy => by
          obtain ⟨x, hx, rfl⟩ := List.mem_map.1 hy
          obtain ⟨r0, r1⟩ := HR.out x hx
          exact itoa_len r0 r1
        omega)
      rw [hlen] at hjn
      have HB := hide hB
      clear hS hdone hB hlen
      go_wp2_with fail
      refine hjn.mono ?_
      clear hjn
      rintro e w2 ⟨⟨z, rfl, hz⟩, hb2⟩
      have HZ := hide hz
      have HB2 := hide (HB.out.trans (hb2.mono HB.out.size))
      clear hz hb2
      go_wp2_with fail
      go_ret
      exact ⟨⟨z, rfl, HZ.out⟩, HB2.out⟩

end Go.Proofs.YtenegfafjjknoaaGreatDoor.Hi
