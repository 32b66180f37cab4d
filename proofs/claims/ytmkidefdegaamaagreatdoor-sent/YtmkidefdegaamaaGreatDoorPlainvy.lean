/- The walk of a sample's plain form. -/
import Derived.Test.YtmkidefdegaamaaGreatDoorPlainw
import Derived.Test.YtmkidefdegaamaaGreatDoorWmy
namespace Go.Proofs.YtmkidefdegaamaaGreatDoor.Plainv
open Go.RowKit Bytes Nums Numw Mem Tags Tagw Opts Plain Readw Plainw
theorem joinTags (G cap : Nat) (ls : List (List UInt8)) (w : World) (hG1 : G < w.heap.size) (hG2 : ls.length ≤ cap) (hG3 : ∀ j x, ls[j]? = some x → w.cell? ⟨G, j, none⟩ = some (.string ⟨x.toArray⟩)) (hl : ls.length ≤ 140737488355328) (hz : (Lib.join ls [44]).length ≤ 140737488355328) :
    Calls Tryz.prog 150 #[.slice (some ⟨G, 0, none⟩) ls.length cap, .string ⟨#[44]⟩] w fun e w' => (∃ z, e = .returned (.string z) ∧ B z = Lib.join ls [44] ∧ z.size ≤ 140737488355328) ∧ Below w.heap.size w w' := by
  have em : (ls.map fun x => (⟨x.toArray⟩ : ByteArray)).map (fun x => x.data.toList) = ls := by
    rw [List.map_map]
    exact List.map_id ls
  have hj := Tryz.strings_Join G 0 cap (ls.map fun x => ⟨x.toArray⟩) ⟨#[44]⟩ w (fun j x hx => by
      rw [List.getElem?_map, Option.map_eq_some_iff] at hx
      obtain ⟨y, hy, rfl⟩ := hx
      rw [Nat.zero_add]
      exact hG3 j y hy) hG1 (by rw [List.length_map]; exact hl) (by rw [List.length_map]; exact hG2) (by rw [em]; exact hz)
  rw [List.length_map, em] at hj
  refine hj.mono fun e w' h => ?_
  obtain ⟨he, hb⟩ := h
  refine ⟨⟨_, he, rfl, ?_⟩, hb⟩
  rw [size_B]
  exact hz
theorem plainTags (nb kb wb : ByteArray) (g : Bool) (v r : Int) (lo : Nat) (ls : List (List UInt8)) (tv : Value) (w : World) (hst : Strs lo w tv ls) (hl : ls.length ≤ 140737488355328) (hz : (Lib.join ls [44]).length ≤ 140737488355328) :
    Calls Tryz.prog 165 #[.agg #[.string nb, .string kb, .bool g, .int .i64 v, .string wb, .int .i64 r, tv]] w fun e w' => (∃ z, e = .returned (.string z) ∧ B z = pt ls ∧ z.size ≤ 140737488355340) ∧ Below w.heap.size w w' := by
  rcases hst with ⟨rfl, rfl⟩ | ⟨G, cap, rfl, hG0, hG1, hG2, hG3⟩
  · go_enter Tryz.func165, Tryz.ntmps165
    go_wp2_with fail
    go_ret
    exact ⟨⟨_, rfl, rfl, by decide⟩, below_new _⟩
  · by_cases hn : ls = []
    · subst hn
      go_enter Tryz.func165, Tryz.ntmps165
      go_wp2_with fail
      go_ret
      exact ⟨⟨_, rfl, rfl, by decide⟩, below_new _⟩
    · have hn1 : 1 ≤ ls.length := by
        cases ls with
        | nil => exact absurd rfl hn
        | cons x l => simp
      have hj := joinTags G cap ls (w.alloc (.cells #[.string nb, .string kb, .bool g, .int .i64 v, .string wb, .int .i64 r, .slice (some ⟨G, 0, none⟩) ls.length cap] 172)) (by simp; omega) hG2 (fun j x hx => by
          rw [(below_new _).cell (p := ⟨G, j, none⟩) hG1]
          exact hG3 j x hx) hl hz
      have HJ := hide hj
      clear hj
      have hnz : ((ls.length : Int) == 0) = false := by
        simp only [beq_eq_false_iff_ne]
        omega
      go_enter Tryz.func165, Tryz.ntmps165
      go_wp2_with (go_at_call 150; refine HJ.out.mono ?_; rintro e w1 ⟨⟨z, rfl, hz1, hz2⟩, hb1⟩)
      go_ret
      refine ⟨⟨_, rfl, ?_, ?_⟩, (below_new _).trans (hb1.mono (by simp))⟩
      · rw [pt, if_neg hn, ← hz1]
        exact B_append _ _
      · rw [size_B]
        refine Nat.le_trans (Nat.le_of_eq (congrArg List.length (B_append _ _))) ?_
        rw [List.length_append, ← size_B z]
        show 2 + z.size ≤ _
        omega
end Go.Proofs.YtmkidefdegaamaaGreatDoor.Plainv
namespace Go.Proofs.YtmkidefdegaamaaGreatDoor.Ag
open Bytes Nums Vals Opts Tags Spl Plain
theorem dig_ofNat {d : Nat} (h : d < 10) : dig ((UInt8.ofNat (48 + d)).toNat : Int) = true ∧ ((UInt8.ofNat (48 + d)).toNat : Int) - 48 = d := by
  rw [UInt8.toNat_ofNat']
  refine ⟨dig_iff.2 ⟨?_, ?_⟩, ?_⟩ <;> omega
theorem dd_val : ∀ n : Nat, digs (Lib.decDigits n) = true ∧ val (Lib.decDigits n) = n := by
  intro n
  induction n using Nat.strongRecOn with
  | _ n ih =>
    rw [Lib.decDigits]
    by_cases h : n < 10
    · obtain ⟨h1, h2⟩ := dig_ofNat h
      rw [dif_pos h]
      refine ⟨by simp only [digs, List.all_cons, List.all_nil, Bool.and_true]; exact h1, ?_⟩
      show 0 * 10 + _ = _
      omega
    · rw [dif_neg h]
      obtain ⟨a, b⟩ := ih (n / 10) (by omega)
      obtain ⟨h1, h2⟩ := dig_ofNat (show n % 10 < 10 by omega)
      refine ⟨?_, ?_⟩
      · unfold digs at a ⊢
        rw [List.all_append, a]
        simp only [List.all_cons, List.all_nil, Bool.and_true, Bool.true_and]
        exact h1
      · rw [val_snoc, b, h2]
        omega
theorem dd_ne (n : Nat) : Lib.decDigits n ≠ [] := by
  rw [Lib.decDigits]
  split <;> simp
theorem digs_made {l : List UInt8} {most : Nat} (h : digs l = true) (h0 : l ≠ []) (hl : l.length ≤ most) : made dig most l = true := by
  unfold made
  unfold digs at h
  rw [h]
  cases l with
  | nil => exact absurd rfl h0
  | cons a l =>
    simp only [List.isEmpty_cons, Bool.not_false, Bool.true_and, Bool.and_true, decide_eq_true_eq]
    exact_mod_cast hl
theorem digs_not {l : List UInt8} (h : digs l = true) {c : UInt8} (hc : dig (c.toNat : Int) = false) : c ∉ l := by
  intro hm
  unfold digs at h
  rw [List.all_eq_true] at h
  have := h c hm
  rw [hc] at this
  cases this
theorem has_not {l : List UInt8} {c : UInt8} (h : c ∉ l) : has c l = false := by
  unfold has
  simpa using h
theorem has_mid {a b : List UInt8} {c : UInt8} : has c (a ++ c :: b) = true := by
  unfold has
  simp
set_option maxRecDepth 100000 in
theorem dec_three : ∀ r : Fin 1000, r.val = 0 ∨ (dec (Lib.trimRightB [UInt8.ofNat (48 + r.val / 100), UInt8.ofNat (48 + r.val / 10 % 10), UInt8.ofNat (48 + r.val % 10)] 48) = some (r.val : Int) ∧ digs (Lib.trimRightB [UInt8.ofNat (48 + r.val / 100), UInt8.ofNat (48 + r.val / 10 % 10), UInt8.ofNat (48 + r.val % 10)] 48) = true) := by decide +kernel
theorem dd_three {r : Nat} (h : r < 1000) : (Lib.decDigits (1000 + r)).drop 1 = [UInt8.ofNat (48 + r / 100), UInt8.ofNat (48 + r / 10 % 10), UInt8.ofNat (48 + r % 10)] := by
  rw [Lib.decDigits, dif_neg (by omega), Lib.decDigits, dif_neg (by omega), Lib.decDigits, dif_neg (by omega), Lib.decDigits_one (by omega)]
  simp only [List.append_assoc, List.singleton_append]
  have e1 : (1000 + r) / 10 / 10 % 10 = r / 100 := by omega
  have e2 : (1000 + r) / 10 % 10 = r / 10 % 10 := by omega
  have e3 : (1000 + r) % 10 = r % 10 := by omega
  rw [e1, e2, e3]
  rfl
theorem dec_zero' : dec [48] = some 0 := by decide +kernel
/-- A number's plain form: it is read as the number; its bytes are digits and a point. -/
theorem num_wn {a : Nat} (h : a ≤ 999999999) : num (wnAbs a) = some (a : Int) ∧ (∀ c ∈ wnAbs a, dig (c.toNat : Int) = true ∨ c = 46) ∧ wnAbs a ≠ [] ∧ (∃ c l, wnAbs a = c :: l ∧ dig (c.toNat : Int) = true) := by
  obtain ⟨hd, hv⟩ := dd_val (a / 1000)
  have hl : (Lib.decDigits (a / 1000)).length ≤ 6 := by
    rw [Lib.decDigits_length]
    exact nd_le 5 _ (by omega)
  have hm := digs_made hd (dd_ne _) hl
  have hno : (46 : UInt8) ∉ Lib.decDigits (a / 1000) := digs_not hd rfl
  have hall : ∀ l : List UInt8, digs l = true → ∀ c ∈ l, dig (c.toNat : Int) = true := fun l hl c hc => by
    unfold digs at hl
    rw [List.all_eq_true] at hl
    exact hl c hc
  have hhead : ∀ r : List UInt8, ∃ c l, Lib.decDigits (a / 1000) ++ r = c :: l ∧ dig (c.toNat : Int) = true := fun r => by
    cases e : Lib.decDigits (a / 1000) with
    | nil => exact absurd e (dd_ne _)
    | cons c l => exact ⟨c, l ++ r, rfl, hall _ hd c (by rw [e]; exact List.mem_cons_self ..)⟩
  unfold wnAbs
  by_cases h0 : a % 1000 = 0
  · rw [if_pos h0, List.append_nil]
    refine ⟨?_, fun c hc => Or.inl (hall _ hd c hc), dd_ne _, by simpa using hhead []⟩
    have hf : fore 46 (Lib.decDigits (a / 1000)) = Lib.decDigits (a / 1000) := Wm.fore_all hno
    rw [num_plain (by rw [hf]; exact hm) (has_not hno), dec_zero', hf, hv]
    simp
    omega
  · rw [if_neg h0, dd_three (by omega)]
    obtain ⟨hdec, hdg⟩ := (dec_three ⟨a % 1000, by omega⟩).resolve_left h0
    have hf : ∀ r, fore 46 (Lib.decDigits (a / 1000) ++ 46 :: r) = Lib.decDigits (a / 1000) := fun r => Wm.fore_append hno
    refine ⟨?_, fun c hc => ?_, by simp, hhead _⟩
    · rw [num_point (by rw [hf]; exact hm) has_mid, Wm.aft_append hno, hdec, hf, hv]
      simp
      omega
    · rcases List.mem_append.1 hc with hc | hc
      · exact Or.inl (hall _ hd c hc)
      · rcases List.mem_cons.1 hc with hc | hc
        · exact Or.inr hc
        · exact Or.inl (hall _ hdg c hc)
/-! ### Values -/
theorem sg_none (l : List UInt8) : sg [] l = [] := by
  unfold sg
  split <;> simp [has]
theorem wn_nonneg {v : Int} (h : 0 ≤ v) : wn v = wnAbs v.natAbs := by
  unfold wn
  rw [if_neg (by omega), List.nil_append]
/-- A sign that may stand there. -/
theorem signed_plain {t : List UInt8} {v : Int} (h0 : 0 ≤ v) (h1 : v ≤ 999999999) (ht : ∀ c ∈ t, dig (c.toNat : Int) = false) : signed t (wn v) = some ([], v) := by
  obtain ⟨hn, _, _, c, l, hc, hd⟩ := num_wn (a := v.natAbs) (by omega)
  rw [wn_nonneg h0]
  have e : sg t (wnAbs v.natAbs) = [] := by
    rw [hc]
    unfold sg
    have : has c t = false := has_not fun hm => by rw [ht c hm] at hd; cases hd
    simp [this]
  unfold signed
  rw [e]
  simp only [List.length_nil, List.drop_zero, hn]
  simp
  omega
/-! ### Rates -/
/-! ### Tags -/
/-! ### Lines -/
end Go.Proofs.YtmkidefdegaamaaGreatDoor.Ag
