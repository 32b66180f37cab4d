/- A tag among others: the document's list, and its walk. -/
import Derived.Test.YtenegfafjjknoaaGreatDoorTagw
import Derived.Sort.Walk0
namespace Go.Proofs.YtenegfafjjknoaaGreatDoor.Refi
open Go.RowKit Bytes Numw Mem Tagw

/-- One tag more of the list. -/
def le' (t x : List UInt8) : Bool := Op.bytesLess t x || t == x
def step (t : List UInt8) (st : List (List UInt8) × Bool) (x : List UInt8) : List (List UInt8) × Bool :=
  ((if st.2 = false ∧ le' t x = true then st.1 ++ [t] else st.1) ++ (if x = t then [] else [x]), st.2 || le' t x)
def ins (t : List UInt8) (l : List (List UInt8)) : List (List UInt8) :=
  if (l.foldl (step t) ([], false)).2 then (l.foldl (step t) ([], false)).1 else (l.foldl (step t) ([], false)).1 ++ [t]

def enc (ls : List (List UInt8)) : List Value := ls.map fun x => .string ⟨x.toArray⟩

theorem enc_append (a b : List (List UInt8)) : enc (a ++ b) = enc a ++ enc b := List.map_append ..

theorem own_shape {w : World} {base : Nat} {v : Value} {n : Nat} {xs : List Value} (h : w.ownsRow base 9 1 v n xs) : ∃ ao cv, v = .slice ao n cv := by
  rcases h.2 with ⟨h1, h2⟩ | ⟨g, cap, cur, h1, _⟩
  · exact ⟨none, 0, by rw [h1, h2]⟩
  · exact ⟨_, _, h1⟩

theorem own_strs {w : World} {base : Nat} {v : Value} {ls : List (List UInt8)} (h : w.ownsRow base 9 1 v ls.length (enc ls)) : Strs base w v ls := by
  rcases h.2 with ⟨h1, h2⟩ | ⟨g, cap, cur, h1, h2, h3, h4, h5, h6, h7⟩
  · exact Or.inl ⟨List.eq_nil_of_length_eq_zero h2, h1⟩
  · have hlt : g < w.heap.size := (Array.getElem?_eq_some_iff.1 h3).1
    refine Or.inr ⟨g, cap, h1, h2, hlt, h4, fun j x hx => ?_⟩
    have hj : j < ls.length := (List.getElem?_eq_some_iff.1 hx).1
    have e : cur[j]? = some (.string ⟨x.toArray⟩) := by
      rw [← Array.getElem?_toList]
      have : (cur.toList.take (ls.length * 1))[j]? = (enc ls)[j]? := by rw [h7]
      rw [List.getElem?_take_of_lt (by omega)] at this
      rw [this, enc, List.getElem?_map, hx]
      rfl
    have hS : Sits w g 9 cur := h3
    exact hS.cell j _ e

theorem take_snoc {ls : List (List UInt8)} {k : Nat} {x : List UInt8} (h : ls[k]? = some x) (t : List UInt8) : (ls.take (k + 1)).foldl (step t) ([], false) = step t ((ls.take k).foldl (step t) ([], false)) x := by
  rw [List.take_add_one, h, Option.toList_some, List.foldl_append]
  rfl

theorem mk_B (s : ByteArray) : (⟨(B s).toArray⟩ : ByteArray) = s := Lib.mk_data s

theorem step_len (t : List UInt8) (l : List (List UInt8)) : ∀ st, (l.foldl (step t) st).1.length ≤ st.1.length + 2 * l.length := by
  induction l with
  | nil => intro st; simp
  | cons x l ih =>
    intro st
    rw [List.foldl_cons]
    have h := ih (step t st x)
    have h2 : (step t st x).1.length ≤ st.1.length + 2 := by
      simp only [step, List.length_append]
      split <;> split <;> simp
    simp only [List.length_cons]
    omega

theorem own_block {w : World} {base : Nat} {v : Value} {n : Nat} {xs : List Value} (h : w.ownsRow base 9 1 v n xs) : ∀ k, v.ownBlock = some k → base ≤ k := by
  intro k hk
  rcases h.2 with ⟨h1, _⟩ | ⟨g, cap, cur, h1, h2, _⟩
  · rw [h1] at hk
    cases hk
  · rw [h1] at hk
    cases hk
    exact h2

theorem own_more {w : World} {base : Nat} {v : Value} {acc : List (List UInt8)} {xb : ByteArray} {x : List UInt8} (hx : B xb = x) (h : w.ownsRow base 9 1 v (acc.length + 1) (enc acc ++ [.string xb])) : w.ownsRow base 9 1 v (acc ++ [x]).length (enc (acc ++ [x])) := by
  have e : enc (acc ++ [x]) = enc acc ++ [.string xb] := by
    rw [enc_append, ← hx]
    show enc acc ++ [Value.string ⟨(B xb).toArray⟩] = _
    rw [mk_B]
  rw [e, List.length_append]
  exact h

theorem below_more {w wr w2 : World} {base : Nat} {o : Obj} {v : Value} {n : Nat} {xs : List Value} (hb : Below base w wr) (hB : base ≤ wr.heap.size) (ho : wr.ownsRow base 9 1 v n xs) (hg : (wr.alloc o).grownBy w2 v.ownBlock) : Below base w w2 :=
  (hb.alloc hB o).grown hg (by simp; omega) (own_block ho)

theorem later {w w2 : World} {G k : Nat} {v : Value} (hb : Below w.heap.size w w2) (hG : G < w.heap.size) (h : w.cell? ⟨G, k, none⟩ = some v) : w2.cell? ⟨G, k, none⟩ = some v := by
  rw [hb.cell (p := ⟨G, k, none⟩) hG, h]

theorem own_back {w : World} {base : Nat} {v : Value} {acc : List (List UInt8)} {tb xb : ByteArray} (h : w.ownsRow base 9 1 v (acc.length + 1 + 1) (enc acc ++ [.string tb] ++ [.string xb])) : w.ownsRow base 9 1 v (acc.length + [B tb].length + 1) (enc acc ++ enc [B tb] ++ [.string xb]) := by
  have e : enc [B tb] = [.string tb] := by
    show [Value.string ⟨(B tb).toArray⟩] = _
    rw [mk_B]
  rw [e]
  exact h

theorem le_iff {tb xb : ByteArray} {x : List UInt8} (hx : B xb = x) : (Op.bytesLess tb.toList xb.toList || tb.toList == xb.toList) = le' (B tb) x := by
  rw [← hx, Lib.toList_data, Lib.toList_data]
  rfl

theorem eq_iff' {tb xb : ByteArray} {x : List UInt8} (hx : B xb = x) : (xb.toList == tb.toList) = (x == B tb) := by
  rw [← hx, Lib.toList_data, Lib.toList_data]
  rfl

theorem step_eq {t x : List UInt8} {acc : List (List UInt8)} {put l e : Bool} (hl : le' t x = l) (he : (x == t) = e) : step t (acc, put) x = ((if put = false ∧ l = true then acc ++ [t] else acc) ++ (if e = true then [] else [x]), put || l) := by
  subst hl
  subst he
  simp only [step, beq_iff_eq]

theorem ins_of {t : List UInt8} {ls acc : List (List UInt8)} {put : Bool} (h : (ls.take ls.length).foldl (step t) ([], false) = (acc, put)) : ins t ls = if put then acc else acc ++ [t] := by
  rw [List.take_length] at h
  rw [ins, h]

set_option maxHeartbeats 4000000 in
theorem insert_some (G cap : Nat) (ls : List (List UInt8)) (tb : ByteArray) (w : World) (hn : ls.length ≤ 1000) (hG : G < w.heap.size) (_hc : ls.length ≤ cap) (hcell : ∀ j x, ls[j]? = some x → w.cell? ⟨G, j, none⟩ = some (.string ⟨x.toArray⟩)) :
    Calls Tryz.prog 84 #[.slice (some ⟨G, 0, none⟩) ls.length cap, .string tb] w fun e w' => (∃ v, e = .returned v ∧ Strs w.heap.size w' v (ins (B tb) ls)) ∧ Below w.heap.size w w' := by
  obtain ⟨i0, hi, hz0, hz1, hz2⟩ := info_parts Split.hi9
  have HC := hide hcell
  clear hcell
  go_enter Tryz.func84, Tryz.ntmps84
  go_wp2_with fail
  go_loopw [5, 6, 7] (fun s5 s6 s7 wr => ∃ (k : Nat) (acc : List (List UInt8)) (put : Bool) (ao : Option Addr) (cv : Nat), s5 = .slice ao acc.length cv ∧ s6 = .bool put ∧ s7 = .int .i64 k ∧ k ≤ ls.length ∧ acc.length ≤ 2 * k ∧ wr.ownsRow w.heap.size 9 1 (.slice ao acc.length cv) acc.length (enc acc) ∧ Below w.heap.size w wr ∧ Hid ((ls.take k).foldl (step (B tb)) ([], false) = (acc, put)))
    (fun _ _ s7 _ => ls.length - (intOf s7).toNat)
  case atStart => exact ⟨0, [], false, none, 0, rfl, rfl, rfl, Nat.zero_le _, by simp, World.ownsRow_nil _ _ _ _, Below.refl _ _, rfl⟩
  case round =>
    obtain ⟨k, acc, put, ao, cv, rfl, rfl, rfl, hk, hal, hown, hbel, HF⟩ := hrel
    have hsize := hbel.size
    by_cases hlt : k < ls.length
    · obtain ⟨x, hx⟩ : ∃ x, ls[k]? = some x := ⟨_, List.getElem?_eq_getElem hlt⟩
      obtain ⟨xb, hxb⟩ : ∃ xb : ByteArray, (⟨x.toArray⟩ : ByteArray) = xb := ⟨_, rfl⟩
      have hBx : B xb = x := by
        rw [← hxb]
        rfl
      have hcx : wr.cell? ⟨G, k, none⟩ = some (.string xb) := by
        rw [hbel.cell (p := ⟨G, k, none⟩) hG, HC.out k x hx, hxb]
      have hc0 : w.cell? ⟨G, k, none⟩ = some (.string xb) := by
        rw [HC.out k x hx, hxb]
      have HC0 := hide hc0
      clear hc0
      have hltz : (k : Int) < (ls.length : Int) := by omega
      have hst := take_snoc hx (B tb)
      rw [HF.out] at hst
      have HST := hide hst
      have HBX := hide hBx
      clear hx hxb hBx hst HF
      have hsz3 := hsize
      cases hle : (Op.bytesLess tb.toList xb.toList || tb.toList == xb.toList) with
      | true =>
        cases heq : (xb.toList == tb.toList) with
        | true =>
          have hne : (xb.toList != tb.toList) = false := by simp [bne, heq]
          cases put with
          | true =>
            go_wp2_with fail
            go_roundw
            case rel => exact ⟨k + 1, acc, true, ao, cv, rfl, rfl, by go_num, by omega, by omega, hown, hbel, hide (by rw [HST.out, step_eq ((le_iff HBX.out).symm.trans hle) ((eq_iff' HBX.out).symm.trans heq)]; simp)⟩
            case measure => simp [intOf]; omega
          | false =>
            go_wp2_with (at_builtin; refine wpList_append_own _ rfl _ _ 36 rfl w.heap.size 9 i0 (.string ByteArray.empty) 1 16 Tryz.underlying36 hi hz0 hz1 hz2 rfl (by decide) _ _ _ rfl (hown.alloc _) ⟨wr.heap.size, 0, none⟩ 1 1 [.string tb] rfl rfl (cell_one_new _ _ _) (fun x hx => by simp at hx; subst hx; rfl) (by unfold maxLen; omega) (by omega) (by simp; omega) ?_; intro v2 w2 hown2 hg2 hn2; have hb2 := below_more hbel hsize hown hg2; have hcx2 := later hb2 hG HC0.out; have hsz2 := hb2.size)
            obtain ⟨ao2, cv2, rfl⟩ := own_shape hown2
            go_roundw
            case rel => exact ⟨k + 1, acc ++ [B tb], true, ao2, cv2, by simp, rfl, by go_num, by omega, by simp; omega, by have h := own_more (x := B tb) rfl hown2; rw [List.length_append] at h ⊢; exact h, below_more hbel hsize hown hg2, hide (by rw [HST.out, step_eq ((le_iff HBX.out).symm.trans hle) ((eq_iff' HBX.out).symm.trans heq)]; simp)⟩
            case measure => simp [intOf]; omega
        | false =>
          have hne : (xb.toList != tb.toList) = true := by simp [bne, heq]
          cases put with
          | true =>
            go_wp2_with (at_builtin; refine wpList_append_own _ rfl _ _ 36 rfl w.heap.size 9 i0 (.string ByteArray.empty) 1 16 Tryz.underlying36 hi hz0 hz1 hz2 rfl (by decide) _ _ _ rfl (hown.alloc _) ⟨wr.heap.size, 0, none⟩ 1 1 [.string xb] rfl rfl (cell_one_new _ _ _) (fun x hx => by simp at hx; subst hx; rfl) (by unfold maxLen; omega) (by omega) (by simp; omega) ?_; intro v3 w3 hown3 hg3 hn3)
            obtain ⟨ao2, cv2, rfl⟩ := own_shape hown3
            go_roundw
            case rel => exact ⟨k + 1, acc ++ [x], true, ao2, cv2, by simp, rfl, by go_num, by omega, by simp; omega, by have h := own_more HBX.out hown3; rw [List.length_append] at h ⊢; exact h, below_more hbel hsize hown hg3, hide (by rw [HST.out, step_eq ((le_iff HBX.out).symm.trans hle) ((eq_iff' HBX.out).symm.trans heq)]; simp)⟩
            case measure => simp [intOf]; omega
          | false =>
            go_wp2_with (first | (at_builtin; refine wpList_append_own _ rfl _ _ 36 rfl w.heap.size 9 i0 (.string ByteArray.empty) 1 16 Tryz.underlying36 hi hz0 hz1 hz2 rfl (by decide) _ _ _ rfl (hown2.alloc _) ⟨w2.heap.size, 0, none⟩ 1 1 [.string xb] rfl rfl (cell_one_new _ _ _) (fun x hx => by simp at hx; subst hx; rfl) (by unfold maxLen; omega) (by omega) (by simp; omega) ?_; intro v3 w3 hown3 hg3 hn3) | (at_builtin; refine wpList_append_own _ rfl _ _ 36 rfl w.heap.size 9 i0 (.string ByteArray.empty) 1 16 Tryz.underlying36 hi hz0 hz1 hz2 rfl (by decide) _ _ _ rfl (hown.alloc _) ⟨wr.heap.size, 0, none⟩ 1 1 [.string tb] rfl rfl (cell_one_new _ _ _) (fun x hx => by simp at hx; subst hx; rfl) (by unfold maxLen; omega) (by omega) (by simp; omega) ?_; intro v2 w2 hown2 hg2 hn2; have hb2 := below_more hbel hsize hown hg2; have hcx2 := later hb2 hG HC0.out; have hsz2 := hb2.size))
            obtain ⟨ao2, cv2, rfl⟩ := own_shape hown3
            go_roundw
            case rel => exact ⟨k + 1, acc ++ [B tb] ++ [x], true, ao2, cv2, by simp, rfl, by go_num, by omega, by simp; omega, by have h := own_more HBX.out (acc := acc ++ [B tb]) (by have h2 := hown3; rw [enc_append, List.length_append]; exact own_back h2); rw [List.length_append, List.length_append] at h ⊢; exact h, below_more hb2 hb2.size hown2 hg3, hide (by rw [HST.out, step_eq ((le_iff HBX.out).symm.trans hle) ((eq_iff' HBX.out).symm.trans heq)]; simp)⟩
            case measure => simp [intOf]; omega
      | false =>
        cases heq : (xb.toList == tb.toList) with
        | true =>
          exfalso
          rw [Bool.or_eq_false_iff] at hle
          have h1 := hle.2
          rw [beq_eq_false_iff_ne] at h1
          exact h1 (by simpa using (beq_iff_eq.1 heq).symm)
        | false =>
          have hne : (xb.toList != tb.toList) = true := by simp [bne, heq]
          cases put with
          | true =>
            go_wp2_with (at_builtin; refine wpList_append_own _ rfl _ _ 36 rfl w.heap.size 9 i0 (.string ByteArray.empty) 1 16 Tryz.underlying36 hi hz0 hz1 hz2 rfl (by decide) _ _ _ rfl (hown.alloc _) ⟨wr.heap.size, 0, none⟩ 1 1 [.string xb] rfl rfl (cell_one_new _ _ _) (fun x hx => by simp at hx; subst hx; rfl) (by unfold maxLen; omega) (by omega) (by simp; omega) ?_; intro v3 w3 hown3 hg3 hn3)
            obtain ⟨ao2, cv2, rfl⟩ := own_shape hown3
            go_roundw
            case rel => exact ⟨k + 1, acc ++ [x], true, ao2, cv2, by simp, rfl, by go_num, by omega, by simp; omega, by have h := own_more HBX.out hown3; rw [List.length_append] at h ⊢; exact h, below_more hbel hsize hown hg3, hide (by rw [HST.out, step_eq ((le_iff HBX.out).symm.trans hle) ((eq_iff' HBX.out).symm.trans heq)]; simp)⟩
            case measure => simp [intOf]; omega
          | false =>
            go_wp2_with (at_builtin; refine wpList_append_own _ rfl _ _ 36 rfl w.heap.size 9 i0 (.string ByteArray.empty) 1 16 Tryz.underlying36 hi hz0 hz1 hz2 rfl (by decide) _ _ _ rfl (hown.alloc _) ⟨wr.heap.size, 0, none⟩ 1 1 [.string xb] rfl rfl (cell_one_new _ _ _) (fun x hx => by simp at hx; subst hx; rfl) (by unfold maxLen; omega) (by omega) (by simp; omega) ?_; intro v3 w3 hown3 hg3 hn3)
            obtain ⟨ao2, cv2, rfl⟩ := own_shape hown3
            go_roundw
            case rel => exact ⟨k + 1, acc ++ [x], false, ao2, cv2, by simp, rfl, by go_num, by omega, by simp; omega, by have h := own_more HBX.out hown3; rw [List.length_append] at h ⊢; exact h, below_more hbel hsize hown hg3, hide (by rw [HST.out, step_eq ((le_iff HBX.out).symm.trans hle) ((eq_iff' HBX.out).symm.trans heq)]; simp)⟩
            case measure => simp [intOf]; omega
    · have hltz : ¬ (k : Int) < (ls.length : Int) := by omega
      have hkk : k = ls.length := by omega
      subst hkk
      cases put with
      | true =>
        go_wp2_with fail
        go_ret
        refine ⟨⟨_, rfl, ?_⟩, hbel⟩
        rw [ins_of HF.out, if_pos rfl]
        exact own_strs hown
      | false =>
        go_wp2_with (at_builtin; refine wpList_append_own _ rfl _ _ 36 rfl w.heap.size 9 i0 (.string ByteArray.empty) 1 16 Tryz.underlying36 hi hz0 hz1 hz2 rfl (by decide) _ _ _ rfl (hown.alloc _) ⟨wr.heap.size, 0, none⟩ 1 1 [.string tb] rfl rfl (cell_one_new _ _ _) (fun x hx => by simp at hx; subst hx; rfl) (by unfold maxLen; omega) (by omega) (by simp; omega) ?_; intro v2 w2 hown2 hg2 hn2)
        go_ret
        refine ⟨⟨_, rfl, ?_⟩, below_more hbel hsize hown hg2⟩
        rw [ins_of HF.out]
        exact own_strs (own_more rfl hown2)

theorem insert_nil (tb : ByteArray) (w : World) :
    Calls Tryz.prog 84 #[.slice none 0 0, .string tb] w fun e w' => (∃ v, e = .returned v ∧ Strs w.heap.size w' v [B tb]) ∧ Below w.heap.size w w' := by
  obtain ⟨i0, hi, hz0, hz1, hz2⟩ := info_parts Split.hi9
  have hown : w.ownsRow w.heap.size 9 1 (.slice none 0 0) 0 [] := World.ownsRow_nil _ _ _ _
  go_enter Tryz.func84, Tryz.ntmps84
  go_wp2_with fail
  refine wp_loop_rounds 1 ?_
  rw [rounds_succ]
  go_wp2_with (at_builtin; refine wpList_append_own _ rfl _ _ 36 rfl w.heap.size 9 i0 (.string ByteArray.empty) 1 16 Tryz.underlying36 hi hz0 hz1 hz2 rfl (by decide) _ _ _ rfl (hown.alloc _) ⟨w.heap.size, 0, none⟩ 1 1 [.string tb] rfl rfl (cell_one_new _ _ _) (fun x hx => by simp at hx; subst hx; rfl) (by unfold maxLen; omega) (by omega) (by simp) ?_; intro v2 w2 hown2 hg2 hn2)
  go_ret
  refine ⟨⟨_, rfl, ?_⟩, below_more (Below.refl _ _) (Nat.le_refl _) hown hg2⟩
  exact own_strs (own_more (acc := []) (x := B tb) rfl hown2)

theorem insert (lo : Nat) (lv : Value) (ls : List (List UInt8)) (tb : ByteArray) (w : World) (hst : Strs lo w lv ls) (hn : ls.length ≤ 1000) :
    Calls Tryz.prog 84 #[lv, .string tb] w fun e w' => (∃ v, e = .returned v ∧ Strs w.heap.size w' v (ins (B tb) ls)) ∧ Below w.heap.size w w' := by
  rcases hst with ⟨rfl, rfl⟩ | ⟨g, cap, rfl, h1, h2, h3, h4⟩
  · exact insert_nil tb w
  · exact insert_some g cap ls tb w hn h2 h3 h4

end Go.Proofs.YtenegfafjjknoaaGreatDoor.Refi
