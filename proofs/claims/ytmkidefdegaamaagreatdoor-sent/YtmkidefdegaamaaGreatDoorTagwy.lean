/- The walk of the program's tags. -/
import Derived.Test.YtmkidefdegaamaaGreatDoorTextsy
import Derived.Sort.OwnSorted
namespace Go.Proofs.YtmkidefdegaamaaGreatDoor.Tagw
open Go.RowKit Bytes Spl Mem Tags Numw
/-- A list of texts in memory. -/
def Strs (lo : Nat) (w : World) (v : Value) (ls : List (List UInt8)) : Prop :=
  (ls = [] ∧ v = .slice none 0 0) ∨ (∃ (g cap : Nat), v = .slice (some ⟨g, 0, none⟩) ls.length cap ∧ lo ≤ g ∧ g < w.heap.size ∧ ls.length ≤ cap ∧ ∀ j x, ls[j]? = some x → w.cell? ⟨g, j, none⟩ = some (.string ⟨x.toArray⟩))
theorem Strs.mono {lo lo' : Nat} {w : World} {v : Value} {ls : List (List UInt8)} (h : Strs lo w v ls) (hl : lo' ≤ lo) : Strs lo' w v ls := by
  rcases h with h | ⟨g, cap, h1, h2, h3, h4, h5⟩
  · exact Or.inl h
  · exact Or.inr ⟨g, cap, h1, Nat.le_trans hl h2, h3, h4, h5⟩
theorem Strs.below {lo : Nat} {w w' : World} {v : Value} {ls : List (List UInt8)} (h : Strs lo w v ls) (hb : Below w.heap.size w w') : Strs lo w' v ls := by
  rcases h with h | ⟨g, cap, h1, h2, h3, h4, h5⟩
  · exact Or.inl h
  · exact Or.inr ⟨g, cap, h1, h2, Nat.lt_of_lt_of_le h3 hb.size, h4, fun j x hx => by rw [hb.cell (p := ⟨g, j, none⟩) h3]; exact h5 j x hx⟩
theorem Strs.shape {lo : Nat} {w : World} {v : Value} {ls : List (List UInt8)} (h : Strs lo w v ls) : ∃ a l c, v = .slice a l c := by
  rcases h with ⟨_, h⟩ | ⟨g, cap, h, _⟩
  · exact ⟨_, _, _, h⟩
  · exact ⟨_, _, _, h⟩
theorem Strs.set {lo b : Nat} {w : World} {v : Value} {ls : List (List UInt8)} (h : Strs lo w v ls) (hb : b < lo) (i : Nat) (u : Value) : Strs lo (w.setCell ⟨b, i, none⟩ u) v ls := by
  rcases h with h | ⟨g, cap, h1, h2, h3, h4, h5⟩
  · exact Or.inl h
  · exact Or.inr ⟨g, cap, h1, h2, by simpa using h3, h4, fun j x hx => by rw [cell_set_other _ _ _ _ (by omega)]; exact h5 j x hx⟩
theorem but_put (w : World) (g n : Nat) (os : Array Obj) (d : Array (List UInt8)) : But g w (Sort.grow (Sort.putRow encStr (Sort.ahead w n) g 0 d) os) := by
  refine ⟨rfl, rfl, rfl, by simp, fun k hk hne => ?_⟩
  rw [Sort.heap_grow_old _ _ (by simpa using hk)]
  have : g ≠ k := fun e => hne e.symm
  simp [Sort.putRow, Sort.mapBlock, Sort.ahead, Array.getElem?_modify, this]
theorem but_put0 (w : World) (g n : Nat) (d : Array (List UInt8)) : But g w (Sort.putRow encStr (Sort.ahead w n) g 0 d) := by
  have := but_put w g n #[] d
  rwa [Sort.grow_empty] at this
/-- What the sort makes of texts. -/
def srt (ss : List (List UInt8)) : List (List UInt8) := ss.mergeSort fun x y => decide (x ≤ y)
theorem srt_length (ss : List (List UInt8)) : (srt ss).length = ss.length := List.length_mergeSort ..
theorem sortTags (g cap : Nat) (ss : List (List UInt8)) (w : World) (hH : Sort.Holds encStr w g 0 ss.toArray) (hg : g < w.heap.size) (hl : ss.length ≤ 4) :
    Calls Tryz.prog 148 #[.slice (some ⟨g, 0, none⟩) ss.length cap] w fun e w' => e = .returned (.tuple #[]) ∧ But g w w' ∧ Sort.Holds encStr w' g 0 (srt ss).toArray := by
  refine (Tryz.slices_Sort_string g 0 cap ss w hH hg (by omega)).mono fun e w' h => ?_
  obtain ⟨he, n, os, hw⟩ := h
  subst hw
  refine ⟨he, but_put _ _ _ _ _, ?_⟩
  refine Sort.holds_grow _ _ _ _ _ _ (by simpa using hg) ?_
  exact Sort.holds_putRow _ _ _ _ ss.toArray _ (Sort.holds_ahead _ _ _ _ _ _ hH) (by simp)
theorem compact_len (zs : List (List UInt8)) : (Lib.compact zs).length ≤ zs.length := by
  unfold Lib.compact Lib.compactUpTo
  rw [List.length_map]
  have := List.length_filter_le (Lib.keeps zs.toArray) (List.range zs.length)
  rwa [List.length_range] at this
theorem compactTags (g cap : Nat) (zs : List (List UInt8)) (w : World) (hH : Sort.Holds encStr w g 0 zs.toArray) (hl : zs.length ≤ 4) (hc : zs.length ≤ cap) :
    Calls Tryz.prog 206 #[.slice (some ⟨g, 0, none⟩) zs.length cap] w fun e w' => e = .returned (.slice (some ⟨g, 0, none⟩) (Lib.compact zs).length cap) ∧ But g w w' ∧ ∀ j x, (Lib.compact zs)[j]? = some x → w'.cell? ⟨g, j, none⟩ = some (.string ⟨x.toArray⟩) := by
  refine (Tryz.slices_Compact_string g 0 cap zs w hH (by omega) hc).mono fun e w' h => ?_
  obtain ⟨he, q, hw⟩ := h
  subst hw
  refine ⟨he, but_put0 _ _ _ _, fun j x hx => ?_⟩
  have hj : j < (Lib.compact zs).length := (List.getElem?_eq_some_iff.1 hx).1
  have hlen := compact_len zs
  have hs : (Lib.compact zs ++ List.replicate (zs.length - (Lib.compact zs).length) ([] : List UInt8)).toArray.size = zs.toArray.size := by
    simp
    omega
  have hh := Sort.holds_putRow encStr (Sort.ahead w q) g 0 zs.toArray _ (Sort.holds_ahead _ _ _ _ _ _ hH) hs
  have h1 := (hh j (by rw [hs]; simp; omega)).1
  rw [Nat.zero_add] at h1
  rw [h1]
  have e1 : (Lib.compact zs ++ List.replicate (zs.length - (Lib.compact zs).length) ([] : List UInt8)).toArray[j]! = x := by
    rw [Array.getElem!_eq_getD, Array.getD_eq_getD_getElem?, List.getElem?_toArray, List.getElem?_append_left hj, hx]
    rfl
  rw [e1]
theorem cellsOf_get {ps : List ByteArray} {N k : Nat} {p : ByteArray} (h : ps[k]? = some p) : (Lib.cellsOf ps N)[k]? = some (.string p) := by
  have hk : k < ps.length := (List.getElem?_eq_some_iff.1 h).1
  unfold Lib.cellsOf
  rw [List.getElem?_toArray, List.getElem?_append_left (by rw [List.length_map]; exact hk), List.getElem?_map, h]
  rfl
theorem holds_new (w : World) (ps : List ByteArray) (N : Nat) : Sort.Holds encStr (w.alloc (.cells (Lib.cellsOf ps N) 9)) w.heap.size 0 (ps.map B).toArray := by
  intro j hj
  have hS := Sits.new w 9 (Lib.cellsOf ps N)
  have hj' : j < ps.length := by simpa using hj
  have hp : ps[j]? = some ps[j] := List.getElem?_eq_getElem hj'
  rw [Nat.zero_add]
  refine ⟨?_, hS.frozen j⟩
  rw [hS.cell j _ (cellsOf_get hp)]
  have e : (ps.map B).toArray[j]! = B ps[j] := by
    rw [Array.getElem!_eq_getD, Array.getD_eq_getD_getElem?, List.getElem?_toArray, List.getElem?_map, hp]
    rfl
  rw [e]
  show _ = some (Value.string ⟨(B ps[j]).toArray⟩)
  have e2 : (⟨(B ps[j]).toArray⟩ : ByteArray) = ps[j] := Lib.mk_data ps[j]
  rw [e2]
theorem tags_none (b : Nat) (s : ByteArray) (w : World) (hf : Lib.hasPrefix s.data.toList [35] = false) :
    Calls Tryz.prog 163 #[.pointer (some ⟨b, 0, none⟩), .string s] w fun e w' => e = .returned (.bool false) ∧ w = w' := by
  have HP := hide hf
  clear hf
  go_enter Tryz.func163, Tryz.ntmps163
  go_wp2_with (go_at_call 162; refine (cutPreF s ⟨#[35]⟩ HP.out _).mono ?_; rintro e w' ⟨⟨a, rfl, hsa⟩, rfl⟩)
  go_ret
  exact ⟨rfl, rfl⟩
theorem all_words {ps : List ByteArray} {k : Nat} {p : ByteArray} (h : ps[k]? = some p) (ha : ((ps.take k).map B).all (made let_ 8) = true) (hp : made let_ 8 (B p) = true) : ((ps.take (k + 1)).map B).all (made let_ 8) = true := by
  rw [List.take_add_one, h, List.map_append, List.all_append, ha]
  simp [hp]
theorem not_words {ps : List ByteArray} {k : Nat} {p : ByteArray} (h : ps[k]? = some p) (hp : made let_ 8 (B p) = false) : (ps.map B).all (made let_ 8) = false := by
  rw [List.all_eq_false]
  exact ⟨B p, List.mem_map_of_mem (List.mem_of_getElem? h), by simp [hp]⟩
theorem tags_some (b : Nat) (s : ByteArray) (hs : s.size ≤ 140737488355328) (w : World) (hf : Lib.hasPrefix s.data.toList [35] = true) (c0 c1 c2 c3 c4 c5 c6 : Value)
    (hS : Sits w b 172 #[c0, c1, c2, c3, c4, c5, c6]) :
    Calls Tryz.prog 163 #[.pointer (some ⟨b, 0, none⟩), .string s] w fun e w' => But b w w' ∧
      ((tagsOf (B s) = none ∧ e = .returned (.bool false)) ∨ (∃ ls v, tagsOf (B s) = some ls ∧ e = .returned (.bool true) ∧ Strs w.heap.size w' v ls ∧ Sits w' b 172 #[c0, c1, c2, c3, c4, c5, v])) := by
  have HP := hide hf
  have HS := hide hS
  clear hf hS
  go_enter Tryz.func163, Tryz.ntmps163
  go_wp2_with (go_at_call 162; refine (cutPreT s ⟨#[35]⟩ 1 rfl HP.out _).mono ?_; rintro e w' ⟨⟨a, rfl, ha, hsa⟩, rfl⟩)
  go_at_call 205
  refine (Split.splitN a (by omega) _).mono ?_
  rintro e w' ⟨ps, N, hps, hpN, hN5, hpz, rfl, rfl⟩
  rw [ha] at hps
  have HPS := hide hps
  have HPZ := hide hpz
  clear hps hpz
  by_cases h4 : 4 < ps.length
  · have h4z : (4 : Int) < (ps.length : Int) := by omega
    go_wp2_with fail
    go_ret
    refine ⟨But.of_below ((Below.refl _ _).alloc (Nat.le_refl _) _), Or.inl ⟨?_, rfl⟩⟩
    exact tagsOf_long HP.out (by rw [← HPS.out, List.length_map]; omega)
  · have h4z : (ps.length : Int) ≤ 4 := by omega
    go_wp2_with fail
    go_loop [24] (fun i => ∃ k : Nat, i = .int .i64 k ∧ k ≤ ps.length ∧ Hid (((ps.take k).map B).all (made let_ 8) = true))
      (fun i => ps.length - (intOf i).toNat)
    case atStart => exact ⟨0, rfl, Nat.zero_le _, rfl⟩
    case round =>
      obtain ⟨k, rfl, hk, HD⟩ := hrel
      by_cases hlt : k < ps.length
      · obtain ⟨p, hp⟩ : ∃ p, ps[k]? = some p := ⟨_, List.getElem?_eq_getElem hlt⟩
        have hcell : (Lib.cellsOf ps N)[k]? = some (.string p) := cellsOf_get hp
        have hpz : p.size ≤ a.size := HPZ.out p (List.mem_of_getElem? hp)
        have HPK := hide hp
        clear hp
        go_wp2_with (go_at_call 159; refine (Leaf.isWord p 8 (by omega) _).mono ?_; rintro e w' ⟨rfl, rfl⟩)
        · have hb : (!made let_ 8 (B p)) = true := by assumption
          go_ret
          refine ⟨But.of_below ((Below.refl _ _).alloc (Nat.le_refl _) _), Or.inl ⟨?_, rfl⟩⟩
          exact tagsOf_bad HP.out (by rw [← HPS.out]; exact not_words HPK.out (not_t hb))
        · have hb : (!made let_ 8 (B p)) = false := by assumption
          go_round
          case rel => exact ⟨k + 1, by go_num, by omega, all_words HPK.out HD.out (not_f hb)⟩
          case measure => simp [intOf]; omega
      · have hk2 : k = ps.length := by omega
        subst hk2
        go_wp2_with fail
        have hsrt := sortTags w.heap.size N (ps.map B) (w.alloc (.cells (Lib.cellsOf ps N) 9)) (holds_new w ps N) (by simp) (by rw [List.length_map]; omega)
        rw [List.length_map] at hsrt
        refine hsrt.mono ?_
        clear hsrt
        rintro e w2 ⟨rfl, hb2, hh2⟩
        have HB2 := hide hb2
        have HH2 := hide hh2
        clear hb2 hh2
        go_wp2_with fail
        have hcmp := compactTags w.heap.size N (srt (ps.map B)) w2 HH2.out (by rw [srt_length, List.length_map]; omega) (by rw [srt_length, List.length_map]; omega)
        rw [srt_length, List.length_map] at hcmp
        refine hcmp.mono ?_
        clear hcmp
        rintro e w3 ⟨rfl, hb3, hc3⟩
        have hS1 : Sits (w.alloc (.cells (Lib.cellsOf ps N) 9)) b 172 #[c0, c1, c2, c3, c4, c5, c6] := HS.out.alloc _
        have hlb := HS.out.lt
        have hS3 := (hS1.but HB2.out (by omega)).but hb3 (by omega)
        have f6 := hS3.frozen 6
        have c6' := hS3.cell 6 _ rfl
        have hB1 : Below w.heap.size w (w.alloc (.cells (Lib.cellsOf ps N) 9)) := (Below.refl _ _).alloc (Nat.le_refl _) _
        have hB3 : Below w.heap.size w w3 := (hB1.trans (HB2.out.below (Nat.le_refl _) (by simp))).trans (hb3.below (Nat.le_refl _) (by have := HB2.out.size; simp at this; omega))
        have hg3 : w.heap.size < w3.heap.size := by
          have h1 := HB2.out.size
          have h2 := hb3.size
          simp at h1
          omega
        have HS3 := hide hS3
        have HB3 := hide hB3
        have HC3 := hide hc3
        clear hS1 hS3 hB1 hB3 hb3 hc3
        go_wp2_with fail
        go_ret
        refine ⟨(But.of_below HB3.out).set 6 _, Or.inr ⟨_, _, tagsOf_good HP.out (by rw [← HPS.out, List.length_map]; omega) ?_, rfl, ?_, HS3.out.set 6 _⟩⟩
        · rw [← HPS.out]
          have := HD.out
          rwa [List.take_length] at this
        · rw [← HPS.out]
          refine Or.inr ⟨_, _, rfl, Nat.le_refl _, ?_, ?_, fun j x hx => ?_⟩
          · simpa using hg3
          · have := compact_len (srt (ps.map B))
            rw [srt_length, List.length_map] at this
            exact Nat.le_trans this hpN
          · rw [cell_set_other _ _ _ _ (by omega)]
            exact HC3.out j x hx
/-- What readTags says and leaves. -/
theorem readTags (b : Nat) (s : ByteArray) (hs : s.size ≤ 140737488355328) (w : World) (c0 c1 c2 c3 c4 c5 c6 : Value)
    (hS : Sits w b 172 #[c0, c1, c2, c3, c4, c5, c6]) :
    Calls Tryz.prog 163 #[.pointer (some ⟨b, 0, none⟩), .string s] w fun e w' => But b w w' ∧
      ((tagsOf (B s) = none ∧ e = .returned (.bool false)) ∨ (∃ ls v, tagsOf (B s) = some ls ∧ e = .returned (.bool true) ∧ Strs w.heap.size w' v ls ∧ Sits w' b 172 #[c0, c1, c2, c3, c4, c5, v])) := by
  cases hf : Lib.hasPrefix s.data.toList [35] with
  | true => exact tags_some b s hs w hf c0 c1 c2 c3 c4 c5 c6 hS
  | false =>
    refine (tags_none b s w hf).mono fun e w' h => ?_
    obtain ⟨he, rfl⟩ := h
    exact ⟨But.refl _ _, Or.inl ⟨tagsOf_not hf, he⟩⟩
end Go.Proofs.YtmkidefdegaamaaGreatDoor.Tagw
namespace Go.Proofs.YtmkidefdegaamaaGreatDoor.Valw
open Go.RowKit Bytes Nums Numw Mem Vals
/-- What readValue says and leaves. -/
def Valued (b : Nat) (k l : List UInt8) (nm r0 t0 : Value) (w : World) (e : Ending) (w' : World) : Prop :=
  But b w w' ∧ ((rv k l = none ∧ e = .returned (.bool false)) ∨ (∃ k' g v x, rv k l = some (k', g, v, x) ∧ e = .returned (.bool true) ∧ ∃ kb wb : ByteArray, B kb = k' ∧ B wb = x ∧ Sits w' b 172 #[nm, .string kb, .bool g, .int .i64 v, .string wb, r0, t0]))
theorem readValue (b : Nat) (kd vl : ByteArray) (hs : vl.size ≤ 9223372036854775807) (nm r0 t0 : Value) (w : World)
    (hS : Sits w b 172 #[nm, .string ⟨#[]⟩, .bool false, .int .i64 0, .string ⟨#[]⟩, r0, t0]) :
    Calls Tryz.prog 116 #[.pointer (some ⟨b, 0, none⟩), .string kd, .string vl] w fun e w' => Valued b (B kd) (B vl) nm r0 t0 w e w' := by
  by_cases h1 : B kd = [115]
  · obtain rfl : kd = ⟨#[115]⟩ := B_inj h1
    refine (value_set b vl hs nm r0 t0 w hS).mono fun e w' h => ?_
    obtain ⟨hb, he, hs'⟩ := h
    refine ⟨hb, ?_⟩
    rw [rv_s h1]
    cases hm : made let_ 16 (B vl) with
    | false =>
      rw [hm] at he
      exact Or.inl ⟨by simp, he⟩
    | true =>
      rw [hm] at he
      exact Or.inr ⟨_, _, _, _, rfl, he, _, _, rfl, rfl, hs'⟩
  by_cases h2 : B kd = [99]
  · obtain rfl : kd = ⟨#[99]⟩ := B_inj h2
    rcases sg_minus (B vl) with hx | hx
    · refine (value_c_plain b vl hs nm r0 t0 w hx hS).mono fun e w' h => ?_
      obtain ⟨hb, ⟨hn, he⟩ | ⟨v, hv, he, hs'⟩⟩ := h
      · exact ⟨hb, Or.inl ⟨by rw [rv_c h2, signed_none hx hn]; rfl, he⟩⟩
      · exact ⟨hb, Or.inr ⟨_, _, _, _, by rw [rv_c h2, signed_plain hx rfl hv]; rfl, he, _, _, rfl, rfl, hs'⟩⟩
    · refine (value_c_minus b vl hs nm r0 t0 w hx hS).mono fun e w' h => ?_
      obtain ⟨hb, ⟨hn, he⟩ | ⟨v, hv, he, hs'⟩⟩ := h
      · exact ⟨hb, Or.inl ⟨by rw [rv_c h2, signed_none hx hn]; rfl, he⟩⟩
      · exact ⟨hb, Or.inr ⟨_, _, _, _, by rw [rv_c h2, signed_minus hx hv]; rfl, he, _, _, rfl, rfl, hs'⟩⟩
  by_cases h3 : B kd = [103]
  · obtain rfl : kd = ⟨#[103]⟩ := B_inj h3
    rcases sg_both (B vl) with hx | hx | hx
    · refine (value_g_plain b vl hs nm r0 t0 w hx hS).mono fun e w' h => ?_
      obtain ⟨hb, ⟨hn, he⟩ | ⟨v, hv, he, hs'⟩⟩ := h
      · exact ⟨hb, Or.inl ⟨by rw [rv_g h3, signed_none hx hn]; rfl, he⟩⟩
      · exact ⟨hb, Or.inr ⟨_, _, _, _, by rw [rv_g h3, signed_plain hx rfl hv]; rfl, he, _, _, rfl, rfl, hs'⟩⟩
    · refine (value_g_plus b vl hs nm r0 t0 w hx hS).mono fun e w' h => ?_
      obtain ⟨hb, ⟨hn, he⟩ | ⟨v, hv, he, hs'⟩⟩ := h
      · exact ⟨hb, Or.inl ⟨by rw [rv_g h3, signed_none hx hn]; rfl, he⟩⟩
      · exact ⟨hb, Or.inr ⟨_, _, _, _, by rw [rv_g h3, signed_plus hx hv]; rfl, he, _, _, rfl, rfl, hs'⟩⟩
    · refine (value_g_minus b vl hs nm r0 t0 w hx hS).mono fun e w' h => ?_
      obtain ⟨hb, ⟨hn, he⟩ | ⟨v, hv, he, hs'⟩⟩ := h
      · exact ⟨hb, Or.inl ⟨by rw [rv_g h3, signed_none hx hn]; rfl, he⟩⟩
      · exact ⟨hb, Or.inr ⟨_, _, _, _, by rw [rv_g h3, signed_minus hx hv]; rfl, he, _, _, rfl, rfl, hs'⟩⟩
  have hx : sg [] (B vl) = [] := sg_none _
  by_cases h4 : B kd = [104]
  · obtain rfl : kd = ⟨#[104]⟩ := B_inj h4
    refine (value_h_plain b vl hs nm r0 t0 w hx hS).mono fun e w' h => ?_
    obtain ⟨hb, ⟨hn, he⟩ | ⟨v, hv, he, hs'⟩⟩ := h
    · exact ⟨hb, Or.inl ⟨by rw [rv_m (Or.inl h4), signed_none hx hn]; rfl, he⟩⟩
    · exact ⟨hb, Or.inr ⟨_, _, _, _, by rw [rv_m (Or.inl h4), signed_plain hx rfl hv]; rfl, he, _, _, rfl, rfl, hs'⟩⟩
  by_cases h5 : B kd = [109, 115]
  · obtain rfl : kd = ⟨#[109, 115]⟩ := B_inj h5
    refine (value_ms_plain b vl hs nm r0 t0 w hx hS).mono fun e w' h => ?_
    obtain ⟨hb, ⟨hn, he⟩ | ⟨v, hv, he, hs'⟩⟩ := h
    · exact ⟨hb, Or.inl ⟨by rw [rv_m (Or.inr h5), signed_none hx hn]; rfl, he⟩⟩
    · exact ⟨hb, Or.inr ⟨_, _, _, _, by rw [rv_m (Or.inr h5), signed_plain hx rfl hv]; rfl, he, _, _, rfl, rfl, hs'⟩⟩
  refine (value_none b kd vl w (ne_list h1) (ne_list h2) (ne_list h3) (ne_list h4) (ne_list h5)).mono fun e w' h => ?_
  obtain ⟨he, rfl⟩ := h
  exact ⟨But.refl _ _, Or.inl ⟨by simp [rv, h1, h2, h3, h4, h5], he⟩⟩
end Go.Proofs.YtmkidefdegaamaaGreatDoor.Valw
namespace Go.Proofs.YtmkidefdegaamaaGreatDoor.Optw
open Go.RowKit Bytes Nums Numw Mem Tags Tagw Opts
theorem cutF (s : ByteArray) (c : UInt8) (hs : s.size ≤ 9223372036854775807) (f : Bool) (hf : has c (B s) = f) (w : World) :
    Calls Tryz.prog 114 #[.string s, .string ⟨#[c]⟩] w fun e w' => (∃ a b, e = .returned (.tuple #[.string a, .string b, .bool f]) ∧ B a = fore c (B s) ∧ B b = aft c (B s) ∧ a.size ≤ s.size ∧ b.size ≤ s.size) ∧ ∃ n, w' = w.drewN n := by
  rw [← hf]
  exact Texts.cut1 s c hs w
/-- What readOptions says and leaves. -/
def Opted (b : Nat) (k l : List UInt8) (nm kb g v wb : Value) (w : World) (e : Ending) (w' : World) : Prop :=
  But b w w' ∧ ((opts k l = none ∧ e = .returned (.bool false)) ∨ (∃ r ls tv, opts k l = some (r, ls) ∧ e = .returned (.bool true) ∧ Strs w.heap.size w' tv ls ∧ Sits w' b 172 #[nm, kb, g, v, wb, .int .i64 r, tv]))
theorem opt_tags (b : Nat) (s kb : ByteArray) (hs : s.size ≤ 140737488355328) (w : World) (nm g v wb : Value) (hf : Lib.hasPrefix s.data.toList [64] = false)
    (hS : Sits w b 172 #[nm, .string kb, g, v, wb, .int .i64 1000, .slice none 0 0]) :
    Calls Tryz.prog 117 #[.pointer (some ⟨b, 0, none⟩), .string s] w fun e w' => Opted b (B kb) (B s) nm (.string kb) g v wb w e w' := by
  have HP := hide hf
  have HS := hide hS
  clear hf hS
  go_enter Tryz.func117, Tryz.ntmps117
  go_wp2_with (first
    | (go_at_call 162; refine (cutPreF s ⟨#[64]⟩ HP.out _).mono ?_; rintro e w' ⟨⟨a, rfl, hsa⟩, rfl⟩)
    | (go_at_call 163; refine (readTags b s hs _ _ _ _ _ _ _ _ HS.out).mono ?_; rintro e w' ⟨hb, ⟨ht, rfl⟩ | ⟨ls, tv, ht, rfl, hst, hs'⟩⟩))
  · go_ret
    exact ⟨hb, Or.inl ⟨by rw [opts_tags (l := B s) HP.out, ht]; rfl, rfl⟩⟩
  · go_ret
    exact ⟨hb, Or.inr ⟨1000, ls, tv, by rw [opts_tags (l := B s) HP.out, ht]; rfl, rfl, hst, hs'⟩⟩
theorem opt_bar (b : Nat) (s kb : ByteArray) (w : World) (nm g v wb : Value) (hf : Lib.hasPrefix s.data.toList [64] = true) (hk : B kb = [103] ∨ B kb = [115])
    (hS : Sits w b 172 #[nm, .string kb, g, v, wb, .int .i64 1000, .slice none 0 0]) :
    Calls Tryz.prog 117 #[.pointer (some ⟨b, 0, none⟩), .string s] w fun e w' => Opted b (B kb) (B s) nm (.string kb) g v wb w e w' := by
  have HP := hide hf
  have c1 := hS.cell 1 _ rfl
  have HK := hide hk
  have hk' : kb = ⟨#[103]⟩ ∨ kb = ⟨#[115]⟩ := hk.imp (fun h => B_inj h) (fun h => B_inj h)
  clear hf hk hS
  rcases hk' with rfl | rfl
  all_goals
    go_enter Tryz.func117, Tryz.ntmps117
    go_wp2_with (go_at_call 162; refine (cutPreT s ⟨#[64]⟩ 1 rfl HP.out _).mono ?_; rintro e w' ⟨⟨a, rfl, ha, hsa⟩, rfl⟩)
    go_ret
    exact ⟨But.refl _ _, Or.inl ⟨opts_bar (l := B s) HP.out HK.out, rfl⟩⟩
theorem opt_rate (b : Nat) (s kb : ByteArray) (hs : s.size ≤ 140737488355328) (w : World) (nm g v wb : Value) (hf : Lib.hasPrefix s.data.toList [64] = true) (hk : ¬ (B kb = [103] ∨ B kb = [115])) (f : Bool) (hh : has 124 ((B s).drop 1) = f)
    (hS : Sits w b 172 #[nm, .string kb, g, v, wb, .int .i64 1000, .slice none 0 0]) :
    Calls Tryz.prog 117 #[.pointer (some ⟨b, 0, none⟩), .string s] w fun e w' => Opted b (B kb) (B s) nm (.string kb) g v wb w e w' := by
  have HP := hide hf
  have HS := hide hS
  have c1 := hS.cell 1 _ rfl
  have HK := hide hk
  have HH := hide hh
  have k1 : (kb.toList == [103]) = false := Vals.ne_list (fun h => hk (Or.inl h))
  have k2 : (kb.toList == [115]) = false := Vals.ne_list (fun h => hk (Or.inr h))
  clear hf hk hS hh
  go_enter Tryz.func117, Tryz.ntmps117
  go_wp2_with (go_at_call 162; refine (cutPreT s ⟨#[64]⟩ 1 rfl HP.out _).mono ?_; rintro e w' ⟨⟨a, rfl, ha, hsa⟩, rfl⟩)
  refine (cutF a 124 (by omega) f (by rw [ha]; exact HH.out) _).mono ?_
  rintro e w' ⟨⟨r, t, rfl, hr, ht, hsr, hst⟩, n, rfl⟩
  go_wp2_with fail
  refine (readRate r (by omega) _).mono ?_
  rw [ha] at hr ht
  have hO := opts_rate (k := B kb) (l := B s) HP.out HK.out
  rw [HH.out] at hO
  have HO := hide hO
  clear hO
  rintro e w2 ⟨⟨q, hq, rfl⟩ | ⟨hq, rfl⟩, hbw⟩
  · rw [hr] at hq
    have hbw' : Below w.heap.size w w2 := below_back hbw
    have hS2 := HS.out.below hbw' HS.out.lt
    have f5 := hS2.frozen 5
    have c5 := hS2.cell 5 _ rfl
    have HS2 := hide hS2
    have HW := hide hbw'
    have HQ := hide hq
    clear hS2 hbw hbw' hq
    cases f with
    | false =>
      go_wp2_with fail
      go_ret
      refine ⟨(But.of_below HW.out).set 5 _, Or.inr ⟨q, [], _, ?_, rfl, Or.inl ⟨rfl, rfl⟩, HS2.out.set 5 _⟩⟩
      rw [HO.out, HQ.out]
      rfl
    | true =>
      go_wp2_with fail
      have hS3 := HS2.out.set 5 (.int .i64 q)
      refine (readTags b t (by omega) _ _ _ _ _ _ _ _ hS3).mono ?_
      rintro e w3 ⟨hb3, ⟨h3, rfl⟩ | ⟨ls, tv, h3, rfl, hst3, hs3⟩⟩
      · have HB := hide hb3
        rw [ht] at h3
        have H3 := hide h3
        clear hb3 h3 hS3
        go_wp2_with fail
        go_ret
        refine ⟨((But.of_below HW.out).set 5 _).trans HB.out, Or.inl ⟨?_, rfl⟩⟩
        rw [HO.out, HQ.out]
        show ((tagsOf (aft 124 ((B s).drop 1))).map fun t => (q, t)) = none
        rw [H3.out]
        rfl
      · have HB := hide hb3
        rw [ht] at h3
        have H3 := hide h3
        have HT := hide hst3
        have HZ := hide hs3
        clear hb3 h3 hS3 hst3 hs3
        go_wp2_with fail
        go_ret
        refine ⟨((But.of_below HW.out).set 5 _).trans HB.out, Or.inr ⟨q, ls, tv, ?_, rfl, HT.out.mono (by simpa using HW.out.size), HZ.out⟩⟩
        rw [HO.out, HQ.out]
        show ((tagsOf (aft 124 ((B s).drop 1))).map fun t => (q, t)) = some (q, ls)
        rw [H3.out]
        rfl
  · rw [hr] at hq
    have hbw' : Below w.heap.size w w2 := below_back hbw
    have hS2 := HS.out.below hbw' HS.out.lt
    have f5 := hS2.frozen 5
    have c5 := hS2.cell 5 _ rfl
    have HW := hide hbw'
    have HQ := hide hq
    clear hS2 hbw hbw' hq
    go_wp2_with fail
    go_ret
    refine ⟨(But.of_below HW.out).set 5 _, Or.inl ⟨?_, rfl⟩⟩
    rw [HO.out, HQ.out]
    rfl
theorem readOptions (b : Nat) (s kb : ByteArray) (hs : s.size ≤ 140737488355328) (w : World) (nm g v wb : Value)
    (hS : Sits w b 172 #[nm, .string kb, g, v, wb, .int .i64 1000, .slice none 0 0]) :
    Calls Tryz.prog 117 #[.pointer (some ⟨b, 0, none⟩), .string s] w fun e w' => Opted b (B kb) (B s) nm (.string kb) g v wb w e w' := by
  cases hf : Lib.hasPrefix s.data.toList [64] with
  | false => exact opt_tags b s kb hs w nm g v wb hf hS
  | true =>
    by_cases hk : B kb = [103] ∨ B kb = [115]
    · exact opt_bar b s kb w nm g v wb hf hk hS
    · exact opt_rate b s kb hs w nm g v wb hf hk _ rfl hS
end Go.Proofs.YtmkidefdegaamaaGreatDoor.Optw
namespace Go.Proofs.YtmkidefdegaamaaGreatDoor.Readw
open Go.RowKit Bytes Nums Numw Mem Tags Tagw Opts Optw
/-- A sample as a value. -/
def smp (nb kb : ByteArray) (g : Bool) (v : Int) (wb : ByteArray) (r : Int) (tv : Value) : Value :=
  .agg #[.string nb, .string kb, .bool g, .int .i64 v, .string wb, .int .i64 r, tv]
def nothing : Value := .agg #[.string ⟨#[]⟩, .string ⟨#[]⟩, .bool false, .int .i64 0, .string ⟨#[]⟩, .int .i64 0, .slice none 0 0]
/-- What Read says and leaves. -/
def Reads (l : List UInt8) (w : World) (e : Ending) (w' : World) : Prop :=
  Below w.heap.size w w' ∧ ((rd l = none ∧ e = .returned (.tuple #[nothing, .bool false])) ∨
    (∃ (m : Smp) (nb kb wb : ByteArray) (tv : Value), rd l = some m ∧ B nb = m.name ∧ B kb = m.kind ∧ B wb = m.word ∧ Strs w.heap.size w' tv m.tags ∧ e = .returned (.tuple #[smp nb kb m.signed m.value wb m.rate tv, .bool true])))
theorem cells7 {w : World} {b : Nat} {t : TypeId} {v0 v1 v2 v3 v4 v5 v6 : Value} (h : Sits w b t #[v0, v1, v2, v3, v4, v5, v6]) :
    w.cell? ⟨b, 0, none⟩ = some v0 ∧ w.cell? ⟨b, 1, none⟩ = some v1 ∧ w.cell? ⟨b, 2, none⟩ = some v2 ∧ w.cell? ⟨b, 3, none⟩ = some v3 ∧ w.cell? ⟨b, 4, none⟩ = some v4 ∧ w.cell? ⟨b, 5, none⟩ = some v5 ∧ w.cell? ⟨b, 6, none⟩ = some v6 :=
  ⟨h.cell 0 _ rfl, h.cell 1 _ rfl, h.cell 2 _ rfl, h.cell 3 _ rfl, h.cell 4 _ rfl, h.cell 5 _ rfl, h.cell 6 _ rfl⟩
theorem frozen7 {w : World} {b : Nat} {t : TypeId} {cs : Array Value} (h : Sits w b t cs) :
    w.frozen? ⟨b, 0, none⟩ = false ∧ w.frozen? ⟨b, 1, none⟩ = false ∧ w.frozen? ⟨b, 2, none⟩ = false ∧ w.frozen? ⟨b, 3, none⟩ = false ∧ w.frozen? ⟨b, 4, none⟩ = false ∧ w.frozen? ⟨b, 5, none⟩ = false ∧ w.frozen? ⟨b, 6, none⟩ = false :=
  ⟨h.frozen 0, h.frozen 1, h.frozen 2, h.frozen 3, h.frozen 4, h.frozen 5, h.frozen 6⟩
/-- The zero sample's cells. -/
def zeros : Array Value := #[.string ⟨#[]⟩, .string ⟨#[]⟩, .bool false, .int .i64 0, .string ⟨#[]⟩, .int .i64 0, .slice none 0 0]
theorem rd_behind {l : List UInt8} (h : has 58 l = true) (hm : made nam 16 (fore 58 l) = true) (h2 : has 124 (aft 58 l) = true) : rd l = (Vals.rv (fore 124 (aft 124 (aft 58 l))) (fore 124 (aft 58 l))).bind fun x =>
      if has 124 (aft 124 (aft 58 l)) then (opts x.1 (aft 124 (aft 124 (aft 58 l)))).map fun o => ⟨fore 58 l, x.1, x.2.1, x.2.2.1, x.2.2.2, o.1, o.2⟩
      else some ⟨fore 58 l, x.1, x.2.1, x.2.2.1, x.2.2.2, 1000, []⟩ := by
  rw [rd, if_pos h, if_pos hm, rdBehind, if_pos h2]
theorem read_nocolon (s : ByteArray) (hs : s.size ≤ 140737488355328) (w : World) (h : has 58 (B s) = false) :
    Calls Tryz.prog 89 #[.string s] w fun e w' => Reads (B s) w e w' := by
  have H := hide h
  clear h
  go_enter Tryz.func89, Tryz.ntmps89
  go_wp2_with (go_at_call 114; refine (cutF s 58 (by omega) false H.out _).mono ?_; rintro e w' ⟨⟨nb, r1, rfl, hn, hr1, hsn, hsr1⟩, n1, rfl⟩)
  go_returns
  exact ⟨below7 (below_drewN' (below_new _)) (Nat.le_refl _) _ _ _ _ _ _ _, Or.inl ⟨by simp [rd, H.out], rfl⟩⟩
theorem read_noname (s : ByteArray) (hs : s.size ≤ 140737488355328) (w : World) (h : has 58 (B s) = true) (hm : made nam 16 (fore 58 (B s)) = false) :
    Calls Tryz.prog 89 #[.string s] w fun e w' => Reads (B s) w e w' := by
  have H := hide h
  have HM := hide hm
  clear h hm
  go_enter Tryz.func89, Tryz.ntmps89
  go_wp2_with (first
    | (go_at_call 114; refine (cutF s 58 (by omega) true H.out _).mono ?_; rintro e w' ⟨⟨nb, r1, rfl, hn, hr1, hsn, hsr1⟩, n1, rfl⟩)
    | (go_at_call 115; refine (Leaf.isName nb (by omega) _).mono ?_; rintro e w' ⟨rfl, rfl⟩; rw [hn, HM.out]))
  go_returns
  exact ⟨below7 (below_drewN' (below_new _)) (Nat.le_refl _) _ _ _ _ _ _ _, Or.inl ⟨by simp [rd, H.out, HM.out], rfl⟩⟩
theorem read_nobar (s : ByteArray) (hs : s.size ≤ 140737488355328) (w : World) (h : has 58 (B s) = true) (hm : made nam 16 (fore 58 (B s)) = true) (h2 : has 124 (aft 58 (B s)) = false) :
    Calls Tryz.prog 89 #[.string s] w fun e w' => Reads (B s) w e w' := by
  have H := hide h
  have HM := hide hm
  have H2 := hide h2
  clear h hm h2
  go_enter Tryz.func89, Tryz.ntmps89
  go_wp2_with (go_at_call 114; refine (cutF s 58 (by omega) true H.out _).mono ?_; rintro e w' ⟨⟨nb, r1, rfl, hn, hr1, hsn, hsr1⟩, n1, rfl⟩)
  refine (Leaf.isName nb (by omega) _).mono ?_
  rintro e w' ⟨rfl, rfl⟩
  rw [hn, HM.out]
  go_wp2_with fail
  refine (cutF r1 124 (by omega) false (by rw [hr1]; exact H2.out) _).mono ?_
  rintro e w' ⟨⟨vb, r2, rfl, hv, hr2, hsv, hsr2⟩, n2, rfl⟩
  go_wp2_with fail
  go_returns
  refine ⟨below7 (below_drewN' (below_new _)) (Nat.le_refl _) _ _ _ _ _ _ _, Or.inl ⟨?_, rfl⟩⟩
  simp [rd, H.out, HM.out, rdBehind, H2.out]
theorem read_behind (s : ByteArray) (hs : s.size ≤ 140737488355328) (w : World) (h : has 58 (B s) = true) (hm : made nam 16 (fore 58 (B s)) = true) (h2 : has 124 (aft 58 (B s)) = true) (f : Bool) (h3 : has 124 (aft 124 (aft 58 (B s))) = f) :
    Calls Tryz.prog 89 #[.string s] w fun e w' => Reads (B s) w e w' := by
  have H := hide h
  have HM := hide hm
  have H2 := hide h2
  have H3 := hide h3
  clear h hm h2 h3
  go_enter Tryz.func89, Tryz.ntmps89
  go_wp2_with (go_at_call 114; refine (cutF s 58 (by omega) true H.out _).mono ?_; rintro e w' ⟨⟨nb, r1, rfl, hn, hr1, hsn, hsr1⟩, n1, rfl⟩)
  refine (Leaf.isName nb (by omega) _).mono ?_
  rintro e w' ⟨rfl, rfl⟩
  rw [hn, HM.out]
  go_wp2_with fail
  refine (cutF r1 124 (by omega) true (by rw [hr1]; exact H2.out) _).mono ?_
  rintro e w' ⟨⟨vb, r2, rfl, hv, hr2, hsv, hsr2⟩, n2, rfl⟩
  rw [hr1] at hv hr2
  go_wp2_with fail
  refine (cutF r2 124 (by omega) f (by rw [hr2]; exact H3.out) _).mono ?_
  rintro e w' ⟨⟨kd, r3, rfl, hk, hr3, hsk, hsr3⟩, n3, rfl⟩
  rw [hr2] at hk hr3
  go_wp2_with fail
  obtain ⟨W, hW⟩ : ∃ W, W = (((w.alloc (.cells zeros 172)).drewN (n1 + n2 + n3)).alloc (.cells #[.string nb, .string ⟨#[]⟩, .bool false, .int .i64 0, .string ⟨#[]⟩, .int .i64 1000, .slice none 0 0] 172)) := ⟨_, rfl⟩
  have hS1 : Sits W (w.heap.size + 1) 172 #[.string nb, .string ⟨#[]⟩, .bool false, .int .i64 0, .string ⟨#[]⟩, .int .i64 1000, .slice none 0 0] := by
    have e : w.heap.size + 1 = ((w.alloc (.cells zeros 172)).drewN (n1 + n2 + n3)).heap.size := by simp
    rw [hW, e]
    exact Sits.new _ _ _
  have hR1 : Sits W w.heap.size 172 zeros := by
    rw [hW]
    exact ((Sits.new w _ _).drewN _).alloc _
  have hB1 : Below w.heap.size w W := by
    rw [hW]
    exact (below_drewN' (below_new _)).alloc (by simp) _
  have hrd := rd_behind H.out HM.out H2.out
  rw [H3.out] at hrd
  refine Eq.mp (congrArg (fun X => Calls Tryz.prog 116 #[.pointer (some ⟨w.heap.size + 1, 0, none⟩), .string kd, .string vb] X _) hW) ?_
  have HRD := hide hrd
  have HR1 := hide hR1
  have HB1 := hide hB1
  clear hW hrd hR1 hB1
  refine (Valw.readValue (w.heap.size + 1) kd vb (by omega) (.string nb) (.int .i64 1000) (.slice none 0 0) W hS1).mono ?_
  rintro e w2 ⟨hb2, ⟨hx, rfl⟩ | ⟨k', g, v, x, hx, rfl, kb, wb, hkb, hwb, hS2⟩⟩
  · rw [hk, hv] at hx
    have hR2 := HR1.out.but hb2 (by omega)
    have hB2 := HB1.out.trans (hb2.below (by omega) HB1.out.size)
    obtain ⟨a0, a1, a2, a3, a4, a5, a6⟩ := cells7 hR2
    obtain ⟨z0, z1, z2, z3, z4, z5, z6⟩ := frozen7 hR2
    have HX := hide hx
    have HB2 := hide hB2
    clear hx hR2 hB2 hb2 hS1
    go_wp2_with fail
    refine bodyPost_ret (v := .tuple #[nothing, .bool false]) (by simp [results, Tryz.results89, go_sem, a0, a1, a2, a3, a4, a5, a6]; rfl) rfl ?_
    refine ⟨below7 HB2.out (Nat.le_refl _) _ _ _ _ _ _ _, Or.inl ⟨?_, rfl⟩⟩
    rw [HRD.out, HX.out]
    rfl
  · rw [hk, hv] at hx
    have HX := hide hx
    have HKB := hide hkb
    have HWB := hide hwb
    clear hx hkb hwb hS1
    cases f with
    | false =>
      have hR2 := HR1.out.but hb2 (by omega)
      have hB2 := HB1.out.trans (hb2.below (by omega) HB1.out.size)
      obtain ⟨a0, a1, a2, a3, a4, a5, a6⟩ := cells7 hR2
      obtain ⟨z0, z1, z2, z3, z4, z5, z6⟩ := frozen7 hR2
      obtain ⟨c0, c1, c2, c3, c4, c5, c6⟩ := cells7 hS2
      have HB2 := hide hB2
      clear hR2 hB2 hb2 hS2
      go_wp2_with fail
      refine bodyPost_ret (v := .tuple #[smp nb kb g v wb 1000 (.slice none 0 0), .bool true]) (by simp [results, Tryz.results89, go_sem, a0, a1, a2, a3, a4, a5, a6]; rfl) rfl ?_
      refine ⟨below7 HB2.out (Nat.le_refl _) _ _ _ _ _ _ _, Or.inr ⟨⟨fore 58 (B s), k', g, v, x, 1000, []⟩, nb, kb, wb, .slice none 0 0, ?_, hn, HKB.out, HWB.out, Or.inl ⟨rfl, rfl⟩, rfl⟩⟩
      rw [HRD.out, HX.out]
      rfl
    | true =>
      go_wp2_with fail
      refine (readOptions (w.heap.size + 1) r3 kb (by omega) w2 (.string nb) (.bool g) (.int .i64 v) (.string wb) hS2).mono ?_
      rintro e w3 ⟨hb3, ⟨ho, rfl⟩ | ⟨r, ls, tv, ho, rfl, hst, hS3⟩⟩
      · have hR3 := (HR1.out.but hb2 (by omega)).but hb3 (by omega)
        have hB3 := HB1.out.trans ((hb2.trans hb3).below (by omega) HB1.out.size)
        obtain ⟨a0, a1, a2, a3, a4, a5, a6⟩ := cells7 hR3
        obtain ⟨z0, z1, z2, z3, z4, z5, z6⟩ := frozen7 hR3
        rw [HKB.out, hr3] at ho
        have HO := hide ho
        have HB3 := hide hB3
        clear hR3 hB3 hb2 hb3 hS2 ho
        go_wp2_with fail
        refine bodyPost_ret (v := .tuple #[nothing, .bool false]) (by simp [results, Tryz.results89, go_sem, a0, a1, a2, a3, a4, a5, a6]; rfl) rfl ?_
        refine ⟨below7 HB3.out (Nat.le_refl _) _ _ _ _ _ _ _, Or.inl ⟨?_, rfl⟩⟩
        rw [HRD.out, HX.out]
        show ((opts k' (aft 124 (aft 124 (aft 58 (B s))))).map _) = none
        rw [HO.out]
        rfl
      · have hR3 := (HR1.out.but hb2 (by omega)).but hb3 (by omega)
        have hB3 := HB1.out.trans ((hb2.trans hb3).below (by omega) HB1.out.size)
        obtain ⟨a0, a1, a2, a3, a4, a5, a6⟩ := cells7 hR3
        obtain ⟨z0, z1, z2, z3, z4, z5, z6⟩ := frozen7 hR3
        obtain ⟨c0, c1, c2, c3, c4, c5, c6⟩ := cells7 hS3
        rw [HKB.out, hr3] at ho
        have HO := hide ho
        have HB3 := hide hB3
        have hlt : w.heap.size < w2.heap.size := by
          have e1 := HR1.out.lt
          have e2 := hb2.size
          omega
        have HLT := hide hlt
        obtain ⟨sa, sl, sc, rfl⟩ := hst.shape
        have HST := hide hst
        clear hR3 hB3 hb2 hb3 hS2 hS3 ho hst hlt
        go_wp2_with fail
        refine bodyPost_ret (v := .tuple #[smp nb kb g v wb r (.slice sa sl sc), .bool true]) (by simp [results, Tryz.results89, go_sem, a0, a1, a2, a3, a4, a5, a6]; rfl) rfl ?_
        refine ⟨below7 HB3.out (Nat.le_refl _) _ _ _ _ _ _ _, Or.inr ⟨⟨fore 58 (B s), k', g, v, x, r, ls⟩, nb, kb, wb, .slice sa sl sc, ?_, hn, HKB.out, HWB.out, ?_, rfl⟩⟩
        · rw [HRD.out, HX.out]
          show ((opts k' (aft 124 (aft 124 (aft 58 (B s))))).map _) = some _
          rw [HO.out]
          rfl
        · exact (((((((HST.out.set HLT.out 0 _).set HLT.out 1 _).set HLT.out 2 _).set HLT.out 3 _).set HLT.out 4 _).set HLT.out 5 _).set HLT.out 6 _).mono (Nat.le_of_lt HLT.out)
theorem read (s : ByteArray) (hs : s.size ≤ 140737488355328) (w : World) :
    Calls Tryz.prog 89 #[.string s] w fun e w' => Reads (B s) w e w' := by
  cases h : has 58 (B s) with
  | false => exact read_nocolon s hs w h
  | true =>
    cases hm : made nam 16 (fore 58 (B s)) with
    | false => exact read_noname s hs w h hm
    | true =>
      cases h2 : has 124 (aft 58 (B s)) with
      | false => exact read_nobar s hs w h hm h2
      | true => exact read_behind s hs w h hm h2 _ rfl
end Go.Proofs.YtmkidefdegaamaaGreatDoor.Readw
