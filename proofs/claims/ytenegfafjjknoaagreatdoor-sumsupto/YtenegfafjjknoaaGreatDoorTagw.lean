/- The walk of the program's tags. -/
import Derived.Test.YtenegfafjjknoaaGreatDoorSplit
import Derived.Test.YtenegfafjjknoaaGreatDoorTags
import Derived.Test.YtenegfafjjknoaaGreatDoorNumw
import Derived.Test.YtenegfafjjknoaaGreatDoorMem
import Derived.Sort.OwnSorted
namespace Go.Proofs.YtenegfafjjknoaaGreatDoor.Tagw
open Go.RowKit Bytes Spl Mem Tags Numw

/-- A list of texts in memory. -/
def Strs (lo : Nat) (w : World) (v : Value) (ls : List (List UInt8)) : Prop :=
  (ls = [] ∧ v = .slice none 0 0) ∨ (∃ (g cap : Nat), v = .slice (some ⟨g, 0, none⟩) ls.length cap ∧ lo ≤ g ∧ g < w.heap.size ∧ ls.length ≤ cap ∧ ∀ j x, ls[j]? = some x → w.cell? ⟨g, j, none⟩ = some (.string ⟨x.toArray⟩))

theorem Strs.mono {lo lo' : Nat} {w : World} {v : Value} {ls : List (List UInt8)} (h : Strs lo w v ls) (hl : lo' ≤ lo) : Strs lo' w v ls := by
  rcases h with h | ⟨g, cap, h1, h2, h3, h4, h5⟩
  · exact Or.inl h
  · exact Or.inr ⟨g, cap, h1, Nat.le_trans hl h2, h3, h4, h5⟩

theorem Strs.below {lo : Nat} {w w' : World} {v : Value} {ls : List (List UInt8)} (h : Strs lo w v ls) (hb : Below w.heap.size w w') : Strs lo w' v ls := by
  rcases h with h | ⟨g, cap, h1, h2, h3, h4, h5⟩
  · exact Or.inl h
  · exact Or.inr ⟨g, cap, h1, h2, Nat.lt_of_lt_of_le h3 hb.size, h4, fun j x hx => by rw [hb.cell (p := ⟨g, j, none⟩) h3]; exact h5 j x hx⟩

theorem Strs.shape {lo : Nat} {w : World} {v : Value} {ls : List (List UInt8)} (h : Strs lo w v ls) : ∃ a l c, v = .slice a l c := by
  rcases h with ⟨_, h⟩ | ⟨g, cap, h, _⟩
  · exact ⟨_, _, _, h⟩
  · exact ⟨_, _, _, h⟩

theorem Strs.set {lo b : Nat} {w : World} {v : Value} {ls : List (List UInt8)} (h : Strs lo w v ls) (hb : b < lo) (i : Nat) (u : Value) : Strs lo (w.setCell ⟨b, i, none⟩ u) v ls := by
  rcases h with h | ⟨g, cap, h1, h2, h3, h4, h5⟩
  · exact Or.inl h
  · exact Or.inr ⟨g, cap, h1, h2, by simpa using h3, h4, fun j x hx => by rw [cell_set_other _ _ _ _ (by omega)]; exact h5 j x hx⟩

theorem but_put (w : World) (g n : Nat) (os : Array Obj) (d : Array (List UInt8)) : But g w (Sort.grow (Sort.putRow encStr (Sort.ahead w n) g 0 d) os) := by
  refine ⟨rfl, rfl, rfl, by simp, fun k hk hne => ?_⟩
  rw [Sort.heap_grow_old _ _ (by simpa using hk)]
  have : g ≠ k := fun e => hne e.symm
  simp [Sort.putRow, Sort.mapBlock, Sort.ahead, Array.getElem?_modify, this]

theorem but_put0 (w : World) (g n : Nat) (d : Array (List UInt8)) : But g w (Sort.putRow encStr (Sort.ahead w n) g 0 d) := by
  have := but_put w g n #[] d
  rwa [Sort.grow_empty] at this

/-- What the sort makes of texts. -/
def srt (ss : List (List UInt8)) : List (List UInt8) := ss.mergeSort fun x y => decide (x ≤ y)

theorem srt_length (ss : List (List UInt8)) : (srt ss).length = ss.length := List.length_mergeSort ..

theorem sortTags (g cap : Nat) (ss : List (List UInt8)) (w : World) (hH : Sort.Holds encStr w g 0 ss.toArray) (hg : g < w.heap.size) (hl : ss.length ≤ 4) :
    Calls Tryz.prog 179 #[.slice (some ⟨g, 0, none⟩) ss.length cap] w fun e w' => e = .returned (.tuple #[]) ∧ But g w w' ∧ Sort.Holds encStr w' g 0 (srt ss).toArray := by
  refine (Tryz.slices_Sort_string g 0 cap ss w hH hg (by omega)).mono fun e w' h => ?_
  obtain ⟨he, n, os, hw⟩ := h
  subst hw
  refine ⟨he, but_put _ _ _ _ _, ?_⟩
  refine Sort.holds_grow _ _ _ _ _ _ (by simpa using hg) ?_
  exact Sort.holds_putRow _ _ _ _ ss.toArray _ (Sort.holds_ahead _ _ _ _ _ _ hH) (by simp)

theorem compact_len (zs : List (List UInt8)) : (Lib.compact zs).length ≤ zs.length := by
  unfold Lib.compact Lib.compactUpTo
  rw [List.length_map]
  have := List.length_filter_le (Lib.keeps zs.toArray) (List.range zs.length)
  rwa [List.length_range] at this

theorem compactTags (g cap : Nat) (zs : List (List UInt8)) (w : World) (hH : Sort.Holds encStr w g 0 zs.toArray) (hl : zs.length ≤ 4) (hc : zs.length ≤ cap) :
    Calls Tryz.prog 180 #[.slice (some ⟨g, 0, none⟩) zs.length cap] w fun e w' => e = .returned (.slice (some ⟨g, 0, none⟩) (Lib.compact zs).length cap) ∧ But g w w' ∧ ∀ j x, (Lib.compact zs)[j]? = some x → w'.cell? ⟨g, j, none⟩ = some (.string ⟨x.toArray⟩) := by
  refine (Tryz.slices_Compact_string g 0 cap zs w hH (by omega) hc).mono fun e w' h => ?_
  obtain ⟨he, q, hw⟩ := h
  subst hw
  refine ⟨he, but_put0 _ _ _ _, fun j x hx => ?_⟩
  have hj : j < (Lib.compact zs).length := (List.getElem?_eq_some_iff.1 hx).1
  have hlen := compact_len zs
  have hs : (Lib.compact zs ++ List.replicate (zs.length - (Lib.compact zs).length) ([] : List UInt8)).toArray.size = zs.toArray.size := by
    simp
    omega
  have hh := Sort.holds_putRow encStr (Sort.ahead w q) g 0 zs.toArray _ (Sort.holds_ahead _ _ _ _ _ _ hH) hs
  have h1 := (hh j (by rw [hs]; simp; omega)).1
  rw [Nat.zero_add] at h1
  rw [h1]
  have e1 : (Lib.compact zs ++ List.replicate (zs.length - (Lib.compact zs).length) ([] : List UInt8)).toArray[j]! = x := by
    rw [Array.getElem!_eq_getD, Array.getD_eq_getD_getElem?, List.getElem?_toArray, List.getElem?_append_left hj, hx]
    rfl
  rw [e1]

theorem cellsOf_get {ps : List ByteArray} {N k : Nat} {p : ByteArray} (h : ps[k]? = some p) : (Lib.cellsOf ps N)[k]? = some (.string p) := by
  have hk : k < ps.length := (List.getElem?_eq_some_iff.1 h).1
  unfold Lib.cellsOf
  rw [List.getElem?_toArray, List.getElem?_append_left (by rw [List.length_map]; exact hk), List.getElem?_map, h]
  rfl

theorem holds_new (w : World) (ps : List ByteArray) (N : Nat) : Sort.Holds encStr (w.alloc (.cells (Lib.cellsOf ps N) 9)) w.heap.size 0 (ps.map B).toArray := by
  intro j hj
  have hS := Sits.new w 9 (Lib.cellsOf ps N)
  have hj' : j < ps.length := by simpa using hj
  have hp : ps[j]? = some ps[j] := List.getElem?_eq_getElem hj'
  rw [Nat.zero_add]
  refine ⟨?_, hS.frozen j⟩
  rw [hS.cell j _ (cellsOf_get hp)]
  have e : (ps.map B).toArray[j]! = B ps[j] := by
    rw [Array.getElem!_eq_getD, Array.getD_eq_getD_getElem?, List.getElem?_toArray, List.getElem?_map, hp]
    rfl
  rw [e]
  show _ = some (Value.string ⟨(B ps[j]).toArray⟩)
  have e2 : (⟨(B ps[j]).toArray⟩ : ByteArray) = ps[j] := Lib.mk_data ps[j]
  rw [e2]

theorem tags_none (b : Nat) (s : ByteArray) (w : World) (hf : Lib.hasPrefix s.data.toList [35] = false) :
    Calls Tryz.prog 134 #[.pointer (some ⟨b, 0, none⟩), .string s] w fun e w' => e = .returned (.bool false) ∧ w = w' := by
  have HP := hide hf
  clear hf
  go_enter Tryz.func134, Tryz.ntmps134
  go_wp2_with (go_at_call 133; refine (cutPreF s ⟨#[35]⟩ HP.out _).mono ?_; rintro e w' ⟨⟨a, rfl, hsa⟩, rfl⟩)
  go_ret
  exact ⟨rfl, rfl⟩

theorem all_words {ps : List ByteArray} {k : Nat} {p : ByteArray} (h : ps[k]? = some p) (ha : ((ps.take k).map B).all (made let_ 8) = true) (hp : made let_ 8 (B p) = true) : ((ps.take (k + 1)).map B).all (made let_ 8) = true := by
  rw [List.take_add_one, h, List.map_append, List.all_append, ha]
  simp [hp]

theorem not_words {ps : List ByteArray} {k : Nat} {p : ByteArray} (h : ps[k]? = some p) (hp : made let_ 8 (B p) = false) : (ps.map B).all (made let_ 8) = false := by
  rw [List.all_eq_false]
  exact ⟨B p, List.mem_map_of_mem (List.mem_of_getElem? h), by simp [hp]⟩

theorem tags_some (b : Nat) (s : ByteArray) (hs : s.size ≤ 140737488355328) (w : World) (hf : Lib.hasPrefix s.data.toList [35] = true) (c0 c1 c2 c3 c4 c5 c6 : Value)
    (hS : Sits w b 80 #[c0, c1, c2, c3, c4, c5, c6]) :
    Calls Tryz.prog 134 #[.pointer (some ⟨b, 0, none⟩), .string s] w fun e w' => But b w w' ∧
      ((tagsOf (B s) = none ∧ e = .returned (.bool false)) ∨ (∃ ls v, tagsOf (B s) = some ls ∧ e = .returned (.bool true) ∧ Strs w.heap.size w' v ls ∧ Sits w' b 80 #[c0, c1, c2, c3, c4, c5, v])) := by
  have HP := hide hf
  have HS := hide hS
  clear hf hS
  go_enter Tryz.func134, Tryz.ntmps134
  go_wp2_with (go_at_call 133; refine (cutPreT s ⟨#[35]⟩ 1 rfl HP.out _).mono ?_; rintro e w' ⟨⟨a, rfl, ha, hsa⟩, rfl⟩)
  go_at_call 178
  refine (Split.splitN a (by omega) _).mono ?_
  rintro e w' ⟨ps, N, hps, hpN, hN5, hpz, rfl, rfl⟩
  rw [ha] at hps
  have HPS := hide hps
  have HPZ := hide hpz
  clear hps hpz
  by_cases h4 : 4 < ps.length
  · have h4z : (4 : Int) < (ps.length : Int) := by omega
    go_wp2_with fail
    go_ret
    refine ⟨But.of_below ((Below.refl _ _).alloc (Nat.le_refl _) _), Or.inl ⟨?_, rfl⟩⟩
    exact tagsOf_long HP.out (by rw [← HPS.out, List.length_map]; omega)
  · have h4z : (ps.length : Int) ≤ 4 := by omega
    go_wp2_with fail
    go_loop [24] (fun i => ∃ k : Nat, i = .int .i64 k ∧ k ≤ ps.length ∧ Hid (((ps.take k).map B).all (made let_ 8) = true))
      (fun i => ps.length - (intOf i).toNat)
    case atStart => exact ⟨0, rfl, Nat.zero_le _, rfl⟩
    case round =>
      obtain ⟨k, rfl, hk, HD⟩ := hrel
      by_cases hlt : k < ps.length
      · obtain ⟨p, hp⟩ : ∃ p, ps[k]? = some p := ⟨_, List.getElem?_eq_getElem hlt⟩
        have hcell : (Lib.cellsOf ps N)[k]? = some (.string p) := cellsOf_get hp
        have hpz : p.size ≤ a.size := HPZ.out p (List.mem_of_getElem? hp)
        have HPK := hide hp
        clear hp
        go_wp2_with (go_at_call 130; refine (Leaf.isWord p 8 (by omega) _).mono ?_; rintro e w' ⟨rfl, rfl⟩)
        · have hb : (!made let_ 8 (B p)) = true := by assumption
          go_ret
          refine ⟨But.of_below ((Below.refl _ _).alloc (Nat.le_refl _) _), Or.inl ⟨?_, rfl⟩⟩
          exact tagsOf_bad HP.out (by rw [← HPS.out]; exact not_words HPK.out (not_t hb))
        · have hb : (!made let_ 8 (B p)) = false := by assumption
          go_round
          case rel => exact ⟨k + 1, by go_num, by omega, all_words HPK.out HD.out (not_f hb)⟩
          case measure => simp [intOf]; omega
      · have hk2 : k = ps.length := by omega
        subst hk2
        go_wp2_with fail
        have hsrt := sortTags w.heap.size N (ps.map B) (w.alloc (.cells (Lib.cellsOf ps N) 9)) (holds_new w ps N) (by simp) (by rw [List.length_map]; omega)
        rw [List.length_map] at hsrt
        refine hsrt.mono ?_
        clear hsrt
        rintro e w2 ⟨rfl, hb2, hh2⟩
        have HB2 := hide hb2
        have HH2 := hide hh2
        clear hb2 hh2
        go_wp2_with fail
        have hcmp := compactTags w.heap.size N (srt (ps.map B)) w2 HH2.out (by rw [srt_length, List.length_map]; omega) (by rw [srt_length, List.length_map]; omega)
        rw [srt_length, List.length_map] at hcmp
        refine hcmp.mono ?_
        clear hcmp
        rintro e w3 ⟨rfl, hb3, hc3⟩
        have hS1 : Sits (w.alloc (.cells (Lib.cellsOf ps N) 9)) b 80 #[c0, c1, c2, c3, c4, c5, c6] := HS.out.alloc _
        have hlb := HS.out.lt
        have hS3 := (hS1.but HB2.out (by omega)).but hb3 (by omega)
        have f6 := hS3.frozen 6
        have c6' := hS3.cell 6 _ rfl
        have hB1 : Below w.heap.size w (w.alloc (.cells (Lib.cellsOf ps N) 9)) := (Below.refl _ _).alloc (Nat.le_refl _) _
        have hB3 : Below w.heap.size w w3 := (hB1.trans (HB2.out.below (Nat.le_refl _) (by simp))).trans (hb3.below (Nat.le_refl _) (by have := HB2.out.size; simp at this; omega))
        have hg3 : w.heap.size < w3.heap.size := by
          have h1 := HB2.out.size
          have h2 := hb3.size
          simp at h1
          omega
        have HS3 := hide hS3
        have HB3 := hide hB3
        have HC3 := hide hc3
        clear hS1 hS3 hB1 hB3 hb3 hc3
        go_wp2_with fail
        go_ret
        refine ⟨(But.of_below HB3.out).set 6 _, Or.inr ⟨_, _, tagsOf_good HP.out (by rw [← HPS.out, List.length_map]; omega) ?_, rfl, ?_, HS3.out.set 6 _⟩⟩
        · rw [← HPS.out]
          have := HD.out
          rwa [List.take_length] at this
        · rw [← HPS.out]
          refine Or.inr ⟨_, _, rfl, Nat.le_refl _, ?_, ?_, fun j x hx => ?_⟩
          · simpa using hg3
          · have := compact_len (srt (ps.map B))
            rw [srt_length, List.length_map] at this
            exact Nat.le_trans this hpN
          · rw [cell_set_other _ _ _ _ (by omega)]
            exact HC3.out j x hx

/-- What readTags says and leaves. -/
theorem readTags (b : Nat) (s : ByteArray) (hs : s.size ≤ 140737488355328) (w : World) (c0 c1 c2 c3 c4 c5 c6 : Value)
    (hS : Sits w b 80 #[c0, c1, c2, c3, c4, c5, c6]) :
    Calls Tryz.prog 134 #[.pointer (some ⟨b, 0, none⟩), .string s] w fun e w' => But b w w' ∧
      ((tagsOf (B s) = none ∧ e = .returned (.bool false)) ∨ (∃ ls v, tagsOf (B s) = some ls ∧ e = .returned (.bool true) ∧ Strs w.heap.size w' v ls ∧ Sits w' b 80 #[c0, c1, c2, c3, c4, c5, v])) := by
  cases hf : Lib.hasPrefix s.data.toList [35] with
  | true => exact tags_some b s hs w hf c0 c1 c2 c3 c4 c5 c6 hS
  | false =>
    refine (tags_none b s w hf).mono fun e w' h => ?_
    obtain ⟨he, rfl⟩ := h
    exact ⟨But.refl _ _, Or.inl ⟨tagsOf_not hf, he⟩⟩

end Go.Proofs.YtenegfafjjknoaaGreatDoor.Tagw
