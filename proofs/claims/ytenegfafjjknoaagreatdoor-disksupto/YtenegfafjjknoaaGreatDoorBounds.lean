/- What is read is short. No Go in sight. -/
import Derived.Test.YtenegfafjjknoaaGreatDoorPlain
namespace Go.Proofs.YtenegfafjjknoaaGreatDoor.Bounds
open Bytes Nums Spl Tags Vals Opts Plain

theorem made_len {p : Int → Bool} {most : Int} {l : List UInt8} (h : made p most l = true) : (l.length : Int) ≤ most := by
  simp only [made, Bool.and_eq_true, decide_eq_true_eq] at h
  exact h.2.1

theorem compact_mem {zs : List (List UInt8)} {x : List UInt8} (h : x ∈ Lib.compact zs) : x ∈ zs := by
  unfold Lib.compact Lib.compactUpTo at h
  rw [List.mem_map] at h
  obtain ⟨j, hj, rfl⟩ := h
  rw [List.mem_filter, List.mem_range] at hj
  have e : zs.toArray[j]! = zs[j] := by simp [hj.1]
  rw [e]
  exact List.getElem_mem hj.1

theorem compact_le (zs : List (List UInt8)) : (Lib.compact zs).length ≤ zs.length := by
  unfold Lib.compact Lib.compactUpTo
  rw [List.length_map]
  have := List.length_filter_le (Lib.keeps zs.toArray) (List.range zs.length)
  rwa [List.length_range] at this

theorem tags_short {l : List UInt8} {ls : List (List UInt8)} (h : tagsOf l = some ls) : ls.length ≤ 4 ∧ ∀ x ∈ ls, x.length ≤ 8 := by
  unfold tagsOf at h
  split at h
  · split at h
    · split at h
      · rename_i h4 ha
        cases h
        refine ⟨?_, fun x hx => ?_⟩
        · have := compact_le ((spl 4 (l.drop 1)).mergeSort fun x y => decide (x ≤ y))
          rw [List.length_mergeSort] at this
          omega
        · have hm := compact_mem hx
          rw [List.mem_mergeSort] at hm
          have := made_len (List.all_eq_true.1 ha x hm)
          omega
      · cases h
    · cases h
  · cases h

theorem opts_short {k l : List UInt8} {r : Int} {ls : List (List UInt8)} (h : opts k l = some (r, ls)) : 1 ≤ r ∧ r ≤ 1000 ∧ ls.length ≤ 4 ∧ ∀ x ∈ ls, x.length ≤ 8 := by
  unfold opts at h
  split at h
  · split at h
    · cases h
    · rw [Option.bind_eq_some_iff] at h
      obtain ⟨q, hq, h⟩ := h
      have hr := rate_some hq
      split at h
      · rw [Option.map_eq_some_iff] at h
        obtain ⟨t, ht, h⟩ := h
        cases h
        exact ⟨hr.1, hr.2, tags_short ht⟩
      · cases h
        exact ⟨hr.1, hr.2, by simp, by simp⟩
  · rw [Option.map_eq_some_iff] at h
    obtain ⟨t, ht, h⟩ := h
    cases h
    exact ⟨by omega, by omega, tags_short ht⟩

theorem signed_short {t l : List UInt8} {x : List UInt8 × Int} (h : signed t l = some x) : -999999999 ≤ x.2 ∧ x.2 ≤ 999999999 := by
  unfold signed at h
  rw [Option.map_eq_some_iff] at h
  obtain ⟨n, hn, rfl⟩ := h
  have hv := num_some hn
  dsimp only
  split <;> omega

theorem rv_short {k l k' x : List UInt8} {g : Bool} {v : Int} (h : rv k l = some (k', g, v, x)) : k'.length ≤ 2 ∧ -999999999 ≤ v ∧ v ≤ 999999999 ∧ x.length ≤ 16 := by
  unfold rv at h
  split at h
  · split at h
    · rename_i hm
      have := made_len hm
      cases h
      exact ⟨by simp, by omega, by omega, by omega⟩
    · cases h
  · split at h
    · rw [Option.map_eq_some_iff] at h
      obtain ⟨y, hy, h⟩ := h
      have := signed_short hy
      cases h
      exact ⟨by simp, this.1, this.2, by simp⟩
    · split at h
      · rw [Option.map_eq_some_iff] at h
        obtain ⟨y, hy, h⟩ := h
        have := signed_short hy
        cases h
        exact ⟨by simp, this.1, this.2, by simp⟩
      · split at h
        · rw [Option.map_eq_some_iff] at h
          obtain ⟨y, hy, h⟩ := h
          have := signed_short hy
          cases h
          exact ⟨by simp, this.1, this.2, by simp⟩
        · cases h

theorem rd_short {l : List UInt8} {m : Smp} (h : rd l = some m) : m.name.length ≤ 16 ∧ m.kind.length ≤ 2 ∧ m.word.length ≤ 16 ∧ (-999999999 ≤ m.value ∧ m.value ≤ 999999999) ∧ (1 ≤ m.rate ∧ m.rate ≤ 1000) ∧ m.tags.length ≤ 4 ∧ ∀ x ∈ m.tags, x.length ≤ 8 := by
  unfold rd at h
  split at h
  · split at h
    · rename_i hm
      have hl := made_len hm
      unfold rdBehind at h
      split at h
      · rw [Option.bind_eq_some_iff] at h
        obtain ⟨x, hx, h⟩ := h
        have hv := rv_short (k' := x.1) (g := x.2.1) (v := x.2.2.1) (x := x.2.2.2) hx
        split at h
        · rw [Option.map_eq_some_iff] at h
          obtain ⟨o, ho, rfl⟩ := h
          have hop := opts_short (r := o.1) (ls := o.2) ho
          exact ⟨by dsimp only; omega, hv.1, hv.2.2.2, ⟨hv.2.1, hv.2.2.1⟩, ⟨hop.1, hop.2.1⟩, hop.2.2⟩
        · cases h
          exact ⟨by dsimp only; omega, hv.1, hv.2.2.2, ⟨hv.2.1, hv.2.2.1⟩, ⟨by dsimp only; omega, by dsimp only; omega⟩, by simp, by simp⟩
      · cases h
    · cases h
  · cases h

theorem join_len (ls : List (List UInt8)) (h : ∀ x ∈ ls, x.length ≤ 8) : (Lib.join ls [44]).length ≤ 9 * ls.length := by
  induction ls with
  | nil => simp [Lib.join]
  | cons x l ih =>
    have hx := h x (List.mem_cons_self ..)
    have hi := ih fun y hy => h y (List.mem_cons_of_mem _ hy)
    cases l with
    | nil =>
      simp [Lib.join]
      omega
    | cons y l =>
      have e : Lib.join (x :: y :: l) [44] = x ++ [44] ++ Lib.join (y :: l) [44] := by
        simp [Lib.join, List.intercalate, List.intersperse]
      rw [e, List.length_append, List.length_append]
      simp only [List.length_cons, List.length_nil] at hi ⊢
      omega

end Go.Proofs.YtenegfafjjknoaaGreatDoor.Bounds
