/- The keys of the shards, each shard's sorted; the least head. The least head, walked. -/
import Derived.Test.YtenegfafjjknoaaGreatDoorWw
import Derived.Test.YtenegfafjjknoaaGreatDoorKeysl
import Derived.Shelf.Abstract
import Derived.OwnWalkIn
import Derived.TacticsInMore
import Derived.Maps.OwnIn
import Derived.Sort.KeysCollected
namespace Go.Proofs.YtenegfafjjknoaaGreatDoor.Kr
open Go.RowKit Go.Maps Mem Foot Im Wm Hk Hb Hi Hn Plainw Cq Hs Sh Readw Wi Go.Sort Go.Shelf

theorem sortsS (m : Nat) : AnyZ.SortsIn Tryz.prog Tryz.sortedS_ren Fence.wide m :=
  ⟨fun blk off cap ss W hH hblk hsz => callsIn_wide.2 (AnyM.slices_Sort_string Tryz.sortS blk off cap ss W hH hblk hsz),
   fun p cap W => callsIn_wide.2 (AnyM.slices_Sort_string_none Tryz.sortS p cap W)⟩

theorem keys_words {α : Type} (f : α → Value) (l : List (Bs × α)) : strKeys (mp sLit f l) = l.map (·.1) := by
  unfold mp
  simp [strKeys, sLit, strOf, Function.comp_def]

theorem sorted_words {α : Type} {l : List (Bs × α)} (h : Up sLt l) {ss : List Bs} (hp : ss.Perm (l.map (·.1))) : ss.mergeSort (fun x y => decide (x ≤ y)) = l.map (·.1) := by
  refine List.Perm.eq_of_pairwise (le := fun a b : Bs => a ≤ b) (fun a b _ _ h1 h2 => List.le_antisymm h1 h2) ?_ ?_ ((List.mergeSort_perm _ _).trans hp)
  · have := List.pairwise_mergeSort (le := fun x y : Bs => decide (x ≤ y)) (fun a b c h1 h2 => by simp only [decide_eq_true_eq] at *; exact List.le_trans h1 h2) (fun a b => by
      rcases List.le_total a b with h | h
      · simp [h]
      · simp [h]) ss
    exact this.imp fun {a b} h => by simpa using h
  · rw [List.pairwise_map]
    exact h.imp fun {a b} h => by
      simp only [sLt, decide_eq_true_eq] at h
      exact List.le_of_lt h

theorem keysC (mb : Option Nat) (W : World) : Calls Tryz.prog 192 #[.map mb] W fun e w' => e = .returned (.func (.func 255) #[] #[.pointer (some ⟨W.heap.size, 0, none⟩)]) ∧ w' = W.alloc (.cells #[.map mb] 198) :=
  (callsIn_wide (n := 5)).1 (AnyZ.keys_in Tryz.keysS Fence.wide 5 trivial rfl mb W)

theorem sortedC (w : World) (b : Nat) (l : List (Bs × Nat)) (h : Owns Tryz.prog 9 okP sLit pv w b l) (hup : Up sLt l) (hl : l.length ≤ 1000) :
    Calls Tryz.prog 191 #[.func (.func 255) #[] #[.pointer (some ⟨w.heap.size, 0, none⟩)]] (w.alloc (.cells #[.map (some b)] 198)) fun e w' => ∃ v : Value, e = .returned v ∧ w'.ownsRow w.heap.size 9 1 v l.length (l.map fun c => .string ⟨c.1.toArray⟩) ∧ Below w.heap.size w w' := by
  have hown : w.ownsMap Tryz.prog 9 (exE okP) b l.length (mp sLit pv l) := h
  have hbl := hown.lt
  have hmax : Maps.size (mp sLit pv l) ≤ maxLen := by rw [mp_size]; unfold maxLen; omega
  have hbytes : Maps.size (mp sLit pv l) * 16 ≤ 140737488355328 := by rw [mp_size]; omega
  have hseq : SeqGives Fence.wide 2 Tryz.prog 255 #[.pointer (some ⟨w.heap.size, 0, none⟩)] encStr (fun ss => ss.Perm (strKeys (mp sLit pv l))) (Maps.size (mp sLit pv l)) (w.alloc (.cells #[.map (some b)] 198)) :=
    AnyZ.keys_gives (ρ := Tryz.keysS_ren) { Tryz.keysS with } Fence.wide _ trivial rfl (by omega) w.heap.size b l.length (mp sLit pv l) _ (by simp) (by simp) (by
      obtain ⟨es, clock, hb, Ft, hs, hD⟩ := hown
      exact ⟨es, clock, (Below.heap_alloc _ _ b hbl).trans hb, Ft, hs, hD⟩)
  have cS := AnyZ.sorted_in Tryz.sortedS Fence.wide 5 trivial trivial trivial trivial rfl (by omega) (sortsS _) (enters_of Tryz.func179 (by kernel_rfl) rfl) 255 #[.pointer (some ⟨w.heap.size, 0, none⟩)] trivial (enters_of Tryz.func255 (by kernel_rfl) rfl) _ _ hmax hbytes _ hseq
  change CallsIn _ _ Tryz.prog 191 _ _ _ at cS
  refine ((callsIn_wide (n := 5)).1 cS).mono ?_
  rintro e w' ⟨v, ss, rfl, hS, hrow, hnil, hb⟩
  rw [keys_words] at hS
  rw [sorted_words hup hS, hS.length_eq] at hrow
  simp only [List.length_map, List.map_map] at hrow
  exact ⟨v, rfl, ownsRow_base_a hrow (by simp), ((Below.refl _ w).alloc (Nat.le_refl _) _).trans (hb.mono (by simp))⟩

/-! ### Lists of keys -/
def Srow (w : World) (v : Value) (ks : List Bs) : Prop :=
  ∃ a cap, v = .slice a ks.length cap ∧ ks.length ≤ cap ∧ (ks ≠ [] → ∃ g off cs, a = some ⟨g, off, none⟩ ∧ Sits w g 9 cs ∧ ∀ (j : Nat) x, ks[j]? = some x → cs[off + j]? = some (.string ⟨x.toArray⟩))

/-- Blocks of a kind stay. -/
def Calm (o : Obj) : Bool :=
  match o with
  | .cells _ t _ => t != 5 && t != 130
  | .map _ _ => true
  | _ => false
def Kp (W W' : World) : Prop := W.heap.size ≤ W'.heap.size ∧ ∀ (k : Nat) (o : Obj), W.heap[k]? = some o → Calm o = true → W'.heap[k]? = some o

theorem Kp.trans {A B C : World} (h : Kp A B) (k : Kp B C) : Kp A C := ⟨Nat.le_trans h.1 k.1, fun i o hi ho => k.2 i o (h.2 i o hi ho) ho⟩
theorem Kp.of_below {A B : World} (h : Below A.heap.size A B) : Kp A B := ⟨h.size, fun i _ hi _ => (h.block i (Array.getElem?_eq_some_iff.1 hi).1).trans hi⟩

theorem Kp.sits {A B : World} (h : Kp A B) {b : Nat} {t : TypeId} {cs : Array Value} (hs : Sits A b t cs) (ht : (t != 5 && t != 130) = true) : Sits B b t cs := h.2 b _ hs ht

theorem Srow.kp {A B : World} {v : Value} {ks : List Bs} (h : Srow A v ks) (k : Kp A B) : Srow B v ks := by
  obtain ⟨a, cap, e, hc, h⟩ := h
  refine ⟨a, cap, e, hc, fun hn => ?_⟩
  obtain ⟨g, off, cs, e1, e2, e3⟩ := h hn
  exact ⟨g, off, cs, e1, k.sits e2 (by decide), e3⟩

theorem Srow.set {w : World} {v u : Value} {ks : List Bs} {R i : Nat} {cs : Array Value} (h : Srow w v ks) (hR : Sits w R 36 cs) : Srow (w.setCell ⟨R, i, none⟩ u) v ks := by
  obtain ⟨a, cap, e, hc, h⟩ := h
  refine ⟨a, cap, e, hc, fun hn => ?_⟩
  obtain ⟨g, off, cs, e1, e2, e3⟩ := h hn
  have hne : g ≠ R := sits_ne e2 hR (by decide)
  exact ⟨g, off, cs, e1, (Below.heap_setCell _ _ _ _ hne).trans e2, e3⟩

theorem Srow.of_row {w : World} {base : Nat} {v : Value} {ks : List Bs} (h : w.ownsRow base 9 1 v ks.length (ks.map fun c => .string ⟨c.toArray⟩)) : Srow w v ks := by
  rcases h.2 with ⟨e, h0⟩ | ⟨g, cap, cur, rfl, hb, hg, hn, _, _, ht⟩
  · exact ⟨none, 0, by rw [e, h0], by omega, fun hn => absurd (List.eq_nil_of_length_eq_zero h0) hn⟩
  · refine ⟨_, cap, rfl, hn, fun _ => ⟨g, 0, cur, rfl, hg, fun j x hx => ?_⟩⟩
    have h2 : (ks.map fun c => Value.string ⟨c.toArray⟩)[j]? = some (.string ⟨x.toArray⟩) := by simp [hx]
    rw [← ht, List.getElem?_take] at h2
    split at h2
    · simpa using h2
    · cases h2

/-- The first is gone. -/
theorem Srow.tail {w : World} {a : Option Addr} {g off cap : Nat} {x : Bs} {ks : List Bs} (h : Srow w (.slice (some ⟨g, off, none⟩) (ks.length + 1) cap) (x :: ks)) (ha : ks ≠ [] → a = some ⟨g, off + 1, none⟩) : Srow w (.slice a ks.length (cap - 1)) ks := by
  obtain ⟨a', cap', e, hc, h⟩ := h
  injection e with e1 e2 e3
  subst e3
  refine ⟨a, cap - 1, rfl, by simp at hc; omega, fun hn => ?_⟩
  obtain ⟨g', off', cs, e4, e5, e6⟩ := h (by simp)
  rw [← e1] at e4
  injection e4 with e4
  injection e4 with e4 e7
  subst e4
  subst e7
  refine ⟨g, off + 1, cs, ha hn, e5, fun j y hy => ?_⟩
  have := e6 (j + 1) y (by simpa using hy)
  rwa [show off + 1 + j = off + (j + 1) by omega]

/-- What is left of each shard's keys. -/
def Rests (w : World) (R n : Nat) (r : List (Bs × Nat)) : Prop :=
  ∃ cs : Array Value, Sits w R 36 cs ∧ cs.size = n ∧ ∀ i, i < n → ∃ v, cs[i]? = some v ∧ Srow w v ((Sh.part n i r).map (·.1))

theorem Rests.kp {A B : World} {R n : Nat} {r : List (Bs × Nat)} (h : Rests A R n r) (k : Kp A B) : Rests B R n r := by
  obtain ⟨cs, h1, h2, h3⟩ := h
  exact ⟨cs, k.sits h1 (by decide), h2, fun i hi => by
    obtain ⟨v, e1, e2⟩ := h3 i hi
    exact ⟨v, e1, e2.kp k⟩⟩

def leastOf (n : Nat) : List (Bs × Nat) → Int
  | [] => -1
  | x :: _ => idx n x.1

theorem part_cons (n i : Nat) (x : Bs × Nat) (r : List (Bs × Nat)) : Sh.part n i (x :: r) = if idx n x.1 = i then x :: Sh.part n i r else Sh.part n i r := by
  unfold Sh.part
  rw [List.filter_cons]
  simp

/-- What the search has found among so many lists. -/
def Found (n : Nat) (r : List (Bs × Nat)) (k : Nat) (at_ : Int) : Prop :=
  (at_ = -1 ∧ ∀ i, i < k → Sh.part n i r = []) ∨ ∃ j : Nat, j < k ∧ at_ = (j : Int) ∧ Sh.part n j r ≠ [] ∧ ∀ x t, r = x :: t → idx n x.1 < k → j = idx n x.1

theorem Found.done {n : Nat} {r : List (Bs × Nat)} {a : Int} (h : Found n r n a) (hn : 0 < n) : a = leastOf n r := by
  cases r with
  | nil =>
    rcases h with ⟨h, _⟩ | ⟨j, _, _, h, _⟩
    · exact h
    · exact absurd rfl h
  | cons x t =>
    have hi := idx_lt hn x.1
    rcases h with ⟨_, h⟩ | ⟨j, _, e, _, h⟩
    · have := h _ hi
      rw [part_cons, if_pos rfl] at this
      cases this
    · rw [e, h x t rfl hi]
      rfl

theorem Found.skip {n : Nat} {r : List (Bs × Nat)} {k : Nat} {a : Int} (h : Found n r k a) (hp : Sh.part n k r = []) : Found n r (k + 1) a := by
  rcases h with ⟨e, h⟩ | ⟨j, h1, h2, h3, h4⟩
  · refine Or.inl ⟨e, fun i hi => ?_⟩
    by_cases e : i = k
    · rw [e]; exact hp
    · exact h i (by omega)
  · refine Or.inr ⟨j, by omega, h2, h3, fun x t e hx => ?_⟩
    by_cases e2 : idx n x.1 = k
    · exfalso
      rw [e, ← e2, part_cons, if_pos rfl] at hp
      cases hp
    · exact h4 x t e (by omega)

theorem Found.first {n : Nat} {r : List (Bs × Nat)} {k : Nat} (h : Found n r k (-1)) (hp : Sh.part n k r ≠ []) : Found n r (k + 1) (k : Int) := by
  rcases h with ⟨_, h⟩ | ⟨j, h1, h2, h3, h4⟩
  · refine Or.inr ⟨k, by omega, rfl, hp, fun x t e hx => ?_⟩
    by_cases e2 : idx n x.1 = k
    · exact e2.symm
    · have := h _ (show idx n x.1 < k by omega)
      rw [e, part_cons, if_pos rfl] at this
      cases this
  · omega

theorem part_head_le {n i : Nat} {x y : Bs × Nat} {t p : List (Bs × Nat)} (hu : Up sLt (x :: t)) (h : Sh.part n i (x :: t) = y :: p) : sLt y.1 x.1 = false ∧ (idx n x.1 ≠ i → sLt x.1 y.1 = true) ∧ (idx n x.1 = i → y = x) := by
  rw [part_cons] at h
  by_cases e : idx n x.1 = i
  · rw [if_pos e] at h
    injection h with h1 h2
    subst h1
    exact ⟨sLt_irr _, fun h => absurd e h, fun _ => rfl⟩
  · rw [if_neg e] at h
    have hy : y ∈ t := by
      have : y ∈ Sh.part n i t := by rw [h]; exact List.mem_cons_self ..
      exact (List.mem_filter.1 this).1
    have hlt : sLt x.1 y.1 = true := (List.pairwise_cons.1 hu).1 y hy
    refine ⟨?_, fun _ => hlt, fun h => absurd h e⟩
    cases hc : sLt y.1 x.1 with
    | false => rfl
    | true =>
      have := sLt_trans _ _ _ hlt hc
      rw [sLt_irr] at this
      cases this

/-- The new list's head is less. -/
theorem Found.less {n : Nat} {r : List (Bs × Nat)} {k j : Nat} {y z : Bs × Nat} {p q : List (Bs × Nat)} (hu : Up sLt r) (h : Found n r k (j : Int)) (hp : Sh.part n k r = y :: p) (hq : Sh.part n j r = z :: q) (hl : sLt y.1 z.1 = true) : Found n r (k + 1) (k : Int) := by
  refine Or.inr ⟨k, by omega, rfl, by rw [hp]; simp, fun x t e hx => ?_⟩
  rcases h with ⟨h1, _⟩ | ⟨j', h1, h2, h3, h4⟩
  · omega
  · have hj : j' = j := by omega
    subst hj
    by_cases e2 : idx n x.1 = k
    · exact e2.symm
    · exfalso
      have h5 := h4 x t e (by omega)
      subst e
      have h6 := (part_head_le hu hq).2.2 h5.symm
      subst h6
      have h7 := (part_head_le hu hp).1
      rw [h7] at hl
      cases hl

theorem Found.more {n : Nat} {r : List (Bs × Nat)} {k j : Nat} {y z : Bs × Nat} {p q : List (Bs × Nat)} (hu : Up sLt r) (h : Found n r k (j : Int)) (hp : Sh.part n k r = y :: p) (hq : Sh.part n j r = z :: q) (hl : sLt y.1 z.1 = false) : Found n r (k + 1) (j : Int) := by
  rcases h with ⟨h1, _⟩ | ⟨j', h1, h2, h3, h4⟩
  · omega
  · have hj : j' = j := by omega
    subst hj
    refine Or.inr ⟨j', by omega, rfl, h3, fun x t e hx => ?_⟩
    by_cases e2 : idx n x.1 = k
    · exfalso
      subst e
      have h5 := (part_head_le hu hp).2.2 e2
      subst h5
      by_cases e3 : idx n y.1 = j'
      · omega
      · have := (part_head_le hu hq).2.1 e3
        rw [this] at hl
        cases hl
    · exact h4 x t e (by omega)

end Go.Proofs.YtenegfafjjknoaaGreatDoor.Kr

namespace Go.Proofs.YtenegfafjjknoaaGreatDoor.Kr
open Go.RowKit Go.Maps Mem Foot Im Wm Hk Hb Hi Hn Plainw Cq Hs Sh Readw Wi Go.Sort Go.Shelf

theorem Srow.head {w : World} {v : Value} {x : Bs} {ks : List Bs} (h : Srow w v (x :: ks)) : ∃ g off cap, v = .slice (some ⟨g, off, none⟩) (ks.length + 1) cap ∧ ks.length + 1 ≤ cap ∧ w.cell? ⟨g, off, none⟩ = some (.string ⟨x.toArray⟩) := by
  obtain ⟨a, cap, e, hc, h⟩ := h
  obtain ⟨g, off, cs, e4, e5, e6⟩ := h (by simp)
  subst e4
  exact ⟨g, off, cap, e, hc, e5.cell off _ (e6 0 x rfl)⟩

theorem Srow.nil_ {w : World} {v : Value} (h : Srow w v []) : ∃ a cap, v = .slice a 0 cap := by
  obtain ⟨a, cap, e, _, _⟩ := h
  exact ⟨a, cap, e⟩

set_option maxRecDepth 10000 in
set_option maxHeartbeats 2000000 in
theorem leastHead (R n : Nat) (r : List (Bs × Nat)) (w : World) (h : Rests w R n r) (hu : Up sLt r) (hn0 : 0 < n) (hn : n ≤ 16) (hr : r.length ≤ 1000) :
    Calls Tryz.prog 147 #[.slice (some ⟨R, 0, none⟩) n n] w fun e w' => e = .returned (.int .i64 (leastOf n r)) ∧ Below w.heap.size w w' := by
  have HR := hide h
  have HU := hide hu
  clear h hu
  go_enter Tryz.func147, Tryz.ntmps147
  go_wp2_with fail
  go_loopw [3, 8] (fun a i wr => ∃ (k : Nat) (at_ : Int), a = .int .i64 at_ ∧ i = .int .i64 (k : Int) ∧ k ≤ n ∧ Hid (Found n r k at_) ∧ Hid (Below w.heap.size w wr)) (fun _ i _ => n - (intOf i).toNat)
  case atStart => exact ⟨0, -1, rfl, rfl, by omega, Or.inl ⟨rfl, by omega⟩, Below.refl _ _⟩
  case round =>
    obtain ⟨k, a, rfl, rfl, hk, HF, HB⟩ := hrel
    by_cases hkn : k < n
    · have hkz : (k : Int) < (n : Int) := by omega
      obtain ⟨cs, h1, h2, h3⟩ := HR.out.kp (Kp.of_below HB.out)
      obtain ⟨v, e1, e2⟩ := h3 k hkn
      have ck := h1.cell k _ e1
      cases hp : Sh.part n k r with
      | nil =>
        rw [hp] at e2
        obtain ⟨a', cap, rfl⟩ := e2.nil_
        have HP := hide hp
        have HS := hide (And.intro h1 (And.intro h2 h3))
        clear hp e2 h1 h2 h3 e1
        go_wp2_with fail
        go_quiet (fail)
        go_wp2_with fail
        exact ⟨⟨k + 1, a, rfl, by go_num, by omega, HF.out.skip HP.out, below_drewN' HB.out⟩, by simp only [intOf]; omega⟩
      | cons y p =>
        rw [hp] at e2
        simp only [List.map_cons] at e2
        obtain ⟨g, off, cap, rfl, hcap, cg⟩ := e2.head
        have HP := hide hp
        rw [List.length_map] at ck hcap e2 e1
        have hpl : p.length ≤ 1000 := by
          have : (Sh.part n k r).length ≤ r.length := List.length_filter_le _ _
          rw [hp] at this
          simp at this
          omega
        have hz1 : (0 : Int) < (p.length : Int) + 1 := by omega
        have hz2 : 0 < p.length + 1 := by omega
        by_cases ha : a = -1
        · subst ha
          clear hp e2 h1 h2 h3 e1
          go_wp2_with fail
          go_quiet (fail)
          go_wp2_with fail
          exact ⟨⟨k + 1, k, rfl, by go_num, by omega, HF.out.first (by rw [HP.out]; simp), below_drewN' HB.out⟩, by simp only [intOf]; omega⟩
        · obtain ⟨j, rfl, hjk, z, q, hq⟩ : ∃ j : Nat, a = (j : Int) ∧ j < k ∧ ∃ z q, Sh.part n j r = z :: q := by
            rcases HF.out with ⟨h, _⟩ | ⟨j, h1, h2, h3, _⟩
            · exact absurd h ha
            · obtain ⟨z, q, hq⟩ := List.exists_cons_of_ne_nil h3
              exact ⟨j, h2, h1, z, q, hq⟩
          obtain ⟨v', e1', e2'⟩ := h3 j (by omega)
          have cj := h1.cell j _ e1'
          rw [hq] at e2'
          simp only [List.map_cons] at e2'
          obtain ⟨g', off', cap', rfl, hcap', cg'⟩ := e2'.head
          rw [List.length_map] at cj hcap' e2' e1'
          have HQ := hide hq
          have hjn : (j : Int) < (n : Int) := by omega
          have hj0 : ¬ (j : Int) < 0 := by omega
          have hql : q.length ≤ 1000 := by
            have : (Sh.part n j r).length ≤ r.length := List.length_filter_le _ _
            rw [hq] at this
            simp at this
            omega
          have hz3 : 0 < q.length + 1 := by omega
          have hz4 : (0 : Int) < (q.length : Int) + 1 := by omega
          clear hp hq e2 e2' h1 h2 h3 e1 e1' ha
          have HLS := hide (bytesLess_eq y.1 z.1)
          go_wp2_with fail
          go_quiet (fail)
          all_goals go_wp2_with fail
          · rename_i hc
            have hl : sLt y.1 z.1 = true := by
              rw [sLt, ← HLS.out]
              rcases hc with hc | hc
              · omega
              · exact hc
            exact ⟨⟨k + 1, k, rfl, by go_num, by omega, HF.out.less HU.out HP.out HQ.out hl, below_drewN' HB.out⟩, by simp only [intOf]; omega⟩
          · rename_i hc
            have hl : sLt y.1 z.1 = false := by rw [sLt, ← HLS.out]; exact hc.2
            exact ⟨⟨k + 1, j, rfl, by go_num, by omega, HF.out.more HU.out HP.out HQ.out hl, below_drewN' HB.out⟩, by simp only [intOf]; omega⟩
    · have hkz : ¬ (k : Int) < (n : Int) := by omega
      have hk2 : k = n := by omega
      subst hk2
      have HE := hide (HF.out.done hn0)
      go_wp2_with fail
      go_ret
      rw [HE.out]
      exact ⟨rfl, HB.out⟩


theorem infoKeys : (Tryz.prog.info? 36).map (fun i => (i.zero, i.size, i.bytes)) = some (some (.slice none 0 0), 1, 24) := by kernel_rfl

/-- Lists of which so many are made. -/
def Listing (w wr : World) (R n k : Nat) (ent : List (Bs × Nat)) : Prop :=
  ∃ cs : Array Value, Sits wr R 36 cs ∧ cs.size = n ∧ (∀ i, i < k → ∃ v, cs[i]? = some v ∧ Srow wr v ((Sh.part n i ent).map (·.1))) ∧ Below w.heap.size w wr

set_option maxRecDepth 10000 in
set_option maxHeartbeats 4000000 in
theorem sortedKeys (M R : Nat) (bs : List Nat) (ent : List (Bs × Nat)) (w : World) (h : ShAt w M R bs ent) (hu : Up sLt ent) (hl : ent.length ≤ 1000) :
    Calls Tryz.prog 146 #[.pointer (some ⟨M, 0, none⟩)] w fun e w' => e = .returned (.slice (some ⟨w.heap.size, 0, none⟩) bs.length bs.length) ∧ Rests w' w.heap.size bs.length ent ∧ Below w.heap.size w w' := by
  have c0 := h.head.cell 0 _ rfl
  have hm := h.most
  obtain ⟨cs0, hcs0, hmk⟩ := made 195 36 _ 24 Tryz.underlying195 infoKeys bs.length (by omega) (by omega) w
  have HL0 := hide (show Listing w (w.alloc (.cells cs0 36)) w.heap.size bs.length 0 ent from ⟨cs0, Sits.new _ _ _, hcs0, by omega, below_new _⟩)
  have d0 := (h.head.alloc (.cells cs0 36)).cell 0 _ rfl
  have HS := hide h
  have HU := hide hu
  clear h hu
  go_enter Tryz.func146, Tryz.ntmps146
  go_wp2_with fail
  generalize w.alloc (.cells cs0 36) = w0 at *
  clear hmk c0 d0
  go_loopw [17] (fun i wr => ∃ k : Nat, i = .int .i64 (k : Int) ∧ k ≤ bs.length ∧ Hid (Listing w wr w.heap.size bs.length k ent)) (fun i _ => bs.length - (intOf i).toNat)
  case atStart => exact ⟨0, rfl, by omega, HL0.out⟩
  case round =>
    obtain ⟨k, rfl, hk, HI⟩ := hrel
    by_cases hkn : k < bs.length
    · have hkz : (k : Int) < (bs.length : Int) := by omega
      obtain ⟨cs, hS, hsz, hbs, hB⟩ := HI.out
      have HS1 := hide (HS.out.keep hB)
      obtain ⟨b, hb⟩ : ∃ b, bs[k]? = some b := ⟨_, List.getElem?_eq_getElem hkn⟩
      have ck := HS1.out.cell hb
      have HBB := hide hb
      have HS2 := hide hS
      have HBS := hide hbs
      have HB := hide hB
      clear hb hS hbs hB
      have HC := hide (sortedC wr b _ (HS1.out.maps k b HBB.out) (HU.out.filter _) (Nat.le_trans (List.length_filter_le _ _) hl))
      go_wp2_with fail
      refine (keysC _ _).mono ?_
      rintro e w3 ⟨rfl, rfl⟩
      go_wp2_with fail
      refine HC.out.mono ?_
      rintro e w3 ⟨v, rfl, hrow, hb3⟩
      have HS3 := hide (HS2.out.below hb3 HS2.out.lt)
      have c3 := HS3.out.cell k (cs[k]'(by omega)) (by simp [hsz, hkn])
      have f3 := HS3.out.frozen k
      have HRW := hide (Srow.of_row (ks := (Sh.part bs.length k ent).map (·.1)) (by simpa [Function.comp_def] using hrow))
      obtain ⟨a3, n3, cap3, rfl⟩ : ∃ a3 n3 cap3, v = .slice a3 n3 cap3 := by
        obtain ⟨a, cap, e, _⟩ := HRW.out
        exact ⟨_, _, _, e⟩
      have HB3 := hide hb3
      clear hrow hb3 ck
      go_wp2_with fail
      go_roundw
      case rel =>
        refine ⟨k + 1, by go_num, by omega, _, HS3.out.set k _, by simp [hsz], fun i hi => ?_, (HB.out.trans (HB3.out.mono HB.out.size)).setCell (p := ⟨w.heap.size, k, none⟩) (Nat.le_refl _) _⟩
        by_cases e : i = k
        · subst e
          exact ⟨_, by simp [hsz, hkn], HRW.out.set HS3.out⟩
        · obtain ⟨v, e1, e2⟩ := HBS.out i (by omega)
          refine ⟨v, ?_, (e2.kp (Kp.of_below HB3.out)).set HS3.out⟩
          rw [Array.getElem?_setIfInBounds_ne (fun h => e h.symm)]
          exact e1
      case measure => simp only [intOf]; omega
    · have hkz : ¬ (k : Int) < (bs.length : Int) := by omega
      have hk2 : k = bs.length := by omega
      subst hk2
      go_wp2_with fail
      go_ret
      obtain ⟨cs, h1, h2, h3, h4⟩ := HI.out
      exact ⟨rfl, ⟨cs, h1, h2, h3⟩, h4⟩

end Go.Proofs.YtenegfafjjknoaaGreatDoor.Kr
