/- Messages: how they lie in a map; maps.Values over such a map, for every loop body. -/
import Derived.RangeFuncBox
import Derived.RangeFuncNested
import Derived.RangeFuncBound
import Derived.RangeFuncCalls
import Derived.RangeFuncLeaves
import Derived.Shelf.Abstract
import Derived.WalkKit
import Derived.OwnWalkIn
import Derived.TacticsInMore
import Derived.LoopNIn
import Derived.LoopIn
import Derived.Maps.AppendAt
import Derived.Maps.OwnIn
import Derived.Sort.MapsRangeIn
import Derived.Lib.SlKeysI
import Derived.Test.YtenegfafjjknoaaIm
import Derived.Test.YtenegfafjjknoaaApo
namespace Go.Proofs.Ytenegfafjjknoaa.Sk
open Go.RowKit Go.Maps Go.Shelf Mem Foot Im
attribute [local go_sem] Oper.semAt_some

/-- A message. -/
structure Ms where
  k : Int
  t : ByteArray

def mv (m : Ms) : Value := .agg #[.int .i64 m.k, .string m.t]

def okM : Value → Bool
  | .agg cs => match cs.toList with
    | [.int .i64 _, .string _] => true
    | _ => false
  | _ => false

theorem okM_mv (m : Ms) : okM (mv m) = true := rfl

theorem okM_inv {v : Value} (h : okM v = true) : ∃ m, v = mv m := by
  unfold okM at h
  split at h
  · rename_i cs
    split at h
    · rename_i k t e
      refine ⟨⟨k, t⟩, ?_⟩
      have : cs = #[.int .i64 k, .string t] := by
        apply Array.toList_inj.1
        rw [e]
      rw [this]
      rfl
    · cases h
  · cases h

theorem mv_inj {m m' : Ms} (h : mv m = mv m') : m = m' := by
  cases m
  cases m'
  simp [mv] at h
  simp [h]

def ents (l : List Ms) : List (Int × Ms) := l.map fun m => (m.k, m)
/-- The map of these messages. -/
def D (l : List Ms) : DataW Value := mp iLit mv (ents l)

theorem get_ents {k : Int} {l : List Ms} {m : Ms} (h : getE k (ents l) = some m) : m ∈ l ∧ m.k = k := by
  unfold getE ents at h
  rw [List.find?_map] at h
  simp only [Option.map_map, Option.map_eq_some_iff, Function.comp_apply] at h
  obtain ⟨x, h1, h2⟩ := h
  have h3 := List.find?_some h1
  have h4 := List.mem_of_find?_eq_some h1
  simp at h3
  subst h2
  exact ⟨h4, h3⟩

theorem at_D {k : Int} {l : List Ms} {v : Value} (h : ∀ zd, (D l).atKey (.int .i64 k) zd = .held v) : ∃ m ∈ l, m.k = k ∧ v = mv m := by
  have h0 := h (.agg [])
  rw [D, show Lit.int .i64 k = iLit k from rfl, mp_at iLit_same] at h0
  split at h0
  · rename_i m hm
    injection h0 with h0
    obtain ⟨h1, h2⟩ := get_ents hm
    exact ⟨m, h1, h2, h0.symm⟩
  · cases h0

theorem D_size (l : List Ms) : Maps.size (D l) = l.length := by
  rw [D, mp_size]
  simp [ents]

theorem D_keys (l : List Ms) : intKeys (D l) = l.map (·.k) := by
  unfold D mp ents
  simp [intKeys, iLit, intOf, Function.comp_def]

theorem uniq {ms : List Ms} (hn : (ms.map (·.k)).Nodup) {a b : Ms} (ha : a ∈ ms) (hb : b ∈ ms) (e : a.k = b.k) : a = b := by
  induction ms with
  | nil => cases ha
  | cons x r ih =>
    rw [List.map_cons, List.nodup_cons] at hn
    obtain ⟨h1, h2⟩ := hn
    rcases List.mem_cons.1 ha with ea | ha'
    · rcases List.mem_cons.1 hb with eb | hb'
      · rw [ea, eb]
      · exact absurd (List.mem_map.2 ⟨b, hb', by rw [← e, ea]⟩) h1
    · rcases List.mem_cons.1 hb with eb | hb'
      · exact absurd (List.mem_map.2 ⟨a, ha', by rw [e, eb]⟩) h1
      · exact ih h2 ha' hb'

theorem perm_of_keys {l ms : List Ms} (hn : (ms.map (·.k)).Nodup) (hk : (l.map (·.k)).Perm (ms.map (·.k))) (hm : ∀ x ∈ l, x ∈ ms) : l.Perm ms := by
  have hl : (l.map (·.k)).Nodup := hk.nodup_iff.2 hn
  have n1 : l.Nodup := by
    rw [List.nodup_iff_pairwise_ne] at hl ⊢
    rw [List.pairwise_map] at hl
    exact hl.imp fun {a b} h e => h (by rw [e])
  have n2 : ms.Nodup := by
    rw [List.nodup_iff_pairwise_ne] at hn ⊢
    rw [List.pairwise_map] at hn
    exact hn.imp fun {a b} h e => h (by rw [e])
  refine (List.perm_ext_iff_of_nodup n1 n2).2 fun x => ⟨hm x, fun hx => ?_⟩
  have : x.k ∈ l.map (·.k) := hk.mem_iff.2 (List.mem_map.2 ⟨x, hx, rfl⟩)
  obtain ⟨y, hy, e⟩ := List.mem_map.1 this
  rw [← uniq hn (hm y hy) hx e]
  exact hy

set_option maxRecDepth 100000 in
set_option maxHeartbeats 1000000 in
/-- The iterator that maps.Values hands back. -/
theorem values1 (F : Fence) (n : Nat) (hf : F.fn 27) (hro : F.round = none) (hn : 1 ≤ n) (l Bm b nn : Nat) (ms : List Ms) (hms : (ms.map (·.k)).Nodup) (J Jx : List Ms → World → Prop)
    (hY : ∀ pre x W, J pre W → pre.length < ms.length → YieldAt F (n - 1) Try.prog l #[mv x] W fun e W' =>
      (e = .returned (.bool true) ∧ J (pre ++ [x]) W' ∧ KeepsWalks W W') ∨ (e = .returned (.bool false) ∧ Jx (pre ++ [x]) W'))
    (W : World) (hJ : AbidesFrom W.heap.size J) (hm : W.cell? ⟨Bm, 0, none⟩ = some (.map (some b))) (hown : W.ownsMap Try.prog 3 (exE okM) b nn (D ms)) (h0 : J [] W) :
    CallsIn F n Try.prog 27 #[.func (.yield l) #[] #[], .pointer (some ⟨Bm, 0, none⟩)] W fun e W' => (∃ v, e = .returned v) ∧
      ((∃ xs, xs.Perm ms ∧ J xs W') ∨ (∃ pre, True ∧ Jx pre W')) := by
  refine callsIn_of_wp Try.func27 rfl hf ?_ hro
  simp only [Try.ntmps27, List.size_toArray, List.length_cons, List.length_nil, Nat.reduceAdd, Nat.reduceSub, Array.replicate_succ, Array.replicate_zero, List.push_toArray, List.append_toArray, List.nil_append, List.cons_append]
  gi_wp2_with (first
    | (gi_at_range; refine wpListIn_range_own _ rfl _ 42 rfl 3 36 (int_keyed Try.underlying3) Try.underlying42 _ b nn _ rfl hown ?_; intro w0 hrg0 hg0 hs0)
    | gi_in)
  go_frame
  gi_loopw [4] (fun _ wr => ∃ (left : Lit → Bool) (cnt : Nat) (xs : List Ms), wr.ranges Try.prog 3 (exE okM) b W.heap.size nn (D ms) left cnt ∧ xs.length + cnt ≤ ms.length ∧ CollectedI (D ms) left (xs.map (·.k)) ∧ (∀ x ∈ xs, x ∈ ms) ∧ J xs wr)
    (fun _ wr => wr.rangeLeft b W.heap.size)
  case atStart =>
    exact ⟨_, _, [], hrg0, by simp [D_size], CollectedI.start _, by simp, hJ [] W w0 none h0 hg0 (fun r e => by cases e)⟩
  case round =>
    obtain ⟨left, cnt, xs, hrg, hcs, hC, hV, hJs⟩ := hrel
    gi_wp2_with (first
      | (gi_at_next; refine wpListIn_next_ranges _ rfl _ rfl 3 (int_keyed Try.underlying3) (exE okM) encZ mv (fun key kl hk => by obtain ⟨x, hx, _⟩ := Maps.keyOf_i64 Try.underlying3 hk; exact ⟨x, hx⟩) (fun v y hv => okM_inv (exE_inv hv).1) b W.heap.size nn _ _ _ rfl hrg ?_ ?_)
      | gi_in)
    · intro hc0 hl0
      gi_wp2
      go_end0
      refine ⟨⟨_, rfl⟩, .inl ⟨xs, ?_, hJs⟩⟩
      have := hC.perm hown (int_keyed Try.underlying3) Try.underlying3 hl0
      rw [D_keys] at this
      exact perm_of_keys hms this hV
    · intro x c kl yd yp w2 cnt2 hkey hlk hv hat hrg2 hlt hg2 hs2 hen
      obtain ⟨x', ex, rfl, _⟩ := Maps.keyOf_i64 Try.underlying3 hkey
      obtain rfl : x = x' := encZ_inj ex
      obtain rfl : yd = .held (mv c) := (Prod.mk.inj (exE_inv hv).2).1
      obtain ⟨c', hc1, hc2, hc3⟩ := at_D hat
      obtain rfl : c = c' := mv_inj hc3
      have hJ2 : J xs w2 := hJ xs wr w2 (some W.heap.size) hJs hg2 (fun r e => by cases e; exact ⟨Nat.le_refl _, hrg.iter_walk⟩)
      have hC2 : CollectedI (D ms) (fun z => left z && !z.sameKey (.int .i64 x)) ((xs ++ [c]).map (·.k)) := by
        rw [List.map_append, List.map_singleton, hc2]
        exact hC.step hlk hat
      have hV2 : ∀ p ∈ xs ++ [c], p ∈ ms := fun p hp => (List.mem_append.1 hp).elim (hV p) (fun e => by simp at e; subst e; exact hc1)
      clear hs2
      have hJ3 : J xs (w2.alloc (.cells #[.int .i64 c.k, .string c.t] 36)) := hJ xs w2 _ none hJ2 (World.grownBy_alloc _ _ _) (fun r e => by cases e)
      obtain ⟨fn, tmps, assign, body, hy, hR⟩ := hY xs c _ hJ3 (by omega)
      simp only [mv] at hen hy ⊢
      clear hc2 hc3 ex hJ2 hJ3
      gi_wp2
      refine hR.mono ?_
      rintro e W4 (⟨rfl, hJ4, hk4⟩ | ⟨rfl, hJx4⟩)
      · gi_wp2
        have hrg3 := (hrg2.of_walks (KeepsWalks.alloc _ _)).of_walks hk4
        go_roundw
        case rel => exact ⟨_, cnt2, xs ++ [c], hrg3, by simp; omega, hC2, hV2, hJ4⟩
        case measure => rw [hrg3.left_eq, hrg.left_eq]; exact hlt
      · gi_wp2
        refine bodyPost_ret (results_none rfl _ _ _) rfl ?_
        exact ⟨⟨_, rfl⟩, .inr ⟨xs ++ [c], trivial, hJx4⟩⟩

end Go.Proofs.Ytenegfafjjknoaa.Sk
