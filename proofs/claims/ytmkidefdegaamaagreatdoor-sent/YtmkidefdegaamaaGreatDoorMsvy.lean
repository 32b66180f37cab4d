/- Messages: how they lie in a map; maps.Values over such a map, for every loop body. -/
import Derived.RangeFuncBox
import Derived.RangeFuncNested
import Derived.RangeFuncBound
import Derived.RangeFuncCalls
import Derived.RangeFuncLeaves
import Derived.Shelf.Abstract
import Derived.WalkKit
import Derived.OwnWalkIn
import Derived.TacticsInMore
import Derived.LoopNIn
import Derived.LoopIn
import Derived.Maps.AppendAt
import Derived.Maps.OwnIn
import Derived.Sort.MapsRangeIn
import Derived.Lib.SlKeysI
import Derived.Test.YtmkidefdegaamaaGreatDoorWmy
import Derived.WalkSmall
namespace Go.Proofs.YtmkidefdegaamaaGreatDoor.Sk
open Go.RowKit Go.Maps Go.Shelf Mem Foot Im
attribute [local go_sem] Oper.semAt_some
/-- A message. -/
structure Ms where
  k : Int
  t : ByteArray
def mv (m : Ms) : Value := .agg #[.int .i64 m.k, .string m.t]
def okM : Value → Bool
  | .agg cs => match cs.toList with
    | [.int .i64 _, .string _] => true
    | _ => false
  | _ => false
theorem okM_mv (m : Ms) : okM (mv m) = true := rfl
theorem okM_inv {v : Value} (h : okM v = true) : ∃ m, v = mv m := by
  unfold okM at h
  split at h
  · rename_i cs
    split at h
    · rename_i k t e
      refine ⟨⟨k, t⟩, ?_⟩
      have : cs = #[.int .i64 k, .string t] := by
        apply Array.toList_inj.1
        rw [e]
      rw [this]
      rfl
    · cases h
  · cases h
theorem mv_inj {m m' : Ms} (h : mv m = mv m') : m = m' := by
  cases m
  cases m'
  simp [mv] at h
  simp [h]
def ents (l : List Ms) : List (Int × Ms) := l.map fun m => (m.k, m)
/-- The map of these messages. -/
def D (l : List Ms) : DataW Value := mp iLit mv (ents l)
theorem get_ents {k : Int} {l : List Ms} {m : Ms} (h : getE k (ents l) = some m) : m ∈ l ∧ m.k = k := by
  unfold getE ents at h
  rw [List.find?_map] at h
  simp only [Option.map_map, Option.map_eq_some_iff, Function.comp_apply] at h
  obtain ⟨x, h1, h2⟩ := h
  have h3 := List.find?_some h1
  have h4 := List.mem_of_find?_eq_some h1
  simp at h3
  subst h2
  exact ⟨h4, h3⟩
theorem at_D {k : Int} {l : List Ms} {v : Value} (h : ∀ zd, (D l).atKey (.int .i64 k) zd = .held v) : ∃ m ∈ l, m.k = k ∧ v = mv m := by
  have h0 := h (.agg [])
  rw [D, show Lit.int .i64 k = iLit k from rfl, mp_at iLit_same] at h0
  split at h0
  · rename_i m hm
    injection h0 with h0
    obtain ⟨h1, h2⟩ := get_ents hm
    exact ⟨m, h1, h2, h0.symm⟩
  · cases h0
theorem D_size (l : List Ms) : Maps.size (D l) = l.length := by
  rw [D, mp_size]
  simp [ents]
theorem D_keys (l : List Ms) : intKeys (D l) = l.map (·.k) := by
  unfold D mp ents
  simp [intKeys, iLit, intOf, Function.comp_def]
theorem uniq {ms : List Ms} (hn : (ms.map (·.k)).Nodup) {a b : Ms} (ha : a ∈ ms) (hb : b ∈ ms) (e : a.k = b.k) : a = b := by
  induction ms with
  | nil => cases ha
  | cons x r ih =>
    rw [List.map_cons, List.nodup_cons] at hn
    obtain ⟨h1, h2⟩ := hn
    rcases List.mem_cons.1 ha with ea | ha'
    · rcases List.mem_cons.1 hb with eb | hb'
      · rw [ea, eb]
      · exact absurd (List.mem_map.2 ⟨b, hb', by rw [← e, ea]⟩) h1
    · rcases List.mem_cons.1 hb with eb | hb'
      · exact absurd (List.mem_map.2 ⟨a, ha', by rw [e, eb]⟩) h1
      · exact ih h2 ha' hb'
theorem perm_of_keys {l ms : List Ms} (hn : (ms.map (·.k)).Nodup) (hk : (l.map (·.k)).Perm (ms.map (·.k))) (hm : ∀ x ∈ l, x ∈ ms) : l.Perm ms := by
  have hl : (l.map (·.k)).Nodup := hk.nodup_iff.2 hn
  have n1 : l.Nodup := by
    rw [List.nodup_iff_pairwise_ne] at hl ⊢
    rw [List.pairwise_map] at hl
    exact hl.imp fun {a b} h e => h (by rw [e])
  have n2 : ms.Nodup := by
    rw [List.nodup_iff_pairwise_ne] at hn ⊢
    rw [List.pairwise_map] at hn
    exact hn.imp fun {a b} h e => h (by rw [e])
  refine (List.perm_ext_iff_of_nodup n1 n2).2 fun x => ⟨hm x, fun hx => ?_⟩
  have : x.k ∈ l.map (·.k) := hk.mem_iff.2 (List.mem_map.2 ⟨x, hx, rfl⟩)
  obtain ⟨y, hy, e⟩ := List.mem_map.1 this
  rw [← uniq hn (hm y hy) hx e]
  exact hy
set_option maxRecDepth 100000 in
set_option maxHeartbeats 1000000 in
/-- The iterator that maps.Values hands back. -/
theorem values1 (F : Fence) (n : Nat) (hf : F.fn 96) (hro : F.round = none) (hn : 1 ≤ n) (l Bm b nn : Nat) (ms : List Ms) (hms : (ms.map (·.k)).Nodup) (J Jx : List Ms → World → Prop)
    (hY : ∀ pre x W, J pre W → pre.length < ms.length → YieldAt F (n - 1) Tryz.prog l #[mv x] W fun e W' =>
      (e = .returned (.bool true) ∧ J (pre ++ [x]) W' ∧ KeepsWalks W W') ∨ (e = .returned (.bool false) ∧ Jx (pre ++ [x]) W'))
    (W : World) (hJ : AbidesFrom W.heap.size J) (hm : W.cell? ⟨Bm, 0, none⟩ = some (.map (some b))) (hown : W.ownsMap Tryz.prog 3 (exE okM) b nn (D ms)) (h0 : J [] W) :
    CallsIn F n Tryz.prog 96 #[.func (.yield l) #[] #[], .pointer (some ⟨Bm, 0, none⟩)] W fun e W' => (∃ v, e = .returned v) ∧
      ((∃ xs, xs.Perm ms ∧ J xs W') ∨ (∃ pre, True ∧ Jx pre W')) := by
  refine callsIn_of_wp Tryz.func96 rfl hf ?_ hro
  simp only [Tryz.ntmps96, List.size_toArray, List.length_cons, List.length_nil, Nat.reduceAdd, Nat.reduceSub, Array.replicate_succ, Array.replicate_zero, List.push_toArray, List.append_toArray, List.nil_append, List.cons_append]
  gi_wp2_with (first
    | (gi_at_range; refine wpListIn_range_own _ rfl _ 67 rfl 3 44 (int_keyed Tryz.underlying3) Tryz.underlying67 _ b nn _ rfl hown ?_; intro w0 hrg0 hg0 hs0)
    | gi_in)
  go_frame
  gi_loopw [4] (fun _ wr => ∃ (left : Lit → Bool) (cnt : Nat) (xs : List Ms), wr.ranges Tryz.prog 3 (exE okM) b W.heap.size nn (D ms) left cnt ∧ xs.length + cnt ≤ ms.length ∧ CollectedI (D ms) left (xs.map (·.k)) ∧ (∀ x ∈ xs, x ∈ ms) ∧ J xs wr)
    (fun _ wr => wr.rangeLeft b W.heap.size)
  case atStart =>
    exact ⟨_, _, [], hrg0, by simp [D_size], CollectedI.start _, by simp, hJ [] W w0 none h0 hg0 (fun r e => by cases e)⟩
  case round =>
    obtain ⟨left, cnt, xs, hrg, hcs, hC, hV, hJs⟩ := hrel
    gi_wp2_with (first
      | (gi_at_next; refine wpListIn_next_ranges _ rfl _ rfl 3 (int_keyed Tryz.underlying3) (exE okM) encZ mv (fun key kl hk => by obtain ⟨x, hx, _⟩ := Maps.keyOf_i64 Tryz.underlying3 hk; exact ⟨x, hx⟩) (fun v y hv => okM_inv (exE_inv hv).1) b W.heap.size nn _ _ _ rfl hrg ?_ ?_)
      | gi_in)
    · intro hc0 hl0
      gi_wp2
      go_end0
      refine ⟨⟨_, rfl⟩, .inl ⟨xs, ?_, hJs⟩⟩
      have := hC.perm hown (int_keyed Tryz.underlying3) Tryz.underlying3 hl0
      rw [D_keys] at this
      exact perm_of_keys hms this hV
    · intro x c kl yd yp w2 cnt2 hkey hlk hv hat hrg2 hlt hg2 hs2 hen
      obtain ⟨x', ex, rfl, _⟩ := Maps.keyOf_i64 Tryz.underlying3 hkey
      obtain rfl : x = x' := encZ_inj ex
      obtain rfl : yd = .held (mv c) := (Prod.mk.inj (exE_inv hv).2).1
      obtain ⟨c', hc1, hc2, hc3⟩ := at_D hat
      obtain rfl : c = c' := mv_inj hc3
      have hJ2 : J xs w2 := hJ xs wr w2 (some W.heap.size) hJs hg2 (fun r e => by cases e; exact ⟨Nat.le_refl _, hrg.iter_walk⟩)
      have hC2 : CollectedI (D ms) (fun z => left z && !z.sameKey (.int .i64 x)) ((xs ++ [c]).map (·.k)) := by
        rw [List.map_append, List.map_singleton, hc2]
        exact hC.step hlk hat
      have hV2 : ∀ p ∈ xs ++ [c], p ∈ ms := fun p hp => (List.mem_append.1 hp).elim (hV p) (fun e => by simp at e; subst e; exact hc1)
      clear hs2
      have hJ3 : J xs (w2.alloc (.cells #[.int .i64 c.k, .string c.t] 44)) := hJ xs w2 _ none hJ2 (World.grownBy_alloc _ _ _) (fun r e => by cases e)
      obtain ⟨fn, tmps, assign, body, hy, hR⟩ := hY xs c _ hJ3 (by omega)
      simp only [mv] at hen hy ⊢
      clear hc2 hc3 ex hJ2 hJ3
      gi_wp2
      refine hR.mono ?_
      rintro e W4 (⟨rfl, hJ4, hk4⟩ | ⟨rfl, hJx4⟩)
      · gi_wp2
        have hrg3 := (hrg2.of_walks (KeepsWalks.alloc _ _)).of_walks hk4
        go_roundw
        case rel => exact ⟨_, cnt2, xs ++ [c], hrg3, by simp; omega, hC2, hV2, hJ4⟩
        case measure => rw [hrg3.left_eq, hrg.left_eq]; exact hlt
      · gi_wp2
        refine bodyPost_ret (results_none rfl _ _ _) rfl ?_
        exact ⟨⟨_, rfl⟩, .inr ⟨xs ++ [c], trivial, hJx4⟩⟩
end Go.Proofs.YtmkidefdegaamaaGreatDoor.Sk
namespace Go.Proofs.YtmkidefdegaamaaGreatDoor.Sk
open Go.RowKit Go.Maps Go.Shelf Mem Foot Im
attribute [local go_sem] Oper.semAt_some
/-- Messages' cells, one behind the other. -/
def mcells : List Ms → List Value
  | [] => []
  | m :: l => .int .i64 m.k :: .string m.t :: mcells l
theorem mcells_append (l r : List Ms) : mcells (l ++ r) = mcells l ++ mcells r := by
  induction l with
  | nil => rfl
  | cons m l ih => simp [mcells, ih]
theorem mcells_length (l : List Ms) : (mcells l).length = l.length * 2 := by
  induction l with
  | nil => rfl
  | cons m l ih =>
    simp [mcells, ih]
    omega
/-- What the map holds; a nil one nothing. -/
def Mapped (w : World) (mb : Option Nat) (ms : List Ms) : Prop :=
  match mb with
  | none => ms = []
  | some b => ∃ nn, w.ownsMap Tryz.prog 3 (exE okM) b nn (D ms)
set_option maxRecDepth 100000 in
set_option maxHeartbeats 1000000 in
theorem values1_nil (F : Fence) (n : Nat) (hf : F.fn 96) (hro : F.round = none) (l Bm : Nat) (J : List Ms → World → Prop)
    (W : World) (hJ : AbidesFrom W.heap.size J) (hm : W.cell? ⟨Bm, 0, none⟩ = some (.map none)) (h0 : J [] W) :
    CallsIn F n Tryz.prog 96 #[.func (.yield l) #[] #[], .pointer (some ⟨Bm, 0, none⟩)] W fun e W' => (∃ v, e = .returned v) ∧ J [] W' := by
  refine callsIn_of_wp Tryz.func96 rfl hf ?_ hro
  simp only [Tryz.ntmps96, List.size_toArray, List.length_cons, List.length_nil, Nat.reduceAdd, Nat.reduceSub, Array.replicate_succ, Array.replicate_zero, List.push_toArray, List.append_toArray, List.nil_append, List.cons_append]
  have hrg := run_range_nilMap (P := Tryz.prog) W 67 3 44 Tryz.underlying67
  have hnx : ∀ ty, (Instr.next (.pointer (some ⟨W.heap.size, 0, none⟩)) false ty).run Tryz.prog (W.alloc (.mapIter none 0 #[] 0)) = _ := fun ty => run_next_nilMap _ ty 0 0 #[]
  gi_wp2
  refine wpIn_loop_rounds 1 ?_
  rw [roundsIn_succ]
  gi_wp2
  go_end0
  exact ⟨⟨_, rfl⟩, hJ [] W _ none h0 (World.grownBy_alloc W _ none) (fun r e => by cases e)⟩
/-- What maps.Values hands back. -/
theorem values_stops (F : Fence) (n : Nat) (hf : F.fn 96) (hro : F.round = none) (hn : 1 ≤ n) (Bm : Nat) (mb : Option Nat) (ms : List Ms) (hms : (ms.map (·.k)).Nodup) (w : World) (hBm : Bm < w.heap.size)
    (hm : w.cell? ⟨Bm, 0, none⟩ = some (.map mb)) (hown : Mapped w mb ms) :
    SeqStopsK F n Tryz.prog 96 #[.pointer (some ⟨Bm, 0, none⟩)] (fun m => #[mv m]) KeepsWalks (fun xs => xs.Perm ms) (fun _ => True) ms.length w := fun l J Jx W hW hJ _ hY h0 => by
  have hm' := (hW.cell (p := ⟨Bm, 0, none⟩) hBm).trans hm
  cases mb with
  | none =>
    have e : ms = [] := hown
    subst e
    refine (values1_nil F n hf hro l Bm J W hJ hm' h0).mono ?_
    rintro e W' ⟨h1, h2⟩
    exact ⟨h1, .inl ⟨[], List.Perm.refl _, h2⟩⟩
  | some b =>
    obtain ⟨nn, hown⟩ := hown
    have hown' : W.ownsMap Tryz.prog 3 (exE okM) b nn (D ms) := by
      have hbl := hown.lt
      obtain ⟨es, clock, hb, Ft, hs, hD⟩ := hown
      exact ⟨es, clock, (hW.block b hbl).trans hb, Ft, hs, hD⟩
    exact values1 F n hf hro hn l Bm b nn ms hms J Jx hY W hJ hm' hown' h0
theorem infoM : (Tryz.prog.info? 44).map (fun i => (i.zero, i.size, i.bytes)) = some (some (.agg #[.int .i64 0, .string ⟨#[]⟩]), 2, 24) := by kernel_rfl
/-- A message's box. -/
theorem sits_own {β : Type} (b : Nat) (t : TypeId) (cs : Array Value) : Own (fun (_ : β) W => Sits W b t cs) := fun s X Y row hs hg hrow => by
  have hne : some b ≠ row := fun e' => by
    obtain ⟨o, ho, hc⟩ := hrow b e'.symm
    have hs' : X.heap[b]? = _ := hs
    rw [hs'] at ho
    cases ho
    cases hc
  exact (hg.block b hs.lt hne).trans hs
set_option maxRecDepth 100000 in
set_option maxHeartbeats 2000000 in
theorem appendSeq (F : Fence) (n : Nat) (hf : F.fn 136) (hro : F.round = none) (hn : 2 ≤ n) (g : Nat) (lb : Array Value) (hFg : F.fn g) (eg : ∀ args w, (callFunc g args).run Tryz.prog w = .ok (.enter g args) w)
    (ms : List Ms) (hN : ms.length ≤ maxLen) (hNb : ms.length * 24 ≤ 140737488355328) (w : World) (hseq : SeqStopsK F (n - 1) Tryz.prog g lb (fun m => #[mv m]) KeepsWalks (fun xs => xs.Perm ms) (fun _ => True) ms.length w) :
    CallsIn F n Tryz.prog 136 #[.slice none 0 0, .func (.func g) #[] lb] w fun e w' => ∃ (v : Value) (xs : List Ms), e = .returned v ∧ xs.Perm ms ∧
      w'.ownsRow w.heap.size 44 2 v xs.length (mcells xs) ∧ (v = .slice none 0 0 ↔ xs = []) ∧ Below w.heap.size w w' := by
  have h1 : 1 ≤ n := by omega
  obtain ⟨i0, hi, hz0, hz1, hz2⟩ := info_parts infoM
  refine callsIn_of_wp_marks Tryz.func136 rfl hf ?_ hro
  simp only [Tryz.ntmps136, List.size_toArray, List.length_cons, List.length_nil, Nat.reduceAdd, Nat.reduceSub, Array.replicate_succ, Array.replicate_zero, List.push_toArray, List.append_toArray, List.nil_append, List.cons_append]
  gi_wp2
  have bO := Boxed.new w 41 (.slice none 0 0)
  have hB0 : Below w.heap.size w (w.alloc (.cells #[.slice none 0 0] 41)) := (Below.refl _ w).alloc (Nat.le_refl _) _
  refine wpIn_rangeFunc_ownH hro h1 (gf := g) (lb := lb) rfl hFg eg hseq walksK_t walksK_b hB0 (fun _ => rfl)
    (fun pre W => (∃ v, Boxed W w.heap.size 41 v ∧ W.ownsRow w.heap.size 44 2 v pre.length (mcells pre) ∧ (v = .slice none 0 0 ↔ pre = [])) ∧ Below w.heap.size w W)
    (fun _ _ _ => False)
    (OwnFrom.and (Own.from (holdsRow_own w.heap.size w.heap.size 41 44 2 (fun pre : List Ms => pre.length) mcells (fun pre v => v = .slice none 0 0 ↔ pre = [])) _) (ownFrom_below (Nat.le_refl _) (by simp)))
    (fun _ _ _ _ _ hs _ _ => hs)
    ⟨⟨_, bO, World.ownsRow_nil _ _ _ _, by simp⟩, hB0⟩
    (fun x a' W => ∃ Bx, w.heap.size < Bx ∧ Sits W Bx 44 #[.int .i64 x.k, .string x.t] ∧ a' = { tmps := #[.slice none 0 0, .func (.func g) #[] lb, .pointer (some ⟨w.heap.size, 0, none⟩), undef, .slice none 0 0, .pointer (some ⟨Bx, 0, none⟩), .func (.func g) #[] lb, mv x, undef, undef, undef, undef, undef], defers := [] })
    (fun x a' => fun s W W' row hs hg hr => by
      obtain ⟨Bx, h2, h3, h4⟩ := hs
      exact ⟨Bx, h2, (sits_own (β := Unit) Bx _ _) s W W' row h3 hg (fun r e => (hr r e).2), h4⟩)
    ?assign ?body ?done ?stop
  case assign =>
    rintro l pre x W K ⟨⟨v, hv, hrow, hnil⟩, hB⟩ hK
    simp only [mv] at hK ⊢
    gi_wp2
    refine hK _ _ ((KeepsOthers.alloc _ _).from _) (KeepsWalks.alloc _ _) ⟨⟨v, hv.alloc _, hrow.alloc _, hnil⟩, hB.alloc hB.size _⟩ ⟨W.heap.size, hv.lt, Sits.new W _ _, rfl⟩
  case body =>
    rintro l pre x a' W hl hr ⟨⟨v, hv, hrow, hnil⟩, hB⟩ ⟨Bx, hBx, bX, rfl⟩ hlt
    have hc := hv.cell
    have hx0 := bX.cell 0 _ rfl
    have hx1 := bX.cell 1 _ rfl
    gi_wp2_with (gi_at_builtin; refine wpListIn_append_own _ rfl _ _ 41 rfl w.heap.size 44 i0 (.agg #[.int .i64 0, .string ⟨#[]⟩]) 2 24 Tryz.underlying41 hi hz0 hz1 hz2 rfl (by decide) _ _ _ rfl (hrow.alloc _) ⟨W.heap.size, 0, none⟩ 1 1 [.int .i64 x.k, .string x.t] rfl rfl (cell_two_new _ _ _ _) (by intro u hu; simp at hu; rcases hu with rfl | rfl <;> rfl) (by omega) (by omega) (by have := hB.size; simp; omega) ?_; intro v' w1 hown' hgrow _; obtain ⟨g', cap', rfl⟩ := ownsRow_succ hown'; obtain ⟨hv1, hv2, hr2, hk2, hb2⟩ := hv.appended (by decide) hrow hB.size (Nat.le_refl _) hown' hgrow; have hc1 := hv1.cell; have hf1 := hv1.frozen)
    refine ⟨hk2.from _, hk2.walks, ⟨_, hv2, ?_, by simp⟩, hB.trans hb2⟩
    rw [mcells_append]
    simpa [mcells] using hr2
  case done =>
    rintro D ys W hD hS ⟨⟨v, hv, hrow, hnil⟩, hB⟩ hK
    have hc := hv.cell
    gi_wp2
    refine ⟨by simp, .inl ⟨_, _, rfl, run_takeDeferred hK, ?_⟩⟩
    exact ⟨_, results_tmp rfl _ _ _, v, ys, rfl, hS, ownsRow_putObj hrow _ hK rfl, hnil, hB.trans (belowK_b (w := w) (Nat.le_refl _) W D _ _ (by simp at hD; omega) hK rfl rfl)⟩
  case stop =>
    rintro D c pre W _ _ h _
    exact h.elim
set_option maxHeartbeats 1000000 in
theorem collect (F : Fence) (n : Nat) (hf : F.fn 94) (hf' : F.fn 136) (hro : F.round = none) (hn : 3 ≤ n) (g : Nat) (lb : Array Value) (hFg : F.fn g) (eg : ∀ args w, (callFunc g args).run Tryz.prog w = .ok (.enter g args) w)
    (ms : List Ms) (hN : ms.length ≤ maxLen) (hNb : ms.length * 24 ≤ 140737488355328) (w : World) (hseq : SeqStopsK F (n - 1 - 1) Tryz.prog g lb (fun m => #[mv m]) KeepsWalks (fun xs => xs.Perm ms) (fun _ => True) ms.length w) :
    CallsIn F n Tryz.prog 94 #[.func (.func g) #[] lb] w fun e w' => ∃ (v : Value) (xs : List Ms), e = .returned v ∧ xs.Perm ms ∧
      w'.ownsRow w.heap.size 44 2 v xs.length (mcells xs) ∧ (v = .slice none 0 0 ↔ xs = []) ∧ Below w.heap.size w w' := by
  have h1 : 1 ≤ n := by omega
  refine callsIn_of_wp Tryz.func94 rfl hf ?_ hro
  simp only [Tryz.ntmps94, List.size_toArray, List.length_cons, List.length_nil, Nat.reduceAdd, Nat.reduceSub, Array.replicate_succ, Array.replicate_zero, List.push_toArray, List.append_toArray, List.nil_append, List.cons_append]
  gi_wp2_with (gi_at_call 136; refine (appendSeq F (n - 1) hf' hro (by omega) g lb hFg eg ms hN hNb _ hseq).mono ?_; rintro e w' ⟨v, ss, rfl, hS, hrow, hnil, hb⟩)
  go_ret
  exact ⟨v, ss, rfl, hS, hrow, hnil, hb⟩
end Go.Proofs.YtmkidefdegaamaaGreatDoor.Sk
