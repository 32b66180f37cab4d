/- slices.AppendSeq and Collect at messages; Values of a nil map. -/
import Derived.Test.YtenegfafjjknoaaSv
import Derived.WalkSmall
namespace Go.Proofs.Ytenegfafjjknoaa.Sk
open Go.RowKit Go.Maps Go.Shelf Mem Foot Im
attribute [local go_sem] Oper.semAt_some

/-- Messages' cells, one behind the other. -/
def mcells : List Ms → List Value
  | [] => []
  | m :: l => .int .i64 m.k :: .string m.t :: mcells l

theorem mcells_append (l r : List Ms) : mcells (l ++ r) = mcells l ++ mcells r := by
  induction l with
  | nil => rfl
  | cons m l ih => simp [mcells, ih]

theorem mcells_length (l : List Ms) : (mcells l).length = l.length * 2 := by
  induction l with
  | nil => rfl
  | cons m l ih =>
    simp [mcells, ih]
    omega

/-- What the map holds; a nil one nothing. -/
def Mapped (w : World) (mb : Option Nat) (ms : List Ms) : Prop :=
  match mb with
  | none => ms = []
  | some b => ∃ nn, w.ownsMap Try.prog 3 (exE okM) b nn (D ms)

set_option maxRecDepth 100000 in
set_option maxHeartbeats 1000000 in
theorem values1_nil (F : Fence) (n : Nat) (hf : F.fn 27) (hro : F.round = none) (l Bm : Nat) (J : List Ms → World → Prop)
    (W : World) (hJ : AbidesFrom W.heap.size J) (hm : W.cell? ⟨Bm, 0, none⟩ = some (.map none)) (h0 : J [] W) :
    CallsIn F n Try.prog 27 #[.func (.yield l) #[] #[], .pointer (some ⟨Bm, 0, none⟩)] W fun e W' => (∃ v, e = .returned v) ∧ J [] W' := by
  refine callsIn_of_wp Try.func27 rfl hf ?_ hro
  simp only [Try.ntmps27, List.size_toArray, List.length_cons, List.length_nil, Nat.reduceAdd, Nat.reduceSub, Array.replicate_succ, Array.replicate_zero, List.push_toArray, List.append_toArray, List.nil_append, List.cons_append]
  have hrg := run_range_nilMap (P := Try.prog) W 42 3 36 Try.underlying42
  have hnx : ∀ ty, (Instr.next (.pointer (some ⟨W.heap.size, 0, none⟩)) false ty).run Try.prog (W.alloc (.mapIter none 0 #[] 0)) = _ := fun ty => run_next_nilMap _ ty 0 0 #[]
  gi_wp2
  refine wpIn_loop_rounds 1 ?_
  rw [roundsIn_succ]
  gi_wp2
  go_end0
  exact ⟨⟨_, rfl⟩, hJ [] W _ none h0 (World.grownBy_alloc W _ none) (fun r e => by cases e)⟩

/-- What maps.Values hands back. -/
theorem values_stops (F : Fence) (n : Nat) (hf : F.fn 27) (hro : F.round = none) (hn : 1 ≤ n) (Bm : Nat) (mb : Option Nat) (ms : List Ms) (hms : (ms.map (·.k)).Nodup) (w : World) (hBm : Bm < w.heap.size)
    (hm : w.cell? ⟨Bm, 0, none⟩ = some (.map mb)) (hown : Mapped w mb ms) :
    SeqStopsK F n Try.prog 27 #[.pointer (some ⟨Bm, 0, none⟩)] (fun m => #[mv m]) KeepsWalks (fun xs => xs.Perm ms) (fun _ => True) ms.length w := fun l J Jx W hW hJ _ hY h0 => by
  have hm' := (hW.cell (p := ⟨Bm, 0, none⟩) hBm).trans hm
  cases mb with
  | none =>
    have e : ms = [] := hown
    subst e
    refine (values1_nil F n hf hro l Bm J W hJ hm' h0).mono ?_
    rintro e W' ⟨h1, h2⟩
    exact ⟨h1, .inl ⟨[], List.Perm.refl _, h2⟩⟩
  | some b =>
    obtain ⟨nn, hown⟩ := hown
    have hown' : W.ownsMap Try.prog 3 (exE okM) b nn (D ms) := by
      have hbl := hown.lt
      obtain ⟨es, clock, hb, Ft, hs, hD⟩ := hown
      exact ⟨es, clock, (hW.block b hbl).trans hb, Ft, hs, hD⟩
    exact values1 F n hf hro hn l Bm b nn ms hms J Jx hY W hJ hm' hown' h0

theorem infoM : (Try.prog.info? 36).map (fun i => (i.zero, i.size, i.bytes)) = some (some (.agg #[.int .i64 0, .string ⟨#[]⟩]), 2, 24) := by kernel_rfl

/-- A message's box. -/
theorem sits_own {β : Type} (b : Nat) (t : TypeId) (cs : Array Value) : Own (fun (_ : β) W => Sits W b t cs) := fun s X Y row hs hg hrow => by
  have hne : some b ≠ row := fun e' => by
    obtain ⟨o, ho, hc⟩ := hrow b e'.symm
    have hs' : X.heap[b]? = _ := hs
    rw [hs'] at ho
    cases ho
    cases hc
  exact (hg.block b hs.lt hne).trans hs

set_option maxRecDepth 100000 in
set_option maxHeartbeats 2000000 in
theorem appendSeq (F : Fence) (n : Nat) (hf : F.fn 29) (hro : F.round = none) (hn : 2 ≤ n) (g : Nat) (lb : Array Value) (hFg : F.fn g) (eg : ∀ args w, (callFunc g args).run Try.prog w = .ok (.enter g args) w)
    (ms : List Ms) (hN : ms.length ≤ maxLen) (hNb : ms.length * 24 ≤ 140737488355328) (w : World) (hseq : SeqStopsK F (n - 1) Try.prog g lb (fun m => #[mv m]) KeepsWalks (fun xs => xs.Perm ms) (fun _ => True) ms.length w) :
    CallsIn F n Try.prog 29 #[.slice none 0 0, .func (.func g) #[] lb] w fun e w' => ∃ (v : Value) (xs : List Ms), e = .returned v ∧ xs.Perm ms ∧
      w'.ownsRow w.heap.size 36 2 v xs.length (mcells xs) ∧ (v = .slice none 0 0 ↔ xs = []) ∧ Below w.heap.size w w' := by
  have h1 : 1 ≤ n := by omega
  obtain ⟨i0, hi, hz0, hz1, hz2⟩ := info_parts infoM
  refine callsIn_of_wp_marks Try.func29 rfl hf ?_ hro
  simp only [Try.ntmps29, List.size_toArray, List.length_cons, List.length_nil, Nat.reduceAdd, Nat.reduceSub, Array.replicate_succ, Array.replicate_zero, List.push_toArray, List.append_toArray, List.nil_append, List.cons_append]
  gi_wp2
  have bO := Boxed.new w 30 (.slice none 0 0)
  have hB0 : Below w.heap.size w (w.alloc (.cells #[.slice none 0 0] 30)) := (Below.refl _ w).alloc (Nat.le_refl _) _
  refine wpIn_rangeFunc_ownH hro h1 (gf := g) (lb := lb) rfl hFg eg hseq walksK_t walksK_b hB0 (fun _ => rfl)
    (fun pre W => (∃ v, Boxed W w.heap.size 30 v ∧ W.ownsRow w.heap.size 36 2 v pre.length (mcells pre) ∧ (v = .slice none 0 0 ↔ pre = [])) ∧ Below w.heap.size w W)
    (fun _ _ _ => False)
    (OwnFrom.and (Own.from (holdsRow_own w.heap.size w.heap.size 30 36 2 (fun pre : List Ms => pre.length) mcells (fun pre v => v = .slice none 0 0 ↔ pre = [])) _) (ownFrom_below (Nat.le_refl _) (by simp)))
    (fun _ _ _ _ _ hs _ _ => hs)
    ⟨⟨_, bO, World.ownsRow_nil _ _ _ _, by simp⟩, hB0⟩
    (fun x a' W => ∃ Bx, w.heap.size < Bx ∧ Sits W Bx 36 #[.int .i64 x.k, .string x.t] ∧ a' = { tmps := #[.slice none 0 0, .func (.func g) #[] lb, .pointer (some ⟨w.heap.size, 0, none⟩), undef, .slice none 0 0, .pointer (some ⟨Bx, 0, none⟩), .func (.func g) #[] lb, mv x, undef, undef, undef, undef, undef], defers := [] })
    (fun x a' => fun s W W' row hs hg hr => by
      obtain ⟨Bx, h2, h3, h4⟩ := hs
      exact ⟨Bx, h2, (sits_own (β := Unit) Bx _ _) s W W' row h3 hg (fun r e => (hr r e).2), h4⟩)
    ?assign ?body ?done ?stop
  case assign =>
    rintro l pre x W K ⟨⟨v, hv, hrow, hnil⟩, hB⟩ hK
    simp only [mv] at hK ⊢
    gi_wp2
    refine hK _ _ ((KeepsOthers.alloc _ _).from _) (KeepsWalks.alloc _ _) ⟨⟨v, hv.alloc _, hrow.alloc _, hnil⟩, hB.alloc hB.size _⟩ ⟨W.heap.size, hv.lt, Sits.new W _ _, rfl⟩
  case body =>
    rintro l pre x a' W hl hr ⟨⟨v, hv, hrow, hnil⟩, hB⟩ ⟨Bx, hBx, bX, rfl⟩ hlt
    have hc := hv.cell
    have hx0 := bX.cell 0 _ rfl
    have hx1 := bX.cell 1 _ rfl
    gi_wp2_with (gi_at_builtin; refine wpListIn_append_own _ rfl _ _ 30 rfl w.heap.size 36 i0 (.agg #[.int .i64 0, .string ⟨#[]⟩]) 2 24 Try.underlying30 hi hz0 hz1 hz2 rfl (by decide) _ _ _ rfl (hrow.alloc _) ⟨W.heap.size, 0, none⟩ 1 1 [.int .i64 x.k, .string x.t] rfl rfl (cell_two_new _ _ _ _) (by intro u hu; simp at hu; rcases hu with rfl | rfl <;> rfl) (by omega) (by omega) (by have := hB.size; simp; omega) ?_; intro v' w1 hown' hgrow _; obtain ⟨g', cap', rfl⟩ := ownsRow_succ hown'; obtain ⟨hv1, hv2, hr2, hk2, hb2⟩ := hv.appended (by decide) hrow hB.size (Nat.le_refl _) hown' hgrow; have hc1 := hv1.cell; have hf1 := hv1.frozen)
    refine ⟨hk2.from _, hk2.walks, ⟨_, hv2, ?_, by simp⟩, hB.trans hb2⟩
    rw [mcells_append]
    simpa [mcells] using hr2
  case done =>
    rintro D ys W hD hS ⟨⟨v, hv, hrow, hnil⟩, hB⟩ hK
    have hc := hv.cell
    gi_wp2
    refine ⟨by simp, .inl ⟨_, _, rfl, run_takeDeferred hK, ?_⟩⟩
    exact ⟨_, results_tmp rfl _ _ _, v, ys, rfl, hS, ownsRow_putObj hrow _ hK rfl, hnil, hB.trans (belowK_b (w := w) (Nat.le_refl _) W D _ _ (by simp at hD; omega) hK rfl rfl)⟩
  case stop =>
    rintro D c pre W _ _ h _
    exact h.elim

set_option maxHeartbeats 1000000 in
theorem collect (F : Fence) (n : Nat) (hf : F.fn 25) (hf' : F.fn 29) (hro : F.round = none) (hn : 3 ≤ n) (g : Nat) (lb : Array Value) (hFg : F.fn g) (eg : ∀ args w, (callFunc g args).run Try.prog w = .ok (.enter g args) w)
    (ms : List Ms) (hN : ms.length ≤ maxLen) (hNb : ms.length * 24 ≤ 140737488355328) (w : World) (hseq : SeqStopsK F (n - 1 - 1) Try.prog g lb (fun m => #[mv m]) KeepsWalks (fun xs => xs.Perm ms) (fun _ => True) ms.length w) :
    CallsIn F n Try.prog 25 #[.func (.func g) #[] lb] w fun e w' => ∃ (v : Value) (xs : List Ms), e = .returned v ∧ xs.Perm ms ∧
      w'.ownsRow w.heap.size 36 2 v xs.length (mcells xs) ∧ (v = .slice none 0 0 ↔ xs = []) ∧ Below w.heap.size w w' := by
  have h1 : 1 ≤ n := by omega
  refine callsIn_of_wp Try.func25 rfl hf ?_ hro
  simp only [Try.ntmps25, List.size_toArray, List.length_cons, List.length_nil, Nat.reduceAdd, Nat.reduceSub, Array.replicate_succ, Array.replicate_zero, List.push_toArray, List.append_toArray, List.nil_append, List.cons_append]
  gi_wp2_with (gi_at_call 29; refine (appendSeq F (n - 1) hf' hro (by omega) g lb hFg eg ms hN hNb _ hseq).mono ?_; rintro e w' ⟨v, ss, rfl, hS, hrow, hnil, hb⟩)
  go_ret
  exact ⟨v, ss, rfl, hS, hrow, hnil, hb⟩

end Go.Proofs.Ytenegfafjjknoaa.Sk
