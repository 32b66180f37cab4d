/- A range over the shards' rising order: the caller's law. A builder's string: which blocks are touched. -/
import Derived.Test.YtenegfafjjknoaaGreatDoorWl
namespace Go.Proofs.YtenegfafjjknoaaGreatDoor.Kr
open Go.RowKit Go.Maps Mem Foot Im Wm Hk Hb Hi Hn Plainw Cq Hs Sh Readw Wi Go.Sort Go.Shelf

def Quiet (o : Obj) : Bool :=
  match o with
  | .cells _ t _ => t != 5 && t != 130
  | _ => true
/-- All but a builder's blocks stay. -/
def Keep (W W' : World) : Prop := W.heap.size ≤ W'.heap.size ∧ ∀ (k : Nat) (o : Obj), W.heap[k]? = some o → Quiet o = true → W'.heap[k]? = some o

theorem quiet_of_calm {o : Obj} (h : Calm o = true) : Quiet o = true := by
  cases o <;> first | rfl | exact h

theorem Keep.kp {A B : World} (h : Keep A B) : Kp A B := ⟨h.1, fun k o hk ho => h.2 k o hk (quiet_of_calm ho)⟩
theorem Keep.of_below {A B : World} (h : Below A.heap.size A B) : Keep A B := ⟨h.size, fun i _ hi _ => (h.block i (Array.getElem?_eq_some_iff.1 hi).1).trans hi⟩
theorem Keep.trans {A B C : World} (h : Keep A B) (k : Keep B C) : Keep A C := ⟨Nat.le_trans h.1 k.1, fun i o hi ho => k.2 i o (h.2 i o hi ho) ho⟩

theorem keep_of_off {B b : Nat} {v : Value} {bs : Bs} {A C : World} (hb : BuAt A B b v bs) (h : Off (bfoot b v) A C) : Keep A C :=
  ⟨h.size, fun k o hk ho => (h.block k (Array.getElem?_eq_some_iff.1 hk).1 (fun hm => by
    rcases List.mem_cons.1 hm with e | e
    · subst e
      rcases hb.head with h1 | h1
      all_goals
        have h1' : A.heap[k]? = _ := h1
        rw [h1'] at hk
        cases hk
        cases ho
    · obtain ⟨cs', h1⟩ := sits_row hb.row e
      have h1' : A.heap[k]? = _ := h1
      rw [h1'] at hk
      cases hk
      cases ho)).trans hk⟩

theorem kp_putObj {W : World} {l : Nat} {o o' : Obj} (h : W.heap[l]? = some o) (ho : Calm o = false) : Kp W (W.putObj l o') :=
  ⟨by simp [World.putObj], fun k o2 hk h2 => by
    by_cases e : k = l
    · subst e
      rw [h] at hk
      cases hk
      rw [ho] at h2
      cases h2
    · exact (World.putObj_heap_other e).trans hk⟩

theorem range_ {g : Operand} {ps : Array Tmp} {assign body : Code} {Q : Exit → Act → World → Prop} {a : Act} {w : World} (m X M R : Nat) (bs : List Nat) (ent : List (Bs × Nat))
    (hg : a.eval g = .func (.func 145) #[] #[.pointer (some ⟨X, 0, none⟩)]) (hps : ps.size = 2)
    (hX : Sits w X 135 #[.pointer (some ⟨M, 0, none⟩)]) (h : ShAt w M R bs ent) (hu : Up sLt ent) (hl : ent.length ≤ 1000) (hk : ∀ x ∈ ent, x.1.length ≤ 1000)
    (I : List (Bs × Nat) → World → Prop) (hI1 : ∀ s A B, I s A → Below A.heap.size A B → I s B) (hI2 : ∀ s A Rk i u cs, I s A → w.heap.size ≤ Rk → Sits A Rk 36 cs → I s (A.setCell ⟨Rk, i, none⟩ u))
    (hI3 : ∀ s A l o o', I s A → w.heap.size ≤ l → A.heap[l]? = some o → o.isCells = false → I s (A.putObj l o')) (h0 : I [] w) (a₁ : Bs × Nat → Act)
    (hassign : ∀ (l : Nat) (x : Bs × Nat) (W : World) (K : Act → World → Prop), K (a₁ x) W →
      assign.wpIn (Fence.wide.inRound l) (m + 4) Tryz.prog (Exit.then K (fun _ _ _ => False)) { tmps := (ps.zip #[.string ⟨x.1.toArray⟩, .pointer (some ⟨x.2, 0, none⟩)]).foldl (fun t (p, v) => t.setIfInBounds p v) a.tmps, defers := [] } W)
    (hbody : ∀ (l : Nat) (pre : List (Bs × Nat)) (x : Bs × Nat) (post : List (Bs × Nat)) (W : World), I pre W → ent = pre ++ x :: post → body.wpIn (Fence.wide.inRound l) (m + 4) Tryz.prog (fun e _ W' => e = .normal ∧ Keep W W' ∧ I (pre ++ [x]) W') (a₁ x) W)
    (hdone : ∀ (D : Nat) (W : World), w.heap.size ≤ D → I ent W → W.heap[D]? = some (.deferred (some [])) → Q .normal { a with defers := { target := .collected D, args := #[] } :: a.defers } W) :
    (Code.rangeFunc g ps assign body).wpIn Fence.wide (m + 6) Tryz.prog Q a w := by
  refine wpIn_rangeFunc ?_
  intro fn hfn
  obtain ⟨rec, hrec⟩ : ∃ rec : LoopState → Option Code → Loop, rec = fun st pe => { state := st, pending := pe, fn, tmps := a.tmps, params := ps, assign, body, defers := w.heap.size } := ⟨_, rfl⟩
  obtain ⟨W1, hW1⟩ : ∃ W1, (w.alloc (.deferred (some []))).alloc (.loop (rec .ready none)) = W1 := ⟨_, rfl⟩
  have hL1 : W1.heap[w.heap.size + 1]? = some (.loop (rec .ready none)) := by
    rw [← hW1]
    have := World.alloc_heap_new (w.alloc (.deferred (some []))) (.loop (rec .ready none))
    rwa [World.size_alloc] at this
  have hK1 : W1.heap[w.heap.size]? = some (.deferred (some [])) := by
    rw [← hW1]
    exact (Below.heap_alloc _ _ _ (by simp)).trans (World.alloc_heap_new w _)
  have hb1 : Below w.heap.size w W1 := by
    rw [← hW1]
    exact ((Below.refl _ w).alloc (Nat.le_refl _) _).alloc (by simp) _
  have hI1' : I [] W1 := hI1 _ _ _ h0 hb1
  have hz1 : W1.heap.size = w.heap.size + 2 := by rw [← hW1]; simp
  refine ⟨w.heap.size + 1, [{ target := .collected w.heap.size, args := #[] }], W1, { target := .fn (.func 145) #[.pointer (some ⟨X, 0, none⟩)], args := #[.func (.yield (w.heap.size + 1)) #[] #[]] }, W1, 145,
    #[.func (.yield (w.heap.size + 1)) #[] #[]] ++ #[.pointer (some ⟨X, 0, none⟩)], W1, ?_, ?_, ?_, ?_, fun _ => by omega, ?_⟩
  · rw [← hW1, hrec]
    exact run_enterLoop_outer _ _ _ _ _
  · simp only [resolve, hg]
    simp [go_sem]
  · intro f' hf'
    trivial
  · simp [invoke, go_sem]
  · refine (risingIt m (w.heap.size + 1) X M R bs ent
      (fun pre W => I pre W ∧ W.heap[w.heap.size + 1]? = some (.loop (rec .ready none)) ∧ W.heap[w.heap.size]? = some (.deferred (some [])))
      W1 (hX.below hb1 hX.lt) (h.keep hb1) hu hl hk ?_ ?_ ?_ ⟨hI1', hL1, hK1⟩).mono ?_
    · rintro s A B ⟨i1, i2, i3⟩ hb
      exact ⟨hI1 _ _ _ i1 hb, (hb.block _ (Array.getElem?_eq_some_iff.1 i2).1).trans i2, (hb.block _ (Array.getElem?_eq_some_iff.1 i3).1).trans i3⟩
    · rintro s A Rk i u cs ⟨i1, i2, i3⟩ hR hs
      refine ⟨hI2 _ _ _ _ _ _ i1 (by omega) hs, ?_, ?_⟩
      · exact (Below.heap_setCell A ⟨Rk, i, none⟩ u _ (by simp; omega)).trans i2
      · exact (Below.heap_setCell A ⟨Rk, i, none⟩ u _ (by simp; omega)).trans i3
    · rintro pre x post W ⟨hi, hl, hk⟩ he
      have hlt : w.heap.size + 1 < W.heap.size := (Array.getElem?_eq_some_iff.1 hl).1
      have hy := run_yield (P := Tryz.prog) (args := #[.string ⟨x.1.toArray⟩, .pointer (some ⟨x.2, 0, none⟩)]) hl (by rw [hrec]; simp [hps])
      rw [hrec] at hy
      refine ⟨fn, _, assign, body, hy, roundIn_of_wpIn hfn (hassign _ x W _ ⟨_, run_beginRound hl (by rw [hrec]), ?_⟩)⟩
      have hl2 : (W.putObj (w.heap.size + 1) (.loop { rec .ready none with state := .busy })).heap[w.heap.size + 1]? = some (.loop { rec .ready none with state := .busy }) := World.putObj_heap_same hlt
      have hk2 : (W.putObj (w.heap.size + 1) (.loop { rec .ready none with state := .busy })).heap[w.heap.size]? = some (.deferred (some [])) := (World.putObj_heap_other (by omega)).trans hk
      have hp2 : Kp W (W.putObj (w.heap.size + 1) (.loop { rec .ready none with state := .busy })) := kp_putObj hl rfl
      refine wpIn_mono (hbody _ pre x post _ (hI3 _ _ _ _ _ hi (by omega) hl rfl) he) ?_
      rintro e a3 W3 ⟨rfl, hk3, hi3⟩
      have hl3 := hk3.2 _ _ hl2 rfl
      have hr := run_endRound (P := Tryz.prog) none hl3
      rw [hrec] at hr
      refine ⟨_, _, hr, rfl, ⟨hI3 _ _ _ _ _ hi3 (by omega) hl3 rfl, ?_, (World.putObj_heap_other (by omega)).trans (hk3.2 _ _ hk2 rfl)⟩, (hp2.trans hk3.kp).trans (kp_putObj hl3 rfl)⟩
      rw [World.putObj_heap_same (Array.getElem?_eq_some_iff.1 hl3).1, hrec]
      rfl
    · rintro e W2 ⟨⟨v, rfl⟩, hi, hl, hk⟩
      exact ⟨none, _, by have := run_endLoop (P := Tryz.prog) hl (by rw [hrec]; simp); rw [hrec] at this; exact this, hdone _ _ (Nat.le_refl _) (hI3 _ _ _ _ _ hi (by omega) hl rfl) ((World.putObj_heap_other (by omega)).trans hk)⟩

end Go.Proofs.YtenegfafjjknoaaGreatDoor.Kr

namespace Go.Proofs.YtenegfafjjknoaaGreatDoor.Kr
open Go.RowKit Go.Maps Mem Foot Im Wm Hk Hb Hi Hn Plainw Cq Hs Sh Readw Wi Go.Sort Go.Shelf

theorem off_freeze {F : List Nat} {w w' : World} (h : Off F w w') {p : Addr} (hp : p.block ∈ F) (n : Nat) : Off F w (w'.freeze p n) := by
  have hs : (w'.freeze p n).heap.size = w'.heap.size := by
    unfold World.freeze
    split <;> simp
  refine ⟨?_, ?_, ?_, by rw [hs]; exact h.size, fun k hk hF => ?_⟩
  · rw [← h.os]
    unfold World.freeze
    split <;> rfl
  · rw [← h.tape]
    unfold World.freeze
    split <;> rfl
  · rw [← h.output]
    unfold World.freeze
    split <;> rfl
  · rw [← h.block k hk hF]
    have hne : k ≠ p.block := fun e => hF (e ▸ hp)
    unfold World.freeze
    split
    · rfl
    · simp only [Array.getElem?_modify]
      rw [if_neg (by omega)]

set_option maxHeartbeats 1000000 in
set_option maxRecDepth 100000 in
theorem stringOff (B b : Nat) (v : Value) (l : Bs) (w : World) (h : BuAt w B b v l) (h0 : l ≠ []) :
    Calls Tryz.prog 94 #[.pointer (some ⟨b, 0, none⟩)] w fun e w' => e = .returned (.string ⟨l.toArray⟩) ∧ Off (bfoot b v) w w' := by
  have hl0 : l.length ≠ 0 := by simpa using h0
  obtain ⟨g, cap, cur, rfl, hbg, hg, hnc, hcm, hcs, htake⟩ : ∃ g cap cur, v = .slice (some ⟨g, 0, none⟩) l.length cap ∧ B ≤ g ∧ w.heap[g]? = some (.cells cur 5 (0, 0)) ∧ l.length ≤ cap ∧ cap ≤ maxLen ∧ cur.size = cap * 1 ∧ cur.toList.take (l.length * 1) = Lib.byteCells l := by
    rcases h.row.2 with ⟨_, hz⟩ | ⟨g, cap, cur, hv, r⟩
    · exact absurd hz hl0
    · exact ⟨g, cap, cur, hv, r⟩
  have c1 : w.drew.cell? ⟨b, 1, none⟩ = some (.slice (some ⟨g, 0, none⟩) l.length cap) := by
    rcases h.head with h1 | h1 <;> exact (show Sits w.drew b _ _ from h1).cell 1 _ rfl
  have hown := h.row
  have hSD : (Builtin.unsafeSliceData_ #[97] 206 #[.slice (some ⟨g, 0, none⟩) l.length cap]).run Tryz.prog w.drew = .ok (.pointer (some ⟨g, 0, none⟩)) w.drew :=
    Lib.run_unsafeSliceData_row _ _ _ _ _ _ (by omega)
  have hUS : (Builtin.unsafeString_ #[206, 3] 9 #[.pointer (some ⟨g, 0, none⟩), .int .i64 l.length]).run Tryz.prog w.drew = .ok (.string ⟨l.toArray⟩) (w.drew.freeze ⟨g, 0, none⟩ l.length) := by
    refine Lib.run_unsafeString_row w.drew 206 3 9 5 Tryz.underlying206 Tryz.Builder_Extra_169.cellsByte g cur.size (by have hg' : w.drew.heap[g]? = some (.cells cur 5 (0, 0)) := hg; simp [World.shape?, hg']) l h0 (by omega) (by unfold maxLen at hcm; omega) ?_
    intro j x hx
    have := hown.cells (g := g) rfl j (.int .u8 x.toNat) (by simp [Lib.byteCells, hx])
    exact this
  have HG := hide (show g ∈ bfoot b (.slice (some ⟨g, 0, none⟩) l.length cap) by simp [bfoot, Value.ownBlock])
  clear htake hg hown h
  go_enter Tryz.func94, Tryz.ntmps94
  go_wp2_with fail
  go_region
  all_goals
    go_wp2_with fail
    go_ret
    exact ⟨rfl, off_freeze ((Off.refl _ _).drewN 1) HG.out _⟩

end Go.Proofs.YtenegfafjjknoaaGreatDoor.Kr
