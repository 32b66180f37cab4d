/- A sink in memory: NewSink and Take. -/
import Derived.Test.YtenegfafjjknoaaSw
import Derived.Deep.RegionLaw
import Derived.WalkSpells
namespace Go.Proofs.Ytenegfafjjknoaa.Sk
open Go.RowKit Go.Maps Go.Shelf Mem Foot Im

/-- m[k], in every world that has this map. -/
theorem look_all {P : Program} {w : World} (t k e : TypeId) (Ky : Keyed P k) (ht : P.underlying t = some (.map k e)) {z : Value} (hz : ∀ W, (zeroValue e).run P W = .ok z W) {ok : Value → Bool} (hzo : ok z = true)
    {b n : Nat} {D : DataW Value} (hown : w.ownsMap P k (exE ok) b n D) {key : Value} {kl : Lit} (hkey : keyOf P k key = some kl) :
    ∃ v, ok v = true ∧ D.atKey kl (.held z) = .held v ∧ ∀ W : World, W.heap[b]? = w.heap[b]? → (Instr.lookup t (.map (some b)) key true).run P W = .ok (.tuple #[v, .bool (Maps.has D kl)]) W := by
  obtain ⟨v, ps, hrun, hv⟩ := hown.look_ok Ky ht (hz w) (exE_mk hzo) hkey
  obtain ⟨h1, h2⟩ := exE_inv hv
  injection h2 with h2 _
  refine ⟨v, h1, h2, fun W hW => ?_⟩
  obtain ⟨es, clock, h3, h4⟩ := hown
  have hW' : W.ownsMap P k (exE ok) b n D := ⟨es, clock, hW.trans h3, h4⟩
  obtain ⟨v', ps', hrun', hv'⟩ := hW'.look_ok Ky ht (hz W) (exE_mk hzo) hkey
  obtain ⟨_, h6⟩ := exE_inv hv'
  injection h6 with h6 _
  rw [h2] at h6
  injection h6 with h6
  rw [hrun', h6]

/-- m[k] = v, in such a region. -/
theorem step_put {P : Program} {ops : Array Oper} {o : Oper} {a : Act} {w : World} {K : Act → World → Prop} {Q : Exit → Act → World → Prop} {E : Prop}
    (hg : o.guard = none) (m x v : Operand) (t : TypeId) (hop : o.op = Op.mapUpdate t m x v) (k e : TypeId) (Ky : Keyed P k) (ht : P.underlying t = some (.map k e)) (ok : Value → Bool)
    (b n : Nat) (D : DataW Value) (hm : a.eval m = .map (some b)) (hown : w.ownsMap P k (exE ok) b n D) (hn : n < maxLen) (key val : Value) (kl : Lit) (hx : a.eval x = key) (hv : a.eval v = val) (hkey : keyOf P k key = some kl) (hval : ok val = true)
    (hK : ∀ w', w'.ownsMap P k (exE ok) b (n + 1) (D.put kl (.held val)) → w.grownBy w' (some b) → K (a.put o.dst undef) w') :
    if Region.wanted o (yielded ops a.tmps) = true then Oper.wp P o a w K Q else E := by
  have hw : Region.wanted o (yielded ops a.tmps) = true := by simp [Region.wanted, hg]
  rw [if_pos hw]
  obtain ⟨w', hrun, r1, r2⟩ := hown.update Ky ht hn hkey (exE_mk hval)
  unfold Oper.wp
  simp [execOp, hop, hm, hx, hv, hrun, Result.andThen]
  exact hK w' r1 r2

/-- Among others, by rising windows. -/
def insM (m : Ms) : List Ms → List Ms
  | [] => [m]
  | x :: r => if m.k < x.k then m :: x :: r else x :: insM m r

theorem ents_insM (m : Ms) (l : List Ms) : ents (insM m l) = ins iLt (m.k, m) (ents l) := by
  induction l with
  | nil => rfl
  | cons x r ih =>
    have e : ents (x :: r) = (x.k, x) :: ents r := rfl
    rw [insM, e, ins]
    by_cases h : m.k < x.k
    · simp [h, iLt, ents]
    · simp only [h, if_false, iLt, decide_false, Bool.false_eq_true]
      rw [← ih]
      rfl

def Rise (l : List Ms) : Prop := l.Pairwise fun a b => a.k < b.k

theorem Rise.nodup {l : List Ms} (h : Rise l) : (l.map (·.k)).Nodup := by
  rw [List.nodup_iff_pairwise_ne, List.pairwise_map]
  exact h.imp fun {a b} hab e => by omega

theorem rise_up {l : List Ms} : Rise l ↔ Up iLt (ents l) := by
  unfold Rise Up ents
  rw [List.pairwise_map]
  simp [iLt]

theorem Rise.ins {l : List Ms} (h : Rise l) {m : Ms} (hm : m.k ∉ l.map (·.k)) : Rise (insM m l) := by
  rw [rise_up, ents_insM]
  refine (rise_up.1 h).ins iLt_trans iLt_total (m.k, m) fun p hp e => hm ?_
  obtain ⟨x, hx, rfl⟩ := List.mem_map.1 hp
  exact List.mem_map.2 ⟨x, hx, e⟩

theorem insM_length (m : Ms) (l : List Ms) : (insM m l).length = l.length + 1 := by
  have := congrArg List.length (ents_insM m l)
  rw [ins_length] at this
  simpa [ents] using this

theorem D_put {m : Ms} {l : List Ms} (hm : m.k ∉ l.map (·.k)) : (D l).put (.int .i64 m.k) (.held (mv m)) = D (insM m l) := by
  have h : has m.k (ents l) = false := by
    rw [has_false]
    intro e
    obtain ⟨p, hp, e⟩ := List.mem_map.1 e
    obtain ⟨x, hx, rfl⟩ := List.mem_map.1 hp
    exact hm (List.mem_map.2 ⟨x, hx, e⟩)
  rw [D, show Lit.int .i64 m.k = iLit m.k from rfl, mp_put iLit_same iLit_before, D, ents_insM, put, del_of_not _ _ h]

theorem D_has (k : Int) (l : List Ms) : Maps.has (D l) (.int .i64 k) = decide (k ∈ l.map (·.k)) := by
  rw [D, show Lit.int .i64 k = iLit k from rfl, mp_has iLit_same, Bool.eq_iff_iff, has_iff, decide_eq_true_iff]
  simp [ents]

theorem infoZ (w : World) : (zeroValue 36).run Try.prog w = .ok (.agg #[.int .i64 0, .string ⟨#[]⟩]) w := Try.zeroValue36 w

/-- A sink, and what it has taken. -/
structure SK (w : World) (X : Nat) (mb : Option Nat) (ms : List Ms) : Prop where
  head : Sits w X 44 #[.map mb]
  map : Mapped w mb ms

theorem newSink (w : World) : Calls Try.prog 9 #[] w fun e w' => e = .returned (.pointer (some ⟨w.heap.size, 0, none⟩)) ∧ w' = w.alloc (.cells #[.map none] 44) := by
  go_enter Try.func9, Try.ntmps9
  go_wp2_with fail
  go_ret
  exact ⟨rfl, rfl⟩

theorem Mapped.off {F : List Nat} {w w' : World} {mb : Option Nat} {ms : List Ms} (h : Mapped w mb ms) (ho : Off F w w') (hF : ∀ b, mb = some b → b ∉ F) : Mapped w' mb ms := by
  cases mb with
  | none => exact h
  | some b =>
    obtain ⟨nn, h⟩ := h
    have hl := h.lt
    obtain ⟨es, clock, h1, h2⟩ := h
    exact ⟨nn, es, clock, by rw [ho.block b hl (hF b rfl)]; exact h1, h2⟩

theorem SK.off {F : List Nat} {w w' : World} {X : Nat} {mb : Option Nat} {ms : List Ms} (h : SK w X mb ms) (ho : Off F w w') (hX : X ∉ F) (hF : ∀ b, mb = some b → b ∉ F) : SK w' X mb ms :=
  ⟨Foot.Sits.off h.head ho hX, h.map.off ho hF⟩

theorem SK.keep {w w' : World} {X : Nat} {mb : Option Nat} {ms : List Ms} (h : SK w X mb ms) (hb : Below w.heap.size w w') : SK w' X mb ms :=
  h.off (F := []) (Off.of_below hb) (by simp) (fun _ _ => by simp)

theorem undrew {F : List Nat} {w w' : World} (h : Off F w.drew w') : Off F w w' := ⟨h.os, h.tape, h.output, h.size, h.block⟩

/-- One block has turned. -/
theorem grown_off' {F : List Nat} {w w' : World} {b : Nat} (h : w.grownBy w' (some b)) (hb : b ∈ F) : Off F w w' :=
  ⟨h.os, h.tape, h.output, h.size, fun k hk hF => h.block k hk (fun e => hF (by cases e; exact hb))⟩

set_option maxRecDepth 10000 in
set_option maxHeartbeats 2000000 in
/-- Take where the map is there. -/
theorem take_some (X b : Nat) (ms : List Ms) (m : Ms) (hw : (Lit.int .i64 m.k).wf = true) (w : World) (hX : Sits w X 44 #[.map (some b)]) (hown : w.ownsMap Try.prog 3 (exE okM) b ms.length (D ms)) (hl : ms.length < maxLen) :
    Calls Try.prog 17 #[.pointer (some ⟨X, 0, none⟩), mv m] w fun e w' =>
      (m.k ∈ ms.map (·.k) ∧ e = .returned (.int .i64 10) ∧ Below w.heap.size w w') ∨
      (m.k ∉ ms.map (·.k) ∧ e = .returned (.int .i64 0) ∧ Off [X, b] w w' ∧ SK w' X (some b) (insM m ms)) := by
  have c0 := hX.cell 0 _ rfl
  have hkey := Maps.keyOf_int_mk (P := Try.prog) (k := 3) Try.underlying3 hw
  have HX := hide hX
  have HO := hide hown
  clear hX hown
  have q42 : ∀ (w : World) (r : Option Nat), (binOp .eql 42 (.map r) (.map none)).run Try.prog w = .ok (.bool r.isNone) w := fun w r => run_eql_map_nil w _ _ _ r Try.underlying42
  unfold mv
  go_enter Try.func17, Try.ntmps17
  go_wp2_with fail
  have HS := hide (Sits.new w 36 #[.int .i64 m.k, .string m.t])
  have HX1 := hide (HX.out.alloc (.cells #[.int .i64 m.k, .string m.t] 36))
  have HO1 := hide (HO.out.alloc (.cells #[.int .i64 m.k, .string m.t] 36))
  have HB1 := hide (below_new (w := w) (.cells #[.int .i64 m.k, .string m.t] 36))
  clear c0
  generalize w.alloc (.cells #[.int .i64 m.k, .string m.t] 36) = W1 at *
  obtain ⟨B, hB⟩ : ∃ B, w.heap.size = B := ⟨_, rfl⟩
  have HBe := hide hB
  rw [hB] at HS
  rw [hB]
  clear hB
  have c0 := HX1.out.cell 0 _ rfl
  have k0 := HS.out.cell 0 _ rfl
  have k1 := HS.out.cell 1 _ rfl
  obtain ⟨v, hv, _, hall⟩ := look_all 42 3 36 (int_keyed Try.underlying3) Try.underlying42 infoZ rfl HO1.out hkey
  obtain ⟨m', rfl⟩ := okM_inv hv
  have hl1 := hall W1.drew rfl
  have hl2 := hall (W1.alloc (.cells #[.int .i64 0, .string ⟨#[]⟩] 36)).drew (Below.heap_alloc _ _ _ HO1.out.lt)
  rw [D_has] at hl1 hl2
  simp only [mv] at hl1 hl2
  clear hall hv
  have c1 := (HX1.out.alloc (.cells #[.int .i64 0, .string ⟨#[]⟩] 36)).cell 0 _ rfl
  have k2 := (HS.out.alloc (.cells #[.int .i64 0, .string ⟨#[]⟩] 36)).cell 0 _ rfl
  by_cases hin : m.k ∈ ms.map (·.k)
  · rw [decide_eq_true hin] at hl1 hl2
    have HI := hide hin
    clear hin
    go_region
    all_goals
      go_wp2_with fail
      go_ret
      refine Or.inl ⟨HI.out, rfl, ?_⟩
      have := HB1.out
      rw [HBe.out] at this ⊢
      exact below_drewN' (n := 1) (this.alloc (by rw [← HBe.out]; exact HB1.out.size) _)
  · rw [decide_eq_false hin] at hl1 hl2
    have HI := hide hin
    clear hin
    go_region
    all_goals
      clear hl1 hl2 c0 c1 k0 k1 k2
      have HX2 := hide (show Sits (W1.alloc (.cells #[.int .i64 m'.k, .string m'.t] 36)).drew X 44 #[.map (some b)] from HX1.out.alloc _)
      have HS2 := hide (show Sits (W1.alloc (.cells #[.int .i64 m'.k, .string m'.t] 36)).drew B 36 #[.int .i64 m.k, .string m.t] from HS.out.alloc _)
      have HO2 := hide (show (W1.alloc (.cells #[.int .i64 m'.k, .string m'.t] 36)).drew.ownsMap Try.prog 3 (exE okM) b ms.length (D ms) from HO1.out.alloc _)
      have HB2 := hide (show Below w.heap.size w (W1.alloc (.cells #[.int .i64 m'.k, .string m'.t] 36)).drew from below_drewN' (n := 1) (HB1.out.alloc HB1.out.size _))
      generalize (W1.alloc (.cells #[.int .i64 m'.k, .string m'.t] 36)).drew = W2 at *
      have c0 := HX2.out.cell 0 _ rfl
      have k0 := HS2.out.cell 0 _ rfl
      have k1 := HS2.out.cell 1 _ rfl
      obtain ⟨w4, hu, ho4, hg4⟩ := (show W2.drew.ownsMap Try.prog 3 (exE okM) b ms.length (D ms) from HO2.out).update (t := 42) (int_keyed Try.underlying3) Try.underlying42 hl hkey (exE_mk (okM_mv m))
      rw [D_put HI.out] at ho4
      simp only [mv] at hu
      have HU := hide ho4
      have HG := hide hg4
      clear ho4 hg4
      go_wp2_with fail
      go_region
      all_goals
        go_wp2_with fail
        go_ret
        refine Or.inr ⟨HI.out, rfl, ?_, ?_, ?_⟩
        · exact (Off.of_below HB2.out).trans (undrew (grown_off' HG.out (by simp)))
        · exact Foot.Sits.off (F := [b]) (show Sits W2.drew X _ _ from HX2.out) (grown_off' HG.out (by simp)) (by
            simp only [List.mem_singleton]
            intro e
            obtain ⟨es, clock, h3, _⟩ := HO2.out
            have h4 : W2.heap[X]? = _ := HX2.out
            rw [e, h3] at h4
            cases h4)
        · exact ⟨_, HU.out⟩

set_option maxRecDepth 10000 in
set_option maxHeartbeats 2000000 in
/-- Take where there is no map yet. -/
theorem take_none (X : Nat) (m : Ms) (hw : (Lit.int .i64 m.k).wf = true) (w : World) (hX : Sits w X 44 #[.map none]) :
    Calls Try.prog 17 #[.pointer (some ⟨X, 0, none⟩), mv m] w fun e w' =>
      e = .returned (.int .i64 0) ∧ Off [X] w w' ∧ ∃ b, w.heap.size ≤ b ∧ SK w' X (some b) [m] := by
  have hkey := Maps.keyOf_int_mk (P := Try.prog) (k := 3) Try.underlying3 hw
  have HX := hide hX
  clear hX
  have q42 : ∀ (w : World) (r : Option Nat), (binOp .eql 42 (.map r) (.map none)).run Try.prog w = .ok (.bool r.isNone) w := fun w r => run_eql_map_nil w _ _ _ r Try.underlying42
  have hlk : ∀ w : World, (Instr.lookup 42 (.map none) (.int .i64 m.k) true).run Try.prog w = .ok (.tuple #[.agg #[.int .i64 0, .string ⟨#[]⟩], .bool false]) w := fun w =>
    Maps.look_nil true (int_keyed Try.underlying3) Try.underlying42 (infoZ w) hkey
  have hmm := @run_makeMap Try.prog
  unfold mv
  go_enter Try.func17, Try.ntmps17
  go_wp2_with fail
  have HS := hide (Sits.new w 36 #[.int .i64 m.k, .string m.t])
  have HX1 := hide (HX.out.alloc (.cells #[.int .i64 m.k, .string m.t] 36))
  have HB1 := hide (below_new (w := w) (.cells #[.int .i64 m.k, .string m.t] 36))
  generalize w.alloc (.cells #[.int .i64 m.k, .string m.t] 36) = W1 at *
  obtain ⟨B, hB⟩ : ∃ B, w.heap.size = B := ⟨_, rfl⟩
  have HBe := hide hB
  rw [hB] at HS
  rw [hB]
  clear hB
  have c0 := HX1.out.cell 0 _ rfl
  have k0 := HS.out.cell 0 _ rfl
  have k1 := HS.out.cell 1 _ rfl
  have c1 := (HX1.out.alloc (.cells #[.int .i64 0, .string ⟨#[]⟩] 36)).cell 0 _ rfl
  have k2 := (HS.out.alloc (.cells #[.int .i64 0, .string ⟨#[]⟩] 36)).cell 0 _ rfl
  go_region
  all_goals
    clear c0 c1 k0 k1 k2
    have HX2 := hide (show Sits (W1.alloc (.cells #[.int .i64 0, .string ⟨#[]⟩] 36)).drew X 44 #[.map none] from HX1.out.alloc _)
    have HS2 := hide (show Sits (W1.alloc (.cells #[.int .i64 0, .string ⟨#[]⟩] 36)).drew B 36 #[.int .i64 m.k, .string m.t] from HS.out.alloc _)
    have HB2 := hide (show Below w.heap.size w (W1.alloc (.cells #[.int .i64 0, .string ⟨#[]⟩] 36)).drew from below_drewN' (n := 1) (HB1.out.alloc HB1.out.size _))
    generalize (W1.alloc (.cells #[.int .i64 0, .string ⟨#[]⟩] 36)).drew = W2 at *
    have c0 := HX2.out.cell 0 _ rfl
    have f0 := HX2.out.frozen 0
    have c1 := (HX2.out.alloc (.map #[] 0)).cell 0 _ rfl
    have f1 := (HX2.out.alloc (.map #[] 0)).frozen 0
    go_wp2_with fail
    clear c0 c1 f0 f1
    obtain ⟨b, hb⟩ : ∃ b, W2.heap.size = b := ⟨_, rfl⟩
    have hXb : X ≠ b := by
      have := HX2.out.lt
      omega
    have hBb : B ≠ b := by
      have := HS2.out.lt
      omega
    have hBX : B ≠ X := by
      have := HX.out.lt
      have := HBe.out
      omega
    have HOF := hide (show Off [X] w ((W2.alloc (.map #[] 0)).setCell ⟨X, 0, none⟩ (.map (some W2.heap.size))) from ((Off.of_below HB2.out).alloc _).set (List.mem_cons_self ..) _ _)
    have HX3 := hide (show Sits ((W2.alloc (.map #[] 0)).setCell ⟨X, 0, none⟩ (.map (some W2.heap.size))) X 44 #[.map (some W2.heap.size)] from (HX2.out.alloc _).set 0 _)
    have HS3 := hide (show Sits ((W2.alloc (.map #[] 0)).setCell ⟨X, 0, none⟩ (.map (some W2.heap.size))) B 36 #[.int .i64 m.k, .string m.t] from Sits.but (HS2.out.alloc _) ((But.refl X _).set 0 _) hBX)
    have HO3 := hide (show ((W2.alloc (.map #[] 0)).setCell ⟨X, 0, none⟩ (.map (some W2.heap.size))).ownsMap Try.prog 3 (exE okM) W2.heap.size 0 (D []) from (World.ownsMap_made W2 Try.prog 3 (exE okM)).setCell (by rw [hb]; exact fun e => hXb e.symm) _)
    have HBb := hide (show w.heap.size ≤ b by have := HB2.out.size; omega)
    rw [hb] at HOF HX3 HS3 HO3
    rw [hb]
    clear hb hXb hBb
    generalize (W2.alloc (.map #[] 0)).setCell ⟨X, 0, none⟩ (.map (some b)) = W3 at *
    have c0 := HX3.out.cell 0 _ rfl
    have k0 := HS3.out.cell 0 _ rfl
    have k1 := HS3.out.cell 1 _ rfl
    obtain ⟨w4, hu, ho4, hg4⟩ := (show W3.drew.ownsMap Try.prog 3 (exE okM) b 0 (D []) from HO3.out).update (t := 42) (int_keyed Try.underlying3) Try.underlying42 (by decide) hkey (exE_mk (okM_mv m))
    rw [D_put (by simp)] at ho4
    simp only [mv] at hu
    have HU := hide ho4
    have HG := hide hg4
    clear ho4 hg4
    go_region
    all_goals
      go_wp2_with fail
      go_ret
      refine ⟨rfl, ?_, b, HBb.out, ?_, _, HU.out⟩
      · refine ⟨HG.out.os.trans HOF.out.os, HG.out.tape.trans HOF.out.tape, HG.out.output.trans HOF.out.output, Nat.le_trans HOF.out.size HG.out.size, fun k hk hF => ?_⟩
        have h1 := HBb.out
        have h2 := HOF.out.size
        exact (HG.out.block k (by show k < W3.heap.size; omega) (fun e => by cases e; omega)).trans (HOF.out.block k hk hF)
      · refine Foot.Sits.off (F := [b]) (show Sits W3.drew X _ _ from HX3.out) (grown_off' HG.out (by simp)) (by
          simp only [List.mem_singleton]
          intro e
          have := HX.out.lt
          have := HBb.out
          omega)

theorem Mapped.tight {w : World} {b : Nat} {ms : List Ms} (h : Mapped w (some b) ms) : w.ownsMap Try.prog 3 (exE okM) b ms.length (D ms) := by
  obtain ⟨nn, h⟩ := h
  have := own_tight h
  rw [D_size] at this
  exact this

/-- Take. -/
theorem take (X : Nat) (mb : Option Nat) (ms : List Ms) (m : Ms) (hw : (Lit.int .i64 m.k).wf = true) (w : World) (h : SK w X mb ms) (hl : ms.length < maxLen) :
    Calls Try.prog 17 #[.pointer (some ⟨X, 0, none⟩), mv m] w fun e w' =>
      (m.k ∈ ms.map (·.k) ∧ e = .returned (.int .i64 10) ∧ Below w.heap.size w w') ∨
      (m.k ∉ ms.map (·.k) ∧ e = .returned (.int .i64 0) ∧ Off (X :: mb.toList) w w' ∧ ∃ b, SK w' X (some b) (insM m ms) ∧ (b ∈ mb.toList ∨ w.heap.size ≤ b)) := by
  cases mb with
  | none =>
    have e : ms = [] := h.map
    subst e
    refine (take_none X m hw w h.head).mono ?_
    rintro e w' ⟨h1, h2, b, h3, h4⟩
    exact Or.inr ⟨by simp, h1, h2, b, h4, Or.inr h3⟩
  | some b =>
    refine (take_some X b ms m hw w h.head h.map.tight hl).mono ?_
    rintro e w' (h1 | ⟨h1, h2, h3, h4⟩)
    · exact Or.inl h1
    · exact Or.inr ⟨h1, h2, h3, b, h4, Or.inl (by simp)⟩

end Go.Proofs.Ytenegfafjjknoaa.Sk
