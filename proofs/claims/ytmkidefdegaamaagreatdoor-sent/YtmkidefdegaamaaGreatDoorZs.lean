/- Sinks: made, taking, telling. -/
import Derived.Test.YtmkidefdegaamaaGreatDoorMsy
namespace Go.Proofs.YtmkidefdegaamaaGreatDoor.Sk
open Go.RowKit Go.Maps Go.Shelf Mem Foot Im Go.Sort
/-- A sink, and what it has taken. -/
structure SK (w : World) (X : Nat) (mb : Option Nat) (ms : List Ms) : Prop where
  head : Sits w X 87 #[.map mb]
  map : Mapped w mb ms
theorem newSink (w : World) : Calls Tryz.prog 16 #[] w fun e w' => e = .returned (.pointer (some ⟨w.heap.size, 0, none⟩)) ∧ w' = w.alloc (.cells #[.map none] 87) := by
  go_enter Tryz.func16, Tryz.ntmps16
  go_wp2_with fail
  go_ret
  exact ⟨rfl, rfl⟩
theorem SK.off {F : List Nat} {w w' : World} {X : Nat} {mb : Option Nat} {ms : List Ms} (h : SK w X mb ms) (ho : Off F w w') (hX : X ∉ F) (hF : ∀ b, mb = some b → b ∉ F) : SK w' X mb ms :=
  ⟨Foot.Sits.off h.head ho hX, h.map.off ho hF⟩
theorem SK.keep {w w' : World} {X : Nat} {mb : Option Nat} {ms : List Ms} (h : SK w X mb ms) (hb : Below w.heap.size w w') : SK w' X mb ms :=
  h.off (F := []) (Off.of_below hb) (by simp) (fun _ _ => by simp)
set_option maxRecDepth 10000 in
set_option maxHeartbeats 2000000 in
/-- Take where the map is there. -/
theorem take_some (X b : Nat) (ms : List Ms) (m : Ms) (hw : (Lit.int .i64 m.k).wf = true) (w : World) (hX : Sits w X 87 #[.map (some b)]) (hown : w.ownsMap Tryz.prog 3 (exE okM) b ms.length (D ms)) (hl : ms.length < maxLen) :
    Calls Tryz.prog 18 #[.pointer (some ⟨X, 0, none⟩), mv m] w fun e w' =>
      (m.k ∈ ms.map (·.k) ∧ e = .returned (.int .i64 10) ∧ Below w.heap.size w w') ∨
      (m.k ∉ ms.map (·.k) ∧ e = .returned (.int .i64 0) ∧ Off [X, b] w w' ∧ SK w' X (some b) (insM m ms)) := by
  have c0 := hX.cell 0 _ rfl
  have hkey := Maps.keyOf_int_mk (P := Tryz.prog) (k := 3) Tryz.underlying3 hw
  have HX := hide hX
  have HO := hide hown
  clear hX hown
  have q42 : ∀ (w : World) (r : Option Nat), (binOp .eql 67 (.map r) (.map none)).run Tryz.prog w = .ok (.bool r.isNone) w := fun w r => run_eql_map_nil w _ _ _ r Tryz.underlying67
  unfold mv
  go_enter Tryz.func18, Tryz.ntmps18
  go_wp2_with fail
  have HS := hide (Sits.new w 44 #[.int .i64 m.k, .string m.t])
  have HX1 := hide (HX.out.alloc (.cells #[.int .i64 m.k, .string m.t] 44))
  have HO1 := hide (HO.out.alloc (.cells #[.int .i64 m.k, .string m.t] 44))
  have HB1 := hide (below_new (w := w) (.cells #[.int .i64 m.k, .string m.t] 44))
  clear c0
  generalize w.alloc (.cells #[.int .i64 m.k, .string m.t] 44) = W1 at *
  obtain ⟨B, hB⟩ : ∃ B, w.heap.size = B := ⟨_, rfl⟩
  have HBe := hide hB
  rw [hB] at HS
  rw [hB]
  clear hB
  have c0 := HX1.out.cell 0 _ rfl
  have k0 := HS.out.cell 0 _ rfl
  have k1 := HS.out.cell 1 _ rfl
  obtain ⟨v, hv, _, hall⟩ := look_all 67 3 44 (int_keyed Tryz.underlying3) Tryz.underlying67 infoZ rfl HO1.out hkey
  obtain ⟨m', rfl⟩ := okM_inv hv
  have hl1 := hall W1.drew rfl
  have hl2 := hall (W1.alloc (.cells #[.int .i64 0, .string ⟨#[]⟩] 44)).drew (Below.heap_alloc _ _ _ HO1.out.lt)
  rw [D_has] at hl1 hl2
  simp only [mv] at hl1 hl2
  clear hall hv
  have c1 := (HX1.out.alloc (.cells #[.int .i64 0, .string ⟨#[]⟩] 44)).cell 0 _ rfl
  have k2 := (HS.out.alloc (.cells #[.int .i64 0, .string ⟨#[]⟩] 44)).cell 0 _ rfl
  by_cases hin : m.k ∈ ms.map (·.k)
  · rw [decide_eq_true hin] at hl1 hl2
    have HI := hide hin
    clear hin
    go_region
    all_goals
      go_wp2_with fail
      go_ret
      refine Or.inl ⟨HI.out, rfl, ?_⟩
      have := HB1.out
      rw [HBe.out] at this ⊢
      exact below_drewN' (n := 1) (this.alloc (by rw [← HBe.out]; exact HB1.out.size) _)
  · rw [decide_eq_false hin] at hl1 hl2
    have HI := hide hin
    clear hin
    go_region
    all_goals
      clear hl1 hl2 c0 c1 k0 k1 k2
      have HX2 := hide (show Sits (W1.alloc (.cells #[.int .i64 m'.k, .string m'.t] 44)).drew X 87 #[.map (some b)] from HX1.out.alloc _)
      have HS2 := hide (show Sits (W1.alloc (.cells #[.int .i64 m'.k, .string m'.t] 44)).drew B 44 #[.int .i64 m.k, .string m.t] from HS.out.alloc _)
      have HO2 := hide (show (W1.alloc (.cells #[.int .i64 m'.k, .string m'.t] 44)).drew.ownsMap Tryz.prog 3 (exE okM) b ms.length (D ms) from HO1.out.alloc _)
      have HB2 := hide (show Below w.heap.size w (W1.alloc (.cells #[.int .i64 m'.k, .string m'.t] 44)).drew from below_drewN' (n := 1) (HB1.out.alloc HB1.out.size _))
      generalize (W1.alloc (.cells #[.int .i64 m'.k, .string m'.t] 44)).drew = W2 at *
      have c0 := HX2.out.cell 0 _ rfl
      have k0 := HS2.out.cell 0 _ rfl
      have k1 := HS2.out.cell 1 _ rfl
      obtain ⟨w4, hu, ho4, hg4⟩ := (show W2.drew.ownsMap Tryz.prog 3 (exE okM) b ms.length (D ms) from HO2.out).update (t := 67) (int_keyed Tryz.underlying3) Tryz.underlying67 hl hkey (exE_mk (okM_mv m))
      rw [D_put HI.out] at ho4
      simp only [mv] at hu
      have HU := hide ho4
      have HG := hide hg4
      clear ho4 hg4
      go_wp2_with fail
      go_region
      all_goals
        go_wp2_with fail
        go_ret
        refine Or.inr ⟨HI.out, rfl, ?_, ?_, ?_⟩
        · exact (Off.of_below HB2.out).trans (undrew (grown_off' HG.out (by simp)))
        · exact Foot.Sits.off (F := [b]) (show Sits W2.drew X _ _ from HX2.out) (grown_off' HG.out (by simp)) (by
            simp only [List.mem_singleton]
            intro e
            obtain ⟨es, clock, h3, _⟩ := HO2.out
            have h4 : W2.heap[X]? = _ := HX2.out
            rw [e, h3] at h4
            cases h4)
        · exact ⟨_, HU.out⟩
set_option maxRecDepth 10000 in
set_option maxHeartbeats 2000000 in
/-- Take where there is no map yet. -/
theorem take_none (X : Nat) (m : Ms) (hw : (Lit.int .i64 m.k).wf = true) (w : World) (hX : Sits w X 87 #[.map none]) :
    Calls Tryz.prog 18 #[.pointer (some ⟨X, 0, none⟩), mv m] w fun e w' =>
      e = .returned (.int .i64 0) ∧ Off [X] w w' ∧ ∃ b, w.heap.size ≤ b ∧ SK w' X (some b) [m] := by
  have hkey := Maps.keyOf_int_mk (P := Tryz.prog) (k := 3) Tryz.underlying3 hw
  have HX := hide hX
  clear hX
  have q42 : ∀ (w : World) (r : Option Nat), (binOp .eql 67 (.map r) (.map none)).run Tryz.prog w = .ok (.bool r.isNone) w := fun w r => run_eql_map_nil w _ _ _ r Tryz.underlying67
  have hlk : ∀ w : World, (Instr.lookup 67 (.map none) (.int .i64 m.k) true).run Tryz.prog w = .ok (.tuple #[.agg #[.int .i64 0, .string ⟨#[]⟩], .bool false]) w := fun w =>
    Maps.look_nil true (int_keyed Tryz.underlying3) Tryz.underlying67 (infoZ w) hkey
  have hmm := @run_makeMap Tryz.prog
  unfold mv
  go_enter Tryz.func18, Tryz.ntmps18
  go_wp2_with fail
  have HS := hide (Sits.new w 44 #[.int .i64 m.k, .string m.t])
  have HX1 := hide (HX.out.alloc (.cells #[.int .i64 m.k, .string m.t] 44))
  have HB1 := hide (below_new (w := w) (.cells #[.int .i64 m.k, .string m.t] 44))
  generalize w.alloc (.cells #[.int .i64 m.k, .string m.t] 44) = W1 at *
  obtain ⟨B, hB⟩ : ∃ B, w.heap.size = B := ⟨_, rfl⟩
  have HBe := hide hB
  rw [hB] at HS
  rw [hB]
  clear hB
  have c0 := HX1.out.cell 0 _ rfl
  have k0 := HS.out.cell 0 _ rfl
  have k1 := HS.out.cell 1 _ rfl
  have c1 := (HX1.out.alloc (.cells #[.int .i64 0, .string ⟨#[]⟩] 44)).cell 0 _ rfl
  have k2 := (HS.out.alloc (.cells #[.int .i64 0, .string ⟨#[]⟩] 44)).cell 0 _ rfl
  go_region
  all_goals
    clear c0 c1 k0 k1 k2
    have HX2 := hide (show Sits (W1.alloc (.cells #[.int .i64 0, .string ⟨#[]⟩] 44)).drew X 87 #[.map none] from HX1.out.alloc _)
    have HS2 := hide (show Sits (W1.alloc (.cells #[.int .i64 0, .string ⟨#[]⟩] 44)).drew B 44 #[.int .i64 m.k, .string m.t] from HS.out.alloc _)
    have HB2 := hide (show Below w.heap.size w (W1.alloc (.cells #[.int .i64 0, .string ⟨#[]⟩] 44)).drew from below_drewN' (n := 1) (HB1.out.alloc HB1.out.size _))
    generalize (W1.alloc (.cells #[.int .i64 0, .string ⟨#[]⟩] 44)).drew = W2 at *
    have c0 := HX2.out.cell 0 _ rfl
    have f0 := HX2.out.frozen 0
    have c1 := (HX2.out.alloc (.map #[] 0)).cell 0 _ rfl
    have f1 := (HX2.out.alloc (.map #[] 0)).frozen 0
    go_wp2_with fail
    clear c0 c1 f0 f1
    obtain ⟨b, hb⟩ : ∃ b, W2.heap.size = b := ⟨_, rfl⟩
    have hXb : X ≠ b := by
      have := HX2.out.lt
      omega
    have hBb : B ≠ b := by
      have := HS2.out.lt
      omega
    have hBX : B ≠ X := by
      have := HX.out.lt
      have := HBe.out
      omega
    have HOF := hide (show Off [X] w ((W2.alloc (.map #[] 0)).setCell ⟨X, 0, none⟩ (.map (some W2.heap.size))) from ((Off.of_below HB2.out).alloc _).set (List.mem_cons_self ..) _ _)
    have HX3 := hide (show Sits ((W2.alloc (.map #[] 0)).setCell ⟨X, 0, none⟩ (.map (some W2.heap.size))) X 87 #[.map (some W2.heap.size)] from (HX2.out.alloc _).set 0 _)
    have HS3 := hide (show Sits ((W2.alloc (.map #[] 0)).setCell ⟨X, 0, none⟩ (.map (some W2.heap.size))) B 44 #[.int .i64 m.k, .string m.t] from Sits.but (HS2.out.alloc _) ((But.refl X _).set 0 _) hBX)
    have HO3 := hide (show ((W2.alloc (.map #[] 0)).setCell ⟨X, 0, none⟩ (.map (some W2.heap.size))).ownsMap Tryz.prog 3 (exE okM) W2.heap.size 0 (D []) from (World.ownsMap_made W2 Tryz.prog 3 (exE okM)).setCell (by rw [hb]; exact fun e => hXb e.symm) _)
    have HBb := hide (show w.heap.size ≤ b by have := HB2.out.size; omega)
    rw [hb] at HOF HX3 HS3 HO3
    rw [hb]
    clear hb hXb hBb
    generalize (W2.alloc (.map #[] 0)).setCell ⟨X, 0, none⟩ (.map (some b)) = W3 at *
    have c0 := HX3.out.cell 0 _ rfl
    have k0 := HS3.out.cell 0 _ rfl
    have k1 := HS3.out.cell 1 _ rfl
    obtain ⟨w4, hu, ho4, hg4⟩ := (show W3.drew.ownsMap Tryz.prog 3 (exE okM) b 0 (D []) from HO3.out).update (t := 67) (int_keyed Tryz.underlying3) Tryz.underlying67 (by decide) hkey (exE_mk (okM_mv m))
    rw [D_put (by simp)] at ho4
    simp only [mv] at hu
    have HU := hide ho4
    have HG := hide hg4
    clear ho4 hg4
    go_region
    all_goals
      go_wp2_with fail
      go_ret
      refine ⟨rfl, ?_, b, HBb.out, ?_, _, HU.out⟩
      · refine ⟨HG.out.os.trans HOF.out.os, HG.out.tape.trans HOF.out.tape, HG.out.output.trans HOF.out.output, Nat.le_trans HOF.out.size HG.out.size, fun k hk hF => ?_⟩
        have h1 := HBb.out
        have h2 := HOF.out.size
        exact (HG.out.block k (by show k < W3.heap.size; omega) (fun e => by cases e; omega)).trans (HOF.out.block k hk hF)
      · refine Foot.Sits.off (F := [b]) (show Sits W3.drew X _ _ from HX3.out) (grown_off' HG.out (by simp)) (by
          simp only [List.mem_singleton]
          intro e
          have := HX.out.lt
          have := HBb.out
          omega)
/-- Take. -/
theorem take (X : Nat) (mb : Option Nat) (ms : List Ms) (m : Ms) (hw : (Lit.int .i64 m.k).wf = true) (w : World) (h : SK w X mb ms) (hl : ms.length < maxLen) :
    Calls Tryz.prog 18 #[.pointer (some ⟨X, 0, none⟩), mv m] w fun e w' =>
      (m.k ∈ ms.map (·.k) ∧ e = .returned (.int .i64 10) ∧ Below w.heap.size w w') ∨
      (m.k ∉ ms.map (·.k) ∧ e = .returned (.int .i64 0) ∧ Off (X :: mb.toList) w w' ∧ ∃ b, SK w' X (some b) (insM m ms) ∧ (b ∈ mb.toList ∨ w.heap.size ≤ b)) := by
  cases mb with
  | none =>
    have e : ms = [] := h.map
    subst e
    refine (take_none X m hw w h.head).mono ?_
    rintro e w' ⟨h1, h2, b, h3, h4⟩
    exact Or.inr ⟨by simp, h1, h2, b, h4, Or.inr h3⟩
  | some b =>
    refine (take_some X b ms m hw w h.head h.map.tight hl).mono ?_
    rintro e w' (h1 | ⟨h1, h2, h3, h4⟩)
    · exact Or.inl h1
    · exact Or.inr ⟨h1, h2, h3, b, h4, Or.inl (by simp)⟩
set_option maxHeartbeats 1000000 in
/-- Taken: all that it took, by rising windows, in memory of its own. -/
theorem taken (X : Nat) (mb : Option Nat) (ms : List Ms) (hr : Rise ms) (w : World) (h : SK w X mb ms) (hN : ms.length ≤ 4000000000000) :
    Calls Tryz.prog 20 #[.pointer (some ⟨X, 0, none⟩)] w fun e w' => ∃ v : Value, e = .returned v ∧
      w'.ownsRow w.heap.size 44 2 v ms.length (mcells ms) ∧ Below w.heap.size w w' := by
  have c0 := h.head.cell 0 _ rfl
  have hs := rising mb ms hr w h.map hN
  go_enter Tryz.func20, Tryz.ntmps20
  go_wp2_with fail
  refine hs.mono ?_
  clear hs c0
  rintro e w1 ⟨v, rfl, hrow, hb⟩
  have HR := hide hrow
  have HB := hide hb
  clear hrow hb
  go_wp2_with fail
  go_ret
  exact ⟨_, rfl, HR.out, HB.out⟩
end Go.Proofs.YtmkidefdegaamaaGreatDoor.Sk
