/- What both cards of this seat share: the tables, the witness's world, a struct of six numbers opened and shut. -/
import Derived.Test.YtmkidefdegaamaaGreatDoorCards
import Derived.Test.YtmkidefdegaamaaGreatDoorTie
import Derived.Test.YtmkidefdegaamaaGreatDoorPlainw
import Derived.WalkKit
import Derived.ProofKit
import Derived.OpenShut
import Derived.SizedLaws
import Derived.Lay
import Derived.Deep.DeepHandedRow
import Derived.Lib.LaidTab
import Derived.Lib.SmallJoins
namespace Go.Proofs.YtmkidefdegaamaaGreatDoor.Rowkit
open Go.ChangeShapes Go.WideShapes Go.ChangeAt Go.RowKit Go.Joins
theorem own : ownKnob Tryz.prog.godebug = none := by kernel_rfl
theorem gTab : Tryz.prog.globalNamed "internal/strconv.uint64pow10" = some 0 := by kernel_rfl
theorem gTabType : (Tryz.prog.globals[0]?).map (·.type) = some 285 := by kernel_rfl
theorem cellsT : Tryz.prog.cellsOf 285 = 20 := by kernel_rfl
theorem cellsU : Tryz.prog.cellsOf 239 = 1 := by kernel_rfl
theorem laidMet_tail {P : Program} {w : World} {n : String} {d : DataW Unit} {r : List (String × DataW Unit)} (h : laidMet P ((n, d) :: r) w) : laidMet P r w := by
  obtain ⟨ps, ⟨g, t, cs, fuel, p, q, _, _, _, _, hq, rfl⟩, hnd, hrow⟩ := h
  exact ⟨q, hq, hnd.sublist (List.sublist_append_right _ _), fun b off hm => hrow b off (List.mem_append_right _ hm)⟩
/-- What the row's list gives: the table of the powers of ten. -/
theorem tab_of {W : World} {a b : String × DataW Unit} {r : List (String × DataW Unit)} (h : laidMet Tryz.prog (a :: b :: ("internal/strconv.uint64pow10", Rows.laid_internal_strconv_uint64pow10) :: r) W) : Plainw.Tab W :=
  Lib.tabIs_of_head (rest := r) gTab gTabType Tryz.underlying285 Tryz.underlying239 cellsU cellsT (laidMet_tail (laidMet_tail h))
section
variable {H : Type} {enc : TypeId × Value → H} {P : Program} {w : World} {base : Nat} {spare : Nat → Bool} {held : Bool}
theorem array6 {α : Type} {cs : Array α} (h : cs.size = 6) : ∃ c0 c1 c2 c3 c4 c5, cs = #[c0, c1, c2, c3, c4, c5] := by
  obtain ⟨l⟩ := cs
  match l, h with
  | [c0, c1, c2, c3, c4, c5], _ => exact ⟨c0, c1, c2, c3, c4, c5, rfl⟩
theorem list6 {α : Type} {l : List α} (h : l.length = 6) : ∃ c0 c1 c2 c3 c4 c5, l = [c0, c1, c2, c3, c4, c5] := by
  match l, h with
  | [c0, c1, c2, c3, c4, c5], _ => exact ⟨c0, c1, c2, c3, c4, c5, rfl⟩
/-- A struct of six numbers, by value, opened. -/
theorem open_six {r : Reach} {b0 : Nat} {t e : TypeId} {f0 f1 f2 f3 f4 f5 : Field} {v : Value} {d : DataW H} {p : List MemPlace} (hs : P.underlying t = some (.struct #[f0, f1, f2, f3, f4, f5])) (hone : Deep.oneCellFields P #[f0, f1, f2, f3, f4, f5] = true) (hC : P.cellsOf t = 6)
    (he : P.underlying e = some (.int .i64)) (e0 : f0.type = e) (e1 : f1.type = e) (e2 : f2.type = e) (e3 : f3.type = e) (e4 : f4.type = e) (e5 : f5.type = e)
    (hv : Value.okWide P w r b0 t v) (h : DataW.Trod enc P w base spare held t v d p) :
    ∃ a0 a1 a2 a3 a4 a5 : Int, v = .agg #[.int .i64 a0, .int .i64 a1, .int .i64 a2, .int .i64 a3, .int .i64 a4, .int .i64 a5] ∧ d = .agg [.lit (.int .i64 a0), .lit (.int .i64 a1), .lit (.int .i64 a2), .lit (.int .i64 a3), .lit (.int .i64 a4), .lit (.int .i64 a5)] ∧ p = [] ∧
      (Lit.int .i64 a0).wf = true ∧ (Lit.int .i64 a1).wf = true ∧ (Lit.int .i64 a2).wf = true ∧ (Lit.int .i64 a3).wf = true ∧ (Lit.int .i64 a4).wf = true ∧ (Lit.int .i64 a5).wf = true := by
  obtain ⟨cs, rfl, hsz⟩ := okWide_struct hs hv
  obtain ⟨c0, c1, c2, c3, c4, c5, rfl⟩ := array6 (hsz.trans hC)
  obtain ⟨fuel, hf⟩ := h
  obtain ⟨xs, n, _, hx, _, hlen, hfi⟩ := DataW.trod_struct hs hf
  obtain ⟨y0, y1, y2, y3, y4, y5, rfl⟩ := list6 hlen
  have t0 := hfi 0 f0 rfl
  obtain ⟨o0, k0⟩ := Deep.hone_of hone 0 f0 rfl
  rw [e0] at t0 k0
  obtain ⟨a0, q0, rfl, w0⟩ := DataW.trod_int he (show DataW.trod enc P w base spare held n e [c0] = some y0 by simpa [Value.cells, o0, k0] using t0)
  simp only [List.cons.injEq, and_true] at q0
  subst q0
  have t1 := hfi 1 f1 rfl
  obtain ⟨o1, k1⟩ := Deep.hone_of hone 1 f1 rfl
  rw [e1] at t1 k1
  obtain ⟨a1, q1, rfl, w1⟩ := DataW.trod_int he (show DataW.trod enc P w base spare held n e [c1] = some y1 by simpa [Value.cells, o1, k1] using t1)
  simp only [List.cons.injEq, and_true] at q1
  subst q1
  have t2 := hfi 2 f2 rfl
  obtain ⟨o2, k2⟩ := Deep.hone_of hone 2 f2 rfl
  rw [e2] at t2 k2
  obtain ⟨a2, q2, rfl, w2⟩ := DataW.trod_int he (show DataW.trod enc P w base spare held n e [c2] = some y2 by simpa [Value.cells, o2, k2] using t2)
  simp only [List.cons.injEq, and_true] at q2
  subst q2
  have t3 := hfi 3 f3 rfl
  obtain ⟨o3, k3⟩ := Deep.hone_of hone 3 f3 rfl
  rw [e3] at t3 k3
  obtain ⟨a3, q3, rfl, w3⟩ := DataW.trod_int he (show DataW.trod enc P w base spare held n e [c3] = some y3 by simpa [Value.cells, o3, k3] using t3)
  simp only [List.cons.injEq, and_true] at q3
  subst q3
  have t4 := hfi 4 f4 rfl
  obtain ⟨o4, k4⟩ := Deep.hone_of hone 4 f4 rfl
  rw [e4] at t4 k4
  obtain ⟨a4, q4, rfl, w4⟩ := DataW.trod_int he (show DataW.trod enc P w base spare held n e [c4] = some y4 by simpa [Value.cells, o4, k4] using t4)
  simp only [List.cons.injEq, and_true] at q4
  subst q4
  have t5 := hfi 5 f5 rfl
  obtain ⟨o5, k5⟩ := Deep.hone_of hone 5 f5 rfl
  rw [e5] at t5 k5
  obtain ⟨a5, q5, rfl, w5⟩ := DataW.trod_int he (show DataW.trod enc P w base spare held n e [c5] = some y5 by simpa [Value.cells, o5, k5] using t5)
  simp only [List.cons.injEq, and_true] at q5
  subst q5
  simp only [Prod.mk.injEq] at hx
  exact ⟨a0, a1, a2, a3, a4, a5, rfl, hx.1, by simpa using hx.2, w0, w1, w2, w3, w4, w5⟩
/-- .. and shut. -/
theorem shut_six {t e : TypeId} {f0 f1 f2 f3 f4 f5 : Field} (hs : P.underlying t = some (.struct #[f0, f1, f2, f3, f4, f5])) (hone : Deep.oneCellFields P #[f0, f1, f2, f3, f4, f5] = true) (hC : P.cellsOf t = 6)
    (he : P.underlying e = some (.int .i64)) (e0 : f0.type = e) (e1 : f1.type = e) (e2 : f2.type = e) (e3 : f3.type = e) (e4 : f4.type = e) (e5 : f5.type = e)
    {a0 a1 a2 a3 a4 a5 : Int} (w0 : (Lit.int .i64 a0).wf = true) (w1 : (Lit.int .i64 a1).wf = true) (w2 : (Lit.int .i64 a2).wf = true) (w3 : (Lit.int .i64 a3).wf = true) (w4 : (Lit.int .i64 a4).wf = true) (w5 : (Lit.int .i64 a5).wf = true) :
    DataW.Trod enc P w base spare held t (.agg #[.int .i64 a0, .int .i64 a1, .int .i64 a2, .int .i64 a3, .int .i64 a4, .int .i64 a5]) (.agg [.lit (.int .i64 a0), .lit (.int .i64 a1), .lit (.int .i64 a2), .lit (.int .i64 a3), .lit (.int .i64 a4), .lit (.int .i64 a5)]) [] := by
  obtain ⟨o0, k0⟩ := Deep.hone_of hone 0 f0 rfl
  rw [e0] at k0
  have o1 := (Deep.hone_of hone 1 f1 rfl).1
  have o2 := (Deep.hone_of hone 2 f2 rfl).1
  have o3 := (Deep.hone_of hone 3 f3 rfl).1
  have o4 := (Deep.hone_of hone 4 f4 rfl).1
  have o5 := (Deep.hone_of hone 5 f5 rfl).1
  have ts := trod_struct_mk (enc := enc) (w := w) (base := base) (spare := spare) (held := held) (n := 1) (cs := [.int .i64 a0, .int .i64 a1, .int .i64 a2, .int .i64 a3, .int .i64 a4, .int .i64 a5]) (xs := [(.lit (.int .i64 a0), []), (.lit (.int .i64 a1), []), (.lit (.int .i64 a2), []), (.lit (.int .i64 a3), []), (.lit (.int .i64 a4), []), (.lit (.int .i64 a5), [])]) hs (by simp [hC])
    (by simp [o0, k0, e0, o1, e1, o2, e2, o3, e3, o4, e4, o5, e5, trod_int_mk 0 he w0, trod_int_mk 0 he w1, trod_int_mk 0 he w2, trod_int_mk 0 he w3, trod_int_mk 0 he w4, trod_int_mk 0 he w5])
  exact ⟨_, by simpa [Value.cells] using ts⟩
/-- What holds behind a call whose arguments have no places: whatever new memory there is. -/
theorem post_flat {f : Func} {s : ChangeSpec} {apart fresh handsOn again : Bool} {W W' : World} {args : Array Value} {v : Value} {ds gs : List (DataW H)}
    (hW : DataW.Whole enc P f.params.toList s.vars apart W args.toList ds gs [])
    (hres : ∀ (b : Nat) (sp : Nat → Bool) (hd : Bool), DataW.TrodAll enc P W' b sp hd f.resultTypes.toList (v.resultList f.resultTypes.size) (s.fn H (ds ++ gs)).results [])
    (hargs : ∀ sp : Nat → Bool, DataW.TrodAll enc P W' 0 sp true f.params.toList args.toList (s.fn H (ds ++ gs)).args [])
    (hvars : ∀ sp : Nat → Bool, DataW.TrodVars enc P W' sp s.vars (s.fn H (ds ++ gs)).vars [])
    (hk : W.keptBut W' (· ∈ ([] : List MemPlace)))
    (hok : ∀ (j : Nat) (t : TypeId) (r : Value), f.resultTypes[j]? = some t → (v.resultList f.resultTypes.size)[j]? = some r → Value.okWide P W' .any 0 t r) :
    s.post enc P f apart fresh handsOn again W args v W' := by
  refine ⟨ds, gs, [], [], [], [], hW, hres _ _ _, hargs _, hvars _, World.keptBut_mono (fun p hp => by cases hp) hk, fun _ => ?_⟩
  refine ⟨hok, _, _, ([] ++ []) ++ [], ⟨[] ++ [], [], trodAll_append (hargs _) (hres _ _ _), hvars _, rfl, ?_, ?_⟩, ?_⟩
  · intro b off hp
    cases hp
  · intro _
    exact List.nodup_nil
  · intro p hp
    cases hp
end
end Go.Proofs.YtmkidefdegaamaaGreatDoor.Rowkit
