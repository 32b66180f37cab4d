/- Proved: P5, the law Split: at every two configurations, number and two texts it returns true, and all of them read afterwards as they did. Its condition: what is handed in is of bulk at most 1048576 (values and letters). The card: the tables of the row's list are tied to the program's text by the given tie. -/
import Derived.Test.YtenegfafjjknoaaGreatDoorRowkit
import Derived.Test.YtenegfafjjknoaaGreatDoorKh
import Derived.Test.YtenegfafjjknoaaGreatDoorFctsplit
import Derived.ChangeMaps5
namespace Go.Proofs.YtenegfafjjknoaaGreatDoor.Ks
open Go.ChangeShapes Go.WideShapes Go.ChangeAt Go.RowKit Go.Joins Rowkit

theorem cells31 : Tryz.prog.cellsOf 31 = 6 := by kernel_rfl

theorem wf_range {a : Int} (h : (Lit.int .i64 a).wf = true) : -9223372036854775808 ≤ a ∧ a ≤ 9223372036854775807 := by
  have h2 : IntKind.i64.min = -9223372036854775808 := by decide
  have h3 : IntKind.i64.max = 9223372036854775807 := by decide
  simpa only [Lit.wf, h2, h3, Bool.and_eq_true, decide_eq_true_eq] using h

def six (a0 a1 a2 a3 a4 a5 : Int) : Fin 6 → Int
  | 0 => a0
  | 1 => a1
  | 2 => a2
  | 3 => a3
  | 4 => a4
  | 5 => a5

theorem six_range {a0 a1 a2 a3 a4 a5 : Int} (w0 : (Lit.int .i64 a0).wf = true) (w1 : (Lit.int .i64 a1).wf = true) (w2 : (Lit.int .i64 a2).wf = true) (w3 : (Lit.int .i64 a3).wf = true) (w4 : (Lit.int .i64 a4).wf = true) (w5 : (Lit.int .i64 a5).wf = true) : ∀ i, -9223372036854775808 ≤ six a0 a1 a2 a3 a4 a5 i ∧ six a0 a1 a2 a3 a4 a5 i ≤ 9223372036854775807
  | 0 => wf_range w0
  | 1 => wf_range w1
  | 2 => wf_range w2
  | 3 => wf_range w3
  | 4 => wf_range w4
  | 5 => wf_range w5

set_option maxRecDepth 100000 in
theorem contract (H : Type) (enc : TypeId × Value → H) (W : World) (base : Nat) (args : Array Value) (ds gs : List (DataW H)) (before : List MemPlace)
    (hval : ∀ (j : Nat) t v, Tryz.f7.params[j]? = some t → args[j]? = some v → Value.okWide Tryz.prog W .any base t v)
    (hW : DataW.Whole enc Tryz.prog Tryz.f7.params.toList Rows.splitSpec.vars false W args.toList ds gs before)
    (hbulk : Rows.uptoBulkAll (ds ++ gs) ≤ 1048576)
    (hT : Plainw.Tab W) :
    Calls Tryz.prog 7 args W fun e W' => ∃ v, e = .returned v ∧ Rows.splitSpec.post enc Tryz.prog Tryz.f7 false true false false W args v W' := by
  have hW' := hW
  obtain ⟨p, q, hA0, hV, rfl, hfz, hnd⟩ := hW
  have hA : DataW.TrodAll enc Tryz.prog W 0 (fun _ => true) true Tryz.f7.params.toList args.toList ds p := hA0
  rw [Tryz.params7] at hA hval
  obtain ⟨v0, vs0, d0, ds0, p0, q0, hargs, rfl, rfl, h0, r0⟩ := trodAll_cons hA
  obtain ⟨v1, vs1, d1, ds1, p1, q1, rfl, rfl, rfl, h1, r1⟩ := trodAll_cons r0
  obtain ⟨v2, vs2, d2, ds2, p2, q2, rfl, rfl, rfl, h2, r2⟩ := trodAll_cons r1
  obtain ⟨v3, vs3, d3, ds3, p3, q3, rfl, rfl, rfl, h3, r3⟩ := trodAll_cons r2
  obtain ⟨v4, vs4, d4, ds4, p4, q4, rfl, rfl, rfl, h4, r4⟩ := trodAll_cons r3
  obtain ⟨rfl, rfl, rfl⟩ := trodAll_nil r4
  obtain rfl : args = #[v0, v1, v2, v3, v4] := by cases args; simp_all
  obtain ⟨rfl, rfl⟩ := trodVars_none hV
  obtain ⟨a0, a1, a2, a3, a4, a5, rfl, rfl, rfl, w0, w1, w2, w3, w4, w5⟩ := open_six Tryz.underlying31 (by kernel_rfl) cells31 Tryz.underlying3 rfl rfl rfl rfl rfl rfl (hval 0 31 v0 rfl rfl) h0
  obtain ⟨b0, b1, b2, b3, b4, b5, rfl, rfl, rfl, x0, x1, x2, x3, x4, x5⟩ := open_six Tryz.underlying31 (by kernel_rfl) cells31 Tryz.underlying3 rfl rfl rfl rfl rfl rfl (hval 1 31 v1 rfl rfl) h1
  obtain ⟨num, rfl, rfl, rfl, wn⟩ := open_int Tryz.underlying3 (hval 2 3 v2 rfl rfl) h2
  obtain ⟨s, rfl, rfl, rfl, hsm⟩ := ChangeMaps.open_string Tryz.underlying9 (hval 3 9 v3 rfl rfl) h3
  obtain ⟨u, rfl, rfl, rfl, hum⟩ := ChangeMaps.open_string Tryz.underlying9 (hval 4 9 v4 rfl rfl) h4
  clear hA0
  simp only [List.append_nil] at hW' hbulk
  have hs : s.size ≤ 1048576 := by
    rw [Lib.size_eq]
    simp only [Rows.uptoBulkAll, Rows.uptoBulk] at hbulk
    omega
  have hu : u.size ≤ 1048576 := by
    rw [Lib.size_eq]
    simp only [Rows.uptoBulkAll, Rows.uptoBulk] at hbulk
    omega
  have hwn := wf_range wn
  refine (show Calls _ _ _ _ _ from Kf.split (six a0 a1 a2 a3 a4 a5) (six b0 b1 b2 b3 b4 b5) (six_range w0 w1 w2 w3 w4 w5) (six_range x0 x1 x2 x3 x4 x5) num hwn.1 hwn.2 s u hs hu W hT).mono fun e W' ⟨he, hb⟩ => ?_
  subst he
  exact ⟨_, rfl, post_flat hW' (fun _ _ _ => trodAll_cons_mk (shut_bool Tryz.underlying4 _) trodAll_mk0)
    (fun _ => trodAll_cons_mk (shut_six Tryz.underlying31 (by kernel_rfl) cells31 Tryz.underlying3 rfl rfl rfl rfl rfl rfl w0 w1 w2 w3 w4 w5) (trodAll_cons_mk (shut_six Tryz.underlying31 (by kernel_rfl) cells31 Tryz.underlying3 rfl rfl rfl rfl rfl rfl x0 x1 x2 x3 x4 x5) (trodAll_cons_mk (shut_int Tryz.underlying3 wn) (trodAll_cons_mk (ChangeMaps.shut_string Tryz.underlying9 hsm) (trodAll_cons_mk (ChangeMaps.shut_string Tryz.underlying9 hum) trodAll_mk0))))) (fun _ => rfl)
    (hb.frame _) (ok_one (by kernel_rfl) rfl (okWide_bool_mk Tryz.underlying4 _))⟩

section
set_option maxRecDepth 100000

abbrev args0 : Array Value := #[.agg #[.int .i64 0, .int .i64 0, .int .i64 0, .int .i64 0, .int .i64 0, .int .i64 0], .agg #[.int .i64 0, .int .i64 0, .int .i64 0, .int .i64 0, .int .i64 0, .int .i64 0], .int .i64 0, .string ⟨#[]⟩, .string ⟨#[]⟩]

theorem fits (os : Os) : (World.holding Tryz.prog os ⟨#[], #[], []⟩).layFits Tryz.prog Rows.splitUptoRow.laid [] = true := by kernel_rfl
theorem ifaces (os : Os) : (World.holding Tryz.prog os ⟨#[], #[], []⟩).layIfaces Tryz.prog Rows.splitUptoRow.laid (World.laidAll Tryz.prog os Rows.splitUptoRow.laid) = true := by kernel_rfl

theorem laid_met (os : Os) : laidMet Tryz.prog Rows.splitUptoRow.laid ((World.laidAll Tryz.prog os Rows.splitUptoRow.laid).forCall (fun _ _ => 0) ⟨#[], args0, []⟩).memory :=
  laidMet_laidAll args0 (fits os) (ifaces os)

theorem reads (os : Os) {H : Type} (enc : TypeId × Value → H) : ∃ places, DataW.whole enc Tryz.prog ((World.laidAll Tryz.prog os Rows.splitUptoRow.laid).forCall (fun _ _ => 0) ⟨#[], args0, []⟩).memory Tryz.f7.params.toList Rows.splitSpec.vars false args0.toList 8 = some ([.agg [.lit (.int .i64 0), .lit (.int .i64 0), .lit (.int .i64 0), .lit (.int .i64 0), .lit (.int .i64 0), .lit (.int .i64 0)], .agg [.lit (.int .i64 0), .lit (.int .i64 0), .lit (.int .i64 0), .lit (.int .i64 0), .lit (.int .i64 0), .lit (.int .i64 0)], .lit (.int .i64 0), .lit (.string []), .lit (.string [])], [], places) :=
  ⟨[], by kernel_rfl⟩

theorem vars_ok (os : Os) : ((World.laidAll Tryz.prog os Rows.splitUptoRow.laid).forCall (fun _ _ => 0) ⟨#[], args0, []⟩).variablesB Tryz.prog = true := by kernel_rfl

theorem rest_ok (os : Os) : (((World.laidAll Tryz.prog os Rows.splitUptoRow.laid).forCall (fun _ _ => 0) ⟨#[], args0, []⟩).heap.toList.drop Tryz.prog.globals.size).take ((begin Tryz.prog (fun _ _ => 0) default).world.heap.size - Tryz.prog.globals.size) =
      (begin Tryz.prog (fun _ _ => 0) default).world.heap.toList.drop Tryz.prog.globals.size := by kernel_rfl

theorem input_ok (os : Os) : Input.okWideB Tryz.prog ((World.laidAll Tryz.prog os Rows.splitUptoRow.laid).forCall (fun _ _ => 0) ⟨#[], args0, []⟩) 7 ⟨#[], args0, []⟩ = true := by kernel_rfl
end

set_option maxRecDepth 100000 in
theorem lifted (os : Os) (started : os.Started) (H : Type) (enc : TypeId × Value → H) (F : Stop.Interp) :
    ReturnsInHanded {} Tryz.checked os 7 .any ((Rows.OpenSpec.upto Rows.splitSpec).preRow enc Tryz.prog Tryz.f7 Rows.splitUptoRow.domain false Rows.splitUptoRow.laid) (((Rows.OpenSpec.upto Rows.splitSpec).at F).post enc Tryz.prog Tryz.f7 false true false false) := by
  obtain ⟨places, hx⟩ := reads os enc
  refine returnsInHanded_of_row (C := Tryz.checked) (s := Rows.OpenSpec.upto Rows.splitSpec) own started (by kernel_rfl) Tryz.func7
    (witness_row_at (enc := enc) (C := Tryz.checked) false (World.laidAll Tryz.prog os Rows.splitUptoRow.laid) args0 (World.laidAll_os _ _ _) (vars_ok os) (rest_ok os) (input_ok os)
      (OpenSpec.preRow_of_cond 8 hx (by kernel_rfl) (fun k hk => by cases hk; kernel_rfl) (by kernel_rfl) (laid_met os))) ?_
  intro W base args ds gs before hval hW _ hcond _ hL _ _
  exact contract H enc W base args ds gs before hval hW (of_decide_eq_true (hcond _ rfl)) (tab_of (a := ("math/bits.deBruijn32tab", Rows.laid_math_bits_deBruijn32tab)) (b := ("math/bits.deBruijn64tab", Rows.laid_math_bits_deBruijn64tab)) hL)

theorem said : Rows.SplitUptoSaid :=
  OpenClaim.holds_of_cond 7 Tryz.f7 rfl rfl rfl rfl rfl rfl rfl ⟨rfl, rfl, rfl, rfl, rfl⟩ rfl rfl rfl rfl rfl (by kernel_rfl) Tryz.func7 Fctsplit.facts
    (of_decide_eq_true (by kernel_rfl)) (by unfold Func.isWrapper; first | (rw [if_pos (by decide +kernel)]; kernel_rfl) | (rw [if_neg (by decide +kernel)]; exact ⟨rfl, rfl⟩))
    (fun os started H enc _ F => by rw [OpenClaim.pre_eq_preRow]; exact lifted os started H enc F)

theorem plain (f : FuncId) (fn : Func) (hf : Tryz.pinned.checked.prog.funcNamed "tally/tallykeep.Split" = some f) (hfn : Tryz.pinned.checked.prog.funcs[f]? = some fn) :
    true = Tryz.pinned.checked.prog.looks [] ∧ ∀ (j : Nat) t, fn.params[j]? = some t → Tryz.pinned.checked.prog.wantsStandIn t = false := by
  obtain rfl : f = 7 := Option.some.inj ((show Tryz.prog.funcNamed "tally/tallykeep.Split" = some 7 by kernel_rfl).symm.trans hf) |>.symm
  obtain rfl : fn = Tryz.f7 := (Option.some.inj (Tryz.func7.symm.trans hfn)).symm
  refine ⟨by kernel_rfl, fun j t ht => ?_⟩
  rw [Tryz.params7] at ht
  have ht' : t = 31 ∨ t = 3 ∨ t = 9 := by simpa using Array.mem_of_getElem? ht
  rcases ht' with rfl | rfl | rfl
  · exact (show Tryz.prog.wantsStandIn 31 = false by kernel_rfl)
  · exact (show Tryz.prog.wantsStandIn 3 = false by kernel_rfl)
  · exact (show Tryz.prog.wantsStandIn 9 = false by kernel_rfl)

theorem split_card : Rows.SplitUptoCardSaid :=
  Claim7.holds_tied_plain_at .later [] _ _ _ _ said (fun _ h => by cases h) (by kernel_rfl) (fun _ h => by cases h) splitUpto_row_tie rfl ⟨rfl, rfl⟩ (by kernel_rfl) rfl plain (by kernel_rfl)

end Go.Proofs.YtenegfafjjknoaaGreatDoor.Ks

namespace Go.Proofs.YtenegfafjjknoaaGreatDoor

/-- P5: the law Split, as the card says it. -/
theorem split_holds : Rows.SplitUptoCardSaid := Ks.split_card

end Go.Proofs.YtenegfafjjknoaaGreatDoor
