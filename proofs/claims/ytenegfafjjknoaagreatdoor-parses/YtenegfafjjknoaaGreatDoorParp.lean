/- Proved: at every text and every six numbers the law Parses returns true; both arguments read afterwards as they did. The tables of the row's list are tied to the program's text by the given tie. -/
import Derived.Test.YtenegfafjjknoaaGreatDoorRowkit
import Derived.Test.YtenegfafjjknoaaGreatDoorLawp
import Derived.ChangeMaps5
namespace Go.Proofs.YtenegfafjjknoaaGreatDoor.Parp
open Go.ChangeShapes Go.WideShapes Go.ChangeAt Go.RowKit Go.Joins Rowkit

theorem cells9 : Tryz.prog.cellsOf 9 = 1 := by kernel_rfl
theorem cells6 : Tryz.prog.cellsOf 23 = 6 := by kernel_rfl

set_option maxRecDepth 100000 in
theorem contract (href : ∀ s : ByteArray, s.size ≤ 140737488355328 → Lawp.Ref s) (H : Type) (enc : TypeId × Value → H) (W : World) (base : Nat) (args : Array Value) (ds gs : List (DataW H)) (before : List MemPlace)
    (hval : ∀ (j : Nat) t v, Tryz.f3.params[j]? = some t → args[j]? = some v → Value.okWide Tryz.prog W .any base t v)
    (hW : DataW.Whole enc Tryz.prog Tryz.f3.params.toList Rows.parsesSpec.vars false W args.toList ds gs before)
    (hsz0 : (DataW.weightsEach Tryz.prog (Tryz.f3.params.toList ++ Rows.parsesSpec.plain.varTypes Tryz.prog) (ds ++ gs)).all (· ≤ reachBytes) = true)
    (hT : Plainw.Tab W) :
    Calls Tryz.prog 3 args W fun e W' => ∃ v, e = .returned v ∧ Rows.parsesSpec.post enc Tryz.prog Tryz.f3 false true false false W args v W' := by
  have hW' := hW
  obtain ⟨p, q, hA0, hV, rfl, hfz, hnd⟩ := hW
  have hA : DataW.TrodAll enc Tryz.prog W 0 (fun _ => true) true Tryz.f3.params.toList args.toList ds p := hA0
  have hsz := hsz0
  rw [Tryz.params3] at hA hval hsz
  obtain ⟨v0, vs0, d0, ds0, p0, q0, hargs, rfl, rfl, h0, r0⟩ := trodAll_cons hA
  obtain ⟨v1, vs1, d1, ds1, p1, q1, rfl, rfl, rfl, h1, r1⟩ := trodAll_cons r0
  obtain ⟨rfl, rfl, rfl⟩ := trodAll_nil r1
  obtain rfl : args = #[v0, v1] := by cases args; simp_all
  obtain ⟨rfl, rfl⟩ := trodVars_none hV
  obtain ⟨s, rfl, rfl, rfl, hsm⟩ := ChangeMaps.open_string Tryz.underlying9 (hval 0 9 v0 rfl rfl) h0
  obtain ⟨a0, a1, a2, a3, a4, a5, rfl, rfl, rfl, w0, w1, w2, w3, w4, w5⟩ := open_six Tryz.underlying23 (by kernel_rfl) cells6 Tryz.underlying3 rfl rfl rfl rfl rfl rfl (hval 1 23 v1 rfl rfl) h1
  clear hA0
  simp only [List.append_nil] at hW'
  have hlen := sized_string hsz (j := 0) (t := 9) rfl rfl
  have hs : s.size ≤ 140737488355328 := by
    rw [Lib.size_eq]
    simp only [reachBytes] at hlen
    omega
  refine (Lawp.parses s a0 a1 a2 a3 a4 a5 hs W hT (href s hs)).mono fun e W' ⟨he, hb⟩ => ?_
  subst he
  exact ⟨_, rfl, post_flat hW' (fun _ _ _ => trodAll_cons_mk (shut_bool Tryz.underlying4 _) trodAll_mk0)
    (fun _ => trodAll_cons_mk (ChangeMaps.shut_string Tryz.underlying9 hsm) (trodAll_cons_mk (shut_six Tryz.underlying23 (by kernel_rfl) cells6 Tryz.underlying3 rfl rfl rfl rfl rfl rfl w0 w1 w2 w3 w4 w5) trodAll_mk0)) (fun _ => rfl)
    (hb.frame _) (ok_one (by kernel_rfl) rfl (okWide_bool_mk Tryz.underlying4 _))⟩

end Go.Proofs.YtenegfafjjknoaaGreatDoor.Parp
