/- Proved: P5, P1, the law Sums: at every configuration, number of a window and row of texts it returns true, and all of them read afterwards as they did. Its condition: what is handed in is of bulk at most 1048576 (values and letters). The card: the tables of the row's list are tied to the program's text by the given tie. -/
import Derived.Test.YtenegfafjjknoaaGreatDoorRowkit
import Derived.Test.YtenegfafjjknoaaGreatDoorExamx
import Derived.Test.YtenegfafjjknoaaGreatDoorFctsums
import Derived.ChangeMaps5
import Derived.Carry
import Derived.Deep.Slices
import Derived.SliceStrings
namespace Go.Proofs.YtenegfafjjknoaaGreatDoor.Ru
open Go.ChangeShapes Go.WideShapes Go.ChangeAt Go.RowKit Go.Joins Rowkit

theorem cells23 : Tryz.prog.cellsOf 23 = 6 := by kernel_rfl

theorem wf_range {a : Int} (h : (Lit.int .i64 a).wf = true) : -9223372036854775808 ≤ a ∧ a ≤ 9223372036854775807 := by
  have h2 : IntKind.i64.min = -9223372036854775808 := by decide
  have h3 : IntKind.i64.max = 9223372036854775807 := by decide
  simpa only [Lit.wf, h2, h3, Bool.and_eq_true, decide_eq_true_eq] using h

def six (a0 a1 a2 a3 a4 a5 : Int) : Fin 6 → Int
  | 0 => a0
  | 1 => a1
  | 2 => a2
  | 3 => a3
  | 4 => a4
  | 5 => a5

theorem six_range {a0 a1 a2 a3 a4 a5 : Int} (w0 : (Lit.int .i64 a0).wf = true) (w1 : (Lit.int .i64 a1).wf = true) (w2 : (Lit.int .i64 a2).wf = true) (w3 : (Lit.int .i64 a3).wf = true) (w4 : (Lit.int .i64 a4).wf = true) (w5 : (Lit.int .i64 a5).wf = true) : ∀ i, -9223372036854775808 ≤ six a0 a1 a2 a3 a4 a5 i ∧ six a0 a1 a2 a3 a4 a5 i ≤ 9223372036854775807
  | 0 => wf_range w0
  | 1 => wf_range w1
  | 2 => wf_range w2
  | 3 => wf_range w3
  | 4 => wf_range w4
  | 5 => wf_range w5

section
variable {H : Type} {enc : TypeId × Value → H} {P : Program}

/-- What holds behind a call that leaves all old memory as it was. -/
theorem post_below {f : Func} {s : ChangeSpec} {apart fresh handsOn again : Bool} {W W' : World} {args : Array Value} {v : Value} {ds gs : List (DataW H)} {before pa pv : List MemPlace}
    (hW : DataW.Whole enc P f.params.toList s.vars apart W args.toList ds gs before)
    (hres : ∀ (b : Nat) (sp : Nat → Bool) (hd : Bool), DataW.TrodAll enc P W' b sp hd f.resultTypes.toList (v.resultList f.resultTypes.size) (s.fn H (ds ++ gs)).results [])
    (hargs : ∀ sp : Nat → Bool, (∀ p ∈ before, sp p.block = true) → DataW.TrodAll enc P W' 0 sp true f.params.toList args.toList (s.fn H (ds ++ gs)).args pa)
    (hvars : ∀ sp : Nat → Bool, (∀ p ∈ before, sp p.block = true) → DataW.TrodVars enc P W' sp s.vars (s.fn H (ds ++ gs)).vars pv)
    (hps : before = pa ++ pv) (hb : Below W.heap.size W W')
    (hok : ∀ (j : Nat) (t : TypeId) (r : Value), f.resultTypes[j]? = some t → (v.resultList f.resultTypes.size)[j]? = some r → Value.okWide P W' .any 0 t r) :
    s.post enc P f apart fresh handsOn again W args v W' := by
  have hold : ∀ p ∈ before, (fun b => decide (b < W.heap.size)) p.block = true := fun p hp => by simpa using hW.lt p hp
  have hlt := hW.lt
  refine ⟨ds, gs, before, [], pa, pv, hW, hres _ _ _, hargs _ hold, hvars _ hold, World.keptBut_mono (fun p hp => ⟨hp, ?_⟩) (hb.frame (· ∈ before)), fun _ => ?_⟩
  · rw [hps, List.mem_append] at hp
    exact Or.inr hp
  · obtain ⟨_, _, _, _, _, hz, hn⟩ := hW
    refine ⟨hok, _, _, ([] ++ pa) ++ pv, ⟨[] ++ pa, pv, trodAll_append (hargs _ (fun _ _ => rfl)) (hres _ _ _), hvars _ (fun _ _ => rfl), rfl, ?_, ?_⟩, ?_⟩
    · intro b off hp
      have hm : MemPlace.cell b off ∈ before := by rw [hps]; simpa using hp
      rw [World.frozen?_of_block (w := W) (hb.block b (hlt _ hm))]
      exact hz b off hm
    · intro ha
      have := hn ha
      rw [hps] at this
      simpa using this
    · intro p hp _
      rw [hps]
      simpa using hp

end

theorem laidOut : laidOutB Tryz.prog = true := by kernel_rfl
theorem cellsS : Tryz.prog.cellsOf 9 = 1 := by kernel_rfl

/-- The row of texts, read. -/
theorem open_row {H : Type} {enc : TypeId × Value → H} {P : Program} {w : World} {t e : TypeId} {fuel : Nat} {cs : List Value} {x : DataW H × List MemPlace} (ht : P.underlying t = some (.slice e)) (he : P.underlying e = some .string) (hC : P.cellsOf e = 1)
    (h : DataW.trod enc P w 0 (fun _ => true) true fuel t cs = some x) :
    ∃ (ao : Option Addr) (cap : Nat) (l : List (List UInt8)) (rest : List (DataW H)), cs = [.slice ao l.length cap] ∧ Rv.Src w ao l ∧ (x.1 = .nil ∧ l = [] ∨ x.1 = .slice (l.map fun y => .lit (.string y)) rest) := by
  rcases open_strings ht he hC h with ⟨rfl, rfl⟩ | ⟨a, len, cap, ss, rfl, hb, hl, hm, hz, rfl, hc, hw⟩
  · exact ⟨none, 0, [], [], rfl, fun i y hy => (by simp at hy), Or.inl ⟨rfl, rfl⟩⟩
  · have hzl : ss.length = cap := by simpa using hz
    have hll : ((ss.take len).map fun s => s.data.toList).length = len := by rw [List.length_map, List.length_take]; omega
    refine ⟨some a, cap, (ss.take len).map fun s => s.data.toList, strs (ss.drop len), by rw [hll], fun i y hy => ⟨a, rfl, ?_⟩, Or.inr (by simp [strs, List.map_map, Function.comp_def])⟩
    have hi : i < len := by rw [← hll]; exact (List.getElem?_eq_some_iff.1 hy).1
    have h1 := hc i (by omega)
    rw [List.getElem?_map, List.getElem?_take, if_pos hi, List.getElem?_eq_getElem (by omega)] at hy
    have hy2 : (ss[i]'(by omega)).data.toList = y := by simpa using hy
    have hg : ss.getD i ByteArray.empty = ⟨y.toArray⟩ := by
      rw [List.getD_eq_getElem?_getD, List.getElem?_eq_getElem (by omega), ← hy2]
      rfl
    rw [hg] at h1
    refine ⟨?_, h1⟩
    rcases Nat.lt_or_ge a.block w.heap.size with h2 | h2
    · exact h2
    · have hn : w.cell? (a.add i) = none := by
        unfold World.cell?
        rw [Ra.add_blockQ, Array.getElem?_eq_none h2]
      rw [hn] at h1
      cases h1

theorem lines_le (d : List UInt8) : (Wm.lines d).length ≤ d.length + 1 := by
  induction d with
  | nil => exact Nat.le_refl _
  | cons c r ih =>
    rw [Wm.lines]
    split
    · rw [List.length_cons, List.length_cons]
      omega
    · split
      · simp
      · rename_i hl
        rw [hl, List.length_cons] at ih
        rw [List.length_cons, List.length_cons]
        omega

theorem bulk_texts {H : Type} (l : List (List UInt8)) : l.length + (Ra.allL l).length ≤ 2 * Rows.uptoBulkAll (l.map fun y => (DataW.lit (.string y) : DataW H)) ∧ (∀ d ∈ l, d.length ≤ Rows.uptoBulkAll (l.map fun y => (DataW.lit (.string y) : DataW H))) := by
  induction l with
  | nil => exact ⟨Nat.le_refl _, fun d hd => by cases hd⟩
  | cons y r ih =>
    have h1 : Rows.uptoBulk (DataW.lit (.string y) : DataW H) = y.length + 1 := by simp [Rows.uptoBulk]
    have h2 := lines_le y
    rw [List.map_cons, Rows.uptoBulkAll, h1]
    constructor
    · have h3 : (Ra.allL (y :: r)).length = (Wm.lines y).length + (Ra.allL r).length := by
        unfold Ra.allL
        rw [List.flatMap_cons, List.length_append]
      rw [h3, List.length_cons]
      omega
    · intro d hd
      rcases List.mem_cons.1 hd with rfl | hd
      · omega
      · have := ih.2 d hd
        omega

theorem nls_all (l : List (List UInt8)) : Kr.nls l = (Ra.allL l).length := by
  induction l with
  | nil => rfl
  | cons d r ih =>
    rw [Kr.nls, ih, ← Kr.lines_count]
    unfold Ra.allL
    rw [List.flatMap_cons, List.length_append]

set_option maxRecDepth 100000 in
theorem contract (H : Type) (enc : TypeId × Value → H) (W : World) (base : Nat) (args : Array Value) (ds gs : List (DataW H)) (before : List MemPlace)
    (hval : ∀ (j : Nat) t v, Tryz.f4.params[j]? = some t → args[j]? = some v → Value.okWide Tryz.prog W .any base t v)
    (hW : DataW.Whole enc Tryz.prog Tryz.f4.params.toList Rows.sumsSpec.vars false W args.toList ds gs before)
    (hbulk : Rows.uptoBulkAll (ds ++ gs) ≤ 1048576)
    (hT : Plainw.Tab W) :
    Calls Tryz.prog 4 args W fun e W' => ∃ v, e = .returned v ∧ Rows.sumsSpec.post enc Tryz.prog Tryz.f4 false true false false W args v W' := by
  have hW' := hW
  obtain ⟨p, q, hA0, hV, rfl, hfz, hnd⟩ := hW
  have hA : DataW.TrodAll enc Tryz.prog W 0 (fun _ => true) true Tryz.f4.params.toList args.toList ds p := hA0
  rw [Tryz.params4] at hA hval
  obtain ⟨v0, vs0, d0, ds0, p0, q0, hargs, rfl, rfl, h0, r0⟩ := trodAll_cons hA
  obtain ⟨v1, vs1, d1, ds1, p1, q1, rfl, rfl, rfl, h1, r1⟩ := trodAll_cons r0
  obtain ⟨v2, vs2, d2, ds2, p2, q2, rfl, rfl, rfl, h2, r2⟩ := trodAll_cons r1
  obtain ⟨rfl, rfl, rfl⟩ := trodAll_nil r2
  obtain rfl : args = #[v0, v1, v2] := by cases args; simp_all
  obtain ⟨rfl, rfl⟩ := trodVars_none hV
  obtain ⟨a0, a1, a2, a3, a4, a5, rfl, rfl, rfl, w0, w1, w2, w3, w4, w5⟩ := open_six Tryz.underlying23 (by kernel_rfl) cells23 Tryz.underlying3 rfl rfl rfl rfl rfl rfl (hval 0 23 v0 rfl rfl) h0
  obtain ⟨num, rfl, rfl, rfl, wn⟩ := open_int Tryz.underlying3 (hval 1 3 v1 rfl rfl) h1
  have h1k := h2
  obtain ⟨va, vl, vc, rfl⟩ := okWide_slice Tryz.underlying36 (hval 2 36 v2 rfl rfl)
  obtain ⟨fuel, hf⟩ := h2
  obtain ⟨ao, cap, l, rest, hcs, hsrc, hd⟩ := open_row Tryz.underlying36 Tryz.underlying9 cellsS hf
  have hv : Value.slice va vl vc = .slice ao l.length cap := by simpa [Value.cells] using hcs
  rw [hv] at hW' h1k hval ⊢
  clear hA0
  simp only [List.append_nil, List.nil_append] at hW' hbulk
  have hl : l.length + (Ra.allL l).length ≤ 2097152 ∧ ∀ d ∈ l, d.length ≤ 1048576 := by
    simp only [Rows.uptoBulkAll] at hbulk
    rcases hd with ⟨_, rfl⟩ | hd
    · exact ⟨by simp [Ra.allL], fun d hd => by cases hd⟩
    · have hd' : d2 = .slice (l.map fun y => .lit (.string y)) rest := hd
      have hb2 := bulk_texts (H := H) l
      rw [hd'] at hbulk
      simp only [Rows.uptoBulk] at hbulk
      exact ⟨by omega, fun d hd => by have := hb2.2 d hd; omega⟩
  have hwn := wf_range wn
  refine (show Calls _ _ _ _ _ from Rv.sums (six a0 a1 a2 a3 a4 a5) num hwn.1 hwn.2 ao cap l W hT (by omega) (fun d hd => by have := hl.2 d hd; omega) (by rw [nls_all]; omega) (by omega) hsrc).mono fun e W' ⟨he, hb⟩ => ?_
  subst he
  have hlt : ∀ x ∈ p2, x.block < W.heap.size := fun x hx => by simpa using hW'.lt x (by simpa using hx)
  refine ⟨_, rfl, post_below (pa := p2) (pv := []) hW' (fun _ _ _ => trodAll_cons_mk (shut_bool Tryz.underlying4 _) trodAll_mk0) (fun sp hsp => ?_) (fun _ _ => rfl) (by simp) hb (ok_one (by kernel_rfl) rfl (okWide_bool_mk Tryz.underlying4 _))⟩
  have := trodAll_cons_mk (shut_six (enc := enc) (P := Tryz.prog) (w := W') (base := 0) (spare := sp) (held := true) Tryz.underlying23 (by kernel_rfl) cells23 Tryz.underlying3 rfl rfl rfl rfl rfl rfl w0 w1 w2 w3 w4 w5) (trodAll_cons_mk (shut_int Tryz.underlying3 wn) (trodAll_cons_mk (WideElems.Trod_stays laidOut (by kernel_rfl) (of_decide_eq_true (by kernel_rfl)) h1k (fun x hx => hb.same (hlt x hx)) (fun x hx => hsp x (by simpa using hx))) (trodAll_mk0 (enc := enc) (P := Tryz.prog) (w := W') (base := 0) (spare := sp) (held := true))))
  simp only [List.append_nil, List.nil_append] at this
  exact this

section
set_option maxRecDepth 100000

abbrev args0 : Array Value := #[.agg #[.int .i64 0, .int .i64 0, .int .i64 0, .int .i64 0, .int .i64 0, .int .i64 0], .int .i64 0, .slice none 0 0]

theorem fits (os : Os) : (World.holding Tryz.prog os ⟨#[], #[], []⟩).layFits Tryz.prog Rows.sumsUptoRow.laid [] = true := by kernel_rfl
theorem ifaces (os : Os) : (World.holding Tryz.prog os ⟨#[], #[], []⟩).layIfaces Tryz.prog Rows.sumsUptoRow.laid (World.laidAll Tryz.prog os Rows.sumsUptoRow.laid) = true := by kernel_rfl

theorem laid_met (os : Os) : laidMet Tryz.prog Rows.sumsUptoRow.laid ((World.laidAll Tryz.prog os Rows.sumsUptoRow.laid).forCall (fun _ _ => 0) ⟨#[], args0, []⟩).memory :=
  laidMet_laidAll args0 (fits os) (ifaces os)

theorem reads (os : Os) {H : Type} (enc : TypeId × Value → H) : ∃ places, DataW.whole enc Tryz.prog ((World.laidAll Tryz.prog os Rows.sumsUptoRow.laid).forCall (fun _ _ => 0) ⟨#[], args0, []⟩).memory Tryz.f4.params.toList Rows.sumsSpec.vars false args0.toList 8 = some ([.agg [.lit (.int .i64 0), .lit (.int .i64 0), .lit (.int .i64 0), .lit (.int .i64 0), .lit (.int .i64 0), .lit (.int .i64 0)], .lit (.int .i64 0), .nil], [], places) :=
  ⟨[], by kernel_rfl⟩

theorem vars_ok (os : Os) : ((World.laidAll Tryz.prog os Rows.sumsUptoRow.laid).forCall (fun _ _ => 0) ⟨#[], args0, []⟩).variablesB Tryz.prog = true := by kernel_rfl

theorem rest_ok (os : Os) : (((World.laidAll Tryz.prog os Rows.sumsUptoRow.laid).forCall (fun _ _ => 0) ⟨#[], args0, []⟩).heap.toList.drop Tryz.prog.globals.size).take ((begin Tryz.prog (fun _ _ => 0) default).world.heap.size - Tryz.prog.globals.size) =
      (begin Tryz.prog (fun _ _ => 0) default).world.heap.toList.drop Tryz.prog.globals.size := by kernel_rfl

theorem input_ok (os : Os) : Input.okWideB Tryz.prog ((World.laidAll Tryz.prog os Rows.sumsUptoRow.laid).forCall (fun _ _ => 0) ⟨#[], args0, []⟩) 4 ⟨#[], args0, []⟩ = true := by kernel_rfl
end

set_option maxRecDepth 100000 in
theorem lifted (os : Os) (started : os.Started) (H : Type) (enc : TypeId × Value → H) (F : Stop.Interp) :
    ReturnsInHanded {} Tryz.checked os 4 .any ((Rows.OpenSpec.upto Rows.sumsSpec).preRow enc Tryz.prog Tryz.f4 Rows.sumsUptoRow.domain false Rows.sumsUptoRow.laid) (((Rows.OpenSpec.upto Rows.sumsSpec).at F).post enc Tryz.prog Tryz.f4 false true false false) := by
  obtain ⟨places, hx⟩ := reads os enc
  refine returnsInHanded_of_row (C := Tryz.checked) (s := Rows.OpenSpec.upto Rows.sumsSpec) own started (by kernel_rfl) Tryz.func4
    (witness_row_at (enc := enc) (C := Tryz.checked) false (World.laidAll Tryz.prog os Rows.sumsUptoRow.laid) args0 (World.laidAll_os _ _ _) (vars_ok os) (rest_ok os) (input_ok os)
      (OpenSpec.preRow_of_cond 8 hx (by kernel_rfl) (fun k hk => by cases hk; kernel_rfl) (by kernel_rfl) (laid_met os))) ?_
  intro W base args ds gs before hval hW _ hcond _ hL _ _
  exact contract H enc W base args ds gs before hval hW (of_decide_eq_true (hcond _ rfl)) (tab_of (a := ("math/bits.deBruijn32tab", Rows.laid_math_bits_deBruijn32tab)) (b := ("math/bits.deBruijn64tab", Rows.laid_math_bits_deBruijn64tab)) hL)

theorem said : Rows.SumsUptoSaid :=
  OpenClaim.holds_of_cond 4 Tryz.f4 rfl rfl rfl rfl rfl rfl rfl ⟨rfl, rfl, rfl, rfl, rfl⟩ rfl rfl rfl rfl rfl (by kernel_rfl) Tryz.func4 Fctsums.facts
    (of_decide_eq_true (by kernel_rfl)) (by unfold Func.isWrapper; first | (rw [if_pos (by decide +kernel)]; kernel_rfl) | (rw [if_neg (by decide +kernel)]; exact ⟨rfl, rfl⟩))
    (fun os started H enc _ F => by rw [OpenClaim.pre_eq_preRow]; exact lifted os started H enc F)

theorem plain (f : FuncId) (fn : Func) (hf : Tryz.pinned.checked.prog.funcNamed "tally/tallylaw.Sums" = some f) (hfn : Tryz.pinned.checked.prog.funcs[f]? = some fn) :
    true = Tryz.pinned.checked.prog.looks [] ∧ ∀ (j : Nat) t, fn.params[j]? = some t → Tryz.pinned.checked.prog.wantsStandIn t = false := by
  obtain rfl : f = 4 := Option.some.inj ((show Tryz.prog.funcNamed "tally/tallylaw.Sums" = some 4 by kernel_rfl).symm.trans hf) |>.symm
  obtain rfl : fn = Tryz.f4 := (Option.some.inj (Tryz.func4.symm.trans hfn)).symm
  refine ⟨by kernel_rfl, fun j t ht => ?_⟩
  rw [Tryz.params4] at ht
  have ht' : t = 23 ∨ t = 3 ∨ t = 36 := by simpa using Array.mem_of_getElem? ht
  rcases ht' with rfl | rfl | rfl
  · exact (show Tryz.prog.wantsStandIn 23 = false by kernel_rfl)
  · exact (show Tryz.prog.wantsStandIn 3 = false by kernel_rfl)
  · exact (show Tryz.prog.wantsStandIn 36 = false by kernel_rfl)

theorem sums_card : Rows.SumsUptoCardSaid :=
  Claim7.holds_tied_plain_at .later [] _ _ _ _ said (fun _ h => by cases h) (by kernel_rfl) (fun _ h => by cases h) sumsUpto_row_tie rfl ⟨rfl, rfl⟩ (by kernel_rfl) rfl plain (by kernel_rfl)

end Go.Proofs.YtenegfafjjknoaaGreatDoor.Ru

namespace Go.Proofs.YtenegfafjjknoaaGreatDoor

/-- P5: the law Sums, as the card says it. -/
theorem sums_holds : Rows.SumsUptoCardSaid := Ru.sums_card

end Go.Proofs.YtenegfafjjknoaaGreatDoor
