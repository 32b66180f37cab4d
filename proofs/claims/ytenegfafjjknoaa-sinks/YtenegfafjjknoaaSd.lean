/- Proved: P12, the law Sinks: at every row of parcels it returns true, and the row reads afterwards as it did: two sinks answer every message as the document asks. -/
import Derived.Test.YtenegfafjjknoaaRows
import Derived.Test.YtenegfafjjknoaaChecked
import Derived.Test.YtenegfafjjknoaaSl
import Derived.WalkKit
import Derived.ProofKit
import Derived.OpenShut
import Derived.SizedLaws
import Derived.ChangeMaps5
import Derived.Carry
import Derived.Deep.Slices
import Derived.Deep.Strs
namespace Go.Proofs.Ytenegfafjjknoaa.Sd
open Go.ChangeShapes Go.WideShapes Go.ChangeAt Go.RowKit Sk

section
variable {H : Type} {enc : TypeId × Value → H} {P : Program}

/-- What holds behind a call that leaves all old memory as it was. -/
theorem post_below {f : Func} {s : ChangeSpec} {apart fresh handsOn again : Bool} {W W' : World} {args : Array Value} {v : Value} {ds gs : List (DataW H)} {before pa pv : List MemPlace}
    (hW : DataW.Whole enc P f.params.toList s.vars apart W args.toList ds gs before)
    (hres : ∀ (b : Nat) (sp : Nat → Bool) (hd : Bool), DataW.TrodAll enc P W' b sp hd f.resultTypes.toList (v.resultList f.resultTypes.size) (s.fn H (ds ++ gs)).results [])
    (hargs : ∀ sp : Nat → Bool, (∀ p ∈ before, sp p.block = true) → DataW.TrodAll enc P W' 0 sp true f.params.toList args.toList (s.fn H (ds ++ gs)).args pa)
    (hvars : ∀ sp : Nat → Bool, (∀ p ∈ before, sp p.block = true) → DataW.TrodVars enc P W' sp s.vars (s.fn H (ds ++ gs)).vars pv)
    (hps : before = pa ++ pv) (hb : Below W.heap.size W W')
    (hok : ∀ (j : Nat) (t : TypeId) (r : Value), f.resultTypes[j]? = some t → (v.resultList f.resultTypes.size)[j]? = some r → Value.okWide P W' .any 0 t r) :
    s.post enc P f apart fresh handsOn again W args v W' := by
  have hold : ∀ p ∈ before, (fun b => decide (b < W.heap.size)) p.block = true := fun p hp => by simpa using hW.lt p hp
  have hlt := hW.lt
  refine ⟨ds, gs, before, [], pa, pv, hW, hres _ _ _, hargs _ hold, hvars _ hold, World.keptBut_mono (fun p hp => ⟨hp, ?_⟩) (hb.frame (· ∈ before)), fun _ => ?_⟩
  · rw [hps, List.mem_append] at hp
    exact Or.inr hp
  · obtain ⟨_, _, _, _, _, hz, hn⟩ := hW
    refine ⟨hok, _, _, ([] ++ pa) ++ pv, ⟨[] ++ pa, pv, trodAll_append (hargs _ (fun _ _ => rfl)) (hres _ _ _), hvars _ (fun _ _ => rfl), rfl, ?_, ?_⟩, ?_⟩
    · intro b off hp
      have hm : MemPlace.cell b off ∈ before := by rw [hps]; simpa using hp
      rw [World.frozen?_of_block (w := W) (hb.block b (hlt _ hm))]
      exact hz b off hm
    · intro ha
      have := hn ha
      rw [hps] at this
      simpa using this
    · intro p hp _
      rw [hps]
      simpa using hp

end

theorem own : ownKnob Try.prog.godebug = none := by kernel_rfl
theorem cellsP : Try.prog.cellsOf 38 = 4 := by kernel_rfl
theorem cellsM : Try.prog.cellsOf 36 = 2 := by kernel_rfl
theorem cellsI : Try.prog.cellsOf 3 = 1 := by kernel_rfl
theorem cellsB : Try.prog.cellsOf 4 = 1 := by kernel_rfl
theorem cellsS : Try.prog.cellsOf 9 = 1 := by kernel_rfl
theorem laidOut : laidOutB Try.prog = true := by kernel_rfl

/-- A parcel as data, as cells. -/
def dd {H : Type} (d : Pc) : DataW H := .agg [.lit (.int .i64 d.c), .lit (.bool d.look), .agg [.lit (.int .i64 d.m.k), .lit (.string d.m.t.data.toList)]]
def dcells (d : Pc) : List Value := [.int .i64 d.c, .bool d.look, .int .i64 d.m.k, .string d.m.t]

theorem list4 {α : Type} {l : List α} (h : l.length = 4) : ∃ c0 c1 c2 c3, l = [c0, c1, c2, c3] := by
  match l, h with
  | [c0, c1, c2, c3], _ => exact ⟨c0, c1, c2, c3, rfl⟩

theorem wf_range {a : Int} (h : (Lit.int .i64 a).wf = true) : -9223372036854775808 ≤ a ∧ a ≤ 9223372036854775807 := by
  have h2 : IntKind.i64.min = -9223372036854775808 := by decide
  have h3 : IntKind.i64.max = 9223372036854775807 := by decide
  simpa only [Lit.wf, h2, h3, Bool.and_eq_true, decide_eq_true_eq] using h

/-- A parcel's cells, read. -/
theorem open_parcel {H : Type} {enc : TypeId × Value → H} {w : World} {base : Nat} {spare : Nat → Bool} {held : Bool} {n : Nat} {cs : List Value} {x : DataW H × List MemPlace}
    (h : DataW.trod enc Try.prog w base spare held n 38 cs = some x) : ∃ d : Pc, cs = dcells d ∧ x = (dd d, []) ∧ d.ok := by
  obtain ⟨y0, y1, y2, m, rfl, hl, h0, h1, h2⟩ := Deep.trod_struct3 Try.underlying38 h
  rw [cellsP] at hl
  obtain ⟨c0, c1, c2, c3, rfl⟩ := list4 hl
  simp only [cellsI, cellsB, cellsM, List.drop_zero, List.drop_succ_cons, List.take_succ_cons, List.take_zero] at h0 h1 h2
  obtain ⟨a0, q0, rfl, w0⟩ := DataW.trod_int Try.underlying3 h0
  obtain ⟨a1, q1, rfl⟩ := DataW.trod_bool Try.underlying4 h1
  obtain ⟨z0, z1, m2, rfl, _, k0, k1⟩ := trod_struct2 Try.underlying36 h2
  simp only [cellsI, cellsS, List.drop_zero, List.drop_succ_cons, List.take_succ_cons, List.take_zero] at k0 k1
  obtain ⟨a2, q2, rfl, w2⟩ := DataW.trod_int Try.underlying3 k0
  obtain ⟨a3, q3, rfl, w3⟩ := DataW.trod_string Try.underlying9 k1
  simp only [List.cons.injEq, and_true] at q0 q1 q2 q3
  subst q0
  subst q1
  subst q2
  subst q3
  exact ⟨⟨a0, a1, ⟨a2, a3⟩⟩, rfl, rfl, wf_range w0, w2⟩

theorem src_parcels {w : World} {a : Addr} {l : List Pc} (h : ∀ (i : Nat) d, l[i]? = some d → ∀ j : Nat, j < 4 → w.cell? (a.add (i * 4 + j)) = (dcells d)[j]?) : Apn.Src w 4 (some a) l.length (prow l) := by
  refine ⟨prow_length l, prow_oneCell l, Or.inr ⟨a, rfl, fun j u hu => ?_⟩⟩
  have hjl : j < l.length * 4 := by rw [← prow_length]; exact (List.getElem?_eq_some_iff.1 hu).1
  have hi : j / 4 < l.length := by omega
  obtain ⟨d, hd⟩ : ∃ d, l[j / 4]? = some d := ⟨_, List.getElem?_eq_getElem hi⟩
  obtain ⟨g0, g1, g2, g3⟩ := prow_get hd
  have hc := h (j / 4) d hd (j % 4) (by omega)
  have e : j / 4 * 4 + j % 4 = j := by omega
  rw [e] at hc
  rw [hc]
  have hr : j % 4 = 0 ∨ j % 4 = 1 ∨ j % 4 = 2 ∨ j % 4 = 3 := by omega
  rcases hr with r | r | r | r
  · rw [show j = j / 4 * 4 by omega, g0] at hu
    rw [r, ← hu]
    rfl
  · rw [show j = j / 4 * 4 + 1 by omega, g1] at hu
    rw [r, ← hu]
    rfl
  · rw [show j = j / 4 * 4 + 2 by omega, g2] at hu
    rw [r, ← hu]
    rfl
  · rw [show j = j / 4 * 4 + 3 by omega, g3] at hu
    rw [r, ← hu]
    rfl

/-- The script, read. -/
theorem open_script {H : Type} {enc : TypeId × Value → H} {w : World} {fuel : Nat} {cs : List Value} {x : DataW H × List MemPlace}
    (h : DataW.trod enc Try.prog w 0 (fun _ => true) true fuel 26 cs = some x) :
    ∃ (ao : Option Addr) (cap : Nat) (l : List Pc) (rest : List (DataW H)), cs = [.slice ao l.length cap] ∧ Apn.Src w 4 ao l.length (prow l) ∧ (∀ d ∈ l, d.ok) ∧ (x.1 = .nil ∧ l = [] ∨ x.1 = .slice (l.map dd) rest) := by
  rcases Deep.open_slice Try.underlying26 h with ⟨rfl, rfl⟩ | ⟨a, len, cap, m, n, D, Pl, rfl, hb, hl, hm, hmm, rfl, hx⟩
  · exact ⟨none, 0, [], [], rfl, ⟨rfl, fun u hu => (by cases hu), Or.inl rfl⟩, fun d hd => (by cases hd), Or.inl ⟨rfl, rfl⟩⟩
  · have hlm : len ≤ m := by rw [hmm]; simpa using hl
    haveI : Inhabited Pc := ⟨⟨0, false, ⟨0, ⟨#[]⟩⟩⟩⟩
    obtain ⟨f, hf⟩ := Deep.choose_lt (α := Pc) (n := len) (p := fun i d => (∀ j : Nat, j < 4 → w.cell? (a.add (i * 4 + j)) = (dcells d)[j]?) ∧ D i = dd d ∧ d.ok) (fun i hi => by
      obtain ⟨cs', h1, h2⟩ := hx i (by omega)
      obtain ⟨d, rfl, hd, hok⟩ := open_parcel h2
      obtain ⟨_, _, hc⟩ := World.cells?_some h1
      rw [cellsP] at hc
      refine ⟨d, fun j hj => ?_, (Prod.mk.inj hd).1, hok⟩
      rw [← hc j hj, Addr.add_add])
    have hll : ((List.range len).map f).length = len := by simp
    have hget : ∀ (i : Nat) d, ((List.range len).map f)[i]? = some d → i < len ∧ f i = d := fun i d hd => by
      have hi : i < len := by rw [← hll]; exact (List.getElem?_eq_some_iff.1 hd).1
      rw [List.getElem?_map, List.getElem?_range hi] at hd
      exact ⟨hi, by simpa using hd⟩
    refine ⟨some a, cap, (List.range len).map f, _, by rw [hll], src_parcels fun i d hd => ?_, fun d hd => ?_, Or.inr (congrArg (fun z => DataW.slice z _) ?_)⟩
    · obtain ⟨hi, rfl⟩ := hget i d hd
      exact (hf i hi).1
    · obtain ⟨i, hi⟩ := List.getElem?_of_mem hd
      obtain ⟨hi2, rfl⟩ := hget i d hi
      exact (hf i hi2).2.2
    · rw [List.map_map]
      refine List.map_congr_left fun i hi => ?_
      exact (hf i (List.mem_range.1 hi)).2.1

theorem bytesP : Try.prog.bytesOf 38 = 40 := by kernel_rfl

set_option maxRecDepth 100000 in
theorem contract (H : Type) (enc : TypeId × Value → H) (W : World) (base : Nat) (args : Array Value) (ds gs : List (DataW H)) (before : List MemPlace)
    (hval : ∀ (j : Nat) t v, Try.f5.params[j]? = some t → args[j]? = some v → Value.okWide Try.prog W .any base t v)
    (hW : DataW.Whole enc Try.prog Try.f5.params.toList Rows.sinksSpec.vars false W args.toList ds gs before)
    (hsz0 : (DataW.weightsEach Try.prog (Try.f5.params.toList ++ Rows.sinksSpec.plain.varTypes Try.prog) (ds ++ gs)).all (· ≤ reachBytes) = true) :
    Calls Try.prog 5 args W fun e W' => ∃ v, e = .returned v ∧ Rows.sinksSpec.post enc Try.prog Try.f5 false true false false W args v W' := by
  have hW' := hW
  obtain ⟨p, q, hA0, hV, rfl, hfz, hnd⟩ := hW
  have hA : DataW.TrodAll enc Try.prog W 0 (fun _ => true) true Try.f5.params.toList args.toList ds p := hA0
  have hsz := hsz0
  rw [Try.params5] at hA hval hsz
  obtain ⟨v0, vs0, d0, ds0, p0, q0, hargs, rfl, rfl, h0, r0⟩ := trodAll_cons hA
  obtain ⟨rfl, rfl, rfl⟩ := trodAll_nil r0
  obtain rfl : args = #[v0] := by cases args; simp_all
  obtain ⟨rfl, rfl⟩ := trodVars_none hV
  simp only [List.append_nil] at hW'
  have h0k := h0
  obtain ⟨va, vl, vc, rfl⟩ := okWide_slice Try.underlying26 (hval 0 26 v0 rfl rfl)
  obtain ⟨fuel, hf⟩ := h0
  obtain ⟨ao, cap, l, rest, hcs, hsrc, hok, hd⟩ := open_script hf
  have hv : Value.slice va vl vc = .slice ao l.length cap := by simpa [Value.cells] using hcs
  rw [hv] at hW' h0k hval ⊢
  have hl : l.length ≤ 3518437208780 := by
    rcases hd with ⟨_, rfl⟩ | hd
    · simp
    · have hd' : d0 = .slice (l.map dd) rest := hd
      subst hd'
      have h1 := sized_slice hsz (j := 0) (t := 26) rfl rfl Try.underlying26
      rw [bytesP, List.length_map] at h1
      simp only [reachBytes] at h1
      omega
  refine (sinks ao cap l W hsrc hl hok).mono fun e W' ⟨he, hb⟩ => ?_
  subst he
  have hlt : ∀ x ∈ p0, x.block < W.heap.size := fun x hx => by simpa using hW'.lt x (by simpa using hx)
  refine ⟨_, rfl, post_below (pa := p0) (pv := []) hW' (fun _ _ _ => trodAll_cons_mk (shut_bool Try.underlying4 _) trodAll_mk0) (fun sp hsp => ?_) (fun _ _ => rfl) (by simp) hb (ok_one (by kernel_rfl) rfl (okWide_bool_mk Try.underlying4 _))⟩
  have := trodAll_cons_mk (WideElems.Trod_stays laidOut (by kernel_rfl) (of_decide_eq_true (by kernel_rfl)) h0k (fun x hx => hb.same (hlt x hx)) (fun x hx => hsp x (by simpa using hx))) (trodAll_mk0 (enc := enc) (P := Try.prog) (w := W') (base := 0) (spare := sp) (held := true))
  rw [List.append_nil] at this
  exact this

set_option maxRecDepth 100000 in
theorem lifted (os : Os) (started : os.Started) (H : Type) (enc : TypeId × Value → H) :
    ReturnsInHanded {} Try.checked os 5 .any (Rows.sinksSpec.pre6 enc Try.prog Try.f5 Rows.sinksRow.domain false) (Rows.sinksSpec.post enc Try.prog Try.f5 false true false false) := by
  refine returnsInHanded_of_change_sized (C := Try.checked) own started (by kernel_rfl) Try.func5
    (ChangeSpec.witness6 (enc := enc) (C := Try.checked) false ⟨#[], #[.slice none 0 0], []⟩ 8 (by kernel_rfl) (by kernel_rfl) (by kernel_rfl) (by kernel_rfl)) ?_
  intro W base args ds gs before hval hW _ hsz _
  exact contract H enc W base args ds gs before hval hW hsz

theorem over : Rows.sinksRow.holds Try.pinned (OpenSpec.ofChange Rows.sinksSpec) :=
  OpenClaim.holds_of_wide 5 Try.f5 rfl rfl rfl rfl rfl rfl rfl ⟨rfl, rfl, rfl, rfl, rfl⟩ rfl rfl rfl rfl rfl (by kernel_rfl) Try.func5 (by kernel_rfl)
    (of_decide_eq_true (by kernel_rfl)) (by unfold Func.isWrapper; first | (rw [if_pos (by decide +kernel)]; kernel_rfl) | (rw [if_neg (by decide +kernel)]; exact ⟨rfl, rfl⟩))
    (fun os started H enc _ => lifted os started H enc)

end Go.Proofs.Ytenegfafjjknoaa.Sd

namespace Go.Proofs.Ytenegfafjjknoaa

/-- P12: the law Sinks. -/
theorem sinks_holds : Rows.SinksSaid := Sd.over

end Go.Proofs.Ytenegfafjjknoaa
