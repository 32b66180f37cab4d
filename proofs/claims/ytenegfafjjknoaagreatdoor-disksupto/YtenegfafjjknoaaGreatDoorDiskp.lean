/- The law Disks: its argument opened; its contract as the row asks it. -/
import Derived.Test.YtenegfafjjknoaaGreatDoorRowkit
import Derived.Test.YtenegfafjjknoaaGreatDoorPzm
import Derived.ChangeMaps5
import Derived.Carry
import Derived.Deep.Slices
namespace Go.Proofs.YtenegfafjjknoaaGreatDoor.Diskp
open Go.ChangeShapes Go.WideShapes Go.ChangeAt Go.RowKit Go.Joins Rowkit Pp

section
variable {H : Type} {enc : TypeId × Value → H} {P : Program}

/-- What holds behind a call that leaves all old memory as it was. -/
theorem post_below {f : Func} {s : ChangeSpec} {apart fresh handsOn again : Bool} {W W' : World} {args : Array Value} {v : Value} {ds gs : List (DataW H)} {before pa pv : List MemPlace}
    (hW : DataW.Whole enc P f.params.toList s.vars apart W args.toList ds gs before)
    (hres : ∀ (b : Nat) (sp : Nat → Bool) (hd : Bool), DataW.TrodAll enc P W' b sp hd f.resultTypes.toList (v.resultList f.resultTypes.size) (s.fn H (ds ++ gs)).results [])
    (hargs : ∀ sp : Nat → Bool, (∀ p ∈ before, sp p.block = true) → DataW.TrodAll enc P W' 0 sp true f.params.toList args.toList (s.fn H (ds ++ gs)).args pa)
    (hvars : ∀ sp : Nat → Bool, (∀ p ∈ before, sp p.block = true) → DataW.TrodVars enc P W' sp s.vars (s.fn H (ds ++ gs)).vars pv)
    (hps : before = pa ++ pv) (hb : Below W.heap.size W W')
    (hok : ∀ (j : Nat) (t : TypeId) (r : Value), f.resultTypes[j]? = some t → (v.resultList f.resultTypes.size)[j]? = some r → Value.okWide P W' .any 0 t r) :
    s.post enc P f apart fresh handsOn again W args v W' := by
  have hold : ∀ p ∈ before, (fun b => decide (b < W.heap.size)) p.block = true := fun p hp => by simpa using hW.lt p hp
  have hlt := hW.lt
  refine ⟨ds, gs, before, [], pa, pv, hW, hres _ _ _, hargs _ hold, hvars _ hold, World.keptBut_mono (fun p hp => ⟨hp, ?_⟩) (hb.frame (· ∈ before)), fun _ => ?_⟩
  · rw [hps, List.mem_append] at hp
    exact Or.inr hp
  · obtain ⟨_, _, _, _, _, hz, hn⟩ := hW
    refine ⟨hok, _, _, ([] ++ pa) ++ pv, ⟨[] ++ pa, pv, trodAll_append (hargs _ (fun _ _ => rfl)) (hres _ _ _), hvars _ (fun _ _ => rfl), rfl, ?_, ?_⟩, ?_⟩
    · intro b off hp
      have hm : MemPlace.cell b off ∈ before := by rw [hps]; simpa using hp
      rw [World.frozen?_of_block (w := W) (hb.block b (hlt _ hm))]
      exact hz b off hm
    · intro ha
      have := hn ha
      rw [hps] at this
      simpa using this
    · intro p hp _
      rw [hps]
      simpa using hp

end

theorem cellsD : Tryz.prog.cellsOf 61 = 5 := by kernel_rfl
theorem cellsI : Tryz.prog.cellsOf 3 = 1 := by kernel_rfl
theorem cellsS : Tryz.prog.cellsOf 9 = 1 := by kernel_rfl

/-- A deed as data. -/
def dd {H : Type} (d : Dd) : DataW H := .agg [.lit (.int .i64 d.c), .lit (.int .i64 d.k), .lit (.int .i64 d.a), .lit (.int .i64 d.b), .lit (.string d.t.data.toList)]

theorem list5 {α : Type} {l : List α} (h : l.length = 5) : ∃ c0 c1 c2 c3 c4, l = [c0, c1, c2, c3, c4] := by
  match l, h with
  | [c0, c1, c2, c3, c4], _ => exact ⟨c0, c1, c2, c3, c4, rfl⟩

theorem wf_range {a : Int} (h : (Lit.int .i64 a).wf = true) : -9223372036854775808 ≤ a ∧ a ≤ 9223372036854775807 := by
  simp [Lit.wf, IntKind.min, IntKind.max, IntKind.bits, IntKind.signed] at h
  omega

/-- A deed's cells, read. -/
theorem open_deed {H : Type} {enc : TypeId × Value → H} {P : Program} {w : World} {base : Nat} {spare : Nat → Bool} {held : Bool} {t eI eS : TypeId} {f0 f1 f2 f3 f4 : Field} {n : Nat} {cs : List Value} {x : DataW H × List MemPlace} (hs : P.underlying t = some (.struct #[f0, f1, f2, f3, f4])) (hone : Deep.oneCellFields P #[f0, f1, f2, f3, f4] = true) (hC : P.cellsOf t = 5)
    (hI : P.underlying eI = some (.int .i64)) (hS : P.underlying eS = some .string) (e0 : f0.type = eI) (e1 : f1.type = eI) (e2 : f2.type = eI) (e3 : f3.type = eI) (e4 : f4.type = eS)
    (h : DataW.trod enc P w base spare held n t cs = some x) : ∃ d : Dd, cs = dcells d ∧ x = (dd d, []) ∧ d.ok := by
  obtain ⟨xs, m, _, hx, hlen, hxl, hfi⟩ := DataW.trod_struct hs h
  obtain ⟨c0, c1, c2, c3, c4, rfl⟩ := list5 (hlen.trans hC)
  obtain ⟨y0, y1, y2, y3, y4, rfl⟩ := list5 hxl
  have t0 := hfi 0 f0 rfl
  obtain ⟨o0, k0⟩ := Deep.hone_of hone 0 f0 rfl
  rw [e0] at t0 k0
  obtain ⟨a0, q0, rfl, w0⟩ := DataW.trod_int hI (show DataW.trod enc P w base spare held m eI [c0] = some y0 by simpa [o0, k0] using t0)
  simp only [List.cons.injEq, and_true] at q0
  subst q0
  have t1 := hfi 1 f1 rfl
  obtain ⟨o1, k1⟩ := Deep.hone_of hone 1 f1 rfl
  rw [e1] at t1 k1
  obtain ⟨a1, q1, rfl, w1⟩ := DataW.trod_int hI (show DataW.trod enc P w base spare held m eI [c1] = some y1 by simpa [o1, k1] using t1)
  simp only [List.cons.injEq, and_true] at q1
  subst q1
  have t2 := hfi 2 f2 rfl
  obtain ⟨o2, k2⟩ := Deep.hone_of hone 2 f2 rfl
  rw [e2] at t2 k2
  obtain ⟨a2, q2, rfl, w2⟩ := DataW.trod_int hI (show DataW.trod enc P w base spare held m eI [c2] = some y2 by simpa [o2, k2] using t2)
  simp only [List.cons.injEq, and_true] at q2
  subst q2
  have t3 := hfi 3 f3 rfl
  obtain ⟨o3, k3⟩ := Deep.hone_of hone 3 f3 rfl
  rw [e3] at t3 k3
  obtain ⟨a3, q3, rfl, w3⟩ := DataW.trod_int hI (show DataW.trod enc P w base spare held m eI [c3] = some y3 by simpa [o3, k3] using t3)
  simp only [List.cons.injEq, and_true] at q3
  subst q3
  have t4 := hfi 4 f4 rfl
  obtain ⟨o4, k4⟩ := Deep.hone_of hone 4 f4 rfl
  rw [e4] at t4 k4
  obtain ⟨a4, q4, rfl, w4⟩ := DataW.trod_string hS (show DataW.trod enc P w base spare held m eS [c4] = some y4 by simpa [o4, k4] using t4)
  simp only [List.cons.injEq, and_true] at q4
  subst q4
  exact ⟨⟨a0, a1, a2, a3, a4⟩, rfl, by simpa [dd] using hx, wf_range w0, (wf_range w2).2, (wf_range w3).2⟩

/-- A row of deeds: its cells one after the other. -/
theorem src_deeds {w : World} {a : Addr} {l : List Dd} (h : ∀ (i : Nat) d, l[i]? = some d → ∀ j : Nat, j < 5 → w.cell? (a.add (i * 5 + j)) = (dcells d)[j]?) : Apn.Src w 5 (some a) l.length (drows l) := by
  refine ⟨drows_length l, drows_oneCell l, Or.inr ⟨a, rfl, fun j u hu => ?_⟩⟩
  have hjl : j < l.length * 5 := by rw [← drows_length]; exact (List.getElem?_eq_some_iff.1 hu).1
  have hi : j / 5 < l.length := by omega
  obtain ⟨d, hd⟩ : ∃ d, l[j / 5]? = some d := ⟨_, List.getElem?_eq_getElem hi⟩
  obtain ⟨g0, g1, g2, g3, g4⟩ := drows_get hd
  have hc := h (j / 5) d hd (j % 5) (by omega)
  have e : j / 5 * 5 + j % 5 = j := by omega
  rw [e] at hc
  rw [hc]
  have hr : j % 5 = 0 ∨ j % 5 = 1 ∨ j % 5 = 2 ∨ j % 5 = 3 ∨ j % 5 = 4 := by omega
  rcases hr with r | r | r | r | r
  · rw [show j = j / 5 * 5 by omega, g0] at hu
    rw [r, ← hu]
    rfl
  · rw [show j = j / 5 * 5 + 1 by omega, g1] at hu
    rw [r, ← hu]
    rfl
  · rw [show j = j / 5 * 5 + 2 by omega, g2] at hu
    rw [r, ← hu]
    rfl
  · rw [show j = j / 5 * 5 + 3 by omega, g3] at hu
    rw [r, ← hu]
    rfl
  · rw [show j = j / 5 * 5 + 4 by omega, g4] at hu
    rw [r, ← hu]
    rfl

/-- The script, read. -/
theorem open_script {H : Type} {enc : TypeId × Value → H} {P : Program} {w : World} {t e eI eS : TypeId} {f0 f1 f2 f3 f4 : Field} {fuel : Nat} {cs : List Value} {x : DataW H × List MemPlace} (ht : P.underlying t = some (.slice e)) (hs : P.underlying e = some (.struct #[f0, f1, f2, f3, f4])) (hone : Deep.oneCellFields P #[f0, f1, f2, f3, f4] = true) (hC : P.cellsOf e = 5)
    (hI : P.underlying eI = some (.int .i64)) (hS : P.underlying eS = some .string) (e0 : f0.type = eI) (e1 : f1.type = eI) (e2 : f2.type = eI) (e3 : f3.type = eI) (e4 : f4.type = eS)
    (h : DataW.trod enc P w 0 (fun _ => true) true fuel t cs = some x) :
    ∃ (ao : Option Addr) (cap : Nat) (l : List Dd) (rest : List (DataW H)), cs = [.slice ao l.length cap] ∧ Apn.Src w 5 ao l.length (drows l) ∧ (∀ d ∈ l, d.ok) ∧ (x.1 = .nil ∧ l = [] ∨ x.1 = .slice (l.map dd) rest) := by
  rcases Deep.open_slice ht h with ⟨rfl, rfl⟩ | ⟨a, len, cap, m, n, D, Pl, rfl, hb, hl, hm, hmm, rfl, hx⟩
  · exact ⟨none, 0, [], [], rfl, ⟨rfl, fun u hu => (by cases hu), Or.inl rfl⟩, fun d hd => (by cases hd), Or.inl ⟨rfl, rfl⟩⟩
  · have hlm : len ≤ m := by rw [hmm]; simpa using hl
    haveI : Inhabited Dd := ⟨⟨0, 0, 0, 0, ⟨#[]⟩⟩⟩
    obtain ⟨f, hf⟩ := Deep.choose_lt (α := Dd) (n := len) (p := fun i d => (∀ j : Nat, j < 5 → w.cell? (a.add (i * 5 + j)) = (dcells d)[j]?) ∧ D i = dd d ∧ d.ok) (fun i hi => by
      obtain ⟨cs', h1, h2⟩ := hx i (by omega)
      obtain ⟨d, rfl, hd, hok⟩ := open_deed hs hone hC hI hS e0 e1 e2 e3 e4 h2
      obtain ⟨_, _, hc⟩ := World.cells?_some h1
      rw [hC] at hc
      refine ⟨d, fun j hj => ?_, (Prod.mk.inj hd).1, hok⟩
      rw [← hc j hj, Addr.add_add])
    have hll : ((List.range len).map f).length = len := by simp
    have hget : ∀ (i : Nat) d, ((List.range len).map f)[i]? = some d → i < len ∧ f i = d := fun i d hd => by
      have hi : i < len := by rw [← hll]; exact (List.getElem?_eq_some_iff.1 hd).1
      rw [List.getElem?_map, List.getElem?_range hi] at hd
      exact ⟨hi, by simpa using hd⟩
    refine ⟨some a, cap, (List.range len).map f, _, by rw [hll], src_deeds fun i d hd => ?_, fun d hd => ?_, Or.inr (congrArg (fun z => DataW.slice z _) ?_)⟩
    · obtain ⟨hi, rfl⟩ := hget i d hd
      exact (hf i hi).1
    · obtain ⟨i, hi⟩ := List.getElem?_of_mem hd
      obtain ⟨hi2, rfl⟩ := hget i d hi
      exact (hf i hi2).2.2
    · rw [List.map_map]
      refine List.map_congr_left fun i hi => ?_
      exact (hf i (List.mem_range.1 hi)).2.1

/-- What the bound gives. -/
theorem bulk_deeds {H : Type} (l : List Dd) : Rows.uptoBulkAll (l.map (dd (H := H))) = letters l l.length + l.length * 6 := by
  rw [letters, List.take_length]
  induction l with
  | nil => rfl
  | cons d l ih =>
    rw [List.map_cons, Rows.uptoBulkAll, ih, List.map_cons, List.sum_cons]
    have : Rows.uptoBulk (dd (H := H) d) = d.t.size + 6 := by
      show Rows.uptoBulkAll _ + 1 = _
      simp only [Rows.uptoBulkAll, Rows.uptoBulk]
      have : d.t.data.toList.length = d.t.size := Array.length_toList
      omega
    rw [this, List.length_cons]
    omega

theorem letters_three (ds : List Dd) : letters (three ++ ds) (three ++ ds).length = 4 + letters ds ds.length := by
  rw [letters, letters, List.take_length, List.take_length, List.map_append, List.sum_append]
  rfl

theorem laidOut : laidOutB Tryz.prog = true := by kernel_rfl

set_option maxRecDepth 100000 in
theorem contract (H : Type) (enc : TypeId × Value → H) (W : World) (base : Nat) (args : Array Value) (ds gs : List (DataW H)) (before : List MemPlace)
    (hval : ∀ (j : Nat) t v, Tryz.f9.params[j]? = some t → args[j]? = some v → Value.okWide Tryz.prog W .any base t v)
    (hW : DataW.Whole enc Tryz.prog Tryz.f9.params.toList Rows.disksSpec.vars false W args.toList ds gs before)
    (hbulk : Rows.uptoBulkAll (ds ++ gs) ≤ 1048576)
    (hT : Plainw.Tab W) :
    Calls Tryz.prog 9 args W fun e W' => ∃ v, e = .returned v ∧ Rows.disksSpec.post enc Tryz.prog Tryz.f9 false true false false W args v W' := by
  have hW' := hW
  obtain ⟨p, q, hA0, hV, rfl, hfz, hnd⟩ := hW
  have hA : DataW.TrodAll enc Tryz.prog W 0 (fun _ => true) true Tryz.f9.params.toList args.toList ds p := hA0
  rw [Tryz.params9] at hA hval
  obtain ⟨v0, vs0, d0, ds0, p0, q0, hargs, rfl, rfl, h0, r0⟩ := trodAll_cons hA
  obtain ⟨rfl, rfl, rfl⟩ := trodAll_nil r0
  obtain rfl : args = #[v0] := by cases args; simp_all
  obtain ⟨rfl, rfl⟩ := trodVars_none hV
  simp only [List.append_nil] at hW' hbulk
  have h0k := h0
  obtain ⟨va, vl, vc, rfl⟩ := okWide_slice Tryz.underlying50 (hval 0 50 v0 rfl rfl)
  obtain ⟨fuel, hf⟩ := h0
  obtain ⟨ao, cap, l, rest, hcs, hsrc, hok, hd⟩ := open_script Tryz.underlying50 Tryz.underlying61 (by kernel_rfl) cellsD Tryz.underlying3 Tryz.underlying9 rfl rfl rfl rfl rfl hf
  have hv : Value.slice va vl vc = .slice ao l.length cap := by simpa [Value.cells] using hcs
  rw [hv] at hW' h0k hval ⊢
  have hb : letters l l.length + l.length * 6 ≤ 1048576 := by
    rw [Rows.uptoBulkAll, Rows.uptoBulkAll] at hbulk
    rcases hd with ⟨_, rfl⟩ | hd
    · show 0 + 0 * 6 ≤ _
      omega
    · have hd' : d0 = .slice (l.map dd) rest := hd
      rw [hd', Rows.uptoBulk, bulk_deeds] at hbulk
      omega
  refine (disks ao cap l W hT hsrc (by omega) (by rw [letters_three]; omega) hok).mono fun e W' ⟨he, hb⟩ => ?_
  subst he
  have hlt : ∀ x ∈ p0, x.block < W.heap.size := fun x hx => by simpa using hW'.lt x (by simpa using hx)
  refine ⟨_, rfl, post_below (pa := p0) (pv := []) hW' (fun _ _ _ => trodAll_cons_mk (shut_bool Tryz.underlying4 _) trodAll_mk0) (fun sp hsp => ?_) (fun _ _ => rfl) (by simp) hb (ok_one (by kernel_rfl) rfl (okWide_bool_mk Tryz.underlying4 _))⟩
  have := trodAll_cons_mk (WideElems.Trod_stays laidOut (by kernel_rfl) (of_decide_eq_true (by kernel_rfl)) h0k (fun x hx => hb.same (hlt x hx)) (fun x hx => hsp x (by simpa using hx))) (trodAll_mk0 (enc := enc) (P := Tryz.prog) (w := W') (base := 0) (spare := sp) (held := true))
  rw [List.append_nil] at this
  exact this

end Go.Proofs.YtenegfafjjknoaaGreatDoor.Diskp
