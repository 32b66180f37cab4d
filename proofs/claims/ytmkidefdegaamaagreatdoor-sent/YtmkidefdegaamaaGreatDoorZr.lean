/- The law Sent: its arguments opened, its contract as the row asks it, its witness. -/
import Derived.Test.YtmkidefdegaamaaGreatDoorRowkit
import Derived.Test.YtmkidefdegaamaaGreatDoorZd
import Derived.Test.YtmkidefdegaamaaGreatDoorFctz
import Derived.ChangeMaps5
import Derived.Carry
import Derived.Deep.Slices
import Derived.SliceStrings
import Derived.Stop.LaidErr
namespace Go.Proofs.YtmkidefdegaamaaGreatDoor.Ze
open Go.ChangeShapes Go.WideShapes Go.ChangeAt Go.RowKit Go.Joins Rowkit
theorem cellsC : Tryz.prog.cellsOf 23 = 6 := by kernel_rfl
theorem wf_range {a : Int} (h : (Lit.int .i64 a).wf = true) : -9223372036854775808 ≤ a ∧ a ≤ 9223372036854775807 := by
  have h2 : IntKind.i64.min = -9223372036854775808 := by decide
  have h3 : IntKind.i64.max = 9223372036854775807 := by decide
  simpa only [Lit.wf, h2, h3, Bool.and_eq_true, decide_eq_true_eq] using h
def six (a0 a1 a2 a3 a4 a5 : Int) : Fin 6 → Int
  | 0 => a0
  | 1 => a1
  | 2 => a2
  | 3 => a3
  | 4 => a4
  | 5 => a5
theorem six_range {a0 a1 a2 a3 a4 a5 : Int} (w0 : (Lit.int .i64 a0).wf = true) (w1 : (Lit.int .i64 a1).wf = true) (w2 : (Lit.int .i64 a2).wf = true) (w3 : (Lit.int .i64 a3).wf = true) (w4 : (Lit.int .i64 a4).wf = true) (w5 : (Lit.int .i64 a5).wf = true) : ∀ i, -9223372036854775808 ≤ six a0 a1 a2 a3 a4 a5 i ∧ six a0 a1 a2 a3 a4 a5 i ≤ 9223372036854775807
  | 0 => wf_range w0
  | 1 => wf_range w1
  | 2 => wf_range w2
  | 3 => wf_range w3
  | 4 => wf_range w4
  | 5 => wf_range w5
section
variable {H : Type} {enc : TypeId × Value → H} {P : Program}
/-- What holds behind a call that leaves all old memory as it was. -/
theorem post_below {f : Func} {s : ChangeSpec} {apart fresh handsOn again : Bool} {W W' : World} {args : Array Value} {v : Value} {ds gs : List (DataW H)} {before pa pv : List MemPlace}
    (hW : DataW.Whole enc P f.params.toList s.vars apart W args.toList ds gs before)
    (hres : ∀ (b : Nat) (sp : Nat → Bool) (hd : Bool), DataW.TrodAll enc P W' b sp hd f.resultTypes.toList (v.resultList f.resultTypes.size) (s.fn H (ds ++ gs)).results [])
    (hargs : ∀ sp : Nat → Bool, (∀ p ∈ before, sp p.block = true) → DataW.TrodAll enc P W' 0 sp true f.params.toList args.toList (s.fn H (ds ++ gs)).args pa)
    (hvars : ∀ sp : Nat → Bool, (∀ p ∈ before, sp p.block = true) → DataW.TrodVars enc P W' sp s.vars (s.fn H (ds ++ gs)).vars pv)
    (hps : before = pa ++ pv) (hb : Below W.heap.size W W')
    (hok : ∀ (j : Nat) (t : TypeId) (r : Value), f.resultTypes[j]? = some t → (v.resultList f.resultTypes.size)[j]? = some r → Value.okWide P W' .any 0 t r) :
    s.post enc P f apart fresh handsOn again W args v W' := by
  have hold : ∀ p ∈ before, (fun b => decide (b < W.heap.size)) p.block = true := fun p hp => by simpa using hW.lt p hp
  have hlt := hW.lt
  refine ⟨ds, gs, before, [], pa, pv, hW, hres _ _ _, hargs _ hold, hvars _ hold, World.keptBut_mono (fun p hp => ⟨hp, ?_⟩) (hb.frame (· ∈ before)), fun _ => ?_⟩
  · rw [hps, List.mem_append] at hp
    exact Or.inr hp
  · obtain ⟨_, _, _, _, _, hz, hn⟩ := hW
    refine ⟨hok, _, _, ([] ++ pa) ++ pv, ⟨[] ++ pa, pv, trodAll_append (hargs _ (fun _ _ => rfl)) (hres _ _ _), hvars _ (fun _ _ => rfl), rfl, ?_, ?_⟩, ?_⟩
    · intro b off hp
      have hm : MemPlace.cell b off ∈ before := by rw [hps]; simpa using hp
      rw [World.frozen?_of_block (w := W) (hb.block b (hlt _ hm))]
      exact hz b off hm
    · intro ha
      have := hn ha
      rw [hps] at this
      simpa using this
    · intro p hp _
      rw [hps]
      simpa using hp
end
theorem laidOut : laidOutB Tryz.prog = true := by kernel_rfl
theorem cellsS : Tryz.prog.cellsOf 9 = 1 := by kernel_rfl
/-- The row of texts, read. -/
theorem open_row {H : Type} {enc : TypeId × Value → H} {P : Program} {w : World} {t e : TypeId} {fuel : Nat} {cs : List Value} {x : DataW H × List MemPlace} (ht : P.underlying t = some (.slice e)) (he : P.underlying e = some .string) (hC : P.cellsOf e = 1)
    (h : DataW.trod enc P w 0 (fun _ => true) true fuel t cs = some x) :
    ∃ (ao : Option Addr) (cap : Nat) (l : List ByteArray) (rest : List (DataW H)), cs = [.slice ao l.length cap] ∧ Apn.Src w 1 ao l.length (l.map Value.string) ∧ (x.1 = .nil ∧ l = [] ∨ x.1 = .slice (l.map fun y => .lit (.string y.data.toList)) rest) := by
  rcases open_strings ht he hC h with ⟨rfl, rfl⟩ | ⟨a, len, cap, ss, rfl, hb, hl, hm, hz, rfl, hc, hw⟩
  · exact ⟨none, 0, [], [], rfl, ⟨rfl, fun u hu => (by cases hu), Or.inl rfl⟩, Or.inl ⟨rfl, rfl⟩⟩
  · have hzl : ss.length = cap := by simpa using hz
    have hll : (ss.take len).length = len := by rw [List.length_take]; omega
    refine ⟨some a, cap, ss.take len, strs (ss.drop len), by rw [hll], ⟨by rw [List.length_map, Nat.mul_one], fun u hu => ?_, Or.inr ⟨a, rfl, fun j u hu => ?_⟩⟩, Or.inr (by simp [strs])⟩
    · obtain ⟨y, _, rfl⟩ := List.mem_map.1 hu
      rfl
    · rw [List.getElem?_map, List.getElem?_take] at hu
      split at hu
      · rename_i hj
        rw [List.getElem?_eq_getElem (by omega)] at hu
        have h1 := hc j (by omega)
        rw [List.getD_eq_getElem?_getD, List.getElem?_eq_getElem (by omega)] at h1
        rw [h1]
        exact hu
      · cases hu
theorem no_spot {w : World} {a : Addr} {v : Value} (h : w.cell? a = some v) : a.spot = none := by
  unfold World.cell? at h
  split at h
  · split at h
    · cases h
    · rename_i hs
      simpa using hs
  · cases h
theorem add_none (g off n : Nat) : (⟨g, off, none⟩ : Addr).add n = ⟨g, off + n, none⟩ := by
  unfold Addr.add
  split
  · rename_i h
    rw [h, Nat.add_zero]
  · rfl
theorem bytesS : Tryz.prog.bytesOf 9 = 16 := by kernel_rfl
theorem cellsI : Tryz.prog.cellsOf 3 = 1 := by kernel_rfl
/-- The row of numbers, read. -/
theorem open_nums {H : Type} {enc : TypeId × Value → H} {P : Program} {w : World} {t e : TypeId} {fuel : Nat} {cs : List Value} {x : DataW H × List MemPlace} (ht : P.underlying t = some (.slice e)) (he : P.underlying e = some (.int .i64)) (hC : P.cellsOf e = 1)
    (h : DataW.trod enc P w 0 (fun _ => true) true fuel t cs = some x) :
    ∃ (ao : Option Addr) (cap : Nat) (l : List Int), cs = [.slice ao l.length cap] ∧ (∀ (i : Nat) y, l[i]? = some y → ∃ g off, ao = some ⟨g, off, none⟩ ∧ g < w.heap.size ∧ w.cell? ⟨g, off + i, none⟩ = some (.int .i64 y)) ∧ (∀ y ∈ l, -9223372036854775808 ≤ y ∧ y ≤ 9223372036854775807) := by
  rcases open_ints ht he hC h with ⟨rfl, rfl⟩ | ⟨a, len, cap, zs, rfl, hb, hl, hm, hz, rfl, hc, hw⟩
  · exact ⟨none, 0, [], rfl, fun i y hy => (by simp at hy), fun y hy => (by cases hy)⟩
  · have hzl : zs.length = cap := by simpa using hz
    have hll : (zs.take len).length = len := by rw [List.length_take]; omega
    refine ⟨some a, cap, zs.take len, by rw [hll], fun i y hy => ?_, fun y hy => wf_range (hw y (List.mem_of_mem_take hy))⟩
    have hi : i < len := by rw [← hll]; exact (List.getElem?_eq_some_iff.1 hy).1
    have h0 := hc 0 (by omega)
    have h1 := hc i (by omega)
    rw [List.getElem?_take, if_pos hi] at hy
    have hv : zs.getD i 0 = y := by simp [List.getD, hy]
    rw [hv] at h1
    have hsp : a.spot = none := by
      have h2 := no_spot h0
      obtain ⟨g, off, q⟩ := a
      simpa [Addr.add] using h2
    obtain ⟨g, off, q⟩ := a
    have hq : q = none := hsp
    subst hq
    rw [add_none] at h1
    exact ⟨g, off, rfl, World.block_lt_of_cell? w _ h1, h1⟩
theorem gES : Tryz.prog.globalNamed "strconv.ErrSyntax" = some 4 := by kernel_rfl
theorem gESt : (Tryz.prog.globals[4]?).map (·.type) = some 64 := by kernel_rfl
theorem gER : Tryz.prog.globalNamed "strconv.ErrRange" = some 5 := by kernel_rfl
theorem gERt : (Tryz.prog.globals[5]?).map (·.type) = some 64 := by kernel_rfl
theorem cellsE : Tryz.prog.cellsOf 338 = 1 := by kernel_rfl
theorem star : "*" ++ "errors.errorString" = "*errors.errorString" := by decide
theorem rowE (u : TypeId) (h : Tryz.prog.typeName? 3 u = some "*errors.errorString") : u = 336 :=
  typeName_ptr_named (nm := "errors.errorString") (by rw [star]; kernel_rfl) (by kernel_rfl) (by decide) u (by rw [star]; exact h)
/-- What the row's list gives: the two errors. -/
theorem ers_of {W : World} {a b c d : String × DataW Unit} {r : List (String × DataW Unit)} (h : laidMet Tryz.prog (a :: b :: c :: d :: ("strconv.ErrRange", Rows.laid_strconv_ErrRange) :: ("strconv.ErrSyntax", Rows.laid_strconv_ErrSyntax) :: r) W) : Jr.Ers W ∧ 4 < W.heap.size ∧ 5 < W.heap.size := by
  have h4 := laidMet_tail (laidMet_tail (laidMet_tail (laidMet_tail h)))
  obtain ⟨a0, s0, hv0, -, -, -⟩ := laid_sentinel h4 gER gERt Tryz.underlying64 rowE Tryz.underlying336 Tryz.underlying338 rfl rfl Tryz.underlying9 cellsE cellsS
  obtain ⟨a1, s1, hv1, -, -, -⟩ := laid_sentinel (laidMet_tail h4) gES gESt Tryz.underlying64 rowE Tryz.underlying336 Tryz.underlying338 rfl rfl Tryz.underlying9 cellsE cellsS
  have c0 := World.var?_cell gER hv0 0
  have c1 := World.var?_cell gES hv1 0
  have c0' : W.cell? ⟨5, 0, none⟩ = some (.iface 336 (.pointer (some a0))) := by simpa using c0
  have c1' : W.cell? ⟨4, 0, none⟩ = some (.iface 336 (.pointer (some a1))) := by simpa using c1
  exact ⟨⟨_, _, c1', c0', Or.inr ⟨_, _, rfl⟩, Or.inr ⟨_, _, rfl⟩⟩, World.block_lt_of_cell? W _ c1', World.block_lt_of_cell? W _ c0'⟩
set_option maxRecDepth 100000 in
theorem contract (H : Type) (enc : TypeId × Value → H) (W : World) (base : Nat) (args : Array Value) (ds gs : List (DataW H)) (before : List MemPlace)
    (hval : ∀ (j : Nat) t v, Tryz.f4.params[j]? = some t → args[j]? = some v → Value.okWide Tryz.prog W .any base t v)
    (hW : DataW.Whole enc Tryz.prog Tryz.f4.params.toList Rows.sentSpec.vars false W args.toList ds gs before)
    (hsz0 : (DataW.weightsEach Tryz.prog (Tryz.f4.params.toList ++ Rows.sentSpec.plain.varTypes Tryz.prog) (ds ++ gs)).all (· ≤ reachBytes) = true)
    (hT : Plainw.Tab W) (hE : Jr.Ers W ∧ 4 < W.heap.size ∧ 5 < W.heap.size) :
    Calls Tryz.prog 4 args W fun e W' => ∃ v, e = .returned v ∧ Rows.sentSpec.post enc Tryz.prog Tryz.f4 false true false false W args v W' := by
  have hW' := hW
  obtain ⟨p, q, hA0, hV, rfl, hfz, hnd⟩ := hW
  have hA : DataW.TrodAll enc Tryz.prog W 0 (fun _ => true) true Tryz.f4.params.toList args.toList ds p := hA0
  have hsz := hsz0
  rw [Tryz.params4] at hA hval hsz
  obtain ⟨v0, vs0, d0, ds0, p0, q0, hargs, rfl, rfl, h0, r0⟩ := trodAll_cons hA
  obtain ⟨v1, vs1, d1, ds1, p1, q1, rfl, rfl, rfl, h1, r1⟩ := trodAll_cons r0
  obtain ⟨v2, vs2, d2, ds2, p2, q2, rfl, rfl, rfl, h2, r2⟩ := trodAll_cons r1
  obtain ⟨rfl, rfl, rfl⟩ := trodAll_nil r2
  obtain rfl : args = #[v0, v1, v2] := by cases args; simp_all
  obtain ⟨rfl, rfl⟩ := trodVars_none hV
  obtain ⟨a0, a1, a2, a3, a4, a5, rfl, rfl, rfl, w0, w1, w2, w3, w4, w5⟩ := open_six Tryz.underlying23 (by kernel_rfl) cellsC Tryz.underlying3 rfl rfl rfl rfl rfl rfl (hval 0 23 v0 rfl rfl) h0
  have h1k := h1
  obtain ⟨va, vl, vc, rfl⟩ := okWide_slice Tryz.underlying24 (hval 1 24 v1 rfl rfl)
  obtain ⟨fuel1, hf1⟩ := h1
  obtain ⟨ao1, cap1, l1, rest1, hcs1, hsrc1, hd1⟩ := open_row Tryz.underlying24 Tryz.underlying9 cellsS hf1
  have hv1 : Value.slice va vl vc = .slice ao1 l1.length cap1 := by simpa [Value.cells] using hcs1
  have h2k := h2
  obtain ⟨ua, ul, uc, rfl⟩ := okWide_slice Tryz.underlying46 (hval 2 46 v2 rfl rfl)
  obtain ⟨fuel2, hf2⟩ := h2
  obtain ⟨ao2, cap2, l2, hcs2, hsrc2, hl2⟩ := open_nums Tryz.underlying46 Tryz.underlying3 cellsI hf2
  have hv2 : Value.slice ua ul uc = .slice ao2 l2.length cap2 := by simpa [Value.cells] using hcs2
  rw [hv1, hv2] at hW' hval ⊢
  rw [hv1] at h1k
  rw [hv2] at h2k
  clear hA0
  simp only [List.append_nil, List.nil_append] at hW'
  have hb : l1.length ≤ 8796093022207 := by
    rcases hd1 with ⟨_, rfl⟩ | hd
    · exact Nat.zero_le _
    · have hd' : d1 = .slice (l1.map fun y => .lit (.string y.data.toList)) rest1 := hd
      subst hd'
      have h1 := sized_slice hsz (j := 1) (t := 24) rfl rfl Tryz.underlying24
      rw [bytesS, List.length_map] at h1
      simp only [reachBytes] at h1
      omega
  refine (show Calls _ _ _ _ _ from Dd.sent (six a0 a1 a2 a3 a4 a5) (six_range w0 w1 w2 w3 w4 w5) ao1 cap1 l1.length l1 rfl ao2 cap2 l2.length l2 rfl W hl2 hsrc2 hT hE.1 hE.2 hsrc1 (by omega)).mono fun e W' ⟨he, hb⟩ => ?_
  subst he
  have hlt : ∀ x ∈ p1 ++ p2, x.block < W.heap.size := fun x hx => by simpa using hW'.lt x (by simpa using hx)
  refine ⟨_, rfl, post_below (pa := p1 ++ p2) (pv := []) hW' (fun _ _ _ => trodAll_cons_mk (shut_bool Tryz.underlying4 _) trodAll_mk0) (fun sp hsp => ?_) (fun _ _ => rfl) (by simp) hb (ok_one (by kernel_rfl) rfl (okWide_bool_mk Tryz.underlying4 _))⟩
  have k1 := WideElems.Trod_stays laidOut (by kernel_rfl) (of_decide_eq_true (by kernel_rfl)) h1k (fun x hx => hb.same (hlt x (List.mem_append_left _ hx))) (fun x hx => hsp x (by simp [hx]))
  have k2 := WideElems.Trod_stays laidOut (by kernel_rfl) (of_decide_eq_true (by kernel_rfl)) h2k (fun x hx => hb.same (hlt x (List.mem_append_right _ hx))) (fun x hx => hsp x (by simp [hx]))
  have := trodAll_cons_mk (shut_six (enc := enc) (P := Tryz.prog) (w := W') (base := 0) (spare := sp) (held := true) Tryz.underlying23 (by kernel_rfl) cellsC Tryz.underlying3 rfl rfl rfl rfl rfl rfl w0 w1 w2 w3 w4 w5) (trodAll_cons_mk k1 (trodAll_cons_mk k2 (trodAll_mk0 (enc := enc) (P := Tryz.prog) (w := W') (base := 0) (spare := sp) (held := true))))
  simp only [List.append_nil, List.nil_append] at this
  exact this
section
set_option maxRecDepth 100000
abbrev args0 : Array Value := #[.agg #[.int .i64 0, .int .i64 0, .int .i64 0, .int .i64 0, .int .i64 0, .int .i64 0], .slice none 0 0, .slice none 0 0]
theorem fits (os : Os) : (World.holding Tryz.prog os ⟨#[], #[], []⟩).layFits Tryz.prog Rows.sentRow.laid [] = true := by kernel_rfl
theorem ifaces (os : Os) : (World.holding Tryz.prog os ⟨#[], #[], []⟩).layIfaces Tryz.prog Rows.sentRow.laid (World.laidAll Tryz.prog os Rows.sentRow.laid) = true := by kernel_rfl
theorem laid_met (os : Os) : laidMet Tryz.prog Rows.sentRow.laid ((World.laidAll Tryz.prog os Rows.sentRow.laid).forCall (fun _ _ => 0) ⟨#[], args0, []⟩).memory :=
  laidMet_laidAll args0 (fits os) (ifaces os)
theorem reads (os : Os) {H : Type} (enc : TypeId × Value → H) : ∃ places, DataW.whole enc Tryz.prog ((World.laidAll Tryz.prog os Rows.sentRow.laid).forCall (fun _ _ => 0) ⟨#[], args0, []⟩).memory Tryz.f4.params.toList Rows.sentSpec.vars false args0.toList 8 = some ([.agg [.lit (.int .i64 0), .lit (.int .i64 0), .lit (.int .i64 0), .lit (.int .i64 0), .lit (.int .i64 0), .lit (.int .i64 0)], .nil, .nil], [], places) :=
  ⟨[], by kernel_rfl⟩
theorem vars_ok (os : Os) : ((World.laidAll Tryz.prog os Rows.sentRow.laid).forCall (fun _ _ => 0) ⟨#[], args0, []⟩).variablesB Tryz.prog = true := by kernel_rfl
theorem rest_ok (os : Os) : (((World.laidAll Tryz.prog os Rows.sentRow.laid).forCall (fun _ _ => 0) ⟨#[], args0, []⟩).heap.toList.drop Tryz.prog.globals.size).take ((begin Tryz.prog (fun _ _ => 0) default).world.heap.size - Tryz.prog.globals.size) =
      (begin Tryz.prog (fun _ _ => 0) default).world.heap.toList.drop Tryz.prog.globals.size := by kernel_rfl
theorem input_ok (os : Os) : Input.okWideB Tryz.prog ((World.laidAll Tryz.prog os Rows.sentRow.laid).forCall (fun _ _ => 0) ⟨#[], args0, []⟩) 4 ⟨#[], args0, []⟩ = true := by kernel_rfl
end
set_option maxRecDepth 100000 in
theorem lifted (os : Os) (started : os.Started) (H : Type) (enc : TypeId × Value → H) (F : Stop.Interp) :
    ReturnsInHanded {} Tryz.checked os 4 .any ((OpenSpec.ofChange Rows.sentSpec).preRow enc Tryz.prog Tryz.f4 Rows.sentRow.domain false Rows.sentRow.laid) (((OpenSpec.ofChange Rows.sentSpec).at F).post enc Tryz.prog Tryz.f4 false true false false) := by
  obtain ⟨places, hx⟩ := reads os enc
  refine returnsInHanded_of_row (C := Tryz.checked) (s := OpenSpec.ofChange Rows.sentSpec) own started (by kernel_rfl) Tryz.func4
    (witness_row_at (enc := enc) (C := Tryz.checked) false (World.laidAll Tryz.prog os Rows.sentRow.laid) args0 (World.laidAll_os _ _ _) (vars_ok os) (rest_ok os) (input_ok os)
      (OpenSpec.preRow_of_cond 8 hx (by kernel_rfl) (fun k hk => by cases hk) (by kernel_rfl) (laid_met os))) ?_
  intro W base args ds gs before hval hW _ _ hsz hL _ _
  exact contract H enc W base args ds gs before hval hW hsz (tab_of (a := ("math/bits.deBruijn32tab", Rows.laid_math_bits_deBruijn32tab)) (b := ("math/bits.deBruijn64tab", Rows.laid_math_bits_deBruijn64tab)) hL) (ers_of hL)
theorem said : Rows.SentSaid :=
  OpenClaim.holds_of_cond 4 Tryz.f4 rfl rfl rfl rfl rfl rfl rfl ⟨rfl, rfl, rfl, rfl, rfl⟩ rfl rfl rfl rfl rfl (by kernel_rfl) Tryz.func4 Fctz.facts
    (of_decide_eq_true (by kernel_rfl)) (by unfold Func.isWrapper; first | (rw [if_pos (by decide +kernel)]; kernel_rfl) | (rw [if_neg (by decide +kernel)]; exact ⟨rfl, rfl⟩))
    (fun os started H enc _ F => by rw [OpenClaim.pre_eq_preRow]; exact lifted os started H enc F)
theorem plain (f : FuncId) (fn : Func) (hf : Tryz.pinned.checked.prog.funcNamed "tally/tallykeep.Sent" = some f) (hfn : Tryz.pinned.checked.prog.funcs[f]? = some fn) :
    true = Tryz.pinned.checked.prog.looks [] ∧ ∀ (j : Nat) t, fn.params[j]? = some t → Tryz.pinned.checked.prog.wantsStandIn t = false := by
  obtain rfl : f = 4 := Option.some.inj ((show Tryz.prog.funcNamed "tally/tallykeep.Sent" = some 4 by kernel_rfl).symm.trans hf) |>.symm
  obtain rfl : fn = Tryz.f4 := (Option.some.inj (Tryz.func4.symm.trans hfn)).symm
  refine ⟨by kernel_rfl, fun j t ht => ?_⟩
  rw [Tryz.params4] at ht
  have ht' : t = 23 ∨ t = 24 ∨ t = 46 := by simpa using Array.mem_of_getElem? ht
  rcases ht' with rfl | rfl | rfl
  · exact (show Tryz.prog.wantsStandIn 23 = false by kernel_rfl)
  · exact (show Tryz.prog.wantsStandIn 24 = false by kernel_rfl)
  · exact (show Tryz.prog.wantsStandIn 46 = false by kernel_rfl)
end Go.Proofs.YtmkidefdegaamaaGreatDoor.Ze
