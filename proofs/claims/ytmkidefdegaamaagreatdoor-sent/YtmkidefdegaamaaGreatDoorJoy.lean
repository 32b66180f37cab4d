/- Going backward through a row of numbers; segments deleted one by one. -/
import Derived.Test.YtmkidefdegaamaaGreatDoorJgy
import Derived.RangeFuncBound
import Derived.RangeFuncCalls
import Derived.RangeFuncLeaves
import Derived.RangeFuncNested
import Derived.RangeFuncFrom
import Derived.LoopNIn
import Derived.TacticsInMore
namespace Go.Proofs.YtmkidefdegaamaaGreatDoor.Jr
open Go.RowKit Go.Maps Mem Foot Bytes Im Wm Hi Plainw Cq Dm Dh
def jdels (S : Dk) : List Int → Dk × Int
  | [] => (S, 0)
  | n :: l => if (doDelete S n).2 ≠ 0 then doDelete S n else jdels (doDelete S n).1 l
theorem jdels_append (S : Dk) (a b : List Int) : jdels S (a ++ b) = if (jdels S a).2 ≠ 0 then jdels S a else jdels (jdels S a).1 b := by
  induction a generalizing S with
  | nil => simp [jdels]
  | cons n a ih =>
    have e : ∀ l, jdels S (n :: l) = if (doDelete S n).2 ≠ 0 then doDelete S n else jdels (doDelete S n).1 l := fun _ => rfl
    rw [List.cons_append, e, e]
    by_cases h : (doDelete S n).2 = 0
    · simp only [h, ne_eq, not_true_eq_false, if_false]
      exact ih _
    · simp [h]
theorem jdels_one (S : Dk) (n : Int) : jdels S [n] = doDelete S n := by
  rw [jdels]
  by_cases h : (doDelete S n).2 = 0
  · rw [if_neg (by simpa using h), jdels]
    exact Prod.ext rfl h.symm
  · rw [if_pos h]
theorem jdels_fit {S : Dk} {k u : Nat} (h : Fit S k u) (l : List Int) : Fit (jdels S l).1 k u := by
  induction l generalizing S with
  | nil => exact h
  | cons n l ih =>
    rw [jdels]
    split
    · exact fit_delete h n
    · exact ih (fit_delete h n)
def jfin (J : Jn) (S : Dk) (win : Int) : Jn × Dk × Int :=
  if (jdels S ((getE win J.sealed).getD []).reverse).2 ≠ 0 then (J, (jdels S ((getE win J.sealed).getD []).reverse).1, (jdels S ((getE win J.sealed).getD []).reverse).2)
  else ({ J with sealed := del win J.sealed }, (jdels S ((getE win J.sealed).getD []).reverse).1, 0)
def jforget (J : Jn) (S : Dk) (win : Int) : Jn × Dk × Int :=
  if win = J.greatest then (if (jkeep J S).2.2 ≠ 0 then jkeep J S else jfin (jkeep J S).1 (jkeep J S).2.1 win) else jfin J S win
/-- What the iterator tells: a place, and a number. -/
abbrev Yd := { x : Int × Int // -9223372036854775808 ≤ x.2 ∧ x.2 ≤ 9223372036854775807 }
def nums (l : List Yd) : List Int := l.map fun x => x.1.2
theorem nums_append (a b : List Yd) : nums (a ++ b) = nums a ++ nums b := by simp [nums]
/-- These blocks stay. -/
def KB (bl : List Nat) (W W' : World) : Prop := ∀ k ∈ bl, W'.heap[k]? = W.heap[k]?
theorem KB.trans {bl : List Nat} {A B C : World} (h : KB bl A B) (k : KB bl B C) : KB bl A C := fun i hi => (k i hi).trans (h i hi)
theorem sits_kb {bl : List Nat} {W W' : World} {b : Nat} {t : TypeId} {cs : Array Value} (h : Sits W b t cs) (hk : KB bl W W') (hb : b ∈ bl) : Sits W' b t cs := (hk b hb).trans h
theorem row_kb {bl : List Nat} {W W' : World} {base size n : Nat} {e : TypeId} {v : Value} {xs : List Value} (h : W.ownsRow base e size v n xs) (hk : KB bl W W') (hb : ∀ k ∈ v.ownBlock.toList, k ∈ bl) : W'.ownsRow base e size v n xs := by
  refine ⟨h.1, ?_⟩
  rcases h.2 with h0 | ⟨g, cap, cur, rfl, h1, hg, h2⟩
  · exact Or.inl h0
  · exact Or.inr ⟨g, cap, cur, rfl, h1, (hk g (hb g (by simp [Value.ownBlock]))).trans hg, h2⟩
theorem backF (a : Option Addr) (n c : Nat) (w : World) : Calls Tryz.prog 71 #[.slice a n c] w fun e w' => e = .returned (.func (.func 98) #[] #[.pointer (some ⟨w.heap.size, 0, none⟩)]) ∧ w' = w.alloc (.cells #[.slice a n c] 46) := by
  go_enter Tryz.func71, Tryz.ntmps71
  go_wp2_with fail
  go_ret
  exact ⟨rfl, rfl⟩
set_option maxRecDepth 10000 in
set_option maxHeartbeats 1000000 in
/-- The iterator that slices.Backward hands back. -/
theorem backSeq (m : Nat) (hm : 1 ≤ m) (Bx : Nat) (sv : Value) (l : List Int) (w : World) (hbox : Sits w Bx 46 #[sv]) (hrow : w.ownsRow 0 3 1 sv l.length (l.map (Value.int .i64))) (hr : ∀ x ∈ l, -9223372036854775808 ≤ x ∧ x ≤ 9223372036854775807) (hl : l.length ≤ 1000000000) :
    SeqStopsK Fence.wide m Tryz.prog 98 #[.pointer (some ⟨Bx, 0, none⟩)] (fun x : Yd => #[.int .i64 x.1.1, .int .i64 x.1.2]) (KB (Bx :: sv.ownBlock.toList)) (fun xs => nums xs = l.reverse) (fun pre => ∃ post, nums pre ++ post = l.reverse) l.length w := by
  intro lp J Jx W hb hJ hJx hY h0
  have HBX := hide (Mem.Sits.below hbox hb hbox.lt)
  have HRW := hide (own_keep hrow hb)
  have HY := hide hY
  have H0 := hide h0
  have HR := hide hr
  clear hbox hrow hY h0 hr hb hJ hJx
  obtain ⟨oa, oc, hov⟩ := own_shapeJ HRW.out
  have c0 := HBX.out.cell 0 _ rfl
  rw [hov] at c0
  have HOV := hide hov
  have hwr : IntKind.i64.wrap ((l.length : Int) - 1) = (l.length : Int) - 1 := IntWalk.i64_in _ (by omega)
  clear hov
  refine callsIn_of_wp Tryz.func98 rfl trivial ?_ rfl
  simp only [Tryz.ntmps98, List.size_toArray, List.length_cons, List.length_nil, Nat.reduceAdd, Nat.reduceSub, Array.replicate_succ, Array.replicate_zero, List.push_toArray, List.append_toArray, List.nil_append, List.cons_append]
  gi_wp2_with fail
  clear hwr c0
  gi_loopw [3] (fun a wr => ∃ (pre : List Yd) (k : Nat), a = .int .i64 ((k : Int) - 1) ∧ Hid (nums pre = (l.drop k).reverse) ∧ k + pre.length = l.length ∧ Hid (J pre wr) ∧ Hid (KB (Bx :: sv.ownBlock.toList) W wr)) (fun a _ => (intOf a + 1).toNat)
  case atStart => exact ⟨[], l.length, rfl, by simp [nums, Hid], by simp, H0.out, fun _ _ => rfl⟩
  case round =>
    obtain ⟨pre, k, rfl, HN, hkl, HJ, HK⟩ := hrel
    cases k with
    | zero =>
      gi_wp2_with fail
      go_end0
      exact ⟨⟨_, rfl⟩, .inl ⟨pre, by rw [HN.out]; simp, HJ.out⟩⟩
    | succ k =>
      have hki : ((k + 1 : Nat) : Int) - 1 = (k : Int) := by omega
      rw [hki]
      have hx : l[k]? = some (l[k]'(by omega)) := List.getElem?_eq_getElem _
      generalize hxe : l[k]'(by omega) = x at hx
      have hxr := HR.out x (List.mem_of_getElem? hx)
      obtain ⟨g, cap, hv, hcap, hg, hcell⟩ := row_ints (row_kb HRW.out HK.out (fun k hk => List.mem_cons_of_mem _ hk)) hx
      have c0 := (sits_kb HBX.out HK.out (List.mem_cons_self ..)).cell 0 _ rfl
      rw [hv] at c0
      have hlt : (k : Int) < (l.length : Int) := by omega
      have hge : ¬ (k : Int) < 0 := by omega
      obtain ⟨fn, tmps, assign, body, hy, hR⟩ := HY.out pre ⟨((k : Int), x), hxr⟩ wr HJ.out (by omega)
      have HRR := hide hR
      have HN2 := hide (show nums (pre ++ [(⟨((k : Int), x), hxr⟩ : Yd)]) = (l.drop k).reverse by
        rw [nums_append, HN.out, List.drop_eq_getElem_cons (by omega : k < l.length), List.reverse_cons, hxe]
        rfl)
      simp only at hy
      have HKL := hide hkl
      have HPO := hide (show ∃ post, nums (pre ++ [(⟨((k : Int), x), hxr⟩ : Yd)]) ++ post = l.reverse from ⟨(l.take k).reverse, by
        rw [HN2.out, ← List.reverse_append, List.take_append_drop]⟩)
      clear hR hki hxe hv hx hkl
      gi_wp2_with fail
      refine HRR.out.mono ?_
      rintro e W4 (⟨rfl, hJ4, hk4⟩ | ⟨rfl, hJx4⟩)
      · have HJ4 := hide hJ4
        have HK4 := hide (HK.out.trans hk4)
        clear hJ4 hk4
        gi_wp2_with fail
        go_roundw
        case rel => exact ⟨pre ++ [⟨((k : Int), x), hxr⟩], k, rfl, HN2, by have := HKL.out; simp; omega, HJ4, HK4⟩
        case measure => simp only [intOf]; omega
      · have HJ4 := hide hJx4
        clear hJx4
        gi_wp2_with fail
        refine bodyPost_ret (results_none rfl _ _ _) rfl ?_
        exact ⟨⟨_, rfl⟩, .inr ⟨_, HPO.out, HJ4.out⟩⟩
end Go.Proofs.YtmkidefdegaamaaGreatDoor.Jr
namespace Go.Proofs.YtmkidefdegaamaaGreatDoor.Jr
open Go.RowKit Go.Maps Mem Foot Bytes Im Wm Hi Plainw Cq Dm Dh
theorem results_cell1 {P : Program} {fn : Func} {p : Tmp} {ty : TypeId} (h : fn.results = #[.cell p ty]) (tmps : Array Value) (w : World) (a : Addr) (v : Value) (hp : tmps.getD p undef = .pointer (some a)) (hl : (loadVar ty a).run P w = .ok v w) : (results fn tmps).run P w = .ok v w := by
  have hp' : tmps[p]?.getD undef = .pointer (some a) := by simpa using hp
  simp [results, h, hp', asAddr, hl]
theorem load_err {w : World} {b : Nat} {v : Value} (h : w.cell? ⟨b, 0, none⟩ = some v) : (loadVar 64 ⟨b, 0, none⟩).run Tryz.prog w = .ok v w := by
  simp [loadVar, h]
theorem JW.offp {w w' : World} {jb bx mb : Nat} {J : Jn} {sv : Srs} {ov : Value} {S : Dk} {ba cap : Nat} {bs : List Nat} (h : JW w jb bx mb J sv ov) (hP : PD w bx S ba cap bs) (ho : Off (pf bx ba bs) w w') : JW w' jb bx mb J sv ov :=
  ⟨h.ja.off hP ho, h.sm.off ho (fun e => by
    obtain ⟨t, cs, hs⟩ := pd_cells hP e
    exact map_ne h.sm.own hs rfl) (fun k hk => by
    obtain ⟨cs, hs⟩ := h.sm.sits hk
    exact PD.not hP hs (by decide) (by decide) (by decide)), h.eq, h.apart⟩
theorem JW.offr {w w' : World} {jb bx mb r : Nat} {J : Jn} {sv : Srs} {ov : Value} {S : Dk} {ba cap : Nat} {bs : List Nat} {cs : Array Value} (h : JW w jb bx mb J sv ov) (hP : PD w bx S ba cap bs) (hr : Sits w r 64 cs) (ho : Off (r :: pf bx ba bs) w w') : JW w' jb bx mb J sv ov := by
  have no : ∀ {k : Nat} {t : TypeId} {cs' : Array Value}, Sits w k t cs' → t ≠ 64 → t ≠ 55 → t ≠ 127 → t ≠ 129 → k ∉ r :: pf bx ba bs := fun {k t cs'} hs h0 h1 h2 h3 hm => by
    rcases List.mem_cons.1 hm with e | e
    · exact sits_neJ hs hr h0 e
    · exact PD.not hP hs h1 h2 h3 e
  refine ⟨h.ja.off2 ho (no h.ja.head (by decide) (by decide) (by decide) (by decide)) fun k hk => ?_, h.sm.off ho (fun hm => ?_) fun k hk => ?_, h.eq, h.apart⟩
  · obtain ⟨cs', hs⟩ := sits_row h.ja.opn hk
    exact no hs (by decide) (by decide) (by decide) (by decide)
  · rcases List.mem_cons.1 hm with e | e
    · exact map_ne h.sm.own hr e
    · obtain ⟨t, cs', hs⟩ := pd_cells hP e
      exact map_ne h.sm.own hs rfl
  · obtain ⟨cs', hs⟩ := h.sm.sits hk
    exact no hs (by decide) (by decide) (by decide) (by decide)
theorem del_sub {k : Int} {sv : Srs} {b : Nat} (h : b ∈ sblocks (del k sv)) : b ∈ sblocks sv := by
  obtain ⟨p, hp, hb⟩ := List.mem_flatMap.1 h
  exact List.mem_flatMap.2 ⟨p, (List.mem_filter.1 hp).1, hb⟩
/-- One window less. -/
theorem JW.less {w w' : World} {jb bx mb : Nat} {J : Jn} {sv : Srs} {ov : Value} (h : JW w jb bx mb J sv ov) (ho : Off [mb] w w') {win : Int} {n : Nat} (hm : w'.ownsMap Tryz.prog 3 (exE okS) mb n (sD (del win sv))) : JW w' jb bx mb { J with sealed := del win J.sealed } (del win sv) ov := by
  have no : ∀ {k : Nat} {t : TypeId} {cs : Array Value}, Sits w k t cs → k ∉ [mb] := fun hs e => map_ne h.sm.own hs (List.mem_singleton.1 e).symm
  refine ⟨⟨Foot.Sits.off h.ja.head ho (no h.ja.head), own_off h.ja.opn ho fun k hk => ?_⟩, ⟨?_, h.sm.up.del _, fun p hp => own_off (h.sm.rows p (List.mem_filter.1 hp).1) ho fun k hk => ?_⟩, ?_, fun k hk => h.apart k (del_sub hk)⟩
  · obtain ⟨cs, hs⟩ := sits_row h.ja.opn hk
    exact no hs
  · have := own_tight hm
    rw [show Maps.size (sD (del win sv)) = (del win sv).length from mp_size _] at this
    exact this
  · obtain ⟨cs, hs⟩ := sits_row (h.sm.rows p (List.mem_filter.1 hp).1) hk
    exact no hs
  · show del win J.sealed = (del win sv).map sl
    rw [sl_del, h.eq]
    rfl
theorem pf_del {bx ba ba' n : Nat} {bs bs' : List Nat} (h1 : ∀ b ∈ bs', b ∈ bs) (h2 : ba' = ba ∨ n ≤ ba') : ∀ b ∈ pf bx ba' bs', b ∈ pf bx ba bs ∨ n ≤ b := by
  intro b hb
  cases bs' with
  | nil => exact Or.inl (pf_sub (List.mem_singleton.1 hb ▸ List.mem_cons_self ..))
  | cons x r =>
    cases bs with
    | nil => exact absurd (h1 x (List.mem_cons_self ..)) (by simp)
    | cons y r2 =>
      rcases List.mem_cons.1 hb with e | e
      · exact Or.inl (e ▸ List.mem_cons_self ..)
      · rcases List.mem_cons.1 e with e | e
        · rcases h2 with h2 | h2
          · exact Or.inl (by rw [e, h2]; exact List.mem_cons_of_mem _ (List.mem_cons_self ..))
          · exact Or.inr (by omega)
        · exact Or.inl (List.mem_cons_of_mem _ (List.mem_cons_of_mem _ (h1 b e)))
/-- A window's row. -/
def rowOf (win : Int) (sv : Srs) : Value := Im.elemOf (fun p : Value × List Int => p.1) (.slice none 0 0) win sv
theorem SM.row {w : World} {mb : Nat} {sv : Srs} (h : SM w mb sv) {J : Jn} (he : J.sealed = sv.map fun p => (p.1, p.2.2)) (win : Int) :
    w.ownsRow 0 3 1 (rowOf win sv) ((getE win J.sealed).getD []).length (((getE win J.sealed).getD []).map (Value.int .i64)) ∧ (∀ k ∈ (rowOf win sv).ownBlock.toList, k ∈ sblocks sv) ∧ ((getE win J.sealed).getD [] = [] ∨ ∃ p ∈ J.sealed, p.2 = (getE win J.sealed).getD []) := by
  have hg : getE win J.sealed = (getE win sv).map (·.2) := by
    rw [he]
    unfold getE
    rw [List.find?_map, Option.map_map, Option.map_map]
    rfl
  unfold rowOf Im.elemOf
  cases hq : getE win sv with
  | none =>
    rw [hg, hq]
    exact ⟨⟨rfl, Or.inl ⟨rfl, rfl⟩⟩, by simp [Value.ownBlock], Or.inl rfl⟩
  | some b =>
    rw [hg, hq]
    have hm : (win, b) ∈ sv := by
      unfold getE at hq
      rw [Option.map_eq_some_iff] at hq
      obtain ⟨p, h1, h2⟩ := hq
      have h3 := List.mem_of_find?_eq_some h1
      have h4 := List.find?_some h1
      simp at h4
      have h5 : p = (win, b) := Prod.ext h4 h2
      exact h5 ▸ h3
    refine ⟨h.rows _ hm, fun k hk => List.mem_flatMap.2 ⟨_, hm, hk⟩, Or.inr ⟨(win, b.2), ?_, rfl⟩⟩
    rw [he]
    exact List.mem_map.2 ⟨_, hm, rfl⟩
theorem KeepsOthers.of_off {W W' : World} (h : Below W.heap.size W W') : KeepsOthers W W' :=
  ⟨h.size, fun k _ hk _ => (h.block k (Array.getElem?_eq_some_iff.1 hk).1).trans hk⟩
/-- What holds between two rounds. -/
def Inv (S : Dk) (bx ba : Nat) (bs : List Nat) (w3 : World) (pre : List Yd) (W : World) : Prop :=
  (jdels S (nums pre)).2 = 0 ∧ Off (pf bx ba bs) w3 W ∧ ∃ ba' cap' bs', PD W bx (jdels S (nums pre)).1 ba' cap' bs' ∧ ∀ b ∈ pf bx ba' bs', b ∈ pf bx ba bs ∨ w3.heap.size ≤ b
/-- What holds where it was left. -/
def Out (S : Dk) (bx ba : Nat) (bs : List Nat) (w3 : World) (rb : Nat) (c : Code) (pre : List Yd) (W : World) : Prop :=
  c = .ret ∧ (∃ v, W.cell? ⟨rb, 0, none⟩ = some v ∧ ErrV W v (jdels S (nums pre)).2 ∧ (jdels S (nums pre)).2 ≠ 0) ∧ Off (rb :: pf bx ba bs) w3 W ∧ ∃ ba' cap' bs', PD W bx (jdels S (nums pre)).1 ba' cap' bs' ∧ ∀ b ∈ pf bx ba' bs', b ∈ pf bx ba bs ∨ w3.heap.size ≤ b
theorem row_off {W W' : World} {row : Option Nat} (h : W.grownBy W' row) : Off row.toList W W' :=
  ⟨h.os, h.tape, h.output, h.size, fun k hk hF => h.block k hk (fun e => hF (by simp [← e]))⟩
theorem row_not {W : World} {row : Option Nat} {B : Nat} (hr : ∀ r, row = some r → B ≤ r ∧ ∃ o : Obj, W.heap[r]? = some o ∧ o.isCells = false) {k : Nat} {t : TypeId} {cs : Array Value} (hs : Sits W k t cs) : k ∉ row.toList := by
  intro e
  obtain ⟨_, o, h1, h2⟩ := hr k (by simpa using e)
  unfold Sits at hs
  rw [hs] at h1
  cases h1
  cases h2
theorem inv_own (S : Dk) (bx ba : Nat) (bs : List Nat) (w3 : World) : OwnFrom w3.heap.size (Inv S bx ba bs w3) := by
  intro pre W W' row ⟨h1, h2, ba', cap', bs', h3, h4⟩ hg hr
  have ho := row_off hg
  refine ⟨h1, off_trans h2 (fun b hb => Or.inr (hr b (by simpa using hb)).1) ho, ba', cap', bs', pd_off h3 ho fun k hk => ?_, h4⟩
  obtain ⟨t, cs, hs⟩ := pd_cells h3 hk
  exact row_not hr hs
theorem out_own (S : Dk) (bx ba : Nat) (bs : List Nat) (w3 : World) (rb : Nat) (hrb : rb < w3.heap.size) (c : Code) : OwnFrom w3.heap.size (Out S bx ba bs w3 rb c) := by
  intro pre W W' row ⟨h0, ⟨v, e1, e2, e3⟩, h2, ba', cap', bs', h3, h4⟩ hg hr
  have ho := row_off hg
  refine ⟨h0, ⟨v, ?_, ?_, e3⟩, off_trans h2 (fun b hb => Or.inr (hr b (by simpa using hb)).1) ho, ba', cap', bs', pd_off h3 ho fun k hk => ?_, h4⟩
  · have hne : rb ∉ row.toList := fun e => by
      have := (hr rb (by simpa using e)).1
      omega
    have hb := ho.block rb (Nat.lt_of_lt_of_le hrb h2.size) hne
    unfold World.cell? at e1 ⊢
    simp only at e1 ⊢
    rw [hb]
    exact e1
  · rcases e2 with h | ⟨n1, b, z, n2, n3⟩
    · exact Or.inl h
    · exact Or.inr ⟨n1, b, z, n2, Foot.Sits.off n3 ho (row_not hr n3)⟩
  · obtain ⟨t, cs, hs⟩ := pd_cells h3 hk
    exact row_not hr hs
end Go.Proofs.YtmkidefdegaamaaGreatDoor.Jr
