/- The shards' keys in one rising order: the iterator. -/
import Derived.Test.YtmkidefdegaamaaGreatDoorWty
import Derived.RangeFuncNested
import Derived.RangeFuncBound
import Derived.RangeFuncCalls
import Derived.RangeFuncLeaves
import Derived.Shelf.RegionOpen
import Derived.WalkKit
import Derived.LoopNIn
import Derived.LoopIn
import Derived.Test.YtmkidefdegaamaaGreatDoorCheck
namespace Go.Proofs.YtmkidefdegaamaaGreatDoor.Kr
open Go.RowKit Go.Maps Mem Foot Im Wm Hk Hb Hi Hn Plainw Cq Hs Sh Readw Wi Go.Sort Go.Shelf
attribute [local go_sem] Oper.semAt_some
def slen : Value → Nat
  | .slice _ l _ => l
  | _ => 0
def leftOver (w : World) (R : Nat) : Nat :=
  match w.heap[R]? with
  | some (.cells cs _ _) => (cs.toList.map slen).sum
  | _ => 0
theorem leftOver_sits {w : World} {R : Nat} {t : TypeId} {cs : Array Value} (h : Sits w R t cs) : leftOver w R = (cs.toList.map slen).sum := by
  unfold leftOver
  have h' : w.heap[R]? = _ := h
  rw [h']
theorem sum_set {l : List Value} {i : Nat} {v v' : Value} (h : l[i]? = some v) (hv : slen v' + 1 = slen v) : ((l.set i v').map slen).sum + 1 = (l.map slen).sum := by
  induction l generalizing i with
  | nil => cases h
  | cons x r ih =>
    cases i with
    | zero =>
      simp only [List.getElem?_cons_zero, Option.some.injEq] at h
      subst h
      simp only [List.set_cons_zero, List.map_cons, List.sum_cons]
      omega
    | succ i =>
      simp only [List.getElem?_cons_succ] at h
      have := ih h
      simp only [List.set_cons_succ, List.map_cons, List.sum_cons]
      omega
theorem part_tail {n i : Nat} {x : Bs × Nat} {r : List (Bs × Nat)} (h : idx n x.1 = i) : Sh.part n i (x :: r) = x :: Sh.part n i r := by rw [part_cons, if_pos h]
theorem part_other {n i : Nat} {x : Bs × Nat} {r : List (Bs × Nat)} (h : idx n x.1 ≠ i) : Sh.part n i (x :: r) = Sh.part n i r := by rw [part_cons, if_neg h]
theorem ShAt.kp {A B : World} {M R : Nat} {bs : List Nat} {ent : List (Bs × Nat)} (h : ShAt A M R bs ent) (k : Kp A B) : ShAt B M R bs ent :=
  ⟨k.sits h.head (by decide), k.sits h.row (by decide), fun i b hb => Owns.at (h.maps i b hb) (by
    obtain ⟨es, clock, hb', _⟩ := h.maps i b hb
    rw [hb', k.2 b _ hb' rfl]), h.nodup, h.pos, h.most⟩
theorem elem_at {x : Bs × Nat} {pre r : List (Bs × Nat)} (hu : Up sLt (pre ++ x :: r)) : Im.elemOf pv (.pointer none) x.1 (pre ++ x :: r) = .pointer (some ⟨x.2, 0, none⟩) := by
  unfold Im.elemOf
  have : getE x.1 (pre ++ x :: r) = some x.2 := by
    induction pre with
    | nil => exact getE_cons_eq rfl
    | cons y q ih =>
      have h2 := List.pairwise_cons.1 hu
      rw [List.cons_append, getE_cons_ne, ih h2.2]
      intro e
      have := h2.1 x (by simp)
      rw [e, sLt_irr] at this
      cases this
  rw [this]
  rfl
/-- One key is gone. -/
theorem next_ {wr : World} {Rk n g off cap : Nat} {a : Option Addr} {x : Bs × Nat} {r : List (Bs × Nat)} {cs : Array Value} (h1 : Sits wr Rk 24 cs) (h2 : cs.size = n) (h3 : ∀ i, i < n → ∃ v, cs[i]? = some v ∧ Srow wr v ((Sh.part n i (x :: r)).map (·.1))) (hi : idx n x.1 < n)
    (e1 : cs[idx n x.1]? = some (.slice (some ⟨g, off, none⟩) (((Sh.part n (idx n x.1) r).map (·.1)).length + 1) cap)) (e2 : Srow wr (.slice (some ⟨g, off, none⟩) (((Sh.part n (idx n x.1) r).map (·.1)).length + 1) cap) (x.1 :: (Sh.part n (idx n x.1) r).map (·.1)))
    (ha : ((Sh.part n (idx n x.1) r).map (·.1)) ≠ [] → a = some ⟨g, off + 1, none⟩) :
    Rests (wr.setCell ⟨Rk, idx n x.1, none⟩ (.slice a ((Sh.part n (idx n x.1) r).map (·.1)).length (cap - 1))) Rk n r ∧
    leftOver (wr.setCell ⟨Rk, idx n x.1, none⟩ (.slice a ((Sh.part n (idx n x.1) r).map (·.1)).length (cap - 1))) Rk + 1 = leftOver wr Rk := by
  have hs := h1.set (idx n x.1) (.slice a ((Sh.part n (idx n x.1) r).map (·.1)).length (cap - 1))
  refine ⟨⟨_, hs, by simp [h2], fun j hj => ?_⟩, ?_⟩
  · by_cases e : idx n x.1 = j
    · subst e
      exact ⟨_, by simp [h2, hi], (e2.tail ha).set h1⟩
    · obtain ⟨v, k1, k2⟩ := h3 j hj
      rw [part_other e] at k2
      refine ⟨v, ?_, k2.set h1⟩
      rw [Array.getElem?_setIfInBounds_ne e]
      exact k1
  · rw [leftOver_sits hs, leftOver_sits h1, Array.toList_setIfInBounds]
    exact sum_set (v := .slice (some ⟨g, off, none⟩) (((Sh.part n (idx n x.1) r).map (·.1)).length + 1) cap) (by simpa using e1) rfl
theorem ShAt.setk {w : World} {M R Rk i : Nat} {bs : List Nat} {ent : List (Bs × Nat)} {cs : Array Value} (h : ShAt w M R bs ent) (hR : Sits w Rk 24 cs) (u : Value) : ShAt (w.setCell ⟨Rk, i, none⟩ u) M R bs ent :=
  h.off (F := [Rk]) ((Off.refl _ _).set (by simp) _ _) (fun y hy he => by
    simp only [List.mem_singleton] at he
    subst he
    simp only [shf, List.mem_cons] at hy
    rcases hy with rfl | rfl | hy
    · exact sits_ne h.head hR (by decide) rfl
    · exact sits_ne h.row hR (by decide) rfl
    · obtain ⟨j, hj⟩ := List.getElem?_of_mem hy
      exact map_sits (h.maps j y hj) hR rfl)
theorem Sits.setk {w : World} {X t Rk i : Nat} {vs cs : Array Value} (h : Sits w X t vs) (hR : Sits w Rk 24 cs) (ht : t ≠ 24) (u : Value) : Sits (w.setCell ⟨Rk, i, none⟩ u) X t vs :=
  (Below.heap_setCell _ _ _ _ (sits_ne h hR ht)).trans h
theorem Kp.far {A B : World} (h : Kp A B) {Rk i : Nat} {u : Value} (hR : A.heap.size ≤ Rk) : Kp A (B.setCell ⟨Rk, i, none⟩ u) :=
  ⟨by simpa using h.1, fun k o hk ho => by
    have hlt := (Array.getElem?_eq_some_iff.1 hk).1
    exact (Below.heap_setCell B ⟨Rk, i, none⟩ u k (by simp; omega)).trans (h.2 k o hk ho)⟩
theorem leftOver_kp {A B : World} {R n : Nat} {r : List (Bs × Nat)} (h : Rests A R n r) (k : Kp A B) : leftOver B R = leftOver A R := by
  obtain ⟨cs, h1, _⟩ := h
  rw [leftOver_sits h1, leftOver_sits (k.sits h1 (by decide))]
/-- All that the rest of the round reads. -/
structure Ready (W W3 : World) (m l X M R n i : Nat) (x : Bs × Nat) (pre r : List (Bs × Nat)) (Rk lo : Nat) (J : List (Bs × Nat) → World → Prop) : Prop where
  x3 : W3.cell? ⟨X, 0, none⟩ = some (.pointer (some ⟨M, 0, none⟩))
  m3 : W3.cell? ⟨M, 0, none⟩ = some (.slice (some ⟨R, 0, none⟩) n n)
  l3 : ∃ b, W3.cell? ⟨R, i, none⟩ = some (.map (some b)) ∧ ∀ W4 : World, W4.heap[b]? = W3.heap[b]? → (Instr.lookup 156 (.map (some b)) (.string ⟨x.1.toArray⟩) false).run Tryz.prog W4 = .ok (.pointer (some ⟨x.2, 0, none⟩)) W4
  y3 : YieldAt Fence.wide (m + 4) Tryz.prog l #[.string ⟨x.1.toArray⟩, .pointer (some ⟨x.2, 0, none⟩)] W3 fun e W' => e = .returned (.bool true) ∧ J (pre ++ [x]) W' ∧ Kp W3 W'
  kp : Kp W W3
  rest : Rests W3 Rk n r
  left : leftOver W3 Rk + 1 = lo
set_option maxRecDepth 10000 in
set_option maxHeartbeats 4000000 in
theorem risingIt (m l X M R : Nat) (bs : List Nat) (ent : List (Bs × Nat)) (J : List (Bs × Nat) → World → Prop) (W : World)
    (hX : Sits W X 111 #[.pointer (some ⟨M, 0, none⟩)]) (h : ShAt W M R bs ent) (hu : Up sLt ent) (hl : ent.length ≤ 1000) (hk : ∀ x ∈ ent, x.1.length ≤ 1000)
    (hJ : ∀ s A B, J s A → Below A.heap.size A B → J s B)
    (hJR : ∀ s A Rk i u cs, J s A → W.heap.size ≤ Rk → Sits A Rk 24 cs → J s (A.setCell ⟨Rk, i, none⟩ u))
    (hY : ∀ pre x post W1, J pre W1 → ent = pre ++ x :: post → YieldAt Fence.wide (m + 4) Tryz.prog l #[.string ⟨x.1.toArray⟩, .pointer (some ⟨x.2, 0, none⟩)] W1 fun e W' => e = .returned (.bool true) ∧ J (pre ++ [x]) W' ∧ Kp W1 W')
    (h0 : J [] W) :
    CallsIn Fence.wide (m + 5) Tryz.prog 81 #[.func (.yield l) #[] #[], .pointer (some ⟨X, 0, none⟩)] W fun e W' => (∃ v, e = .returned v) ∧ J ent W' := by
  have hsk := sortedKeys M R bs ent W h hu hl
  have x0 : W.cell? ⟨X, 0, none⟩ = some (.pointer (some ⟨M, 0, none⟩)) := hX.cell 0 _ rfl
  have hm := h.most
  have hp := h.pos
  have HX := hide hX
  have HS := hide h
  have HU := hide hu
  have HJ := hide hJ
  have HJR := hide hJR
  have HY := hide hY
  have H0 := hide h0
  have HK := hide hk
  clear hX h hu hJ hJR hY h0 hk
  refine callsIn_of_wp Tryz.func81 rfl trivial ?_ rfl
  simp only [Tryz.ntmps81, List.size_toArray, List.length_cons, List.length_nil, Nat.reduceAdd, Nat.reduceSub, Array.replicate_succ, Array.replicate_zero, List.push_toArray, List.append_toArray, List.nil_append, List.cons_append]
  gi_wp2_with fail
  refine ⟨trivial, (callsIn_wide.2 hsk).mono ?_⟩
  clear hsk
  rintro e W1 ⟨rfl, hr1, hb1⟩
  have HLH := hide (leastHead _ _ _ W1 hr1 HU.out hp hm hl)
  have HR1 := hide hr1
  have HB1 := hide hb1
  have HJ1 := hide (HJ.out _ _ _ H0.out hb1)
  clear hr1 hb1 x0
  obtain ⟨n, hn⟩ : ∃ n, bs.length = n := ⟨_, rfl⟩
  obtain ⟨Rk, hRk⟩ : ∃ Rk, W.heap.size = Rk := ⟨_, rfl⟩
  rw [hn, hRk] at HLH HR1
  rw [hn, hRk]
  rw [hn] at hp hm
  have HN := hide hn
  have HRK := hide hRk
  obtain ⟨a0, ha0⟩ : ∃ a0, leastOf n ent = a0 := ⟨_, rfl⟩
  rw [ha0] at HLH
  have HA0 := hide ha0
  clear hn hRk ha0
  gi_wp2_with fail
  refine ⟨trivial, (callsIn_wide.2 HLH.out).mono ?_⟩
  rintro e W2 ⟨rfl, hb2⟩
  have HR2 := hide (HR1.out.kp (Kp.of_below hb2))
  have HJ2 := hide (HJ.out _ _ _ HJ1.out hb2)
  have HK2 := hide ((Kp.of_below HB1.out).trans (Kp.of_below hb2))
  clear hb2
  gi_wp2_with fail
  gi_loopw [4] (fun a wr => ∃ pre r, a = .int .i64 (leastOf n r) ∧ Hid (ent = pre ++ r) ∧ Hid (Rests wr Rk n r) ∧ Hid (J pre wr) ∧ Hid (Kp W wr)) (fun _ wr => leftOver wr Rk)
  case atStart => exact ⟨[], ent, by rw [HA0.out], rfl, HR2.out, HJ2.out, HK2.out⟩
  case round =>
    obtain ⟨pre, r, rfl, HE, HR, HJ3, HK3⟩ := hrel
    cases r with
    | nil =>
      simp only [leastOf]
      have HE2 := hide (show ent = pre by rw [HE.out]; simp)
      gi_wp2_with fail
      go_end0
      rw [HE2.out]
      exact ⟨⟨_, rfl⟩, HJ3.out⟩
    | cons x r =>
      simp only [leastOf]
      have hi := idx_lt hp x.1
      obtain ⟨cs, h1, h2, h3⟩ := HR.out
      obtain ⟨v, e1, e2⟩ := h3 _ hi
      have HP := hide (part_tail (n := n) (x := x) (r := r) rfl)
      rw [HP.out] at e2
      simp only [List.map_cons] at e2
      obtain ⟨g, off, cap, rfl, hcap, cg⟩ := e2.head
      have ci := h1.cell _ _ e1
      have fi := h1.frozen (idx n x.1)
      have hnl : ((Sh.part n (idx n x.1) r).map (·.1)).length ≤ 1000 := by
        rw [List.length_map]
        have a1 : (Sh.part n (idx n x.1) r).length ≤ r.length := List.length_filter_le _ _
        have a2 : r.length ≤ ent.length := by
          rw [HE.out]
          simp
          omega
        omega
      have hrd : ∀ a, (((Sh.part n (idx n x.1) r).map (·.1)) ≠ [] → a = some ⟨g, off + 1, none⟩) → Ready W (wr.setCell ⟨Rk, idx n x.1, none⟩ (.slice a ((Sh.part n (idx n x.1) r).map (·.1)).length (cap - 1))) m l X M R n (idx n x.1) x pre r Rk (leftOver wr Rk) J := by
        intro a ha
        obtain ⟨k1, k2⟩ := next_ h1 h2 h3 hi e1 e2 ha
        have k3 := ShAt.setk (i := idx n x.1) (ShAt.kp HS.out HK3.out) h1 (.slice a ((Sh.part n (idx n x.1) r).map (·.1)).length (cap - 1))
        have k4 := Sits.setk (i := idx n x.1) (HK3.out.sits HX.out (by decide)) h1 (by decide) (.slice a ((Sh.part n (idx n x.1) r).map (·.1)).length (cap - 1))
        have k5 := HJR.out pre wr Rk (idx n x.1) (.slice a ((Sh.part n (idx n x.1) r).map (·.1)).length (cap - 1)) cs HJ3.out (by rw [HRK.out]; exact Nat.le_refl _) h1
        have k6 := HY.out pre x r _ k5 HE.out
        obtain ⟨b, hb⟩ : ∃ b, bs[idx n x.1]? = some b := ⟨_, List.getElem?_eq_getElem (by rw [HN.out]; exact hi)⟩
        have hkey : keyOf Tryz.prog 9 (.string ⟨x.1.toArray⟩) = some (sLit x.1) := Go.WideMaps.keyOf_string_mk (s := ⟨x.1.toArray⟩) Tryz.underlying9 (by
          have := HK.out x (by rw [HE.out]; simp)
          unfold maxLen
          show x.1.toArray.size ≤ _
          simp
          omega)
        have hlk := look_run (k3.maps _ b hb) (string_keyed Tryz.underlying9) Tryz.underlying156 zeroP rfl sLit_same hkey
        have he : Im.elemOf pv (.pointer none) x.1 (Sh.part bs.length (idx n x.1) ent) = .pointer (some ⟨x.2, 0, none⟩) := by
          have e3 : Im.elemOf pv (.pointer none) x.1 (Sh.part bs.length (idx n x.1) ent) = Im.elemOf pv (.pointer none) x.1 ent := by
            unfold Im.elemOf
            rw [HN.out, getE_part]
          rw [e3, HE.out]
          exact elem_at (by rw [← HE.out]; exact HU.out)
        rw [he] at hlk
        exact ⟨k4.cell 0 _ rfl, by have := k3.head.cell 0 _ rfl; rw [HN.out] at this; exact this, ⟨b, k3.cell hb, hlk⟩, k6, Kp.far HK3.out (by rw [HRK.out]; exact Nat.le_refl _), k1, k2⟩
      have hin : ((idx n x.1 : Nat) : Int) < (n : Int) := by omega
      have hi0 : ¬ ((idx n x.1 : Nat) : Int) < 0 := by omega
      have hkc : cap = 1 → ((Sh.part n (idx n x.1) r).map (·.1)) = [] := fun h => List.eq_nil_of_length_eq_zero (by omega)
      have HKC := hide hkc
      have HRD := hide hrd
      clear e1 e2 h1 h2 h3 hrd hkc
      generalize hks : (Sh.part n (idx n x.1) r).map (·.1) = ks at *
      generalize hix : idx n x.1 = i at *
      clear hks hix
      have HUR := hide (show Up sLt r from (List.pairwise_cons.1 (List.pairwise_append.1 (show Up sLt (pre ++ x :: r) by rw [← HE.out]; exact HU.out)).2.1).2)
      have hrl : r.length ≤ 1000 := by
        have a2 : r.length ≤ ent.length := by
          rw [HE.out]
          simp
          omega
        omega
      by_cases hc1 : cap = 1
      · subst hc1
        have hks0 := HKC.out rfl
        subst hks0
        obtain ⟨x3, m3, ⟨b, l3, lk⟩, y3, kW, HR3, hleft⟩ := HRD.out (some ⟨g, off, none⟩) (fun h => absurd rfl h)
        simp only [Nat.sub_self, List.length_nil] at x3 m3 l3 lk y3 HR3 hleft kW
        have hlk := lk _ rfl
        obtain ⟨fn, tmps, assign, body, hy, hRd⟩ := y3
        have HRD3 := hide hRd
        have HR4 := hide HR3
        have HLF := hide hleft
        have HKW := hide kW
        clear hRd HR3 hleft lk kW
        gi_wp2_with fail
        refine HRD3.out.mono ?_
        rintro e W5 ⟨rfl, hJ5, hk5⟩
        have HR5 := hide (HR4.out.kp hk5)
        have HLF5 := hide (show leftOver W5 Rk + 1 = leftOver wr Rk by rw [leftOver_kp HR4.out hk5]; exact HLF.out)
        have HKW5 := hide (HKW.out.trans hk5)
        have HJ5 := hide hJ5
        have hlh := leastHead _ _ _ W5 HR5.out HUR.out hp hm hrl
        clear hJ5 hk5 x3 m3 l3 hy hlk ci fi cg
        gi_wp2_with fail
        refine ⟨trivial, (callsIn_wide.2 hlh).mono ?_⟩
        clear hlh
        rintro e W6 ⟨rfl, hb6⟩
        have HR6 := hide (HR5.out.kp (Kp.of_below hb6))
        have HJ6 := hide (HJ.out _ _ _ HJ5.out hb6)
        have HK6 := hide (HKW5.out.trans (Kp.of_below hb6))
        have HL6 := hide (show leftOver W6 Rk + 1 = leftOver wr Rk by rw [leftOver_kp HR5.out (Kp.of_below hb6)]; exact HLF5.out)
        obtain ⟨a6, ha6⟩ : ∃ a6, leastOf n r = a6 := ⟨_, rfl⟩
        rw [ha6]
        have HA6 := hide ha6
        clear hb6 ha6
        gi_wp2_with fail
        go_roundw
        case rel => exact ⟨pre ++ [x], r, congrArg (Value.int IntKind.i64) HA6.out.symm, by simp [HE.out, Hid], HR6.out, HJ6.out, HK6.out⟩
        case measure =>
          have := HL6.out
          omega
      · obtain ⟨x3, m3, ⟨b, l3, lk⟩, y3, kW, HR3, hleft⟩ := HRD.out (some ⟨g, off + 1, none⟩) (fun _ => rfl)
        have hlk := lk _ rfl
        obtain ⟨fn, tmps, assign, body, hy, hRd⟩ := y3
        have HRD3 := hide hRd
        have HR4 := hide HR3
        have HLF := hide hleft
        have HKW := hide kW
        clear hRd HR3 hleft lk kW
        gi_wp2_with fail
        refine HRD3.out.mono ?_
        rintro e W5 ⟨rfl, hJ5, hk5⟩
        have HR5 := hide (HR4.out.kp hk5)
        have HLF5 := hide (show leftOver W5 Rk + 1 = leftOver wr Rk by rw [leftOver_kp HR4.out hk5]; exact HLF.out)
        have HKW5 := hide (HKW.out.trans hk5)
        have HJ5 := hide hJ5
        have hlh := leastHead _ _ _ W5 HR5.out HUR.out hp hm hrl
        clear hJ5 hk5 x3 m3 l3 hy hlk ci fi cg
        gi_wp2_with fail
        refine ⟨trivial, (callsIn_wide.2 hlh).mono ?_⟩
        clear hlh
        rintro e W6 ⟨rfl, hb6⟩
        have HR6 := hide (HR5.out.kp (Kp.of_below hb6))
        have HJ6 := hide (HJ.out _ _ _ HJ5.out hb6)
        have HK6 := hide (HKW5.out.trans (Kp.of_below hb6))
        have HL6 := hide (show leftOver W6 Rk + 1 = leftOver wr Rk by rw [leftOver_kp HR5.out (Kp.of_below hb6)]; exact HLF5.out)
        obtain ⟨a6, ha6⟩ : ∃ a6, leastOf n r = a6 := ⟨_, rfl⟩
        rw [ha6]
        have HA6 := hide ha6
        clear hb6 ha6
        gi_wp2_with fail
        go_roundw
        case rel => exact ⟨pre ++ [x], r, congrArg (Value.int IntKind.i64) HA6.out.symm, by simp [HE.out, Hid], HR6.out, HJ6.out, HK6.out⟩
        case measure =>
          have := HL6.out
          omega
end Go.Proofs.YtmkidefdegaamaaGreatDoor.Kr
namespace Go.Proofs.YtmkidefdegaamaaGreatDoor.Wm
open Im Opts
def Live (w : Win) : Prop := ∀ p ∈ w.ser, ∀ t, p.2 = Ser.tim t → 1 ≤ t.count
theorem live_stake {L : Lim} {m : Smp} {s : Ser} (hr : 1 ≤ m.rate ∧ m.rate ≤ 1000) (h : ∀ t, s = .tim t → 0 ≤ t.count) : ∀ t, (stake L m s).1 = .tim t → 1 ≤ t.count := by
  intro t ht
  cases s with
  | num n => simp [stake] at ht
  | set ws =>
    simp only [stake] at ht
    split at ht
    · cases ht
    · split at ht <;> cases ht
  | tim u =>
    simp only [stake] at ht
    injection ht with ht
    subst ht
    have h1 := h u rfl
    have h2 : 1 ≤ 1000 / m.rate := by
      rw [Int.le_ediv_iff_mul_le (by omega)]
      omega
    simp only [tadd, bnd, top]
    omega
theorem live_take {L : Lim} {m : Smp} {w : Win} (hr : 1 ≤ m.rate ∧ m.rate ≤ 1000) (h : Live w) : Live (wtake L w m) := by
  intro p hp t ht
  unfold wtake at hp
  split at hp
  · rename_i s hs
    rcases mem_put hp with e | ⟨e, _⟩
    · subst e
      refine live_stake hr (fun u hu => ?_) t ht
      have := h _ (getE_mem hs) u hu
      omega
    · exact h p e t ht
  · split at hp
    · exact h p hp t ht
    · rcases mem_put hp with e | ⟨e, _⟩
      · subst e
        refine live_stake hr (fun u hu => ?_) t ht
        unfold ser0 at hu
        split at hu
        · cases hu
        · split at hu
          · injection hu with hu
            subst hu
            exact Int.le_refl _
          · cases hu
      · exact h p e t ht
theorem live_line {L : Lim} {w : Win} (l : Bs) (h : Live w) : Live (wline L w l) := by
  unfold wline
  split
  · exact h
  · split
    · exact h
    · rename_i m hm
      exact live_take (Bounds.rd_short hm).2.2.2.2.1 h
theorem live_lines {L : Lim} (ls : List Bs) {w : Win} (h : Live w) : Live (ls.foldl (wline L) w) := by
  induction ls generalizing w with
  | nil => exact h
  | cons l r ih => exact ih (live_line l h)
theorem live_gram {L : Lim} {w : Win} (d : Bs) (h : Live w) : Live (wgram L w d) := live_lines _ h
theorem live_grams {L : Lim} (ds : List Bs) {w : Win} (h : Live w) : Live (ds.foldl (wgram L) w) := by
  induction ds generalizing w with
  | nil => exact h
  | cons l r ih => exact ih (live_gram l h)
theorem live0 : Live win0 := by
  intro p hp
  simp [win0] at hp
theorem join_len32 (m : Nat) (ls : List Bs) (h : ∀ x ∈ ls, x.length ≤ m) : (Lib.join ls [32]).length ≤ (m + 1) * ls.length := by
  induction ls with
  | nil => simp [Lib.join]
  | cons x l ih =>
    have hx := h x (List.mem_cons_self ..)
    have hi := ih fun y hy => h y (List.mem_cons_of_mem _ hy)
    cases l with
    | nil =>
      simp [Lib.join]
      omega
    | cons y l =>
      have e : Lib.join (x :: y :: l) [32] = x ++ [32] ++ Lib.join (y :: l) [32] := by
        simp [Lib.join, List.intercalate, List.intersperse]
      rw [e, List.length_append, List.length_append]
      simp only [List.length_cons, List.length_nil] at hi ⊢
      rw [Nat.mul_add]
      omega
theorem stext_len {L : Lim} {n : Nat} {k : Bs} {s : Ser} (h : SFit L n k s) (hs : L.sets ≤ 1000) : (stext s).length ≤ 200 := by
  cases s with
  | num x =>
    have h1 : -top ≤ x ∧ x ≤ top := h.ok
    simp only [top] at h1
    have := Hi.itoa_len (n := x) (by omega) (by omega)
    simp only [stext]
    omega
  | set ws =>
    have h1 : ws.length ≤ L.sets := h.ok.2
    have := Hi.itoa_len (n := (ws.length : Int)) (by omega) (by omega)
    simp only [stext]
    omega
  | tim t =>
    have hf : TFit L n t := h.ok
    have hr : ∀ x ∈ tnums t, -9223372036854775808 ≤ x ∧ x ≤ 9223372036854775807 := by
      intro x hx
      have q1 := hf.count
      have q2 := hf.sum
      have q3 := hf.least
      have q4 := hf.greatest
      have q5 := Hi.quant_range hf 50
      have q6 := Hi.quant_range hf 90
      have q7 := Hi.quant_range hf 99
      simp only [top] at q1 q2
      simp only [tnums, List.mem_cons, List.not_mem_nil, or_false] at hx
      rcases hx with rfl | rfl | rfl | rfl | rfl | rfl | rfl | rfl
      · omega
      · omega
      · omega
      · omega
      · omega
      · omega
      · omega
      · split <;> omega
    have := join_len32 20 ((tnums t).map Lib.itoa) (fun x hx => by
      obtain ⟨y, hy, rfl⟩ := List.mem_map.1 hx
      exact Hi.itoa_len (hr y hy).1 (hr y hy).2)
    simp only [stext]
    refine Nat.le_trans this ?_
    simp [tnums]
end Go.Proofs.YtmkidefdegaamaaGreatDoor.Wm
namespace Go.Proofs.YtmkidefdegaamaaGreatDoor.Kr
open Go.RowKit Go.Maps Mem Foot Im Wm Hk Hb Hi Hn Plainw Cq Hs Sh Readw Wi Go.Sort Go.Shelf
def Quiet (o : Obj) : Bool :=
  match o with
  | .cells _ t _ => t != 5 && t != 108
  | _ => true
/-- All but a builder's blocks stay. -/
def Keep (W W' : World) : Prop := W.heap.size ≤ W'.heap.size ∧ ∀ (k : Nat) (o : Obj), W.heap[k]? = some o → Quiet o = true → W'.heap[k]? = some o
theorem quiet_of_calm {o : Obj} (h : Calm o = true) : Quiet o = true := by
  cases o <;> first | rfl | exact h
theorem Keep.kp {A B : World} (h : Keep A B) : Kp A B := ⟨h.1, fun k o hk ho => h.2 k o hk (quiet_of_calm ho)⟩
theorem Keep.of_below {A B : World} (h : Below A.heap.size A B) : Keep A B := ⟨h.size, fun i _ hi _ => (h.block i (Array.getElem?_eq_some_iff.1 hi).1).trans hi⟩
theorem Keep.trans {A B C : World} (h : Keep A B) (k : Keep B C) : Keep A C := ⟨Nat.le_trans h.1 k.1, fun i o hi ho => k.2 i o (h.2 i o hi ho) ho⟩
theorem keep_of_off {B b : Nat} {v : Value} {bs : Bs} {A C : World} (hb : BuAt A B b v bs) (h : Off (bfoot b v) A C) : Keep A C :=
  ⟨h.size, fun k o hk ho => (h.block k (Array.getElem?_eq_some_iff.1 hk).1 (fun hm => by
    rcases List.mem_cons.1 hm with e | e
    · subst e
      rcases hb.head with h1 | h1
      all_goals
        have h1' : A.heap[k]? = _ := h1
        rw [h1'] at hk
        cases hk
        cases ho
    · obtain ⟨cs', h1⟩ := sits_row hb.row e
      have h1' : A.heap[k]? = _ := h1
      rw [h1'] at hk
      cases hk
      cases ho)).trans hk⟩
theorem kp_putObj {W : World} {l : Nat} {o o' : Obj} (h : W.heap[l]? = some o) (ho : Calm o = false) : Kp W (W.putObj l o') :=
  ⟨by simp [World.putObj], fun k o2 hk h2 => by
    by_cases e : k = l
    · subst e
      rw [h] at hk
      cases hk
      rw [ho] at h2
      cases h2
    · exact (World.putObj_heap_other e).trans hk⟩
theorem range_ {g : Operand} {ps : Array Tmp} {assign body : Code} {Q : Exit → Act → World → Prop} {a : Act} {w : World} (m X M R : Nat) (bs : List Nat) (ent : List (Bs × Nat))
    (hg : a.eval g = .func (.func 81) #[] #[.pointer (some ⟨X, 0, none⟩)]) (hps : ps.size = 2)
    (hX : Sits w X 111 #[.pointer (some ⟨M, 0, none⟩)]) (h : ShAt w M R bs ent) (hu : Up sLt ent) (hl : ent.length ≤ 1000) (hk : ∀ x ∈ ent, x.1.length ≤ 1000)
    (I : List (Bs × Nat) → World → Prop) (hI1 : ∀ s A B, I s A → Below A.heap.size A B → I s B) (hI2 : ∀ s A Rk i u cs, I s A → w.heap.size ≤ Rk → Sits A Rk 24 cs → I s (A.setCell ⟨Rk, i, none⟩ u))
    (hI3 : ∀ s A l o o', I s A → w.heap.size ≤ l → A.heap[l]? = some o → o.isCells = false → I s (A.putObj l o')) (h0 : I [] w) (a₁ : Bs × Nat → Act)
    (hassign : ∀ (l : Nat) (x : Bs × Nat) (W : World) (K : Act → World → Prop), K (a₁ x) W →
      assign.wpIn (Fence.wide.inRound l) (m + 4) Tryz.prog (Exit.then K (fun _ _ _ => False)) { tmps := (ps.zip #[.string ⟨x.1.toArray⟩, .pointer (some ⟨x.2, 0, none⟩)]).foldl (fun t (p, v) => t.setIfInBounds p v) a.tmps, defers := [] } W)
    (hbody : ∀ (l : Nat) (pre : List (Bs × Nat)) (x : Bs × Nat) (post : List (Bs × Nat)) (W : World), I pre W → ent = pre ++ x :: post → body.wpIn (Fence.wide.inRound l) (m + 4) Tryz.prog (fun e _ W' => e = .normal ∧ Keep W W' ∧ I (pre ++ [x]) W') (a₁ x) W)
    (hdone : ∀ (D : Nat) (W : World), w.heap.size ≤ D → I ent W → W.heap[D]? = some (.deferred (some [])) → Q .normal { a with defers := { target := .collected D, args := #[] } :: a.defers } W) :
    (Code.rangeFunc g ps assign body).wpIn Fence.wide (m + 6) Tryz.prog Q a w := by
  refine wpIn_rangeFunc ?_
  intro fn hfn
  obtain ⟨rec, hrec⟩ : ∃ rec : LoopState → Option Code → Loop, rec = fun st pe => { state := st, pending := pe, fn, tmps := a.tmps, params := ps, assign, body, defers := w.heap.size } := ⟨_, rfl⟩
  obtain ⟨W1, hW1⟩ : ∃ W1, (w.alloc (.deferred (some []))).alloc (.loop (rec .ready none)) = W1 := ⟨_, rfl⟩
  have hL1 : W1.heap[w.heap.size + 1]? = some (.loop (rec .ready none)) := by
    rw [← hW1]
    have := World.alloc_heap_new (w.alloc (.deferred (some []))) (.loop (rec .ready none))
    rwa [World.size_alloc] at this
  have hK1 : W1.heap[w.heap.size]? = some (.deferred (some [])) := by
    rw [← hW1]
    exact (Below.heap_alloc _ _ _ (by simp)).trans (World.alloc_heap_new w _)
  have hb1 : Below w.heap.size w W1 := by
    rw [← hW1]
    exact ((Below.refl _ w).alloc (Nat.le_refl _) _).alloc (by simp) _
  have hI1' : I [] W1 := hI1 _ _ _ h0 hb1
  have hz1 : W1.heap.size = w.heap.size + 2 := by rw [← hW1]; simp
  refine ⟨w.heap.size + 1, [{ target := .collected w.heap.size, args := #[] }], W1, { target := .fn (.func 81) #[.pointer (some ⟨X, 0, none⟩)], args := #[.func (.yield (w.heap.size + 1)) #[] #[]] }, W1, 81,
    #[.func (.yield (w.heap.size + 1)) #[] #[]] ++ #[.pointer (some ⟨X, 0, none⟩)], W1, ?_, ?_, ?_, ?_, fun _ => by omega, ?_⟩
  · rw [← hW1, hrec]
    exact run_enterLoop_outer _ _ _ _ _
  · simp only [resolve, hg]
    simp [go_sem]
  · intro f' hf'
    trivial
  · simp [invoke, go_sem]
  · refine (risingIt m (w.heap.size + 1) X M R bs ent
      (fun pre W => I pre W ∧ W.heap[w.heap.size + 1]? = some (.loop (rec .ready none)) ∧ W.heap[w.heap.size]? = some (.deferred (some [])))
      W1 (hX.below hb1 hX.lt) (h.keep hb1) hu hl hk ?_ ?_ ?_ ⟨hI1', hL1, hK1⟩).mono ?_
    · rintro s A B ⟨i1, i2, i3⟩ hb
      exact ⟨hI1 _ _ _ i1 hb, (hb.block _ (Array.getElem?_eq_some_iff.1 i2).1).trans i2, (hb.block _ (Array.getElem?_eq_some_iff.1 i3).1).trans i3⟩
    · rintro s A Rk i u cs ⟨i1, i2, i3⟩ hR hs
      refine ⟨hI2 _ _ _ _ _ _ i1 (by omega) hs, ?_, ?_⟩
      · exact (Below.heap_setCell A ⟨Rk, i, none⟩ u _ (by simp; omega)).trans i2
      · exact (Below.heap_setCell A ⟨Rk, i, none⟩ u _ (by simp; omega)).trans i3
    · rintro pre x post W ⟨hi, hl, hk⟩ he
      have hlt : w.heap.size + 1 < W.heap.size := (Array.getElem?_eq_some_iff.1 hl).1
      have hy := run_yield (P := Tryz.prog) (args := #[.string ⟨x.1.toArray⟩, .pointer (some ⟨x.2, 0, none⟩)]) hl (by rw [hrec]; simp [hps])
      rw [hrec] at hy
      refine ⟨fn, _, assign, body, hy, roundIn_of_wpIn hfn (hassign _ x W _ ⟨_, run_beginRound hl (by rw [hrec]), ?_⟩)⟩
      have hl2 : (W.putObj (w.heap.size + 1) (.loop { rec .ready none with state := .busy })).heap[w.heap.size + 1]? = some (.loop { rec .ready none with state := .busy }) := World.putObj_heap_same hlt
      have hk2 : (W.putObj (w.heap.size + 1) (.loop { rec .ready none with state := .busy })).heap[w.heap.size]? = some (.deferred (some [])) := (World.putObj_heap_other (by omega)).trans hk
      have hp2 : Kp W (W.putObj (w.heap.size + 1) (.loop { rec .ready none with state := .busy })) := kp_putObj hl rfl
      refine wpIn_mono (hbody _ pre x post _ (hI3 _ _ _ _ _ hi (by omega) hl rfl) he) ?_
      rintro e a3 W3 ⟨rfl, hk3, hi3⟩
      have hl3 := hk3.2 _ _ hl2 rfl
      have hr := run_endRound (P := Tryz.prog) none hl3
      rw [hrec] at hr
      refine ⟨_, _, hr, rfl, ⟨hI3 _ _ _ _ _ hi3 (by omega) hl3 rfl, ?_, (World.putObj_heap_other (by omega)).trans (hk3.2 _ _ hk2 rfl)⟩, (hp2.trans hk3.kp).trans (kp_putObj hl3 rfl)⟩
      rw [World.putObj_heap_same (Array.getElem?_eq_some_iff.1 hl3).1, hrec]
      rfl
    · rintro e W2 ⟨⟨v, rfl⟩, hi, hl, hk⟩
      exact ⟨none, _, by have := run_endLoop (P := Tryz.prog) hl (by rw [hrec]; simp); rw [hrec] at this; exact this, hdone _ _ (Nat.le_refl _) (hI3 _ _ _ _ _ hi (by omega) hl rfl) ((World.putObj_heap_other (by omega)).trans hk)⟩
end Go.Proofs.YtmkidefdegaamaaGreatDoor.Kr
namespace Go.Proofs.YtmkidefdegaamaaGreatDoor.Kr
open Go.RowKit Go.Maps Mem Foot Im Wm Hk Hb Hi Hn Plainw Cq Hs Sh Readw Wi Go.Sort Go.Shelf
theorem off_freeze {F : List Nat} {w w' : World} (h : Off F w w') {p : Addr} (hp : p.block ∈ F) (n : Nat) : Off F w (w'.freeze p n) := by
  have hs : (w'.freeze p n).heap.size = w'.heap.size := by
    unfold World.freeze
    split <;> simp
  refine ⟨?_, ?_, ?_, by rw [hs]; exact h.size, fun k hk hF => ?_⟩
  · rw [← h.os]
    unfold World.freeze
    split <;> rfl
  · rw [← h.tape]
    unfold World.freeze
    split <;> rfl
  · rw [← h.output]
    unfold World.freeze
    split <;> rfl
  · rw [← h.block k hk hF]
    have hne : k ≠ p.block := fun e => hF (e ▸ hp)
    unfold World.freeze
    split
    · rfl
    · simp only [Array.getElem?_modify]
      rw [if_neg (by omega)]
set_option maxHeartbeats 1000000 in
set_option maxRecDepth 100000 in
theorem stringOff (B b : Nat) (v : Value) (l : Bs) (w : World) (h : BuAt w B b v l) (h0 : l ≠ []) :
    Calls Tryz.prog 49 #[.pointer (some ⟨b, 0, none⟩)] w fun e w' => e = .returned (.string ⟨l.toArray⟩) ∧ Off (bfoot b v) w w' := by
  have hl0 : l.length ≠ 0 := by simpa using h0
  obtain ⟨g, cap, cur, rfl, hbg, hg, hnc, hcm, hcs, htake⟩ : ∃ g cap cur, v = .slice (some ⟨g, 0, none⟩) l.length cap ∧ B ≤ g ∧ w.heap[g]? = some (.cells cur 5 (0, 0)) ∧ l.length ≤ cap ∧ cap ≤ maxLen ∧ cur.size = cap * 1 ∧ cur.toList.take (l.length * 1) = Lib.byteCells l := by
    rcases h.row.2 with ⟨_, hz⟩ | ⟨g, cap, cur, hv, r⟩
    · exact absurd hz hl0
    · exact ⟨g, cap, cur, hv, r⟩
  have c1 : w.drew.cell? ⟨b, 1, none⟩ = some (.slice (some ⟨g, 0, none⟩) l.length cap) := by
    rcases h.head with h1 | h1 <;> exact (show Sits w.drew b _ _ from h1).cell 1 _ rfl
  have hown := h.row
  have hSD : (Builtin.unsafeSliceData_ #[106] 165 #[.slice (some ⟨g, 0, none⟩) l.length cap]).run Tryz.prog w.drew = .ok (.pointer (some ⟨g, 0, none⟩)) w.drew :=
    Lib.run_unsafeSliceData_row _ _ _ _ _ _ (by omega)
  have hUS : (Builtin.unsafeString_ #[165, 3] 9 #[.pointer (some ⟨g, 0, none⟩), .int .i64 l.length]).run Tryz.prog w.drew = .ok (.string ⟨l.toArray⟩) (w.drew.freeze ⟨g, 0, none⟩ l.length) := by
    refine Lib.run_unsafeString_row w.drew 165 3 9 5 Tryz.underlying165 Tryz.Builder_Extra_169.cellsByte g cur.size (by have hg' : w.drew.heap[g]? = some (.cells cur 5 (0, 0)) := hg; simp [World.shape?, hg']) l h0 (by omega) (by unfold maxLen at hcm; omega) ?_
    intro j x hx
    have := hown.cells (g := g) rfl j (.int .u8 x.toNat) (by simp [Lib.byteCells, hx])
    exact this
  have HG := hide (show g ∈ bfoot b (.slice (some ⟨g, 0, none⟩) l.length cap) by simp [bfoot, Value.ownBlock])
  clear htake hg hown h
  go_enter Tryz.func49, Tryz.ntmps49
  go_wp2_with fail
  go_region
  all_goals
    go_wp2_with fail
    go_ret
    exact ⟨rfl, off_freeze ((Off.refl _ _).drewN 1) HG.out _⟩
end Go.Proofs.YtmkidefdegaamaaGreatDoor.Kr
namespace Go.Proofs.YtmkidefdegaamaaGreatDoor.Kr
open Go.RowKit Go.Maps Mem Foot Im Wm Hk Hb Hi Hn Plainw Cq Hs Sh Readw Wi Go.Sort Go.Shelf
attribute [local go_sem] Oper.semAt_some
theorem risingF (M : Nat) (w : World) : Calls Tryz.prog 47 #[.pointer (some ⟨M, 0, none⟩)] w fun e w' => e = .returned (.func (.func 81) #[] #[.pointer (some ⟨w.heap.size, 0, none⟩)]) ∧ w' = w.alloc (.cells #[.pointer (some ⟨M, 0, none⟩)] 111) := by
  go_enter Tryz.func47, Tryz.ntmps47
  go_wp2_with fail
  go_ret
  exact ⟨rfl, rfl⟩
theorem stexts_snoc (l : List (Bs × Ser)) (p : Bs × Ser) : stexts (l ++ [p]) = stexts l ++ (p.1 ++ [61] ++ stext p.2 ++ [10]) := by
  induction l with
  | nil => simp [stexts]
  | cons x r ih => simp [stexts, ih]
theorem stexts_le {l : List (Bs × Ser)} (h : ∀ p ∈ l, p.1.length + (stext p.2).length ≤ 300) : (stexts l).length ≤ 400 * l.length := by
  induction l with
  | nil => simp [stexts]
  | cons x r ih =>
    have h1 := h x (List.mem_cons_self ..)
    have h2 := ih fun p hp => h p (List.mem_cons_of_mem _ hp)
    simp only [stexts, List.length_append, List.length_cons, List.length_nil]
    omega
theorem buf_base {w : World} {B b : Nat} {v : Value} {bs : Bs} (h : BuAt w B b v bs) : ∀ k ∈ bfoot b v, B ≤ k := by
  intro k hk
  rcases List.mem_cons.1 hk with e | e
  · subst e
    exact h.base
  · rcases h.row.2 with ⟨e1, _⟩ | ⟨g, cap, cur, rfl, hb, _⟩
    · subst e1
      simp [Value.ownBlock] at e
    · simp [Value.ownBlock] at e
      subst e
      exact hb
theorem below_off {B : Nat} {w A C : World} {F : List Nat} (h : Below B w A) (ho : Off F A C) (hF : ∀ k ∈ F, B ≤ k) (hB : B ≤ A.heap.size) : Below B w C :=
  h.trans ⟨ho.os, ho.tape, ho.output, ho.size, fun k hk => ho.block k (by omega) (fun hm => by have := hF k hm; omega)⟩
theorem off_putObj {W : World} {l : Nat} {o' : Obj} : Off [l] W (W.putObj l o') :=
  ⟨rfl, rfl, rfl, by simp [World.putObj], fun k _ hk => World.putObj_heap_other (by simpa using hk)⟩
theorem bu_noObj {w : World} {B b k : Nat} {v : Value} {bs : Bs} {o : Obj} (h : BuAt w B b v bs) (hk : w.heap[k]? = some o) (ho : o.isCells = false) : k ∉ bfoot b v := by
  intro hm
  have : ∀ t cs, ¬ Sits w k t cs := fun t cs hs => by
    unfold Sits at hs
    rw [hk] at hs
    cases hs
    cases ho
  rcases List.mem_cons.1 hm with e | e
  · subst e
    rcases h.head with h1 | h1 <;> exact this _ _ h1
  · obtain ⟨cs', h1⟩ := sits_row h.row e
    exact this _ _ h1
theorem bu_off {w w' : World} {B b : Nat} {v : Value} {bs : Bs} {F : List Nat} (h : BuAt w B b v bs) (ho : Off F w w') (hF : ∀ k ∈ bfoot b v, k ∉ F) : BuAt w' B b v bs :=
  h.off ho (hF b (List.mem_cons_self ..)) (fun k hk => hF k (List.mem_cons_of_mem _ hk))
theorem bu_new (w : World) : BuAt (w.alloc (.cells #[.pointer none, .slice none 0 0] 108)) w.heap.size w.heap.size (.slice none 0 0) [] :=
  ⟨Or.inl (Sits.new _ _ _), World.ownsRow_nil _ _ _ _, Nat.le_refl _⟩
/-- Between two rounds. -/
def Inv (w : World) (b : Nat) (hd : Bs) (E : List Ent) (pre : List (Bs × Nat)) (W : World) : Prop :=
  (∃ v E1 E2, E = E1 ++ E2 ∧ pre = ptrOf E1 ∧ BuAt W b b v (hd ++ stexts (serOf E1))) ∧ Below b w W
theorem Inv.keep {w A B : World} {b : Nat} {hd : Bs} {E : List Ent} {pre : List (Bs × Nat)} (h : Inv w b hd E pre A) (hb : Below A.heap.size A B) (hz : b ≤ A.heap.size) : Inv w b hd E pre B := by
  obtain ⟨⟨v, E1, E2, e1, e2, h3⟩, h4⟩ := h
  exact ⟨⟨v, E1, E2, e1, e2, h3.keep hb⟩, h4.trans (hb.mono hz)⟩
theorem Inv.size {w A : World} {b : Nat} {hd : Bs} {E : List Ent} {pre : List (Bs × Nat)} (h : Inv w b hd E pre A) : b < A.heap.size := by
  obtain ⟨⟨v, E1, E2, e1, e2, h3⟩, h4⟩ := h
  rcases h3.head with h | h <;> exact h.lt
theorem Inv.off1 {w A B : World} {b k : Nat} {hd : Bs} {E : List Ent} {pre : List (Bs × Nat)} (h : Inv w b hd E pre A) (ho : Off [k] A B) (hk : b ≤ k) (hn : ∀ v bs, BuAt A b b v bs → k ∉ bfoot b v) : Inv w b hd E pre B := by
  have hz := h.size
  obtain ⟨⟨v, E1, E2, e1, e2, h3⟩, h4⟩ := h
  refine ⟨⟨v, E1, E2, e1, e2, bu_off h3 ho (fun j hj he => ?_)⟩, below_off h4 ho (by simpa using hk) (by omega)⟩
  simp only [List.mem_singleton] at he
  subst he
  exact hn v _ h3 hj
theorem ptr_append (a b : List Ent) : ptrOf (a ++ b) = ptrOf a ++ ptrOf b := by simp [ptrOf]
theorem ser_append (a b : List Ent) : serOf (a ++ b) = serOf a ++ serOf b := by simp [serOf]
/-- The next entry. -/
theorem next_ent {E E1 E2 : List Ent} {x : Bs × Nat} {pre post : List (Bs × Nat)} (h : E = E1 ++ E2) (hp : pre = ptrOf E1) (he : ptrOf E = pre ++ x :: post) : ∃ e E3, E2 = e :: E3 ∧ x = (e.1, e.2.1.X) := by
  subst h
  subst hp
  rw [ptr_append, List.append_cancel_left_eq] at he
  cases E2 with
  | nil => simp [ptrOf] at he
  | cons e E3 =>
    simp only [ptrOf, List.map_cons, List.cons.injEq] at he
    exact ⟨e, E3, rfl, he.1.symm⟩
set_option maxRecDepth 10000 in
set_option maxHeartbeats 4000000 in
theorem textW (num : Int) (p : WI) (L : Lim) (n rj dr : Nat) (E : List Ent) (w : World) (h : WiAt w p L rj dr E) (hf : WFit L n (winOf rj dr E)) (hL : LOk L) (hlv : Live (winOf rj dr E)) (ht : Tab w) (hn : n ≤ 1000000000000000) (hn0 : -9223372036854775808 ≤ num) (hn1 : num ≤ 9223372036854775807) :
    Calls Tryz.prog 25 #[.pointer (some ⟨p.P, 0, none⟩), .int .i64 num] w fun e w' => (∃ z, e = .returned (.string z) ∧ Bytes.B z = wtext num (winOf rj dr E)) ∧ Below w.heap.size w w' := by
  refine (callsIn_wide (n := 12)).1 ?_
  have HW := hide h
  have HF := hide hf
  have HLV := hide hlv
  have HT := hide ht
  have hrd : rj + dr ≤ n := hf.cnt
  have HB0 := hide (below_new (w := w) (.cells #[.pointer none, .slice none 0 0] 108))
  have HBU := hide (bu_new w)
  clear h hf hlv ht
  refine callsIn_of_wp_marks Tryz.func25 rfl trivial ?_ rfl
  simp only [Tryz.ntmps25, List.size_toArray, List.length_cons, List.length_nil, Nat.reduceAdd, Nat.reduceSub, Array.replicate_succ, Array.replicate_zero, List.push_toArray, List.append_toArray, List.nil_append, List.cons_append]
  gi_wp2_with fail
  obtain ⟨b, hb⟩ : ∃ b, w.heap.size = b := ⟨_, rfl⟩
  have HBE := hide hb
  rw [hb] at HBU
  rw [hb]
  clear hb
  generalize w.alloc (.cells #[.pointer none, .slice none 0 0] 108) = w1 at *
  have HW1 := hide (HW.out.keep HB0.out)
  have C7 : ∀ s : Bw w1, s.val.cell? ⟨p.P, 7, none⟩ = some (.int .i64 (rj : Int)) := fun s => (HW1.out.keep s.is).head.cell 7 _ rfl
  have C8 : ∀ s : Bw w1, s.val.cell? ⟨p.P, 8, none⟩ = some (.int .i64 (dr : Int)) := fun s => (HW1.out.keep s.is).head.cell 8 _ rfl
  have hit : ∀ (x : Int) (h0 : -9223372036854775808 ≤ x) (h1 : x ≤ 9223372036854775807), ∃ z : ByteArray, Bytes.B z = Lib.itoa x ∧ z.size ≤ 20 ∧ ∀ s : Bw w1, Calls Tryz.prog 46 #[.int .i64 x] s.val fun e w' => e = .returned (.string z) ∧ Below s.val.heap.size s.val w' := fun x h0 h1 => ⟨⟨(Lib.itoa x).toArray⟩, rfl, by rw [Bytes.size_B]; exact itoa_len h0 h1, fun s => (itoaG x h0 h1 s.val ((HT.out.below HB0.out).below s.is)).mono fun e w' ⟨⟨z, h1, h2, _⟩, h3⟩ => ⟨by
    have : z = ⟨(Lib.itoa x).toArray⟩ := Bytes.B_inj (by rw [h2]; rfl)
    rw [h1, this], h3⟩⟩
  obtain ⟨z0, hz0, L0, hA0⟩ := hit num hn0 hn1
  obtain ⟨z1, hz1, L1, hA1⟩ := hit (rj : Int) (by omega) (by omega)
  obtain ⟨z2, hz2, L2, hA2⟩ := hit (dr : Int) (by omega) (by omega)
  have HA0 := hide fun s => call_cls (hA0 s)
  have HA1 := hide fun s => call_cls (hA1 s)
  have HA2 := hide fun s => call_cls (hA2 s)
  have HZ := hide (And.intro hz0 (And.intro hz1 hz2))
  clear hit hA0 hA1 hA2 hz0 hz1 hz2
  gi_wp2_with fail
  rename_i hK
  have HKK := hide hK
  clear hK
  refine wpIn_wide.2 (region_pre 18 (by kernel_rfl) (by kernel_rfl) ?_)
  simp only [List.take_succ_cons, List.take_zero, List.drop_succ_cons, List.drop_zero]
  repeat (first
    | go_big_quiet_skip
    | (go_big_quiet_want; go_big_quiet_op; first | go_big_quiet_on | (apply Exists.intro; refine ⟨fun _ => ?_, ?_⟩; (first | exact HA0.out _ | exact HA1.out _ | exact HA2.out _); go_big_quiet_on)))
  refine wpQuiet_nil ?_
  intro s
  generalize hhs : ((((((⟨#[119, 105, 110, 100, 111, 119, 32]⟩ : ByteArray) ++ z0) ++ ⟨#[32, 114, 101, 106, 101, 99, 116, 115, 32]⟩) ++ z1) ++ ⟨#[32, 100, 114, 111, 112, 115, 32]⟩) ++ z2) ++ ⟨#[10]⟩ = hs
  have hB : Bytes.B hs = whead num rj dr := by
    obtain ⟨h1, h2, h3⟩ := HZ.out
    rw [← hhs, str_add, str_add, str_add, str_add, str_add, str_add, h1, h2, h3]
    rfl
  have hsz : hs.size ≤ 1000 := by
    obtain ⟨h1, h2, h3⟩ := HZ.out
    have e1 := Bytes.size_B z0
    have e2 := Bytes.size_B z1
    have e3 := Bytes.size_B z2
    rw [h1] at e1
    rw [h2] at e2
    rw [h3] at e3
    rw [Bytes.size_B, hB]
    simp only [whead, List.length_append, List.length_cons, List.length_nil]
    omega
  have hwr := writeString b b (.slice none 0 0) [] hs s.val (HBU.out.keep s.is) (by simp; omega)
  have HBs := hide (show Below b w s.val by rw [← HBE.out]; exact HB0.out.trans (s.is.mono HB0.out.size))
  have HBUs := hide (HBU.out.keep s.is)
  have HHB := hide hB
  clear hhs hB C7 C8
  go_wp2_with fail
  refine hwr.mono ?_
  clear hwr
  rintro e w2 ⟨rfl, ho, v', hbu⟩
  rw [HHB.out, List.nil_append] at hbu
  have HB2 := hide (show Below b w w2 from below_off HBs.out ho (buf_base HBUs.out) (by
    have := HBUs.out.head
    rcases this with h | h <;> exact Nat.le_of_lt h.lt))
  have HBU2 := hide hbu
  clear ho hbu
  have HW2 := hide (HW.out.keep (by rw [HBE.out]; exact HB2.out))
  have c6 : w2.cell? ⟨p.P, 6, none⟩ = some (.pointer (some ⟨p.M, 0, none⟩)) := HW2.out.head.cell 6 _ rfl
  go_wp2_with fail
  refine HKK.out _ _ ?_
  gi_wp2_with fail
  refine ⟨trivial, (callsIn_wide.2 (risingF p.M w2)).mono ?_⟩
  rintro e w3 ⟨rfl, rfl⟩
  have HX := hide (Sits.new w2 111 #[.pointer (some ⟨p.M, 0, none⟩)])
  have HB3 := hide (below_new (w := w2) (.cells #[.pointer (some ⟨p.M, 0, none⟩)] 111))
  have hbl : b < w2.heap.size := by
    rcases HBU2.out.head with h | h <;> exact h.lt
  have HI3 := hide (show Inv w b (whead num rj dr) E [] (w2.alloc (.cells #[.pointer (some ⟨p.M, 0, none⟩)] 111)) from
    Inv.keep ⟨⟨v', [], E, rfl, rfl, by simpa [serOf, stexts] using HBU2.out⟩, HB2.out⟩ HB3.out (Nat.le_of_lt hbl))
  have HSH := hide (HW2.out.sh.keep HB3.out)
  have hle : E.length ≤ 32 := by
    have h1 := HF.out.len
    have h2 := hL.s
    have h3 := ser_length E
    have h4 : (winOf rj dr E).ser = serOf E := rfl
    rw [h4] at h1
    omega
  obtain ⟨X, hX⟩ : ∃ X, w2.heap.size = X := ⟨_, rfl⟩
  rw [hX] at HX hbl
  rw [hX]
  have HXE := hide hX
  have hzz : (w2.alloc (.cells #[.pointer (some ⟨p.M, 0, none⟩)] 111)).heap.size = X + 1 := by simp [hX]
  clear hX c6
  generalize w2.alloc (.cells #[.pointer (some ⟨p.M, 0, none⟩)] 111) = w3 at *
  gi_wp2_with fail
  have hent : (ptrOf E).length ≤ 1000 := by rw [ptr_length]; omega
  have HKL := hide (show ∀ x ∈ ptrOf E, x.1.length ≤ 1000 from fun x hx => by
    simp only [ptrOf, List.mem_map] at hx
    obtain ⟨y, hy, rfl⟩ := hx
    have := (HF.out.ser (y.1, y.2.2) (List.mem_map.2 ⟨y, hy, rfl⟩)).klen
    simp only at this ⊢
    omega)
  apply range_ 6 X p.M p.R p.bs (ptrOf E) rfl rfl HX.out HSH.out (up_ptr.2 (up_ser.1 HF.out.up)) hent HKL.out (Inv w b (whead num rj dr) E)
    (fun s A B hi hb => Inv.keep hi hb (Nat.le_of_lt hi.size))
    (fun s A Rk i u cs hi hR hs => Inv.off1 hi ((Off.refl _ _).set (F := [Rk]) (by simp) _ _) (by omega) (fun v bs hbu => hbu.noT _ (by decide) (by decide) _ _ hs))
    (fun s A l o o' hi hl hlo ho => Inv.off1 hi off_putObj (by omega) (fun v bs hbu => bu_noObj hbu hlo ho)) HI3.out
  case hassign =>
    intro l x W K hK
    gi_wp2_with fail
    exact hK
  case hbody =>
    intro l pre x post W hi he
    obtain ⟨⟨v, E1, E2, e1, e2, hbu⟩, hbl2⟩ := hi
    obtain ⟨en, E3, rfl, rfl⟩ := next_ent e1 e2 he
    have HWn := hide (HW.out.keep (by rw [HBE.out]; exact hbl2))
    have hmem : en ∈ E := by rw [e1]; simp
    have hms : (en.1, en.2.2) ∈ (winOf rj dr E).ser := List.mem_map.2 ⟨en, hmem, rfl⟩
    have hfit := HF.out.ser _ hms
    have hsx := seText L n en.1 en.2.1 en.2.2 W (HWn.out.ser en hmem) hfit (HT.out.below (by rw [HBE.out]; exact hbl2)) hn hL.b1 (by have := hL.t; omega) (fun t ht => HLV.out _ hms t ht)
    have htl := stext_len hfit (by have := hL.t; omega)
    have hkl := hfit.klen
    have hz : (hs.size : Int) = hs.size := rfl
    have hlen : (whead num rj dr ++ stexts (serOf E1)).length ≤ 1000 + 400 * 32 := by
      have h1 : (stexts (serOf E1)).length ≤ 400 * (serOf E1).length := stexts_le fun q hq => by
        have hq' : q ∈ (winOf rj dr E).ser := by
          show q ∈ serOf E
          rw [e1, ser_append]
          exact List.mem_append_left _ hq
        have hq1 := HF.out.ser _ hq'
        have hq2 := stext_len hq1 (by have := hL.t; omega)
        have hq3 := hq1.klen
        omega
      have h2 : (serOf E1).length ≤ 32 := by
        rw [ser_length]
        have : E1.length ≤ E.length := by rw [e1]; simp
        omega
      have h3 := Bytes.size_B hs
      rw [HHB.out] at h3
      rw [List.length_append]
      omega
    have HE1 := hide e1
    have HE2 := hide e2
    have HBW := hide hbu
    have HBL := hide hbl2
    have kz : (⟨en.1.toArray⟩ : ByteArray).size ≤ 64 := by
      rw [Bytes.size_B]
      exact hkl
    have HKK2 := hide (show Bytes.B ⟨en.1.toArray⟩ = en.1 from rfl)
    clear e1 e2 hbu hbl2 hms hfit hkl he hz
    generalize hkb : (⟨en.1.toArray⟩ : ByteArray) = kb at *
    have HKB := hide hkb
    clear hkb
    gi_wp2_with fail
    refine ⟨trivial, (CallsIn.inRound l (callsIn_wide.2 hsx)).mono ?_⟩
    clear hsx
    rintro e W2 ⟨⟨z, rfl, hz⟩, hb2⟩
    have hzl : z.size ≤ 200 := by rw [Bytes.size_B, hz]; exact htl
    have HZZ := hide hz
    have HBb := hide hb2
    have HBW2 := hide (HBW.out.keep hb2)
    clear hz hb2
    gi_wp2_with fail
    generalize hss : ((kb ++ ⟨#[61]⟩) ++ z) ++ ⟨#[10]⟩ = ss
    have hBs : Bytes.B ss = en.1 ++ [61] ++ stext en.2.2 ++ [10] := by
      rw [← hss, str_add, str_add, str_add, HZZ.out, HKK2.out]
      rfl
    have hssz : ss.size ≤ 1000 := by
      have h1 := Bytes.size_B z
      have h2 := Bytes.size_B kb
      rw [HZZ.out] at h1
      rw [HKK2.out] at h2
      rw [Bytes.size_B, hBs]
      simp only [List.length_append, List.length_cons, List.length_nil]
      omega
    have hwr := writeString b b v _ ss W2 HBW2.out (by omega)
    refine ⟨trivial, (CallsIn.inRound l (callsIn_wide.2 hwr)).mono ?_⟩
    clear hwr
    rintro e W3 ⟨rfl, ho, v3, hbu3⟩
    have HO := hide ho
    have HBU3 := hide hbu3
    have HBS := hide hBs
    clear ho hbu3 hBs hss
    gi_wp2_with fail
    refine ⟨(Keep.of_below HBb.out).trans (keep_of_off HBW2.out HO.out), ⟨⟨v3, E1 ++ [en], E3, ?_, ?_, ?_⟩, ?_⟩⟩
    · rw [HE1.out]
      simp
    · rw [HE2.out, ptr_append]
      rfl
    · have h5 := HBU3.out
      rw [HBS.out] at h5
      rw [ser_append]
      show BuAt W3 b b v3 (whead num rj dr ++ stexts (serOf E1 ++ [(en.1, en.2.2)]))
      rw [stexts_snoc, ← List.append_assoc]
      exact h5
    · have hz2 : b < W.heap.size := by
        rcases HBW.out.head with h | h <;> exact h.lt
      have hz3 := HBb.out.size
      exact below_off (HBL.out.trans (HBb.out.mono (Nat.le_of_lt hz2))) HO.out (buf_base HBW2.out) (by omega)
  case hdone =>
    intro D W hD hi hK
    obtain ⟨⟨v, E1, E2, e1, e2, hbu⟩, hbl2⟩ := hi
    have hE : E1 = E := by
      have h1 : (ptrOf E).length = (ptrOf E1).length := by rw [e2]
      rw [ptr_length, ptr_length, e1, List.length_append] at h1
      have : E2 = [] := List.eq_nil_of_length_eq_zero (by omega)
      rw [e1, this, List.append_nil]
    subst hE
    have hst := stringOff b b v _ W hbu (by
      have h1 := whead_len num rj dr
      intro h2
      rw [List.append_eq_nil_iff] at h2
      rw [h2.1] at h1
      simp at h1)
    have HKD := hide hK
    have HBL := hide hbl2
    have HBU5 := hide hbu
    have hz5 : b < W.heap.size := by
      rcases hbu.head with h | h <;> exact h.lt
    clear hK hbl2 hbu e1 e2
    gi_wp2_with fail
    refine ⟨trivial, (callsIn_wide.2 hst).mono ?_⟩
    clear hst
    rintro e W6 ⟨rfl, ho6⟩
    have HK6 := hide (show W6.heap[D]? = some (.deferred (some [])) from (ho6.block D (Array.getElem?_eq_some_iff.1 HKD.out).1 (bu_noObj HBU5.out HKD.out rfl)).trans HKD.out)
    have HB6 := hide (below_off HBL.out ho6 (buf_base HBU5.out) (Nat.le_of_lt hz5))
    clear ho6
    generalize hrs : (⟨(whead num rj dr ++ stexts (serOf E1)).toArray⟩ : ByteArray) = rs
    have hBr : Bytes.B rs = wtext num (winOf rj dr E1) := by
      rw [← hrs]
      rfl
    have HBR := hide hBr
    clear hrs hBr
    gi_wp2_with fail
    refine ⟨by simp, .inl ⟨_, _, rfl, run_takeDeferred HK6.out, ?_⟩⟩
    refine ⟨_, results_tmp rfl _ _ _, ⟨rs, rfl, HBR.out⟩, ?_⟩
    rw [HBE.out]
    exact HB6.out.trans (belowK_b (w := w) (by rw [HBE.out]; exact Nat.le_refl _) W6 D _ _ (by rw [HBE.out]; omega) HK6.out rfl rfl)
end Go.Proofs.YtmkidefdegaamaaGreatDoor.Kr
namespace Go.Proofs.YtmkidefdegaamaaGreatDoor.Kr
open Go.RowKit Go.Maps Mem Foot Im Wm Hk Hb Hi Hn Plainw Cq Hs Sh Readw Wi Go.Sort Go.Shelf
/-- How many lines the datagrams have. -/
def nls : List Bs → Nat
  | [] => 0
  | d :: r => (Lib.countByte d 10 + 1) + nls r
theorem nls_append (a b : List Bs) : nls (a ++ b) = nls a + nls b := by
  induction a with
  | nil => simp [nls]
  | cons d r ih => simp only [List.cons_append, nls, ih]; omega
theorem nls_take (k : Nat) (l : List Bs) : nls (l.take k) ≤ nls l := by
  have h := nls_append (l.take k) (l.drop k)
  rw [List.take_append_drop] at h
  omega
theorem lines_count (d : Bs) : (lines d).length = Lib.countByte d 10 + 1 := by
  induction d with
  | nil => rfl
  | cons c r ih =>
    rw [lines]
    by_cases h : c = 10
    · rw [if_pos h, List.length_cons, ih]
      subst h
      simp [Lib.countByte]
    · rw [if_neg h]
      have e : Lib.countByte (c :: r) 10 = Lib.countByte r 10 := by simp [Lib.countByte, h]
      rw [e, ← ih]
      cases hl : lines r with
      | nil => exact absurd hl (lines_ne r)
      | cons x y => rfl
theorem wfit_grams {L : Lim} (hL : 2 ≤ L.buckets) (ds : List Bs) : ∀ {n : Nat} {w : Win}, WFit L n w → WFit L (n + nls ds) (ds.foldl (wgram L) w) := by
  induction ds with
  | nil => intro n w h; exact h
  | cons d r ih =>
    intro n w h
    have h1 := fold_fit hL (lines d) n w h
    rw [lines_count] at h1
    have h2 := ih h1
    simp only [nls]
    rw [← Nat.add_assoc]
    exact h2
theorem Grew.more {w w1 w2 : World} {p : WI} {L : Lim} {rj dr : Nat} {E E1 : List Ent} {W : Win} (_ : WiAt w1 p L rj dr E1) (ho : Off (wfoot p E) w w1) (hx : ∀ x, x ∈ wfoot p E1 → x ∈ wfoot p E ∨ w.heap.size ≤ x) (h2 : Grew w1 w2 p L E1 W) : Grew w w2 p L E W := by
  obtain ⟨rj2, dr2, E2, m1, m2, m3, m4⟩ := h2
  refine ⟨rj2, dr2, E2, m1, m2, off_grow ho m3 hx, fun y hy => ?_⟩
  rcases m4 y hy with h | h
  · exact hx y h
  · have := ho.size
    exact Or.inr (by omega)
/-- A row of texts handed in. -/
def Row (w : World) (v : Value) (ds : List Bs) : Prop := ∃ a cap, v = .slice a ds.length cap ∧ ds.length ≤ cap ∧ ∀ (j : Nat) x, ds[j]? = some x → ∃ g off, a = some ⟨g, off, none⟩ ∧ g < w.heap.size ∧ w.cell? ⟨g, off + j, none⟩ = some (.string ⟨x.toArray⟩)
theorem Row.below {w w' : World} {v : Value} {ds : List Bs} (h : Row w v ds) (hb : Below w.heap.size w w') : Row w' v ds := by
  obtain ⟨a, cap, h1, h2, h3⟩ := h
  refine ⟨a, cap, h1, h2, fun j x hx => ?_⟩
  obtain ⟨g, off, e1, e2, e3⟩ := h3 j x hx
  exact ⟨g, off, e1, Nat.lt_of_lt_of_le e2 hb.size, by rw [hb.cell (p := ⟨g, off + j, none⟩) e2]; exact e3⟩
set_option maxRecDepth 10000 in
set_option maxHeartbeats 4000000 in
theorem summed (c : Fin 6 → Int) (hc : COk c) (v : Value) (ds : List Bs) (w : World) (hr : Row w v ds) (hz : ∀ d ∈ ds, d.length ≤ 140737488355328) (hn : nls ds ≤ 1000000000000) (hl : ds.length ≤ 1000000000000) :
    Calls Tryz.prog 24 #[cfg c, v] w fun e w' => ∃ (p : WI) (rj dr : Nat) (E : List Ent), e = .returned (.pointer (some ⟨p.P, 0, none⟩)) ∧ WiAt w' p (limOf c) rj dr E ∧ winOf rj dr E = wsum (limOf c) ds ∧ Below w.heap.size w w' := by
  obtain ⟨a, cap, rfl, hcap, hrow⟩ := hr
  have hN := Sits.new w 23 #[.int .i64 (c 0), .int .i64 (c 1), .int .i64 (c 2), .int .i64 (c 3), .int .i64 (c 4), .int .i64 (c 5)]
  have HB1 := hide (below_new (w := w) (.cells #[.int .i64 (c 0), .int .i64 (c 1), .int .i64 (c 2), .int .i64 (c 3), .int .i64 (c 4), .int .i64 (c 5)] 23))
  have HC := hide hc
  have HRW := hide hrow
  have HZ := hide hz
  have HNW := hide (newW c hc)
  clear hc hrow hz
  unfold cfg at HNW ⊢
  go_enter Tryz.func24, Tryz.ntmps24
  go_wp2_with fail
  generalize w.alloc (.cells #[.int .i64 (c 0), .int .i64 (c 1), .int .i64 (c 2), .int .i64 (c 3), .int .i64 (c 4), .int .i64 (c 5)] 23) = w1 at *
  obtain ⟨B, hBe⟩ : ∃ B, w.heap.size = B := ⟨_, rfl⟩
  rw [hBe] at hN
  rw [hBe]
  clear hBe
  obtain ⟨c0, c1, c2, c3, c4, c5⟩ := cells6 hN
  clear hN
  go_wp2_with fail
  refine (HNW.out w1).mono ?_
  rintro e w2 ⟨p, rfl, hpc, hw2, hf2, hb2⟩
  have HW2 := hide hw2
  have HF2 := hide hf2
  have HB2 := hide (show Below w.heap.size w w2 from HB1.out.trans (hb2.mono HB1.out.size))
  have HFt := hide (show ∀ x ∈ wfoot p [], w.heap.size ≤ x from fun x hx => Nat.le_trans HB1.out.size (hf2 x hx))
  clear hpc hw2 hf2 hb2 c0 c1 c2 c3 c4 c5
  go_wp2_with fail
  go_loopw [12] (fun i wr => ∃ k : Nat, i = .int .i64 (k : Int) ∧ k ≤ ds.length ∧ Hid (Grew w2 wr p (limOf c) [] ((ds.take k).foldl (wgram (limOf c)) win0))) (fun i _ => ds.length - (intOf i).toNat)
  case atStart => exact ⟨0, rfl, by omega, Grew.refl HW2.out⟩
  case round =>
    obtain ⟨k, rfl, hk, HI⟩ := hrel
    by_cases hkl : k < ds.length
    · have hkz : (k : Int) < (ds.length : Int) := by omega
      obtain ⟨x, hx⟩ : ∃ x, ds[k]? = some x := ⟨_, List.getElem?_eq_getElem hkl⟩
      obtain ⟨g, off, rfl, hgl, cg⟩ := HRW.out k x hx
      obtain ⟨rj, dr, E, k1, k2, k3, k4⟩ := HI.out
      have HB3 := hide (show Below w.heap.size w wr from below_off HB2.out k3 HFt.out HB2.out.size)
      have cgr : wr.cell? ⟨g, off + k, none⟩ = some (.string ⟨x.toArray⟩) := by
        rw [HB3.out.cell (p := ⟨g, off + k, none⟩) hgl]
        exact cg
      have HTK := hide (show ds.take (k + 1) = ds.take k ++ [x] by rw [List.take_add_one, hx]; rfl)
      have hft := wfit_grams HC.out.lim.b0 (ds.take k) (WFit.zero (limOf c))
      rw [← k2, Nat.zero_add] at hft
      have hnk : nls (ds.take k) + (Lib.countByte x 10 + 1) ≤ 1000000000000 := by
        have h1 := nls_take (k + 1) ds
        rw [HTK.out, nls_append] at h1
        simp only [nls] at h1
        omega
      have htg := takeGram p (limOf c) (nls (ds.take k)) rj dr E ⟨x.toArray⟩ wr k1 hft HC.out.lim (by
        rw [Bytes.size_B]
        exact HZ.out x (List.mem_of_getElem? hx)) hnk
      have HK := hide (And.intro k1 (And.intro k2 (And.intro k3 k4)))
      clear hx cg hft k1 k2 k3 k4 hgl hnk
      generalize hxb : (⟨x.toArray⟩ : ByteArray) = xb at *
      have HXB := hide hxb
      clear hxb
      go_wp2_with fail
      refine htg.mono ?_
      clear htg
      rintro e w4 ⟨rfl, hgr, _⟩
      have HGR := hide hgr
      clear hgr cgr
      go_wp2_with fail
      go_roundw
      case rel =>
        obtain ⟨k1, k2, k3, k4⟩ := HK.out
        refine ⟨k + 1, by go_num, by omega, ?_⟩
        have h5 := Grew.more k1 k3 k4 HGR.out
        rw [k2, ← HXB.out] at h5
        show Grew _ _ _ _ _ _
        rw [HTK.out, List.foldl_append]
        exact h5
      case measure => simp only [intOf]; omega
    · have hkz : ¬ (k : Int) < (ds.length : Int) := by omega
      have hk2 : k = ds.length := by omega
      subst hk2
      go_wp2_with fail
      go_ret
      obtain ⟨rj, dr, E, k1, k2, k3, k4⟩ := HI.out
      rw [List.take_length] at k2
      exact ⟨p, rfl, rj, dr, E, k1, k2, below_off HB2.out k3 HFt.out HB2.out.size⟩
end Go.Proofs.YtmkidefdegaamaaGreatDoor.Kr
namespace Go.Proofs.YtmkidefdegaamaaGreatDoor.Kr
open Go.RowKit Go.Maps Mem Foot Im Wm Hk Hb Hi Hn Plainw Cq Hs Sh Readw Wi Go.Sort Go.Shelf
theorem good_of {c : Fin 6 → Int} (h : COk c) : Check.good (c 0) (c 1) (c 2) (c 3) (c 4) (c 5) = true := by
  have h0 := h.w
  have h1 := h.s
  have h2 := h.t
  have h3 := h.b
  have h4 := h.n
  have h5 := h.g
  simp [Check.good, Check.inb, h0, h1, h2, h3, h4, h5]
set_option maxRecDepth 10000 in
set_option maxHeartbeats 2000000 in
theorem sumW (c : Fin 6 → Int) (hc : COk c) (num : Int) (v : Value) (ds : List Bs) (w : World) (hr : Row w v ds) (ht : Tab w) (hz : ∀ d ∈ ds, d.length ≤ 140737488355328) (hn : nls ds ≤ 1000000000000) (hl : ds.length ≤ 1000000000000) (hn0 : -9223372036854775808 ≤ num) (hn1 : num ≤ 9223372036854775807) :
    Calls Tryz.prog 13 #[cfg c, .int .i64 num, v] w fun e w' => (∃ z, e = .returned (.tuple #[.string z, .int .i64 0]) ∧ Bytes.B z = wtext num (wsum (limOf c) ds)) ∧ Below w.heap.size w w' := by
  have hN := Sits.new w 23 #[.int .i64 (c 0), .int .i64 (c 1), .int .i64 (c 2), .int .i64 (c 3), .int .i64 (c 4), .int .i64 (c 5)]
  have HB1 := hide (below_new (w := w) (.cells #[.int .i64 (c 0), .int .i64 (c 1), .int .i64 (c 2), .int .i64 (c 3), .int .i64 (c 4), .int .i64 (c 5)] 23))
  have HC := hide hc
  have HR := hide hr
  have HT := hide ht
  have HZ := hide hz
  have HCK := hide (fun w => by
    have h := Check.check (c 0) (c 1) (c 2) (c 3) (c 4) (c 5) w
    rw [if_pos (good_of hc)] at h
    exact h)
  have HSM := hide (fun w1 (h : Below w.heap.size w w1) => summed c hc v ds w1 (hr.below h) hz hn hl)
  have hvs : ∃ a n cap, v = .slice a n cap := by
    obtain ⟨a, cap, e, _⟩ := hr
    exact ⟨_, _, _, e⟩
  clear hc hr ht hz
  unfold cfg at HSM ⊢
  obtain ⟨a, nv, cap, rfl⟩ := hvs
  go_enter Tryz.func13, Tryz.ntmps13
  go_wp2_with fail
  generalize w.alloc (.cells #[.int .i64 (c 0), .int .i64 (c 1), .int .i64 (c 2), .int .i64 (c 3), .int .i64 (c 4), .int .i64 (c 5)] 23) = w1 at *
  obtain ⟨B, hBe⟩ : ∃ B, w.heap.size = B := ⟨_, rfl⟩
  rw [hBe] at hN
  rw [hBe]
  clear hBe
  have HN := hide hN
  obtain ⟨c0, c1, c2, c3, c4, c5⟩ := cells6 hN
  clear hN
  go_wp2_with fail
  refine (HCK.out w1).mono ?_
  rintro e w2 ⟨rfl, hb2⟩
  have hN2 := HN.out.below hb2 HN.out.lt
  have HB2 := hide (show Below w.heap.size w w2 from HB1.out.trans (hb2.mono HB1.out.size))
  have HN2 := hide hN2
  clear c0 c1 c2 c3 c4 c5 hb2
  obtain ⟨c0, c1, c2, c3, c4, c5⟩ := cells6 hN2
  clear hN2
  go_wp2_with fail
  refine (HSM.out w2 HB2.out).mono ?_
  rintro e w3 ⟨p, rj, dr, E, rfl, hwi, hwe, hb3⟩
  have HB3 := hide (show Below w.heap.size w w3 from HB2.out.trans (hb3.mono HB2.out.size))
  have hft : WFit (limOf c) (nls ds) (winOf rj dr E) := by
    have h1 := wfit_grams HC.out.lim.b0 ds (WFit.zero (limOf c))
    rw [Nat.zero_add] at h1
    rw [hwe]
    exact h1
  have htx := textW num p (limOf c) (nls ds) rj dr E w3 hwi hft HC.out.lim (by rw [hwe]; exact live_grams ds live0) (HT.out.below HB3.out) (by omega) hn0 hn1
  rw [hwe] at htx
  clear hwi hwe hb3 hft c0 c1 c2 c3 c4 c5
  go_wp2_with fail
  refine htx.mono ?_
  clear htx
  rintro e w4 ⟨⟨z, rfl, hz⟩, hb4⟩
  have HZ4 := hide hz
  have HB4 := hide hb4
  clear hz hb4
  go_wp2_with fail
  go_ret2
  exact ⟨⟨z, rfl, HZ4.out⟩, HB3.out.trans (HB4.out.mono HB3.out.size)⟩
end Go.Proofs.YtmkidefdegaamaaGreatDoor.Kr
