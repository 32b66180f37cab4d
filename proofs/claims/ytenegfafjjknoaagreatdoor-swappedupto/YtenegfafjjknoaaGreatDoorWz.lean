/- The shards' keys in one rising order: the iterator. -/
import Derived.Test.YtenegfafjjknoaaGreatDoorWxx
import Derived.RangeFuncNested
import Derived.RangeFuncBound
import Derived.RangeFuncCalls
import Derived.RangeFuncLeaves
import Derived.Shelf.RegionOpen
import Derived.WalkKit
import Derived.LoopNIn
import Derived.LoopIn
namespace Go.Proofs.YtenegfafjjknoaaGreatDoor.Kr
open Go.RowKit Go.Maps Mem Foot Im Wm Hk Hb Hi Hn Plainw Cq Hs Sh Readw Wi Go.Sort Go.Shelf

attribute [local go_sem] Oper.semAt_some

def slen : Value → Nat
  | .slice _ l _ => l
  | _ => 0
def leftOver (w : World) (R : Nat) : Nat :=
  match w.heap[R]? with
  | some (.cells cs _ _) => (cs.toList.map slen).sum
  | _ => 0

theorem leftOver_sits {w : World} {R : Nat} {t : TypeId} {cs : Array Value} (h : Sits w R t cs) : leftOver w R = (cs.toList.map slen).sum := by
  unfold leftOver
  have h' : w.heap[R]? = _ := h
  rw [h']

theorem sum_set {l : List Value} {i : Nat} {v v' : Value} (h : l[i]? = some v) (hv : slen v' + 1 = slen v) : ((l.set i v').map slen).sum + 1 = (l.map slen).sum := by
  induction l generalizing i with
  | nil => cases h
  | cons x r ih =>
    cases i with
    | zero =>
      simp only [List.getElem?_cons_zero, Option.some.injEq] at h
      subst h
      simp only [List.set_cons_zero, List.map_cons, List.sum_cons]
      omega
    | succ i =>
      simp only [List.getElem?_cons_succ] at h
      have := ih h
      simp only [List.set_cons_succ, List.map_cons, List.sum_cons]
      omega

theorem part_tail {n i : Nat} {x : Bs × Nat} {r : List (Bs × Nat)} (h : idx n x.1 = i) : Sh.part n i (x :: r) = x :: Sh.part n i r := by rw [part_cons, if_pos h]
theorem part_other {n i : Nat} {x : Bs × Nat} {r : List (Bs × Nat)} (h : idx n x.1 ≠ i) : Sh.part n i (x :: r) = Sh.part n i r := by rw [part_cons, if_neg h]

theorem ShAt.kp {A B : World} {M R : Nat} {bs : List Nat} {ent : List (Bs × Nat)} (h : ShAt A M R bs ent) (k : Kp A B) : ShAt B M R bs ent :=
  ⟨k.sits h.head (by decide), k.sits h.row (by decide), fun i b hb => Owns.at (h.maps i b hb) (by
    obtain ⟨es, clock, hb', _⟩ := h.maps i b hb
    rw [hb', k.2 b _ hb' rfl]), h.nodup, h.pos, h.most⟩

theorem elem_at {x : Bs × Nat} {pre r : List (Bs × Nat)} (hu : Up sLt (pre ++ x :: r)) : Im.elemOf pv (.pointer none) x.1 (pre ++ x :: r) = .pointer (some ⟨x.2, 0, none⟩) := by
  unfold Im.elemOf
  have : getE x.1 (pre ++ x :: r) = some x.2 := by
    induction pre with
    | nil => exact getE_cons_eq rfl
    | cons y q ih =>
      have h2 := List.pairwise_cons.1 hu
      rw [List.cons_append, getE_cons_ne, ih h2.2]
      intro e
      have := h2.1 x (by simp)
      rw [e, sLt_irr] at this
      cases this
  rw [this]
  rfl

/-- One key is gone. -/
theorem next_ {wr : World} {Rk n g off cap : Nat} {a : Option Addr} {x : Bs × Nat} {r : List (Bs × Nat)} {cs : Array Value} (h1 : Sits wr Rk 36 cs) (h2 : cs.size = n) (h3 : ∀ i, i < n → ∃ v, cs[i]? = some v ∧ Srow wr v ((Sh.part n i (x :: r)).map (·.1))) (hi : idx n x.1 < n)
    (e1 : cs[idx n x.1]? = some (.slice (some ⟨g, off, none⟩) (((Sh.part n (idx n x.1) r).map (·.1)).length + 1) cap)) (e2 : Srow wr (.slice (some ⟨g, off, none⟩) (((Sh.part n (idx n x.1) r).map (·.1)).length + 1) cap) (x.1 :: (Sh.part n (idx n x.1) r).map (·.1)))
    (ha : ((Sh.part n (idx n x.1) r).map (·.1)) ≠ [] → a = some ⟨g, off + 1, none⟩) :
    Rests (wr.setCell ⟨Rk, idx n x.1, none⟩ (.slice a ((Sh.part n (idx n x.1) r).map (·.1)).length (cap - 1))) Rk n r ∧
    leftOver (wr.setCell ⟨Rk, idx n x.1, none⟩ (.slice a ((Sh.part n (idx n x.1) r).map (·.1)).length (cap - 1))) Rk + 1 = leftOver wr Rk := by
  have hs := h1.set (idx n x.1) (.slice a ((Sh.part n (idx n x.1) r).map (·.1)).length (cap - 1))
  refine ⟨⟨_, hs, by simp [h2], fun j hj => ?_⟩, ?_⟩
  · by_cases e : idx n x.1 = j
    · subst e
      exact ⟨_, by simp [h2, hi], (e2.tail ha).set h1⟩
    · obtain ⟨v, k1, k2⟩ := h3 j hj
      rw [part_other e] at k2
      refine ⟨v, ?_, k2.set h1⟩
      rw [Array.getElem?_setIfInBounds_ne e]
      exact k1
  · rw [leftOver_sits hs, leftOver_sits h1, Array.toList_setIfInBounds]
    exact sum_set (v := .slice (some ⟨g, off, none⟩) (((Sh.part n (idx n x.1) r).map (·.1)).length + 1) cap) (by simpa using e1) rfl

theorem ShAt.setk {w : World} {M R Rk i : Nat} {bs : List Nat} {ent : List (Bs × Nat)} {cs : Array Value} (h : ShAt w M R bs ent) (hR : Sits w Rk 36 cs) (u : Value) : ShAt (w.setCell ⟨Rk, i, none⟩ u) M R bs ent :=
  h.off (F := [Rk]) ((Off.refl _ _).set (by simp) _ _) (fun y hy he => by
    simp only [List.mem_singleton] at he
    subst he
    simp only [shf, List.mem_cons] at hy
    rcases hy with rfl | rfl | hy
    · exact sits_ne h.head hR (by decide) rfl
    · exact sits_ne h.row hR (by decide) rfl
    · obtain ⟨j, hj⟩ := List.getElem?_of_mem hy
      exact map_sits (h.maps j y hj) hR rfl)

theorem Sits.setk {w : World} {X t Rk i : Nat} {vs cs : Array Value} (h : Sits w X t vs) (hR : Sits w Rk 36 cs) (ht : t ≠ 36) (u : Value) : Sits (w.setCell ⟨Rk, i, none⟩ u) X t vs :=
  (Below.heap_setCell _ _ _ _ (sits_ne h hR ht)).trans h

theorem Kp.far {A B : World} (h : Kp A B) {Rk i : Nat} {u : Value} (hR : A.heap.size ≤ Rk) : Kp A (B.setCell ⟨Rk, i, none⟩ u) :=
  ⟨by simpa using h.1, fun k o hk ho => by
    have hlt := (Array.getElem?_eq_some_iff.1 hk).1
    exact (Below.heap_setCell B ⟨Rk, i, none⟩ u k (by simp; omega)).trans (h.2 k o hk ho)⟩

theorem leftOver_kp {A B : World} {R n : Nat} {r : List (Bs × Nat)} (h : Rests A R n r) (k : Kp A B) : leftOver B R = leftOver A R := by
  obtain ⟨cs, h1, _⟩ := h
  rw [leftOver_sits h1, leftOver_sits (k.sits h1 (by decide))]

/-- All that the rest of the round reads. -/
structure Ready (W W3 : World) (m l X M R n i : Nat) (x : Bs × Nat) (pre r : List (Bs × Nat)) (Rk lo : Nat) (J : List (Bs × Nat) → World → Prop) : Prop where
  x3 : W3.cell? ⟨X, 0, none⟩ = some (.pointer (some ⟨M, 0, none⟩))
  m3 : W3.cell? ⟨M, 0, none⟩ = some (.slice (some ⟨R, 0, none⟩) n n)
  l3 : ∃ b, W3.cell? ⟨R, i, none⟩ = some (.map (some b)) ∧ ∀ W4 : World, W4.heap[b]? = W3.heap[b]? → (Instr.lookup 198 (.map (some b)) (.string ⟨x.1.toArray⟩) false).run Tryz.prog W4 = .ok (.pointer (some ⟨x.2, 0, none⟩)) W4
  y3 : YieldAt Fence.wide (m + 4) Tryz.prog l #[.string ⟨x.1.toArray⟩, .pointer (some ⟨x.2, 0, none⟩)] W3 fun e W' => e = .returned (.bool true) ∧ J (pre ++ [x]) W' ∧ Kp W3 W'
  kp : Kp W W3
  rest : Rests W3 Rk n r
  left : leftOver W3 Rk + 1 = lo

set_option maxRecDepth 10000 in
set_option maxHeartbeats 4000000 in
theorem risingIt (m l X M R : Nat) (bs : List Nat) (ent : List (Bs × Nat)) (J : List (Bs × Nat) → World → Prop) (W : World)
    (hX : Sits W X 135 #[.pointer (some ⟨M, 0, none⟩)]) (h : ShAt W M R bs ent) (hu : Up sLt ent) (hl : ent.length ≤ 1000) (hk : ∀ x ∈ ent, x.1.length ≤ 1000)
    (hJ : ∀ s A B, J s A → Below A.heap.size A B → J s B)
    (hJR : ∀ s A Rk i u cs, J s A → W.heap.size ≤ Rk → Sits A Rk 36 cs → J s (A.setCell ⟨Rk, i, none⟩ u))
    (hY : ∀ pre x post W1, J pre W1 → ent = pre ++ x :: post → YieldAt Fence.wide (m + 4) Tryz.prog l #[.string ⟨x.1.toArray⟩, .pointer (some ⟨x.2, 0, none⟩)] W1 fun e W' => e = .returned (.bool true) ∧ J (pre ++ [x]) W' ∧ Kp W1 W')
    (h0 : J [] W) :
    CallsIn Fence.wide (m + 5) Tryz.prog 145 #[.func (.yield l) #[] #[], .pointer (some ⟨X, 0, none⟩)] W fun e W' => (∃ v, e = .returned v) ∧ J ent W' := by
  have hsk := sortedKeys M R bs ent W h hu hl
  have x0 : W.cell? ⟨X, 0, none⟩ = some (.pointer (some ⟨M, 0, none⟩)) := hX.cell 0 _ rfl
  have hm := h.most
  have hp := h.pos
  have HX := hide hX
  have HS := hide h
  have HU := hide hu
  have HJ := hide hJ
  have HJR := hide hJR
  have HY := hide hY
  have H0 := hide h0
  have HK := hide hk
  clear hX h hu hJ hJR hY h0 hk
  refine callsIn_of_wp Tryz.func145 rfl trivial ?_ rfl
  simp only [Tryz.ntmps145, List.size_toArray, List.length_cons, List.length_nil, Nat.reduceAdd, Nat.reduceSub, Array.replicate_succ, Array.replicate_zero, List.push_toArray, List.append_toArray, List.nil_append, List.cons_append]
  gi_wp2_with fail
  refine ⟨trivial, (callsIn_wide.2 hsk).mono ?_⟩
  clear hsk
  rintro e W1 ⟨rfl, hr1, hb1⟩
  have HLH := hide (leastHead _ _ _ W1 hr1 HU.out hp hm hl)
  have HR1 := hide hr1
  have HB1 := hide hb1
  have HJ1 := hide (HJ.out _ _ _ H0.out hb1)
  clear hr1 hb1 x0
  obtain ⟨n, hn⟩ : ∃ n, bs.length = n := ⟨_, rfl⟩
  obtain ⟨Rk, hRk⟩ : ∃ Rk, W.heap.size = Rk := ⟨_, rfl⟩
  rw [hn, hRk] at HLH HR1
  rw [hn, hRk]
  rw [hn] at hp hm
  have HN := hide hn
  have HRK := hide hRk
  obtain ⟨a0, ha0⟩ : ∃ a0, leastOf n ent = a0 := ⟨_, rfl⟩
  rw [ha0] at HLH
  have HA0 := hide ha0
  clear hn hRk ha0
  gi_wp2_with fail
  refine ⟨trivial, (callsIn_wide.2 HLH.out).mono ?_⟩
  rintro e W2 ⟨rfl, hb2⟩
  have HR2 := hide (HR1.out.kp (Kp.of_below hb2))
  have HJ2 := hide (HJ.out _ _ _ HJ1.out hb2)
  have HK2 := hide ((Kp.of_below HB1.out).trans (Kp.of_below hb2))
  clear hb2
  gi_wp2_with fail
  gi_loopw [4] (fun a wr => ∃ pre r, a = .int .i64 (leastOf n r) ∧ Hid (ent = pre ++ r) ∧ Hid (Rests wr Rk n r) ∧ Hid (J pre wr) ∧ Hid (Kp W wr)) (fun _ wr => leftOver wr Rk)
  case atStart => exact ⟨[], ent, by rw [HA0.out], rfl, HR2.out, HJ2.out, HK2.out⟩
  case round =>
    obtain ⟨pre, r, rfl, HE, HR, HJ3, HK3⟩ := hrel
    cases r with
    | nil =>
      simp only [leastOf]
      have HE2 := hide (show ent = pre by rw [HE.out]; simp)
      gi_wp2_with fail
      go_end0
      rw [HE2.out]
      exact ⟨⟨_, rfl⟩, HJ3.out⟩
    | cons x r =>
      simp only [leastOf]
      have hi := idx_lt hp x.1
      obtain ⟨cs, h1, h2, h3⟩ := HR.out
      obtain ⟨v, e1, e2⟩ := h3 _ hi
      have HP := hide (part_tail (n := n) (x := x) (r := r) rfl)
      rw [HP.out] at e2
      simp only [List.map_cons] at e2
      obtain ⟨g, off, cap, rfl, hcap, cg⟩ := e2.head
      have ci := h1.cell _ _ e1
      have fi := h1.frozen (idx n x.1)
      have hnl : ((Sh.part n (idx n x.1) r).map (·.1)).length ≤ 1000 := by
        rw [List.length_map]
        have a1 : (Sh.part n (idx n x.1) r).length ≤ r.length := List.length_filter_le _ _
        have a2 : r.length ≤ ent.length := by
          rw [HE.out]
          simp
          omega
        omega
      have hrd : ∀ a, (((Sh.part n (idx n x.1) r).map (·.1)) ≠ [] → a = some ⟨g, off + 1, none⟩) → Ready W (wr.setCell ⟨Rk, idx n x.1, none⟩ (.slice a ((Sh.part n (idx n x.1) r).map (·.1)).length (cap - 1))) m l X M R n (idx n x.1) x pre r Rk (leftOver wr Rk) J := by
        intro a ha
        obtain ⟨k1, k2⟩ := next_ h1 h2 h3 hi e1 e2 ha
        have k3 := ShAt.setk (i := idx n x.1) (ShAt.kp HS.out HK3.out) h1 (.slice a ((Sh.part n (idx n x.1) r).map (·.1)).length (cap - 1))
        have k4 := Sits.setk (i := idx n x.1) (HK3.out.sits HX.out (by decide)) h1 (by decide) (.slice a ((Sh.part n (idx n x.1) r).map (·.1)).length (cap - 1))
        have k5 := HJR.out pre wr Rk (idx n x.1) (.slice a ((Sh.part n (idx n x.1) r).map (·.1)).length (cap - 1)) cs HJ3.out (by rw [HRK.out]; exact Nat.le_refl _) h1
        have k6 := HY.out pre x r _ k5 HE.out
        obtain ⟨b, hb⟩ : ∃ b, bs[idx n x.1]? = some b := ⟨_, List.getElem?_eq_getElem (by rw [HN.out]; exact hi)⟩
        have hkey : keyOf Tryz.prog 9 (.string ⟨x.1.toArray⟩) = some (sLit x.1) := Go.WideMaps.keyOf_string_mk (s := ⟨x.1.toArray⟩) Tryz.underlying9 (by
          have := HK.out x (by rw [HE.out]; simp)
          unfold maxLen
          show x.1.toArray.size ≤ _
          simp
          omega)
        have hlk := look_run (k3.maps _ b hb) (string_keyed Tryz.underlying9) Tryz.underlying198 zeroP rfl sLit_same hkey
        have he : Im.elemOf pv (.pointer none) x.1 (Sh.part bs.length (idx n x.1) ent) = .pointer (some ⟨x.2, 0, none⟩) := by
          have e3 : Im.elemOf pv (.pointer none) x.1 (Sh.part bs.length (idx n x.1) ent) = Im.elemOf pv (.pointer none) x.1 ent := by
            unfold Im.elemOf
            rw [HN.out, getE_part]
          rw [e3, HE.out]
          exact elem_at (by rw [← HE.out]; exact HU.out)
        rw [he] at hlk
        exact ⟨k4.cell 0 _ rfl, by have := k3.head.cell 0 _ rfl; rw [HN.out] at this; exact this, ⟨b, k3.cell hb, hlk⟩, k6, Kp.far HK3.out (by rw [HRK.out]; exact Nat.le_refl _), k1, k2⟩
      have hin : ((idx n x.1 : Nat) : Int) < (n : Int) := by omega
      have hi0 : ¬ ((idx n x.1 : Nat) : Int) < 0 := by omega
      have hkc : cap = 1 → ((Sh.part n (idx n x.1) r).map (·.1)) = [] := fun h => List.eq_nil_of_length_eq_zero (by omega)
      have HKC := hide hkc
      have HRD := hide hrd
      clear e1 e2 h1 h2 h3 hrd hkc
      generalize hks : (Sh.part n (idx n x.1) r).map (·.1) = ks at *
      generalize hix : idx n x.1 = i at *
      clear hks hix
      have HUR := hide (show Up sLt r from (List.pairwise_cons.1 (List.pairwise_append.1 (show Up sLt (pre ++ x :: r) by rw [← HE.out]; exact HU.out)).2.1).2)
      have hrl : r.length ≤ 1000 := by
        have a2 : r.length ≤ ent.length := by
          rw [HE.out]
          simp
          omega
        omega
      by_cases hc1 : cap = 1
      · subst hc1
        have hks0 := HKC.out rfl
        subst hks0
        obtain ⟨x3, m3, ⟨b, l3, lk⟩, y3, kW, HR3, hleft⟩ := HRD.out (some ⟨g, off, none⟩) (fun h => absurd rfl h)
        simp only [Nat.sub_self, List.length_nil] at x3 m3 l3 lk y3 HR3 hleft kW
        have hlk := lk _ rfl
        obtain ⟨fn, tmps, assign, body, hy, hRd⟩ := y3
        have HRD3 := hide hRd
        have HR4 := hide HR3
        have HLF := hide hleft
        have HKW := hide kW
        clear hRd HR3 hleft lk kW
        gi_wp2_with fail
        refine HRD3.out.mono ?_
        rintro e W5 ⟨rfl, hJ5, hk5⟩
        have HR5 := hide (HR4.out.kp hk5)
        have HLF5 := hide (show leftOver W5 Rk + 1 = leftOver wr Rk by rw [leftOver_kp HR4.out hk5]; exact HLF.out)
        have HKW5 := hide (HKW.out.trans hk5)
        have HJ5 := hide hJ5
        have hlh := leastHead _ _ _ W5 HR5.out HUR.out hp hm hrl
        clear hJ5 hk5 x3 m3 l3 hy hlk ci fi cg
        gi_wp2_with fail
        refine ⟨trivial, (callsIn_wide.2 hlh).mono ?_⟩
        clear hlh
        rintro e W6 ⟨rfl, hb6⟩
        have HR6 := hide (HR5.out.kp (Kp.of_below hb6))
        have HJ6 := hide (HJ.out _ _ _ HJ5.out hb6)
        have HK6 := hide (HKW5.out.trans (Kp.of_below hb6))
        have HL6 := hide (show leftOver W6 Rk + 1 = leftOver wr Rk by rw [leftOver_kp HR5.out (Kp.of_below hb6)]; exact HLF5.out)
        obtain ⟨a6, ha6⟩ : ∃ a6, leastOf n r = a6 := ⟨_, rfl⟩
        rw [ha6]
        have HA6 := hide ha6
        clear hb6 ha6
        gi_wp2_with fail
        go_roundw
        case rel => exact ⟨pre ++ [x], r, congrArg (Value.int IntKind.i64) HA6.out.symm, by simp [HE.out, Hid], HR6.out, HJ6.out, HK6.out⟩
        case measure =>
          have := HL6.out
          omega
      · obtain ⟨x3, m3, ⟨b, l3, lk⟩, y3, kW, HR3, hleft⟩ := HRD.out (some ⟨g, off + 1, none⟩) (fun _ => rfl)
        have hlk := lk _ rfl
        obtain ⟨fn, tmps, assign, body, hy, hRd⟩ := y3
        have HRD3 := hide hRd
        have HR4 := hide HR3
        have HLF := hide hleft
        have HKW := hide kW
        clear hRd HR3 hleft lk kW
        gi_wp2_with fail
        refine HRD3.out.mono ?_
        rintro e W5 ⟨rfl, hJ5, hk5⟩
        have HR5 := hide (HR4.out.kp hk5)
        have HLF5 := hide (show leftOver W5 Rk + 1 = leftOver wr Rk by rw [leftOver_kp HR4.out hk5]; exact HLF.out)
        have HKW5 := hide (HKW.out.trans hk5)
        have HJ5 := hide hJ5
        have hlh := leastHead _ _ _ W5 HR5.out HUR.out hp hm hrl
        clear hJ5 hk5 x3 m3 l3 hy hlk ci fi cg
        gi_wp2_with fail
        refine ⟨trivial, (callsIn_wide.2 hlh).mono ?_⟩
        clear hlh
        rintro e W6 ⟨rfl, hb6⟩
        have HR6 := hide (HR5.out.kp (Kp.of_below hb6))
        have HJ6 := hide (HJ.out _ _ _ HJ5.out hb6)
        have HK6 := hide (HKW5.out.trans (Kp.of_below hb6))
        have HL6 := hide (show leftOver W6 Rk + 1 = leftOver wr Rk by rw [leftOver_kp HR5.out (Kp.of_below hb6)]; exact HLF5.out)
        obtain ⟨a6, ha6⟩ : ∃ a6, leastOf n r = a6 := ⟨_, rfl⟩
        rw [ha6]
        have HA6 := hide ha6
        clear hb6 ha6
        gi_wp2_with fail
        go_roundw
        case rel => exact ⟨pre ++ [x], r, congrArg (Value.int IntKind.i64) HA6.out.symm, by simp [HE.out, Hid], HR6.out, HJ6.out, HK6.out⟩
        case measure =>
          have := HL6.out
          omega

end Go.Proofs.YtenegfafjjknoaaGreatDoor.Kr
