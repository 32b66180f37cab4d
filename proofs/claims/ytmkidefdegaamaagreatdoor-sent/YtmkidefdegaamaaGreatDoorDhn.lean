/- The program's disk: used, List. The program's disk: Delete. -/
import Derived.Test.YtmkidefdegaamaaGreatDoorDmmy
import Derived.Test.YtmkidefdegaamaaGreatDoorApo
namespace Go.Proofs.YtmkidefdegaamaaGreatDoor.Dh
open Go.RowKit Mem Foot Dm
/-- What is new leaves the disk as it is. -/
theorem PD.keep {w w' : World} {bx ba cap : Nat} {bs : List Nat} {S : Dk} (h : PD w bx S ba cap bs) (hb : Below w.heap.size w w') : PD w' bx S ba cap bs :=
  ⟨h.head.below hb h.head.lt, h.len, fun hne => by
    obtain ⟨cs, h1, h2⟩ := h.arr hne
    exact ⟨cs, h1.below hb h1.lt, h2⟩, fun i c s hi hS => (h.seg i c s hi hS).below hb (h.seg i c s hi hS).lt, h.apart, h.capm⟩
theorem used_take {l : List Seg} {k : Nat} {s : Seg} (h : l[k]? = some s) : Dm.used (l.take (k + 1)) = Dm.used (l.take k) + s.text.size := by
  rw [List.take_add_one, h, used_append]
  show _ + Dm.used [s] = _
  rw [used_cons]
  rfl
theorem used_le (l : List Seg) (k : Nat) : Dm.used (l.take k) ≤ Dm.used l := by
  have h : Dm.used (l.take k ++ l.drop k) = Dm.used (l.take k) + Dm.used (l.drop k) := used_append _ _
  rw [List.take_append_drop] at h
  omega
theorem used (bx ba cap : Nat) (bs : List Nat) (S : Dk) (w : World) (hP : PD w bx S ba cap bs) (hl : bs.length ≤ 1000000000) (hu : Dm.used S.segs ≤ 1000000000000) :
    Calls Tryz.prog 64 #[.pointer (some ⟨bx, 0, none⟩)] w fun e w' => w = w' ∧ e = .returned (.int .i64 (Dm.used S.segs : Int)) := by
  obtain ⟨c0, c1, c2, f0, f1, f2⟩ := head3 hP.head
  have HP := hide hP
  clear hP
  unfold sl at c0
  by_cases h0 : bs.length = 0
  · rw [if_pos h0] at c0
    have hsn : S.segs = [] := List.eq_nil_of_length_eq_zero (HP.out.len ▸ h0)
    have HE := hide (show Dm.used S.segs = 0 by rw [hsn]; rfl)
    clear h0 hsn hu
    go_enter Tryz.func64, Tryz.ntmps64
    go_wp2_with fail
    go_loopw [3, 11] (fun s3 s11 wr => s3 = .int .i64 0 ∧ s11 = .int .i64 0 ∧ wr = w) (fun _ _ _ => 0)
    case atStart => exact ⟨rfl, rfl, rfl⟩
    case round =>
      obtain ⟨rfl, rfl, rfl⟩ := hrel
      go_wp2_with fail
      go_ret
      exact ⟨rfl, congrArg (fun z : Nat => Ending.returned (.int .i64 (z : Int))) HE.out.symm⟩
  · rw [if_neg h0] at c0
    obtain ⟨cs, hA, hcs, hcap, hptr⟩ := HP.out.arr (fun e => h0 (by rw [e]; rfl))
    have HA := hide hA
    have HPT := hide hptr
    have HU := hide hu
    clear hA hptr hcs hu
    go_enter Tryz.func64, Tryz.ntmps64
    go_wp2_with fail
    go_loopw [3, 11] (fun s3 s11 wr => ∃ k n : Nat, s3 = .int .i64 (n : Int) ∧ s11 = .int .i64 (k : Int) ∧ wr = w ∧ k ≤ bs.length ∧ Hid (n = Dm.used (S.segs.take k))) (fun _ s11 _ => bs.length - (intOf s11).toNat)
    case atStart => exact ⟨0, 0, rfl, rfl, rfl, by omega, rfl⟩
    case round =>
      obtain ⟨k, n, rfl, rfl, rfl, hk, HN⟩ := hrel
      by_cases hkl : k < bs.length
      · have hkz : (k : Int) < (bs.length : Int) := by omega
        obtain ⟨b, hb⟩ : ∃ b, bs[k]? = some b := ⟨_, List.getElem?_eq_getElem hkl⟩
        obtain ⟨s, hs⟩ : ∃ s, S.segs[k]? = some s := ⟨_, List.getElem?_eq_getElem (by rw [← HP.out.len]; exact hkl)⟩
        have a0 := HA.out.cell k _ (HPT.out k b hb)
        obtain ⟨b0, b1, b2, g0, g1, g2⟩ := head3 (HP.out.seg k b s hb hs)
        have HT := hide (show n + s.text.size = Dm.used (S.segs.take (k + 1)) by rw [used_take hs, HN.out])
        have hle : n + s.text.size ≤ 1000000000000 := by
          have := used_le S.segs (k + 1)
          have := HT.out
          have := HU.out
          omega
        clear hb hs
        go_wp2_with fail
        go_roundw
        case rel => exact ⟨k + 1, n + s.text.size, by go_num, by go_num, trivial, by omega, HT.out⟩
        case measure => simp [intOf]; omega
      · have hkz : ¬ (k : Int) < (bs.length : Int) := by omega
        have HE := hide (show n = Dm.used S.segs by
          have := HN.out
          rwa [show k = S.segs.length by have := HP.out.len; omega, List.take_length] at this)
        go_wp2_with fail
        go_ret
        exact ⟨rfl, congrArg (fun z : Nat => Ending.returned (.int .i64 (z : Int))) HE.out⟩
theorem hiInt : (Tryz.prog.info? 3).map (fun i => (i.zero, i.size, i.bytes)) = some (some (.int .i64 0), 1, 8) := by kernel_rfl
theorem list (bx ba cap : Nat) (bs : List Nat) (S : Dk) (w : World) (hP : PD w bx S ba cap bs) (hl : bs.length ≤ 1000000000) :
    Calls Tryz.prog 33 #[.pointer (some ⟨bx, 0, none⟩)] w fun e w' => ∃ v, e = .returned (.tuple #[v, .int .i64 (doList S).2]) ∧ w'.ownsRow w.heap.size 3 1 v (doList S).1.length ((doList S).1.map (Value.int .i64)) ∧ Below w.heap.size w w' := by
  obtain ⟨c0, c1, c2, f0, f1, f2⟩ := head3 hP.head
  have HP := hide hP
  clear hP
  by_cases hd : S.left = 0
  · have hdb : (S.left == 0) = true := by simpa using hd
    have HE := hide (show doList S = ([], 8) from if_pos hd)
    go_enter Tryz.func33, Tryz.ntmps33
    go_wp2_with fail
    go_ret2
    rw [HE.out]
    exact ⟨_, rfl, World.ownsRow_nil _ _ _ _, Below.refl _ _⟩
  · have hdb : (S.left == 0) = false := by simpa using hd
    have HE := hide (show doList S = (S.segs.map (·.num), 0) from if_neg hd)
    clear hd
    unfold sl at c0
    by_cases h0 : bs.length = 0
    · rw [if_pos h0] at c0
      have hsn : S.segs = [] := List.eq_nil_of_length_eq_zero (HP.out.len ▸ h0)
      have HSN := hide hsn
      clear h0 hsn
      go_enter Tryz.func33, Tryz.ntmps33
      go_wp2_with fail
      go_loopw [4, 17] (fun s4 s17 wr => s4 = .slice none 0 0 ∧ s17 = .int .i64 0 ∧ wr = w) (fun _ _ _ => 0)
      case atStart => exact ⟨rfl, rfl, rfl⟩
      case round =>
        obtain ⟨rfl, rfl, rfl⟩ := hrel
        go_wp2_with fail
        go_ret2
        rw [HE.out, HSN.out]
        exact ⟨_, rfl, World.ownsRow_nil _ _ _ _, Below.refl _ _⟩
    · rw [if_neg h0] at c0
      obtain ⟨i0, hi, hz0, hz1, hz2⟩ := info_parts hiInt
      go_enter Tryz.func33, Tryz.ntmps33
      go_wp2_with fail
      go_loopw [4, 17] (fun s4 s17 wr => ∃ (k : Nat) (ao : Option Addr) (cv : Nat), s4 = .slice ao k cv ∧ s17 = .int .i64 (k : Int) ∧ k ≤ bs.length ∧ wr.ownsRow w.heap.size 3 1 (.slice ao k cv) k ((S.segs.take k).map fun s => Value.int .i64 s.num) ∧ Below w.heap.size w wr) (fun _ s17 _ => bs.length - (intOf s17).toNat)
      case atStart => exact ⟨0, none, 0, rfl, rfl, by omega, World.ownsRow_nil _ _ _ _, Below.refl _ _⟩
      case round =>
        clear c0 c1 c2 f0 f1 f2
        obtain ⟨k, ao, cv, rfl, rfl, hk, hown, hbel⟩ := hrel
        have hsize := hbel.size
        have hPr := HP.out.keep hbel
        obtain ⟨c0, c1, c2, f0, f1, f2⟩ := head3 hPr.head
        by_cases hkl : k < bs.length
        · have hkz : (k : Int) < (bs.length : Int) := by omega
          obtain ⟨b, hb⟩ : ∃ b, bs[k]? = some b := ⟨_, List.getElem?_eq_getElem hkl⟩
          obtain ⟨s, hs⟩ : ∃ s, S.segs[k]? = some s := ⟨_, List.getElem?_eq_getElem (by rw [← HP.out.len]; exact hkl)⟩
          obtain ⟨cs, hA, hcs, hcap, hptr⟩ := hPr.arr (fun e => h0 (by rw [e]; rfl))
          have a0 := hA.cell k _ (hptr k b hb)
          obtain ⟨b0, b1, b2, g0, g1, g2⟩ := head3 (hPr.seg k b s hb hs)
          have HT := hide (show (S.segs.take k).map (fun s => Value.int .i64 s.num) ++ [.int .i64 s.num] = (S.segs.take (k + 1)).map (fun s => Value.int .i64 s.num) by rw [List.take_add_one, hs, List.map_append]; rfl)
          clear hb hs hA hptr hcs hPr
          go_wp2_with (at_builtin; refine wpList_append_own _ rfl _ _ 46 rfl w.heap.size 3 i0 (.int .i64 0) 1 8 Tryz.underlying46 hi hz0 hz1 hz2 rfl (by decide) _ _ _ rfl (hown.alloc _) ⟨wr.heap.size, 0, none⟩ 1 1 [.int .i64 s.num] rfl rfl (cell_one_new _ _ _) (fun x hx => by simp at hx; subst hx; rfl) (by unfold maxLen; omega) (by omega) (by simp; omega) ?_; intro v2 w2 hown2 hg2 hn2)
          obtain ⟨ao2, cv2, rfl⟩ := Own.shape hown2
          go_roundw
          case rel => exact ⟨k + 1, ao2, cv2, rfl, by go_num, by omega, by rw [← HT.out]; exact hown2, Own.below_more hbel hsize hown hg2⟩
          case measure => simp [intOf]; omega
        · have hkz : ¬ (k : Int) < (bs.length : Int) := by omega
          obtain rfl : k = S.segs.length := by have := HP.out.len; omega
          have HO := hide hown
          have HB := hide hbel
          clear hown hbel hPr
          go_wp2_with fail
          go_ret2
          rw [HE.out]
          refine ⟨_, rfl, ?_, HB.out⟩
          have := HO.out
          rw [List.take_length] at this
          show wr.ownsRow w.heap.size 3 1 _ (S.segs.map (·.num)).length ((S.segs.map (·.num)).map (Value.int .i64))
          rw [List.map_map, List.length_map]
          exact this
end Go.Proofs.YtmkidefdegaamaaGreatDoor.Dh
namespace Go.Proofs.YtmkidefdegaamaaGreatDoor.Dh
open Go.RowKit Mem Foot Dm
def ptrs (bs : List Nat) : List Value := bs.map fun b => Value.pointer (some ⟨b, 0, none⟩)
theorem ptrs_oneCell (bs : List Nat) : ∀ u ∈ ptrs bs, u.oneCell' = true := by
  intro u hu
  obtain ⟨b, _, rfl⟩ := List.mem_map.1 hu
  rfl
theorem hiPtr : (Tryz.prog.info? 127).map (fun i => (i.zero, i.size, i.bytes)) = some (some (.pointer none), 1, 8) := by kernel_rfl
theorem add_lit (b i j : Nat) : (⟨b, i, none⟩ : Addr).add j = ⟨b, i + j, none⟩ := by
  unfold Addr.add
  split <;> simp_all
/-- A part of the array's pointers as an append's source. -/
theorem src_ptrs {w : World} {ba o : Nat} {part : List Nat} {ao : Option Addr} {m : Nat} (hm : part.length = m) (hc : ∀ (j b : Nat), part[j]? = some b → w.cell? ⟨ba, o + j, none⟩ = some (.pointer (some ⟨b, 0, none⟩))) (ha : m = 0 ∨ ao = some ⟨ba, o, none⟩) : Apn.Src w 1 ao m (ptrs part) := by
  refine ⟨by simp [ptrs, hm], ptrs_oneCell _, ?_⟩
  rcases ha with h | h
  · exact Or.inl h
  · refine Or.inr ⟨_, h, fun j u hu => ?_⟩
    rw [ptrs, List.getElem?_map, Option.map_eq_some_iff] at hu
    obtain ⟨b, hb, rfl⟩ := hu
    rw [add_lit]
    exact hc j b hb
theorem same_ne {w : World} {v : Value} {g : Nat} (h : Apn.Same w (.slice none 0 0) v) (hg : g < w.heap.size) : some g ≠ v.ownBlock := by
  rcases h with h | ⟨k, h, hk⟩
  · rw [h]
    simp [Value.ownBlock]
  · rw [h]
    intro e
    cases e
    omega
/-- A segment taken away. -/
theorem deleted {wr x1 x2 : World} {bx ba cap k N cv2 : Nat} {bs : List Nat} {S : Dk} {v1 : Value} {ao2 : Option Addr} (h : PD wr bx S ba cap bs) (hN : N = k + (bs.length - (k + 1)))
    (gr1 : wr.drew.grownBy x1 (Value.slice none 0 0).ownBlock) (sm1 : Apn.Same wr.drew (.slice none 0 0) v1) (nn1 : v1 = .slice none 0 0 ↔ Value.slice none 0 0 = .slice none 0 0 ∧ k = 0)
    (gr2 : x1.grownBy x2 v1.ownBlock) (o2 : x2.ownsRow 0 127 1 (.slice ao2 N cv2) N (ptrs (bs.take k) ++ ptrs (bs.drop (k + 1)))) (sm2 : Apn.Same x1 v1 (.slice ao2 N cv2)) (nn2 : Value.slice ao2 N cv2 = .slice none 0 0 ↔ v1 = .slice none 0 0 ∧ bs.length - (k + 1) = 0) :
    Off [bx] wr (x2.setCell ⟨bx, 0, none⟩ (.slice ao2 N cv2)) ∧ ∃ ba' cap' bs', PD (x2.setCell ⟨bx, 0, none⟩ (.slice ao2 N cv2)) bx ⟨S.segs.eraseIdx k, S.left, S.room⟩ ba' cap' bs' ∧ (∀ b ∈ bs', b ∈ bs) ∧ (ba' = ba ∨ wr.heap.size ≤ ba') := by
  have hbx := h.head.lt
  have hold : ∀ j, j < wr.heap.size → x2.heap[j]? = wr.heap[j]? := fun j hj => (gr2.block j (Nat.lt_of_lt_of_le hj gr1.size) (same_ne sm1 hj)).trans (gr1.block j hj (by simp [Value.ownBlock]))
  have hoff : Off [bx] wr x2 := ⟨gr2.os.trans gr1.os, gr2.tape.trans gr1.tape, gr2.output.trans gr1.output, Nat.le_trans gr1.size gr2.size, fun j hj _ => hold j hj⟩
  have hE : bs.eraseIdx k = bs.take k ++ bs.drop (k + 1) := List.eraseIdx_eq_take_drop_succ ..
  have hP : ptrs (bs.take k) ++ ptrs (bs.drop (k + 1)) = ptrs (bs.eraseIdx k) := by rw [hE, ptrs, ptrs, ptrs, List.map_append]
  rw [hP] at o2
  have hlen : (bs.eraseIdx k).length = N := by have := o2.1; simpa [ptrs] using this
  have hX : Sits x2 bx 55 #[sl ba bs.length cap, .int .i64 S.left, .int .i64 S.room] := by
    unfold Sits
    rw [hold bx hbx]
    exact h.head
  have hseg : ∀ (i b : Nat) (s : Seg), (bs.eraseIdx k)[i]? = some b → (S.segs.eraseIdx k)[i]? = some s → Sits (x2.setCell ⟨bx, 0, none⟩ (.slice ao2 N cv2)) b 129 (segCells s) := by
    intro i b s hi hs
    rw [List.getElem?_eraseIdx] at hi hs
    obtain ⟨j, hj, hsj⟩ : ∃ j, bs[j]? = some b ∧ S.segs[j]? = some s := by
      split at hi
      · rw [if_pos (by assumption)] at hs
        exact ⟨i, hi, hs⟩
      · rw [if_neg (by assumption)] at hs
        exact ⟨i + 1, hi, hs⟩
    have hS := h.seg j b s hj hsj
    have hl := hS.lt
    refine Sits.but (b := bx) (w := x2) ?_ ((But.refl bx x2).set _ _) (h.ne_seg (List.mem_of_getElem? hj)).1
    unfold Sits
    rw [hold b hl]
    exact hS
  have hap := h.apart
  rw [List.nodup_cons, List.nodup_cons] at hap
  refine ⟨hoff.set (List.mem_cons_self ..) _ _, ?_⟩
  rcases o2.2 with ⟨hv, h0⟩ | ⟨g, cap', cur, hv, _, hg, hnc, hcm, hcs, htk⟩
  · refine ⟨ba, cap, [], ⟨?_, ?_, fun hne => absurd rfl hne, fun i b s hi => by simp at hi, ?_, fun hne => absurd rfl hne⟩, fun b hb => (by cases hb), Or.inl rfl⟩
    · rw [hv]
      exact hX.set 0 _
    · have := h.len
      have h1 : (S.segs.eraseIdx k).length = (bs.eraseIdx k).length := by rw [List.length_eraseIdx, List.length_eraseIdx, this]
      rw [h1, hlen, h0]
      rfl
    · rw [List.nodup_cons]
      exact ⟨fun e => hap.1 (by rw [List.mem_singleton] at e; rw [e]; exact List.mem_cons_self ..), by simp⟩
  · have hN0 : N ≠ 0 := by
      intro e
      have hk0 : k = 0 := by omega
      have hv1 := nn1.2 ⟨rfl, hk0⟩
      have hv2 := nn2.2 ⟨hv1, by omega⟩
      rw [hv2] at hv
      cases hv
    have hgL : wr.heap.size ≤ g := by
      rw [hv] at sm2
      rcases sm2 with e | ⟨g', e, hg'⟩
      · rcases sm1 with e1 | ⟨g1, e1, hg1⟩
        · rw [e1] at e
          simp [Value.ownBlock] at e
        · rw [e1] at e
          simp [Value.ownBlock] at e
          subst e
          exact hg1
      · simp [Value.ownBlock] at e
        subst e
        exact Nat.le_trans gr1.size hg'
    have hgx : g ≠ bx := by omega
    refine ⟨g, cap', bs.eraseIdx k, ⟨?_, ?_, fun hne => ⟨cur, ?_, by simpa using hcs, by rw [hlen]; exact hnc, fun i b hi => ?_⟩, hseg, ?_, fun _ => hcm⟩, fun b hb => List.mem_of_mem_eraseIdx hb, Or.inr hgL⟩
    · have := hX.set 0 (.slice ao2 N cv2)
      have e : sl g (bs.eraseIdx k).length cap' = .slice ao2 N cv2 := by
        rw [hlen, sl, if_neg hN0, hv]
      rw [e]
      exact this
    · rw [List.length_eraseIdx, List.length_eraseIdx, h.len]
    · exact Sits.but (b := bx) (w := x2) hg ((But.refl bx x2).set _ _) hgx
    · have h1 : (ptrs (bs.eraseIdx k))[i]? = some (.pointer (some ⟨b, 0, none⟩)) := by rw [ptrs, List.getElem?_map, hi]; rfl
      rw [← htk, List.getElem?_take] at h1
      split at h1
      · simpa using h1
      · cases h1
    · rw [List.nodup_cons, List.nodup_cons]
      have hlt : ∀ b ∈ bs, b < wr.heap.size := fun b hb => by
        obtain ⟨i, hi⟩ := List.getElem?_of_mem hb
        obtain ⟨s, hs⟩ : ∃ s, S.segs[i]? = some s := ⟨_, List.getElem?_eq_getElem (by rw [← h.len]; exact (List.getElem?_eq_some_iff.1 hi).1)⟩
        exact (h.seg i b s hi hs).lt
      refine ⟨fun e => ?_, fun e => ?_, hap.2.2.sublist (List.eraseIdx_sublist ..)⟩
      · rcases List.mem_cons.1 e with e | e
        · omega
        · exact hap.1 (List.mem_cons_of_mem _ (List.mem_of_mem_eraseIdx e))
      · have := hlt g (List.mem_of_mem_eraseIdx e)
        omega
set_option maxRecDepth 10000 in
theorem delete (bx ba cap : Nat) (bs : List Nat) (S : Dk) (n : Int) (w : World) (hP : PD w bx S ba cap bs) (hG : Dm.Good S) (hl : bs.length ≤ 1000000000) :
    Calls Tryz.prog 72 #[.pointer (some ⟨bx, 0, none⟩), .int .i64 n] w fun e w' => e = .returned (.int .i64 (doDelete S n).2) ∧ Off [bx] w w' ∧ ∃ ba' cap' bs', PD w' bx (doDelete S n).1 ba' cap' bs' ∧ (∀ b ∈ bs', b ∈ bs) ∧ (ba' = ba ∨ w.heap.size ≤ ba') := by
  have HP := hide hP
  have HG := hide hG
  clear hP hG
  go_enter Tryz.func72, Tryz.ntmps72
  go_wp2_with fail
  refine (operation bx S _ w HP.out.head HG.out.left).mono ?_
  rintro e w1 ⟨rfl, hb1, hs1⟩
  by_cases h0 : S.left = 0
  · have hd : decide (S.left = 0) = true := decide_eq_true h0
    have HE := hide (show doDelete S n = (S, 8) from if_pos h0)
    rw [if_pos h0] at hs1
    have HQ := hide (HP.out.turned hb1 hs1)
    have HB := hide hb1
    clear hb1 hs1 h0
    rw [hd]
    go_wp2_with fail
    go_ret
    rw [HE.out]
    exact ⟨rfl, Off.of_but HB.out (List.mem_cons_self ..), ba, cap, bs, HQ.out, fun _ h => h, Or.inl rfl⟩
  · have hd : decide (S.left = 0) = false := decide_eq_false h0
    rw [op_left h0] at hs1
    have HQ := hide (HP.out.turned hb1 hs1)
    have HB := hide hb1
    have H0 := hide h0
    clear hb1 hs1 h0
    rw [hd]
    obtain ⟨c0, c1, c2, f0, f1, f2⟩ := head3 HQ.out.head
    unfold sl at c0
    by_cases hz : bs.length = 0
    · rw [if_pos hz] at c0
      have hsn : S.segs = [] := List.eq_nil_of_length_eq_zero (HP.out.len ▸ hz)
      have HE := hide (show doDelete S n = (op S, 9) by rw [doDelete, if_neg H0.out, hsn]; rfl)
      clear hz hsn
      go_wp2_with fail
      go_loopw [15] (fun s15 wr => s15 = .int .i64 0 ∧ wr = w1) (fun _ _ => 0)
      case atStart => exact ⟨rfl, rfl⟩
      case round =>
        obtain ⟨rfl, rfl⟩ := hrel
        go_wp2_with fail
        go_ret
        rw [HE.out]
        exact ⟨rfl, Off.of_but HB.out (List.mem_cons_self ..), ba, cap, bs, HQ.out, fun _ h => h, Or.inl rfl⟩
    · rw [if_neg hz] at c0
      obtain ⟨cs, hA, hcs, hcap, hptr⟩ := HQ.out.arr (fun e => hz (by rw [e]; rfl))
      have HA := hide hA
      have HPT := hide hptr
      clear hA hptr hcs
      go_wp2_with fail
      go_loopw [15] (fun s15 wr => ∃ k : Nat, s15 = .int .i64 (k : Int) ∧ wr = w1 ∧ k ≤ bs.length ∧ Hid (∀ j t, j < k → S.segs[j]? = some t → t.num ≠ n)) (fun s15 _ => bs.length - (intOf s15).toNat)
      case atStart => exact ⟨0, rfl, rfl, by omega, fun j t h => by omega⟩
      case round =>
        obtain ⟨k, rfl, rfl, hk, HBF⟩ := hrel
        by_cases hkl : k < bs.length
        · have hkz : (k : Int) < (bs.length : Int) := by omega
          obtain ⟨b, hb⟩ : ∃ b, bs[k]? = some b := ⟨_, List.getElem?_eq_getElem hkl⟩
          obtain ⟨s, hs⟩ : ∃ s, S.segs[k]? = some s := ⟨_, List.getElem?_eq_getElem (by rw [← HP.out.len]; exact hkl)⟩
          have a0 := HA.out.cell k _ (HPT.out k b hb)
          obtain ⟨b0, b1, b2, g0, g1, g2⟩ := head3 (HQ.out.seg k b s hb hs)
          have HS := hide hs
          clear hb hs
          by_cases hsn : s.num = n
          · have hnb : (s.num == n) = true := by simpa using hsn
            have HSRC1 := hide (show Apn.Src wr.drew 1 (some ⟨ba, 0, none⟩) k (ptrs (bs.take k)) from src_ptrs (o := 0) (by simp; omega) (fun j b hj => by
              rw [List.getElem?_take] at hj
              split at hj
              · rw [Nat.zero_add]
                exact HA.out.cell j _ (HPT.out j b hj)
              · cases hj) (Or.inr rfl))
            have HSRC2 := hide (show ∀ x : World, x.heap[ba]? = wr.heap[ba]? → Apn.Src x 1 (if cap = k + 1 then some ⟨ba, 0, none⟩ else some ⟨ba, k + 1, none⟩) (bs.length - (k + 1)) (ptrs (bs.drop (k + 1))) from fun x hx => src_ptrs (o := k + 1) (by simp) (fun j b hj => by
              rw [List.getElem?_drop] at hj
              rw [World.cell?_of_block (w := wr) hx]
              exact HA.out.cell (k + 1 + j) _ (HPT.out (k + 1 + j) b hj)) (by
              by_cases e : cap = k + 1
              · exact Or.inl (by omega)
              · exact Or.inr (if_neg e)))
            obtain ⟨i0, hi, hz0, hz1, hz2⟩ := info_parts hiPtr
            have hkc : k ≤ cap := by omega
            have hkw : IntKind.i64.wrap ((k : Int) + 1) = ((k + 1 : Nat) : Int) := by
              simp [IntKind.wrap, IntKind.bits, IntKind.signed]
              omega
            have hk1 : k + 1 ≤ bs.length := by omega
            have hk2 : 0 ≤ (k : Int) + 1 := by omega
            have hk3 : (k : Int) + 1 ≤ (bs.length : Int) := by omega
            have HBX := hide HQ.out.head.lt
            have HBA := hide HA.out.lt
            go_wp2_with fail
            go_region_law (first | (refine Apn.step_any rfl (.const (.slice none 0 0)) (.tmp 32) 53 rfl 127 i0 (.pointer none) 1 8 Tryz.underlying53 hi hz0 hz1 hz2 rfl (by decide) (.slice none 0 0) 0 [] rfl (World.ownsRow_nil _ _ _ _) _ _ _ (ptrs (bs.take k)) rfl HSRC1.out (by unfold maxLen; omega) (by omega) ?_; intro v1 x1 o1 gr1 sm1 nn1; have c0x := gr1.cell (a := ⟨bx, 0, none⟩) c0 (by simp [Value.ownBlock]) ) | (refine Apn.step_any rfl (.tmp 33) (.tmp 40) 53 rfl 127 i0 (.pointer none) 1 8 Tryz.underlying53 hi hz0 hz1 hz2 rfl (by decide) v1 _ _ rfl o1 _ _ _ (ptrs (bs.drop (k + 1))) rfl (HSRC2.out _ (gr1.block ba HBA.out (by simp [Value.ownBlock]))) (by unfold maxLen; omega) (by omega) ?_; intro v2 x2 o2 gr2 sm2 nn2; obtain ⟨ao2, cv2, rfl⟩ := Own.shape o2; have bxy : x2.heap[bx]? = wr.heap[bx]? := (gr2.block bx (Nat.lt_of_lt_of_le HBX.out gr1.size) (same_ne sm1 HBX.out)).trans (gr1.block bx HBX.out (by simp [Value.ownBlock])); have c0y := (World.cell?_of_block (w := wr) (w' := x2) (a := ⟨bx, 0, none⟩) bxy).trans c0; have f0y := (World.frozen?_of_block (w := wr) (w' := x2) (a := ⟨bx, 0, none⟩) bxy).trans f0; have BXY := hide bxy; clear bxy))
            all_goals
              simp only [Nat.zero_add, List.nil_append] at o2 sm2 nn2
              have HDEL := hide (deleted HQ.out rfl gr1 sm1 nn1 gr2 o2 sm2 nn2)
              have HE := hide (show doDelete S n = (⟨S.segs.eraseIdx k, (op S).left, S.room⟩, 0) by rw [doDelete, if_neg H0.out, place_at HBF.out HS.out hsn]; rfl)
              clear gr1 sm1 nn1 gr2 o2 sm2 nn2 o1
              go_wp2_with fail
              all_goals
                go_ret
                rw [HE.out]
                obtain ⟨ho, ba', cap', bs', hp, hm, hba⟩ := HDEL.out
                exact ⟨rfl, (Off.of_but HB.out (List.mem_cons_self ..)).trans ho, ba', cap', bs', hp, hm, hba.imp id (Nat.le_trans HB.out.size)⟩
          · have hnb : (s.num == n) = false := by simpa using hsn
            have HF := hide (show ∀ j t, j < k + 1 → S.segs[j]? = some t → t.num ≠ n from fun j t hj ht => by
              by_cases e : j = k
              · subst e
                rw [HS.out] at ht
                cases ht
                exact hsn
              · exact HBF.out j t (by omega) ht)
            clear hsn
            go_wp2_with fail
            go_roundw
            case rel => exact ⟨k + 1, by go_num, trivial, by omega, HF.out⟩
            case measure => simp [intOf]; omega
        · have hkz : ¬ (k : Int) < (bs.length : Int) := by omega
          have HE := hide (show doDelete S n = (op S, 9) by rw [doDelete, if_neg H0.out, place_not (fun j t ht => HBF.out j t (by have := (List.getElem?_eq_some_iff.1 ht).1; have := HP.out.len; omega) ht)])
          go_wp2_with fail
          go_ret
          rw [HE.out]
          exact ⟨rfl, Off.of_but HB.out (List.mem_cons_self ..), ba, cap, bs, HQ.out, fun _ h => h, Or.inl rfl⟩
end Go.Proofs.YtmkidefdegaamaaGreatDoor.Dh
