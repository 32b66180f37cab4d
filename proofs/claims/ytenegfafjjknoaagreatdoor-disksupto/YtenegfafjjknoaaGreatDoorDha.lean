/- The program's disk: Append. -/
import Derived.Test.YtenegfafjjknoaaGreatDoorDhp
namespace Go.Proofs.YtenegfafjjknoaaGreatDoor.Dh
open Go.RowKit Mem Foot Dm

set_option maxRecDepth 10000 in
set_option maxHeartbeats 2000000 in
theorem append (bx ba cap : Nat) (bs : List Nat) (S : Dk) (n : Int) (t : ByteArray) (w : World) (hP : PD w bx S ba cap bs) (hG : Dm.Good S) (hl : bs.length ≤ 1000000000) (hu : Dm.used S.segs + t.size ≤ 1000000000000) :
    Calls Tryz.prog 46 #[.pointer (some ⟨bx, 0, none⟩), .int .i64 n, .string t] w fun e w' => e = .returned (.int .i64 (doAppend S n t).2) ∧ Off (pf bx ba bs) w w' ∧ ∃ ba' cap' bs', PD w' bx (doAppend S n t).1 ba' cap' bs' ∧ ∀ b ∈ pf bx ba' bs', b ∈ pf bx ba bs ∨ w.heap.size ≤ b := by
  have HP := hide hP
  have HG := hide hG
  clear hP hG
  go_enter Tryz.func46, Tryz.ntmps46
  go_wp2_with fail
  refine (operation bx S _ w HP.out.head HG.out.left).mono ?_
  rintro e w1 ⟨rfl, hb1, hs1⟩
  by_cases h0 : S.left = 0
  · have hd : decide (S.left = 0) = true := decide_eq_true h0
    have HE := hide (show doAppend S n t = (S, 8) from if_pos h0)
    rw [if_pos h0] at hs1
    have HQ := hide (HP.out.turned hb1 hs1)
    have HB := hide hb1
    clear hb1 hs1 h0
    rw [hd]
    go_wp2_with fail
    go_ret
    rw [HE.out]
    exact ⟨rfl, Off.of_but HB.out (pf_head ..), ba, cap, bs, HQ.out, fun _ h => Or.inl h⟩
  · have hd : decide (S.left = 0) = false := decide_eq_false h0
    rw [op_left h0] at hs1
    have HQ := hide (HP.out.turned hb1 hs1)
    have HB := hide hb1
    have H0 := hide h0
    clear hb1 hs1 h0
    rw [hd]
    by_cases hn0 : n < 0
    · have HE := hide (show doAppend S n t = (op S, 9) by rw [doAppend, if_neg H0.out, if_pos hn0])
      go_wp2_with fail
      go_ret
      rw [HE.out]
      exact ⟨rfl, Off.of_but HB.out (pf_head ..), ba, cap, bs, HQ.out, fun _ h => Or.inl h⟩
    · obtain ⟨c0, c1, c2, f0, f1, f2⟩ := head3 HQ.out.head
      have hus : Dm.used S.segs ≤ 1000000000000 := by omega
      by_cases hr0 : 0 ≤ S.room
      · by_cases hru : S.room < (Dm.used S.segs : Int) + (t.size : Int)
        · have HE := hide (show doAppend S n t = (op S, 7) by rw [doAppend, if_neg H0.out, if_neg hn0, if_pos ⟨hr0, hru⟩])
          have HUS := hide (show ∀ m, Calls Tryz.prog 100 #[.pointer (some ⟨bx, 0, none⟩)] (w1.drewN m) fun e w' => e = .returned (.int .i64 (Dm.used S.segs : Int)) ∧ w' = w1.drewN m from fun m => (used bx ba cap bs (op S) (w1.drewN m) (HQ.out.drewN m) hl hus).mono fun e w' ⟨h1, h2⟩ => ⟨h2, h1.symm⟩)
          go_wp2_with fail
          go_quiet (first | (go_at_call 100; refine Calls.quiet_of_same (HUS.out _)))
          go_wp2_with fail
          go_ret
          rw [HE.out]
          exact ⟨rfl, (Off.of_but HB.out (pf_head ..)).drewN _, ba, cap, bs, HQ.out.drewN _, fun _ h => Or.inl h⟩
        · have HD := hide (show doAppend S n t = ({ op S with segs := turn n (fun s => { s with text := s.text ++ t }) (ensure n S.segs) }, 0) by rw [doAppend, if_neg H0.out, if_neg hn0, if_neg (fun h => hru h.2)])
          have HUS := hide (show ∀ m, Calls Tryz.prog 100 #[.pointer (some ⟨bx, 0, none⟩)] (w1.drewN m) fun e w' => e = .returned (.int .i64 (Dm.used S.segs : Int)) ∧ w' = w1.drewN m from fun m => (used bx ba cap bs (op S) (w1.drewN m) (HQ.out.drewN m) hl hus).mono fun e w' ⟨h1, h2⟩ => ⟨h2, h1.symm⟩)
          go_wp2_with fail
          go_quiet (first | (go_at_call 100; refine Calls.quiet_of_same (HUS.out _)))
          go_wp2_with fail
          refine (find bx ba cap bs (op S) n (w1.drewN nq) (HQ.out.drewN nq) hl).mono ?_
          rintro e w2 ⟨rfl, rfl⟩
          have HO := hide ((Off.of_but HB.out (pf_head bx ba bs)).drewN nq)
          have HR := hide (HQ.out.drewN nq)
          have HSZ := hide HB.out.size
          clear c0 c1 c2 f0 f1 f2
          rw [show w1.heap.size = (w1.drewN nq).heap.size from rfl] at HSZ
          generalize w1.drewN nq = w2 at *
          clear HQ HB
          obtain ⟨c0, c1, c2, f0, f1, f2⟩ := head3 HR.out.head
          cases hp : place n S.segs with
          | some k =>
            obtain ⟨s, hs, hn⟩ := place_some hp
            obtain ⟨b, hb⟩ : ∃ b, bs[k]? = some b := ⟨_, List.getElem?_eq_getElem (by rw [HP.out.len]; exact (List.getElem?_eq_some_iff.1 hs).1)⟩
            have HE := hide (show doAppend S n t = (⟨S.segs.set k { s with text := s.text ++ t }, (op S).left, S.room⟩, 0) by rw [HD.out, ensure_there HG.out.rise hs hn, turn_set HG.out.rise hs hn]; rfl)
            rw [ptr_at (S := op S) hp hb]
            have hS := HR.out.seg k b s hb hs
            obtain ⟨b0, b1, b2, g0, g1, g2⟩ := head3 hS
            have hst : s.text.size + t.size ≤ 1000000000000 := by
              have := used_mem (List.mem_of_getElem? hs)
              omega
            have HS := hide hS
            have HK := hide hb
            clear hp hs hn hb hS
            go_wp2_with fail
            go_ret
            rw [HE.out]
            exact ⟨rfl, HO.out.set (pf_seg (List.mem_of_getElem? HK.out)) _ _, ba, cap, bs, HR.out.seg_turned HK.out ((But.refl _ _).set _ _) (HS.out.set 1 _), fun _ h => Or.inl h⟩
          | none =>
            rw [ptr_none (S := op S) hp]
            have HPN := hide (place_none hp)
            clear hp
            obtain ⟨ao, cv, hsl⟩ := Own.shape HR.out.owns
            have HOW := hide HR.out.owns
            have HSL := hide hsl
            have hbx := HR.out.head.lt
            obtain ⟨i0, hi, hz0, hz1, hz2⟩ := info_parts hiPtr
            rw [hsl] at c0
            clear hsl
            go_wp2_with (at_builtin; refine Apn.wpList_any _ rfl _ _ 99 rfl 146 i0 (.pointer none) 1 8 Tryz.underlying99 hi hz0 hz1 hz2 rfl (by decide) _ _ (ptrs bs) rfl (own_two HOW.out HSL.out _ _) _ 1 1 [.pointer (some ⟨w2.heap.size, 0, none⟩)] rfl (src_one _ _ _ _ (by simp)) (by unfold maxLen; omega) (by omega) ?_; intro v2 w3 o2 gr2 sm2 nn2; obtain ⟨ao2, cv2, rfl⟩ := Own.shape o2; obtain ⟨ga, rfl, hc3, hf3, hp3, ho3, hg3⟩ := grown HR.out HSL.out o2 gr2 sm2; have HP3 := hide hp3; have HO3 := hide ho3; have HG3 := hide hg3; clear hp3 ho3 hg3 o2 gr2 sm2 nn2)
            clear c0 c1 c2 f0 f1 f2 hc3 hf3
            have hbl : (bs ++ [w2.heap.size]).length = bs.length + 1 := by simp
            have hsg : (S.segs ++ [(⟨n, ⟨#[]⟩, 0⟩ : Seg)]).length = bs.length + 1 := by simp [HP.out.len]
            generalize w3.setCell ⟨bx, 0, none⟩ (.slice (some ⟨ga, 0, none⟩) (bs.length + 1) cv2) = w4 at *
            obtain ⟨cs, hA, hcs, hcap, hptr⟩ := HP3.out.arr (by simp)
            refine (sort ga cv2 (bs ++ [w2.heap.size]) (S.segs ++ [(⟨n, ⟨#[]⟩, 0⟩ : Seg)]) hbl hsg w4 cs hA (by rw [hcs, ← hbl]; exact hcap) hptr (fun i b s h1 h2 => (HP3.out.seg i b s h1 h2).cell 0 _ rfl) (fun b hb => (HP3.out.ne_seg hb).2) (by omega)).mono ?_
            rintro e w5 ⟨rfl, d, hd, hds, hbut5, cur', hg5, hsz5, hcur5⟩
            have hat : at_ (S.segs ++ [(⟨n, ⟨#[]⟩, 0⟩ : Seg)]) hsg d = ensure n S.segs := at_sorted hsg HG.out.rise HPN.out hd hds
            obtain ⟨k, hk1, hk2⟩ := new_block (g := w2.heap.size) hbl hsg HG.out.rise HPN.out hd hat
            have hp5 := permuted HP3.out hbl hsg hd hbut5 hA hg5 hsz5 hcur5
            rw [hat] at hp5
            obtain ⟨b0, b1, b2, g0, g1, g2⟩ := head3 (hp5.seg k w2.heap.size _ hk2 hk1)
            have HS5 := hide (hp5.seg k w2.heap.size _ hk2 hk1)
            have HP5 := hide hp5
            have HK2 := hide hk2
            have HO5 := hide (off_but (HO.out.trans (HO3.out.mono fun k _ h => h)) hbut5 (HG3.out.imp id (Nat.le_trans HSZ.out)))
            have HE := hide (show doAppend S n t = (⟨(ensure n S.segs).set k { (⟨n, ⟨#[]⟩, 0⟩ : Seg) with text := ⟨#[]⟩ ++ t }, (op S).left, S.room⟩, 0) by rw [HD.out, turn_set (ensure_rise HG.out.rise) hk1 rfl]; rfl)
            have htz : t.size ≤ 1000000000000 := by omega
            have HFT := hide (show ∀ b ∈ pf bx ga (bat (bs ++ [w2.heap.size]) hbl d), b ∈ pf bx ba bs ∨ w.heap.size ≤ b from pf_sub (HG3.out.imp id (Nat.le_trans HSZ.out)) fun b hb => by
              rcases List.mem_append.1 (bat_mem hbl hb) with e | e
              · exact Or.inl (pf_seg e)
              · rw [List.mem_singleton] at e
                rw [e]
                exact Or.inr HSZ.out)
            clear hd hds hbut5 hg5 hsz5 hcur5 hat hk1 hk2 hp5 hA hcs hcap hptr
            go_wp2_with fail
            go_ret
            rw [HE.out]
            have hb : But w2.heap.size w5 (w5.setCell ⟨w2.heap.size, 1, none⟩ (.string (⟨#[]⟩ ++ t))) := (But.refl _ _).set _ _
            exact ⟨rfl, off_but HO5.out hb (Or.inr HSZ.out), ga, cv2, _, HP5.out.seg_turned HK2.out hb (HS5.out.set 1 _), HFT.out⟩
      · have HD := hide (show doAppend S n t = ({ op S with segs := turn n (fun s => { s with text := s.text ++ t }) (ensure n S.segs) }, 0) by rw [doAppend, if_neg H0.out, if_neg hn0, if_neg (fun h => hr0 h.1)])
        have hrd : decide (0 ≤ S.room) = false := decide_eq_false hr0
        go_wp2_with fail
        go_quiet (fail)
        go_wp2_with fail
        refine (find bx ba cap bs (op S) n (w1.drewN nq) (HQ.out.drewN nq) hl).mono ?_
        rintro e w2 ⟨rfl, rfl⟩
        have HO := hide ((Off.of_but HB.out (pf_head bx ba bs)).drewN nq)
        have HR := hide (HQ.out.drewN nq)
        have HSZ := hide HB.out.size
        clear c0 c1 c2 f0 f1 f2
        rw [show w1.heap.size = (w1.drewN nq).heap.size from rfl] at HSZ
        generalize w1.drewN nq = w2 at *
        clear HQ HB
        obtain ⟨c0, c1, c2, f0, f1, f2⟩ := head3 HR.out.head
        cases hp : place n S.segs with
        | some k =>
          obtain ⟨s, hs, hn⟩ := place_some hp
          obtain ⟨b, hb⟩ : ∃ b, bs[k]? = some b := ⟨_, List.getElem?_eq_getElem (by rw [HP.out.len]; exact (List.getElem?_eq_some_iff.1 hs).1)⟩
          have HE := hide (show doAppend S n t = (⟨S.segs.set k { s with text := s.text ++ t }, (op S).left, S.room⟩, 0) by rw [HD.out, ensure_there HG.out.rise hs hn, turn_set HG.out.rise hs hn]; rfl)
          rw [ptr_at (S := op S) hp hb]
          have hS := HR.out.seg k b s hb hs
          obtain ⟨b0, b1, b2, g0, g1, g2⟩ := head3 hS
          have hst : s.text.size + t.size ≤ 1000000000000 := by
            have := used_mem (List.mem_of_getElem? hs)
            omega
          have HS := hide hS
          have HK := hide hb
          clear hp hs hn hb hS
          go_wp2_with fail
          go_ret
          rw [HE.out]
          exact ⟨rfl, HO.out.set (pf_seg (List.mem_of_getElem? HK.out)) _ _, ba, cap, bs, HR.out.seg_turned HK.out ((But.refl _ _).set _ _) (HS.out.set 1 _), fun _ h => Or.inl h⟩
        | none =>
          rw [ptr_none (S := op S) hp]
          have HPN := hide (place_none hp)
          clear hp
          obtain ⟨ao, cv, hsl⟩ := Own.shape HR.out.owns
          have HOW := hide HR.out.owns
          have HSL := hide hsl
          have hbx := HR.out.head.lt
          obtain ⟨i0, hi, hz0, hz1, hz2⟩ := info_parts hiPtr
          rw [hsl] at c0
          clear hsl
          go_wp2_with (at_builtin; refine Apn.wpList_any _ rfl _ _ 99 rfl 146 i0 (.pointer none) 1 8 Tryz.underlying99 hi hz0 hz1 hz2 rfl (by decide) _ _ (ptrs bs) rfl (own_two HOW.out HSL.out _ _) _ 1 1 [.pointer (some ⟨w2.heap.size, 0, none⟩)] rfl (src_one _ _ _ _ (by simp)) (by unfold maxLen; omega) (by omega) ?_; intro v2 w3 o2 gr2 sm2 nn2; obtain ⟨ao2, cv2, rfl⟩ := Own.shape o2; obtain ⟨ga, rfl, hc3, hf3, hp3, ho3, hg3⟩ := grown HR.out HSL.out o2 gr2 sm2; have HP3 := hide hp3; have HO3 := hide ho3; have HG3 := hide hg3; clear hp3 ho3 hg3 o2 gr2 sm2 nn2)
          clear c0 c1 c2 f0 f1 f2 hc3 hf3
          have hbl : (bs ++ [w2.heap.size]).length = bs.length + 1 := by simp
          have hsg : (S.segs ++ [(⟨n, ⟨#[]⟩, 0⟩ : Seg)]).length = bs.length + 1 := by simp [HP.out.len]
          generalize w3.setCell ⟨bx, 0, none⟩ (.slice (some ⟨ga, 0, none⟩) (bs.length + 1) cv2) = w4 at *
          obtain ⟨cs, hA, hcs, hcap, hptr⟩ := HP3.out.arr (by simp)
          refine (sort ga cv2 (bs ++ [w2.heap.size]) (S.segs ++ [(⟨n, ⟨#[]⟩, 0⟩ : Seg)]) hbl hsg w4 cs hA (by rw [hcs, ← hbl]; exact hcap) hptr (fun i b s h1 h2 => (HP3.out.seg i b s h1 h2).cell 0 _ rfl) (fun b hb => (HP3.out.ne_seg hb).2) (by omega)).mono ?_
          rintro e w5 ⟨rfl, d, hd, hds, hbut5, cur', hg5, hsz5, hcur5⟩
          have hat : at_ (S.segs ++ [(⟨n, ⟨#[]⟩, 0⟩ : Seg)]) hsg d = ensure n S.segs := at_sorted hsg HG.out.rise HPN.out hd hds
          obtain ⟨k, hk1, hk2⟩ := new_block (g := w2.heap.size) hbl hsg HG.out.rise HPN.out hd hat
          have hp5 := permuted HP3.out hbl hsg hd hbut5 hA hg5 hsz5 hcur5
          rw [hat] at hp5
          obtain ⟨b0, b1, b2, g0, g1, g2⟩ := head3 (hp5.seg k w2.heap.size _ hk2 hk1)
          have HS5 := hide (hp5.seg k w2.heap.size _ hk2 hk1)
          have HP5 := hide hp5
          have HK2 := hide hk2
          have HO5 := hide (off_but (HO.out.trans (HO3.out.mono fun k _ h => h)) hbut5 (HG3.out.imp id (Nat.le_trans HSZ.out)))
          have HE := hide (show doAppend S n t = (⟨(ensure n S.segs).set k { (⟨n, ⟨#[]⟩, 0⟩ : Seg) with text := ⟨#[]⟩ ++ t }, (op S).left, S.room⟩, 0) by rw [HD.out, turn_set (ensure_rise HG.out.rise) hk1 rfl]; rfl)
          have htz : t.size ≤ 1000000000000 := by omega
          have HFT := hide (show ∀ b ∈ pf bx ga (bat (bs ++ [w2.heap.size]) hbl d), b ∈ pf bx ba bs ∨ w.heap.size ≤ b from pf_sub (HG3.out.imp id (Nat.le_trans HSZ.out)) fun b hb => by
            rcases List.mem_append.1 (bat_mem hbl hb) with e | e
            · exact Or.inl (pf_seg e)
            · rw [List.mem_singleton] at e
              rw [e]
              exact Or.inr HSZ.out)
          clear hd hds hbut5 hg5 hsz5 hcur5 hat hk1 hk2 hp5 hA hcs hcap hptr
          go_wp2_with fail
          go_ret
          rw [HE.out]
          have hb : But w2.heap.size w5 (w5.setCell ⟨w2.heap.size, 1, none⟩ (.string (⟨#[]⟩ ++ t))) := (But.refl _ _).set _ _
          exact ⟨rfl, off_but HO5.out hb (Or.inr HSZ.out), ga, cv2, _, HP5.out.seg_turned HK2.out hb (HS5.out.set 1 _), HFT.out⟩

end Go.Proofs.YtenegfafjjknoaaGreatDoor.Dh
