/- The document's disk: Append. -/
import Derived.Test.YtenegfafjjknoaaGreatDoorDrm
import Derived.Test.YtenegfafjjknoaaGreatDoorDhp
namespace Go.Proofs.YtenegfafjjknoaaGreatDoor.Dr
open Go.RowKit Mem Foot Dm Dh

theorem sl_shape (da n cap : Nat) : ∃ ao cv, sl da n cap = .slice ao n cv ∧ (n ≠ 0 → ao = some ⟨da, 0, none⟩ ∧ cv = cap) ∧ (n = 0 → ao = none ∧ cv = 0) := by
  by_cases h : n = 0
  · exact ⟨none, 0, by rw [sl, if_pos h, h], fun e => absurd h e, fun _ => ⟨rfl, rfl⟩⟩
  · exact ⟨some ⟨da, 0, none⟩, cap, by rw [sl, if_neg h], fun _ => ⟨rfl, rfl⟩, fun e => absurd e h⟩

/-- The new array, laid into the disk: its cells. -/
theorem inserted {w : World} {dx base N c k : Nat} {v0 : Value} {l : List Seg} {s : Seg} {a b : Int} {a3 : Option Addr} (hX : Sits w dx 104 #[v0, .int .i64 a, .int .i64 b]) (ho : w.ownsRow base 153 3 (.slice a3 N c) N (rows l)) (hN : N = l.length) (hdx : dx < base) (hk : l[k]? = some s) :
    ∃ g, a3 = some ⟨g, 0, none⟩ ∧ base ≤ g ∧ RD (w.setCell ⟨dx, 0, none⟩ (.slice (some ⟨g, 0, none⟩) N c)) dx ⟨l, a, b⟩ g c := by
  have hkl := (List.getElem?_eq_some_iff.1 hk).1
  obtain ⟨g, c', h1, h2, h3⟩ := laid hX ho hN (fun e => by omega) hdx
  have hv := h3 (ne_of_get hk)
  injection hv with e1 _ e2
  subst e1
  subst e2
  exact ⟨g, rfl, h2, h1⟩

/-- The rest of the old array as an append's source. -/
theorem src_rest {w : World} {dx da cap k : Nat} {S : Dk} {ao : Option Addr} (h : RD w dx S da cap) (ha : S.segs.length - k = 0 ∨ ao = some ⟨da, k * 3, none⟩) : Apn.Src w 3 ao (S.segs.length - k) (rows (S.segs.drop k)) := by
  refine ⟨by rw [rows_length, List.length_drop], rows_oneCell _, ?_⟩
  by_cases hz : S.segs.length - k = 0
  · exact Or.inl hz
  · refine Or.inr ⟨_, ha.resolve_left hz, fun j u hu => ?_⟩
    have hne : S.segs ≠ [] := fun e => by rw [e] at hz; simp at hz
    obtain ⟨cs, h1, _, _, _, h4⟩ := h.arr hne
    rw [Addr.add_lit]
    refine h1.cell _ _ (at_row h4 ?_)
    rw [← rows_drop, List.getElem?_drop] at hu
    exact hu

/-- The three parts of the new array. -/
theorem joined (l : List Seg) (k : Nat) (n : Int) : rows (l.take k) ++ [.int .i64 n, .string ⟨#[]⟩, .int .i64 0] ++ rows (l.drop k) = rows (l.take k ++ ⟨n, ⟨#[]⟩, 0⟩ :: l.drop k) := by
  rw [rows_append, List.append_assoc]
  rfl

theorem own_eq {w : World} {base n size : Nat} {e : TypeId} {v : Value} {xs ys : List Value} (h : w.ownsRow base e size v n xs) (he : xs = ys) : w.ownsRow base e size v n ys := he ▸ h

set_option maxRecDepth 10000 in
set_option maxHeartbeats 4000000 in
theorem append (dx da cap : Nat) (S : Dk) (n : Int) (t : ByteArray) (w : World) (hP : RD w dx S da cap) (hG : Dm.Good S) (hl : S.segs.length ≤ 1000000000) (hu : Dm.used S.segs + t.size ≤ 1000000000000) :
    Calls Tryz.prog 47 #[.pointer (some ⟨dx, 0, none⟩), .int .i64 n, .string t] w fun e w' => e = .returned (.int .i64 (doAppend S n t).2) ∧ Off (rf dx da S.segs) w w' ∧ ∃ da' cap', RD w' dx (doAppend S n t).1 da' cap' ∧ ∀ b ∈ rf dx da' (doAppend S n t).1.segs, b ∈ rf dx da S.segs ∨ w.heap.size ≤ b := by
  have HP := hide hP
  have HG := hide hG
  clear hP hG
  go_enter Tryz.func47, Tryz.ntmps47
  go_wp2_with fail
  refine (may dx S _ w HP.out.head HG.out.left).mono ?_
  rintro e w1 ⟨rfl, hb1, hs1⟩
  by_cases h0 : S.left = 0
  · have hd : decide (S.left = 0) = true := decide_eq_true h0
    have HE := hide (show doAppend S n t = (S, 8) from if_pos h0)
    rw [if_pos h0] at hs1
    have HQ := hide (HP.out.turned hb1 hs1)
    have HB := hide hb1
    clear hb1 hs1 h0
    rw [hd]
    go_wp2_with fail
    go_ret
    rw [HE.out]
    exact ⟨rfl, Off.of_but HB.out (rf_head ..), da, cap, HQ.out, fun _ h => Or.inl h⟩
  · have hd : decide (S.left = 0) = false := decide_eq_false h0
    rw [op_left h0] at hs1
    have HQ := hide (HP.out.turned hb1 hs1)
    have HB := hide hb1
    have H0 := hide h0
    clear hb1 hs1 h0
    rw [hd]
    by_cases hn0 : n < 0
    · have HE := hide (show doAppend S n t = (op S, 9) by rw [doAppend, if_neg H0.out, if_pos hn0])
      go_wp2_with fail
      go_ret
      rw [HE.out]
      exact ⟨rfl, Off.of_but HB.out (rf_head ..), da, cap, HQ.out, fun _ h => Or.inl h⟩
    · obtain ⟨c0, c1, c2, f0, f1, f2⟩ := head3 HQ.out.head
      obtain ⟨ao, cv, hsl, hn1, hn2⟩ := sl_shape da S.segs.length cap
      rw [hsl] at c0
      have HSL := hide hsl
      have HN1 := hide hn1
      have HN2 := hide hn2
      clear hsl hn1 hn2
      have HN0 := hide hn0
      have HDX := hide HQ.out.head.lt
      go_wp2_with fail
      go_loopw [8, 9] (fun s8 s9 wr => ∃ k m : Nat, s8 = .int .i64 (m : Int) ∧ s9 = .int .i64 (k : Int) ∧ wr = w1 ∧ k ≤ S.segs.length ∧ Hid (m = t.size + Dm.used (S.segs.take k))) (fun _ s9 _ => S.segs.length - (intOf s9).toNat)
      case atStart => exact ⟨0, t.size, rfl, rfl, rfl, by omega, rfl⟩
      case round =>
        obtain ⟨k, m, rfl, rfl, hwr, hk, HM⟩ := hrel
        subst wr
        by_cases hkl : k < S.segs.length
        · have hkz : (k : Int) < (S.segs.length : Int) := by omega
          obtain ⟨rfl, rfl⟩ := HN1.out (by omega)
          obtain ⟨s, hs⟩ : ∃ s, S.segs[k]? = some s := ⟨_, List.getElem?_eq_getElem hkl⟩
          obtain ⟨b0, b1, b2, g0, g1, g2, hcap⟩ := HQ.out.cells hs
          have HT := hide (show m + s.text.size = t.size + Dm.used (S.segs.take (k + 1)) by rw [used_take hs, HM.out]; omega)
          have hle : m + s.text.size ≤ 1000000000000 := by
            have := used_le S.segs (k + 1)
            have := HT.out
            omega
          clear hs
          go_wp2_with fail
          go_roundw
          case rel => exact ⟨k + 1, m + s.text.size, by go_num, by go_num, trivial, by omega, HT.out⟩
          case measure => simp [intOf]; omega
        · have hkz : ¬ (k : Int) < (S.segs.length : Int) := by omega
          obtain rfl : k = S.segs.length := by omega
          have hmu : m = t.size + Dm.used S.segs := by
            have := HM.out
            rwa [List.take_length] at this
          by_cases hfull : 0 ≤ S.room ∧ S.room < (m : Int)
          · have HE := hide (show doAppend S n t = (op S, 7) by rw [doAppend, if_neg H0.out, if_neg (by have := HN0.out; omega), if_pos ⟨hfull.1, by omega⟩])
            obtain ⟨hr0, hr1⟩ := hfull
            clear hmu
            go_wp2_with fail
            go_ret
            rw [HE.out]
            exact ⟨rfl, Off.of_but HB.out (rf_head ..), da, ⟨cap, HQ.out⟩, fun _ h => Or.inl h⟩
          · have HD := hide (show doAppend S n t = ({ op S with segs := turn n (fun s => { s with text := s.text ++ t }) (ensure n S.segs) }, 0) by rw [doAppend, if_neg H0.out, if_neg (by have := HN0.out; omega), if_neg (fun h => hfull ⟨h.1, by omega⟩)])
            have hor : (0 ≤ S.room ∧ ¬ S.room < (m : Int)) ∨ ¬ 0 ≤ S.room := by
              by_cases h : 0 ≤ S.room
              · exact Or.inl ⟨h, fun e => hfull ⟨h, e⟩⟩
              · exact Or.inr h
            clear hmu hfull
            rcases hor with ⟨hr0, hr1⟩ | hr0
            all_goals
              go_wp2_with fail
              refine (where_ dx da cap (op S) n w1 HQ.out hl).mono ?_
              rintro e w2 ⟨rfl, rfl⟩
              cases hp : place n S.segs with
              | some k =>
                obtain ⟨s, hs, hn⟩ := place_some hp
                have HE := hide (show doAppend S n t = (⟨S.segs.set k { s with text := s.text ++ t }, (op S).left, S.room⟩, 0) by rw [HD.out, ensure_there HG.out.rise hs hn, turn_set HG.out.rise hs hn]; rfl)
                rw [show told (place n (op S).segs) = (k : Int) from congrArg told hp]
                have hkl : k < S.segs.length := (List.getElem?_eq_some_iff.1 hs).1
                obtain ⟨rfl, rfl⟩ := HN1.out (by omega)
                obtain ⟨b0, b1, b2, g0, g1, g2, hcap⟩ := HQ.out.cells hs
                have hst : s.text.size + t.size ≤ 1000000000000 := by
                  have := used_mem (List.mem_of_getElem? hs)
                  omega
                have HS := hide hs
                clear hp hs hn
                go_wp2_with fail
                go_region
                all_goals
                  go_wp2_with fail
                  go_ret
                  rw [HE.out]
                  exact ⟨rfl, ((Off.of_but HB.out (rf_head ..)).drewN 1).set (rf_arr (ne_of_get HS.out)) _ _, da, _, (HQ.out.drewN 1).set1 HS.out (s.text ++ t), rf_sub (Or.inl (rf_arr (ne_of_get HS.out)))⟩
              | none =>
                rw [show told (place n (op S).segs) = -1 from congrArg told hp]
                have HPN := hide (place_none hp)
                clear hp
                obtain ⟨i0, hi, hz0, hz1, hz2⟩ := info_parts hiSeg
                go_wp2_with fail
                go_loopw [11, 12] (fun s11 s12 wr => ∃ (k : Nat) (a2 : Option Addr) (v2 : Nat), s11 = .slice a2 k v2 ∧ s12 = .int .i64 (k : Int) ∧ k ≤ S.segs.length ∧ wr.ownsRow w1.heap.size 153 3 (.slice a2 k v2) k (rows (S.segs.take k)) ∧ Below w1.heap.size w1 wr ∧ Hid (∀ (j : Nat) s, j < k → S.segs[j]? = some s → s.num < n)) (fun _ s12 _ => S.segs.length - (intOf s12).toNat)
                case atStart => exact ⟨0, none, 0, rfl, rfl, by omega, World.ownsRow_nil _ _ _ _, Below.refl _ _, fun j s h => by omega⟩
                case round =>
                  obtain ⟨k, a2, v2, rfl, rfl, hk, hown, hbel, HLT⟩ := hrel
                  have hsize := hbel.size
                  have hPr := HQ.out.keep hbel
                  obtain ⟨c0, c1, c2, f0, f1, f2⟩ := head3 hPr.head
                  rw [show sl da (⟨S.segs, (op S).left, S.room⟩ : Dk).segs.length cap = .slice ao S.segs.length cv from HSL.out] at c0
                  by_cases hkl : k < S.segs.length
                  · have hkz : (k : Int) < (S.segs.length : Int) := by omega
                    obtain ⟨rfl, rfl⟩ := HN1.out (by omega)
                    obtain ⟨s, hs⟩ : ∃ s, S.segs[k]? = some s := ⟨_, List.getElem?_eq_getElem hkl⟩
                    obtain ⟨b0, b1, b2, g0, g1, g2, hcap⟩ := hPr.cells hs
                    by_cases hlt : s.num < n
                    · have HKS := hide (show rows (S.segs.take k) ++ cells3 s = rows (S.segs.take (k + 1)) by rw [List.take_add_one, hs, rows_append]; rfl)
                      have HL2 := hide (show ∀ (j : Nat) x, j < k + 1 → S.segs[j]? = some x → x.num < n from fun j x hj hx => by
                        by_cases e : j = k
                        · subst e
                          rw [hs] at hx
                          cases hx
                          exact hlt
                        · exact HLT.out j x (by omega) hx)
                      clear hs hPr
                      go_wp2_with (at_builtin; refine wpList_append_own _ rfl _ _ 102 rfl w1.heap.size 153 i0 (.agg #[.int .i64 0, .string ByteArray.empty, .int .i64 0]) 3 32 Tryz.underlying102 hi hz0 hz1 hz2 rfl (by decide) _ _ _ rfl (hown.alloc _) ⟨wr.heap.size, 0, none⟩ 1 1 [.int .i64 s.num, .string s.text, .int .i64 (s.syn : Int)] rfl rfl (cell_three_new _ _ _ _ _) (fun x hx => rows_oneCell [s] x hx) (by unfold maxLen; omega) (by omega) (by simp; omega) ?_; intro v3 w3 hown3 hg3 hn3)
                      obtain ⟨ao3, cv3, rfl⟩ := Own.shape hown3
                      go_roundw
                      case rel => exact ⟨k + 1, ao3, cv3, rfl, by go_num, by omega, by rw [← HKS.out]; exact hown3, Own.below_more hbel hsize hown hg3, HL2.out⟩
                      case measure => simp [intOf]; omega
                    · have HGT := hide (show ∀ x, S.segs[k]? = some x → n < x.num from fun x hx => by
                        have := HPN.out x (List.mem_of_getElem? hx)
                        rw [hs] at hx
                        cases hx
                        omega)
                      clear hs
                      have hcvk : ¬ cv = k := by
                        have : S.segs.length ≤ cv := hcap
                        omega
                      have HSRC := hide (show ∀ x : World, Below w1.heap.size w1 x → Apn.Src x 3 (some ⟨da, k * 3, none⟩) (S.segs.length - k) (rows (S.segs.drop k)) from fun x hx => src_rest (S := op S) (HQ.out.keep hx) (Or.inr rfl))
                      have HBE := hide hbel
                      have hdxl : dx < wr.heap.size := Nat.lt_of_lt_of_le HDX.out hsize
                      clear hPr
                      go_wp2_with (first | (at_builtin; refine wpList_append_own _ rfl (.tmp 92) (.tmp 95) 102 rfl w1.heap.size 153 i0 (.agg #[.int .i64 0, .string ByteArray.empty, .int .i64 0]) 3 32 Tryz.underlying102 hi hz0 hz1 hz2 rfl (by decide) _ _ _ rfl (hown.alloc _) ⟨wr.heap.size, 0, none⟩ 1 1 [.int .i64 n, .string ⟨#[]⟩, .int .i64 0] rfl rfl (cell_three_new _ _ _ _ _) (fun x hx => rows_oneCell [⟨n, ⟨#[]⟩, 0⟩] x hx) (by unfold maxLen; omega) (by omega) (by simp; omega) ?_; intro v3 w3 o3 gr3 nn3; have hb3 := Own.below_more hbel hsize hown gr3; have cc3 := (head3 (HQ.out.keep hb3).head).1; rw [show sl da (⟨S.segs, (op S).left, S.room⟩ : Dk).segs.length _ = .slice _ S.segs.length _ from HSL.out] at cc3) | (at_builtin; refine Apn.wpList_own _ rfl (.tmp 97) (.tmp 103) 102 rfl w1.heap.size 153 i0 (.agg #[.int .i64 0, .string ByteArray.empty, .int .i64 0]) 3 32 Tryz.underlying102 hi hz0 hz1 hz2 rfl (by decide) v3 _ _ rfl o3 _ _ _ (rows (S.segs.drop k)) rfl (HSRC.out _ hb3) (by unfold maxLen; omega) (by omega) hb3.size ?_; intro v4 w4 o4 gr4 nn4; obtain ⟨a4, c4, rfl⟩ := Own.shape o4; have hb4 := Own.below_grown hb3 hb3.size o3 gr4; obtain ⟨g, rfl, hgl, hrd⟩ := inserted (k := k) (HQ.out.keep hb4).head (own_eq o4 (joined S.segs k n)) (by simp; omega) HDX.out (ensure_get hk); have cc4 := (head3 (HQ.out.keep hb4).head).1; have ff4 := (head3 (HQ.out.keep hb4).head).2.2.2.1; have HRD := hide hrd; have HGL := hide hgl; have HB4 := hide hb4; clear hrd hgl o4 gr4 nn4 hb4))
                      have HOF := hide (((Off.of_but HB.out (rf_head dx da S.segs)).trans (Off.of_below HB4.out)).set (rf_head dx da S.segs) 0 (.slice (some ⟨g, 0, none⟩) (k + 1 + (S.segs.length - k)) c4))
                      have HE := hide (show doAppend S n t = (⟨(S.segs.take k ++ (⟨n, ⟨#[]⟩, 0⟩ : Seg) :: S.segs.drop k).set k { (⟨n, ⟨#[]⟩, 0⟩ : Seg) with text := ⟨#[]⟩ ++ t }, (op S).left, S.room⟩, 0) by rw [HD.out, turn_set (n := n) (s := ⟨n, ⟨#[]⟩, 0⟩) (ensure_rise HG.out.rise) (by rw [ensure_at hk HLT.out HGT.out]; exact ensure_get hk) rfl, ensure_at hk HLT.out HGT.out]; rfl)
                      have hN : k < k + 1 + (S.segs.length - k) := by omega
                      have HGW := hide (Nat.le_trans HB.out.size HGL.out)
                      have htz : t.size ≤ 1000000000000 := by omega
                      clear hown hbel hb3 o3 gr3 nn3 cc3 cc4 ff4 c0 c1 c2 f0 f1 f2 HB4 HBE HSRC
                      generalize w4.setCell ⟨dx, 0, none⟩ (.slice (some ⟨g, 0, none⟩) (k + 1 + (S.segs.length - k)) c4) = w5 at *
                      have hlen5 : (S.segs.take k ++ (⟨n, ⟨#[]⟩, 0⟩ : Seg) :: S.segs.drop k).length = k + 1 + (S.segs.length - k) := by simp; omega
                      obtain ⟨c0, c1, c2, f0, f1, f2⟩ := head3 HRD.out.head
                      rw [show sl g (⟨S.segs.take k ++ (⟨n, ⟨#[]⟩, 0⟩ : Seg) :: S.segs.drop k, (op S).left, S.room⟩ : Dk).segs.length c4 = .slice (some ⟨g, 0, none⟩) (k + 1 + (S.segs.length - k)) c4 from by rw [show (⟨S.segs.take k ++ (⟨n, ⟨#[]⟩, 0⟩ : Seg) :: S.segs.drop k, (op S).left, S.room⟩ : Dk).segs.length = k + 1 + (S.segs.length - k) from hlen5, sl, if_neg (by omega)]] at c0
                      obtain ⟨x0, x1, x2, y0, y1, y2, hcap5⟩ := HRD.out.cells (ensure_get hk)
                      have hNc : k + 1 + (S.segs.length - k) ≤ c4 := by rw [← hlen5]; exact hcap5
                      clear hcap5 hlen5
                      go_region
                      all_goals
                        go_wp2_with fail
                        go_ret
                        rw [HE.out]
                        exact ⟨rfl, off_but (HOF.out.drewN 1) ((But.refl g _).set _ _) (Or.inr HGW.out), g, ⟨c4, (HRD.out.drewN 1).set1 (ensure_get hk) ((⟨#[]⟩ : ByteArray) ++ t)⟩, rf_sub (Or.inr HGW.out)⟩
                  · have hkz : ¬ (k : Int) < (S.segs.length : Int) := by omega
                    have HGT := hide (show ∀ x, S.segs[k]? = some x → n < x.num from fun x hx => by
                      have := (List.getElem?_eq_some_iff.1 hx).1
                      omega)
                    by_cases hzz : S.segs.length = 0
                    · obtain ⟨rfl, rfl⟩ := HN2.out hzz
                      have hk0 : k = 0 := by omega
                      subst hk0
                      have HSRC := hide (show ∀ (x : World) (ax : Option Addr) (mx : Nat), mx = 0 → Apn.Src x 3 ax mx (rows (S.segs.drop 0)) from fun x ax mx h => ⟨by rw [List.drop_eq_nil_of_le (by omega), h]; rfl, rows_oneCell _, Or.inl h⟩)
                      have HBE := hide hbel
                      have hdxl : dx < wr.heap.size := Nat.lt_of_lt_of_le HDX.out hsize
                      clear hPr
                      go_wp2_with (first | (at_builtin; refine wpList_append_own _ rfl (.tmp 92) (.tmp 95) 102 rfl w1.heap.size 153 i0 (.agg #[.int .i64 0, .string ByteArray.empty, .int .i64 0]) 3 32 Tryz.underlying102 hi hz0 hz1 hz2 rfl (by decide) _ _ _ rfl (hown.alloc _) ⟨wr.heap.size, 0, none⟩ 1 1 [.int .i64 n, .string ⟨#[]⟩, .int .i64 0] rfl rfl (cell_three_new _ _ _ _ _) (fun x hx => rows_oneCell [⟨n, ⟨#[]⟩, 0⟩] x hx) (by unfold maxLen; omega) (by omega) (by simp; omega) ?_; intro v3 w3 o3 gr3 nn3; have hb3 := Own.below_more hbel hsize hown gr3; have cc3 := (head3 (HQ.out.keep hb3).head).1; rw [show sl da (⟨S.segs, (op S).left, S.room⟩ : Dk).segs.length _ = .slice _ S.segs.length _ from HSL.out] at cc3) | (at_builtin; refine Apn.wpList_own _ rfl (.tmp 97) (.tmp 103) 102 rfl w1.heap.size 153 i0 (.agg #[.int .i64 0, .string ByteArray.empty, .int .i64 0]) 3 32 Tryz.underlying102 hi hz0 hz1 hz2 rfl (by decide) v3 _ _ rfl o3 _ _ _ (rows (S.segs.drop 0)) rfl (HSRC.out _ _ _ (by omega)) (by unfold maxLen; omega) (by omega) hb3.size ?_; intro v4 w4 o4 gr4 nn4; obtain ⟨a4, c4, rfl⟩ := Own.shape o4; have hb4 := Own.below_grown hb3 hb3.size o3 gr4; obtain ⟨g, rfl, hgl, hrd⟩ := inserted (k := 0) (HQ.out.keep hb4).head (own_eq o4 (joined S.segs 0 n)) (by simp [hzz]) HDX.out (ensure_get hk); have cc4 := (head3 (HQ.out.keep hb4).head).1; have ff4 := (head3 (HQ.out.keep hb4).head).2.2.2.1; have HRD := hide hrd; have HGL := hide hgl; have HB4 := hide hb4; clear hrd hgl o4 gr4 nn4 hb4))
                      all_goals
                        have hse : S.segs = [] := List.eq_nil_of_length_eq_zero hzz
                        have HRD1 := hide (show RD (w4.setCell ⟨dx, 0, none⟩ (.slice (some ⟨g, 0, none⟩) 1 c4)) dx ⟨[⟨n, ⟨#[]⟩, 0⟩], (op S).left, S.room⟩ g c4 by
                          have := HRD.out
                          rw [hse] at this
                          exact this)
                        have HOF := hide (((Off.of_but HB.out (rf_head dx da S.segs)).trans (Off.of_below HB4.out)).set (rf_head dx da S.segs) 0 (.slice (some ⟨g, 0, none⟩) 1 c4))
                        have HE := hide (show doAppend S n t = (⟨[⟨n, ⟨#[]⟩ ++ t, 0⟩], (op S).left, S.room⟩, 0) by
                          rw [HD.out, hse]
                          show (({ op S with segs := turn n (fun s => { s with text := s.text ++ t }) [⟨n, ⟨#[]⟩, 0⟩] } : Dk), (0 : Int)) = _
                          rw [turn, List.map_cons, if_pos rfl]
                          rfl)
                        have HGW := hide (Nat.le_trans HB.out.size HGL.out)
                        have htz : t.size ≤ 1000000000000 := by omega
                        clear hown hbel hb3 o3 gr3 nn3 cc3 cc4 ff4 c0 c1 c2 f0 f1 f2 HB4 HBE HSRC HRD hse
                        generalize w4.setCell ⟨dx, 0, none⟩ (.slice (some ⟨g, 0, none⟩) 1 c4) = w5 at *
                        obtain ⟨c0, c1, c2, f0, f1, f2⟩ := head3 HRD1.out.head
                        rw [show sl g (⟨[(⟨n, ⟨#[]⟩, 0⟩ : Seg)], (op S).left, S.room⟩ : Dk).segs.length c4 = .slice (some ⟨g, 0, none⟩) 1 c4 from rfl] at c0
                        obtain ⟨x0, x1, x2, y0, y1, y2, hcap5⟩ := HRD1.out.cells (k := 0) rfl
                        have hNc : 1 ≤ c4 := hcap5
                        simp only [Nat.zero_mul, Nat.zero_add] at x0 x1 x2 y0 y1 y2
                        clear hcap5
                        go_region
                        all_goals
                          go_wp2_with fail
                          go_ret
                          rw [HE.out]
                          exact ⟨rfl, off_but (HOF.out.drewN 1) ((But.refl g _).set _ _) (Or.inr HGW.out), g, ⟨c4, (HRD1.out.drewN 1).set1 (k := 0) rfl ((⟨#[]⟩ : ByteArray) ++ t)⟩, rf_sub (Or.inr HGW.out)⟩
                    · obtain ⟨rfl, rfl⟩ := HN1.out hzz
                      have HSRC := hide (show ∀ (x : World) (ax : Option Addr) (mx : Nat), mx = 0 → Apn.Src x 3 ax mx (rows (S.segs.drop k)) from fun x ax mx h => ⟨by rw [List.drop_eq_nil_of_le (by omega), h]; rfl, rows_oneCell _, Or.inl h⟩)
                      have HBE := hide hbel
                      have hdxl : dx < wr.heap.size := Nat.lt_of_lt_of_le HDX.out hsize
                      clear hPr
                      go_wp2_with (first | (at_builtin; refine wpList_append_own _ rfl (.tmp 92) (.tmp 95) 102 rfl w1.heap.size 153 i0 (.agg #[.int .i64 0, .string ByteArray.empty, .int .i64 0]) 3 32 Tryz.underlying102 hi hz0 hz1 hz2 rfl (by decide) _ _ _ rfl (hown.alloc _) ⟨wr.heap.size, 0, none⟩ 1 1 [.int .i64 n, .string ⟨#[]⟩, .int .i64 0] rfl rfl (cell_three_new _ _ _ _ _) (fun x hx => rows_oneCell [⟨n, ⟨#[]⟩, 0⟩] x hx) (by unfold maxLen; omega) (by omega) (by simp; omega) ?_; intro v3 w3 o3 gr3 nn3; have hb3 := Own.below_more hbel hsize hown gr3; have cc3 := (head3 (HQ.out.keep hb3).head).1; rw [show sl da (⟨S.segs, (op S).left, S.room⟩ : Dk).segs.length _ = .slice _ S.segs.length _ from HSL.out] at cc3) | (at_builtin; refine Apn.wpList_own _ rfl (.tmp 97) (.tmp 103) 102 rfl w1.heap.size 153 i0 (.agg #[.int .i64 0, .string ByteArray.empty, .int .i64 0]) 3 32 Tryz.underlying102 hi hz0 hz1 hz2 rfl (by decide) v3 _ _ rfl o3 _ _ _ (rows (S.segs.drop k)) rfl (HSRC.out _ _ _ (by omega)) (by unfold maxLen; omega) (by omega) hb3.size ?_; intro v4 w4 o4 gr4 nn4; obtain ⟨a4, c4, rfl⟩ := Own.shape o4; have hb4 := Own.below_grown hb3 hb3.size o3 gr4; obtain ⟨g, rfl, hgl, hrd⟩ := inserted (k := k) (HQ.out.keep hb4).head (own_eq o4 (joined S.segs k n)) (by simp; omega) HDX.out (ensure_get hk); have cc4 := (head3 (HQ.out.keep hb4).head).1; have ff4 := (head3 (HQ.out.keep hb4).head).2.2.2.1; have HRD := hide hrd; have HGL := hide hgl; have HB4 := hide hb4; clear hrd hgl o4 gr4 nn4 hb4))
                      all_goals
                        have HOF := hide (((Off.of_but HB.out (rf_head dx da S.segs)).trans (Off.of_below HB4.out)).set (rf_head dx da S.segs) 0 (.slice (some ⟨g, 0, none⟩) (k + 1 + (S.segs.length - k)) c4))
                        have HE := hide (show doAppend S n t = (⟨(S.segs.take k ++ (⟨n, ⟨#[]⟩, 0⟩ : Seg) :: S.segs.drop k).set k { (⟨n, ⟨#[]⟩, 0⟩ : Seg) with text := ⟨#[]⟩ ++ t }, (op S).left, S.room⟩, 0) by rw [HD.out, turn_set (n := n) (s := ⟨n, ⟨#[]⟩, 0⟩) (ensure_rise HG.out.rise) (by rw [ensure_at hk HLT.out HGT.out]; exact ensure_get hk) rfl, ensure_at hk HLT.out HGT.out]; rfl)
                        have hN : k < k + 1 + (S.segs.length - k) := by omega
                        have HGW := hide (Nat.le_trans HB.out.size HGL.out)
                        have htz : t.size ≤ 1000000000000 := by omega
                        clear hown hbel hb3 o3 gr3 nn3 cc3 cc4 ff4 c0 c1 c2 f0 f1 f2 HB4 HBE HSRC
                        generalize w4.setCell ⟨dx, 0, none⟩ (.slice (some ⟨g, 0, none⟩) (k + 1 + (S.segs.length - k)) c4) = w5 at *
                        have hlen5 : (S.segs.take k ++ (⟨n, ⟨#[]⟩, 0⟩ : Seg) :: S.segs.drop k).length = k + 1 + (S.segs.length - k) := by simp; omega
                        obtain ⟨c0, c1, c2, f0, f1, f2⟩ := head3 HRD.out.head
                        rw [show sl g (⟨S.segs.take k ++ (⟨n, ⟨#[]⟩, 0⟩ : Seg) :: S.segs.drop k, (op S).left, S.room⟩ : Dk).segs.length c4 = .slice (some ⟨g, 0, none⟩) (k + 1 + (S.segs.length - k)) c4 from by rw [show (⟨S.segs.take k ++ (⟨n, ⟨#[]⟩, 0⟩ : Seg) :: S.segs.drop k, (op S).left, S.room⟩ : Dk).segs.length = k + 1 + (S.segs.length - k) from hlen5, sl, if_neg (by omega)]] at c0
                        obtain ⟨x0, x1, x2, y0, y1, y2, hcap5⟩ := HRD.out.cells (ensure_get hk)
                        have hNc : k + 1 + (S.segs.length - k) ≤ c4 := by rw [← hlen5]; exact hcap5
                        clear hcap5 hlen5
                        go_region
                        all_goals
                          go_wp2_with fail
                          go_ret
                          rw [HE.out]
                          exact ⟨rfl, off_but (HOF.out.drewN 1) ((But.refl g _).set _ _) (Or.inr HGW.out), g, ⟨c4, (HRD.out.drewN 1).set1 (ensure_get hk) ((⟨#[]⟩ : ByteArray) ++ t)⟩, rf_sub (Or.inr HGW.out)⟩

end Go.Proofs.YtenegfafjjknoaaGreatDoor.Dr
