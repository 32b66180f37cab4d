/- P4: what Parse tells is a line; what it does not take Sum rejects: the law, walked. -/
import Derived.Test.YtenegfafjjknoaaGreatDoorKf
import Derived.Test.YtenegfafjjknoaaGreatDoorWcx
import Derived.Test.YtenegfafjjknoaaGreatDoorParsew
namespace Go.Proofs.YtenegfafjjknoaaGreatDoor.Kf
open Go.RowKit Mem Foot Wi Wm Kr Opts Plainw Hn Parsew

theorem oneRow (w : World) (s : ByteArray) : Row (w.alloc (.cells #[.string s] 9)) (.slice (some ⟨w.heap.size, 0, none⟩) 1 1) [Bytes.B s] := by
  refine ⟨_, 1, rfl, Nat.le_refl _, fun j x hx => ⟨w.heap.size, 0, rfl, by simp, ?_⟩⟩
  cases j with
  | zero =>
    simp only [List.getElem?_cons_zero, Option.some.injEq] at hx
    subst hx
    exact (Sits.new w 9 #[.string s]).cell 0 _ rfl
  | succ j => simp at hx

def cz : Fin 6 → Int := fitc fun _ => 0
theorem cz_ok : COk cz := fit_ok _
theorem cz_series : 1 ≤ (limOf cz).series := by
  have := cz_ok.s
  simp only [limOf]
  omega

theorem fit0 (w : World) : Calls Tryz.prog 25 #[.agg #[.int .i64 0, .int .i64 0, .int .i64 0, .int .i64 0, .int .i64 0, .int .i64 0]] w fun e w' => e = .returned (cfg cz) ∧ Below w.heap.size w w' :=
  fitW (fun _ => 0) (fun _ => by omega) w

theorem sumOne (num : Int) (s : ByteArray) (w : World) (ht : Tab w) (hs : s.size ≤ 140737488355328) (hnl : NL ∉ Bytes.B s) (hn0 : -9223372036854775808 ≤ num) (hn1 : num ≤ 9223372036854775807) :
    Calls Tryz.prog 20 #[cfg cz, .int .i64 num, .slice (some ⟨w.heap.size, 0, none⟩) 1 1] (w.alloc (.cells #[.string s] 9)) fun e w' => (∃ z, e = .returned (.tuple #[.string z, .int .i64 0]) ∧ Bytes.B z = wtext num (wline (limOf cz) win0 (Bytes.B s))) ∧ Below w.heap.size w w' := by
  have hc : Lib.countByte (Bytes.B s) 10 = 0 := List.count_eq_zero.2 hnl
  have h := sumW cz cz_ok num _ [Bytes.B s] _ (oneRow w s) (ht.below (below_new _)) (by
    intro d hd
    simp only [List.mem_singleton] at hd
    subst hd
    rw [← Bytes.size_B]
    exact hs) (by simp [nls, hc]) (by simp) hn0 hn1
  rw [wsum_one (limOf cz) hnl] at h
  exact h.mono fun e w' ⟨h1, h2⟩ => ⟨h1, (below_new _).trans (h2.mono (by simp))⟩

theorem known : parsed [116, 58, 51, 124, 104] = ([116, 58, 51, 124, 109, 115], 0) := by decide +kernel

theorem same_text {a b : ByteArray} (h : Bytes.B a = Bytes.B b) : a = b := Bytes.B_inj h

/-- Parse again. -/
theorem parsed_again {l : List UInt8} {m : Smp} (h : rd l = some m) : rd (plainOf m) = some m := Ag.rd_back (Ag.rd_val h)

theorem plain_len {l : List UInt8} {m : Smp} (h : rd l = some m) : (plainOf m).length ≤ 1000 := by
  obtain ⟨h1, h2, h3, h4, h5, h6, h7⟩ := Bounds.rd_short h
  have a1 := Plain.wn_len h4.1 h4.2
  have a2 := Plain.wn_len (n := m.rate) (by omega) (by omega)
  have a3 := Bounds.join_len m.tags h7
  have a4 : (Plain.pt m.tags).length ≤ 50 := by
    unfold Plain.pt
    split <;> simp <;> omega
  have a5 : (Plainv.pvf m.kind m.signed m.value m.word).length ≤ 40 := by
    unfold Plainv.pvf Plainv.pn
    split
    · omega
    · split
      · simp only [List.length_cons]
        omega
      · omega
  unfold plainOf Plainp.pform
  simp only [List.length_append, List.length_cons, List.length_nil]
  split <;> simp <;> omega

theorem rejects_text : whead 0 1 0 = [119, 105, 110, 100, 111, 119, 32, 48, 32, 114, 101, 106, 101, 99, 116, 115, 32, 49, 32, 100, 114, 111, 112, 115, 32, 48, 10] := by decide +kernel

set_option maxRecDepth 100000 in
set_option maxHeartbeats 4000000 in
theorem again (s : ByteArray) (hs : s.size ≤ 140737488355328) (w : World) (ht : Tab w) :
    Calls Tryz.prog 6 #[.string s] w fun e w' => e = .returned (.bool true) ∧ Below w.heap.size w w' := by
  have HT := hide ht
  have hp := parse s hs w ht
  clear ht
  go_enter Tryz.func6, Tryz.ntmps6
  go_wp2_with fail
  refine hp.mono ?_
  clear hp
  rintro e w1 ⟨⟨z, rfl, hz⟩, hb1⟩
  have HB1 := hide hb1
  have hk := parse ⟨#[116, 58, 51, 124, 104]⟩ (by decide) w1 (HT.out.below hb1)
  have hkn : parsed (Bytes.B ⟨#[116, 58, 51, 124, 104]⟩) = ([116, 58, 51, 124, 109, 115], 0) := known
  rw [hkn] at hk
  clear hb1 hkn
  cases hr : rd (Bytes.B s) with
  | none =>
    rw [parsed_none hr] at hz ⊢
    have hze : z = ⟨#[]⟩ := same_text (by rw [hz]; rfl)
    subst hze
    have HR := hide hr
    clear hr hz
    go_wp2_with fail
    refine hk.mono ?_
    clear hk
    rintro e w2 ⟨⟨z2, rfl, hz2⟩, hb2⟩
    have hze : z2 = ⟨#[116, 58, 51, 124, 109, 115]⟩ := same_text (by rw [hz2]; rfl)
    subst hze
    have HB2 := hide (HB1.out.trans (hb2.mono HB1.out.size))
    clear hz2 hb2
    by_cases hne : Bytes.B s = []
    · have hse : s = ⟨#[]⟩ := same_text hne
      subst hse
      clear hne
      go_wp2_with fail
      go_ret
      exact ⟨rfl, HB2.out⟩
    · have hse : (s.toList == []) = false := Vals.ne_list hne
      have HNE := hide hne
      clear hne
      go_wp2_with fail
      go_loopw [7] (fun i wr => ∃ k : Nat, i = .int .i64 (k : Int) ∧ k ≤ s.size ∧ Hid (∀ (j : Nat) (h : j < s.size), j < k → s[j].toNat ≠ 10) ∧ wr = w2) (fun i _ => s.size - (intOf i).toNat)
      case atStart => exact ⟨0, rfl, by omega, fun j _ h => by omega, rfl⟩
      case round =>
        obtain ⟨k, rfl, hk, HI, rfl⟩ := hrel
        by_cases hkl : k < s.size
        · have hkz : (k : Int) < (s.size : Int) := by omega
          by_cases hc : s[k].toNat = 10
          · go_wp2_with fail
            go_ret
            exact ⟨rfl, HB2.out⟩
          · go_wp2_with fail
            go_roundw
            case rel =>
              refine ⟨k + 1, by go_num, by omega, fun j hj hjk => ?_, trivial⟩
              by_cases e : j = k
              · subst e
                exact hc
              · exact HI.out j hj (by omega)
            case measure => simp only [intOf]; omega
        · have hkz : ¬ (k : Int) < (s.size : Int) := by omega
          have hk2 : k = s.size := by omega
          subst hk2
          have HNL := hide (show NL ∉ Bytes.B s from fun hm => by
            obtain ⟨j, hj⟩ := List.getElem?_of_mem hm
            have hjl : j < s.size := by
              rw [Bytes.size_B]
              exact (List.getElem?_eq_some_iff.1 hj).1
            rw [Bytes.B_get hjl] at hj
            exact HI.out j hjl hjl (by rw [Option.some.inj hj]; rfl))
          go_wp2_with fail
          refine (fit0 _).mono ?_
          rintro e w3 ⟨rfl, hb3⟩
          have HB3 := hide (HB2.out.trans (hb3.mono HB2.out.size))
          have hsum := sumOne 0 s w3 (HT.out.below HB3.out) hs HNL.out (by omega) (by omega)
          clear hb3
          generalize cfg cz = cv at *
          go_wp2_with fail
          refine hsum.mono ?_
          clear hsum
          rintro e w4 ⟨⟨z, rfl, hz⟩, hb4⟩
          have hzl : z = ⟨#[119, 105, 110, 100, 111, 119, 32, 48, 32, 114, 101, 106, 101, 99, 116, 115, 32, 49, 32, 100, 114, 111, 112, 115, 32, 48, 10]⟩ := same_text (by
            rw [hz, wline, if_neg HNE.out, HR.out]
            show whead 0 1 0 ++ [] = _
            rw [rejects_text]
            rfl)
          subst hzl
          have HB4 := hide (HB3.out.trans (hb4.mono HB3.out.size))
          clear hz hb4
          go_wp2_with fail
          go_ret
          exact ⟨rfl, HB4.out⟩
  | some m =>
    rw [parsed_some hr] at hz ⊢
    have HR := hide hr
    have hzs : z.size ≤ 1000 := by rw [Bytes.size_B, hz]; exact plain_len hr
    have HR2 := hide (parsed_again hr)
    have HZ := hide hz
    have HNL := hide (rd_nl hr)
    have HNL2 := hide (show NL ∉ Bytes.B z by rw [hz]; exact rd_nl (parsed_again hr))
    clear hr hz
    go_wp2_with fail
    refine hk.mono ?_
    clear hk
    rintro e w2 ⟨⟨z2, rfl, hz2⟩, hb2⟩
    have hze : z2 = ⟨#[116, 58, 51, 124, 109, 115]⟩ := same_text (by rw [hz2]; rfl)
    subst hze
    have HB2 := hide (HB1.out.trans (hb2.mono HB1.out.size))
    have hp3 := parse z (by omega) w2 (HT.out.below HB2.out)
    have hpz : parsed (Bytes.B z) = (plainOf m, 0) := by
      rw [HZ.out]
      exact parsed_some HR2.out
    rw [hpz] at hp3
    clear hz2 hb2 hpz
    go_wp2_with fail
    refine hp3.mono ?_
    clear hp3
    rintro e w3 ⟨⟨z3, rfl, hz3⟩, hb3⟩
    have hze : z3 = z := same_text (by rw [hz3, HZ.out])
    subst z3
    have HB3 := hide (HB2.out.trans (hb3.mono HB2.out.size))
    clear hz3 hb3
    go_wp2_with fail
    refine (fit0 _).mono ?_
    rintro e w4 ⟨rfl, hb4⟩
    have HB4 := hide (HB3.out.trans (hb4.mono HB3.out.size))
    have hsum := sumOne 7 s w4 (HT.out.below HB4.out) hs HNL.out (by omega) (by omega)
    clear hb4
    have hfit := fit0
    have HSO := hide (fun w (h : Tab w) => sumOne 7 z w h (by omega) HNL2.out (by omega) (by omega))
    generalize cfg cz = cv at *
    have HFIT := hide hfit
    clear hfit
    go_wp2_with fail
    refine hsum.mono ?_
    clear hsum
    rintro e w5 ⟨⟨y, rfl, hy⟩, hb5⟩
    have HB5 := hide (HB4.out.trans (hb5.mono HB4.out.size))
    have hyl : 28 < y.size := by
      rw [Bytes.size_B, hy]
      exact again_len cz_series HR.out 7
    have HY := hide hy
    clear hy hb5
    go_wp2_with fail
    refine (HFIT.out _).mono ?_
    rintro e w6 ⟨rfl, hb6⟩
    have HB6 := hide (HB5.out.trans (hb6.mono HB5.out.size))
    have hsum2 := HSO.out w6 (HT.out.below HB6.out)
    clear hb6
    go_wp2_with fail
    refine hsum2.mono ?_
    clear hsum2
    rintro e w7 ⟨⟨y2, rfl, hy2⟩, hb7⟩
    have hye : y2 = y := same_text (by
      rw [hy2, HY.out, wline, wline, if_neg (rd_no_nl_or HR.out), HR.out, HZ.out, if_neg (rd_no_nl_or HR2.out), HR2.out])
    subst y2
    have HB7 := hide (HB6.out.trans (hb7.mono HB6.out.size))
    clear hy2 hb7
    have hyz : (28 : Int) < (y.size : Int) := by omega
    go_wp2_with fail
    go_ret
    exact ⟨rfl, HB7.out⟩

end Go.Proofs.YtenegfafjjknoaaGreatDoor.Kf
