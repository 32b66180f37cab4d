/- The journal forgets a window. -/
import Derived.Test.YtmkidefdegaamaaGreatDoorJoy
import Derived.WalkKit
import Derived.OwnWalkIn
import Derived.LoopIn
import Derived.Shelf.Abstract
import Derived.Shelf.RegionOpen
import Derived.Maps.OwnIn
namespace Go.Proofs.YtmkidefdegaamaaGreatDoor.Jr
open Go.RowKit Go.Maps Mem Foot Bytes Im Wm Hi Plainw Cq Dm Dh
attribute [local go_sem] Oper.semAt_some
theorem keep_fit {J : Jn} {S : Dk} {k u : Nat} (h : Fit S k u) (hx : J.next ≤ 9223372036854775806) (hy : jlast J ≤ 9223372036854775807) : Fit (jkeep J S).2.1 (k + 2) (u + J.uns.size + 2 * (jhead J).length) := by
  have hb : (bytesOf (jhead J)).size = (jhead J).length := by
    show (jhead J).toArray.size = _
    rw [List.size_toArray]
  unfold jkeep
  split
  · split
    · have := begin_fit (J := J) (t := bytesOf (jhead J)) h (by omega)
      exact this.more (by omega) (by omega)
    · rename_i hz
      have h1 := begin_fit (J := J) (t := bytesOf (jhead J)) h (by omega)
      have h2 := begin_last (J := J) (S := S) (t := bytesOf (jhead J)) (by simpa using hz)
      have h3 := sync_fit (J := (jbegin J S (bytesOf (jhead J))).1) h1 (by rw [h2]; simp [jlast]; omega)
      refine h3.more (by omega) ?_
      rw [h2]
      show u + (bytesOf (jhead J)).size + (bytesOf (jhead J)).size ≤ _
      omega
  · exact (sync_fit h hy).more (by omega) (by omega)
set_option maxRecDepth 20000 in
set_option maxHeartbeats 4000000 in
theorem forgetJ (w0 w : World) (hT : Tab w0) (h0 : Below w0.heap.size w0 w) (jb bx mb : Nat) (J : Jn) (sv : Srs) (ov : Value) (S : Dk) (ba cap : Nat) (bs : List Nat) (win : Int) (k u : Nat) (h : JW w jb bx mb J sv ov) (hP : PD w bx S ba cap bs) (hfar : ∀ b ∈ kf jb bx mb sv ov ba bs, w0.heap.size ≤ b) (hF : Fit S k u) (hk : k ≤ 10000000) (hu : u + J.uns.size ≤ 100000000000) (hol : J.opn.length ≤ 100000000) (hsy : J.synced ≤ 1000000000000) (hx0 : 0 ≤ J.next) (hx1 : J.next ≤ 1000000000000) (hy0 : -9223372036854775808 ≤ jlast J) (hy1 : jlast J ≤ 9223372036854775807) (hg0 : -9223372036854775808 ≤ J.greatest) (hg1 : J.greatest ≤ 9223372036854775807) (hw0 : -9223372036854775808 ≤ win) (hw1 : win ≤ 9223372036854775807) (hrows : ∀ p ∈ J.sealed, p.2.length ≤ 1000000000 ∧ ∀ x ∈ p.2, -9223372036854775808 ≤ x ∧ x ≤ 9223372036854775807) :
    Calls Tryz.prog 39 #[.pointer (some ⟨jb, 0, none⟩), .int .i64 win] w fun e w' => ∃ v, e = .returned v ∧ ErrV w' v (jforget J S win).2.2 ∧ Kq w w' jb bx mb (jforget J S win).1 (jforget J S win).2.1 (kf jb bx mb sv ov ba bs) := by
  have hhl : (jhead J).length ≤ 44 := by
    have := wrec_len [98] hg0 hg1 (t := []) (by simp)
    unfold jhead
    split
    · exact Nat.zero_le _
    · simpa using this
  have hfar' : ∀ b ∈ jf jb ov bx ba bs, w0.heap.size ≤ b := fun b hb => hfar b (kf_jf hb)
  have HKF := hide (keep_fit (J := J) hF (by omega) hy1)
  have HA := hide h
  have HP := hide hP
  have HT := hide hT
  have HB0 := hide h0
  have HFAR := hide hfar'
  have HF := hide hF
  have HRW := hide hrows
  have HKEY := hide (Maps.keyOf_int_mk (P := Tryz.prog) (k := 3) Tryz.underlying3 (wf_int hw0 hw1))
  have hs1 := Sits.new w 57 #[.pointer (some ⟨jb, 0, none⟩)]
  have hb1 := below_new (w := w) (.cells #[.pointer (some ⟨jb, 0, none⟩)] 57)
  have hs2 := Sits.new (w.alloc (.cells #[.pointer (some ⟨jb, 0, none⟩)] 57)) 64 #[.nilIface]
  have hb2 := below_new (w := w.alloc (.cells #[.pointer (some ⟨jb, 0, none⟩)] 57)) (.cells #[.nilIface] 64)
  have hs1' := Mem.Sits.below hs1 hb2 hs1.lt
  have HB1 := hide (hb1.trans (hb2.mono hb1.size))
  have HW1 := hide (h.keep HB1.out)
  rw [World.size_alloc] at hs2
  have cb := hs1'.cell 0 _ rfl
  have c7 := HW1.out.ja.head.cell 7 _ rfl
  have HS1 := hide hs1'
  have HS2 := hide hs2
  have HZ := hide (show ((w.alloc (.cells #[.pointer (some ⟨jb, 0, none⟩)] 57)).alloc (.cells #[.nilIface] 64)).heap.size = w.heap.size + 2 by simp)
  clear hs1 hs2 hs1' hb1 hb2 h hP hT h0 hfar hfar' hF hrows
  have HPW := hide (HP.out.keep HB1.out)
  have HB01 := hide (HB0.out.trans (HB1.out.mono HB0.out.size))
  refine (callsIn_wide (n := 12)).1 ?_
  refine callsIn_of_wp_marks Tryz.func39 rfl trivial ?_ rfl
  simp only [Tryz.ntmps39, List.size_toArray, List.length_cons, List.length_nil, Nat.reduceAdd, Nat.reduceSub, Array.replicate_succ, Array.replicate_zero, List.push_toArray, List.append_toArray, List.nil_append, List.cons_append]
  by_cases hwg : win = J.greatest
  · rw [← hwg] at c7
    have HWG := hide hwg
    clear hwg
    gi_wp2_with fail
    obtain ⟨wb, hwb⟩ : ∃ wb, w.heap.size = wb := ⟨_, rfl⟩
    rw [hwb] at HS1 HS2 cb HZ ⊢
    have HWB := hide hwb
    clear hwb
    generalize (w.alloc (.cells #[.pointer (some ⟨jb, 0, none⟩)] 57)).alloc (.cells #[.nilIface] 64) = w1 at *
    have hkg := keepGreatest w0 w1 HT.out HB01.out jb bx J (.map (some mb)) ov S ba cap bs k u HW1.out.ja HPW.out HFAR.out HF.out hk hu hol hsy hx0 hx1 hy0 hy1 hg0 hg1
    have HKS := hide (keep_sealed J S)
    have HE0 := hide (show jforget J S win = if (jkeep J S).2.2 ≠ 0 then jkeep J S else jfin (jkeep J S).1 (jkeep J S).2.1 win by unfold jforget; rw [if_pos HWG.out])
    obtain ⟨J2, S2, e2, hje⟩ : ∃ J2 S2 e2, jkeep J S = (J2, S2, e2) := ⟨_, _, _, rfl⟩
    rw [hje] at hkg HKS HKF HE0
    clear hje
    refine ⟨trivial, (callsIn_wide.2 hkg).mono ?_⟩
    clear hkg c7 cb
    rintro e w2 ⟨v, rfl, hv, hq⟩
    obtain ⟨ov2, ba2, cap2, bs2, hW2, hP2, hf2, ho2⟩ := HW1.out.jq HPW.out hq HKS.out
    have HO2 := hide ((Off.of_below HB1.out).trans ho2)
    have HF2 := hide (show ∀ b ∈ jf jb ov2 bx ba2 bs2, b ∈ jf jb ov bx ba bs ∨ w.heap.size ≤ b from fun b hb => (hf2 b hb).imp id fun h => Nat.le_trans HB1.out.size h)
    have hzz := HZ.out
    have hnb : ∀ {b : Nat} {t : TypeId} {cs : Array Value}, Sits w1 b t cs → wb ≤ b → Sits w2 b t cs := fun {b t cs} hs hle => Foot.Sits.off hs ho2 fun hm => by
      obtain ⟨t', cs', hs'⟩ := jf_cells HA.out.ja HP.out hm
      have := hs'.lt
      have := HWB.out
      omega
    have HSb := hide (hnb HS1.out (Nat.le_refl _))
    have HSr := hide (hnb HS2.out (Nat.le_succ _))
    have hz2 : wb + 2 ≤ w2.heap.size := by have := ho2.size; omega
    have HW2 := hide hW2
    have HP2 := hide hP2
    clear hq hf2 ho2 hW2 hP2 hnb hzz
    rcases hv with ⟨he, rfl⟩ | ⟨hee, fb, fz, rfl, hfs⟩
    · have HE := hide (show jforget J S win = jfin J2 S2 win by rw [HE0.out, if_neg (by simpa using he)])
      have HFT := hide (show Fit S2 (k + 2) (u + J.uns.size + 2 * (jhead J).length) from HKF.out)
      have HSE := hide (show J2.sealed = J.sealed from HKS.out)
      clear he
      obtain ⟨hr1, hr2, hr3⟩ := HW2.out.sm.row (J := J2) HW2.out.eq win
      have hlk := look_run (l := sv) HW2.out.sm.own (int_keyed Tryz.underlying3) (t := 97) Tryz.underlying97 (z := .slice none 0 0) Tryz.zeroValue46 rfl iLit_same HKEY.out w2 rfl
      rw [show Im.elemOf (fun p : Value × List Int => p.1) (.slice none 0 0) win sv = rowOf win sv from rfl] at hlk
      obtain ⟨ra, rc, hrv⟩ := own_shapeJ hr1
      obtain ⟨l, hl⟩ : ∃ l, (getE win J2.sealed).getD [] = l := ⟨_, rfl⟩
      rw [hl] at hr1 hr3 hrv
      rw [hrv] at hlk hr1 hr2
      have HL := hide hl
      have HR1 := hide hr1
      have HR2 := hide hr2
      have HLB := hide (show l.length ≤ 1000000000 ∧ ∀ x ∈ l, -9223372036854775808 ≤ x ∧ x ≤ 9223372036854775807 by
        rcases hr3 with e | ⟨p, hp, e⟩
        · rw [e]
          simp
        · rw [← e]
          exact HRW.out p (HSE.out ▸ hp))
      have cb := HSb.out.cell 0 _ rfl
      have c2 := HW2.out.ja.head.cell 2 _ rfl
      clear hl hr1 hr2 hr3 hrv
      gi_wp2_with fail
      refine ⟨trivial, (callsIn_wide.2 (backF ra l.length rc w2)).mono ?_⟩
      rintro e w3 ⟨rfl, rfl⟩
      gi_wp2_with fail
      clear cb c2 hlk
      have hbx := Sits.new w2 46 #[.slice ra l.length rc]
      have hb3 := below_new (w := w2) (.cells #[.slice ra l.length rc] 46)
      have hz3 : (w2.alloc (.cells #[.slice ra l.length rc] 46)).heap.size = w2.heap.size + 1 := by simp
      obtain ⟨Bx, hBx⟩ : ∃ Bx, w2.heap.size = Bx := ⟨_, rfl⟩
      rw [hBx] at hbx hz3 hz2 ⊢
      have HBE := hide hBx
      have HB3 := hide hb3
      have HBX := hide hbx
      have HR3 := hide (own_keep HR1.out hb3)
      have HW3 := hide (HW2.out.keep hb3)
      have HP3 := hide (HP2.out.keep hb3)
      have HSb3 := hide (Mem.Sits.below HSb.out hb3 HSb.out.lt)
      have HSr3 := hide (Mem.Sits.below HSr.out hb3 HSr.out.lt)
      clear hbx hb3 hBx
      generalize w2.alloc (.cells #[.slice ra l.length rc] 46) = w3 at *
      have HBL := hide (show ∀ k ∈ Bx :: (Value.slice ra l.length rc).ownBlock.toList, k < w3.heap.size ∧ ∃ t cs, Sits w3 k t cs ∧ (t = 46 ∨ t = 3) from fun k hk => by
        rcases List.mem_cons.1 hk with e | e
        · subst e
          exact ⟨HBX.out.lt, _, _, HBX.out, Or.inl rfl⟩
        · obtain ⟨cs, hs⟩ := sits_row HR3.out e
          exact ⟨hs.lt, _, _, hs, Or.inr rfl⟩)
      have HTY := hide (show ∀ (k : Nat) (t : TypeId) (cs : Array Value), Sits w3 k t cs → (t = 46 ∨ t = 3 ∨ t = 57 ∨ t = 64) → k ∉ pf bx ba2 bs2 from fun k t cs hs ht => PD.not HP3.out hs (by rcases ht with rfl | rfl | rfl | rfl <;> decide) (by rcases ht with rfl | rfl | rfl | rfl <;> decide) (by rcases ht with rfl | rfl | rfl | rfl <;> decide))
      have HTAB := hide (show ∀ W' : World, Off (pf bx ba2 bs2) w3 W' → Tab W' from fun W' ho => by
        have f1 : ∀ b ∈ pf bx ba2 bs2, w0.heap.size ≤ b := fun b hb => (HF2.out b (List.mem_cons_of_mem _ (List.mem_append_right _ hb))).elim (HFAR.out b) fun h => Nat.le_trans HB0.out.size h
        have b2 : Below w0.heap.size w0 w2 := HB0.out.trans (HO2.out.below HFAR.out HB0.out.size)
        have b3 : Below w0.heap.size w0 w3 := b2.trans (HB3.out.mono b2.size)
        exact HT.out.below (b3.trans (ho.below f1 b3.size)))
      apply wpIn_rangeFunc_ownF (F := Fence.wide) (n := 12) rfl (by decide) (gf := 98) (lb := #[.pointer (some ⟨Bx, 0, none⟩)]) rfl trivial (enters_of Tryz.func98 (by kernel_rfl) rfl)
        (backSeq 11 (by decide) Bx (.slice ra l.length rc) l w3 HBX.out HR3.out HLB.out.2 HLB.out.1) KB.trans
        (fun W lp o o' h1 _ _ _ k hk => World.putObj_heap_other (fun e => by have := (HBL.out k hk).1; omega))
        (Below.refl _ _) (fun _ => rfl) (Inv S2 bx ba2 bs2 w3) (Out S2 bx ba2 bs2 w3 (wb + 1)) (inv_own S2 bx ba2 bs2 w3) (out_own S2 bx ba2 bs2 w3 (wb + 1) (by omega))
        ⟨rfl, Off.refl _ _, ba2, cap2, bs2, HP3.out, fun b hb => Or.inl hb⟩
      case hassign =>
        intro lp x W K hK
        gi_wp2_with fail
        exact hK
      case hbody =>
        intro lp pre x W hI hlt
        obtain ⟨h1, h2, ba', cap', bs', h3, h4⟩ := hI
        have HI1 := hide h1
        have HI2 := hide h2
        have HI3 := hide h3
        have HI4 := hide h4
        have hft := jdels_fit HFT.out (nums pre)
        have hlen := h3.len
        have hfl := hft.len
        have hdel := delete bx ba' cap' bs' _ x.1.2 W h3 hft.good (by omega)
        have cb := (Foot.Sits.off HSb3.out h2 (HTY.out _ _ _ HSb3.out (by simp))).cell 0 _ rfl
        have c0 := (HW3.out.offp HP3.out h2).ja.head.cell 0 _ rfl
        have hxr := x.2
        have HJD := hide (show jdels S2 (nums (pre ++ [x])) = doDelete (jdels S2 (nums pre)).1 x.1.2 by
          rw [nums_append, jdels_append, if_neg (by simpa using HI1.out)]
          exact jdels_one ..)
        clear h1 h2 h3 h4 hft hlen hfl
        generalize (jdels S2 (nums pre)).1 = S3 at *
        gi_wp2_with fail
        refine ⟨trivial, (CallsIn.inRound lp (callsIn_wide.2 hdel)).mono ?_⟩
        clear hdel cb c0
        rintro e W2 ⟨rfl, ho, ba'', cap'', bs'', hPn, hbn, han⟩
        have HFN := hide (show ∀ b ∈ pf bx ba'' bs'', b ∈ pf bx ba2 bs2 ∨ w3.heap.size ≤ b from fun b hb => (pf_del hbn han b hb).elim (HI4.out b) fun h => Or.inr (Nat.le_trans HI2.out.size h))
        have HON := hide ho
        have HPN := hide hPn
        have HO4 := hide (show Off (pf bx ba2 bs2) w3 W2 from HI2.out.trans (ho.mono fun k _ hk => by rw [List.mem_singleton.1 hk]; exact pf_sub (List.mem_cons_self ..)))
        have HKO := hide (show KeepsOthers W W2 from ⟨ho.size, fun k o hk hc => (ho.block k (Array.getElem?_eq_some_iff.1 hk).1 (fun e => by
          have hd := HI3.out.head
          rw [List.mem_singleton] at e
          subst e
          unfold Sits at hd
          rw [hd] at hk
          cases hk
          cases hc)).trans hk⟩)
        clear ho hPn hbn han
        by_cases hz : (doDelete S3 x.1.2).2 = 0
        · rw [hz]
          gi_wp2_with fail
          refine ⟨HKO.out, fun k hk => ?_, ?_, HO4.out, ba'', cap'', bs'', ?_, HFN.out⟩
          · obtain ⟨hk1, t, cs, hs, ht⟩ := HBL.out k hk
            have hn := HTY.out k t cs hs (by rcases ht with rfl | rfl <;> simp)
            rw [HO4.out.block k hk1 hn, HI2.out.block k hk1 hn]
          · rw [HJD.out]
            exact hz
          · rw [HJD.out]
            exact HPN.out
        · have HZ2 := hide hz
          have hab := about ⟨#[100, 101, 108, 101, 116, 105, 110, 103]⟩ (by decide) x.1.2 hxr.1 hxr.2 W2 (HTAB.out W2 HO4.out)
          gi_wp2_with fail
          refine ⟨trivial, (CallsIn.inRound lp (callsIn_wide.2 hab)).mono ?_⟩
          clear hab
          rintro e W3 ⟨rfl, hb5⟩
          generalize aboutB ⟨#[100, 101, 108, 101, 116, 105, 110, 103]⟩ x.1.2 = z
          have HB5 := hide hb5
          clear hb5
          obtain ⟨er, her⟩ : ∃ er, (doDelete S3 x.1.2).2 = er := ⟨_, rfl⟩
          rw [her] at HZ2
          have HER := hide her
          have hdu := during z er W3
          gi_wp2_with fail
          clear her
          refine ⟨trivial, (CallsIn.inRound lp (callsIn_wide.2 hdu)).mono ?_⟩
          clear hdu
          rintro e W4 ⟨⟨v, rfl, hv⟩, hb6⟩
          rcases hv with ⟨h, _⟩ | ⟨_, fb, fy, rfl, fs⟩
          · exact absurd h HZ2.out
          have HFS := hide fs
          have HB6 := hide (HB5.out.trans (hb6.mono HB5.out.size))
          have HO6 := hide (HO4.out.trans (Off.of_below HB6.out))
          have HSr6 := hide (Foot.Sits.off HSr3.out HO6.out (HTY.out _ _ _ HSr3.out (by simp)))
          have cr := HSr6.out.cell 0 _ rfl
          have fr := HSr6.out.frozen 0
          clear fs hb6
          gi_wp2_with fail
          have hso : Off [wb + 1] W4 (W4.setCell ⟨wb + 1, 0, none⟩ (.iface 178 (.pointer (some ⟨fb, 0, none⟩)))) := (Off.refl _ _).set (List.mem_singleton.2 rfl) _ _
          have hrn : wb + 1 ∉ pf bx ba'' bs'' := PD.not (HPN.out.keep HB6.out) HSr6.out (by decide) (by decide) (by decide)
          refine ⟨?_, rfl, ⟨_, (HSr6.out.set 0 _).cell 0 _ rfl, ?_, ?_⟩, ?_, ba'', cap'', bs'', ?_, HFN.out⟩
          · exact HKO.out.trans ((Jr.KeepsOthers.of_off HB6.out).trans (KeepsOthers.setCell _ _ _))
          · rw [HJD.out, HER.out]
            exact Or.inr ⟨HZ2.out, fb, fy, rfl, Foot.Sits.off HFS.out hso (fun e => sits_neJ HFS.out HSr6.out (by decide) (List.mem_singleton.1 e))⟩
          · rw [HJD.out, HER.out]
            exact HZ2.out
          · exact (HO6.out.mono fun k _ hk => List.mem_cons_of_mem _ hk).trans (hso.mono fun k _ hk => List.mem_singleton.1 hk ▸ List.mem_cons_self ..)
          · rw [HJD.out]
            exact pd_off (HPN.out.keep HB6.out) hso fun k hk e => hrn (List.mem_singleton.1 e ▸ hk)
      case hdone =>
        intro D xs W hD hS hI hK
        obtain ⟨h1, h2, ba', cap', bs', h3, h4⟩ := hI
        rw [hS] at h1 h3
        have HW5 := hide (HW3.out.offp HP3.out h2)
        have HEF := hide (show jforget J S win = ({ J2 with sealed := del win J2.sealed }, (jdels S2 l.reverse).1, 0) by
          rw [HE.out]
          unfold jfin
          rw [HL.out, if_neg (by simpa using h1)])
        have HI2 := hide h2
        have HI3 := hide h3
        have HI4 := hide h4
        have HKD := hide hK
        have cb := (Foot.Sits.off HSb3.out h2 (HTY.out _ _ _ HSb3.out (by simp))).cell 0 _ rfl
        have c2 := HW5.out.ja.head.cell 2 _ rfl
        have HSr5 := hide (Foot.Sits.off HSr3.out h2 (HTY.out _ _ _ HSr3.out (by simp)))
        obtain ⟨W2, hdr, hm2, hg2⟩ := HW5.out.sm.own.drop (t := 97) (int_keyed Tryz.underlying3) Tryz.underlying97 HKEY.out 0
        have HO5 := hide (show Off [mb] W W2 from ⟨hg2.grown.os, hg2.grown.tape, hg2.grown.output, hg2.grown.size, fun k hk hF => hg2.grown.block k hk (fun e => hF (by cases e; exact List.mem_singleton.2 rfl))⟩)
        have HM2 := hide (show W2.ownsMap Tryz.prog 3 (exE okS) mb sv.length (sD (del win sv)) by
          rw [show (sD sv).del (Lit.int .i64 win) = sD (del win sv) from mp_del iLit_same win sv] at hm2
          exact hm2)
        have HSr6 := hide (Foot.Sits.off HSr5.out HO5.out (fun e => map_ne HW5.out.sm.own HSr5.out (List.mem_singleton.1 e).symm))
        have cr := HSr6.out.cell 0 _ rfl
        have fr := HSr6.out.frozen 0
        clear h1 h2 h3 h4 hK hm2 hg2
        gi_wp2_with fail
        have hmD : D ∉ [mb] := fun e => by
          have h1 := HKD.out
          obtain ⟨es, clock, h2, _⟩ := HW5.out.sm.own
          rw [List.mem_singleton.1 e, h2] at h1
          cases h1
        have hD2 : W2.heap[D]? = some (.deferred (some [])) := (HO5.out.block D (Array.getElem?_eq_some_iff.1 HKD.out).1 hmD).trans HKD.out
        have hso : Off [wb + 1] W2 (W2.setCell ⟨wb + 1, 0, none⟩ .nilIface) := (Off.refl _ _).set (List.mem_singleton.2 rfl) _ _
        have hrs := HSr6.out.set 0 .nilIface
        have hDr : D ∉ [wb + 1] := fun e => by
          have h1 := HSr6.out
          unfold Sits at h1
          rw [← List.mem_singleton.1 e, hD2] at h1
          cases h1
        have hD3 := (hso.block D (Array.getElem?_eq_some_iff.1 hD2).1 hDr).trans hD2
        generalize W2.setCell ⟨wb + 1, 0, none⟩ .nilIface = W3 at *
        have hsd : Off [D] W3 (W3.putObj D (.deferred none)) := row_off (grownBy_putObj' W3 D _)
        have hrD : wb + 1 ∉ [D] := fun e => hDr (List.mem_singleton.2 (List.mem_singleton.1 e).symm)
        refine ⟨by simp, .inl ⟨_, _, rfl, run_takeDeferred hD3, ?_⟩⟩
        refine ⟨_, results_cell1 rfl _ _ ⟨wb + 1, 0, none⟩ .nilIface rfl (load_err ((Foot.Sits.off hrs hsd hrD).cell 0 _ rfl)), .nilIface, rfl, ?_, ?_⟩
        · rw [HEF.out]
          exact Or.inl ⟨rfl, rfl⟩
        · rw [HEF.out]
          have nc : ∀ {W' : World} {k : Nat} {t : TypeId} {cs : Array Value}, W'.heap[D]? = some (.deferred (some [])) → Sits W' k t cs → k ∉ [D] := fun hd hs e => by
            unfold Sits at hs
            rw [List.mem_singleton.1 e, hd] at hs
            cases hs
          have hwe := HWB.out
          have hjm := HW5.out.less HO5.out HM2.out
          have hpd2 : PD W2 bx (jdels S2 l.reverse).1 ba' cap' bs' := pd_off HI3.out HO5.out fun k hk e => by
            obtain ⟨t, cs, hs⟩ := pd_cells HI3.out hk
            exact map_ne HW5.out.sm.own hs (List.mem_singleton.1 e).symm
          have hlw : ∀ k ∈ Jr.kf jb bx mb (del win sv) ov2 ba' bs', k ∉ [wb + 1] := fun k hk e => by
            rw [List.mem_singleton] at e
            subst e
            rcases List.mem_cons.1 hk with e | e
            · exact map_ne hjm.sm.own HSr6.out e.symm
            · rcases List.mem_append.1 e with e | e
              · obtain ⟨cs, hs⟩ := hjm.sm.sits e
                exact sits_neJ hs HSr6.out (by decide) rfl
              · rcases List.mem_cons.1 e with e | e
                · exact sits_neJ hjm.ja.head HSr6.out (by decide) e.symm
                · rcases List.mem_append.1 e with e | e
                  · obtain ⟨cs, hs⟩ := sits_row hjm.ja.opn e
                    exact sits_neJ hs HSr6.out (by decide) rfl
                  · exact PD.not hpd2 HSr6.out (by decide) (by decide) (by decide) e
          have hj3 := hjm.off (ba := ba') (bs := bs') hso hlw
          have hpd3 := pd_off hpd2 hso fun k hk => hlw k (kf_pd hk)
          have hlD : ∀ k ∈ Jr.kf jb bx mb (del win sv) ov2 ba' bs', k ∉ [D] := fun k hk => by
            rcases List.mem_cons.1 hk with e | e
            · intro e2
              rw [List.mem_singleton.1 e2] at e
              exact hmD (List.mem_singleton.2 e)
            · rcases List.mem_append.1 e with e | e
              · obtain ⟨cs, hs⟩ := hj3.sm.sits e
                exact nc hD3 hs
              · obtain ⟨t, cs, hs⟩ := jf_cells hj3.ja hpd3 e
                exact nc hD3 hs
          have a1 : Off (kf jb bx mb sv ov ba bs) w w2 := HO2.out.mono fun k _ hk => kf_jf hk
          have a2 := a1.trans (Off.of_below HB3.out)
          have fp : ∀ b ∈ pf bx ba2 bs2, b ∈ kf jb bx mb sv ov ba bs ∨ w.heap.size ≤ b := fun b hb => (HF2.out b (List.mem_cons_of_mem _ (List.mem_append_right _ hb))).imp kf_jf id
          have a3 := off_trans a2 fp HI2.out
          have a4 := off_trans a3 (fun b hb => Or.inl (List.mem_singleton.1 hb ▸ List.mem_cons_self ..)) HO5.out
          have a5 := off_trans a4 (fun b hb => Or.inr (by rw [List.mem_singleton.1 hb]; omega)) hso
          refine ⟨⟨del win sv, ov2, ba', cap', bs', hj3.off (ba := ba') (bs := bs') hsd hlD, pd_off hpd3 hsd fun k hk => hlD k (kf_pd hk), fun b hb => ?_⟩, off_trans a5 (fun b hb => Or.inr (by rw [List.mem_singleton.1 hb]; have := a2.size; omega)) hsd⟩
          rcases List.mem_cons.1 hb with e | e
          · exact Or.inl (e ▸ List.mem_cons_self ..)
          · rcases List.mem_append.1 e with e | e
            · exact Or.inl (List.mem_cons_of_mem _ (List.mem_append_left _ (del_sub e)))
            · rcases List.mem_cons.1 e with e | e
              · exact Or.inl (e ▸ kf_jf (List.mem_cons_self ..))
              · rcases List.mem_append.1 e with e | e
                · exact (HF2.out b (List.mem_cons_of_mem _ (List.mem_append_left _ e))).imp kf_jf id
                · exact (HI4.out b e).elim (fp b) fun h => Or.inr (Nat.le_trans a2.size h)
      case hstop =>
        intro D c pre W hD hSp hO hK
        obtain ⟨rfl, ⟨v, e1, e2, e3⟩, ho, ba', cap', bs', h3, h4⟩ := hO
        obtain ⟨post, hpo⟩ := hSp
        have HEF := hide (show jforget J S win = (J2, (jdels S2 (nums pre)).1, (jdels S2 (nums pre)).2) by
          have e4 : jdels S2 l.reverse = jdels S2 (nums pre) := by rw [← hpo, jdels_append, if_pos e3]
          rw [HE.out]
          unfold jfin
          rw [HL.out, e4, if_pos e3])
        gi_wp2_with fail
        have hsd : Off [D] W (W.putObj D (.deferred none)) := row_off (grownBy_putObj' W D _)
        have hrlt : wb + 1 < w3.heap.size := HSr3.out.lt
        have hDb : (W.putObj D (.deferred none)).heap[wb + 1]? = W.heap[wb + 1]? := World.putObj_heap_other (by omega)
        have hcell : (W.putObj D (.deferred none)).cell? ⟨wb + 1, 0, none⟩ = some v := by
          unfold World.cell? at e1 ⊢
          simp only at e1 ⊢
          rw [hDb]
          exact e1
        refine ⟨by simp, .inl ⟨_, _, rfl, run_takeDeferred hK, ?_⟩⟩
        refine ⟨_, results_cell1 rfl _ _ ⟨wb + 1, 0, none⟩ v rfl (load_err hcell), v, rfl, ?_, ?_⟩
        · rw [HEF.out]
          rcases e2 with e2 | ⟨n1, b, y, n2, n3⟩
          · exact Or.inl e2
          · exact Or.inr ⟨n1, b, y, n2, Foot.Sits.off n3 hsd fun e => by
              unfold Sits at n3
              rw [List.mem_singleton.1 e, hK] at n3
              cases n3⟩
        · rw [HEF.out]
          have hwe := HWB.out
          have hj := HW3.out.offr HP3.out HSr3.out ho
          have hlD : ∀ k ∈ Jr.kf jb bx mb sv ov2 ba' bs', k ∉ [D] := fun k hk e2 => by
            rw [List.mem_singleton.1 e2] at hk
            rcases List.mem_cons.1 hk with e | e
            · obtain ⟨es, clock, h2, _⟩ := hj.sm.own
              rw [← e, hK] at h2
              cases h2
            · rcases List.mem_append.1 e with e | e
              · obtain ⟨cs, hs⟩ := hj.sm.sits e
                unfold Sits at hs
                rw [hK] at hs
                cases hs
              · obtain ⟨t, cs, hs⟩ := jf_cells hj.ja h3 e
                unfold Sits at hs
                rw [hK] at hs
                cases hs
          have a1 : Off (kf jb bx mb sv ov ba bs) w w2 := HO2.out.mono fun k _ hk => kf_jf hk
          have a2 := a1.trans (Off.of_below HB3.out)
          have fp : ∀ b ∈ pf bx ba2 bs2, b ∈ kf jb bx mb sv ov ba bs ∨ w.heap.size ≤ b := fun b hb => (HF2.out b (List.mem_cons_of_mem _ (List.mem_append_right _ hb))).imp kf_jf id
          have a3 := off_trans a2 (G := (wb + 1) :: pf bx ba2 bs2) (fun b hb => (List.mem_cons.1 hb).elim (fun e => Or.inr (by omega)) (fp b)) ho
          refine ⟨⟨sv, ov2, ba', cap', bs', hj.off (ba := ba') (bs := bs') hsd hlD, pd_off h3 hsd fun k hk => hlD k (kf_pd hk), fun b hb => ?_⟩, off_trans a3 (fun b hb => Or.inr (by rw [List.mem_singleton.1 hb]; have := a2.size; omega)) hsd⟩
          rcases List.mem_cons.1 hb with e | e
          · exact Or.inl (e ▸ List.mem_cons_self ..)
          · rcases List.mem_append.1 e with e | e
            · exact Or.inl (List.mem_cons_of_mem _ (List.mem_append_left _ e))
            · rcases List.mem_cons.1 e with e | e
              · exact Or.inl (e ▸ kf_jf (List.mem_cons_self ..))
              · rcases List.mem_append.1 e with e | e
                · exact (HF2.out b (List.mem_cons_of_mem _ (List.mem_append_left _ e))).imp kf_jf id
                · exact (h4 b e).elim (fp b) fun h => Or.inr (Nat.le_trans a2.size h)
    · have hee : e2 ≠ 0 := hee
      have HE := hide (show jforget J S win = (J2, S2, e2) by rw [HE0.out, if_pos hee])
      have HV := hide (show ErrV w2 (.iface 178 (.pointer (some ⟨fb, 0, none⟩))) e2 from Or.inr ⟨hee, fb, fz, rfl, hfs⟩)
      have cr := HSr.out.cell 0 _ rfl
      have fr := HSr.out.frozen 0
      clear hfs
      gi_wp2_with fail
      have hso : Off [wb + 1] w2 (w2.setCell ⟨wb + 1, 0, none⟩ (.iface 178 (.pointer (some ⟨fb, 0, none⟩)))) := (Off.refl _ _).set (List.mem_singleton.2 rfl) _ _
      have hwe := HWB.out
      have hlw : ∀ k ∈ Jr.kf jb bx mb sv ov2 ba2 bs2, k ∉ [wb + 1] := fun k hk e => by
        rw [List.mem_singleton] at e
        subst e
        rcases List.mem_cons.1 hk with e | e
        · exact map_ne HW2.out.sm.own HSr.out e.symm
        · rcases List.mem_append.1 e with e | e
          · obtain ⟨cs, hs⟩ := HW2.out.sm.sits e
            exact sits_neJ hs HSr.out (by decide) rfl
          · rcases List.mem_cons.1 e with e | e
            · exact sits_neJ HW2.out.ja.head HSr.out (by decide) e.symm
            · rcases List.mem_append.1 e with e | e
              · obtain ⟨cs, hs⟩ := sits_row HW2.out.ja.opn e
                exact sits_neJ hs HSr.out (by decide) rfl
              · exact PD.not HP2.out HSr.out (by decide) (by decide) (by decide) e
      refine ⟨_, results_cell1 rfl _ _ ⟨wb + 1, 0, none⟩ _ rfl (load_err ((HSr.out.set 0 _).cell 0 _ rfl)), _, rfl, ?_, ?_⟩
      · rw [HE.out]
        rcases HV.out with h | ⟨n1, b, y, n2, n3⟩
        · exact Or.inl h
        · exact Or.inr ⟨n1, b, y, n2, Foot.Sits.off n3 hso (fun e => sits_neJ n3 HSr.out (by decide) (List.mem_singleton.1 e))⟩
      · rw [HE.out]
        have a1 : Off (kf jb bx mb sv ov ba bs) w w2 := HO2.out.mono fun k _ hk => kf_jf hk
        refine ⟨⟨sv, ov2, ba2, cap2, bs2, HW2.out.off (ba := ba2) (bs := bs2) hso hlw, pd_off HP2.out hso fun k hk => hlw k (kf_pd hk), fun b hb => ?_⟩, off_trans a1 (fun b hb => Or.inr (by rw [List.mem_singleton.1 hb]; omega)) hso⟩
        rcases List.mem_cons.1 hb with e | e
        · exact Or.inl (e ▸ List.mem_cons_self ..)
        · rcases List.mem_append.1 e with e | e
          · exact Or.inl (List.mem_cons_of_mem _ (List.mem_append_left _ e))
          · exact (HF2.out b e).imp kf_jf id
  · have HE := hide (show jforget J S win = jfin J S win by unfold jforget; rw [if_neg hwg])
    have HFT := hide (show Fit S (k + 2) (u + J.uns.size + 2 * (jhead J).length) from HF.out.more (by omega) (by omega))
    have HSE := hide (show J.sealed = J.sealed from rfl)
    have HW2 := hide HW1.out
    have HP2 := hide HPW.out
    have HSb := hide HS1.out
    have HSr := hide HS2.out
    have HO2 := hide (show Off (jf jb ov bx ba bs) w ((w.alloc (.cells #[.pointer (some ⟨jb, 0, none⟩)] 57)).alloc (.cells #[.nilIface] 64)) from Off.of_below HB1.out)
    have HF2 := hide (show ∀ b ∈ jf jb ov bx ba bs, b ∈ jf jb ov bx ba bs ∨ w.heap.size ≤ b from fun b hb => Or.inl hb)
    have hz2 : w.heap.size + 2 ≤ ((w.alloc (.cells #[.pointer (some ⟨jb, 0, none⟩)] 57)).alloc (.cells #[.nilIface] 64)).heap.size := Nat.le_of_eq HZ.out.symm
    clear HW1 HPW HS1 HS2 HZ HKF
    obtain ⟨hr1, hr2, hr3⟩ := HW2.out.sm.row (J := J) HW2.out.eq win
    have hlk := look_run (l := sv) HW2.out.sm.own (int_keyed Tryz.underlying3) (t := 97) Tryz.underlying97 (z := .slice none 0 0) Tryz.zeroValue46 rfl iLit_same HKEY.out _ rfl
    rw [show Im.elemOf (fun p : Value × List Int => p.1) (.slice none 0 0) win sv = rowOf win sv from rfl] at hlk
    obtain ⟨ra, rc, hrv⟩ := own_shapeJ hr1
    obtain ⟨l, hl⟩ : ∃ l, (getE win J.sealed).getD [] = l := ⟨_, rfl⟩
    rw [hl] at hr1 hr3 hrv
    rw [hrv] at hlk hr1 hr2
    have HL := hide hl
    have HR1 := hide hr1
    have HR2 := hide hr2
    have HLB := hide (show l.length ≤ 1000000000 ∧ ∀ x ∈ l, -9223372036854775808 ≤ x ∧ x ≤ 9223372036854775807 by
      rcases hr3 with e | ⟨p, hp, e⟩
      · rw [e]
        simp
      · rw [← e]
        exact HRW.out p (HSE.out ▸ hp))
    have c2 := HW2.out.ja.head.cell 2 _ rfl
    clear hl hr1 hr2 hr3 hrv
    gi_wp2_with fail
    obtain ⟨wb, hwb⟩ : ∃ wb, w.heap.size = wb := ⟨_, rfl⟩
    rw [hwb] at HSb HSr cb hz2 ⊢
    have HWB := hide hwb
    clear hwb c7 hwg
    generalize (w.alloc (.cells #[.pointer (some ⟨jb, 0, none⟩)] 57)).alloc (.cells #[.nilIface] 64) = w2 at *
    refine ⟨trivial, (callsIn_wide.2 (backF ra l.length rc w2)).mono ?_⟩
    rintro e w3 ⟨rfl, rfl⟩
    gi_wp2_with fail
    clear cb c2 hlk
    have hbx := Sits.new w2 46 #[.slice ra l.length rc]
    have hb3 := below_new (w := w2) (.cells #[.slice ra l.length rc] 46)
    have hz3 : (w2.alloc (.cells #[.slice ra l.length rc] 46)).heap.size = w2.heap.size + 1 := by simp
    obtain ⟨Bx, hBx⟩ : ∃ Bx, w2.heap.size = Bx := ⟨_, rfl⟩
    rw [hBx] at hbx hz3 hz2 ⊢
    have HBE := hide hBx
    have HB3 := hide hb3
    have HBX := hide hbx
    have HR3 := hide (own_keep HR1.out hb3)
    have HW3 := hide (HW2.out.keep hb3)
    have HP3 := hide (HP2.out.keep hb3)
    have HSb3 := hide (Mem.Sits.below HSb.out hb3 HSb.out.lt)
    have HSr3 := hide (Mem.Sits.below HSr.out hb3 HSr.out.lt)
    clear hbx hb3 hBx
    generalize w2.alloc (.cells #[.slice ra l.length rc] 46) = w3 at *
    have HBL := hide (show ∀ k ∈ Bx :: (Value.slice ra l.length rc).ownBlock.toList, k < w3.heap.size ∧ ∃ t cs, Sits w3 k t cs ∧ (t = 46 ∨ t = 3) from fun k hk => by
      rcases List.mem_cons.1 hk with e | e
      · subst e
        exact ⟨HBX.out.lt, _, _, HBX.out, Or.inl rfl⟩
      · obtain ⟨cs, hs⟩ := sits_row HR3.out e
        exact ⟨hs.lt, _, _, hs, Or.inr rfl⟩)
    have HTY := hide (show ∀ (k : Nat) (t : TypeId) (cs : Array Value), Sits w3 k t cs → (t = 46 ∨ t = 3 ∨ t = 57 ∨ t = 64) → k ∉ pf bx ba bs from fun k t cs hs ht => PD.not HP3.out hs (by rcases ht with rfl | rfl | rfl | rfl <;> decide) (by rcases ht with rfl | rfl | rfl | rfl <;> decide) (by rcases ht with rfl | rfl | rfl | rfl <;> decide))
    have HTAB := hide (show ∀ W' : World, Off (pf bx ba bs) w3 W' → Tab W' from fun W' ho => by
      have f1 : ∀ b ∈ pf bx ba bs, w0.heap.size ≤ b := fun b hb => (HF2.out b (List.mem_cons_of_mem _ (List.mem_append_right _ hb))).elim (HFAR.out b) fun h => Nat.le_trans HB0.out.size h
      have b2 : Below w0.heap.size w0 w2 := HB0.out.trans (HO2.out.below HFAR.out HB0.out.size)
      have b3 : Below w0.heap.size w0 w3 := b2.trans (HB3.out.mono b2.size)
      exact HT.out.below (b3.trans (ho.below f1 b3.size)))
    apply wpIn_rangeFunc_ownF (F := Fence.wide) (n := 12) rfl (by decide) (gf := 98) (lb := #[.pointer (some ⟨Bx, 0, none⟩)]) rfl trivial (enters_of Tryz.func98 (by kernel_rfl) rfl)
      (backSeq 11 (by decide) Bx (.slice ra l.length rc) l w3 HBX.out HR3.out HLB.out.2 HLB.out.1) KB.trans
      (fun W lp o o' h1 _ _ _ k hk => World.putObj_heap_other (fun e => by have := (HBL.out k hk).1; omega))
      (Below.refl _ _) (fun _ => rfl) (Inv S bx ba bs w3) (Out S bx ba bs w3 (wb + 1)) (inv_own S bx ba bs w3) (out_own S bx ba bs w3 (wb + 1) (by omega))
      ⟨rfl, Off.refl _ _, ba, cap, bs, HP3.out, fun b hb => Or.inl hb⟩
    case hassign =>
      intro lp x W K hK
      gi_wp2_with fail
      exact hK
    case hbody =>
      intro lp pre x W hI hlt
      obtain ⟨h1, h2, ba', cap', bs', h3, h4⟩ := hI
      have HI1 := hide h1
      have HI2 := hide h2
      have HI3 := hide h3
      have HI4 := hide h4
      have hft := jdels_fit HFT.out (nums pre)
      have hlen := h3.len
      have hfl := hft.len
      have hdel := delete bx ba' cap' bs' _ x.1.2 W h3 hft.good (by omega)
      have cb := (Foot.Sits.off HSb3.out h2 (HTY.out _ _ _ HSb3.out (by simp))).cell 0 _ rfl
      have c0 := (HW3.out.offp HP3.out h2).ja.head.cell 0 _ rfl
      have hxr := x.2
      have HJD := hide (show jdels S (nums (pre ++ [x])) = doDelete (jdels S (nums pre)).1 x.1.2 by
        rw [nums_append, jdels_append, if_neg (by simpa using HI1.out)]
        exact jdels_one ..)
      clear h1 h2 h3 h4 hft hlen hfl
      generalize (jdels S (nums pre)).1 = S3 at *
      gi_wp2_with fail
      refine ⟨trivial, (CallsIn.inRound lp (callsIn_wide.2 hdel)).mono ?_⟩
      clear hdel cb c0
      rintro e W2 ⟨rfl, ho, ba'', cap'', bs'', hPn, hbn, han⟩
      have HFN := hide (show ∀ b ∈ pf bx ba'' bs'', b ∈ pf bx ba bs ∨ w3.heap.size ≤ b from fun b hb => (pf_del hbn han b hb).elim (HI4.out b) fun h => Or.inr (Nat.le_trans HI2.out.size h))
      have HON := hide ho
      have HPN := hide hPn
      have HO4 := hide (show Off (pf bx ba bs) w3 W2 from HI2.out.trans (ho.mono fun k _ hk => by rw [List.mem_singleton.1 hk]; exact pf_sub (List.mem_cons_self ..)))
      have HKO := hide (show KeepsOthers W W2 from ⟨ho.size, fun k o hk hc => (ho.block k (Array.getElem?_eq_some_iff.1 hk).1 (fun e => by
        have hd := HI3.out.head
        rw [List.mem_singleton] at e
        subst e
        unfold Sits at hd
        rw [hd] at hk
        cases hk
        cases hc)).trans hk⟩)
      clear ho hPn hbn han
      by_cases hz : (doDelete S3 x.1.2).2 = 0
      · rw [hz]
        gi_wp2_with fail
        refine ⟨HKO.out, fun k hk => ?_, ?_, HO4.out, ba'', cap'', bs'', ?_, HFN.out⟩
        · obtain ⟨hk1, t, cs, hs, ht⟩ := HBL.out k hk
          have hn := HTY.out k t cs hs (by rcases ht with rfl | rfl <;> simp)
          rw [HO4.out.block k hk1 hn, HI2.out.block k hk1 hn]
        · rw [HJD.out]
          exact hz
        · rw [HJD.out]
          exact HPN.out
      · have HZ2 := hide hz
        have hab := about ⟨#[100, 101, 108, 101, 116, 105, 110, 103]⟩ (by decide) x.1.2 hxr.1 hxr.2 W2 (HTAB.out W2 HO4.out)
        gi_wp2_with fail
        refine ⟨trivial, (CallsIn.inRound lp (callsIn_wide.2 hab)).mono ?_⟩
        clear hab
        rintro e W3 ⟨rfl, hb5⟩
        generalize aboutB ⟨#[100, 101, 108, 101, 116, 105, 110, 103]⟩ x.1.2 = z
        have HB5 := hide hb5
        clear hb5
        obtain ⟨er, her⟩ : ∃ er, (doDelete S3 x.1.2).2 = er := ⟨_, rfl⟩
        rw [her] at HZ2
        have HER := hide her
        have hdu := during z er W3
        gi_wp2_with fail
        clear her
        refine ⟨trivial, (CallsIn.inRound lp (callsIn_wide.2 hdu)).mono ?_⟩
        clear hdu
        rintro e W4 ⟨⟨v, rfl, hv⟩, hb6⟩
        rcases hv with ⟨h, _⟩ | ⟨_, fb, fy, rfl, fs⟩
        · exact absurd h HZ2.out
        have HFS := hide fs
        have HB6 := hide (HB5.out.trans (hb6.mono HB5.out.size))
        have HO6 := hide (HO4.out.trans (Off.of_below HB6.out))
        have HSr6 := hide (Foot.Sits.off HSr3.out HO6.out (HTY.out _ _ _ HSr3.out (by simp)))
        have cr := HSr6.out.cell 0 _ rfl
        have fr := HSr6.out.frozen 0
        clear fs hb6
        gi_wp2_with fail
        have hso : Off [wb + 1] W4 (W4.setCell ⟨wb + 1, 0, none⟩ (.iface 178 (.pointer (some ⟨fb, 0, none⟩)))) := (Off.refl _ _).set (List.mem_singleton.2 rfl) _ _
        have hrn : wb + 1 ∉ pf bx ba'' bs'' := PD.not (HPN.out.keep HB6.out) HSr6.out (by decide) (by decide) (by decide)
        refine ⟨?_, rfl, ⟨_, (HSr6.out.set 0 _).cell 0 _ rfl, ?_, ?_⟩, ?_, ba'', cap'', bs'', ?_, HFN.out⟩
        · exact HKO.out.trans ((Jr.KeepsOthers.of_off HB6.out).trans (KeepsOthers.setCell _ _ _))
        · rw [HJD.out, HER.out]
          exact Or.inr ⟨HZ2.out, fb, fy, rfl, Foot.Sits.off HFS.out hso (fun e => sits_neJ HFS.out HSr6.out (by decide) (List.mem_singleton.1 e))⟩
        · rw [HJD.out, HER.out]
          exact HZ2.out
        · exact (HO6.out.mono fun k _ hk => List.mem_cons_of_mem _ hk).trans (hso.mono fun k _ hk => List.mem_singleton.1 hk ▸ List.mem_cons_self ..)
        · rw [HJD.out]
          exact pd_off (HPN.out.keep HB6.out) hso fun k hk e => hrn (List.mem_singleton.1 e ▸ hk)
    case hdone =>
      intro D xs W hD hS hI hK
      obtain ⟨h1, h2, ba', cap', bs', h3, h4⟩ := hI
      rw [hS] at h1 h3
      have HW5 := hide (HW3.out.offp HP3.out h2)
      have HEF := hide (show jforget J S win = ({ J with sealed := del win J.sealed }, (jdels S l.reverse).1, 0) by
        rw [HE.out]
        unfold jfin
        rw [HL.out, if_neg (by simpa using h1)])
      have HI2 := hide h2
      have HI3 := hide h3
      have HI4 := hide h4
      have HKD := hide hK
      have cb := (Foot.Sits.off HSb3.out h2 (HTY.out _ _ _ HSb3.out (by simp))).cell 0 _ rfl
      have c2 := HW5.out.ja.head.cell 2 _ rfl
      have HSr5 := hide (Foot.Sits.off HSr3.out h2 (HTY.out _ _ _ HSr3.out (by simp)))
      obtain ⟨W2, hdr, hm2, hg2⟩ := HW5.out.sm.own.drop (t := 97) (int_keyed Tryz.underlying3) Tryz.underlying97 HKEY.out 0
      have HO5 := hide (show Off [mb] W W2 from ⟨hg2.grown.os, hg2.grown.tape, hg2.grown.output, hg2.grown.size, fun k hk hF => hg2.grown.block k hk (fun e => hF (by cases e; exact List.mem_singleton.2 rfl))⟩)
      have HM2 := hide (show W2.ownsMap Tryz.prog 3 (exE okS) mb sv.length (sD (del win sv)) by
        rw [show (sD sv).del (Lit.int .i64 win) = sD (del win sv) from mp_del iLit_same win sv] at hm2
        exact hm2)
      have HSr6 := hide (Foot.Sits.off HSr5.out HO5.out (fun e => map_ne HW5.out.sm.own HSr5.out (List.mem_singleton.1 e).symm))
      have cr := HSr6.out.cell 0 _ rfl
      have fr := HSr6.out.frozen 0
      clear h1 h2 h3 h4 hK hm2 hg2
      gi_wp2_with fail
      have hmD : D ∉ [mb] := fun e => by
        have h1 := HKD.out
        obtain ⟨es, clock, h2, _⟩ := HW5.out.sm.own
        rw [List.mem_singleton.1 e, h2] at h1
        cases h1
      have hD2 : W2.heap[D]? = some (.deferred (some [])) := (HO5.out.block D (Array.getElem?_eq_some_iff.1 HKD.out).1 hmD).trans HKD.out
      have hso : Off [wb + 1] W2 (W2.setCell ⟨wb + 1, 0, none⟩ .nilIface) := (Off.refl _ _).set (List.mem_singleton.2 rfl) _ _
      have hrs := HSr6.out.set 0 .nilIface
      have hDr : D ∉ [wb + 1] := fun e => by
        have h1 := HSr6.out
        unfold Sits at h1
        rw [← List.mem_singleton.1 e, hD2] at h1
        cases h1
      have hD3 := (hso.block D (Array.getElem?_eq_some_iff.1 hD2).1 hDr).trans hD2
      generalize W2.setCell ⟨wb + 1, 0, none⟩ .nilIface = W3 at *
      have hsd : Off [D] W3 (W3.putObj D (.deferred none)) := row_off (grownBy_putObj' W3 D _)
      have hrD : wb + 1 ∉ [D] := fun e => hDr (List.mem_singleton.2 (List.mem_singleton.1 e).symm)
      refine ⟨by simp, .inl ⟨_, _, rfl, run_takeDeferred hD3, ?_⟩⟩
      refine ⟨_, results_cell1 rfl _ _ ⟨wb + 1, 0, none⟩ .nilIface rfl (load_err ((Foot.Sits.off hrs hsd hrD).cell 0 _ rfl)), .nilIface, rfl, ?_, ?_⟩
      · rw [HEF.out]
        exact Or.inl ⟨rfl, rfl⟩
      · rw [HEF.out]
        have nc : ∀ {W' : World} {k : Nat} {t : TypeId} {cs : Array Value}, W'.heap[D]? = some (.deferred (some [])) → Sits W' k t cs → k ∉ [D] := fun hd hs e => by
          unfold Sits at hs
          rw [List.mem_singleton.1 e, hd] at hs
          cases hs
        have hwe := HWB.out
        have hjm := HW5.out.less HO5.out HM2.out
        have hpd2 : PD W2 bx (jdels S l.reverse).1 ba' cap' bs' := pd_off HI3.out HO5.out fun k hk e => by
          obtain ⟨t, cs, hs⟩ := pd_cells HI3.out hk
          exact map_ne HW5.out.sm.own hs (List.mem_singleton.1 e).symm
        have hlw : ∀ k ∈ Jr.kf jb bx mb (del win sv) ov ba' bs', k ∉ [wb + 1] := fun k hk e => by
          rw [List.mem_singleton] at e
          subst e
          rcases List.mem_cons.1 hk with e | e
          · exact map_ne hjm.sm.own HSr6.out e.symm
          · rcases List.mem_append.1 e with e | e
            · obtain ⟨cs, hs⟩ := hjm.sm.sits e
              exact sits_neJ hs HSr6.out (by decide) rfl
            · rcases List.mem_cons.1 e with e | e
              · exact sits_neJ hjm.ja.head HSr6.out (by decide) e.symm
              · rcases List.mem_append.1 e with e | e
                · obtain ⟨cs, hs⟩ := sits_row hjm.ja.opn e
                  exact sits_neJ hs HSr6.out (by decide) rfl
                · exact PD.not hpd2 HSr6.out (by decide) (by decide) (by decide) e
        have hj3 := hjm.off (ba := ba') (bs := bs') hso hlw
        have hpd3 := pd_off hpd2 hso fun k hk => hlw k (kf_pd hk)
        have hlD : ∀ k ∈ Jr.kf jb bx mb (del win sv) ov ba' bs', k ∉ [D] := fun k hk => by
          rcases List.mem_cons.1 hk with e | e
          · intro e2
            rw [List.mem_singleton.1 e2] at e
            exact hmD (List.mem_singleton.2 e)
          · rcases List.mem_append.1 e with e | e
            · obtain ⟨cs, hs⟩ := hj3.sm.sits e
              exact nc hD3 hs
            · obtain ⟨t, cs, hs⟩ := jf_cells hj3.ja hpd3 e
              exact nc hD3 hs
        have a1 : Off (kf jb bx mb sv ov ba bs) w w2 := HO2.out.mono fun k _ hk => kf_jf hk
        have a2 := a1.trans (Off.of_below HB3.out)
        have fp : ∀ b ∈ pf bx ba bs, b ∈ kf jb bx mb sv ov ba bs ∨ w.heap.size ≤ b := fun b hb => (HF2.out b (List.mem_cons_of_mem _ (List.mem_append_right _ hb))).imp kf_jf id
        have a3 := off_trans a2 fp HI2.out
        have a4 := off_trans a3 (fun b hb => Or.inl (List.mem_singleton.1 hb ▸ List.mem_cons_self ..)) HO5.out
        have a5 := off_trans a4 (fun b hb => Or.inr (by rw [List.mem_singleton.1 hb]; omega)) hso
        refine ⟨⟨del win sv, ov, ba', cap', bs', hj3.off (ba := ba') (bs := bs') hsd hlD, pd_off hpd3 hsd fun k hk => hlD k (kf_pd hk), fun b hb => ?_⟩, off_trans a5 (fun b hb => Or.inr (by rw [List.mem_singleton.1 hb]; have := a2.size; omega)) hsd⟩
        rcases List.mem_cons.1 hb with e | e
        · exact Or.inl (e ▸ List.mem_cons_self ..)
        · rcases List.mem_append.1 e with e | e
          · exact Or.inl (List.mem_cons_of_mem _ (List.mem_append_left _ (del_sub e)))
          · rcases List.mem_cons.1 e with e | e
            · exact Or.inl (e ▸ kf_jf (List.mem_cons_self ..))
            · rcases List.mem_append.1 e with e | e
              · exact (HF2.out b (List.mem_cons_of_mem _ (List.mem_append_left _ e))).imp kf_jf id
              · exact (HI4.out b e).elim (fp b) fun h => Or.inr (Nat.le_trans a2.size h)
    case hstop =>
      intro D c pre W hD hSp hO hK
      obtain ⟨rfl, ⟨v, e1, e2, e3⟩, ho, ba', cap', bs', h3, h4⟩ := hO
      obtain ⟨post, hpo⟩ := hSp
      have HEF := hide (show jforget J S win = (J, (jdels S (nums pre)).1, (jdels S (nums pre)).2) by
        have e4 : jdels S l.reverse = jdels S (nums pre) := by rw [← hpo, jdels_append, if_pos e3]
        rw [HE.out]
        unfold jfin
        rw [HL.out, e4, if_pos e3])
      gi_wp2_with fail
      have hsd : Off [D] W (W.putObj D (.deferred none)) := row_off (grownBy_putObj' W D _)
      have hrlt : wb + 1 < w3.heap.size := HSr3.out.lt
      have hDb : (W.putObj D (.deferred none)).heap[wb + 1]? = W.heap[wb + 1]? := World.putObj_heap_other (by omega)
      have hcell : (W.putObj D (.deferred none)).cell? ⟨wb + 1, 0, none⟩ = some v := by
        unfold World.cell? at e1 ⊢
        simp only at e1 ⊢
        rw [hDb]
        exact e1
      refine ⟨by simp, .inl ⟨_, _, rfl, run_takeDeferred hK, ?_⟩⟩
      refine ⟨_, results_cell1 rfl _ _ ⟨wb + 1, 0, none⟩ v rfl (load_err hcell), v, rfl, ?_, ?_⟩
      · rw [HEF.out]
        rcases e2 with e2 | ⟨n1, b, y, n2, n3⟩
        · exact Or.inl e2
        · exact Or.inr ⟨n1, b, y, n2, Foot.Sits.off n3 hsd fun e => by
            unfold Sits at n3
            rw [List.mem_singleton.1 e, hK] at n3
            cases n3⟩
      · rw [HEF.out]
        have hwe := HWB.out
        have hj := HW3.out.offr HP3.out HSr3.out ho
        have hlD : ∀ k ∈ Jr.kf jb bx mb sv ov ba' bs', k ∉ [D] := fun k hk e2 => by
          rw [List.mem_singleton.1 e2] at hk
          rcases List.mem_cons.1 hk with e | e
          · obtain ⟨es, clock, h2, _⟩ := hj.sm.own
            rw [← e, hK] at h2
            cases h2
          · rcases List.mem_append.1 e with e | e
            · obtain ⟨cs, hs⟩ := hj.sm.sits e
              unfold Sits at hs
              rw [hK] at hs
              cases hs
            · obtain ⟨t, cs, hs⟩ := jf_cells hj.ja h3 e
              unfold Sits at hs
              rw [hK] at hs
              cases hs
        have a1 : Off (kf jb bx mb sv ov ba bs) w w2 := HO2.out.mono fun k _ hk => kf_jf hk
        have a2 := a1.trans (Off.of_below HB3.out)
        have fp : ∀ b ∈ pf bx ba bs, b ∈ kf jb bx mb sv ov ba bs ∨ w.heap.size ≤ b := fun b hb => (HF2.out b (List.mem_cons_of_mem _ (List.mem_append_right _ hb))).imp kf_jf id
        have a3 := off_trans a2 (G := (wb + 1) :: pf bx ba bs) (fun b hb => (List.mem_cons.1 hb).elim (fun e => Or.inr (by omega)) (fp b)) ho
        refine ⟨⟨sv, ov, ba', cap', bs', hj.off (ba := ba') (bs := bs') hsd hlD, pd_off h3 hsd fun k hk => hlD k (kf_pd hk), fun b hb => ?_⟩, off_trans a3 (fun b hb => Or.inr (by rw [List.mem_singleton.1 hb]; have := a2.size; omega)) hsd⟩
        rcases List.mem_cons.1 hb with e | e
        · exact Or.inl (e ▸ List.mem_cons_self ..)
        · rcases List.mem_append.1 e with e | e
          · exact Or.inl (List.mem_cons_of_mem _ (List.mem_append_left _ e))
          · rcases List.mem_cons.1 e with e | e
            · exact Or.inl (e ▸ kf_jf (List.mem_cons_self ..))
            · rcases List.mem_append.1 e with e | e
              · exact (HF2.out b (List.mem_cons_of_mem _ (List.mem_append_left _ e))).imp kf_jf id
              · exact (h4 b e).elim (fp b) fun h => Or.inr (Nat.le_trans a2.size h)
end Go.Proofs.YtmkidefdegaamaaGreatDoor.Jr
