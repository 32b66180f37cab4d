/- A journal's disk when the power has failed: no Go in sight. -/
import Derived.Test.YtmkidefdegaamaaGreatDoorQay
namespace Go.Proofs.YtmkidefdegaamaaGreatDoor.Jr
open Bytes Im Dm
theorem crash_calm {S : Dk} (hl : S.left = -1) (hr : S.room = -1) (hf : ∀ s ∈ S.segs, s.syn = s.text.size) (t : Int) : doCrash S t = S := by
  unfold doCrash
  have h1 : S.segs.map (torn (if t < 0 then 0 else t)) = S.segs := by
    conv => rhs; rw [← List.map_id S.segs]
    refine List.map_congr_left fun s hs => ?_
    exact torn_full _ s (by split <;> omega) (hf s hs)
  rw [h1]
  cases S
  simp only at hl hr
  subst hl
  subst hr
  rfl
theorem sgs_view (S : Dk) : (sgs S).map (fun x => (x.1, B x.2)) = S.segs.map view := by
  unfold sgs
  rw [List.map_map]
  rfl
/-- The power fails under a journal: of what is not synced a beginning is left. -/
theorem Kseg.crash {J : Jn} {S : Dk} {R : List (Int × List Rc)} {b : List Rc} (h : Kseg J S R b) (hok : ∀ p ∈ R, ∀ r ∈ p.2, r.Ok) (hz : ∀ s ∈ S.segs, s.text.size ≤ 140737488355328) (t : Int) (hne : J.opn ≠ []) :
    ∃ R0 a e f y, R = R0 ++ [(jlast J, a ++ b)] ∧ b = e ++ f ∧ (y = [] ∨ (y ≠ [] ∧ (rdr y).2 = false)) ∧ (doCrash S t).segs.map view = (R0.map fun p => (p.1, stx p.2)) ++ [(jlast J, stx (a ++ e) ++ y)] ∧ (∀ s ∈ (doCrash S t).segs, s.syn = s.text.size) ∧ Told (sgs (doCrash S t)) (R0 ++ [(jlast J, a ++ e)]) := by
  obtain ⟨R0, a, hR, hsy, hun⟩ := h.last hne
  have hv := h.segs
  rw [hR, List.map_append] at hv
  obtain ⟨l0, l1, hl, v0, v1⟩ := List.map_eq_append_iff.1 hv
  obtain ⟨s, rfl, hs⟩ := List.map_eq_singleton_iff.1 v1
  unfold view at hs
  injection hs with e1 e2
  have hr := h.calm.good.rise
  rw [hl, List.pairwise_append] at hr
  have hsm : s ∈ S.segs := by rw [hl]; simp
  obtain ⟨T, hT⟩ : ∃ T, (if t < 0 then (0 : Int) else t) = T := ⟨_, rfl⟩
  have hT0 : 0 ≤ T := by rw [← hT]; split <;> omega
  have hsyn : s.syn ≤ s.text.size := h.calm.good.syn s hsm
  obtain ⟨m, hm, ht, hn, hf⟩ := torn_text T s hT0 hsyn
  have hsa : s.syn = (stx a).length := (h.lsyn hne s hsm e1).trans hsy
  have hoka : ∀ r ∈ a ++ b, r.Ok := hok (jlast J, a ++ b) (by rw [hR]; simp)
  obtain ⟨a', b', y, h1, h2, h3, h4⟩ := torn_at (a ++ b) m hoka
  obtain ⟨e, he⟩ := h4 a b rfl (by omega)
  have hb : b = e ++ b' := by
    rw [he, List.append_assoc] at h1
    exact List.append_cancel_left h1
  have hfull : ∀ q ∈ l0, torn T q = q := fun q hq => torn_full T q hT0 (h.syn q (by rw [hl]; exact List.mem_append_left _ hq) (Or.inr (by
    have := hr.2.2 q hq s (List.mem_singleton.2 rfl)
    omega)))
  have hsegs : (doCrash S t).segs = l0 ++ [torn T s] := by
    show S.segs.map (torn (if t < 0 then 0 else t)) = _
    have h5 : l0.map (torn T) = l0 := (List.map_congr_left hfull).trans (List.map_id l0)
    rw [hT, hl, List.map_append, h5]
    rfl
  have hvw : (doCrash S t).segs.map view = (R0.map fun p => (p.1, stx p.2)) ++ [(jlast J, stx (a ++ e) ++ y)] := by
    rw [hsegs, List.map_append, v0]
    congr 1
    show [((torn T s).num, B (torn T s).text)] = _
    rw [hn, e1, ht, e2, h2, he]
  refine ⟨R0, a, e, b', y, hR, hb, h3, hvw, fun q hq => ?_, told_torn h3 (fun r hr' => hoka r (by rw [hb]; rcases List.mem_append.1 hr' with h5 | h5 <;> simp [h5])) R0 _ (by rw [sgs_view]; exact hvw) (fun p hp r hr' => hok p (by rw [hR]; exact List.mem_append_left _ hp) r hr') fun x hx => ?_⟩
  · rw [hsegs] at hq
    rcases List.mem_append.1 hq with hq | hq
    · have h5 := h.syn q (by rw [hl]; exact List.mem_append_left _ hq) (Or.inr (by
        have := hr.2.2 q hq s (List.mem_singleton.2 rfl)
        omega))
      exact h5
    · rw [List.mem_singleton.1 hq]
      exact hf
  · unfold sgs at hx
    obtain ⟨q, hq, rfl⟩ := List.mem_map.1 hx
    rw [hsegs] at hq
    rcases List.mem_append.1 hq with hq | hq
    · exact hz q (by rw [hl]; exact List.mem_append_left _ hq)
    · rw [List.mem_singleton.1 hq]
      show (torn T s).text.size ≤ _
      rw [size_B, ht, List.length_take, ← size_B]
      have := hz s hsm
      omega
/-- What a disk has of a journal, and what its records tell. -/
structure Kd (J : Jn) (S : Dk) (R : List (Int × List Rc)) (b : List Rc) (H : Hs) : Prop where
  seg : Kseg J S R b
  ne : ∀ p ∈ R, p.2 ≠ []
  is : hfold hs0 (ents R) = H
  cl : AllCl hs0 (ents R)
  opn : H.osegs = J.opn
  g : H.g = J.greatest
  sealed : H.sealed.map (fun s => (s.1, s.2.2)) = J.sealed
end Go.Proofs.YtmkidefdegaamaaGreatDoor.Jr
namespace Go.Proofs.YtmkidefdegaamaaGreatDoor.Jr
open Go.RowKit Go.Maps Mem Foot Bytes Im Wm Hi Plainw Cq Dm Dh Dd
theorem tid1_fit {S : Dk} {k u : Nat} (h : Fit S k u) (x : Int × ByteArray) (us : List Int) (es ez : Int) : Fit (tid1 S x us es ez).1 k u := by
  unfold tid1
  split
  · exact fit_delete h _
  · split
    · exact fit_trunc h _ _
    · exact h
theorem HA.pd {w w' : World} {H : Hs} {p : Hp} {bx ba cap : Nat} {bs : List Nat} {S : Dk} (h : HA w H p) (hP : PD w bx S ba cap bs) (ho : Off (pf bx ba bs) w w') : HA w' H p :=
  h.off ho fun k hk => by
    obtain ⟨t, cs, hs, ht⟩ := h.cells hk
    exact PD.not hP hs (by rcases ht with rfl | rfl | rfl | rfl <;> decide) (by rcases ht with rfl | rfl | rfl | rfl <;> decide) (by rcases ht with rfl | rfl | rfl | rfl <;> decide)
theorem row_pd {w w' : World} {base size n : Nat} {e : TypeId} {v : Value} {xs : List Value} {bx ba cap : Nat} {bs : List Nat} {S : Dk} (h : w.ownsRow base e size v n xs) (hP : PD w bx S ba cap bs) (ho : Off (pf bx ba bs) w w') (h1 : e ≠ 55) (h2 : e ≠ 127) (h3 : e ≠ 129) : w'.ownsRow base e size v n xs :=
  own_off h ho fun k hk => by
    obtain ⟨cs, hs⟩ := sits_row h hk
    exact PD.not hP hs h1 h2 h3
/-- The disk when all is tidy. -/
def tidE (us : List Int) (es ez : Int) (l : List (Int × ByteArray)) (S : Dk) : Dk :=
  if us = [] then tidL us es ez l S else (doSync (tidL us es ez l S) (us.getLast?.getD 0)).1
structure TidFine (us : List Int) (es ez : Int) (l : List (Int × ByteArray)) (S : Dk) : Prop where
  ok : TidOk us es ez l S
  sync : us ≠ [] → (doSync (tidL us es ez l S) (us.getLast?.getD 0)).2 = 0
set_option maxRecDepth 10000 in
set_option maxHeartbeats 4000000 in
theorem tidyR (w0 w : World) (hT : Tab w0) (h0 : Below w0.heap.size w0 w) (bx ba cap : Nat) (bs : List Nat) (S : Dk) (hP : PD w bx S ba cap bs) (hfar : ∀ b ∈ pf bx ba bs, w0.heap.size ≤ b) (k u : Nat) (hF : Fit S k u) (hk : k ≤ 1000000000) (l : List (Int × ByteArray)) (sa : Option Addr) (sc : Nat) (hrow : w.ownsRow 0 143 2 (.slice sa l.length sc) l.length (l.flatMap scells)) (hl : l.length ≤ 1000000000) (hn : ∀ x ∈ l, -9223372036854775808 ≤ x.1 ∧ x.1 ≤ 9223372036854775807) (H : Hs) (p : Hp) (h : HA w H p) (hsl : H.sealed.length ≤ 1000000000) (hul : (husd H).length ≤ 1000000000) (hur : ∀ x ∈ husd H, -9223372036854775808 ≤ x ∧ x ≤ 9223372036854775807) (hs : (husd H).Pairwise (· < ·)) (hok : TidFine (husd H) H.es H.ez l S) :
    Calls Tryz.prog 43 #[.pointer (some ⟨bx, 0, none⟩), .slice sa l.length sc, .pointer (some ⟨p.hb, 0, none⟩)] w fun e w' => e = .returned .nilIface ∧ Off (pf bx ba bs) w w' ∧ ∃ ba' cap' bs', PD w' bx (tidE (husd H) H.es H.ez l S) ba' cap' bs' ∧ ∀ b ∈ pf bx ba' bs', b ∈ pf bx ba bs ∨ w.heap.size ≤ b := by
  have hus := usedR H p w h hsl hul
  have HP := hide hP
  have HT := hide hT
  have HB0 := hide h0
  have HFAR := hide hfar
  have HFT := hide hF
  have HRW := hide hrow
  have HN := hide hn
  have HH := hide h
  have HUR := hide hur
  have HSO := hide hs
  have HOK := hide hok
  obtain ⟨us, husE⟩ : ∃ us, husd H = us := ⟨_, rfl⟩
  rw [husE] at hus hul HUR HSO HOK ⊢
  clear hP hT h0 hfar hF hrow hn h hur hs hok husE
  go_enter Tryz.func43, Tryz.ntmps43
  go_wp2_with fail
  refine hus.mono ?_
  clear hus
  rintro e w1 ⟨ua, uc, rfl, hu1, hb1⟩
  have HU1 := hide (own_base hu1 (Nat.zero_le _))
  have HB1 := hide hb1
  clear hu1 hb1
  go_wp2_with fail
  go_loopw [16] (fun s wr => ∃ (i : Nat) (S' : Dk) (ba' cap' : Nat) (bs' : List Nat), s = .int .i64 (i : Int) ∧ i ≤ l.length ∧ Hid (TidOk us H.es H.ez (l.drop i) S') ∧ Hid (tidL us H.es H.ez (l.drop i) S' = tidL us H.es H.ez l S) ∧ Hid (Fit S' k u) ∧ Hid (PD wr bx S' ba' cap' bs') ∧ Hid (∀ b ∈ pf bx ba' bs', b ∈ pf bx ba bs ∨ w.heap.size ≤ b) ∧ Hid (Off (pf bx ba bs) w wr) ∧ Hid (wr.ownsRow 0 143 2 (.slice sa l.length sc) l.length (l.flatMap scells)) ∧ Hid (HA wr H p) ∧ Hid (wr.ownsRow 0 3 1 (.slice ua us.length uc) us.length (us.map (Value.int .i64)))) (fun s _ => l.length - (intOf s).toNat)
  case atStart => exact ⟨0, S, ba, cap, bs, rfl, Nat.zero_le _, HOK.out.ok, rfl, HFT.out, HP.out.keep HB1.out, fun b hb => Or.inl hb, Off.of_below HB1.out, own_keep HRW.out HB1.out, HH.out.keep HB1.out, HU1.out⟩
  case round =>
    obtain ⟨i, S', ba', cap', bs', rfl, hil, HTO, HTL, HFT', HP', HFN, HOF, HRW', HHA, HUS⟩ := hrel
    have HTB := hide (HT.out.below (HB0.out.trans (HOF.out.below HFAR.out HB0.out.size)))
    have hbl : bs'.length ≤ 1000000000 := by
      have h1 := HP'.out.len
      have h2 := HFT'.out.len
      omega
    rcases Nat.lt_or_ge i l.length with hi | hi
    · have hiz : (i : Int) < (l.length : Int) := by omega
      obtain ⟨⟨num, t⟩, hx⟩ : ∃ x, l[i]? = some x := ⟨_, List.getElem?_eq_getElem hi⟩
      have hdr : l.drop i = (num, t) :: l.drop (i + 1) := by
        rw [List.drop_eq_getElem_cons hi]
        congr 1
        rw [List.getElem?_eq_getElem hi] at hx
        exact Option.some.inj hx
      rw [hdr] at HTO HTL
      have hnum := HN.out _ (List.mem_of_getElem? hx)
      obtain ⟨r1, r2⟩ := scells_at hx
      obtain ⟨g, cp, hv, hcap, _, d1⟩ := row_cell HRW'.out r1
      obtain ⟨g', cp', hv', _, _, d2⟩ := row_cell HRW'.out r2
      rw [hv] at hv'
      injection hv' with e1' e2' e3'
      clear e2' e3'
      have eg : g = g' := by injection e1' with e; injection e
      rw [← eg] at d2
      injection hv with e1 e2 e3
      clear e2
      subst e1
      subst e3
      clear e1' eg r1 r2 hdr hx
      have hs1 := Sits.new wr 143 #[.int .i64 num, .string t]
      have hb1 := below_new (w := wr) (.cells #[.int .i64 num, .string t] 143)
      have HS1 := hide hs1
      have HBA := hide hb1
      clear hs1 hb1
      simp only at d1 d2 hnum
      go_upto_region 5 with fail
      clear d1 d2
      have HOF1 := hide (HOF.out.trans (Off.of_below HBA.out))
      have HP1 := hide (HP'.out.keep HBA.out)
      have HR1 := hide (own_keep HRW'.out HBA.out)
      have HH1 := hide (HHA.out.keep HBA.out)
      have HU2 := hide (own_keep HUS.out HBA.out)
      have HT1 := hide (HTB.out.below HBA.out)
      obtain ⟨sb, hsb⟩ : ∃ sb, wr.heap.size = sb := ⟨_, rfl⟩
      rw [hsb] at HS1 ⊢
      have HZS := hide (show w.heap.size ≤ sb by rw [← hsb]; exact HOF.out.size)
      clear hsb HP' HRW' HHA HUS HTB HBA HOF
      generalize wr.alloc (.cells #[.int .i64 num, .string t] 143) = wr1 at *
      have C0 : ∀ q : Bw wr1, q.val.cell? ⟨sb, 0, none⟩ = some (.int .i64 num) := fun q => (Mem.Sits.below HS1.out q.is HS1.out.lt).cell 0 _ rfl
      have C1 : ∀ q : Bw wr1, q.val.cell? ⟨sb, 1, none⟩ = some (.string t) := fun q => (Mem.Sits.below HS1.out q.is HS1.out.lt).cell 1 _ rfl
      have C5 : ∀ q : Bw wr1, q.val.cell? ⟨p.hb, 5, none⟩ = some (.int .i64 H.es) := fun q => (HH1.out.keep q.is).head.cell 5 _ rfl
      have C6 : ∀ q : Bw wr1, q.val.cell? ⟨p.hb, 6, none⟩ = some (.int .i64 H.ez) := fun q => (HH1.out.keep q.is).head.cell 6 _ rfl
      refine region_pre 7 (by kernel_rfl) (by kernel_rfl) ?_
      simp only [List.take_succ_cons, List.take_zero, List.drop_succ_cons, List.drop_zero]
      repeat (first
        | go_big_quiet_skip
        | (go_big_quiet_want; go_big_quiet_op; go_big_quiet_on))
      refine wpQuiet_nil ?_
      intro q
      have HB4 := hide q.is
      clear C0 C1 C5 C6
      generalize q.val = w4 at *
      have hts := tidyS w4 (HT1.out.below HB4.out) bx ba' cap' bs' S' (HP1.out.keep HB4.out) HFT'.out.good hbl num t ua uc us (own_keep HU2.out HB4.out) hul HSO.out H.es H.ez hnum HTO.out.1
      go_wp2_with fail
      refine hts.mono ?_
      clear hts
      rintro e w5 ⟨rfl, ho5, ba5, cap5, bs5, hP5, hf5⟩
      have HPX := hide (HP1.out.keep HB4.out)
      have HR5 := hide (row_pd (own_keep HR1.out HB4.out) HPX.out ho5 (by decide) (by decide) (by decide))
      have HH5 := hide ((HH1.out.keep HB4.out).pd HPX.out ho5)
      have HU5 := hide (row_pd (own_keep HU2.out HB4.out) HPX.out ho5 (by decide) (by decide) (by decide))
      have HO5 := hide (off_trans (HOF1.out.trans (Off.of_below HB4.out)) HFN.out ho5)
      have HF5 := hide (show ∀ b ∈ pf bx ba5 bs5, b ∈ pf bx ba bs ∨ w.heap.size ≤ b from fun b hb => (hf5 b hb).elim (HFN.out b) fun e => Or.inr (Nat.le_trans (HOF1.out.trans (Off.of_below HB4.out)).size e))
      have HP5 := hide hP5
      have HT5 := hide (tid1_fit HFT'.out (num, t) us H.es H.ez)
      clear ho5 hP5 hf5
      go_wp2_with fail
      go_roundw
      case rel => exact ⟨i + 1, _, ba5, cap5, bs5, by go_num, by omega, HTO.out.2, HTL.out, HT5, HP5, HF5, HO5, HR5, HH5, HU5⟩
      case measure => simp only [intOf]; omega
    · have hiz : ¬ (i : Int) < (l.length : Int) := by omega
      have hdr : l.drop i = [] := List.drop_of_length_le hi
      rw [hdr] at HTL
      have HEL := hide (show S' = tidL us H.es H.ez l S from HTL.out)
      by_cases hue : us = []
      · subst hue
        have HTE := hide (show tidE [] H.es H.ez l S = S' by unfold tidE; rw [if_pos rfl]; exact HEL.out.symm)
        simp only [List.length_nil] at *
        go_wp2_with fail
        go_ret
        rw [HTE.out]
        exact ⟨rfl, HOF.out, ba', cap', bs', HP'.out, HFN.out⟩
      · obtain ⟨us', x, hux⟩ : ∃ us' x, us = us' ++ [x] := (List.eq_nil_or_concat us).elim (fun e => absurd e hue) fun ⟨a, b, e⟩ => ⟨a, b, by rw [e, List.concat_eq_append]⟩
        have hlast : us.getLast?.getD 0 = x := by rw [hux]; simp
        have HTE := hide (show tidE us H.es H.ez l S = (doSync S' x).1 by unfold tidE; rw [if_neg hue, hlast, HEL.out])
        have HSZ := hide (show (doSync S' x).2 = 0 by rw [HEL.out, ← hlast]; exact HOK.out.sync hue)
        have hul2 : us.length = us'.length + 1 := by rw [hux]; simp
        have hxr := HUR.out x (by rw [hux]; simp)
        obtain ⟨g, cp, hv, hcap, _, hcell⟩ := row_ints HUS.out (i := us'.length) (x := x) (by rw [hux]; exact List.getElem?_concat_length)
        injection hv with e1 _ e3
        subst e1
        subst e3
        rw [hul2] at hcap ⊢
        have hwr : IntKind.i64.wrap (us'.length : Int) = (us'.length : Int) := IntWalk.i64_in _ (by omega)
        have hab := about ⟨#[115, 121, 110, 99, 105, 110, 103]⟩ (by decide) x hxr.1 hxr.2 wr HTB.out
        clear hlast hue hux hdr
        go_wp2_with fail
        refine hab.mono ?_
        clear hab
        rintro e w5 ⟨rfl, hb5⟩
        generalize aboutB ⟨#[115, 121, 110, 99, 105, 110, 103]⟩ x = y
        have HB5 := hide hb5
        have hsy := sync bx ba' cap' bs' S' x w5 (HP'.out.keep hb5) HFT'.out.good hbl
        clear hb5
        go_wp2_with fail
        refine hsy.mono ?_
        clear hsy
        rintro e w6 ⟨rfl, ho6, hP6⟩
        rw [HSZ.out]
        have HO6 := hide (off_trans (G := pf bx ba' bs') (HOF.out.trans (Off.of_below HB5.out)) HFN.out (ho6.mono fun k _ hk => pf_sub hk))
        have HP6 := hide hP6
        have hdu := during y 0 w6
        clear ho6 hP6
        go_wp2_with fail
        refine hdu.mono ?_
        clear hdu
        rintro e w7 ⟨⟨v, rfl, hv⟩, hb7⟩
        have hv' : v = .nilIface := hv.elim (fun h => h.2) fun h => absurd rfl h.1
        subst hv'
        have HB7 := hide hb7
        clear hb7 hv
        go_wp2_with fail
        go_ret
        rw [HTE.out]
        exact ⟨rfl, HO6.out.trans (Off.of_below HB7.out), ba', cap', bs', HP6.out.keep HB7.out, HFN.out⟩
end Go.Proofs.YtmkidefdegaamaaGreatDoor.Jr
namespace Go.Proofs.YtmkidefdegaamaaGreatDoor.Jr
open Go.RowKit Go.Maps Mem Foot Bytes Im Wm Hi Plainw Cq Dm Dh Dd
/-- The journal that is opened. -/
def Jof (most : Int) (H : Hs) : Jn := ⟨most, H.sealed.map fun s => (s.1, s.2.2), H.osegs, H.ez.toNat, ⟨#[]⟩, H.es + 1, H.g⟩
/-- What is asked of a disk and what its records tell. -/
structure OpenOk (S : Dk) (ss : List (Int × List Rc)) (H : Hs) : Prop where
  is : hfold hs0 (ents ss) = H
  told : Told (sgs S) ss
  fit : AllFit hs0 (ents ss)
  len : (ents ss).length ≤ 900000000
  g : H.g ≤ 1000000000 ∧ -1 ≤ H.g
  es : H.es ≤ 1000000000000 ∧ -1 ≤ H.es
  ez : 0 ≤ H.ez ∧ H.ez ≤ 1000000000000
  nums : ∀ x ∈ sgs S, -9223372036854775808 ≤ x.1 ∧ x.1 ≤ 9223372036854775807
  ul : (husd H).length ≤ 1000000000
  ur : ∀ x ∈ husd H, -9223372036854775808 ≤ x ∧ x ≤ 9223372036854775807
  us : (husd H).Pairwise (· < ·)
  tid : TidFine (husd H) H.es H.ez (sgs S) S
  up : (H.sealed.map (·.1)).Pairwise (· < ·)
  sn : ∀ s ∈ H.sealed, 0 ≤ s.1 ∧ s.1 ≤ 1000000000
theorem put_end {β : Type} {k : Int} {b : β} : ∀ {l : List (Int × β)}, (∀ p ∈ l, p.1 < k) → put iLt k b l = l ++ [(k, b)] := by
  intro l h
  have hd : del k l = l := List.filter_eq_self.2 fun p hp => by
    have := h p hp
    simp
    omega
  unfold put
  rw [hd]
  clear hd
  induction l with
  | nil => rfl
  | cons x l ih =>
    have hx := h x (List.mem_cons_self ..)
    rw [ins, if_neg (by simp [iLt]; omega), ih fun p hp => h p (List.mem_cons_of_mem _ hp)]
    rfl
/-- The sealed windows as the journal's map has them. -/
def svOf (ws : List Wn) : Srs := ws.map fun x => (x.num, x.sg, x.ss)
theorem hend_is (H : Hs) : hend H = { H with onum := (hend H).onum } := by
  unfold hend
  split <;> rfl
structure OpenQ (w w' : World) (bx ba : Nat) (bs : List Nat) (S' : Dk) (most : Int) (H : Hs) (p : Hp) (jb mb : Nat) : Prop where
  ha : HA w' (hend H) p
  new : ∀ b ∈ p.blocks, w.heap.size ≤ b
  jw : JW w' jb bx mb (Jof most H) (svOf p.ws) p.sg
  pd : ∃ ba' cap' bs', PD w' bx S' ba' cap' bs' ∧ ∀ b ∈ pf bx ba' bs', b ∈ pf bx ba bs ∨ w.heap.size ≤ b
  off : Off (pf bx ba bs) w w'
  jb : w.heap.size ≤ jb
  mb : w.heap.size ≤ mb
set_option maxRecDepth 20000 in
set_option maxHeartbeats 4000000 in
theorem openR (w0 w : World) (hT : Tab w0) (hE : Ers w0) (h0 : Below w0.heap.size w0 w) (bx ba cap : Nat) (bs : List Nat) (S : Dk) (hP : PD w bx S ba cap bs) (hfar : ∀ b ∈ pf bx ba bs, w0.heap.size ≤ b) (hl : S.left = -1) (k u : Nat) (hF : Fit S k u) (hk : k ≤ 1000000000) (ss : List (Int × List Rc)) (H : Hs) (hok : OpenOk S ss H) (most : Int) :
    Calls Tryz.prog 23 #[.pointer (some ⟨bx, 0, none⟩), .int .i64 most] w fun e w' => ∃ jb mb p, e = .returned (.tuple #[.pointer (some ⟨jb, 0, none⟩), .agg #[p.sv, .int .i64 (hend H).onum, p.dv, p.sg], .nilIface]) ∧ OpenQ w w' bx ba bs (tidE (husd H) H.es H.ez (sgs S) S) most H p jb mb := by
  have hon := hend_is H
  obtain ⟨on, hone⟩ : ∃ on, (hend H).onum = on := ⟨_, rfl⟩
  rw [hone] at hon ⊢
  have HON := hide hon
  clear hon hone
  have hb1 := below_new (w := w) (.cells found0 62)
  have hf1 := Sits.new w 62 found0
  have hrs := segsR bx ba cap bs S (w.alloc (.cells found0 62)) (hP.keep hb1) hl hF.good (by have := hF.len; omega)
  have HB1 := hide hb1
  have HF1 := hide hf1
  have HP := hide hP
  have HT := hide hT
  have HE := hide hE
  have HB0 := hide h0
  have HFAR := hide hfar
  have HFT := hide hF
  have HOK := hide hok
  have hsl : (sgs S).length ≤ 1000000000 := by
    have := hF.len
    simp [sgs]
    omega
  clear hb1 hf1 hP hl hT hE h0 hfar hF hok
  unfold found0 at *
  go_enter Tryz.func23, Tryz.ntmps23
  go_wp2_with fail
  generalize w.alloc (.cells #[.slice none 0 0, .int .i64 0, .slice none 0 0, .slice none 0 0] 62) = w1 at *
  obtain ⟨fb, hfb⟩ : ∃ fb, w.heap.size = fb := ⟨_, rfl⟩
  rw [hfb] at HF1 ⊢
  have HFB := hide hfb
  clear hfb
  refine hrs.mono ?_
  clear hrs
  rintro e w2 ⟨sa, sc, rfl, hrow, hb2⟩
  have HRW := hide (own_base hrow (Nat.zero_le _))
  have HB2 := hide (HB1.out.trans (hb2.mono HB1.out.size))
  have HF2 := hide (Mem.Sits.below HF1.out hb2 HF1.out.lt)
  clear hb2 hrow
  have HB02 := hide (HB0.out.trans (HB2.out.mono HB0.out.size))
  have hhi := histR w2 (HT.out.below HB02.out) (HE.out.keep HB02.out) sa sc (sgs S) ss HRW.out HOK.out.told hsl HOK.out.fit HOK.out.len (by rw [HOK.out.is]; exact HOK.out.g)
  rw [HOK.out.is] at hhi
  go_wp2_with fail
  refine hhi.mono ?_
  clear hhi
  rintro e w3 ⟨p, rfl, hA, hnew, hb3⟩
  rw [HON.out] at hA
  have HA3 := hide hA
  have HNE := hide (show ∀ b ∈ p.blocks, w.heap.size ≤ b from fun b hb => Nat.le_trans HB2.out.size (hnew b hb))
  have HNF := hide (show ∀ b ∈ p.blocks, fb < b from fun b hb => Nat.lt_of_lt_of_le HF2.out.lt (hnew b hb))
  have HF3 := hide (Mem.Sits.below HF2.out hb3 HF2.out.lt)
  have HB3 := hide (HB2.out.trans (hb3.mono HB2.out.size))
  have HR3 := hide (own_keep HRW.out hb3)
  have HB03 := hide (HB0.out.trans (HB3.out.mono HB0.out.size))
  clear hA hnew hb3
  have hsn : H.sealed.length ≤ 1000000000 := by
    rw [← HOK.out.is]
    have h1 := (hlen (ents ss) hs0).1
    have h2 := HOK.out.len
    simp only [hs0, List.length_nil, Nat.zero_add] at h1 ⊢
    exact Nat.le_trans h1 (by omega)
  have hti := tidyR w0 w3 HT.out HB03.out bx ba cap bs S (HP.out.keep HB3.out) HFAR.out k u HFT.out hk (sgs S) sa sc HR3.out hsl HOK.out.nums { H with onum := on } p HA3.out hsn HOK.out.ul HOK.out.ur HOK.out.us HOK.out.tid
  go_wp2_with fail
  refine hti.mono ?_
  clear hti
  rintro e w4 ⟨rfl, ho4, ba4, cap4, bs4, hP4, hf4⟩
  have HP3 := hide (HP.out.keep HB3.out)
  have HA4 := hide (HA3.out.pd HP3.out ho4)
  have HF4 := hide (Foot.Sits.off HF3.out ho4 (PD.not HP3.out HF3.out (by decide) (by decide) (by decide)))
  have HO4 := hide ((Off.of_below HB3.out).trans ho4)
  have HP4 := hide (show PD w4 bx (tidE (husd H) H.es H.ez (sgs S) S) ba4 cap4 bs4 from hP4)
  have HPF := hide (show ∀ b ∈ pf bx ba4 bs4, b ∈ pf bx ba bs ∨ w.heap.size ≤ b from fun b hb => (hf4 b hb).imp id fun e => Nat.le_trans HB3.out.size e)
  have HFM4 := hide (Nat.lt_of_lt_of_le HF3.out.lt ho4.size)
  clear ho4 hP4 hf4
  obtain ⟨S4, hS4⟩ : ∃ S4, tidE (husd H) H.es H.ez (sgs S) S = S4 := ⟨_, rfl⟩
  rw [hS4] at HP4
  have HS4 := hide hS4
  clear hS4
  obtain ⟨hb, sv, ws, dv, sg⟩ := p
  obtain ⟨va, vc, hsv⟩ := own_shapeJ HA4.out.sv
  obtain ⟨da, dc, hdv⟩ := own_shapeJ HA4.out.dv
  obtain ⟨ga, gc, hsg⟩ := own_shapeJ HA4.out.sg
  simp only at hsv hdv hsg
  subst hsv
  subst hdv
  subst hsg
  have hmm := @run_makeMap Tryz.prog
  have hh4 := HA4.out.head
  have hh5 := hh4.alloc (.map #[] 0)
  simp only at hh4 hh5
  have c3 := hh4.cell 3 _ rfl
  have c4 := hh4.cell 4 _ rfl
  have c5 := hh4.cell 5 _ rfl
  have c6 := hh4.cell 6 _ rfl
  have d3 := hh5.cell 3 _ rfl
  have d4 := hh5.cell 4 _ rfl
  have d5 := hh5.cell 5 _ rfl
  have d6 := hh5.cell 6 _ rfl
  have hes := HOK.out.es
  have hwr : IntKind.i64.wrap (H.es + 1) = H.es + 1 := IntWalk.i64_in _ (by omega)
  clear hh4 hh5
  go_wp2_with fail
  go_region
  clear c3 c4 c5 c6 d3 d4 d5 d6 hmm hwr
  have hb5 : Below w4.heap.size w4 ((w4.alloc (.map #[] 0)).alloc (.cells #[.pointer (some ⟨bx, 0, none⟩), .int .i64 most, .map (some w4.heap.size), .slice ga H.osegs.length gc, .int .i64 H.ez, .string ⟨#[]⟩, .int .i64 (H.es + 1), .int .i64 H.g] 103)).drew := below_drewN' (n := 1) ((below_new _).alloc (by simp) _)
  have hj5 := Sits.new (w4.alloc (.map #[] 0)) 103 #[.pointer (some ⟨bx, 0, none⟩), .int .i64 most, .map (some w4.heap.size), .slice ga H.osegs.length gc, .int .i64 H.ez, .string ⟨#[]⟩, .int .i64 (H.es + 1), .int .i64 H.g]
  rw [World.size_alloc] at hj5
  have HJ5 := hide (show Sits ((w4.alloc (.map #[] 0)).alloc (.cells #[.pointer (some ⟨bx, 0, none⟩), .int .i64 most, .map (some w4.heap.size), .slice ga H.osegs.length gc, .int .i64 H.ez, .string ⟨#[]⟩, .int .i64 (H.es + 1), .int .i64 H.g] 103)).drew (w4.heap.size + 1) _ _ from hj5)
  have HM5 := hide (show ((w4.alloc (.map #[] 0)).alloc (.cells #[.pointer (some ⟨bx, 0, none⟩), .int .i64 most, .map (some w4.heap.size), .slice ga H.osegs.length gc, .int .i64 H.ez, .string ⟨#[]⟩, .int .i64 (H.es + 1), .int .i64 H.g] 103)).drew.ownsMap Tryz.prog 3 (exE okS) w4.heap.size 0 (sD []) from
    own_at (made_map w4) (Below.heap_alloc _ _ _ (by simp)))
  have HB5 := hide hb5
  have HA5 := hide (HA4.out.keep hb5)
  have HF5 := hide (Mem.Sits.below HF4.out hb5 HF4.out.lt)
  have HP5 := hide (HP4.out.keep hb5)
  have HO5 := hide (HO4.out.trans (Off.of_below hb5))
  clear hj5 hb5 HA4 HF4 HP4 HA3 HP3 HR3
  generalize ((w4.alloc (.map #[] 0)).alloc (.cells #[.pointer (some ⟨bx, 0, none⟩), .int .i64 most, .map (some w4.heap.size), .slice ga H.osegs.length gc, .int .i64 H.ez, .string ⟨#[]⟩, .int .i64 (H.es + 1), .int .i64 H.g] 103)).drew = w5 at *
  obtain ⟨mb, hmb⟩ : ∃ mb, w4.heap.size = mb := ⟨_, rfl⟩
  rw [hmb] at HJ5 HM5 ⊢
  have HMB := hide (show w.heap.size ≤ mb by rw [← hmb]; exact HO4.out.size)
  have HFM := hide (show fb < mb by rw [← hmb]; exact HFM4.out)
  clear hmb
  have c0 := HA5.out.head.cell 0 _ rfl
  simp only at c0
  go_wp2_with fail
  clear c0
  have HWL := hide (show ws.length = H.sealed.length by rw [← show ws.map Wn.is = H.sealed from HA5.out.is, List.length_map])
  have HWN := hide (show ∀ x ∈ ws, 0 ≤ x.num ∧ x.num ≤ 1000000000 from fun x hx => HOK.out.sn x.is (by rw [← show ws.map Wn.is = H.sealed from HA5.out.is]; exact List.mem_map_of_mem hx))
  have HWU := hide (show (ws.map (·.num)).Pairwise (· < ·) by
    have h1 := HOK.out.up
    rw [← show ws.map Wn.is = H.sealed from HA5.out.is, List.map_map] at h1
    exact h1)
  have HNM := hide (show ∀ wr : World, Off [mb] w5 wr → HA wr { H with onum := on } ⟨hb, .slice va H.sealed.length vc, ws, .slice da H.odgs.length dc, .slice ga H.osegs.length gc⟩ from fun wr ho => HA5.out.off ho fun k hk e => by
    obtain ⟨t, cs, hs, _⟩ := HA5.out.cells hk
    exact map_ne HM5.out hs (List.mem_singleton.1 e).symm)
  have HJM := hide (show ∀ wr : World, Off [mb] w5 wr → Sits wr (mb + 1) 103 #[.pointer (some ⟨bx, 0, none⟩), .int .i64 most, .map (some mb), .slice ga H.osegs.length gc, .int .i64 H.ez, .string ⟨#[]⟩, .int .i64 (H.es + 1), .int .i64 H.g] from fun wr ho => Foot.Sits.off HJ5.out ho (by simp))
  go_loopw [65] (fun s wr => ∃ i : Nat, s = .int .i64 (i : Int) ∧ i ≤ H.sealed.length ∧ Hid (wr.ownsMap Tryz.prog 3 (exE okS) mb i (sD ((svOf ws).take i))) ∧ Hid (Off [mb] w5 wr)) (fun s _ => H.sealed.length - (intOf s).toNat)
  case atStart => exact ⟨0, rfl, Nat.zero_le _, HM5.out, Off.refl _ _⟩
  case round =>
    obtain ⟨i, rfl, hil, HMR, HOR⟩ := hrel
    have HAR := hide (HNM.out _ HOR.out)
    by_cases hi : i < H.sealed.length
    · have hiz : (i : Int) < (H.sealed.length : Int) := by omega
      obtain ⟨x, hx⟩ : ∃ x, ws[i]? = some x := ⟨_, List.getElem?_eq_getElem (by rw [HWL.out]; exact hi)⟩
      obtain ⟨r0, r1, r2⟩ := wcells_at hx
      obtain ⟨g, cap', hv, hcap, ⟨cs, hsg⟩, d0⟩ := row_cell HAR.out.sv r0
      obtain ⟨g1, cap1, hv1, _, _, d1⟩ := row_cell HAR.out.sv r1
      obtain ⟨g2, cap2, hv2, _, _, d2⟩ := row_cell HAR.out.sv r2
      simp only at hv hv1 hv2
      rw [hv1] at hv2
      rw [hv] at hv1
      injection hv with e1 e2 e3
      injection hv1 with e4 e4a e4b
      injection hv2 with e5 e5a e5b
      have eg1 : g = g1 := by injection e4 with e; injection e
      have eg2 : g1 = g2 := by injection e5 with e; injection e
      subst eg2
      subst eg1
      clear e4 e5 e4a e4b e5a e5b e2
      subst e1
      subst e3
      have hxm := List.mem_of_getElem? hx
      have hxr := HWN.out x hxm
      obtain ⟨xd, xdc, hdv⟩ := own_shapeJ (HAR.out.ws x hxm).d
      obtain ⟨xa, xc, hxs⟩ := own_shapeJ (HAR.out.ws x hxm).s
      rw [hdv] at d1
      rw [hxs] at d2
      have HKEY := hide (Maps.keyOf_int_mk (P := Tryz.prog) (k := 3) Tryz.underlying3 (wf_int (n := x.num) (by omega) (by omega)))
      have HTK := hide (show put iLt x.num (.slice xa x.ss.length xc, x.ss) ((svOf ws).take i) = (svOf ws).take (i + 1) by
        have h1 : (svOf ws)[i]? = some (x.num, .slice xa x.ss.length xc, x.ss) := by
          unfold svOf
          rw [List.getElem?_map, hx, ← hxs]
          rfl
        rw [List.take_add_one, h1]
        refine put_end fun q hq => ?_
        obtain ⟨j, hj, he⟩ := List.mem_iff_getElem.1 hq
        rw [List.length_take] at hj
        have hjw : j < ws.length := by
          have : (svOf ws).length = ws.length := by simp [svOf]
          omega
        have hji : j < i := by omega
        have hxi : ws[i]'(by rw [HWL.out]; exact hi) = x := by
          rw [List.getElem?_eq_getElem (by rw [HWL.out]; exact hi)] at hx
          exact Option.some.inj hx
        have h2 := List.pairwise_iff_getElem.1 HWU.out j i (by simpa using hjw) (by rw [List.length_map, HWL.out]; exact hi) hji
        rw [List.getElem_map, List.getElem_map, hxi] at h2
        rw [← he, List.getElem_take]
        unfold svOf
        rw [List.getElem_map]
        exact h2)
      clear hx r0 r1 r2 hsg hxs hdv
      have hs1 := Sits.new wr 60 #[.int .i64 x.num, .slice xd x.ds.length xdc, .slice xa x.ss.length xc]
      have hb1 := below_new (w := wr) (.cells #[.int .i64 x.num, .slice xd x.ds.length xdc, .slice xa x.ss.length xc] 60)
      have HS1 := hide hs1
      have HBA := hide hb1
      clear hs1 hb1
      go_upto_region 12 with fail
      clear d0 d1 d2
      have HO1 := hide (HOR.out.trans (Off.of_below HBA.out))
      have HM1 := hide (map_off HMR.out (Off.of_below (F := []) HBA.out) (by simp))
      obtain ⟨xb, hxb⟩ : ∃ xb, wr.heap.size = xb := ⟨_, rfl⟩
      rw [hxb] at HS1 ⊢
      clear hxb HAR HMR HOR HBA
      generalize wr.alloc (.cells #[.int .i64 x.num, .slice xd x.ds.length xdc, .slice xa x.ss.length xc] 60) = wr1 at *
      have HJ1 := hide (HJM.out _ HO1.out)
      have C0 : ∀ q : Bw wr1, q.val.cell? ⟨xb, 0, none⟩ = some (.int .i64 x.num) := fun q => (Mem.Sits.below HS1.out q.is HS1.out.lt).cell 0 _ rfl
      have C2 : ∀ q : Bw wr1, q.val.cell? ⟨xb, 2, none⟩ = some (.slice xa x.ss.length xc) := fun q => (Mem.Sits.below HS1.out q.is HS1.out.lt).cell 2 _ rfl
      have CJ : ∀ q : Bw wr1, q.val.cell? ⟨mb + 1, 2, none⟩ = some (.map (some mb)) := fun q => (Mem.Sits.below HJ1.out q.is HJ1.out.lt).cell 2 _ rfl
      refine region_pre 8 (by kernel_rfl) (by kernel_rfl) ?_
      simp only [List.take_succ_cons, List.take_zero, List.drop_succ_cons, List.drop_zero]
      repeat (first
        | go_big_quiet_skip
        | (go_big_quiet_want; go_big_quiet_op; go_big_quiet_on))
      refine wpQuiet_nil ?_
      intro q
      have HB4 := hide q.is
      have HM4 := hide (map_off HM1.out (Off.of_below (F := []) q.is) (by simp))
      clear C0 C2 CJ
      generalize q.val = w7 at *
      obtain ⟨w8, hu8, ho8, hg8⟩ := HM4.out.update (t := 97) (val := .slice xa x.ss.length xc) (int_keyed Tryz.underlying3) Tryz.underlying97 (Nat.lt_of_le_of_lt (show i ≤ 1000000000 by omega) (by decide)) HKEY.out (exE_mk (ok := okS) rfl)
      rw [show (sD ((svOf ws).take i)).put (Lit.int .i64 x.num) (.held (.slice xa x.ss.length xc)) = sD (put iLt x.num (.slice xa x.ss.length xc, x.ss) ((svOf ws).take i)) from mp_put (f := fun p : Value × List Int => p.1) iLit_same iLit_before x.num ((Value.slice xa x.ss.length xc, x.ss) : Value × List Int) ((svOf ws).take i), HTK.out] at ho8
      have HM8 := hide ho8
      have HO8 := hide ((HO1.out.trans (Off.of_below HB4.out)).trans (row_off hg8))
      clear ho8 hg8
      go_wp2_with fail
      go_roundw
      case rel =>
        refine ⟨i + 1, by go_num, by omega, ?_, HO8⟩
        have h1 := own_tight HM8.out
        rw [show Maps.size (sD ((svOf ws).take (i + 1))) = i + 1 from (mp_size _).trans (by
          have h2 : (svOf ws).length = ws.length := by simp [svOf]
          have h3 := HWL.out
          rw [List.length_take]
          omega)] at h1
        exact h1
      case measure => simp only [intOf]; omega
    · have hiz : ¬ (i : Int) < (H.sealed.length : Int) := by omega
      have hie : i = H.sealed.length := by omega
      have hsl2 : (svOf ws).length = H.sealed.length := by rw [← HWL.out]; simp [svOf]
      have HMF := hide (show wr.ownsMap Tryz.prog 3 (exE okS) mb (svOf ws).length (sD (svOf ws)) by
        have h1 := HMR.out
        rw [hie, ← hsl2, List.take_length] at h1
        exact h1)
      have HFR := hide (Foot.Sits.off HF5.out HOR.out (by have := HFM.out; simp; omega))
      clear hie hsl2 HMR
      have C : ∀ s : Bw wr, s.val.cell? ⟨hb, 0, none⟩ = some (.slice va H.sealed.length vc) ∧ s.val.cell? ⟨hb, 1, none⟩ = some (.int .i64 on) ∧ s.val.cell? ⟨hb, 2, none⟩ = some (.slice da H.odgs.length dc) ∧ s.val.cell? ⟨hb, 3, none⟩ = some (.slice ga H.osegs.length gc) := fun s => by
        have h := (HAR.out.keep s.is).head
        exact ⟨h.cell 0 _ rfl, h.cell 1 _ rfl, h.cell 2 _ rfl, h.cell 3 _ rfl⟩
      have C0 := fun s => (C s).1
      have C1 := fun s => (C s).2.1
      have C2 := fun s => (C s).2.2.1
      have C3 := fun s => (C s).2.2.2
      clear C
      go_wp2_with fail
      refine region_pre 6 (by kernel_rfl) (by kernel_rfl) ?_
      simp only [List.take_succ_cons, List.take_zero, List.drop_succ_cons, List.drop_zero]
      repeat (first
        | go_big_quiet_skip
        | (go_big_quiet_want; go_big_quiet_op; go_big_quiet_on))
      refine wpQuiet_nil ?_
      intro s
      have HB6 := hide s.is
      have HF6 := hide (Mem.Sits.below HFR.out s.is HFR.out.lt)
      clear C0 C1 C2 C3
      generalize s.val = w6 at *
      have h0 := HF6.out
      have d0 := h0.cell 0 _ rfl
      have f0 := h0.frozen 0
      have h1 := h0.set 0 (.slice va H.sealed.length vc)
      have d1 := h1.cell 1 _ rfl
      have f1 := h1.frozen 1
      have h2 := h1.set 1 (.int .i64 on)
      have d2 := h2.cell 2 _ rfl
      have f2 := h2.frozen 2
      have h3 := h2.set 2 (.slice da H.odgs.length dc)
      have d3 := h3.cell 3 _ rfl
      have f3 := h3.frozen 3
      have HF7 := hide (h3.set 3 (.slice ga H.osegs.length gc))
      clear h0 h1 h2 h3
      go_wp2_with fail
      have hso : Off [fb] w6 ((((w6.setCell ⟨fb, 0, none⟩ (.slice va H.sealed.length vc)).setCell ⟨fb, 1, none⟩ (.int .i64 on)).setCell ⟨fb, 2, none⟩ (.slice da H.odgs.length dc)).setCell ⟨fb, 3, none⟩ (.slice ga H.osegs.length gc)) := ((((Off.refl _ _).set (List.mem_singleton.2 rfl) _ _).set (List.mem_singleton.2 rfl) _ _).set (List.mem_singleton.2 rfl) _ _).set (List.mem_singleton.2 rfl) _ _
      have hf7 := HF7.out
      clear HF7 d0 d1 d2 d3 f0 f1 f2 f3
      generalize (((w6.setCell ⟨fb, 0, none⟩ (.slice va H.sealed.length vc)).setCell ⟨fb, 1, none⟩ (.int .i64 on)).setCell ⟨fb, 2, none⟩ (.slice da H.odgs.length dc)).setCell ⟨fb, 3, none⟩ (.slice ga H.osegs.length gc) = w7 at *
      have hfm := HFM.out
      have hA7 := (HAR.out.keep HB6.out).off hso fun k hk e => by
        have := HNF.out k hk
        rw [List.mem_singleton.1 e] at this
        exact absurd this (Nat.lt_irrefl _)
      have hj7 := Foot.Sits.off (Mem.Sits.below (HJM.out _ HOR.out) HB6.out (HJM.out _ HOR.out).lt) hso (by simp; omega)
      have hm7 := map_off (map_off HMF.out (Off.of_below (F := []) HB6.out) (by simp)) hso (by simp; omega)
      have ho7 : Off [mb, fb] w5 w7 := ((HOR.out.mono fun k _ hk => by rw [List.mem_singleton.1 hk]; simp).trans (Off.of_below HB6.out)).trans (hso.mono fun k _ hk => by rw [List.mem_singleton.1 hk]; simp)
      have hfb : w.heap.size ≤ fb := Nat.le_of_eq HFB.out
      have hof := off_trans HO5.out (G := [mb, fb]) (fun b hb' => by
        simp only [List.mem_cons, List.not_mem_nil, or_false] at hb'
        rcases hb' with rfl | rfl
        · exact Or.inr HMB.out
        · exact Or.inr hfb) ho7
      have hp7 : PD w7 bx S4 ba4 cap4 bs4 := pd_off HP5.out ho7 fun k hk e => by
        obtain ⟨t, cs, hs⟩ := pd_cells HP5.out hk
        simp only [List.mem_cons, List.not_mem_nil, or_false] at e
        rcases e with rfl | rfl
        · exact map_ne HM5.out hs rfl
        · exact PD.not HP5.out HF5.out (by decide) (by decide) (by decide) hk
      have hez : ((H.ez.toNat : Nat) : Int) = H.ez := Int.toNat_of_nonneg HOK.out.ez.1
      refine bodyPost_ret (results_tct rfl _ _ ⟨fb, 0, none⟩ (.agg #[.slice va H.sealed.length vc, .int .i64 on, .slice da H.odgs.length dc, .slice ga H.osegs.length gc]) rfl (run_loadVar_row w7 fb 62 62 _ (0, 0) _ hf7 Tryz.underlying62 rfl (by kernel_rfl))) rfl ?_
      refine ⟨mb + 1, mb, ⟨hb, .slice va H.sealed.length vc, ws, .slice da H.odgs.length dc, .slice ga H.osegs.length gc⟩, rfl, ⟨by rw [HON.out]; exact hA7, HNE.out, ⟨⟨?_, hA7.sg⟩, ⟨hm7, ?_, fun q hq => ?_⟩, ?_, fun k hk e => ?_⟩, ⟨ba4, cap4, bs4, by rw [HS4.out]; exact hp7, HPF.out⟩, hof, Nat.le_succ_of_le HMB.out, HMB.out⟩⟩
      · show Sits w7 (mb + 1) _ #[_, _, _, _, .int .i64 ((H.ez.toNat : Nat) : Int), _, _, _]
        rw [hez]
        exact hj7
      · exact List.pairwise_map.2 ((List.pairwise_map.1 HWU.out).imp fun h => by simpa [iLt] using h)
      · obtain ⟨x, hx, rfl⟩ := List.mem_map.1 hq
        exact (hA7.ws x hx).s
      · show H.sealed.map _ = _
        rw [← show ws.map Wn.is = H.sealed from hA7.is]
        simp [svOf, Wn.is]
      · refine hA7.apart k (List.mem_append_right _ e) ?_
        obtain ⟨q, hq, hk⟩ := List.mem_flatMap.1 hk
        obtain ⟨x, hx, rfl⟩ := List.mem_map.1 hq
        exact List.mem_flatMap.2 ⟨x, hx, List.mem_append_right _ hk⟩
end Go.Proofs.YtmkidefdegaamaaGreatDoor.Jr
namespace Go.Proofs.YtmkidefdegaamaaGreatDoor.Jr
open Bytes
structure Bnd (h : Hs) : Prop where
  up : (h.sealed.map (·.1)).Pairwise (· < ·)
  sn : ∀ s ∈ h.sealed, 0 ≤ s.1 ∧ s.1 ≤ h.g
  g : -1 ≤ h.g ∧ h.g ≤ 1000000000
  opn : h.odgs ≠ [] → h.g < h.onum ∧ h.onum ≤ 1000000000
theorem Bnd.next {h : Hs} {x : Et} (hb : Bnd h) (hc : Cl h x) : Bnd (hnext h x) := by
  obtain ⟨⟨seg, z⟩, ⟨k, n, t⟩⟩ := x
  have hf := hc.fit
  have hn0 : 0 ≤ n := hc.ok.n0
  have hn1 : n ≤ 1000000000 := hc.ok.n1
  have hg := hb.g
  unfold hfit hfits at hf
  rcases hc.ok.k with e | e | e
  · have e : k = 100 := e
    subst e
    rw [if_pos rfl] at hf
    simp only [Bool.and_eq_true, decide_eq_true_eq] at hf
    exact ⟨hb.up, hb.sn, hb.g, fun _ => ⟨hf.1, hn1⟩⟩
  · have e : k = 115 := e
    subst e
    rw [if_neg (show ¬ (⟨#[(115 : UInt8)]⟩ : ByteArray) = ⟨#[100]⟩ by decide), if_pos rfl] at hf
    simp only [Bool.and_eq_true, decide_eq_true_eq] at hf
    have ho := hb.opn (List.length_pos_iff.1 hf.1)
    have hno : n = h.onum := hf.2
    refine ⟨?_, fun s hs => ?_, ⟨by show -1 ≤ n; omega, hn1⟩, fun e => absurd rfl e⟩
    · show ((h.sealed ++ [(h.onum, h.odgs, hent seg h.osegs)]).map (·.1)).Pairwise (· < ·)
      rw [List.map_append, List.pairwise_append]
      refine ⟨hb.up, List.pairwise_singleton _ _, fun a ha b hb' => ?_⟩
      obtain ⟨s, hs, rfl⟩ := List.mem_map.1 ha
      have h1 := hb.sn s hs
      simp at hb'
      omega
    · have hs' : s ∈ h.sealed ++ [(h.onum, h.odgs, hent seg h.osegs)] := hs
      show 0 ≤ s.1 ∧ s.1 ≤ n
      rcases List.mem_append.1 hs' with hs' | hs'
      · have h1 := hb.sn s hs'
        omega
      · rw [List.mem_singleton.1 hs']
        simp only
        omega
  · have e : k = 98 := e
    subst e
    rw [if_neg (show ¬ (⟨#[(98 : UInt8)]⟩ : ByteArray) = ⟨#[100]⟩ by decide), if_neg (show ¬ (⟨#[(98 : UInt8)]⟩ : ByteArray) = ⟨#[115]⟩ by decide), if_pos rfl] at hf
    simp only [decide_eq_true_eq] at hf
    exact ⟨hb.up, fun s hs => ⟨(hb.sn s hs).1, Int.le_trans (hb.sn s hs).2 hf⟩, ⟨by show -1 ≤ n; omega, hn1⟩, fun e => absurd rfl e⟩
theorem Bnd.all {h : Hs} {l : List Et} (hb : Bnd h) (hc : AllCl h l) : Bnd (hfold h l) := by
  induction l generalizing h with
  | nil => exact hb
  | cons x l ih => exact ih (hb.next hc.1) hc.2
theorem bnd0 : Bnd hs0 := ⟨List.Pairwise.nil, fun s hs => (by cases hs), ⟨by decide, by decide⟩, fun e => absurd rfl e⟩
end Go.Proofs.YtmkidefdegaamaaGreatDoor.Jr
namespace Go.Proofs.YtmkidefdegaamaaGreatDoor.Jr
open Bytes Im Dm
theorem turn_end {l : List Seg} {s : Seg} (f : Seg → Seg) (h : ∀ q ∈ l, q.num ≠ s.num) : turn s.num f (l ++ [s]) = l ++ [f s] := by
  unfold turn
  rw [List.map_append]
  congr 1
  · conv => rhs; rw [← List.map_id l]
    exact List.map_congr_left fun q hq => by rw [if_neg (h q hq)]; rfl
  · show [if s.num = s.num then f s else s] = _
    rw [if_pos rfl]
theorem bytes_nil_append (t : ByteArray) : (⟨#[]⟩ : ByteArray) ++ t = t := B_inj (by rw [B_append]; rfl)
/-- A segment more on a new disk. -/
theorem copy_append {l : List Seg} {s : Seg} (hlt : ∀ q ∈ l, q.num < s.num) (h0 : 0 ≤ s.num) : doAppend ⟨l, -1, -1⟩ s.num s.text = (⟨l ++ [⟨s.num, s.text, 0⟩], -1, -1⟩, 0) := by
  rw [append_calm rfl rfl h0, ensure_end hlt, turn_end (s := ⟨s.num, ⟨#[]⟩, 0⟩) _ (fun q hq => by have := hlt q hq; show q.num ≠ s.num; omega)]
  show ((⟨l ++ [⟨s.num, (⟨#[]⟩ : ByteArray) ++ s.text, 0⟩], -1, -1⟩ : Dk), (0 : Int)) = _
  rw [bytes_nil_append]
theorem copy_sync {l : List Seg} {s : Seg} (hlt : ∀ q ∈ l, q.num < s.num) : doSync ⟨l ++ [⟨s.num, s.text, 0⟩], -1, -1⟩ s.num = (⟨l ++ [⟨s.num, s.text, s.text.size⟩], -1, -1⟩, 0) := by
  have hat : (l ++ [(⟨s.num, s.text, 0⟩ : Seg)])[l.length]? = some ⟨s.num, s.text, 0⟩ := List.getElem?_concat_length
  have hpl : place s.num (l ++ [(⟨s.num, s.text, 0⟩ : Seg)]) = some l.length := place_at (fun j t hj ht => by
    rw [List.getElem?_append_left hj] at ht
    have := hlt t (List.mem_of_getElem? ht)
    omega) hat rfl
  unfold doSync
  rw [if_neg (show ¬ (-1 : Int) = 0 by decide), hpl]
  simp only
  rw [turn_end (s := ⟨s.num, s.text, 0⟩) _ (fun q hq => by have := hlt q hq; show q.num ≠ s.num; omega)]
  rfl
end Go.Proofs.YtmkidefdegaamaaGreatDoor.Jr
