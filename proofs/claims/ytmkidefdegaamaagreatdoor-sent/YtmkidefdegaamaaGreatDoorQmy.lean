/- The law's copied: the power fails, and what is left is laid on a new disk. -/
import Derived.Test.YtmkidefdegaamaaGreatDoorOpy
import Derived.Test.YtmkidefdegaamaaGreatDoorKf
import Derived.Test.YtmkidefdegaamaaGreatDoorZs
namespace Go.Proofs.YtmkidefdegaamaaGreatDoor.Jr
open Go.RowKit Go.Maps Mem Foot Bytes Im Wm Hi Plainw Cq Dm Dh Dd
theorem crash_full {S : Dk} (hg : Dm.Good S) (t : Int) : ∀ s ∈ (doCrash S t).segs, s.syn = s.text.size := fun s hs => by
  have hs' : s ∈ S.segs.map (torn (if t < 0 then 0 else t)) := hs
  obtain ⟨q, hq, rfl⟩ := List.mem_map.1 hs'
  obtain ⟨m, _, _, _, h⟩ := torn_text (if t < 0 then 0 else t) q (by split <;> omega) (hg.syn q hq)
  exact h
theorem good_take {C : Dk} (h : Dm.Good C) (i : Nat) : Dm.Good ⟨C.segs.take i, -1, -1⟩ :=
  { h with rise := h.rise.sublist (List.take_sublist i _), syn := fun s hs => h.syn s (List.mem_of_mem_take hs), num := fun s hs => h.num s (List.mem_of_mem_take hs), left := (by decide : (-1 : Int) ≤ -1 ∧ (-1 : Int) ≤ 9223372036854775807), room := (by decide : (-1 : Int) ≤ -1 ∧ (-1 : Int) ≤ 9223372036854775807) }
theorem used_take (l : List Seg) (i : Nat) : Dm.used (l.take i) + 0 ≤ Dm.used l := by
  conv => rhs; rw [← List.take_append_drop i l, used_append]
  omega
set_option maxRecDepth 10000 in
set_option maxHeartbeats 4000000 in
theorem copiedL (w : World) (bx ba cap : Nat) (bs : List Nat) (S : Dk) (hP : PD w bx S ba cap bs) (k u : Nat) (hF : Fit S k u) (hk : k ≤ 1000000000) (hu : u ≤ 100000000000) (t : Int) :
    Calls Tryz.prog 11 #[.pointer (some ⟨bx, 0, none⟩), .int .i64 t] w fun e w' => ∃ nb ba' cap' bs', e = .returned (.pointer (some ⟨nb, 0, none⟩)) ∧ PD w' nb (doCrash S t) ba' cap' bs' ∧ (∀ b ∈ pf nb ba' bs', w.heap.size ≤ b) ∧ Off (bx :: bs) w w' := by
  have hlen := hP.len
  have hfl := hF.len
  have hbl : bs.length ≤ 1000000000 := by omega
  have hz : ∀ s ∈ S.segs, s.text.size ≤ 1000000000000 := fun s hs => by
    have h1 := used_mem hs
    have h2 := hF.use
    omega
  have hcr := crash bx ba cap bs S t w hP hF.good hbl hz
  have HFT := hide (fit_crash hF t)
  have HFL := hide (crash_full hF.good t)
  have HCL := hide (show (doCrash S t).left = -1 from rfl)
  have HCE := hide (show (⟨(doCrash S t).segs, -1, -1⟩ : Dk) = doCrash S t from rfl)
  obtain ⟨C, hC⟩ : ∃ C, doCrash S t = C := ⟨_, rfl⟩
  rw [hC] at hcr HFT HFL HCL HCE ⊢
  have hcl : C.segs.length ≤ 1000000000 := by
    have := HFT.out.len
    omega
  clear hP hF hz hlen hfl hC
  go_enter Tryz.func11, Tryz.ntmps11
  go_wp2_with fail
  refine hcr.mono ?_
  clear hcr
  rintro e w1 ⟨rfl, ho1, hP1⟩
  have HO1 := hide ho1
  have HP1 := hide hP1
  clear ho1 hP1
  go_wp2_with fail
  refine (new w1).mono ?_
  rintro e w2 ⟨rfl, rfl⟩
  have hs2 := Sits.new w1 55 #[.slice none 0 0, .int .i64 (-1), .int .i64 (-1)]
  have hb2 := below_new (w := w1) (.cells #[.slice none 0 0, .int .i64 (-1), .int .i64 (-1)] 55)
  have HS2 := hide hs2
  have HB2 := hide hb2
  clear hs2 hb2
  generalize w1.alloc (.cells #[.slice none 0 0, .int .i64 (-1), .int .i64 (-1)] 55) = w2 at *
  obtain ⟨nb, hnb⟩ : ∃ nb, w1.heap.size = nb := ⟨_, rfl⟩
  rw [hnb] at HS2 ⊢
  have HNB := hide hnb
  clear hnb
  have hli := list bx ba cap bs C w2 (HP1.out.keep HB2.out) hbl
  have hd : doList C = (C.segs.map (·.num), 0) := by unfold doList; rw [if_neg (by rw [HCL.out]; decide)]
  rw [hd] at hli
  clear hd
  go_wp2_with fail
  refine hli.mono ?_
  clear hli
  rintro e w3 ⟨v, rfl, hv, hb3⟩
  obtain ⟨a, c, rfl⟩ := own_shapeJ hv
  have HV := hide (own_base hv (Nat.zero_le _))
  have HB3 := hide (HB2.out.trans (hb3.mono HB2.out.size))
  have HS3 := hide (Mem.Sits.below HS2.out hb3 HS2.out.lt)
  clear hv hb3
  simp only [List.length_map] at HV ⊢
  have HP3 := hide (show PD w3 nb ⟨C.segs.take 0, -1, -1⟩ (nb + 1) 0 [] from ⟨HS3.out, rfl, fun e => absurd rfl e, fun i b s h => (by cases h), by simp, fun e => absurd rfl e⟩)
  go_wp2_with fail
  go_loopw [8] (fun s wr => ∃ (i : Nat) (ba' cap' : Nat) (bs' : List Nat), s = .int .i64 (i : Int) ∧ i ≤ C.segs.length ∧ Hid (PD wr nb ⟨C.segs.take i, -1, -1⟩ ba' cap' bs') ∧ Hid (∀ b ∈ pf nb ba' bs', nb ≤ b) ∧ Hid (Below nb w1 wr) ∧ Hid (wr.ownsRow 0 3 1 (.slice a C.segs.length c) C.segs.length ((C.segs.map (·.num)).map (Value.int .i64)))) (fun s _ => C.segs.length - (intOf s).toNat)
  case atStart => exact ⟨0, nb + 1, 0, [], rfl, Nat.zero_le _, HP3.out, fun b hb => by simp [pf] at hb; omega, by rw [← HNB.out]; exact HB3.out, HV.out⟩
  case round =>
    obtain ⟨i, ba', cap', bs', rfl, hil, HPD, HNW, HBW, HVW⟩ := hrel
    have HPO := hide (HP1.out.keep (by rw [HNB.out]; exact HBW.out))
    by_cases hi : i < C.segs.length
    · have hiz : (i : Int) < (C.segs.length : Int) := by omega
      obtain ⟨s, hs⟩ : ∃ s, C.segs[i]? = some s := ⟨_, List.getElem?_eq_getElem hi⟩
      have hsm := List.mem_of_getElem? hs
      have hnum : (C.segs.map (·.num))[i]? = some s.num := by rw [List.getElem?_map, hs]; rfl
      obtain ⟨g, cp, hv, hcap, hgl, hcell⟩ := row_ints (l := C.segs.map (·.num)) (w := wr) (base := 0) (v := .slice a C.segs.length c) (by rw [List.length_map]; exact HVW.out) hnum
      rw [List.length_map] at hv hcap
      injection hv with e1 e2 e3
      clear e2
      subst e1
      subst e3
      have hrd := read bx ba cap bs C s.num wr HPO.out hbl
      rw [read_calm HCL.out HFT.out.good hsm] at hrd
      have hrise := HFT.out.good.rise
      have hlt : ∀ q ∈ C.segs.take i, q.num < s.num := fun q hq => by
        obtain ⟨j, hj, rfl⟩ := List.mem_iff_getElem.1 hq
        rw [List.length_take] at hj
        have h1 := List.pairwise_iff_getElem.1 hrise j i (by omega) hi (by omega)
        rw [List.getElem?_eq_getElem hi] at hs
        rw [List.getElem_take, ← Option.some.inj hs]
        exact h1
      have h0 := (HFT.out.good.num s hsm).1
      have hgd : Dm.Good ⟨C.segs.take i, -1, -1⟩ := good_take HFT.out.good i
      have hule : Dm.used (C.segs.take i) + s.text.size ≤ 1000000000000 := by
        have h1 := used_take C.segs i
        have h2 := used_mem hsm
        have h3 := HFT.out.use
        omega
      have hpl := HPD.out.len
      have hpb : bs'.length ≤ 1000000000 := by
        rw [hpl]
        show (C.segs.take i).length ≤ _
        rw [List.length_take]
        have := HFT.out.len
        omega
      have hap := append nb ba' cap' bs' ⟨C.segs.take i, -1, -1⟩ s.num s.text wr HPD.out hgd hpb hule
      rw [copy_append hlt h0] at hap
      have HSY := hide (copy_sync (s := s) hlt)
      have HG2 := hide (show Dm.Good ⟨C.segs.take i ++ [⟨s.num, s.text, 0⟩], -1, -1⟩ by
        have h1 := (fit_append (fit_of hgd) s.num s.text (HFT.out.good.num s hsm).2).good
        rw [copy_append hlt h0] at h1
        exact h1)
      have HTK := hide (show (⟨C.segs.take i ++ [⟨s.num, s.text, s.text.size⟩], -1, -1⟩ : Dk) = ⟨C.segs.take (i + 1), -1, -1⟩ by
        have h1 : (⟨s.num, s.text, s.text.size⟩ : Seg) = s := by
          have := HFL.out s hsm
          cases s
          simp only at this
          rw [this]
        rw [List.take_add_one, hs, h1]
        rfl)
      have HNU := hide hnum
      clear hs hnum hsm hrise hlt h0 hgd hule hgl
      go_wp2_with fail
      refine hrd.mono ?_
      clear hrd
      rintro e wx ⟨rfl, rfl⟩
      go_wp2_with fail
      refine hap.mono ?_
      clear hap
      rintro e w5 ⟨rfl, ho5, ba5, cap5, bs5, hP5, hf5⟩
      have HV5 := hide (row_pd HVW.out HPD.out ho5 (by decide) (by decide) (by decide))
      have HN5 := hide (show ∀ b ∈ pf nb ba5 bs5, nb ≤ b from fun b hb => (hf5 b hb).elim (HNW.out b) fun e => by
        have h1 := HBW.out.size
        have h2 := HNB.out
        omega)
      have HB5 := hide (HBW.out.trans (ho5.below HNW.out (by rw [← HNB.out]; exact HBW.out.size)))
      have HP5 := hide hP5
      obtain ⟨g5, cp5, hv5, _, _, hcell5⟩ := row_ints (l := C.segs.map (·.num)) (w := w5) (base := 0) (v := .slice (some ⟨g, 0, none⟩) C.segs.length c) (by rw [List.length_map]; exact HV5.out) HNU.out
      rw [List.length_map] at hv5
      injection hv5 with q1 q2 q3
      have hgg : g = g5 := by injection q1 with q; injection q
      rw [← hgg] at hcell5
      clear q1 q2 q3 hgg hcell
      have hp5l : bs5.length ≤ 1000000000 := by
        have h1 := hP5.len
        rw [h1]
        show (C.segs.take i ++ [_]).length ≤ _
        rw [List.length_append, List.length_take, List.length_singleton]
        have := HFT.out.len
        omega
      have hsy := sync nb ba5 cap5 bs5 ⟨C.segs.take i ++ [⟨s.num, s.text, 0⟩], -1, -1⟩ s.num w5 HP5.out HG2.out hp5l
      rw [HSY.out, HTK.out] at hsy
      clear ho5 hP5 hf5
      go_wp2_with fail
      refine hsy.mono ?_
      clear hsy hcell5
      rintro e w6 ⟨rfl, ho6, hP6⟩
      have ho6' : Off (pf nb ba5 bs5) w5 w6 := ho6.mono fun k _ hk => pf_sub hk
      have HV6 := hide (row_pd HV5.out HP5.out ho6' (by decide) (by decide) (by decide))
      have HB6 := hide (HB5.out.trans (ho6'.below HN5.out (by rw [← HNB.out]; exact HB5.out.size)))
      have HP6 := hide hP6
      clear ho6 ho6' hP6
      go_wp2_with fail
      go_roundw
      case rel => exact ⟨i + 1, ba5, cap5, bs5, by go_num, by omega, HP6, HN5, HB6, HV6⟩
      case measure => simp only [intOf]; omega
    · have hiz : ¬ (i : Int) < (C.segs.length : Int) := by omega
      have hie : i = C.segs.length := by omega
      have HPC := hide (show PD wr nb C ba' cap' bs' by
        have h1 := HPD.out
        rw [hie, List.take_length, HCE.out] at h1
        exact h1)
      clear hie
      go_wp2_with fail
      go_ret
      refine ⟨nb, rfl, ba', cap', bs', HPC.out, fun b hb => ?_, HO1.out.trans (Off.of_below (by rw [HNB.out]; exact HBW.out))⟩
      have h1 := HNW.out b hb
      have h2 := HO1.out.size
      have h3 := HNB.out
      omega
end Go.Proofs.YtmkidefdegaamaaGreatDoor.Jr
namespace Go.Proofs.YtmkidefdegaamaaGreatDoor.Dd
open Go.RowKit Go.Maps Mem Foot Bytes Im Wm Hi Plainw Cq Dm Dh Jr Wi Sk Hn Kr
theorem src_keep {w w' : World} {ao : Option Addr} {m : Nat} {news : List Value} (h : Apn.Src w 1 ao m news) (hb : Below w.heap.size w w') : Apn.Src w' 1 ao m news := by
  refine ⟨h.1, h.2.1, h.2.2.imp id fun ⟨ad, e, hc⟩ => ⟨ad, e, fun j u hu => ?_⟩⟩
  have h1 := hc j u hu
  have hl : (ad.add j).block < w.heap.size := by
    rcases Nat.lt_or_ge (ad.add j).block w.heap.size with h2 | h2
    · exact h2
    · have hn : w.cell? (ad.add j) = none := by
        unfold World.cell?
        rw [Array.getElem?_eq_none h2]
      rw [hn] at h1
      cases h1
  rw [hb.cell (p := ad.add j) hl]
  exact h1
/-- A daemon, a row of texts and what lies ahead of both. -/
structure LP (wb : World) (bx X : Nat) (av : Value) (L : List ByteArray) (wr : World) (D : Dn) (q : Pl) : Prop where
  da : DA wr X D q
  bx : q.bx = bx
  far : ∀ b ∈ df X q, wb.heap.size ≤ b
  ap : ∀ g ∈ av.ownBlock.toList, g ∉ df X q
  bl : Below wb.heap.size wb wr
  row : wr.ownsRow 0 9 1 av L.length (L.map Value.string)
theorem LP.lt {wb : World} {bx X : Nat} {av : Value} {L : List ByteArray} {wr : World} {D : Dn} {q : Pl} (h : LP wb bx X av L wr D q) : ∀ g ∈ av.ownBlock.toList, g < wr.heap.size := fun g hg => by
  obtain ⟨cs, hs⟩ := sits_row h.row hg
  exact hs.lt
theorem LP.keep {wb : World} {bx X : Nat} {av : Value} {L : List ByteArray} {wr : World} {D : Dn} {q : Pl} (h : LP wb bx X av L wr D q) {w' : World} (hb : Below wr.heap.size wr w') : LP wb bx X av L w' D q :=
  ⟨h.da.keep hb, h.bx, h.far, h.ap, h.bl.trans (hb.mono h.bl.size), own_keep h.row hb⟩
theorem df_pd {X : Nat} {q : Pl} {k : Nat} (h : k ∈ q.bx :: q.bs) : k ∈ df X q :=
  List.mem_cons_of_mem _ (List.mem_cons_of_mem _ (List.mem_append_left _ (kf_pd (pf_sub h))))
/-- The disk was copied. -/
theorem LP.copy {wb : World} {bx X : Nat} {av : Value} {L : List ByteArray} {wr : World} {D : Dn} {q : Pl} (h : LP wb bx X av L wr D q) {w' : World} (ho : Off (q.bx :: q.bs) wr w') : w'.ownsRow 0 9 1 av L.length (L.map Value.string) ∧ Below wb.heap.size wb w' :=
  ⟨own_off h.row ho fun k hk hm => h.ap k hk (df_pd hm), h.bl.trans (ho.below (fun k hk => h.far k (df_pd hk)) h.bl.size)⟩
/-- A daemon was started on the copy. -/
theorem LP.start {wb : World} {av : Value} {L : List ByteArray} {w1 w2 : World} {n nb ba X : Nat} {bs : List Nat} {D : Dn} {q : Pl} (hr : w1.ownsRow 0 9 1 av L.length (L.map Value.string)) (hg : ∀ g ∈ av.ownBlock.toList, g < n) (hb : Below wb.heap.size wb w1) (hn : wb.heap.size ≤ n ∧ n ≤ w1.heap.size) (hnew : ∀ b ∈ pf nb ba bs, n ≤ b)
    (hda : DA w2 X D q) (hbx : q.bx = nb) (hdf : ∀ b ∈ df X q, b ∈ pf nb ba bs ∨ w1.heap.size ≤ b) (ho : Off (pf nb ba bs) w1 w2) : LP wb nb X av L w2 D q := by
  have hge : ∀ b ∈ df X q, n ≤ b := fun b hb' => (hdf b hb').elim (hnew b) fun e => by omega
  refine ⟨hda, hbx, fun b hb' => ?_, fun g hg' hm => ?_, hb.trans (ho.below (fun k hk => ?_) hb.size), own_off hr ho fun k hk hm => ?_⟩
  · have := hge b hb'
    omega
  · have h1 := hge g hm
    have h2 := hg g hg'
    omega
  · have := hnew k hk
    omega
  · have h1 := hnew k hm
    have h2 := hg k hk
    omega
theorem sumT (c : Fin 6 → Int) (hc : COk c) (num : Int) (v : Value) (l : List ByteArray) (w : World) (hr : Row w v (l.map B)) (ht : Tab w) (hw : wt l ≤ 2000000) (hn0 : -9223372036854775808 ≤ num) (hn1 : num ≤ 9223372036854775807) :
    Calls Tryz.prog 13 #[cfg c, .int .i64 num, v] w fun e w' => e = .returned (.tuple #[.string (tx c num l), .int .i64 0]) ∧ Below w.heap.size w w' := by
  have hb : ∀ (l : List ByteArray), nls (l.map B) ≤ wt l ∧ l.length ≤ wt l ∧ ∀ d ∈ l, d.size ≤ wt l := fun l => by
    induction l with
    | nil => exact ⟨Nat.le_refl _, Nat.le_refl _, fun d hd => by cases hd⟩
    | cons t l ih =>
      have h1 : wt (t :: l) = t.size + 1 + wt l := by simp [wt]
      have h2 : nls ((t :: l).map B) = Lib.countByte (B t) 10 + 1 + nls (l.map B) := rfl
      have h3 : Lib.countByte (B t) 10 ≤ (B t).length := List.count_le_length
      rw [← size_B] at h3
      refine ⟨by omega, by rw [List.length_cons]; omega, fun d hd => ?_⟩
      rcases List.mem_cons.1 hd with e | hd
      · rw [e]
        omega
      · have := ih.2.2 d hd
        omega
  obtain ⟨b1, b2, b3⟩ := hb l
  refine (sumW c hc num v (l.map B) w hr ht (fun d hd => ?_) (by omega) (by rw [List.length_map]; omega) hn0 hn1).mono ?_
  · obtain ⟨t, ht, rfl⟩ := List.mem_map.1 hd
    rw [← size_B]
    have := b3 t ht
    omega
  · rintro e w' ⟨⟨z, rfl, hz⟩, hb⟩
    refine ⟨?_, hb⟩
    have : z = tx c num l := B_inj (by rw [hz]; rfl)
    rw [this]
end Go.Proofs.YtmkidefdegaamaaGreatDoor.Dd
namespace Go.Proofs.YtmkidefdegaamaaGreatDoor.Jr
open Bytes Im Dm
/-- A window more at the beginning. -/
theorem hnext_shift (s : Int × List ByteArray × List Int) (h : Hs) (x : Et) : hnext { h with sealed := s :: h.sealed } x = { hnext h x with sealed := s :: (hnext h x).sealed } := by
  unfold hnext htk
  simp only
  split
  · rfl
  · split <;> rfl
theorem hfold_shift (s : Int × List ByteArray × List Int) (h : Hs) (l : List Et) : hfold { h with sealed := s :: h.sealed } l = { hfold h l with sealed := s :: (hfold h l).sealed } := by
  induction l generalizing h with
  | nil => rfl
  | cons x l ih =>
    have h1 : hfold { h with sealed := s :: h.sealed } (x :: l) = hfold (hnext { h with sealed := s :: h.sealed } x) l := rfl
    have h2 : hfold h (x :: l) = hfold (hnext h x) l := rfl
    rw [h1, h2, hnext_shift, ih]
theorem allCl_shift (s : Int × List ByteArray × List Int) (h : Hs) (l : List Et) (hc : AllCl { h with sealed := s :: h.sealed } l) : AllCl h l ∧ ∀ x ∈ l, x.1.1 ∉ s.2.2 := by
  induction l generalizing h with
  | nil => exact ⟨trivial, fun x hx => by cases hx⟩
  | cons x l ih =>
    have h1 := hc.1
    have h2 := hc.2
    rw [hnext_shift] at h2
    obtain ⟨h3, h4⟩ := ih _ h2
    have ho : x.1.1 ∉ s.2.2 ++ h.sealed.flatMap (·.2.2) := h1.own
    refine ⟨⟨⟨h1.fit, h1.ok, h1.base, fun e => ho (List.mem_append_right _ e), h1.head⟩, h3⟩, fun y hy => ?_⟩
    rcases List.mem_cons.1 hy with e | hy
    · rw [e]
      exact fun e => ho (List.mem_append_left _ e)
    · exact h4 y hy
theorem hent_mem (seg : Int) (l : List Int) : seg ∈ hent seg l ∧ ∀ y ∈ l, y ∈ hent seg l := by
  unfold hent
  split
  · rename_i h
    exact ⟨List.mem_of_getLast? h, fun y hy => hy⟩
  · exact ⟨by simp, fun y hy => List.mem_append_left _ hy⟩
/-- The records up to the first seal, and those behind it. -/
theorem first_seal : ∀ (l : List Et) (h : Hs), AllCl h l → h.sealed = [] → (hfold h l).sealed ≠ [] →
    ∃ a b s0, l = a ++ b ∧ (hfold h a).sealed = [s0] ∧ (hfold h a).odgs = [] ∧ (hfold h a).osegs = [] ∧ (hfold h a).onum = 0 ∧ (hfold h a).g = s0.1 ∧ (∀ x ∈ a, x.1.1 ∈ s0.2.2) ∧ (∀ y ∈ h.osegs, y ∈ s0.2.2)
  | [], h, _, h0, hne => absurd h0 hne
  | x :: l, h, hc, h0, hne => by
    obtain ⟨⟨seg, z⟩, ⟨k, n, t⟩⟩ := x
    by_cases hk : k = 115
    · subst hk
      have hf := hc.1.fit
      unfold hfit hfits at hf
      rw [if_neg (show ¬ (⟨#[(115 : UInt8)]⟩ : ByteArray) = ⟨#[100]⟩ by decide), if_pos rfl] at hf
      simp only [Bool.and_eq_true, decide_eq_true_eq] at hf
      have hno : n = h.onum := hf.2
      refine ⟨[((seg, z), ⟨115, n, t⟩)], l, (h.onum, h.odgs, hent seg h.osegs), rfl, ?_, rfl, rfl, rfl, hno, fun x hx => ?_, (hent_mem seg h.osegs).2⟩
      · show h.sealed ++ [(h.onum, h.odgs, hent seg h.osegs)] = _
        rw [h0]
        rfl
      · rw [List.mem_singleton.1 hx]
        exact (hent_mem seg h.osegs).1
    · have hs : (hnext h ((seg, z), ⟨k, n, t⟩)).sealed = [] := by
        show (htk h seg ⟨k, n, t⟩).sealed = []
        unfold htk
        split
        · exact h0
        · exact h0
      have ho : seg ∈ (hnext h ((seg, z), ⟨k, n, t⟩)).osegs ∧ ∀ y ∈ h.osegs, y ∈ (hnext h ((seg, z), ⟨k, n, t⟩)).osegs := by
        show seg ∈ (htk h seg ⟨k, n, t⟩).osegs ∧ ∀ y ∈ h.osegs, y ∈ (htk h seg ⟨k, n, t⟩).osegs
        unfold htk
        split
        · rename_i hb
          have := hc.1.base hb
          rw [this]
          exact ⟨List.mem_singleton.2 rfl, fun y hy => by cases hy⟩
        · exact hent_mem seg h.osegs
      obtain ⟨a, b, s0, e1, e2, e3, e4, e5, e6, e7, e8⟩ := first_seal l _ hc.2 hs hne
      refine ⟨((seg, z), ⟨k, n, t⟩) :: a, b, s0, by rw [e1]; rfl, e2, e3, e4, e5, e6, fun x hx => ?_, fun y hy => e8 y (ho.2 y hy)⟩
      rcases List.mem_cons.1 hx with e | hx
      · rw [e]
        exact e8 seg ho.1
      · exact e7 x hx
theorem sealed_keeps (h : Hs) (l : List Et) : ∃ r, (hfold h l).sealed = h.sealed ++ r := by
  induction l generalizing h with
  | nil => exact ⟨[], (List.append_nil _).symm⟩
  | cons x l ih =>
    obtain ⟨r, hr⟩ := ih (hnext h x)
    have h1 : ∃ r', (hnext h x).sealed = h.sealed ++ r' := by
      show ∃ r', (htk h x.1.1 x.2).sealed = h.sealed ++ r'
      unfold htk
      split
      · exact ⟨[], (List.append_nil _).symm⟩
      · split
        · exact ⟨_, rfl⟩
        · exact ⟨[], (List.append_nil _).symm⟩
    obtain ⟨r', hr'⟩ := h1
    exact ⟨r' ++ r, by show (hfold (hnext h x) l).sealed = _; rw [hr, hr', List.append_assoc]⟩
theorem mem_ents1_seg {n : Int} : ∀ {rs : List Rc} {z : Nat} {x : Et}, x ∈ ents1 n z rs → x.1.1 = n
  | [], _, _, h => by cases h
  | r :: rs, z, x, h => by
    rcases List.mem_cons.1 h with e | h
    · rw [e]
    · exact mem_ents1_seg h
/-- Segments left out, records left out. -/
theorem ents_filter (p : Int → Bool) (R : List (Int × List Rc)) : ents (R.filter fun q => p q.1) = (ents R).filter fun x => p x.1.1 := by
  induction R with
  | nil => rfl
  | cons q R ih =>
    have h1 : ents (q :: R) = ents1 q.1 0 q.2 ++ ents R := rfl
    rw [h1, List.filter_append, List.filter_cons]
    by_cases hp : p q.1 = true
    · rw [if_pos hp]
      have h2 : ents (q :: R.filter fun q => p q.1) = ents1 q.1 0 q.2 ++ ents (R.filter fun q => p q.1) := rfl
      rw [h2, ih]
      congr 1
      exact (List.filter_eq_self.2 fun x hx => by rw [mem_ents1_seg hx]; exact hp).symm
    · rw [if_neg hp, ih]
      have h3 : (ents1 q.1 0 q.2).filter (fun x => p x.1.1) = [] := List.filter_eq_nil_iff.2 fun x hx => by rw [mem_ents1_seg hx]; exact hp
      rw [h3]
      rfl
/-- Without the first sealed window. -/
theorem without {R : List (Int × List Rc)} {H : Hs} {s0 : Int × List ByteArray × List Int} {rest : List (Int × List ByteArray × List Int)} (hcl : AllCl hs0 (ents R)) (his : hfold hs0 (ents R) = H) (hs : H.sealed = s0 :: rest) (hmore : H.g ≠ s0.1 ∨ H.osegs ≠ []) :
    hfold hs0 (ents (R.filter fun q => !decide (q.1 ∈ s0.2.2))) = { H with sealed := rest } ∧ AllCl hs0 (ents (R.filter fun q => !decide (q.1 ∈ s0.2.2))) := by
  obtain ⟨a, b, s1, e1, e2, e3, e4, e5, e6, e7, _⟩ := first_seal (ents R) hs0 hcl rfl (by rw [his, hs]; simp)
  have hcl2 := hcl
  rw [e1, allCl_append] at hcl2
  have hfb : hfold (hfold hs0 a) b = H := by rw [← hfold_append, ← e1]; exact his
  have hs01 : s1 = s0 := by
    obtain ⟨r, hr⟩ := sealed_keeps (hfold hs0 a) b
    rw [hfb, hs, e2] at hr
    injection hr with h1 _
    exact h1.symm
  subst hs01
  have hg0 : 0 ≤ s1.1 := by
    have h1 := (bnd0.all hcl2.1).sn s1 (by rw [e2]; exact List.mem_singleton.2 rfl)
    exact h1.1
  obtain ⟨hA, hAe⟩ : ∃ hA, hfold hs0 a = hA := ⟨_, rfl⟩
  rw [hAe] at e2 e3 e4 e5 e6 hfb hcl2
  have hAs : hA = { { hA with sealed := [] } with sealed := s1 :: { hA with sealed := [] }.sealed } := by
    cases hA
    simp only at e2
    subst e2
    rfl
  have hfil : ents (R.filter fun q => !decide (q.1 ∈ s1.2.2)) = b := by
    rw [ents_filter (fun x => !decide (x ∈ s1.2.2)), e1, List.filter_append]
    have h1 : a.filter (fun x => !decide (x.1.1 ∈ s1.2.2)) = [] := List.filter_eq_nil_iff.2 fun x hx => by simp [e7 x hx]
    have h2 : b.filter (fun x => !decide (x.1.1 ∈ s1.2.2)) = b := List.filter_eq_self.2 fun x hx => by
      have hc2 := hcl2.2
      rw [hAs] at hc2
      have := (allCl_shift s1 _ b hc2).2 x hx
      simp [this]
    rw [h1, h2]
    rfl
  rw [hfil]
  cases b with
  | nil =>
    exfalso
    have hfb' : hA = H := hfb
    rcases hmore with h1 | h1
    · exact h1 (by rw [← hfb']; exact e6)
    · exact h1 (by rw [← hfb']; exact e4)
  | cons y b =>
    obtain ⟨⟨seg, z⟩, ⟨k, n, t⟩⟩ := y
    have hc2 := hcl2.2
    obtain ⟨hk, hn⟩ := hc2.1.head e4 (by rw [e6]; omega)
    have hk' : k = 98 := hk
    have hn' : n = hA.g := hn
    subst hk'
    have hok := hc2.1.ok
    have hx1 : hnext hA ((seg, z), ⟨98, n, t⟩) = { hnext hs0 ((seg, z), ⟨98, n, t⟩) with sealed := s1 :: (hnext hs0 ((seg, z), ⟨98, n, t⟩)).sealed } := by
      unfold hnext htk
      rw [if_pos rfl, if_pos rfl]
      simp only
      rw [e2]
      rfl
    have hc3 := hc2.2
    rw [hx1] at hc3
    obtain ⟨k1, _⟩ := allCl_shift s1 _ b hc3
    have hfin : hfold (hnext hA ((seg, z), ⟨98, n, t⟩)) b = H := hfb
    rw [hx1, hfold_shift] at hfin
    refine ⟨?_, ⟨⟨?_, hok, fun _ => rfl, by simp [hs0], fun _ e => absurd rfl e⟩, k1⟩⟩
    · show hfold (hnext hs0 ((seg, z), ⟨98, n, t⟩)) b = _
      obtain ⟨F, hF⟩ : ∃ F, hfold (hnext hs0 ((seg, z), ⟨98, n, t⟩)) b = F := ⟨_, rfl⟩
      rw [hF] at hfin ⊢
      have hr : s1 :: F.sealed = s1 :: rest := by
        rw [← hs, ← hfin]
      injection hr with _ hr
      rw [← hfin]
      cases F
      simp only at hr
      subst hr
      rfl
    · unfold hfit hfits
      rw [if_neg (show ¬ (⟨#[(98 : UInt8)]⟩ : ByteArray) = ⟨#[100]⟩ by decide), if_neg (show ¬ (⟨#[(98 : UInt8)]⟩ : ByteArray) = ⟨#[115]⟩ by decide), if_pos rfl]
      have : 0 ≤ n := hok.n0
      exact decide_eq_true (show (-1 : Int) ≤ n by omega)
end Go.Proofs.YtmkidefdegaamaaGreatDoor.Jr
namespace Go.Proofs.YtmkidefdegaamaaGreatDoor.Jr
open Bytes Im Dm
theorem erase_filter {s : Seg} : ∀ {l : List Seg} {i : Nat}, l.Pairwise (fun a b => a.num < b.num) → l[i]? = some s → l.eraseIdx i = l.filter fun q => !decide (q.num = s.num)
  | [], i, _, h => by simp at h
  | q :: l, 0, hp, h => by
    have e : q = s := by simpa using h
    subst e
    rw [List.pairwise_cons] at hp
    rw [List.eraseIdx_cons_zero, List.filter_cons_of_neg (by simp)]
    exact (List.filter_eq_self.2 fun x hx => by
      have := hp.1 x hx
      simp
      omega).symm
  | q :: l, i + 1, hp, h => by
    rw [List.pairwise_cons] at hp
    have h' : l[i]? = some s := by simpa using h
    have hm := List.mem_of_getElem? h'
    have := hp.1 s hm
    rw [List.eraseIdx_cons_succ, erase_filter hp.2 h', List.filter_cons_of_pos (by simp; omega)]
theorem jdels_filter : ∀ {l : List Int} {S : Dk}, S.left = -1 → Dm.Good S → (∀ n ∈ l, n ∈ S.segs.map (·.num)) → l.Nodup → (jdels S l).1 = { S with segs := S.segs.filter fun q => !decide (q.num ∈ l) }
  | [], S, _, _, _, _ => by
    have h : S.segs.filter (fun q => !decide (q.num ∈ ([] : List Int))) = S.segs := List.filter_eq_self.2 fun x _ => by simp
    rw [h]
    rfl
  | n :: l, S, hl, hg, hin, hnd => by
    rw [List.nodup_cons] at hnd
    obtain ⟨s, hs, hsn⟩ := List.mem_map.1 (hin n (List.mem_cons_self ..))
    obtain ⟨i, hi, hd⟩ := ddel_calm hl hg hs
    have hgd := (fit_delete (fit_of hg) s.num).good
    rw [hd] at hgd
    have hef := erase_filter hg.rise hi
    rw [hef] at hd hgd
    simp only [hsn] at hd hgd
    have e : jdels S (n :: l) = jdels { S with segs := S.segs.filter fun q => !decide (q.num = n) } l := by
      show (if (doDelete S n).2 ≠ 0 then doDelete S n else jdels (doDelete S n).1 l) = _
      rw [hd, if_neg (by simp)]
    rw [e, jdels_filter (S := { S with segs := S.segs.filter fun q => !decide (q.num = n) }) hl hgd (fun m hm => ?_) hnd.2]
    · simp only [List.filter_filter]
      congr 1
      refine List.filter_congr fun q _ => ?_
      simp only [List.mem_cons]
      by_cases h1 : q.num = n <;> by_cases h2 : q.num ∈ l <;> simp [h1, h2]
    · obtain ⟨q, hq, e⟩ := List.mem_map.1 (hin m (List.mem_cons_of_mem _ hm))
      refine List.mem_map.2 ⟨q, List.mem_filter.2 ⟨hq, ?_⟩, e⟩
      have : m ≠ n := fun e => hnd.1 (e ▸ hm)
      simp
      omega
theorem filter_view (p : Int → Bool) (l : List Seg) : (l.filter fun q => p q.num).map view = (l.map view).filter fun x => p x.1 := by
  rw [List.filter_map]
  rfl
theorem filter_txs (p : Int → Bool) (R : List (Int × List Rc)) : txs (R.filter fun q => p q.1) = (txs R).filter fun x => p x.1 := by
  unfold txs
  rw [List.filter_map]
  rfl
/-- A base written ahead of the last window's going. -/
theorem Kd.keep {J : Jn} {S : Dk} {R : List (Int × List Rc)} {H : Hs} (h : Kd J S R [] H) (ho : J.opn = []) (hx : J.next ≤ 9223372036854775807) (hg : 0 ≤ J.greatest ∧ J.greatest ≤ 1000000000) :
    ∃ J' S' R' H', jkeep J S = (J', S', 0) ∧ Kd J' S' R' [] H' ∧ H'.sealed = H.sealed ∧ H'.odgs = [] ∧ H'.g = H.g ∧ H'.osegs ≠ [] ∧ J'.sealed = J.sealed := by
  obtain ⟨S1, hj, hk⟩ := h.seg.begin hx (hrs J)
  rw [hrs_tx] at hj hk
  obtain ⟨J', S', hj2, hk2, f1, f2, f3, _, _⟩ := hk.sync
  have hr : hrs J = [⟨98, J.greatest, ⟨#[]⟩⟩] := by unfold hrs; rw [if_neg (by omega)]
  have hgH : J.greatest = H.g := h.g.symm
  have hso : H.osegs = [] := by rw [h.opn, ho]
  have hnot : J.next ∉ H.sealed.flatMap (·.2.2) := fun hm => by
    rw [h.own] at hm
    have := h.seg.calm.below J.next (h.seg.calm.perm.mem_iff.2 (List.mem_append_left _ hm))
    omega
  have he := ents_new R J.next (hrs J)
  rw [hr] at he
  have hcl : Cl H ((J.next, 0 + (⟨98, J.greatest, ⟨#[]⟩⟩ : Rc).tx.length), ⟨98, J.greatest, ⟨#[]⟩⟩) := by
    refine ⟨?_, ⟨Or.inr (Or.inr rfl), hg.1, hg.2, by show (0 : Nat) ≤ 1000000; omega⟩, fun _ => hso, hnot, fun _ _ => ⟨rfl, hgH⟩⟩
    show hfit H ⟨98, J.greatest, ⟨#[]⟩⟩ = true
    unfold hfit hfits
    rw [if_neg (show ¬ (⟨#[(98 : UInt8)]⟩ : ByteArray) = ⟨#[100]⟩ by decide), if_neg (show ¬ (⟨#[(98 : UInt8)]⟩ : ByteArray) = ⟨#[115]⟩ by decide), if_pos rfl]
    simp
    omega
  refine ⟨J', S', R ++ [(J.next, hrs J)], hnext H ((J.next, 0 + (⟨98, J.greatest, ⟨#[]⟩⟩ : Rc).tx.length), ⟨98, J.greatest, ⟨#[]⟩⟩), ?_, ⟨hk2, fun p hp => ?_, ?_, ?_, ?_, ?_, ?_⟩, rfl, rfl, hgH, List.cons_ne_nil _ _, f2⟩
  · unfold jkeep
    rw [if_pos ho, hj, if_neg (by simp)]
    exact hj2
  · rcases List.mem_append.1 hp with hp | hp
    · exact h.ne p hp
    · rw [List.mem_singleton.1 hp, hr]
      simp
  · rw [hr, he, hfold_append, h.is]
    rfl
  · rw [hr, he, allCl_append, h.is]
    exact ⟨h.cl, hcl, trivial⟩
  · rw [f1, ho]
    rfl
  · rw [f3]
    rfl
  · rw [f2]
    exact h.sealed
theorem del_head {k : Int} {r : List Int} {l : List (Int × List Int)} (h : ((k, r) :: l).Pairwise fun a b => a.1 < b.1) : del k ((k, r) :: l) = l ∧ getE k ((k, r) :: l) = some r := by
  rw [List.pairwise_cons] at h
  refine ⟨?_, by simp [getE]⟩
  unfold del
  rw [List.filter_cons_of_neg (by simp)]
  exact List.filter_eq_self.2 fun x hx => by
    have := h.1 x hx
    simp
    omega
/-- The first sealed window's segments deleted. -/
theorem Kd.fin {J : Jn} {S : Dk} {R : List (Int × List Rc)} {H : Hs} (h : Kd J S R [] H) {s0 : Int × List ByteArray × List Int} {rest : List (Int × List ByteArray × List Int)} (hs : H.sealed = s0 :: rest) (hmore : H.g ≠ s0.1 ∨ H.osegs ≠ []) :
    ∃ J' S' R' H', jfin J S s0.1 = (J', S', 0) ∧ Kd J' S' R' [] H' ∧ H'.sealed = rest ∧ H'.odgs = H.odgs ∧ H'.g = H.g ∧ H'.osegs = H.osegs ∧ H'.onum = H.onum := by
  have hb : Bnd H := by
    have h1 := bnd0.all h.cl
    rw [h.is] at h1
    exact h1
  have hJs : J.sealed = (s0.1, s0.2.2) :: rest.map fun s => (s.1, s.2.2) := by rw [← h.sealed, hs]; rfl
  have hpw : J.sealed.Pairwise fun a b => a.1 < b.1 := by
    have h1 := hb.up
    rw [← h.sealed, List.pairwise_map]
    rw [List.pairwise_map] at h1
    exact h1
  have hpw2 := hpw
  rw [hJs] at hpw2
  obtain ⟨hdel, hget⟩ := del_head hpw2
  rw [← hJs] at hdel hget
  have hnk : (J.sealed.map (·.1)).Nodup := by
    rw [List.nodup_iff_pairwise_ne, List.pairwise_map]
    exact hpw.imp fun {a b} hab e => by omega
  obtain ⟨S', hf, hc, _, _⟩ := h.seg.calm.fin hnk hget
  have hnd : (S.segs.map (·.num)).Nodup := by
    rw [List.nodup_iff_pairwise_ne, List.pairwise_map]
    exact h.seg.calm.good.rise.imp fun {a b} hab e => by omega
  have hnd2 := h.seg.calm.perm.nodup_iff.1 hnd
  rw [hJs, List.flatMap_cons, List.append_assoc] at hnd2
  have hsn : s0.2.2.Nodup := (List.nodup_append.1 hnd2).1
  have hS : S' = { S with segs := S.segs.filter fun q => !decide (q.num ∈ s0.2.2) } := by
    have h1 := jdels_filter (l := s0.2.2.reverse) h.seg.calm.left h.seg.calm.good (fun n hn => h.seg.calm.perm.mem_iff.2 (by
      rw [hJs, List.flatMap_cons, List.append_assoc]
      exact List.mem_append_left _ (List.mem_reverse.1 hn))) ((List.reverse_perm _).nodup_iff.2 hsn)
    have h2 : (jdels S s0.2.2.reverse).2 = 0 := Classical.byContradiction fun hz => by
      unfold jfin at hf
      rw [hget] at hf
      simp only [Option.getD_some] at hf
      rw [if_pos hz] at hf
      exact hz (congrArg (fun x : Jn × Dk × Int => x.2.2) hf)
    unfold jfin at hf
    rw [hget] at hf
    simp only [Option.getD_some] at hf
    rw [if_neg (by rw [h2]; simp)] at hf
    injection hf with _ hf
    injection hf with hf _
    rw [← hf, h1]
    congr 1
    refine List.filter_congr fun q _ => ?_
    simp
  obtain ⟨w1, w2⟩ := without h.cl h.is hs hmore
  have hfull := h.seg.full
  have hin : ∀ q ∈ S'.segs, q ∈ S.segs := fun q hq => by
    rw [hS] at hq
    exact (List.mem_filter.1 hq).1
  have hseg : S'.segs.map view = txs (R.filter fun q => !decide (q.1 ∈ s0.2.2)) := by
    rw [hS]
    show (S.segs.filter fun q => !decide (q.num ∈ s0.2.2)).map view = _
    rw [filter_view (fun x => !decide (x ∈ s0.2.2)), filter_txs (fun x => !decide (x ∈ s0.2.2)), h.seg.segs]
    rfl
  refine ⟨_, S', R.filter fun q => !decide (q.1 ∈ s0.2.2), { H with sealed := rest }, hf, ⟨⟨hc, hseg, fun q hq _ => hfull q (hin q hq), fun ho => ?_, fun ho q hq hn => ?_, fun _ => rfl⟩, fun p hp => h.ne p (List.mem_filter.1 hp).1, w1, w2, h.opn, h.g, ?_⟩, rfl, rfl, rfl, rfl, rfl⟩
  · have ho' : J.opn ≠ [] := ho
    obtain ⟨R0, a, hR, hsy, hun⟩ := h.seg.last ho'
    have hlo := h.last_own ho'
    rw [hs, List.flatMap_cons] at hlo
    have hln : jlast J ∉ s0.2.2 := fun e => hlo (List.mem_append_left _ e)
    refine ⟨R0.filter fun q => !decide (q.1 ∈ s0.2.2), a, ?_, hsy, hun⟩
    rw [hR, List.filter_append]
    congr 1
    rw [List.filter_cons_of_pos (by simpa using hln)]
    rfl
  · exact h.seg.lsyn ho q (hin q hq) hn
  · show rest.map _ = del s0.1 J.sealed
    rw [hdel]
/-- The first sealed window forgotten. -/
theorem Kd.forget {J : Jn} {S : Dk} {R : List (Int × List Rc)} {H : Hs} (h : Kd J S R [] H) (ho : J.opn = []) (hx : J.next ≤ 9223372036854775807) (hg : J.greatest ≤ 1000000000) (hod : H.odgs = []) {s0 : Int × List ByteArray × List Int} {rest : List (Int × List ByteArray × List Int)} (hs : H.sealed = s0 :: rest) :
    ∃ J' S' R' H', jforget J S s0.1 = (J', S', 0) ∧ Kd J' S' R' [] H' ∧ H'.sealed = rest ∧ H'.odgs = [] ∧ H'.g = H.g := by
  unfold jforget
  by_cases hw : s0.1 = J.greatest
  · have hb : Bnd H := by
      have h1 := bnd0.all h.cl
      rw [h.is] at h1
      exact h1
    have h0 := (hb.sn s0 (by rw [hs]; exact List.mem_cons_self ..)).1
    obtain ⟨J1, S1, R1, H1, e1, k1, a1, a2, a3, a4, a5⟩ := h.keep ho hx ⟨by omega, hg⟩
    obtain ⟨J', S', R', H', e2, k2, b1, b2, b3, b4, _⟩ := k1.fin (s0 := s0) (rest := rest) (by rw [a1, hs]) (Or.inr a4)
    exact ⟨J', S', R', H', by rw [if_pos hw, e1, if_neg (by simp)]; exact e2, k2, b1, b2.trans a2, b3.trans a3⟩
  · obtain ⟨J', S', R', H', e2, k2, b1, b2, b3, _⟩ := h.fin hs (Or.inl (by rw [h.g]; exact fun e => hw e.symm))
    exact ⟨J', S', R', H', by rw [if_neg hw]; exact e2, k2, b1, b2.trans hod, b3⟩
end Go.Proofs.YtmkidefdegaamaaGreatDoor.Jr
namespace Go.Proofs.YtmkidefdegaamaaGreatDoor.Dd
open Go.RowKit Bytes Im Wm Dm Jr Sk Mem Foot Wi Kr
/-- The first window that is due acked. -/
theorem DK.ack {D : Dn} {R : List (Int × List Rc)} {H : Hs} {n : Nat} (h : DK D R [] H n) (hn : n ≤ 1500000) (ho : D.J.opn = []) (hod : H.odgs = []) {s0 : Int × List ByteArray × List Int} {rest : List (Int × List ByteArray × List Int)} (hs : H.sealed = s0 :: rest) :
    s0.1 ∈ D.due.map (·.k) ∧ ∃ R' H', DK (dack D s0.1) R' [] H' (n + 1) ∧ H'.sealed = rest ∧ H'.odgs = [] ∧ H'.g = H.g := by
  have hb := h.bnd
  have hin : s0.1 ∈ D.due.map (·.k) := by
    rw [h.due, due_keys, hs]
    exact List.mem_cons_self ..
  have hok := (h.ok.ack (by omega) hin).1
  have hgr := h.ok.great
  have hnm := h.ok.num
  obtain ⟨J', S', R', H', e, k, a1, a2, a3⟩ := h.kd.forget ho (by have := h.ok.next; omega) (by omega) hod hs
  have hmo : J'.most = D.J.most := by
    obtain ⟨r, hr⟩ := get_some (l := D.J.sealed) (k := s0.1) (by rw [h.ok.keys]; exact hin)
    obtain ⟨J2, S2, e2, _, _, _, _, e3, _⟩ := h.kd.seg.calm.forget (by have := h.ok.next; omega) h.ok.nodup hr
    rw [e] at e2
    injection e2 with e2 _
    rw [e2]
    exact e3
  refine ⟨hin, R', H', ⟨?_, ?_, fun e => absurd a2 e, ?_, fun s hs' => h.dg s (by rw [hs]; exact List.mem_cons_of_mem _ (a1 ▸ hs')), ?_⟩, a1, a2, a3⟩
  · rw [a2]
    have h1 := hok
    rw [hod] at h1
    exact h1
  · show Kd (jforget D.J D.S s0.1).1 (jforget D.J D.S s0.1).2.1 R' [] H'
    rw [e]
    exact k
  · show D.due.filter (fun m => !decide (m.k = s0.1)) = dueOf D.c H'.sealed
    rw [a1, h.due, hs]
    have hup := hb.up
    rw [hs, List.map_cons, List.pairwise_cons] at hup
    unfold dueOf
    rw [List.map_cons, List.filter_cons_of_neg (by simp)]
    exact List.filter_eq_self.2 fun m hm => by
      obtain ⟨s, hs', e⟩ := List.mem_map.1 hm
      have h1 := hup.1 s.1 (List.mem_map_of_mem hs')
      rw [← e]
      simp
      omega
  · show (jforget D.J D.S s0.1).1.most = D.c 5
    rw [e]
    exact hmo.trans h.most
end Go.Proofs.YtmkidefdegaamaaGreatDoor.Dd
namespace Go.Proofs.YtmkidefdegaamaaGreatDoor.Dd
open Go.RowKit Bytes Im Wm Dm Jr Sk Mem Foot Wi Kr
def nth (L : List ByteArray) (k : Nat) : ByteArray := L.getD k ⟨#[]⟩
theorem nth_of {L : List ByteArray} {k : Nat} {s : ByteArray} (h : L[k]? = some s) : nth L k = s := by
  unfold nth
  rw [List.getD_eq_getElem?_getD, h]
  rfl
/-- A window's message. -/
noncomputable def mg (p : Fin 6 → Int) (L : List ByteArray) (k : Nat) : Ms := ⟨(k : Int), tx p (k : Int) [nth L k]⟩
/-- What the sink has. -/
noncomputable def sunk (p : Fin 6 → Int) (L : List ByteArray) (i : Nat) : List Ms := (List.range i).map (mg p L)
theorem sunk_keys (p : Fin 6 → Int) (L : List ByteArray) (i : Nat) : (sunk p L i).map (·.k) = (List.range i).map fun k : Nat => (k : Int) := by
  unfold sunk
  rw [List.map_map]
  rfl
theorem sunk_has (p : Fin 6 → Int) (L : List ByteArray) {k i : Nat} (h : k < i) : (mg p L k).k ∈ (sunk p L i).map (·.k) := by
  rw [sunk_keys]
  exact List.mem_map.2 ⟨k, List.mem_range.2 h, rfl⟩
theorem sunk_lt (p : Fin 6 → Int) (L : List ByteArray) (i : Nat) : ∀ x ∈ sunk p L i, x.k < (mg p L i).k := fun x hx => by
  obtain ⟨k, hk, rfl⟩ := List.mem_map.1 hx
  have := List.mem_range.1 hk
  show (k : Int) < (i : Int)
  omega
theorem sunk_not (p : Fin 6 → Int) (L : List ByteArray) (i : Nat) : (mg p L i).k ∉ (sunk p L i).map (·.k) := fun h => by
  obtain ⟨x, hx, e⟩ := List.mem_map.1 h
  have := sunk_lt p L i x hx
  omega
theorem sunk_next (p : Fin 6 → Int) (L : List ByteArray) (i : Nat) : insM (mg p L i) (sunk p L i) = sunk p L (i + 1) := by
  rw [insM_end (sunk_lt p L i)]
  unfold sunk
  rw [List.range_succ, List.map_append]
  rfl
theorem sunk_len (p : Fin 6 → Int) (L : List ByteArray) (i : Nat) : (sunk p L i).length = i := by
  unfold sunk
  rw [List.length_map, List.length_range]
theorem sunk_rise (p : Fin 6 → Int) (L : List ByteArray) (i : Nat) : Rise (sunk p L i) := by
  show (sunk p L i).Pairwise fun a b => a.k < b.k
  have h : ((sunk p L i).map (·.k)).Pairwise (· < ·) := by
    rw [sunk_keys, List.pairwise_map]
    exact List.pairwise_lt_range.imp fun h => by omega
  rw [List.pairwise_map] at h
  exact h
theorem sunk_at (p : Fin 6 → Int) (L : List ByteArray) {k i : Nat} (h : k < i) : (sunk p L i)[k]? = some (mg p L k) := by
  unfold sunk
  rw [List.getElem?_map, List.getElem?_range h]
  rfl
/-- The sealed windows are the laid ones. -/
def Told1 (L : List ByteArray) (i : Nat) (l : List (Int × List ByteArray × List Int)) : Prop := ∀ s ∈ l, ∃ k : Nat, k < i ∧ s.1 = (k : Int) ∧ s.2.1 = [nth L k]
theorem Told1.more {L : List ByteArray} {i j : Nat} {l : List (Int × List ByteArray × List Int)} (h : Told1 L i l) (hj : i ≤ j) : Told1 L j l := fun s hs => by
  obtain ⟨k, h1, h2⟩ := h s hs
  exact ⟨k, by omega, h2⟩
/-- Ahead of a round. -/
structure Rd (p : Fin 6 → Int) (L : List ByteArray) (i : Nat) (D : Dn) (R : List (Int × List Rc)) (H : Hs) (n : Nat) : Prop where
  dk : DK D R [] H n
  od : H.odgs = []
  c : D.c = p
  num : D.num = (i : Int)
  clk : D.clock ≤ (i : Int) * p 0
  n : n ≤ 260 * i
  sl : Told1 L i H.sealed
def Rd1 (p : Fin 6 → Int) (L : List ByteArray) (i : Nat) (D : Dn) : Prop := ∃ R H n, Rd p L i D R H n
/-- A datagram taken. -/
structure Pk (p : Fin 6 → Int) (L : List ByteArray) (i : Nat) (D : Dn) (R : List (Int × List Rc)) (b : List Rc) (H : Hs) (n : Nat) : Prop where
  dk : DK D R b H n
  od : H.odgs = [nth L i]
  c : D.c = p
  num : D.num = (i : Int)
  clk : D.clock ≤ (i : Int) * p 0
  n : n ≤ 260 * i + 257
  sl : Told1 L i H.sealed
def Pk1 (p : Fin 6 → Int) (L : List ByteArray) (i : Nat) (D : Dn) : Prop := ∃ R b H n, Pk p L i D R b H n
/-- Its window sealed. -/
structure Sl (p : Fin 6 → Int) (L : List ByteArray) (i : Nat) (D : Dn) (R : List (Int × List Rc)) (H : Hs) (n : Nat) : Prop where
  dk : DK D R [] H n
  od : H.odgs = []
  os : H.osegs = []
  g : H.g = (i : Int)
  c : D.c = p
  num : D.num = (i : Int) + 1
  clk : D.clock ≤ ((i : Int) + 1) * p 0
  n : n ≤ 260 * i + 258
  sl : ∃ r o, H.sealed = r ++ [((i : Int), [nth L i], o)] ∧ Told1 L i r
def Sl1 (p : Fin 6 → Int) (L : List ByteArray) (i : Nat) (D : Dn) : Prop := ∃ R H n, Sl p L i D R H n
theorem Rd1.begin (c : Fin 6 → Int) (hc : COk c) (L : List ByteArray) : Rd1 c L 0 (D0 c Dm.fresh) :=
  ⟨_, _, _, dk0 c hc, rfl, rfl, rfl, by show (0 : Int) ≤ 0 * c 0; omega, Nat.le_refl _, fun s hs => by cases hs⟩
theorem Rd1.ok {p : Fin 6 → Int} {L : List ByteArray} {i : Nat} {D : Dn} (h : Rd1 p L i D) (hi : i ≤ 50) : ∃ ds n, DOk D ds n ∧ n ≤ 20000 := by
  obtain ⟨R, H, n, h⟩ := h
  exact ⟨_, n, h.dk.ok, by have := h.n; omega⟩
theorem Pk1.ok {p : Fin 6 → Int} {L : List ByteArray} {i : Nat} {D : Dn} (h : Pk1 p L i D) (hi : i ≤ 50) : ∃ ds n, DOk D ds n ∧ n ≤ 20000 := by
  obtain ⟨R, b, H, n, h⟩ := h
  exact ⟨_, n, h.dk.ok, by have := h.n; omega⟩
theorem Sl1.ok {p : Fin 6 → Int} {L : List ByteArray} {i : Nat} {D : Dn} (h : Sl1 p L i D) (hi : i ≤ 50) : ∃ ds n, DOk D ds n ∧ n ≤ 20000 := by
  obtain ⟨R, H, n, h⟩ := h
  exact ⟨_, n, h.dk.ok, by have := h.n; omega⟩
theorem div_le {a p0 : Int} {i : Int} (hp : 0 < p0) (h : a ≤ i * p0) : a / p0 ≤ i := by
  have h1 := Int.ediv_le_ediv hp h
  rw [Int.mul_ediv_cancel i (by omega)] at h1
  exact h1
theorem Rd1.packet {p : Fin 6 → Int} (hc : COk p) {L : List ByteArray} {i : Nat} {D : Dn} (h : Rd1 p L i D) (hi : i ≤ 50) {s : ByteArray} (hs : L[i]? = some s) (hz : s.size ≤ 256) : Pk1 p L i (dpacket D s) := by
  obtain ⟨R, H, n, h⟩ := h
  have hn := h.n
  have hw := hc.w
  obtain ⟨R', b', H', k1, k2, k3, _, _⟩ := h.dk.write (by omega) hz
  have he : dpacket D s = dwrite D s := by
    unfold dpacket dturn
    rw [if_pos]
    rw [h.c, h.num]
    exact div_le (by omega) h.clk
  rw [he]
  refine ⟨R', b', H', _, k1, ?_, h.c, h.num, h.clk, by omega, by rw [k3]; exact h.sl⟩
  rw [k2, h.od, nth_of hs]
  rfl
theorem mul_bound {p0 : Int} {i : Nat} (hw : 1 ≤ p0 ∧ p0 ≤ 1000) (hi : i ≤ 50) : (i : Int) * p0 < ((i : Int) + 1) * p0 ∧ ((i : Int) + 1) * p0 ≤ 51000 ∧ 0 < ((i : Int) + 1) * p0 := by
  have h1 : ((i : Int) + 1) * p0 = (i : Int) * p0 + p0 := by rw [Int.add_mul, Int.one_mul]
  have h2 : (i : Int) * p0 ≤ 50 * 1000 := Int.mul_le_mul (by omega) hw.2 (by omega) (by omega)
  have h3 : 0 ≤ (i : Int) * p0 := Int.mul_nonneg (by omega) (by omega)
  omega
theorem Pk1.clock {p : Fin 6 → Int} (hc : COk p) {L : List ByteArray} {i : Nat} {D : Dn} (h : Pk1 p L i D) (hi : i < 50) : ∃ D', (if ((i : Int) + 1) * p 0 ≤ D.clock ∨ 1000000000 < ((i : Int) + 1) * p 0 then D else dclock D (((i : Int) + 1) * p 0)) = D' ∧ Sl1 p L i D' := by
  obtain ⟨R, b, H, n, h⟩ := h
  have hn := h.n
  have hw := hc.w
  have hm := mul_bound hw (i := i) (by omega)
  have hclk := h.clk
  refine ⟨_, rfl, ?_⟩
  rw [if_neg (by omega)]
  have hdiv : ((i : Int) + 1) * p 0 / D.c 0 = (i : Int) + 1 := by
    rw [h.c]
    exact Int.mul_ediv_cancel _ (by omega)
  obtain ⟨R', H', k1, k2, k3, k4, ⟨o, k5⟩, k6, k7, k8⟩ := h.dk.turn (by omega) (t := ((i : Int) + 1) * p 0) (by omega) (by omega) (by rw [hdiv, h.num]; omega) (by rw [h.od]; simp)
  rw [h.num] at k4 k5
  rw [h.od] at k5
  exact ⟨R', H', _, k1, k2, k3, k4, k8.trans h.c, by rw [k6, hdiv], by rw [k7]; exact Int.le_refl _, by omega, _, o, k5, h.sl⟩
theorem Sl1.whole {p : Fin 6 → Int} (hc : COk p) {L : List ByteArray} {i : Nat} {D : Dn} (h : Sl1 p L i D) (hi : i < 50) (t : Int) :
    ∃ R H n, doCrash D.S t = D.S ∧ OpenOk D.S R H ∧ DK (Dof p D.S H) R [] H n ∧ n ≤ 20000 ∧ H.sealed.length ≤ 20000 ∧ ∃ D', (if ((i : Int) + 1) * p 0 ≤ (Dof p D.S H).clock ∨ 1000000000 < ((i : Int) + 1) * p 0 then Dof p D.S H else dclock (Dof p D.S H) (((i : Int) + 1) * p 0)) = D' ∧ Sl1 p L i D' := by
  obtain ⟨R, H, n, h⟩ := h
  have hn := h.n
  have hw := hc.w
  have hm := mul_bound hw (i := i) (by omega)
  have hg := h.g
  obtain ⟨j1, j2, j3⟩ := h.dk.whole (by omega) (fun _ => h.os) (fun _ => by omega) t
  rw [h.c] at j3
  have hlen : H.sealed.length ≤ 20000 := by
    have := (h.dk.small (fun _ => h.os) (fun _ => by omega)).dues
    omega
  have hnum : (Dof p D.S H).num = (i : Int) + 1 := by
    show (hend H).onum = _
    have := (hend_num j3.bnd (fun _ => by omega)).2.2.2 h.od
    omega
  have hdiv : ((i : Int) + 1) * p 0 / (Dof p D.S H).c 0 = (i : Int) + 1 := Int.mul_ediv_cancel _ (show p 0 ≠ 0 by omega)
  have hclk : (Dof p D.S H).clock = 0 := rfl
  refine ⟨R, H, n, j1, j2, j3, by omega, hlen, _, rfl, ?_⟩
  rw [if_neg (by rw [hclk]; omega)]
  obtain ⟨k1, k2⟩ := j3.stay (t := ((i : Int) + 1) * p 0) (by omega) (by omega) (by rw [hdiv, hnum]; exact Int.le_refl _)
  refine ⟨R, H, n, k1, h.od, h.os, h.g, by rw [k2]; rfl, by rw [k2]; exact hnum, by rw [k2]; exact Int.le_refl _, h.n, h.sl⟩
theorem Sl1.due {p : Fin 6 → Int} {L : List ByteArray} {i : Nat} {D : Dn} (h : Sl1 p L i D) : ∃ r, D.due = r ++ [mg p L i] ∧ ∀ m ∈ r, ∃ k, k < i ∧ m = mg p L k := by
  obtain ⟨R, H, n, h⟩ := h
  obtain ⟨r, o, h1, h2⟩ := h.sl
  refine ⟨dueOf p r, ?_, fun m hm => ?_⟩
  · rw [h.dk.due, h.c, h1]
    unfold dueOf
    rw [List.map_append]
    rfl
  · unfold dueOf at hm
    obtain ⟨s, hs, rfl⟩ := List.mem_map.1 hm
    obtain ⟨k, hk, e1, e2⟩ := h2 s hs
    refine ⟨k, hk, ?_⟩
    unfold mg tx
    rw [e1, e2]
theorem Sl1.next {p : Fin 6 → Int} {L : List ByteArray} {i : Nat} {D : Dn} (h : Sl1 p L i D) : Rd1 p L (i + 1) D := by
  obtain ⟨R, H, n, h⟩ := h
  obtain ⟨r, o, h1, h2⟩ := h.sl
  refine ⟨R, H, n, h.dk, h.od, h.c, by rw [h.num]; rfl, h.clk, by have := h.n; omega, fun s hs => ?_⟩
  rw [h1] at hs
  rcases List.mem_append.1 hs with hs | hs
  · exact (h2.more (Nat.le_succ _)) s hs
  · rw [List.mem_singleton.1 hs]
    exact ⟨i, by omega, rfl, rfl⟩
theorem Sl1.ack {p : Fin 6 → Int} {L : List ByteArray} {i : Nat} {D : Dn} (h : Sl1 p L i D) (hi : i < 50) {m : Ms} {r : List Ms} (hd : D.due = m :: r) : m.k ∈ D.due.map (·.k) ∧ Rd1 p L (i + 1) (dack D m.k) := by
  obtain ⟨R, H, n, h⟩ := h
  have hn := h.n
  obtain ⟨R0, H0, n0, h0⟩ := Sl1.next ⟨R, H, n, h⟩
  have hsl : Told1 L (i + 1) H.sealed := by
    obtain ⟨r, o, h1, h2⟩ := h.sl
    intro s hs
    rw [h1] at hs
    rcases List.mem_append.1 hs with hs | hs
    · exact (h2.more (Nat.le_succ _)) s hs
    · rw [List.mem_singleton.1 hs]
      exact ⟨i, by omega, rfl, rfl⟩
  have hdu := h.dk.due
  cases hs : H.sealed with
  | nil =>
    rw [hs, hd] at hdu
    cases hdu
  | cons s0 rest =>
    have hk : m.k = s0.1 := by
      rw [hs, hd] at hdu
      injection hdu with e _
      rw [e]
    rw [hk]
    have ho : D.J.opn = [] := by rw [← h.dk.kd.opn]; exact h.os
    obtain ⟨a1, R', H', a2, a3, a4, _⟩ := h.dk.ack (by omega) ho h.od hs
    refine ⟨a1, R', H', _, a2, a4, h.c, by show D.num = _; rw [h.num]; rfl, h.clk, by omega, ?_⟩
    rw [a3]
    exact fun s hs' => hsl s (by rw [hs]; exact List.mem_cons_of_mem _ hs')
end Go.Proofs.YtmkidefdegaamaaGreatDoor.Dd
namespace Go.Proofs.YtmkidefdegaamaaGreatDoor.Dd
open Go.RowKit Go.Maps Mem Foot Bytes Im Wm Hi Plainw Cq Dm Dh Jr Wi Sk Hn Kr
theorem sk_lt {w : World} {K : Nat} {mb : Option Nat} {ms : List Ms} (h : SK w K mb ms) : ∀ b ∈ K :: mb.toList, b < w.heap.size := fun b hb => by
  rcases List.mem_cons.1 hb with e | e
  · rw [e]
    exact h.head.lt
  · cases mb with
    | none => cases e
    | some c =>
      have : b = c := by simpa using e
      rw [this]
      exact mapped_lt h.map
theorem sk_off {F : List Nat} {w w' : World} {K : Nat} {mb : Option Nat} {ms : List Ms} (h : SK w K mb ms) (ho : Off F w w') (hF : ∀ b ∈ K :: mb.toList, b ∉ F) : SK w' K mb ms :=
  h.off ho (hF K (List.mem_cons_self ..)) (fun b e => hF b (List.mem_cons_of_mem _ (by rw [e]; simp)))
structure LZ (wb : World) (bx X K : Nat) (av : Value) (L : List ByteArray) (mb : Option Nat) (ms : List Ms) (wr : World) (D : Dn) (q : Pl) : Prop where
  lp : LP wb bx X av L wr D q
  sk : SK wr K mb ms
  far : ∀ b ∈ K :: mb.toList, wb.heap.size ≤ b
  ap : ∀ b ∈ K :: mb.toList, b ∉ df X q
  ar : ∀ b ∈ K :: mb.toList, b ∉ av.ownBlock.toList
theorem LZ.call {wb : World} {bx X K : Nat} {av : Value} {L : List ByteArray} {mb : Option Nat} {ms : List Ms} {wr : World} {D : Dn} {q : Pl} (h : LZ wb bx X K av L mb ms wr D q) {w' : World} {D' : Dn} (hq : Dq wr w' X D' (df X q) q.bx) : ∃ q', LZ wb bx X K av L mb ms w' D' q' := by
  obtain ⟨q', h1, h2, h3⟩ := hq.ex
  have hl := sk_lt h.sk
  refine ⟨q', ⟨h1, h2.trans h.lp.bx, fun b hb => ?_, fun g hg hm => ?_, h.lp.bl.trans (hq.off.below h.lp.far h.lp.bl.size), own_off h.lp.row hq.off fun k hk => h.lp.ap k hk⟩, sk_off h.sk hq.off h.ap, h.far, fun b hb hm => ?_, h.ar⟩
  · rcases h3 b hb with e | e
    · exact h.lp.far b e
    · have := h.lp.bl.size
      omega
  · rcases h3 g hm with e | e
    · exact h.lp.ap g hg e
    · have := h.lp.lt g hg
      omega
  · rcases h3 b hm with e | e
    · exact h.ap b hb e
    · have := hl b hb
      omega
theorem LZ.keep {wb : World} {bx X K : Nat} {av : Value} {L : List ByteArray} {mb : Option Nat} {ms : List Ms} {wr : World} {D : Dn} {q : Pl} (h : LZ wb bx X K av L mb ms wr D q) {w' : World} (hb : Below wr.heap.size wr w') : LZ wb bx X K av L mb ms w' D q :=
  ⟨h.lp.keep hb, h.sk.keep hb, h.far, h.ap, h.ar⟩
/-- The sink took something. -/
theorem LZ.took {wb : World} {bx X K : Nat} {av : Value} {L : List ByteArray} {mb : Option Nat} {ms ms' : List Ms} {wr : World} {D : Dn} {q : Pl} (h : LZ wb bx X K av L mb ms wr D q) {w' : World} {b : Nat} (ho : Off (K :: mb.toList) wr w') (hs : SK w' K (some b) ms') (hb : b ∈ mb.toList ∨ wr.heap.size ≤ b) : LZ wb bx X K av L (some b) ms' w' D q := by
  have hdl := h.lp.da.lt
  have hrl := h.lp.lt
  have hsz := h.lp.bl.size
  have hc : ∀ k ∈ K :: (some b).toList, k ∈ K :: mb.toList ∨ wr.heap.size ≤ k := fun k hk => by
    rcases List.mem_cons.1 hk with e | e
    · exact Or.inl (e ▸ List.mem_cons_self ..)
    · have : k = b := by simpa using e
      rw [this]
      exact hb.imp (List.mem_cons_of_mem _) id
  refine ⟨⟨h.lp.da.off ho fun k hk hm => h.ap k hm hk, h.lp.bx, h.lp.far, h.lp.ap, h.lp.bl.trans (ho.below h.far h.lp.bl.size), own_off h.lp.row ho fun k hk hm => h.ar k hm hk⟩, hs, fun k hk => ?_, fun k hk hm => ?_, fun k hk hm => ?_⟩
  · rcases hc k hk with e | e
    · exact h.far k e
    · omega
  · rcases hc k hk with e | e
    · exact h.ap k e hm
    · have := hdl k hm
      omega
  · rcases hc k hk with e | e
    · exact h.ar k e hm
    · have := hrl k hm
      omega
/-- The power failed, and a daemon was started on the copy. -/
theorem LZ.again {wb : World} {bx X K : Nat} {av : Value} {L : List ByteArray} {mb : Option Nat} {ms : List Ms} {wr : World} {D : Dn} {q : Pl} (h : LZ wb bx X K av L mb ms wr D q) {w1 w2 : World} {nb ba X2 : Nat} {bs : List Nat} {D2 : Dn} {q2 : Pl} (ho : Off (q.bx :: q.bs) wr w1) (hnew : ∀ b ∈ pf nb ba bs, wr.heap.size ≤ b)
    (hda : DA w2 X2 D2 q2) (hbx : q2.bx = nb) (hdf : ∀ b ∈ df X2 q2, b ∈ pf nb ba bs ∨ w1.heap.size ≤ b) (ho2 : Off (pf nb ba bs) w1 w2) : LZ wb nb X2 K av L mb ms w2 D2 q2 := by
  obtain ⟨hr, hb⟩ := h.lp.copy ho
  have hl := sk_lt h.sk
  have hs1 : SK w1 K mb ms := sk_off h.sk ho fun b hb hm => h.ap b hb (df_pd hm)
  refine ⟨LP.start hr h.lp.lt hb ⟨h.lp.bl.size, ho.size⟩ hnew hda hbx hdf ho2, sk_off hs1 ho2 fun b hb hm => ?_, h.far, fun b hb hm => ?_, h.ar⟩
  · have h1 := hnew b hm
    have h2 := hl b hb
    omega
  · have h2 := hl b hb
    have h3 := ho.size
    rcases hdf b hm with e | e
    · have := hnew b e
      omega
    · omega
theorem mcells_at {l : List Ms} {i : Nat} {m : Ms} (h : l[i]? = some m) : (mcells l)[i * 2]? = some (.int .i64 m.k) ∧ (mcells l)[i * 2 + 1]? = some (.string m.t) := by
  induction l generalizing i with
  | nil => simp at h
  | cons x l ih =>
    cases i with
    | zero =>
      have e : x = m := by simpa using h
      subst e
      exact ⟨rfl, rfl⟩
    | succ i =>
      have h' : l[i]? = some m := by simpa using h
      obtain ⟨h1, h2⟩ := ih h'
      have e1 : (i + 1) * 2 = i * 2 + 1 + 1 := by omega
      rw [e1]
      exact ⟨h1, h2⟩
theorem row_at {w : World} {base size n c : Nat} {g : Nat} {e : TypeId} {xs : List Value} (h : w.ownsRow base e size (.slice (some ⟨g, 0, none⟩) n c) n xs) {i : Nat} {u : Value} (hi : xs[i]? = some u) : w.cell? ⟨g, i, none⟩ = some u := by
  obtain ⟨g', c', e1, _, _, h1⟩ := row_cell h hi
  injection e1 with e1 _ _
  injection e1 with e1
  injection e1 with e1 _ _
  rw [e1]
  exact h1
theorem msg_at {w : World} {base g n c i : Nat} {l : List Ms} {m : Ms} (h : w.ownsRow base 44 2 (.slice (some ⟨g, 0, none⟩) n c) n (mcells l)) (hi : l[i]? = some m) : w.cell? ⟨g, i * 2, none⟩ = some (.int .i64 m.k) ∧ w.cell? ⟨g, i * 2 + 1, none⟩ = some (.string m.t) :=
  ⟨row_at h (mcells_at hi).1, row_at h (mcells_at hi).2⟩
/-- The messages that are due, while the sink takes them. -/
structure MR (w : World) (K : Nat) (mb : Option Nat) (v : Value) (l : List Ms) : Prop where
  row : w.ownsRow 0 44 2 v l.length (mcells l)
  ap : ∀ b ∈ K :: mb.toList, b ∉ v.ownBlock.toList
theorem MR.took {wr w' : World} {K b : Nat} {mb : Option Nat} {v : Value} {l : List Ms} (h : MR wr K mb v l) (ho : Off (K :: mb.toList) wr w') (hb : b ∈ mb.toList ∨ wr.heap.size ≤ b) : MR w' K (some b) v l := by
  refine ⟨own_off h.row ho fun k hk hm => h.ap k hm hk, fun k hk hm => ?_⟩
  rcases List.mem_cons.1 hk with e | e
  · exact h.ap k (e ▸ List.mem_cons_self ..) hm
  · have hkb : k = b := by simpa using e
    rcases hb with e | e
    · exact h.ap k (List.mem_cons_of_mem _ (hkb ▸ e)) hm
    · obtain ⟨cs, hs⟩ := sits_row h.row hm
      have := hs.lt
      omega
theorem MR.keep {wr w' : World} {K : Nat} {mb : Option Nat} {v : Value} {l : List Ms} (h : MR wr K mb v l) (hb : Below wr.heap.size wr w') : MR w' K mb v l :=
  ⟨own_keep h.row hb, h.ap⟩
end Go.Proofs.YtmkidefdegaamaaGreatDoor.Dd
