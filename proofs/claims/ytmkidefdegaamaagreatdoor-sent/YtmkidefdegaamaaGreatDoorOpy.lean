/- A daemon started on a disk that has something. -/
import Derived.Test.YtmkidefdegaamaaGreatDoorQcy
import Derived.Test.YtmkidefdegaamaaGreatDoorOq
import Derived.Test.YtmkidefdegaamaaGreatDoorEjy
namespace Go.Proofs.YtmkidefdegaamaaGreatDoor.Dd
open Go.RowKit Go.Maps Mem Foot Bytes Im Wm Hi Plainw Cq Dm Dh Jr Wi Sk Hn Kr
/-- What is due when it is started. -/
noncomputable def dueOf (c : Fin 6 → Int) (l : List (Int × List ByteArray × List Int)) : List Ms := l.map fun s => ⟨s.1, ⟨(wtext s.1 (wsum (limOf c) (s.2.1.map Bytes.B))).toArray⟩⟩
/-- The daemon that is started. -/
noncomputable def Dof (c : Fin 6 → Int) (S : Dk) (H : Hs) : Dn :=
  ⟨c, Jof (c 5) H, tidE (husd H) H.es H.ez (sgs S) S, 0, (hend H).onum, H.odgs.length, wsum (limOf c) (H.odgs.map Bytes.B), dueOf c H.sealed, false⟩
/-- Datagrams that fit. -/
structure DgOk (l : List ByteArray) : Prop where
  short : ∀ d ∈ l, d.size ≤ 1000000
  lines : nls (l.map Bytes.B) ≤ 100000000000
  len : l.length ≤ 1000000000
theorem row_of {w : World} {v : Value} {l : List ByteArray} (h : w.ownsRow 0 9 1 v l.length (l.map Value.string)) : Row w v (l.map Bytes.B) := by
  obtain ⟨a, c, rfl⟩ := own_shapeJ h
  rcases h.2 with ⟨e, h0⟩ | ⟨g, cap, cur, e, _, hg, hn, _, _, ht⟩
  · injection e with e1 _ e3
    refine ⟨a, c, by rw [List.length_map], by rw [List.length_map]; omega, fun j x hx => ?_⟩
    have := (List.getElem?_eq_some_iff.1 hx).1
    rw [List.length_map] at this
    omega
  · injection e with e1 _ e3
    refine ⟨a, c, by rw [List.length_map], by rw [List.length_map, e3]; exact hn, fun j x hx => ?_⟩
    have hs : Sits w g 9 cur := hg
    rw [List.getElem?_map] at hx
    cases hj : l[j]? with
    | none => rw [hj] at hx; cases hx
    | some t =>
      rw [hj] at hx
      simp only [Option.map_some, Option.some.injEq] at hx
      refine ⟨g, 0, e1, hs.lt, ?_⟩
      have h1 : (l.map Value.string)[j]? = some (.string t) := by rw [List.getElem?_map, hj]; rfl
      rw [← ht, List.getElem?_take] at h1
      split at h1
      · have hB : (⟨(Bytes.B t).toArray⟩ : ByteArray) = t := Bytes.B_inj (by simp [Bytes.B])
        rw [Nat.zero_add, ← hx, hB]
        exact hs.cell j _ (by simpa using h1)
      · cases h1
theorem DgOk.summed {l : List ByteArray} (h : DgOk l) (c : Fin 6 → Int) (hc : COk c) (v : Value) (w : World) (hr : w.ownsRow 0 9 1 v l.length (l.map Value.string)) :
    Calls Tryz.prog 24 #[cfg c, v] w fun e w' => ∃ (p : WI) (rj dr : Nat) (E : List Ent), e = .returned (.pointer (some ⟨p.P, 0, none⟩)) ∧ WiAt w' p (limOf c) rj dr E ∧ winOf rj dr E = wsum (limOf c) (l.map Bytes.B) ∧ (∀ x ∈ wfoot p E, w.heap.size ≤ x) ∧ Below w.heap.size w w' :=
  summedN c hc v (l.map Bytes.B) w (row_of hr) (fun d hd => by
    obtain ⟨t, ht, rfl⟩ := List.mem_map.1 hd
    have := h.short t ht
    rw [Bytes.size_B] at this
    omega) (by have := h.lines; omega) (by rw [List.length_map]; have := h.len; omega)
theorem insM_end {m : Ms} : ∀ {l : List Ms}, (∀ x ∈ l, x.k < m.k) → insM m l = l ++ [m]
  | [], _ => rfl
  | x :: l, h => by
    have hx := h x (List.mem_cons_self ..)
    rw [insM, if_neg (by omega), insM_end fun y hy => h y (List.mem_cons_of_mem _ hy)]
    rfl
set_option maxRecDepth 20000 in
set_option maxHeartbeats 4000000 in
theorem startR (w0 w : World) (hT : Tab w0) (hE : Ers w0) (h0 : Below w0.heap.size w0 w) (c : Fin 6 → Int) (hc : COk c) (bx ba cap : Nat) (bs : List Nat) (S : Dk) (hP : PD w bx S ba cap bs) (hfar : ∀ b ∈ pf bx ba bs, w0.heap.size ≤ b) (hl : S.left = -1) (k u : Nat) (hF : Fit S k u) (hk : k ≤ 1000000000) (ss : List (Int × List Rc)) (H : Hs) (hok : OpenOk S ss H) (hd : DgOk H.odgs) (hds : ∀ s ∈ H.sealed, DgOk s.2.1) (hsn : H.sealed.length ≤ 1000000000) :
    Calls Tryz.prog 7 #[cfg c, .pointer (some ⟨bx, 0, none⟩)] w fun e w' => ∃ X q, e = .returned (.tuple #[.pointer (some ⟨X, 0, none⟩), .int .i64 0]) ∧ DA w' X (Dof c S H) q ∧ q.bx = bx ∧ (∀ b ∈ df X q, b ∈ pf bx ba bs ∨ w.heap.size ≤ b) ∧ Off (pf bx ba bs) w w' := by
  have hN := Sits.new w 23 #[.int .i64 (c 0), .int .i64 (c 1), .int .i64 (c 2), .int .i64 (c 3), .int .i64 (c 4), .int .i64 (c 5)]
  have HB1 := hide (below_new (w := w) (.cells #[.int .i64 (c 0), .int .i64 (c 1), .int .i64 (c 2), .int .i64 (c 3), .int .i64 (c 4), .int .i64 (c 5)] 23))
  have HCK := hide (fun w => by
    have h := Check.check (c 0) (c 1) (c 2) (c 3) (c 4) (c 5) w
    rw [if_pos (good_of hc)] at h
    exact h)
  have HC := hide hc
  have HP := hide hP
  have HT := hide hT
  have HOK := hide hok
  have HD := hide hd
  have HDS := hide hds
  have HOP := hide (fun (w2 : World) (hb : Below w.heap.size w w2) => openR w0 w2 hT hE (h0.trans (hb.mono h0.size)) bx ba cap bs S (hP.keep hb) hfar hl k u hF hk ss H hok (c 5))
  have HTB := hide (fun (w2 : World) (ho : Off (pf bx ba bs) w w2) => hT.below (h0.trans (ho.below hfar h0.size)))
  have hon := hend_is H
  obtain ⟨on, hone⟩ : ∃ on, (hend H).onum = on := ⟨_, rfl⟩
  rw [hone] at hon
  have HON := hide hon
  have HONE := hide hone
  rw [hone] at HOP
  clear hc hP hl hT hE h0 hfar hF hok hd hds hon hone
  unfold cfg
  go_enter Tryz.func7, Tryz.ntmps7
  go_wp2_with fail
  generalize w.alloc (.cells #[.int .i64 (c 0), .int .i64 (c 1), .int .i64 (c 2), .int .i64 (c 3), .int .i64 (c 4), .int .i64 (c 5)] 23) = w1 at *
  obtain ⟨B, hBe⟩ : ∃ B, w.heap.size = B := ⟨_, rfl⟩
  rw [hBe] at hN
  rw [hBe]
  have HBE := hide hBe
  clear hBe
  have HN := hide hN
  obtain ⟨c0, c1, c2, c3, c4, c5⟩ := cells6 hN
  clear hN
  go_wp2_with fail
  refine (HCK.out w1).mono ?_
  rintro e w2 ⟨rfl, hb2⟩
  have hN2 := HN.out.below hb2 HN.out.lt
  have HB2 := hide (show Below w.heap.size w w2 from HB1.out.trans (hb2.mono HB1.out.size))
  have HN2 := hide hN2
  clear c0 c1 c2 c3 c4 c5 hb2
  obtain ⟨c0, c1, c2, c3, c4, c5⟩ := cells6 hN2
  clear hN2
  have hop := HOP.out w2 HB2.out
  go_wp2_with fail
  refine hop.mono ?_
  clear hop c0 c1 c2 c3 c4 c5
  rintro e w3 ⟨jb, mb, p, rfl, hq⟩
  obtain ⟨hb, sv, ws, dv, sg⟩ := p
  obtain ⟨qha, qnew, qjw, ⟨ba3, cap3, bs3, qpd, qpf⟩, qoff, qjb, qmb⟩ := hq
  rw [HON.out] at qha
  obtain ⟨va, vc, hsv⟩ := own_shapeJ qha.sv
  obtain ⟨da, dc, hdv⟩ := own_shapeJ qha.dv
  obtain ⟨ga, gc, hsg⟩ := own_shapeJ qha.sg
  simp only at hsv hdv hsg
  subst hsv
  subst hdv
  subst hsg
  have HA3 := hide qha
  have HJ3 := hide qjw
  have HP3 := hide qpd
  have HZ2 := hide HB2.out.size
  have HN3 := hide (Foot.Sits.off HN2.out qoff (PD.not (HP.out.keep HB2.out) HN2.out (by decide) (by decide) (by decide)))
  have HO3 := hide (show Off (pf bx ba bs) w w3 from (Off.of_below HB2.out).trans qoff)
  have HPF := hide (show ∀ b ∈ pf bx ba3 bs3, b ∈ pf bx ba bs ∨ w.heap.size ≤ b from fun b hb' => (qpf b hb').imp id fun e => Nat.le_trans HB2.out.size e)
  have HNE := hide (show ∀ b ∈ Hp.blocks ⟨hb, .slice va H.sealed.length vc, ws, .slice da H.odgs.length dc, .slice ga H.osegs.length gc⟩, w.heap.size ≤ b from fun b hb' => Nat.le_trans HB2.out.size (qnew b hb'))
  have HJB := hide (show w.heap.size ≤ jb ∧ w.heap.size ≤ mb from ⟨Nat.le_trans HB2.out.size qjb, Nat.le_trans HB2.out.size qmb⟩)
  clear qha qnew qjw qpd qpf qoff qjb qmb
  have hmm := @run_makeMap Tryz.prog
  have hb4 := below_new (w := w3) (.cells #[.slice va H.sealed.length vc, .int .i64 on, .slice da H.odgs.length dc, .slice ga H.osegs.length gc] 62)
  have HF4 := hide (Sits.new w3 62 #[.slice va H.sealed.length vc, .int .i64 on, .slice da H.odgs.length dc, .slice ga H.osegs.length gc])
  have HN4 := hide (HN3.out.below hb4 HN3.out.lt)
  obtain ⟨c0, c1, c2, c3, c4, c5⟩ := cells6 HN4.out
  obtain ⟨d0, d1, d2, d3, d4, d5⟩ := cells6 (HN4.out.alloc (.map #[] 0))
  have f0 := ((HF4.out.alloc (.map #[] 0)).alloc (.cells #[.int .i64 (c 0), .int .i64 (c 1), .int .i64 (c 2), .int .i64 (c 3), .int .i64 (c 4), .int .i64 (c 5), .pointer (some ⟨jb, 0, none⟩), .int .i64 0, .int .i64 0, .int .i64 0, .pointer none, .map (some (w3.heap.size + 1)), .bool false] 72)).cell 0 _ rfl
  clear hb4
  go_wp2_with fail
  clear c0 c1 c2 c3 c4 c5 d0 d1 d2 d3 d4 d5 f0 hmm
  have hX5 := Sits.new ((w3.alloc (.cells #[.slice va H.sealed.length vc, .int .i64 on, .slice da H.odgs.length dc, .slice ga H.osegs.length gc] 62)).alloc (.map #[] 0)) 72 #[.int .i64 (c 0), .int .i64 (c 1), .int .i64 (c 2), .int .i64 (c 3), .int .i64 (c 4), .int .i64 (c 5), .pointer (some ⟨jb, 0, none⟩), .int .i64 0, .int .i64 0, .int .i64 0, .pointer none, .map (some (w3.heap.size + 1)), .bool false]
  rw [World.size_alloc, World.size_alloc] at hX5
  have HX5 := hide hX5
  have hb5 : Below w3.heap.size w3 (((w3.alloc (.cells #[.slice va H.sealed.length vc, .int .i64 on, .slice da H.odgs.length dc, .slice ga H.osegs.length gc] 62)).alloc (.map #[] 0)).alloc (.cells #[.int .i64 (c 0), .int .i64 (c 1), .int .i64 (c 2), .int .i64 (c 3), .int .i64 (c 4), .int .i64 (c 5), .pointer (some ⟨jb, 0, none⟩), .int .i64 0, .int .i64 0, .int .i64 0, .pointer none, .map (some (w3.heap.size + 1)), .bool false] 72)) := ((below_new _).alloc (by simp) _).alloc (by simp; omega) _
  have HM5 := hide (show (((w3.alloc (.cells #[.slice va H.sealed.length vc, .int .i64 on, .slice da H.odgs.length dc, .slice ga H.osegs.length gc] 62)).alloc (.map #[] 0)).alloc (.cells #[.int .i64 (c 0), .int .i64 (c 1), .int .i64 (c 2), .int .i64 (c 3), .int .i64 (c 4), .int .i64 (c 5), .pointer (some ⟨jb, 0, none⟩), .int .i64 0, .int .i64 0, .int .i64 0, .pointer none, .map (some (w3.heap.size + 1)), .bool false] 72)).ownsMap Tryz.prog 3 (exE okM) (w3.heap.size + 1) 0 (Sk.D []) by
    have h1 := own_at (w' := ((w3.alloc (.cells #[.slice va H.sealed.length vc, .int .i64 on, .slice da H.odgs.length dc, .slice ga H.osegs.length gc] 62)).alloc (.map #[] 0)).alloc (.cells #[.int .i64 (c 0), .int .i64 (c 1), .int .i64 (c 2), .int .i64 (c 3), .int .i64 (c 4), .int .i64 (c 5), .pointer (some ⟨jb, 0, none⟩), .int .i64 0, .int .i64 0, .int .i64 0, .pointer none, .map (some (w3.heap.size + 1)), .bool false] 72)) (made_due (w3.alloc (.cells #[.slice va H.sealed.length vc, .int .i64 on, .slice da H.odgs.length dc, .slice ga H.osegs.length gc] 62))) (Below.heap_alloc _ _ _ (by simp))
    rw [World.size_alloc] at h1
    exact h1)
  have HF5 := hide ((HF4.out.alloc (.map #[] 0)).alloc (.cells #[.int .i64 (c 0), .int .i64 (c 1), .int .i64 (c 2), .int .i64 (c 3), .int .i64 (c 4), .int .i64 (c 5), .pointer (some ⟨jb, 0, none⟩), .int .i64 0, .int .i64 0, .int .i64 0, .pointer none, .map (some (w3.heap.size + 1)), .bool false] 72))
  have HZ5 := hide (show (((w3.alloc (.cells #[.slice va H.sealed.length vc, .int .i64 on, .slice da H.odgs.length dc, .slice ga H.osegs.length gc] 62)).alloc (.map #[] 0)).alloc (.cells #[.int .i64 (c 0), .int .i64 (c 1), .int .i64 (c 2), .int .i64 (c 3), .int .i64 (c 4), .int .i64 (c 5), .pointer (some ⟨jb, 0, none⟩), .int .i64 0, .int .i64 0, .int .i64 0, .pointer none, .map (some (w3.heap.size + 1)), .bool false] 72)).heap.size = w3.heap.size + 3 by simp)
  have HN5 := hide (Mem.Sits.below HN3.out hb5 HN3.out.lt)
  have HA5 := hide (HA3.out.keep hb5)
  have HB5 := hide hb5
  clear hX5 hb5 HF4 HN4
  generalize ((w3.alloc (.cells #[.slice va H.sealed.length vc, .int .i64 on, .slice da H.odgs.length dc, .slice ga H.osegs.length gc] 62)).alloc (.map #[] 0)).alloc (.cells #[.int .i64 (c 0), .int .i64 (c 1), .int .i64 (c 2), .int .i64 (c 3), .int .i64 (c 4), .int .i64 (c 5), .pointer (some ⟨jb, 0, none⟩), .int .i64 0, .int .i64 0, .int .i64 0, .pointer none, .map (some (w3.heap.size + 1)), .bool false] 72) = w5 at *
  obtain ⟨fb, hfb⟩ : ∃ fb, w3.heap.size = fb := ⟨_, rfl⟩
  rw [hfb] at HX5 HM5 HF5 HZ5 ⊢
  have HFB := hide hfb
  clear hfb
  have HWL := hide (show ws.length = H.sealed.length by rw [← show ws.map Wn.is = H.sealed from HA5.out.is, List.length_map])
  have HWI := hide (show ∀ x ∈ ws, x.is ∈ H.sealed from fun x hx => by rw [← show ws.map Wn.is = H.sealed from HA5.out.is]; exact List.mem_map_of_mem hx)
  have HDW := hide (show dueOf c H.sealed = ws.map fun x => ⟨x.num, ⟨(wtext x.num (wsum (limOf c) (x.ds.map Bytes.B))).toArray⟩⟩ by
    unfold dueOf
    rw [← show ws.map Wn.is = H.sealed from HA5.out.is, List.map_map]
    rfl)
  have HWU := hide (show (ws.map (·.num)).Pairwise (· < ·) by
    have h1 := HOK.out.up
    rw [← show ws.map Wn.is = H.sealed from HA5.out.is, List.map_map] at h1
    exact h1)
  have HNM := hide (show ∀ wr : World, Off [fb + 1] w5 wr → HA wr { H with onum := on } ⟨hb, .slice va H.sealed.length vc, ws, .slice da H.odgs.length dc, .slice ga H.osegs.length gc⟩ from fun wr ho => HA5.out.off ho fun k hk e => by
    obtain ⟨t, cs, hs, _⟩ := HA5.out.cells hk
    exact map_ne HM5.out hs (List.mem_singleton.1 e).symm)
  have HXM := hide (show ∀ wr : World, Off [fb + 1] w5 wr → Sits wr (fb + 1 + 1) 72 #[.int .i64 (c 0), .int .i64 (c 1), .int .i64 (c 2), .int .i64 (c 3), .int .i64 (c 4), .int .i64 (c 5), .pointer (some ⟨jb, 0, none⟩), .int .i64 0, .int .i64 0, .int .i64 0, .pointer none, .map (some (fb + 1)), .bool false] from fun wr ho => Foot.Sits.off HX5.out ho (by simp))
  have HFM := hide (show ∀ wr : World, Off [fb + 1] w5 wr → Sits wr fb 62 #[.slice va H.sealed.length vc, .int .i64 on, .slice da H.odgs.length dc, .slice ga H.osegs.length gc] from fun wr ho => Foot.Sits.off HF5.out ho (by simp))
  have HCM := hide (show ∀ wr : World, Off [fb + 1] w5 wr → Sits wr B 23 #[.int .i64 (c 0), .int .i64 (c 1), .int .i64 (c 2), .int .i64 (c 3), .int .i64 (c 4), .int .i64 (c 5)] from fun wr ho => Foot.Sits.off HN5.out ho (fun e => map_ne HM5.out HN5.out (List.mem_singleton.1 e).symm))
  have HTM := hide (show ∀ wr : World, Off [fb + 1] w5 wr → Tab wr from fun wr ho => HTB.out wr (off_trans (HO3.out.trans (Off.of_below HB5.out)) (fun b hb' => Or.inr (by
    have h1 := HO3.out.size
    have h2 := HFB.out
    rw [List.mem_singleton.1 hb']
    omega)) ho))
  go_loopw [36] (fun s wr => ∃ i : Nat, s = .int .i64 (i : Int) ∧ i ≤ H.sealed.length ∧ Hid (wr.ownsMap Tryz.prog 3 (exE okM) (fb + 1) i (Sk.D ((dueOf c H.sealed).take i))) ∧ Hid (Off [fb + 1] w5 wr)) (fun s _ => H.sealed.length - (intOf s).toNat)
  case atStart => exact ⟨0, rfl, Nat.zero_le _, HM5.out, Off.refl _ _⟩
  case round =>
    obtain ⟨i, rfl, hil, HMR, HOR⟩ := hrel
    have HAR := hide (HNM.out _ HOR.out)
    by_cases hi : i < H.sealed.length
    · have hiz : (i : Int) < (H.sealed.length : Int) := by omega
      obtain ⟨x, hx⟩ : ∃ x, ws[i]? = some x := ⟨_, List.getElem?_eq_getElem (by rw [HWL.out]; exact hi)⟩
      obtain ⟨r0, r1, r2⟩ := wcells_at hx
      obtain ⟨g, cap', hv, hcap, ⟨cs, hsg⟩, d0⟩ := row_cell HAR.out.sv r0
      obtain ⟨g1, cap1, hv1, _, _, d1⟩ := row_cell HAR.out.sv r1
      obtain ⟨g2, cap2, hv2, _, _, d2⟩ := row_cell HAR.out.sv r2
      simp only at hv hv1 hv2
      rw [hv1] at hv2
      rw [hv] at hv1
      injection hv with e1 e2 e3
      injection hv1 with e4 e4a e4b
      injection hv2 with e5 e5a e5b
      have eg1 : g = g1 := by injection e4 with e; injection e
      have eg2 : g1 = g2 := by injection e5 with e; injection e
      subst eg2
      subst eg1
      clear e4 e5 e4a e4b e5a e5b e2
      subst e1
      subst e3
      have hxm := List.mem_of_getElem? hx
      have hxr := HOK.out.sn _ (HWI.out x hxm)
      have hdg := HDS.out _ (HWI.out x hxm)
      simp only [Wn.is] at hxr hdg
      obtain ⟨xd, xdc, hdv⟩ := own_shapeJ (HAR.out.ws x hxm).d
      obtain ⟨xa, xc, hxs⟩ := own_shapeJ (HAR.out.ws x hxm).s
      have HXD := hide (show ∀ W, Off [fb + 1] w5 W → W.ownsRow 0 9 1 (.slice xd x.ds.length xdc) x.ds.length (x.ds.map Value.string) from fun W ho => by
        have := ((HNM.out W ho).ws x hxm).d
        rw [hdv] at this
        exact this)
      rw [hdv] at d1
      rw [hxs] at d2
      have HDX := hide (show (dueOf c H.sealed)[i]? = some ⟨x.num, ⟨(wtext x.num (wsum (limOf c) (x.ds.map Bytes.B))).toArray⟩⟩ by rw [HDW.out, List.getElem?_map, hx]; rfl)
      have HLT := hide (show ∀ m ∈ (dueOf c H.sealed).take i, m.k < x.num from fun m hm => by
        rw [HDW.out] at hm
        obtain ⟨j, hj, he⟩ := List.mem_iff_getElem.1 hm
        rw [List.length_take, List.length_map] at hj
        have hxi : ws[i]'(by rw [HWL.out]; exact hi) = x := by
          rw [List.getElem?_eq_getElem (by rw [HWL.out]; exact hi)] at hx
          exact Option.some.inj hx
        have h2 := List.pairwise_iff_getElem.1 HWU.out j i (by rw [List.length_map]; omega) (by rw [List.length_map, HWL.out]; exact hi) (by omega)
        rw [List.getElem_map, List.getElem_map, hxi] at h2
        rw [← he, List.getElem_take, List.getElem_map]
        exact h2)
      clear hx r0 r1 r2 hsg hxs hdv
      have hs1 := Sits.new wr 60 #[.int .i64 x.num, .slice xd x.ds.length xdc, .slice xa x.ss.length xc]
      have hb1 := below_new (w := wr) (.cells #[.int .i64 x.num, .slice xd x.ds.length xdc, .slice xa x.ss.length xc] 60)
      have HS1 := hide hs1
      have HBA := hide hb1
      clear hs1 hb1
      go_upto_region 11 with fail
      clear d0 d1 d2
      have HO1 := hide (HOR.out.trans (Off.of_below HBA.out))
      have HM1 := hide (map_off HMR.out (Off.of_below (F := []) HBA.out) (by simp))
      obtain ⟨xb, hxb⟩ : ∃ xb, wr.heap.size = xb := ⟨_, rfl⟩
      rw [hxb] at HS1 ⊢
      clear hxb HAR HMR HOR HBA
      generalize wr.alloc (.cells #[.int .i64 x.num, .slice xd x.ds.length xdc, .slice xa x.ss.length xc] 60) = wr1 at *
      have G0 := hide (show ∀ W, Below wr1.heap.size wr1 W → W.cell? ⟨xb, 0, none⟩ = some (.int .i64 x.num) from fun W hW => (Mem.Sits.below HS1.out hW HS1.out.lt).cell 0 _ rfl)
      have G1 := hide (show ∀ W, Below wr1.heap.size wr1 W → W.cell? ⟨xb, 1, none⟩ = some (.slice xd x.ds.length xdc) from fun W hW => (Mem.Sits.below HS1.out hW HS1.out.lt).cell 1 _ rfl)
      have GX := hide (show ∀ W, Below wr1.heap.size wr1 W → W.cell? ⟨fb + 1 + 1, 11, none⟩ = some (.map (some (fb + 1))) from fun W hW => (Mem.Sits.below (HXM.out _ HO1.out) hW (HXM.out _ HO1.out).lt).cell 11 _ rfl)
      have GC := hide (fun W (hW : Below wr1.heap.size wr1 W) => cells6 (Mem.Sits.below (HCM.out _ HO1.out) hW (HCM.out _ HO1.out).lt))
      refine region_C (fun W => Below wr1.heap.size wr1 W) 16 (by kernel_rfl) (Below.refl _ _) (fun W h => h.drew) ?_
      intro wd hwd hheap
      have HWR := hide hwd
      clear hwd hheap
      refine take_C (i := 0) (v := .pointer (some ⟨fb + 1 + 1, 0, none⟩)) rfl (by decide) (by kernel_rfl) (by kernel_rfl) (by kernel_rfl) (by kernel_rfl) (fun _ _ _ h => h) (Or.inl ⟨by rfl, by intro W hW; have k0 := G0.out W hW; have k1 := G1.out W hW; have k2 := GX.out W hW; obtain ⟨b0, b1, b2, b3, b4, b5⟩ := GC.out W hW; go_simp⟩) HWR.out ?_
      refine take_C (i := 1) (v := .pointer (some ⟨fb + 1 + 1, 0, none⟩)) rfl (by decide) (by kernel_rfl) (by kernel_rfl) (by kernel_rfl) (by kernel_rfl) (fun _ _ _ h => h) (Or.inl ⟨by rfl, by intro W hW; have k0 := G0.out W hW; have k1 := G1.out W hW; have k2 := GX.out W hW; obtain ⟨b0, b1, b2, b3, b4, b5⟩ := GC.out W hW; go_simp⟩) HWR.out ?_
      refine take_C (i := 2) (v := .pointer (some ⟨fb + 1 + 1, 11, none⟩)) rfl (by decide) (by kernel_rfl) (by kernel_rfl) (by kernel_rfl) (by kernel_rfl) (fun _ _ _ h => h) (Or.inl ⟨by rfl, by intro W hW; have k0 := G0.out W hW; have k1 := G1.out W hW; have k2 := GX.out W hW; obtain ⟨b0, b1, b2, b3, b4, b5⟩ := GC.out W hW; go_simp⟩) HWR.out ?_
      refine take_C (i := 3) (v := .map (some (fb + 1))) rfl (by decide) (by kernel_rfl) (by kernel_rfl) (by kernel_rfl) (by kernel_rfl) (fun _ _ _ h => h) (Or.inl ⟨by rfl, by intro W hW; have k0 := G0.out W hW; have k1 := G1.out W hW; have k2 := GX.out W hW; obtain ⟨b0, b1, b2, b3, b4, b5⟩ := GC.out W hW; go_simp⟩) HWR.out ?_
      refine take_C (i := 4) (v := .pointer (some ⟨xb, 0, none⟩)) rfl (by decide) (by kernel_rfl) (by kernel_rfl) (by kernel_rfl) (by kernel_rfl) (fun _ _ _ h => h) (Or.inl ⟨by rfl, by intro W hW; have k0 := G0.out W hW; have k1 := G1.out W hW; have k2 := GX.out W hW; obtain ⟨b0, b1, b2, b3, b4, b5⟩ := GC.out W hW; go_simp⟩) HWR.out ?_
      refine take_C (i := 5) (v := .int .i64 x.num) rfl (by decide) (by kernel_rfl) (by kernel_rfl) (by kernel_rfl) (by kernel_rfl) (fun _ _ _ h => h) (Or.inl ⟨by rfl, by intro W hW; have k0 := G0.out W hW; have k1 := G1.out W hW; have k2 := GX.out W hW; obtain ⟨b0, b1, b2, b3, b4, b5⟩ := GC.out W hW; go_simp⟩) HWR.out ?_
      refine take_C (i := 6) (v := .pointer (some ⟨xb, 0, none⟩)) rfl (by decide) (by kernel_rfl) (by kernel_rfl) (by kernel_rfl) (by kernel_rfl) (fun _ _ _ h => h) (Or.inl ⟨by rfl, by intro W hW; have k0 := G0.out W hW; have k1 := G1.out W hW; have k2 := GX.out W hW; obtain ⟨b0, b1, b2, b3, b4, b5⟩ := GC.out W hW; go_simp⟩) HWR.out ?_
      refine take_C (i := 7) (v := .int .i64 x.num) rfl (by decide) (by kernel_rfl) (by kernel_rfl) (by kernel_rfl) (by kernel_rfl) (fun _ _ _ h => h) (Or.inl ⟨by rfl, by intro W hW; have k0 := G0.out W hW; have k1 := G1.out W hW; have k2 := GX.out W hW; obtain ⟨b0, b1, b2, b3, b4, b5⟩ := GC.out W hW; go_simp⟩) HWR.out ?_
      refine take_C (i := 8) (v := .agg #[.int .i64 (c 0), .int .i64 (c 1), .int .i64 (c 2), .int .i64 (c 3), .int .i64 (c 4), .int .i64 (c 5)]) rfl (by decide) (by kernel_rfl) (by kernel_rfl) (by kernel_rfl) (by kernel_rfl) (fun _ _ _ h => h) (Or.inl ⟨by rfl, by intro W hW; have k0 := G0.out W hW; have k1 := G1.out W hW; have k2 := GX.out W hW; obtain ⟨b0, b1, b2, b3, b4, b5⟩ := GC.out W hW; go_simp⟩) HWR.out ?_
      refine take_C (i := 9) (v := .pointer (some ⟨xb, 1, none⟩)) rfl (by decide) (by kernel_rfl) (by kernel_rfl) (by kernel_rfl) (by kernel_rfl) (fun _ _ _ h => h) (Or.inl ⟨by rfl, by intro W hW; have k0 := G0.out W hW; have k1 := G1.out W hW; have k2 := GX.out W hW; obtain ⟨b0, b1, b2, b3, b4, b5⟩ := GC.out W hW; go_simp⟩) HWR.out ?_
      refine take_C (i := 10) (v := .slice xd x.ds.length xdc) rfl (by decide) (by kernel_rfl) (by kernel_rfl) (by kernel_rfl) (by kernel_rfl) (fun _ _ _ h => h) (Or.inl ⟨by rfl, by intro W hW; have k0 := G0.out W hW; have k1 := G1.out W hW; have k2 := GX.out W hW; obtain ⟨b0, b1, b2, b3, b4, b5⟩ := GC.out W hW; go_simp⟩) HWR.out ?_
      refine take_C (i := 12) (v := .pointer (some ⟨xb, 0, none⟩)) rfl (by decide) (by kernel_rfl) (by kernel_rfl) (by kernel_rfl) (by kernel_rfl) (fun _ _ _ h => h) (Or.inl ⟨by rfl, by intro W hW; have k0 := G0.out W hW; have k1 := G1.out W hW; have k2 := GX.out W hW; obtain ⟨b0, b1, b2, b3, b4, b5⟩ := GC.out W hW; go_simp⟩) HWR.out ?_
      refine take_C (i := 13) (v := .int .i64 x.num) rfl (by decide) (by kernel_rfl) (by kernel_rfl) (by kernel_rfl) (by kernel_rfl) (fun _ _ _ h => h) (Or.inl ⟨by rfl, by intro W hW; have k0 := G0.out W hW; have k1 := G1.out W hW; have k2 := GX.out W hW; obtain ⟨b0, b1, b2, b3, b4, b5⟩ := GC.out W hW; go_simp⟩) HWR.out ?_
      refine one_C (j := 11) (by kernel_rfl) rfl (fun K hK => ?_)
      go_simp
      have hsu := hdg.summed c HC.out (.slice xd x.ds.length xdc) wd (HXD.out wd (HO1.out.trans (Off.of_below HWR.out)))
      unfold cfg at hsu
      refine hsu.mono ?_
      clear hsu
      rintro e w6 ⟨p6, rj6, dr6, E6, rfl, hwi, hwe, hfr, hb6⟩
      have HB6 := hide (show Below wr1.heap.size wr1 w6 from HWR.out.trans (hb6.mono HWR.out.size))
      have HW6 := hide hwi
      have HWE := hide hwe
      refine hK _ _ (fun _ => HB6.out) ?_
      clear hK K hwi hwe hfr hb6
      have hft : WFit (limOf c) (nls (x.ds.map Bytes.B)) (winOf rj6 dr6 E6) := by
        rw [HWE.out]
        have := wfit_grams HC.out.lim.b0 (x.ds.map Bytes.B) (WFit.zero (limOf c))
        rw [Nat.zero_add] at this
        exact this
      have htx := textW x.num p6 (limOf c) (nls (x.ds.map Bytes.B)) rj6 dr6 E6 w6 HW6.out hft HC.out.lim (by rw [HWE.out]; exact live_grams _ live0) (HTM.out _ (HO1.out.trans (Off.of_below HB6.out))) (by have := hdg.lines; omega) (by omega) (by omega)
      refine one_C (j := 14) (by kernel_rfl) rfl (fun K hK => ?_)
      go_simp
      refine htx.mono ?_
      clear htx hft
      rintro e w7 ⟨⟨z, rfl, hz⟩, hb7⟩
      have HZ := hide (show z = ⟨(wtext x.num (wsum (limOf c) (x.ds.map Bytes.B))).toArray⟩ from Bytes.B_inj (by rw [hz, HWE.out]; rfl))
      have HB7 := hide (show Below wr1.heap.size wr1 w7 from HB6.out.trans (hb7.mono HB6.out.size))
      refine hK _ _ (fun _ => HB7.out) ?_
      clear hK K hz hb7
      refine one_C (j := 15) (by kernel_rfl) rfl (fun K hK => ?_)
      go_simp
      refine hK _ _ (fun _ => HB7.out) ?_
      clear hK K
      have HM7 := hide (map_off HM1.out (Off.of_below (F := []) HB7.out) (by simp))
      obtain ⟨w8, hu8, hm8, hg8⟩ := HM7.out.update (t := 67) (int_keyed Tryz.underlying3) Tryz.underlying67 (Nat.lt_of_le_of_lt (show i ≤ 1000000000 by omega) (by decide)) (Maps.keyOf_int_mk (P := Tryz.prog) (k := 3) Tryz.underlying3 (wf_int (n := x.num) (by omega) (by omega))) (exE_mk (okM_mv ⟨x.num, z⟩))
      have hm9 : w8.ownsMap Tryz.prog 3 (exE okM) (fb + 1) (i + 1) ((Sk.D ((dueOf c H.sealed).take i)).put (Lit.int .i64 (⟨x.num, z⟩ : Ms).k) (.held (mv ⟨x.num, z⟩))) := hm8
      rw [D_put (m := ⟨x.num, z⟩) (fun hm => by
        obtain ⟨m, hm1, hm2⟩ := List.mem_map.1 hm
        have := HLT.out m hm1
        simp only at hm2
        omega), insM_end (m := ⟨x.num, z⟩) HLT.out] at hm9
      have HM8 := hide (show w8.ownsMap Tryz.prog 3 (exE okM) (fb + 1) (i + 1) (Sk.D ((dueOf c H.sealed).take (i + 1))) by
        rw [List.take_add_one, HDX.out, ← HZ.out]
        exact hm9)
      have HO8 := hide ((HO1.out.trans (Off.of_below HB7.out)).trans (row_off hg8))
      simp only [mv] at hu8
      clear hm8 hm9 hg8
      refine one_C (j := 16) (by kernel_rfl) rfl (fun K hK => ?_)
      go_simp
      refine hK _ _ (fun h => absurd h (by decide)) ?_
      clear hK K
      refine done_C (by kernel_rfl) ?_ _
      go_wp2_with fail
      go_roundw
      case rel => exact ⟨i + 1, by go_num, by omega, HM8, HO8⟩
      case measure => simp only [intOf]; omega
    · have hiz : ¬ (i : Int) < (H.sealed.length : Int) := by omega
      have hie : i = H.sealed.length := by omega
      have hdl : (dueOf c H.sealed).length = H.sealed.length := by unfold dueOf; rw [List.length_map]
      have HMF := hide (show Mapped wr (some (fb + 1)) (dueOf c H.sealed) from ⟨_, by
        have h1 := HMR.out
        rw [hie, ← hdl, List.take_length] at h1
        exact h1⟩)
      have HRI := hide (show Rise (dueOf c H.sealed) by
        unfold dueOf Rise
        rw [List.pairwise_map]
        exact (List.pairwise_map.1 HOK.out.up).imp fun h => h)
      clear hie hdl HMR
      have hfo := HFM.out _ HOR.out
      have G1 := hide (show ∀ W, Below wr.heap.size wr W → W.cell? ⟨fb, 1, none⟩ = some (.int .i64 on) from fun W hW => (Mem.Sits.below hfo hW hfo.lt).cell 1 _ rfl)
      have G2 := hide (show ∀ W, Below wr.heap.size wr W → W.cell? ⟨fb, 2, none⟩ = some (.slice da H.odgs.length dc) from fun W hW => (Mem.Sits.below hfo hW hfo.lt).cell 2 _ rfl)
      have GC := hide (fun W (hW : Below wr.heap.size wr W) => cells6 (Mem.Sits.below (HCM.out _ HOR.out) hW (HCM.out _ HOR.out).lt))
      have HXR := hide (HXM.out _ HOR.out)
      have FIN := hide (show ∀ (w6 : World) (p6 : WI) (rj dr : Nat) (E : List Ent), WiAt w6 p6 (limOf c) rj dr E → winOf rj dr E = wsum (limOf c) (H.odgs.map Bytes.B) → (∀ x ∈ wfoot p6 E, wr.heap.size ≤ x) → Below wr.heap.size wr w6 →
          ∃ X q, Ending.returned (.tuple #[.pointer (some ⟨fb + 1 + 1, 0, none⟩), .int .i64 0]) = .returned (.tuple #[.pointer (some ⟨X, 0, none⟩), .int .i64 0]) ∧ DA (((w6.setCell ⟨fb + 1 + 1, 8, none⟩ (.int .i64 on)).setCell ⟨fb + 1 + 1, 9, none⟩ (.int .i64 (H.odgs.length : Int))).setCell ⟨fb + 1 + 1, 10, none⟩ (.pointer (some ⟨p6.P, 0, none⟩))) X (Dof c S H) q ∧ q.bx = bx ∧ (∀ b ∈ df X q, b ∈ pf bx ba bs ∨ w.heap.size ≤ b) ∧ Off (pf bx ba bs) w (((w6.setCell ⟨fb + 1 + 1, 8, none⟩ (.int .i64 on)).setCell ⟨fb + 1 + 1, 9, none⟩ (.int .i64 (H.odgs.length : Int))).setCell ⟨fb + 1 + 1, 10, none⟩ (.pointer (some ⟨p6.P, 0, none⟩))) from fun w6 p6 rj dr E hwi hwe hfr hb6 => by
        have hfb := HFB.out
        have hz5 := HZ5.out
        have hz3 := HO3.out.size
        have hzr := HOR.out.size
        have hjo : Off [fb + 1] w3 wr := off_trans (Off.of_below HB5.out) (fun b hb' => by rw [List.mem_singleton.1 hb']; exact Or.inl (List.mem_singleton.2 rfl)) HOR.out
        have hkl := kf_lt HJ3.out HP3.out
        have hx6 := Mem.Sits.below HXR.out hb6 HXR.out.lt
        have ho : Off [fb + 1 + 1] w6 (((w6.setCell ⟨fb + 1 + 1, 8, none⟩ (.int .i64 on)).setCell ⟨fb + 1 + 1, 9, none⟩ (.int .i64 (H.odgs.length : Int))).setCell ⟨fb + 1 + 1, 10, none⟩ (.pointer (some ⟨p6.P, 0, none⟩))) := (((Off.refl _ _).set (List.mem_singleton.2 rfl) _ _).set (List.mem_singleton.2 rfl) _ _).set (List.mem_singleton.2 rfl) _ _
        have hX7 := ((hx6.set 8 (.int .i64 on)).set 9 (.int .i64 (H.odgs.length : Int))).set 10 (.pointer (some ⟨p6.P, 0, none⟩))
        have hall : Off [fb + 1, fb + 1 + 1] w3 (((w6.setCell ⟨fb + 1 + 1, 8, none⟩ (.int .i64 on)).setCell ⟨fb + 1 + 1, 9, none⟩ (.int .i64 (H.odgs.length : Int))).setCell ⟨fb + 1 + 1, 10, none⟩ (.pointer (some ⟨p6.P, 0, none⟩))) := ((hjo.mono fun k _ hk => by rw [List.mem_singleton.1 hk]; simp).trans (Off.of_below hb6)).trans (ho.mono fun k _ hk => by rw [List.mem_singleton.1 hk]; simp)
        have hnk : ∀ k ∈ Jr.kf jb bx mb (svOf ws) (.slice ga H.osegs.length gc) ba3 bs3, k ∉ [fb + 1, fb + 1 + 1] := fun k hk e => by
          have := hkl k hk
          simp at e
          omega
        have hnew : ∀ b ∈ Jr.kf jb bx mb (svOf ws) (.slice ga H.osegs.length gc) ba3 bs3, b ∈ pf bx ba bs ∨ w.heap.size ≤ b := fun b hb' => by
          rcases List.mem_cons.1 hb' with e | e
          · rw [e]
            exact Or.inr HJB.out.2
          · rcases List.mem_append.1 e with e | e
            · obtain ⟨q, hq, hk⟩ := List.mem_flatMap.1 e
              obtain ⟨x, hx, rfl⟩ := List.mem_map.1 hq
              exact Or.inr (HNE.out b (Hp.ws_in ⟨hb, .slice va H.sealed.length vc, ws, .slice da H.odgs.length dc, .slice ga H.osegs.length gc⟩ (List.mem_flatMap.2 ⟨x, hx, List.mem_append_right _ hk⟩)))
            · rcases List.mem_cons.1 e with e | e
              · rw [e]
                exact Or.inr HJB.out.1
              · rcases List.mem_append.1 e with e | e
                · exact Or.inr (HNE.out b (Hp.sg_in ⟨hb, .slice va H.sealed.length vc, ws, .slice da H.odgs.length dc, .slice ga H.osegs.length gc⟩ e))
                · exact HPF.out b e
        refine ⟨fb + 1 + 1, ⟨jb, bx, mb, svOf ws, .slice ga H.osegs.length gc, ba3, cap3, bs3, p6, rj, dr, E, fb + 1⟩, rfl, ⟨?_, HJ3.out.off (ba := ba3) (bs := bs3) hall hnk, pd_off HP3.out hall (fun k hk => hnk k (kf_pd hk)), hwi.off ho (fun k hk e => ?_), hwe, ?_, HRI.out, fun k hk hw => ?_, ⟨fun hm => ?_, fun hm => ?_, by simp⟩, ⟨fun hm => ?_, fun hm => ?_⟩⟩, rfl, fun b hb' => ?_, ?_⟩
        · show Sits _ _ _ #[_, _, _, _, _, _, _, _, .int .i64 (hend H).onum, _, _, _, _]
          rw [HONE.out]
          exact hX7
        · have := hfr k hk
          rw [List.mem_singleton] at e
          omega
        · obtain ⟨n, hm⟩ := HMF.out
          exact ⟨n, map_off (map_off hm (Off.of_below (F := []) hb6) (by simp)) ho (by simp)⟩
        · have h1 := hkl k hk
          have h2 := hfr k hw
          omega
        · have := hkl _ hm
          omega
        · have := hfr _ hm
          omega
        · have h1 : fb + 1 < w3.heap.size := hkl _ hm
          omega
        · have h1 : wr.heap.size ≤ fb + 1 := hfr _ hm
          omega
        · rcases List.mem_cons.1 hb' with e | e
          · exact Or.inr (by omega)
          · rcases List.mem_cons.1 e with e | e
            · have e' : b = fb + 1 := e
              exact Or.inr (by omega)
            · rcases List.mem_append.1 e with e | e
              · exact hnew b e
              · have h1 : wr.heap.size ≤ b := hfr b e
                exact Or.inr (by omega)
        · exact off_trans HO3.out (fun b hb' => Or.inr (by simp at hb'; omega)) hall)
      clear hfo
      go_wp2_with fail
      clear HCK HP HN HN2 HN3 HB1 HB2 HJ3 HB5 HBE HFB HZ5 HX5 HM5 HF5 HN5 HA5 HOP HPF HNE HJB HZ2 HO3 HP3 HMF HRI HON HONE HNM HXM HFM HCM HDW HWU HWL HWI HDS
      refine region_C (fun W => Below wr.heap.size wr W) 14 (by kernel_rfl) (Below.refl _ _) (fun W h => h.drew) ?_
      intro wd hwd hheap
      have HWR := hide hwd
      clear hwd hheap
      refine take_C (i := 0) (v := .pointer (some ⟨fb + 1 + 1, 0, none⟩)) rfl (by decide) (by kernel_rfl) (by kernel_rfl) (by kernel_rfl) (by kernel_rfl) (fun _ _ _ h => h) (Or.inl ⟨by rfl, by intro W hW; have k1 := G1.out W hW; have k2 := G2.out W hW; obtain ⟨b0, b1, b2, b3, b4, b5⟩ := GC.out W hW; go_simp⟩) HWR.out ?_
      refine take_C (i := 1) (v := .pointer (some ⟨fb, 1, none⟩)) rfl (by decide) (by kernel_rfl) (by kernel_rfl) (by kernel_rfl) (by kernel_rfl) (fun _ _ _ h => h) (Or.inl ⟨by rfl, by intro W hW; have k1 := G1.out W hW; have k2 := G2.out W hW; obtain ⟨b0, b1, b2, b3, b4, b5⟩ := GC.out W hW; go_simp⟩) HWR.out ?_
      refine take_C (i := 2) (v := .pointer (some ⟨fb, 1, none⟩)) rfl (by decide) (by kernel_rfl) (by kernel_rfl) (by kernel_rfl) (by kernel_rfl) (fun _ _ _ h => h) (Or.inl ⟨by rfl, by intro W hW; have k1 := G1.out W hW; have k2 := G2.out W hW; obtain ⟨b0, b1, b2, b3, b4, b5⟩ := GC.out W hW; go_simp⟩) HWR.out ?_
      refine take_C (i := 3) (v := .int .i64 on) rfl (by decide) (by kernel_rfl) (by kernel_rfl) (by kernel_rfl) (by kernel_rfl) (fun _ _ _ h => h) (Or.inl ⟨by rfl, by intro W hW; have k1 := G1.out W hW; have k2 := G2.out W hW; obtain ⟨b0, b1, b2, b3, b4, b5⟩ := GC.out W hW; go_simp⟩) HWR.out ?_
      refine take_C (i := 4) (v := .pointer (some ⟨fb, 1, none⟩)) rfl (by decide) (by kernel_rfl) (by kernel_rfl) (by kernel_rfl) (by kernel_rfl) (fun _ _ _ h => h) (Or.inl ⟨by rfl, by intro W hW; have k1 := G1.out W hW; have k2 := G2.out W hW; obtain ⟨b0, b1, b2, b3, b4, b5⟩ := GC.out W hW; go_simp⟩) HWR.out ?_
      refine take_C (i := 5) (v := .pointer (some ⟨fb, 2, none⟩)) rfl (by decide) (by kernel_rfl) (by kernel_rfl) (by kernel_rfl) (by kernel_rfl) (fun _ _ _ h => h) (Or.inl ⟨by rfl, by intro W hW; have k1 := G1.out W hW; have k2 := G2.out W hW; obtain ⟨b0, b1, b2, b3, b4, b5⟩ := GC.out W hW; go_simp⟩) HWR.out ?_
      refine take_C (i := 6) (v := .slice da H.odgs.length dc) rfl (by decide) (by kernel_rfl) (by kernel_rfl) (by kernel_rfl) (by kernel_rfl) (fun _ _ _ h => h) (Or.inl ⟨by rfl, by intro W hW; have k1 := G1.out W hW; have k2 := G2.out W hW; obtain ⟨b0, b1, b2, b3, b4, b5⟩ := GC.out W hW; go_simp⟩) HWR.out ?_
      refine take_C (i := 7) (v := .int .i64 (H.odgs.length : Int)) rfl (by decide) (by kernel_rfl) (by kernel_rfl) (by kernel_rfl) (by kernel_rfl) (fun _ _ _ h => h) (Or.inl ⟨by rfl, by intro W hW; have k1 := G1.out W hW; have k2 := G2.out W hW; obtain ⟨b0, b1, b2, b3, b4, b5⟩ := GC.out W hW; go_simp⟩) HWR.out ?_
      refine take_C (i := 8) (v := .agg #[.int .i64 (c 0), .int .i64 (c 1), .int .i64 (c 2), .int .i64 (c 3), .int .i64 (c 4), .int .i64 (c 5)]) rfl (by decide) (by kernel_rfl) (by kernel_rfl) (by kernel_rfl) (by kernel_rfl) (fun _ _ _ h => h) (Or.inl ⟨by rfl, by intro W hW; have k1 := G1.out W hW; have k2 := G2.out W hW; obtain ⟨b0, b1, b2, b3, b4, b5⟩ := GC.out W hW; go_simp⟩) HWR.out ?_
      refine take_C (i := 9) (v := .pointer (some ⟨fb, 1, none⟩)) rfl (by decide) (by kernel_rfl) (by kernel_rfl) (by kernel_rfl) (by kernel_rfl) (fun _ _ _ h => h) (Or.inl ⟨by rfl, by intro W hW; have k1 := G1.out W hW; have k2 := G2.out W hW; obtain ⟨b0, b1, b2, b3, b4, b5⟩ := GC.out W hW; go_simp⟩) HWR.out ?_
      refine take_C (i := 10) (v := .pointer (some ⟨fb, 2, none⟩)) rfl (by decide) (by kernel_rfl) (by kernel_rfl) (by kernel_rfl) (by kernel_rfl) (fun _ _ _ h => h) (Or.inl ⟨by rfl, by intro W hW; have k1 := G1.out W hW; have k2 := G2.out W hW; obtain ⟨b0, b1, b2, b3, b4, b5⟩ := GC.out W hW; go_simp⟩) HWR.out ?_
      refine take_C (i := 11) (v := .slice da H.odgs.length dc) rfl (by decide) (by kernel_rfl) (by kernel_rfl) (by kernel_rfl) (by kernel_rfl) (fun _ _ _ h => h) (Or.inl ⟨by rfl, by intro W hW; have k1 := G1.out W hW; have k2 := G2.out W hW; obtain ⟨b0, b1, b2, b3, b4, b5⟩ := GC.out W hW; go_simp⟩) HWR.out ?_
      refine one_C (j := 12) (by kernel_rfl) rfl (fun K hK => ?_)
      go_simp
      have hsu := HD.out.summed c HC.out (.slice da H.odgs.length dc) wd (own_keep HAR.out.dv HWR.out)
      unfold cfg at hsu
      refine hsu.mono ?_
      clear hsu
      rintro e w6 ⟨p6, rj6, dr6, E6, rfl, hwi, hwe, hfr, hb6⟩
      have HB6 := hide (show Below wr.heap.size wr w6 from HWR.out.trans (hb6.mono HWR.out.size))
      have HW6 := hide hwi
      have HWE := hide hwe
      have HFR := hide (show ∀ x ∈ wfoot p6 E6, wr.heap.size ≤ x from fun x hx => Nat.le_trans HWR.out.size (hfr x hx))
      have hx6 := Mem.Sits.below HXR.out HB6.out HXR.out.lt
      have e8 := hx6.cell 8 _ rfl
      have h8 := hx6.frozen 8
      have hx7 := hx6.set 8 (.int .i64 on)
      have e9 := hx7.cell 9 _ rfl
      have h9 := hx7.frozen 9
      have hx8 := hx7.set 9 (.int .i64 (H.odgs.length : Int))
      have e10 := hx8.cell 10 _ rfl
      have h10 := hx8.frozen 10
      clear hwi hwe hfr hb6 hx6 hx7 hx8
      refine hK _ _ (fun _ => HB6.out) ?_
      clear hK K
      refine one_C (j := 13) (by kernel_rfl) rfl (fun K hK => ?_)
      go_simp
      refine hK _ _ (fun _ => HB6.out) ?_
      clear hK K
      refine one_C (j := 14) (by kernel_rfl) rfl (fun K hK => ?_)
      go_simp
      refine hK _ _ (fun h => absurd h (by decide)) ?_
      clear hK K
      refine one_C (j := 15) (by kernel_rfl) rfl (fun K hK => ?_)
      go_simp
      refine hK _ _ (fun h => absurd h (by decide)) ?_
      clear hK K
      refine one_C (j := 16) (by kernel_rfl) rfl (fun K hK => ?_)
      go_simp
      refine hK _ _ (fun h => absurd h (by decide)) ?_
      clear hK K
      refine done_C (by kernel_rfl) ?_ _
      go_wp2_with fail
      refine bodyPost_ret (results_tmp2 rfl _ _ _) rfl ?_
      exact FIN.out _ _ _ _ _ HW6.out HWE.out HFR.out HB6.out
end Go.Proofs.YtmkidefdegaamaaGreatDoor.Dd
namespace Go.Proofs.YtmkidefdegaamaaGreatDoor.Jr
open Bytes Im Dm
theorem hent_ne (seg : Int) (l : List Int) : hent seg l ≠ [] := by
  unfold hent
  split
  · rename_i h
    intro e
    rw [e] at h
    cases h
  · simp
theorem opened {h : Hs} {l : List Et} (h0 : h.odgs ≠ [] → h.osegs ≠ []) : (hfold h l).odgs ≠ [] → (hfold h l).osegs ≠ [] := by
  induction l generalizing h with
  | nil => exact h0
  | cons y l ih =>
    refine ih (h := hnext h y) fun hd => ?_
    have hd' : (htk h y.1.1 y.2).odgs ≠ [] := hd
    show (htk h y.1.1 y.2).osegs ≠ []
    unfold htk at hd' ⊢
    split
    · simp
    · rename_i hk
      rw [if_neg hk] at hd'
      split
      · rename_i hs
        rw [if_pos hs] at hd'
        exact absurd rfl hd'
      · exact hent_ne _ _
/-- How many bytes records have. -/
def tsz (R : List (Int × List Rc)) : Nat := (R.map fun p => (stx p.2).length).sum
theorem used_txs {R : List (Int × List Rc)} {l : List Seg} (h : l.map view = txs R) : Dm.used l = tsz R := by
  have h1 := congrArg (List.map fun x : Int × Bs => x.2.length) h
  unfold txs at h1
  rw [List.map_map, List.map_map] at h1
  have h2 : l.map (·.text.size) = l.map ((fun x : Int × Bs => x.2.length) ∘ view) := List.map_congr_left fun s _ => size_B s.text
  unfold Dm.used tsz
  rw [h2, h1]
  rfl
theorem stx_len (rs : List Rc) : rs.length ≤ (stx rs).length := by
  induction rs with
  | nil => exact Nat.le_refl _
  | cons r rs ih =>
    have h1 : stx (r :: rs) = r.tx ++ stx rs := rfl
    have h2 := tx_pos r
    rw [h1, List.length_append, List.length_cons]
    omega
theorem ents1_len (n : Int) (z : Nat) (l : List Rc) : (ents1 n z l).length = l.length := by
  induction l generalizing z with
  | nil => rfl
  | cons r l ih => simp [ents1, ih]
theorem ents_len (R : List (Int × List Rc)) : (ents R).length ≤ tsz R := by
  induction R with
  | nil => exact Nat.le_refl _
  | cons p R ih =>
    have h1 : ents (p :: R) = ents1 p.1 0 p.2 ++ ents R := rfl
    have h2 : tsz (p :: R) = (stx p.2).length + tsz R := by simp [tsz]
    rw [h1, h2, List.length_append, ents1_len]
    have := stx_len p.2
    omega
/-- The last place lies on the disk. -/
theorem end_in {R : List (Int × List Rc)} (hne : ∀ p ∈ R, p.2 ≠ []) : ((hfold hs0 (ents R)).es = -1 ∧ (hfold hs0 (ents R)).ez = 0) ∨ ∃ p ∈ R, (hfold hs0 (ents R)).es = p.1 ∧ (hfold hs0 (ents R)).ez = ((stx p.2).length : Int) := by
  rcases List.eq_nil_or_concat R with rfl | ⟨R', p, e⟩
  · exact Or.inl ⟨rfl, rfl⟩
  · rw [List.concat_eq_append] at e
    obtain ⟨m, ms⟩ := p
    subst e
    have he := end_all R' m ms (hne (m, ms) (by simp))
    exact Or.inr ⟨(m, ms), by simp, he.1, he.2⟩
theorem tsz_mem {R : List (Int × List Rc)} {p : Int × List Rc} (h : p ∈ R) : (stx p.2).length ≤ tsz R := by
  induction R with
  | nil => cases h
  | cons q R ih =>
    have h2 : tsz (q :: R) = (stx q.2).length + tsz R := by simp [tsz]
    rcases List.mem_cons.1 h with e | h
    · rw [h2, e]
      omega
    · have := ih h
      omega
end Go.Proofs.YtmkidefdegaamaaGreatDoor.Jr
namespace Go.Proofs.YtmkidefdegaamaaGreatDoor.Dd
open Go.RowKit Bytes Im Wm Dm Jr Sk Mem Foot Wi Kr
/-- A daemon, and what its disk's records tell. -/
structure DK (D : Dn) (R : List (Int × List Rc)) (b : List Rc) (H : Hs) (n : Nat) : Prop where
  ok : DOk D (H.odgs.map B) n
  kd : Kd D.J D.S R b H
  num : H.odgs ≠ [] → H.onum = D.num
  due : D.due = dueOf D.c H.sealed
  dg : ∀ s ∈ H.sealed, DgOk s.2.1
  most : D.J.most = D.c 5
theorem DK.bnd {D : Dn} {R : List (Int × List Rc)} {b : List Rc} {H : Hs} {n : Nat} (h : DK D R b H n) : Bnd H := by
  have h1 := bnd0.all h.kd.cl
  rw [h.kd.is] at h1
  exact h1
theorem DK.tsz {D : Dn} {R : List (Int × List Rc)} {b : List Rc} {H : Hs} {n : Nat} (h : DK D R b H n) : Dm.used D.S.segs = Jr.tsz R := used_txs h.kd.seg.segs
theorem DK.dgok {D : Dn} {R : List (Int × List Rc)} {b : List Rc} {H : Hs} {n : Nat} (h : DK D R b H n) (hn : n ≤ 100000000) : DgOk H.odgs := by
  refine ⟨fun d hd => ?_, ?_, ?_⟩
  · have h1 := h.ok.short (B d) (List.mem_map_of_mem hd)
    rw [← size_B] at h1
    omega
  · have := h.ok.lines
    omega
  · have := h.ok.len
    rw [List.length_map] at this
    omega
/-- A datagram taken. -/
theorem DK.write {D : Dn} {R : List (Int × List Rc)} {b : List Rc} {H : Hs} {n : Nat} (h : DK D R b H n) (hn : n ≤ 100000000) {s : ByteArray} (hs : s.size ≤ 256) :
    ∃ R' b' H', DK (dwrite D s) R' b' H' (n + s.size + 1) ∧ H'.odgs = H.odgs ++ [s] ∧ H'.sealed = H.sealed ∧ H'.g = H.g ∧ (ents R).length - b.length ≤ (ents R').length - b'.length := by
  have h1 := (h.ok.write hn hs).1
  have hg := h.ok.great
  have hm := h.ok.num
  obtain ⟨J', S', R', b', H', e, k, a1, a2, a3, a4, _, a6, _⟩ := h.kd.write (by have := h.ok.next; omega) ⟨hg.1, by omega⟩ D.num s ⟨Or.inl rfl, hm.1, hm.2, by show s.size ≤ 1000000; omega⟩ (by rw [h.kd.g]; exact hg.2)
    (Classical.byCases (fun e : H.odgs = [] => Or.inl e) fun e => Or.inr (h.num e).symm) (fun e => Classical.byContradiction fun hne => h.ok.opn (by
      rw [h.ok.cnt, List.length_map]
      exact List.length_pos_iff.2 hne) e)
  have hmo : J'.most = D.J.most := by
    obtain ⟨J2, S2, e2, _, _, _, _, _, e3, _⟩ := h.kd.seg.calm.write (by have := h.ok.next; omega) D.num s
    rw [e] at e2
    injection e2 with e2 _
    rw [e2]
    exact e3
  refine ⟨R', b', H', ⟨?_, ?_, fun _ => a2, ?_, by rw [a3]; exact h.dg, ?_⟩, a1, a3, a4, a6⟩
  · rw [a1, List.map_append]
    exact h1
  · show Kd (jwrite D.J D.S D.num s).1 (jwrite D.J D.S D.num s).2.1 R' b' H'
    rw [e]
    exact k
  · rw [a3]
    exact h.due
  · show (jwrite D.J D.S D.num s).1.most = D.c 5
    rw [e]
    exact hmo.trans h.most
theorem DK.tick {D : Dn} {R : List (Int × List Rc)} {b : List Rc} {H : Hs} {n : Nat} (h : DK D R b H n) {t : Int} (h0 : 0 ≤ t) (h1 : t ≤ 1000000000) : DK { D with clock := t } R b H n :=
  ⟨{ h.ok with clk := ⟨h0, h1⟩ }, h.kd, h.num, h.due, h.dg, h.most⟩
/-- The clock within the open window. -/
theorem DK.stay {D : Dn} {R : List (Int × List Rc)} {b : List Rc} {H : Hs} {n : Nat} (h : DK D R b H n) {t : Int} (h0 : 0 ≤ t) (h1 : t ≤ 1000000000) (hq : t / D.c 0 ≤ D.num) : DK (dclock D t) R b H n ∧ dclock D t = { D with clock := t } := by
  have he : dclock D t = { D with clock := t } := by
    unfold dclock dturn
    exact if_pos hq
  rw [he]
  exact ⟨h.tick h0 h1, rfl⟩
/-- The open window sealed. -/
theorem DK.turn {D : Dn} {R : List (Int × List Rc)} {b : List Rc} {H : Hs} {n : Nat} (h : DK D R b H n) (hn : n ≤ 100000000) {t : Int} (h0 : 0 ≤ t) (h1 : t ≤ 1000000000) (hq : D.num < t / D.c 0) (hod : H.odgs ≠ []) :
    ∃ R' H', DK (dclock D t) R' [] H' (n + 1) ∧ H'.odgs = [] ∧ H'.osegs = [] ∧ H'.g = D.num ∧ (∃ o, H'.sealed = H.sealed ++ [(D.num, H.odgs, o)]) ∧ (dclock D t).num = t / D.c 0 ∧ (dclock D t).clock = t ∧ (dclock D t).c = D.c := by
  have hT := h.tick h0 h1
  have hcnt : 0 < D.count := by
    rw [h.ok.cnt, List.length_map]
    exact List.length_pos_iff.2 hod
  have hon := h.num hod
  have hm := h.ok.num
  have hdo := h.dgok hn
  have he : dclock D t = { D with clock := t, J := (jseal D.J D.S D.num).1, S := (jseal D.J D.S D.num).2.1, due := insM ⟨D.num, dtext D⟩ D.due, num := t / D.c 0, count := 0, W := win0 } := by
    unfold dclock dturn
    rw [if_neg (show ¬ t / D.c 0 ≤ D.num by omega), if_pos hcnt]
    rfl
  have hok := hT.ok.turn.1
  rw [if_neg (show ¬ t / D.c 0 ≤ D.num by omega)] at hok
  have hlt : ∀ p ∈ D.J.sealed, p.1 < H.onum := fun p hp => by
    have h2 : p.1 ∈ D.due.map (·.k) := by
      rw [← h.ok.keys]
      exact List.mem_map_of_mem hp
    obtain ⟨m, hm', e⟩ := List.mem_map.1 h2
    rw [← e, hon]
    exact h.ok.lt m hm'
  obtain ⟨J', S', R', H', e, k, a1, a2, a3, a4, _, a6, _⟩ := h.kd.seal (h.ok.opn hcnt) hod (by rw [hon]; exact hm) hlt
  rw [hon] at e a1 a4
  have hmo : J'.most = D.J.most := by
    obtain ⟨J2, S2, e2, _, _, _, _, _, e3, _⟩ := h.kd.seg.calm.seal (h.ok.opn hcnt) (win := D.num) (fun hm' => by
      obtain ⟨p, hp, e⟩ := List.mem_map.1 hm'
      have := hlt p hp
      omega)
    rw [e] at e2
    injection e2 with e2 _
    rw [e2]
    exact e3
  have hdu : insM ⟨D.num, dtext D⟩ D.due = dueOf D.c H'.sealed := by
    rw [insM_end fun x hx => h.ok.lt x hx, a1, h.due]
    unfold dueOf
    rw [List.map_append]
    congr 1
    unfold dtext
    rw [h.ok.win]
    rfl
  refine ⟨R', H', ⟨by rw [a2]; exact hok, ?_, fun e => absurd a2 e, ?_, fun s hs => ?_, ?_⟩, a2, ?_, a4, ⟨_, a1⟩, ?_, ?_, ?_⟩
  · rw [he]
    show Kd (jseal D.J D.S D.num).1 (jseal D.J D.S D.num).2.1 R' [] H'
    rw [e]
    exact k
  · rw [he]
    exact hdu
  · rw [a1] at hs
    rcases List.mem_append.1 hs with hs | hs
    · exact h.dg s hs
    · rw [List.mem_singleton.1 hs]
      exact hdo
  · rw [he]
    show (jseal D.J D.S D.num).1.most = D.c 5
    rw [e]
    exact hmo.trans h.most
  · rw [k.opn]
    exact a6
  · rw [he]
  · rw [he]
  · rw [he]
end Go.Proofs.YtmkidefdegaamaaGreatDoor.Dd
namespace Go.Proofs.YtmkidefdegaamaaGreatDoor.Dd
open Go.RowKit Bytes Im Wm Dm Jr Sk Mem Foot Wi Kr
theorem calm0 (m : Int) : Jcalm (J0 m) Dm.fresh := by
  exact ⟨rfl, rfl, good_fresh, List.Perm.refl _, fun n hn => (by cases hn), Int.le_refl _, fun h => absurd rfl h⟩
theorem dok0 (c : Fin 6 → Int) (hc : COk c) : DOk (D0 c Dm.fresh) [] 0 where
  cok := hc
  calm := calm0 _
  clk := ⟨Int.le_refl _, by show (0 : Int) ≤ 1000000000; omega⟩
  num := ⟨Int.le_refl _, by show (0 : Int) ≤ 1000000000; omega⟩
  cnt := rfl
  win := rfl
  keys := rfl
  lt := fun m hm => by cases hm
  low := fun m hm => by cases hm
  rise := List.Pairwise.nil
  great := ⟨Int.le_refl _, by show (-1 : Int) < 0; omega⟩
  opn := fun h => absurd h (by show ¬ (0 : Nat) < 0; omega)
  free := fun _ => Or.inl rfl
  spent := rfl
  next := Int.le_refl _
  segs := Nat.le_refl _
  used := Nat.le_refl _
  dues := Nat.le_refl _
  sz := Nat.le_refl _
  len := Nat.le_refl _
  lines := Nat.le_refl _
  short := fun d hd => by cases hd
/-- A daemon that has just begun. -/
theorem dk0 (c : Fin 6 → Int) (hc : COk c) : DK (D0 c Dm.fresh) [] [] hs0 0 :=
  ⟨dok0 c hc, Kd.new (calm0 _) rfl rfl rfl rfl, fun e => absurd rfl e, rfl, fun s hs => (by cases hs), rfl⟩
theorem due_keys (c : Fin 6 → Int) (l : List (Int × List ByteArray × List Int)) : (dueOf c l).map (·.k) = l.map (·.1) := by
  unfold dueOf
  rw [List.map_map]
  rfl
/-- Bounds of what was found. -/
structure Sm (R : List (Int × List Rc)) (H : Hs) (n : Nat) : Prop where
  es : -1 ≤ H.es ∧ H.es + 1 ≤ n
  ez : 0 ≤ H.ez ∧ H.ez ≤ 500 * n
  segs : R.length ≤ n
  tsz : Jr.tsz R ≤ 500 * n
  dues : H.sealed.length ≤ n
  len : H.odgs.length ≤ n
  lines : nls (H.odgs.map B) ≤ n
  short : ∀ d ∈ H.odgs, d.size ≤ 256
  free : H.odgs = [] → H.osegs = []
  top : H.odgs = [] → H.g < 1000000000
theorem Sm.hbd {R : List (Int × List Rc)} {H : Hs} {n : Nat} (h : Sm R H n) (hb : Bnd H) (hn : n ≤ 100000000) : HBd H := by
  have h1 := h.es
  have h2 := h.ez
  have h3 := hb.g
  exact ⟨⟨h3.2, h3.1⟩, ⟨by omega, by omega⟩, ⟨h2.1, by omega⟩, hb.up, fun s hs => ⟨(hb.sn s hs).1, Int.le_trans (hb.sn s hs).2 h3.2⟩⟩
theorem hend_num {H : Hs} (hb : Bnd H) (ht : H.odgs = [] → H.g < 1000000000) : H.g < (hend H).onum ∧ (hend H).onum ≤ 1000000000 ∧ (H.odgs ≠ [] → (hend H).onum = H.onum) ∧ (H.odgs = [] → (hend H).onum = H.g + 1) := by
  have hg := hb.g
  by_cases e : H.odgs = []
  · have h1 : (hend H).onum = H.g + 1 := by unfold hend; rw [if_pos e]
    have := ht e
    exact ⟨by omega, by omega, fun h => absurd e h, fun _ => h1⟩
  · have h1 : (hend H).onum = H.onum := by unfold hend; rw [if_neg e]
    have := hb.opn e
    exact ⟨by omega, by omega, fun _ => h1, fun h => absurd h e⟩
theorem dk_of {c : Fin 6 → Int} {S S' : Dk} {R : List (Int × List Rc)} {H : Hs} {n : Nat} (hc : COk c) (kd : Kd (Jof (c 5) H) S' R [] H) (hS : tidE (husd H) H.es H.ez (sgs S) S = S') (sm : Sm R H n) (hdg : ∀ s ∈ H.sealed, DgOk s.2.1) : DK (Dof c S H) R [] H n := by
  have hb : Bnd H := by
    have h1 := bnd0.all kd.cl
    rw [kd.is] at h1
    exact h1
  have hon := hend_num hb sm.top
  have hg := hb.g
  have hop : H.odgs ≠ [] → H.osegs ≠ [] := by
    have h1 := opened (h := hs0) (l := ents R) (fun e => absurd rfl e)
    rw [kd.is] at h1
    exact h1
  have h0 : 0 ≤ (hend H).onum := by omega
  refine ⟨⟨hc, ?_, ⟨Int.le_refl _, by show (0 : Int) ≤ 1000000000; omega⟩, ⟨h0, hon.2.1⟩, ?_, rfl, ?_, fun m hm => ?_, fun m hm => ?_, ?_, ⟨hg.1, hon.1⟩, fun hp => ?_, fun hp => ?_, rfl, sm.es.2, ?_, ?_, ?_, ?_, ?_, sm.lines, fun d hd => ?_⟩, ?_, fun e => (hon.2.2.1 e).symm, rfl, hdg, rfl⟩
  · show Jcalm (Jof (c 5) H) (tidE (husd H) H.es H.ez (sgs S) S)
    rw [hS]
    exact kd.seg.calm
  · show H.odgs.length = _
    rw [List.length_map]
  · show (H.sealed.map fun s => (s.1, s.2.2)).map (·.1) = (dueOf c H.sealed).map (·.k)
    rw [due_keys, List.map_map]
    rfl
  · have h1 : m.k ∈ (dueOf c H.sealed).map (·.k) := List.mem_map_of_mem hm
    rw [due_keys] at h1
    obtain ⟨s, hs, e⟩ := List.mem_map.1 h1
    have h2 := hb.sn s hs
    have h3 := hon.1
    show m.k < (hend H).onum
    omega
  · have h1 : m.k ∈ (dueOf c H.sealed).map (·.k) := List.mem_map_of_mem hm
    rw [due_keys] at h1
    obtain ⟨s, hs, e⟩ := List.mem_map.1 h1
    have h2 := hb.sn s hs
    omega
  · show (dueOf c H.sealed).Pairwise fun a b => a.k < b.k
    have h1 := hb.up
    rw [← due_keys c, List.pairwise_map] at h1
    exact h1
  · have hp' : 0 < H.odgs.length := hp
    exact hop (List.length_pos_iff.1 hp')
  · have hp' : H.odgs.length = 0 := hp
    exact Or.inl (sm.free (List.length_eq_zero_iff.1 hp'))
  · show (tidE (husd H) H.es H.ez (sgs S) S).segs.length ≤ n
    rw [hS]
    have h1 := congrArg List.length kd.seg.segs
    rw [List.length_map, List.length_map] at h1
    rw [h1]
    exact sm.segs
  · show Dm.used (tidE (husd H) H.es H.ez (sgs S) S).segs ≤ 500 * n
    rw [hS, used_txs kd.seg.segs]
    exact sm.tsz
  · show (dueOf c H.sealed).length ≤ n
    unfold dueOf
    rw [List.length_map]
    exact sm.dues
  · show H.ez.toNat + 0 ≤ 500 * n
    have := sm.ez
    omega
  · rw [List.length_map]
    exact sm.len
  · obtain ⟨s, hs, rfl⟩ := List.mem_map.1 hd
    rw [← size_B]
    exact sm.short s hs
  · show Kd (Jof (c 5) H) (tidE (husd H) H.es H.ez (sgs S) S) R [] H
    rw [hS]
    exact kd
theorem DK.ends {D : Dn} {R : List (Int × List Rc)} {b : List Rc} {H : Hs} {n : Nat} (h : DK D R b H n) : ∀ p ∈ R, 0 ≤ p.1 ∧ p.1 < D.J.next ∧ (stx p.2).length ≤ 500 * n := fun p hp => by
  have h1 : p.1 ∈ D.S.segs.map (·.num) := by
    rw [h.kd.seg.nums]
    exact List.mem_map_of_mem hp
  have h2 := h.kd.seg.calm.below p.1 h1
  obtain ⟨s, hs, e⟩ := List.mem_map.1 h1
  have h3 := (h.kd.seg.calm.good.num s hs).1
  have h4 := tsz_mem hp
  rw [← h.tsz] at h4
  have h5 := h.ok.used
  exact ⟨by omega, h2, by omega⟩
theorem DK.len {D : Dn} {R : List (Int × List Rc)} {b : List Rc} {H : Hs} {n : Nat} (h : DK D R b H n) : R.length = D.S.segs.length := by
  have h1 := congrArg List.length h.kd.seg.segs
  rw [List.length_map, List.length_map] at h1
  exact h1.symm
theorem DK.small {D : Dn} {R : List (Int × List Rc)} {b : List Rc} {H : Hs} {n : Nat} (h : DK D R b H n) (hfr : H.odgs = [] → H.osegs = []) (hg : H.odgs = [] → H.g < 1000000000) : Sm R H n := by
  have he := end_in h.kd.ne
  rw [h.kd.is] at he
  have hnx := h.ok.next
  have h0 := h.kd.seg.calm.next0
  have hl := h.ok.len
  rw [List.length_map] at hl
  refine ⟨?_, ?_, by rw [h.len]; exact h.ok.segs, by rw [← h.tsz]; exact h.ok.used, ?_, hl, h.ok.lines, fun d hd => ?_, hfr, hg⟩
  · rcases he with ⟨e, _⟩ | ⟨p, hp, e, _⟩
    · omega
    · have := h.ends p hp
      omega
  · rcases he with ⟨_, e⟩ | ⟨p, hp, _, e⟩
    · omega
    · have := h.ends p hp
      omega
  · have h1 := h.ok.dues
    rw [h.due] at h1
    unfold dueOf at h1
    rw [List.length_map] at h1
    exact h1
  · have h1 := h.ok.short (B d) (List.mem_map_of_mem hd)
    rw [← size_B] at h1
    exact h1
theorem DK.text {D : Dn} {R : List (Int × List Rc)} {b : List Rc} {H : Hs} {n : Nat} (h : DK D R b H n) (hn : n ≤ 100000000) : ∀ s ∈ D.S.segs, s.text.size ≤ 140737488355328 := fun s hs => by
  have h1 := used_mem hs
  have h2 := h.ok.used
  omega
/-- The power fails where all is synced, and a daemon is started. -/
theorem DK.whole {D : Dn} {R : List (Int × List Rc)} {H : Hs} {n : Nat} (h : DK D R [] H n) (hn : n ≤ 1500000) (hfr : H.odgs = [] → H.osegs = []) (hg : H.odgs = [] → H.g < 1000000000) (t : Int) :
    doCrash D.S t = D.S ∧ OpenOk D.S R H ∧ DK (Dof D.c D.S H) R [] H n := by
  have sm := h.small hfr hg
  have hcl := h.kd.cl
  have his := h.kd.is
  obtain ⟨hcr, htd⟩ := h.kd.whole t
  have hz := h.text (by omega)
  have hopn := htd.opens h.kd.ne hcl h.kd.seg.rise hz (by
    have h1 := ents_len R
    have h2 := sm.tsz
    omega) (by have := h.ok.segs; omega) (by rw [his]; exact sm.hbd h.bnd (by omega))
  have hkd := htd.kd h.kd.ne hcl h.kd.seg.rise (D.c 5)
  have hti := (htd.tidy h.kd.ne hcl h.kd.seg.rise).2
  rw [his] at hopn hkd hti
  exact ⟨hcr, hopn, dk_of h.ok.cok hkd hti sm h.dg⟩
theorem nls_take (ds : List Im.Bs) (k : Nat) : nls (ds.take k) ≤ nls ds := by
  have h1 := nls_append (ds.take k) (ds.drop k)
  rw [List.take_append_drop] at h1
  omega
end Go.Proofs.YtmkidefdegaamaaGreatDoor.Dd
namespace Go.Proofs.YtmkidefdegaamaaGreatDoor.Dd
open Go.RowKit Bytes Im Wm Dm Jr Sk Mem Foot Wi Kr
/-- How much datagrams weigh. -/
def wt (l : List ByteArray) : Nat := (l.map fun t => t.size + 1).sum
/-- The text of a window. -/
noncomputable def tx (p : Fin 6 → Int) (n : Int) (l : List ByteArray) : ByteArray := ⟨(wtext n (wsum (limOf p) (l.map B))).toArray⟩
end Go.Proofs.YtmkidefdegaamaaGreatDoor.Dd
namespace Go.Proofs.YtmkidefdegaamaaGreatDoor.Jr
open Bytes Im Dm
theorem turn_end {l : List Seg} {s : Seg} (f : Seg → Seg) (h : ∀ q ∈ l, q.num ≠ s.num) : turn s.num f (l ++ [s]) = l ++ [f s] := by
  unfold turn
  rw [List.map_append]
  congr 1
  · conv => rhs; rw [← List.map_id l]
    exact List.map_congr_left fun q hq => by rw [if_neg (h q hq)]; rfl
  · show [if s.num = s.num then f s else s] = _
    rw [if_pos rfl]
theorem bytes_nil_append (t : ByteArray) : (⟨#[]⟩ : ByteArray) ++ t = t := B_inj (by rw [B_append]; rfl)
/-- A segment more on a new disk. -/
theorem copy_append {l : List Seg} {s : Seg} (hlt : ∀ q ∈ l, q.num < s.num) (h0 : 0 ≤ s.num) : doAppend ⟨l, -1, -1⟩ s.num s.text = (⟨l ++ [⟨s.num, s.text, 0⟩], -1, -1⟩, 0) := by
  rw [append_calm rfl rfl h0, ensure_end hlt, turn_end (s := ⟨s.num, ⟨#[]⟩, 0⟩) _ (fun q hq => by have := hlt q hq; show q.num ≠ s.num; omega)]
  show ((⟨l ++ [⟨s.num, (⟨#[]⟩ : ByteArray) ++ s.text, 0⟩], -1, -1⟩ : Dk), (0 : Int)) = _
  rw [bytes_nil_append]
theorem copy_sync {l : List Seg} {s : Seg} (hlt : ∀ q ∈ l, q.num < s.num) : doSync ⟨l ++ [⟨s.num, s.text, 0⟩], -1, -1⟩ s.num = (⟨l ++ [⟨s.num, s.text, s.text.size⟩], -1, -1⟩, 0) := by
  have hat : (l ++ [(⟨s.num, s.text, 0⟩ : Seg)])[l.length]? = some ⟨s.num, s.text, 0⟩ := List.getElem?_concat_length
  have hpl : place s.num (l ++ [(⟨s.num, s.text, 0⟩ : Seg)]) = some l.length := place_at (fun j t hj ht => by
    rw [List.getElem?_append_left hj] at ht
    have := hlt t (List.mem_of_getElem? ht)
    omega) hat rfl
  unfold doSync
  rw [if_neg (show ¬ (-1 : Int) = 0 by decide), hpl]
  simp only
  rw [turn_end (s := ⟨s.num, s.text, 0⟩) _ (fun q hq => by have := hlt q hq; show q.num ≠ s.num; omega)]
  rfl
end Go.Proofs.YtmkidefdegaamaaGreatDoor.Jr
namespace Go.Proofs.YtmkidefdegaamaaGreatDoor.Jr
open Go.RowKit Go.Maps Mem Foot Bytes Im Wm Hi Plainw Cq Dm Dh Dd
def cut256 (t : ByteArray) : ByteArray := if 256 < t.size then t.extract 0 256 else t
theorem cut256_size (t : ByteArray) : (cut256 t).size ≤ 256 := by
  unfold cut256
  split
  · rw [ByteArray.size_extract]
    omega
  · omega
set_option maxRecDepth 10000 in
set_option maxHeartbeats 2000000 in
theorem shortL (w : World) (va : Option Addr) (vc : Nat) (l : List ByteArray) (h : w.ownsRow 0 9 1 (.slice va l.length vc) l.length (l.map Value.string)) (hl : l.length ≤ 8796093022208) :
    Calls Tryz.prog 8 #[.slice va l.length vc] w fun e w' => ∃ a c, e = .returned (.slice a l.length c) ∧ w'.ownsRow w.heap.size 9 1 (.slice a l.length c) l.length ((l.map cut256).map Value.string) ∧ Below w.heap.size w w' := by
  have HR := hide h
  obtain ⟨i0, hi, hz0, hz1, hz2⟩ := info_parts infoStr
  clear h
  go_enter Tryz.func8, Tryz.ntmps8
  go_wp2_with fail
  go_loopw [3, 4] (fun r s wr => ∃ (k : Nat) (ao : Option Addr) (cv : Nat), r = .slice ao k cv ∧ s = .int .i64 (k : Int) ∧ k ≤ l.length ∧ Hid (wr.ownsRow w.heap.size 9 1 (.slice ao k cv) k (((l.take k).map cut256).map Value.string)) ∧ Hid (Below w.heap.size w wr)) (fun _ s _ => l.length - (intOf s).toNat)
  case atStart => exact ⟨0, none, 0, rfl, rfl, Nat.zero_le _, World.ownsRow_nil _ _ _ _, Below.refl _ _⟩
  case round =>
    obtain ⟨k, ao, cv, rfl, rfl, hk, HO, HBL⟩ := hrel
    by_cases hkl : k < l.length
    · have hkz : (k : Int) < (l.length : Int) := by omega
      obtain ⟨t, ht⟩ : ∃ t, l[k]? = some t := ⟨_, List.getElem?_eq_getElem hkl⟩
      obtain ⟨g, cp, hv, hcap, _, hcell⟩ := row_cell (own_keep HR.out HBL.out) (i := k) (u := .string t) (by rw [List.getElem?_map, ht]; rfl)
      injection hv with e1 e2 e3
      clear e2
      subst e1
      subst e3
      have HTK := hide (show ((l.take k).map cut256).map Value.string ++ [.string (cut256 t)] = ((l.take (k + 1)).map cut256).map Value.string by
        rw [List.take_add_one, ht, List.map_append, List.map_append]
        rfl)
      have hzz := HBL.out.size
      clear ht
      by_cases h256 : 256 < t.size
      · have hc : cut256 t = t.extract 0 256 := by unfold cut256; rw [if_pos h256]
        rw [hc] at HTK
        have hgz : (256 : Int) < (t.size : Int) := by omega
        have HSC := hide (src_val wr (.string (t.extract 0 256)) 9 _ rfl rfl)
        have HOA := hide (HO.out.alloc (.cells #[.string (t.extract 0 256)] 9))
        clear hc
        go_wp2_with (at_builtin; refine Apn.wpList_own _ rfl _ _ 24 rfl w.heap.size 9 i0 (.string ⟨#[]⟩) 1 16 Tryz.underlying24 hi hz0 hz1 hz2 rfl (by decide) _ _ _ rfl HOA.out _ 1 1 [.string (t.extract 0 256)] rfl HSC.out (by unfold maxLen; omega) (by omega) (by simp; omega) ?_; intro v2 w2 hown2 hg2 hn2; obtain ⟨ao2, cv2, rfl⟩ := Own.shape hown2; have HW2 := hide hown2; have HG2 := hide hg2; clear hown2 hg2 hn2)
        go_roundw
        case rel => exact ⟨k + 1, ao2, cv2, rfl, by go_num, by omega, by rw [← HTK.out]; exact HW2.out, Own.below_more HBL.out HBL.out.size HO.out HG2.out⟩
        case measure => simp only [intOf]; omega
      · have hc : cut256 t = t := by unfold cut256; rw [if_neg h256]
        rw [hc] at HTK
        have hgz : ¬ (256 : Int) < (t.size : Int) := by omega
        have HSC := hide (src_val wr (.string t) 9 _ rfl rfl)
        have HOA := hide (HO.out.alloc (.cells #[.string t] 9))
        clear hc
        go_wp2_with (at_builtin; refine Apn.wpList_own _ rfl _ _ 24 rfl w.heap.size 9 i0 (.string ⟨#[]⟩) 1 16 Tryz.underlying24 hi hz0 hz1 hz2 rfl (by decide) _ _ _ rfl HOA.out _ 1 1 [.string t] rfl HSC.out (by unfold maxLen; omega) (by omega) (by simp; omega) ?_; intro v2 w2 hown2 hg2 hn2; obtain ⟨ao2, cv2, rfl⟩ := Own.shape hown2; have HW2 := hide hown2; have HG2 := hide hg2; clear hown2 hg2 hn2)
        go_roundw
        case rel => exact ⟨k + 1, ao2, cv2, rfl, by go_num, by omega, by rw [← HTK.out]; exact HW2.out, Own.below_more HBL.out HBL.out.size HO.out HG2.out⟩
        case measure => simp only [intOf]; omega
    · have hkz : ¬ (k : Int) < (l.length : Int) := by omega
      obtain rfl : k = l.length := by omega
      go_wp2_with fail
      go_ret
      refine ⟨ao, cv, rfl, ?_, HBL.out⟩
      have := HO.out
      rw [List.take_length, List.map_map] at this
      exact this
end Go.Proofs.YtmkidefdegaamaaGreatDoor.Jr
