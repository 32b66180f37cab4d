/- The journal begins a segment. -/
import Derived.Test.YtmkidefdegaamaaGreatDoorJcy
import Derived.Orders
import Derived.Deep.RegionLaw
import Derived.WalkSpells
namespace Go.Proofs.YtmkidefdegaamaaGreatDoor.Jr
open Go.RowKit Mem Foot Bytes Im Wm Hi Plainw Cq Dm Dh
theorem infoI : (Tryz.prog.info? 3).map (fun i => (i.zero, i.size, i.bytes)) = some (some (.int .i64 0), 1, 8) := by kernel_rfl
theorem src_val (w : World) (x : Value) (t : TypeId) (b : Nat) (hb : b = w.heap.size) (hx : x.oneCell' = true) : Apn.Src (w.alloc (.cells #[x] t)) 1 (some ⟨b, 0, none⟩) 1 [x] := by
  subst hb
  exact ⟨rfl, fun u hu => by simp at hu; subst hu; exact hx, Or.inr ⟨_, rfl, cell_one_new w _ t⟩⟩
def jbegin (J : Jn) (S : Dk) (t : ByteArray) : Jn × Dk × Int :=
  if (doAppend S J.next t).2 ≠ 0 then (J, (doAppend S J.next t).1, (doAppend S J.next t).2)
  else ({ J with opn := J.opn ++ [J.next], next := J.next + 1, synced := 0, uns := t }, (doAppend S J.next t).1, 0)
theorem own_shapeJ {w : World} {base size n : Nat} {e : TypeId} {v : Value} {xs : List Value} (h : w.ownsRow base e size v n xs) : ∃ a c, v = .slice a n c := by
  rcases h.2 with ⟨e, e0⟩ | ⟨g, cp, cur, e, _⟩
  · exact ⟨none, 0, by rw [e, e0]⟩
  · exact ⟨_, _, e⟩
theorem grown_offJ {w x : World} {o : Obj} {v : Value} (h : (w.alloc o).grownBy x v.ownBlock) : Off v.ownBlock.toList w x :=
  ⟨h.os, h.tape, h.output, by have := h.size; simp at this; omega, fun k hk hF => by
    rw [h.block k (by simp; omega) (fun e => hF (by rw [← e]; simp)), Below.heap_alloc _ _ _ hk]⟩
theorem sits_neJ {w : World} {k k' : Nat} {t t' : TypeId} {cs cs' : Array Value} (h : Sits w k t cs) (h' : Sits w k' t' cs') (ht : t ≠ t') : k ≠ k' := by
  intro e
  subst e
  unfold Sits at h h'
  rw [h] at h'
  injection h' with h'
  injection h' with _ h2
  exact ht h2
/-- A segment more among the open ones. -/
theorem jq_more {w w3 w4 w8 : World} {jb bx : Nat} {J J' : Jn} {mv ov v' : Value} {S : Dk} {ba : Nat} {bs : List Nat} (h : JR w w3 jb bx J mv ov S ba bs) (og : Off ov.ownBlock.toList w3 w4) (o8 : Off [jb] w4 w8) (hv : w4.ownsRow 0 3 1 v' J'.opn.length (J'.opn.map (Value.int .i64))) (sm : v'.ownBlock = ov.ownBlock ∨ ∃ g, v'.ownBlock = some g ∧ w3.heap.size ≤ g)
    (hh : Sits w8 jb 103 #[.pointer (some ⟨bx, 0, none⟩), .int .i64 J'.most, mv, v', .int .i64 (J'.synced : Int), .string J'.uns, .int .i64 J'.next, .int .i64 J'.greatest]) (h4 : ∃ cs, Sits w4 jb 103 cs) : Jq w w8 jb bx J' mv S (jf jb ov bx ba bs) := by
  obtain ⟨ba', cap', bs', h1, h2⟩ := h.pd
  obtain ⟨cs4, h4⟩ := h4
  have n1 : ∀ k ∈ pf bx ba' bs', k ∉ ov.ownBlock.toList := fun k hk hm => by
    obtain ⟨cs, hs⟩ := sits_row h.ja.opn hm
    exact PD.not h1 hs (by decide) (by decide) (by decide) hk
  have p4 := pd_off h1 og n1
  have n2 := PD.not p4 h4 (by decide) (by decide) (by decide)
  have n3 : ∀ k ∈ v'.ownBlock.toList, k ∉ [jb] := fun k hk hm => by
    obtain ⟨cs, hs⟩ := sits_row hv hk
    exact sits_neJ hs h4 (by decide) (List.mem_singleton.1 hm)
  have inF : ∀ k, k ∈ ov.ownBlock.toList → k ∈ jf jb ov bx ba bs := fun k hk => List.mem_cons_of_mem _ (List.mem_append_left _ hk)
  refine ⟨⟨v', ba', cap', bs', ⟨hh, own_off hv o8 n3⟩, pd_off p4 o8 fun k hk e => n2 (List.mem_singleton.1 e ▸ hk), fun b hb => ?_⟩, ?_⟩
  · rcases List.mem_cons.1 hb with e | e
    · exact Or.inl (e ▸ List.mem_cons_self ..)
    · rcases List.mem_append.1 e with e | e
      · rcases sm with sm | ⟨g, sm, hg⟩
        · rw [sm] at e
          exact Or.inl (inF b e)
        · rw [sm] at e
          have : b = g := by simpa using e
          exact Or.inr (by rw [this]; exact Nat.le_trans h.off.size hg)
      · exact (h2 b e).imp (fun h => List.mem_cons_of_mem _ (List.mem_append_right _ h)) id
  · exact (h.jq.off.trans (og.mono fun k _ hk => inF k hk)).trans (o8.mono fun k _ hk => List.mem_singleton.1 hk ▸ List.mem_cons_self ..)
set_option maxRecDepth 10000 in
set_option maxHeartbeats 2000000 in
theorem begin_ (w0 w : World) (hT : Tab w0) (h0 : Below w0.heap.size w0 w) (jb bx : Nat) (J : Jn) (mv ov : Value) (S : Dk) (ba cap : Nat) (bs : List Nat) (t : ByteArray) (k u : Nat) (h : JA w jb bx J mv ov) (hP : PD w bx S ba cap bs) (hfar : ∀ b ∈ jf jb ov bx ba bs, w0.heap.size ≤ b) (hF : Fit S k u) (hk : k ≤ 100000000) (hu : u + t.size ≤ 1000000000000) (hol : J.opn.length ≤ 1000000000) (hx0 : 0 ≤ J.next) (hx1 : J.next ≤ 1000000000000) :
    Calls Tryz.prog 53 #[.pointer (some ⟨jb, 0, none⟩), .string t] w fun e w' => ∃ v, e = .returned v ∧ ErrV w' v (jbegin J S t).2.2 ∧ Jq w w' jb bx (jbegin J S t).1 mv (jbegin J S t).2.1 (jf jb ov bx ba bs) := by
  have hlen := hP.len
  have hfl := hF.len
  have hfu := hF.use
  have HG := hide hF.good
  have HT := hide hT
  have HB0 := hide h0
  have HFAR := hide hfar
  have HA := hide h
  have HP := hide hP
  have C0 : ∀ q : Bw w, q.val.cell? ⟨jb, 0, none⟩ = some (.pointer (some ⟨bx, 0, none⟩)) := fun q => (HA.out.keep q.is).head.cell 0 _ rfl
  have C6 : ∀ q : Bw w, q.val.cell? ⟨jb, 6, none⟩ = some (.int .i64 J.next) := fun q => (HA.out.keep q.is).head.cell 6 _ rfl
  clear h hP hT hF h0 hfar
  go_enter Tryz.func53, Tryz.ntmps53
  go_wp2_with fail
  refine region_pre 9 (by kernel_rfl) (by kernel_rfl) ?_
  simp only [List.take_succ_cons, List.take_zero, List.drop_succ_cons, List.drop_zero]
  repeat (first
    | go_big_quiet_skip
    | (go_big_quiet_want; go_big_quiet_op; go_big_quiet_on))
  refine wpQuiet_nil ?_
  intro q
  have HB2 := hide q.is
  clear C0 C6
  generalize q.val = w2 at *
  have hap := append bx ba cap bs S J.next t w2 (HP.out.keep HB2.out) HG.out (by omega) (by omega)
  go_wp2_with fail
  refine hap.mono ?_
  clear hap
  rintro e w3 ⟨rfl, ho3, ba2, cap2, bs2, hP3, hf3⟩
  have HR3 := hide (show JR w w3 jb bx J mv ov (doAppend S J.next t).1 ba bs from ⟨(HA.out.keep HB2.out).off (HP.out.keep HB2.out) ho3, ⟨ba2, cap2, bs2, hP3, fun b hb => (hf3 b hb).imp id fun h => Nat.le_trans HB2.out.size h⟩, (Off.of_below HB2.out).trans ho3⟩)
  clear ho3 hP3 hf3
  obtain ⟨c0, c1, c2, c3, c4, c5, c6, c7⟩ := cells8 HR3.out.ja.head
  by_cases her : (doAppend S J.next t).2 = 0
  · have HE := hide (show jbegin J S t = ({ J with opn := J.opn ++ [J.next], next := J.next + 1, synced := 0, uns := t }, (doAppend S J.next t).1, 0) by unfold jbegin; rw [if_neg (by simpa using her)])
    rw [her]
    have hov : ∃ oa oc, ov = .slice oa J.opn.length oc := by
      rcases HR3.out.ja.opn.2 with ⟨e, e0⟩ | ⟨g, cp, cur, e, _⟩
      · exact ⟨none, 0, by rw [e, e0]⟩
      · exact ⟨_, _, e⟩
    obtain ⟨oa, oc, rfl⟩ := hov
    obtain ⟨i0, hi, hz0, hz1, hz2⟩ := info_parts infoI
    have HOWN := hide (show (w3.alloc (.cells #[.int .i64 J.next] 3)).drew.ownsRow 0 3 1 (.slice oa J.opn.length oc) J.opn.length (J.opn.map (Value.int .i64)) from own_keep (own_keep HR3.out.ja.opn (below_new _)) ((Below.refl _ _).drew))
    have HNJ := hide (show jb ∉ (Value.slice oa J.opn.length oc).ownBlock.toList from fun hm => by
      obtain ⟨cs, hs⟩ := sits_row HR3.out.ja.opn hm
      exact sits_neJ hs HR3.out.ja.head (by decide) rfl)
    have HSRC := hide (show Apn.Src (w3.alloc (.cells #[.int .i64 J.next] 3)).drew 1 (some ⟨w3.heap.size, 0, none⟩) 1 [.int .i64 J.next] from src_val w3.drew _ _ _ rfl rfl)
    go_wp2_with fail
    refine wp_region_any (by kernel_rfl) ?_
    refine wpAny_take (i := 0) (v := .pointer (some ⟨jb, 0, none⟩)) rfl (by kernel_rfl) (by kernel_rfl) (by kernel_rfl) (fun _ _ _ h => h) (Or.inl ⟨by rfl, by intro W; go_simp⟩) ?_
    refine wpAny_take (i := 1) (v := .pointer (some ⟨jb, 0, none⟩)) rfl (by kernel_rfl) (by kernel_rfl) (by kernel_rfl) (fun _ _ _ h => h) (Or.inl ⟨by rfl, by intro W; go_simp⟩) ?_
    refine wpAny_take (i := 5) (v := .pointer (some ⟨jb, 0, none⟩)) rfl (by kernel_rfl) (by kernel_rfl) (by kernel_rfl) (fun _ _ _ h => h) (Or.inl ⟨by rfl, by intro W; go_simp⟩) ?_
    refine wpAny_take (i := 2) (v := .pointer (some ⟨jb, 0, none⟩)) rfl (by kernel_rfl) (by kernel_rfl) (by kernel_rfl) (fun _ _ _ h => h) (Or.inl ⟨by rfl, by intro W; go_simp⟩) ?_
    refine wpAny_take (i := 6) (v := .pointer (some ⟨jb, 0, none⟩)) rfl (by kernel_rfl) (by kernel_rfl) (by kernel_rfl) (fun _ _ _ h => h) (Or.inl ⟨by rfl, by intro W; go_simp⟩) ?_
    refine wpAny_take (i := 3) (v := .pointer (some ⟨jb, 3, none⟩)) rfl (by kernel_rfl) (by kernel_rfl) (by kernel_rfl) (fun _ _ _ h => h) (Or.inl ⟨by rfl, by intro W; go_simp⟩) ?_
    refine wpAny_take (i := 7) (v := .pointer (some ⟨jb, 6, none⟩)) rfl (by kernel_rfl) (by kernel_rfl) (by kernel_rfl) (fun _ _ _ h => h) (Or.inl ⟨by rfl, by intro W; go_simp⟩) ?_
    refine wpAny_ready (rs := [4, 8]) (by kernel_rfl) (by simp) ?_
    refine AllReady.cons rfl (fun K hK => ?_) (AllReady.cons rfl (fun K hK => ?_) AllReady.nil)
    go_simp
    refine hK _ _ ?_
    clear hK K
    refine wpAny_ready (rs := [8]) (by kernel_rfl) (by simp) (AllReady.cons rfl (fun K hK => ?_) AllReady.nil)
    go_simp
    refine hK _ _ ?_
    clear hK K
    refine wpAny_ready (rs := [9]) (by kernel_rfl) (by simp) (AllReady.cons rfl (fun K hK => ?_) AllReady.nil)
    go_simp
    refine hK _ _ ?_
    clear hK K
    rotate_left 1
    go_simp
    refine hK _ _ ?_
    clear hK K
    refine wpAny_ready (rs := [4, 9]) (by kernel_rfl) (by simp) ?_
    refine AllReady.cons rfl (fun K hK => ?_) (AllReady.cons rfl (fun K hK => ?_) AllReady.nil)
    go_simp
    refine hK _ _ ?_
    clear hK K
    refine wpAny_ready (rs := [9]) (by kernel_rfl) (by simp) (AllReady.cons rfl (fun K hK => ?_) AllReady.nil)
    go_simp
    refine hK _ _ ?_
    clear hK K
    rotate_left 1
    go_simp
    refine hK _ _ ?_
    clear hK K
    have c3' : (w3.alloc (.cells #[.int .i64 J.next] 3)).drew.cell? ⟨jb, 3, none⟩ = some (.slice oa J.opn.length oc) := ((HR3.out.ja.keep (below_new _)).keep ((Below.refl _ _).drew)).head.cell 3 _ rfl
    refine wpAny_ready (rs := [4]) (by kernel_rfl) (by simp) (AllReady.cons rfl (fun K hK => ?_) AllReady.nil)
    go_simp
    refine hK _ _ ?_
    clear hK K c3'
    all_goals
      refine wpAny_ready (rs := [10]) (by kernel_rfl) (by simp) (AllReady.cons rfl (fun K hK => ?_) AllReady.nil)
      refine Apn.step_any2 rfl (.tmp 29) (.tmp 34) 46 rfl 3 i0 (.int .i64 0) 1 8 Tryz.underlying46 hi hz0 hz1 hz2 rfl (by decide) (.slice oa J.opn.length oc) _ _ rfl HOWN.out _ 1 1 [.int .i64 J.next] rfl HSRC.out (by unfold maxLen; omega) (by omega) ?_
      intro v4 w4 ow4 gr4 sm4 _
      obtain ⟨oa4, oc4, rfl⟩ := own_shapeJ ow4
      have hog := grown_offJ (w := w3.drew) gr4
      have hs4 := Foot.Sits.off (w := w3.drew) HR3.out.ja.head hog (HNJ.out)
      have HOW := hide ow4
      have HOG := hide ((Off.of_below (F := (Value.slice oa J.opn.length oc).ownBlock.toList) ((Below.refl w3.heap.size w3).drew)).trans hog)
      have HSM := hide sm4
      have HS4 := hide hs4
      have g3 := hs4.frozen 3
      have g3c := hs4.cell 3 _ rfl
      refine hK _ _ ?_
      clear hK K ow4 gr4 sm4 hog hs4 c0 c1 c2 c3 c4 c5 c6 c7
      go_simp
      refine wpAny_ready (rs := [11]) (by kernel_rfl) (by simp) (AllReady.cons rfl (fun K hK => ?_) AllReady.nil)
      go_simp
      refine hK _ _ ?_
      clear hK K
      refine wpAny_ready (rs := [12]) (by kernel_rfl) (by simp) (AllReady.cons rfl (fun K hK => ?_) AllReady.nil)
      go_simp
      refine hK _ _ ?_
      clear hK K
      refine wpAny_ready (rs := [13]) (by kernel_rfl) (by simp) (AllReady.cons rfl (fun K hK => ?_) AllReady.nil)
      go_simp
      refine hK _ _ ?_
      clear hK K
      refine wpAny_done (by kernel_rfl) ?_ _
      have hs5 := HS4.out.set 3 (.slice oa4 (J.opn.length + 1) oc4)
      have HO5 := hide (show Off [jb] w4 (w4.setCell ⟨jb, 3, none⟩ (.slice oa4 (J.opn.length + 1) oc4)) from (Off.refl _ _).set (List.mem_singleton.2 rfl) _ _)
      clear g3 g3c
      generalize w4.setCell ⟨jb, 3, none⟩ (.slice oa4 (J.opn.length + 1) oc4) = w5 at *
      have HS8 := hide (((hs5.set 6 (.int .i64 (J.next + 1))).set 4 (.int .i64 0)).set 5 (.string t))
      have HO8 := hide (show Off [jb] w4 (((w5.setCell ⟨jb, 6, none⟩ (.int .i64 (J.next + 1))).setCell ⟨jb, 4, none⟩ (.int .i64 0)).setCell ⟨jb, 5, none⟩ (.string t)) from ((HO5.out.set (List.mem_singleton.2 rfl) _ _).set (List.mem_singleton.2 rfl) _ _).set (List.mem_singleton.2 rfl) _ _)
      have d6 := hs5.cell 6 _ rfl
      have f6 := hs5.frozen 6
      have d4 := (hs5.set 6 (.int .i64 (J.next + 1))).cell 4 _ rfl
      have f4 := (hs5.set 6 (.int .i64 (J.next + 1))).frozen 4
      have d5 := ((hs5.set 6 (.int .i64 (J.next + 1))).set 4 (.int .i64 0)).cell 5 _ rfl
      have f5 := ((hs5.set 6 (.int .i64 (J.next + 1))).set 4 (.int .i64 0)).frozen 5
      have hwr : IntKind.i64.wrap (J.next + 1) = J.next + 1 := IntWalk.i64_in _ (by omega)
      clear hs5
      go_wp2_with fail
      go_ret
      refine ⟨_, rfl, by rw [HE.out]; exact Or.inl ⟨rfl, rfl⟩, ?_⟩
      rw [HE.out]
      exact jq_more HR3.out HOG.out HO8.out (by rw [List.length_append, List.map_append]; exact HOW.out) (HSM.out.imp id fun ⟨g, h1, h2⟩ => ⟨g, h1, by simp at h2; omega⟩) HS8.out ⟨_, HS4.out⟩
  · have HE := hide (show jbegin J S t = (J, (doAppend S J.next t).1, (doAppend S J.next t).2) by unfold jbegin; rw [if_pos her])
    have HQ := hide HR3.out.jq
    have HT3 := hide (HT.out.below (HB0.out.trans (HQ.out.off.below HFAR.out HB0.out.size)))
    generalize (doAppend S J.next t).2 = er at *
    have hab := about ⟨#[98, 101, 103, 105, 110, 110, 105, 110, 103]⟩ (by decide) J.next (by omega) (by omega) w3 HT3.out
    go_wp2_with fail
    refine hab.mono ?_
    clear hab
    rintro e w5 ⟨rfl, hb5⟩
    generalize aboutB ⟨#[98, 101, 103, 105, 110, 110, 105, 110, 103]⟩ J.next = y
    have HB5 := hide hb5
    have hdu := during y er w5
    clear hb5
    go_wp2_with fail
    refine hdu.mono ?_
    clear hdu
    rintro e w6 ⟨⟨v, rfl, hv⟩, hb6⟩
    have HV := hide hv
    have HB6 := hide (HB5.out.trans (hb6.mono HB5.out.size))
    clear hv hb6
    go_wp2_with fail
    go_ret
    exact ⟨_, rfl, by rw [HE.out]; exact HV.out, by rw [HE.out]; exact HQ.out.keep HB6.out⟩
end Go.Proofs.YtmkidefdegaamaaGreatDoor.Jr
namespace Go.Proofs.YtmkidefdegaamaaGreatDoor.Jr
open Go.RowKit Mem Foot Bytes Im Wm Hi Plainw Cq Dm Dh
def bytesOf (l : List UInt8) : ByteArray := ⟨l.toArray⟩
theorem wrec_len (k : List UInt8) {n : Int} (h0 : -9223372036854775808 ≤ n) (h1 : n ≤ 9223372036854775807) {t : List UInt8} (ht : t.length ≤ 9223372036854775807) : (wrec k n t).length ≤ k.length + t.length + 43 := by
  have e1 := itoa_len h0 h1
  have e2 := itoa_len (v := (t.length : Int)) (by omega) (by omega)
  unfold wrec
  simp only [List.length_append, List.length_cons, List.length_nil]
  omega
def jwrite (J : Jn) (S : Dk) (win : Int) (t : ByteArray) : Jn × Dk × Int :=
  if J.opn = [] then jbegin J S (bytesOf (jhead J) ++ bytesOf (wrec [100] win (B t)))
  else if (J.synced : Int) + (J.uns.size : Int) < J.most then jadd J S (bytesOf (wrec [100] win (B t)))
  else if (jsync J S).2.2 ≠ 0 then jsync J S
  else jbegin (jsync J S).1 (jsync J S).2.1 (bytesOf (wrec [100] win (B t)))
theorem sync_fit {J : Jn} {S : Dk} {k u : Nat} (h : Fit S k u) (hx : jlast J ≤ 9223372036854775807) : Fit (jsync J S).2.1 (k + 1) (u + J.uns.size) := by
  have h1 := mend_fit (J := J) h hx
  unfold jsync
  split
  · exact ⟨h.good, Nat.le_trans h.len (Nat.le_succ _), Nat.le_trans h.use (Nat.le_add_right _ _)⟩
  · split
    · exact h1
    · split
      · exact fit_sync h1 _
      · exact fit_sync h1 _
theorem sync_keeps (J : Jn) (S : Dk) : (jsync J S).1.opn = J.opn ∧ (jsync J S).1.next = J.next := by
  unfold jsync
  split
  · exact ⟨rfl, rfl⟩
  · split
    · exact ⟨rfl, rfl⟩
    · split <;> exact ⟨rfl, rfl⟩
set_option maxRecDepth 10000 in
set_option maxHeartbeats 2000000 in
theorem write (w0 w : World) (hT : Tab w0) (h0 : Below w0.heap.size w0 w) (jb bx : Nat) (J : Jn) (mv ov : Value) (S : Dk) (ba cap : Nat) (bs : List Nat) (win : Int) (t : ByteArray) (k u : Nat) (h : JA w jb bx J mv ov) (hP : PD w bx S ba cap bs) (hfar : ∀ b ∈ jf jb ov bx ba bs, w0.heap.size ≤ b) (hF : Fit S k u) (hk : k ≤ 10000000) (hu : u + J.uns.size + t.size ≤ 100000000000) (hol : J.opn.length ≤ 1000000000) (hsy : J.synced ≤ 1000000000000) (hx0 : 0 ≤ J.next) (hx1 : J.next ≤ 1000000000000) (hy0 : -9223372036854775808 ≤ jlast J) (hy1 : jlast J ≤ 9223372036854775807) (hw0 : -9223372036854775808 ≤ win) (hw1 : win ≤ 9223372036854775807) (hg0 : -9223372036854775808 ≤ J.greatest) (hg1 : J.greatest ≤ 9223372036854775807) :
    Calls Tryz.prog 28 #[.pointer (some ⟨jb, 0, none⟩), .int .i64 win, .string t] w fun e w' => ∃ v, e = .returned v ∧ ErrV w' v (jwrite J S win t).2.2 ∧ Jq w w' jb bx (jwrite J S win t).1 mv (jwrite J S win t).2.1 (jf jb ov bx ba bs) := by
  have hwr := written ⟨#[100]⟩ win t w (hT.below h0) (by decide) hw0 hw1 (by omega)
  have htl : (B t).length = t.size := (Bytes.size_B t).symm
  have hzl : (bytesOf (wrec [100] win (B t))).size ≤ t.size + 44 := by
    have := wrec_len [100] hw0 hw1 (t := B t) (by omega)
    rw [List.length_singleton, htl] at this
    show (wrec [100] win (B t)).toArray.size ≤ _
    rw [List.size_toArray]
    omega
  have hjl : (bytesOf (jhead J)).size ≤ 44 := by
    have := wrec_len [98] hg0 hg1 (t := []) (by simp)
    show (jhead J).toArray.size ≤ _
    rw [List.size_toArray]
    unfold jhead
    split
    · exact Nat.zero_le _
    · simpa using this
  have HW := hide (show jwrite J S win t = if J.opn = [] then jbegin J S (bytesOf (jhead J) ++ bytesOf (wrec [100] win (B t))) else if (J.synced : Int) + (J.uns.size : Int) < J.most then jadd J S (bytesOf (wrec [100] win (B t))) else if (jsync J S).2.2 ≠ 0 then jsync J S else jbegin (jsync J S).1 (jsync J S).2.1 (bytesOf (wrec [100] win (B t))) from rfl)
  have HZB := hide (show ∀ z, B z = wrec (B ⟨#[100]⟩) win (B t) → z = bytesOf (wrec [100] win (B t)) from fun z hz => Bytes.B_inj (by rw [hz]; rfl))
  generalize bytesOf (wrec [100] win (B t)) = zb at *
  have HA := hide h
  have HP := hide hP
  have HT := hide hT
  have HB0 := hide h0
  have HFAR := hide hfar
  have HF := hide hF
  obtain ⟨oa, oc, hov⟩ := own_shapeJ h.opn
  have HOV := hide hov
  clear h hP hT h0 hfar hF htl hov
  go_enter Tryz.func28, Tryz.ntmps28
  go_wp2_with fail
  refine hwr.mono ?_
  clear hwr
  rintro e w1 ⟨⟨z, rfl, hz⟩, hb1⟩
  obtain rfl := HZB.out z hz
  have HB1 := hide hb1
  have HA1 := hide (HA.out.keep hb1)
  have HP1 := hide (HP.out.keep hb1)
  have HB01 := hide (HB0.out.trans (hb1.mono HB0.out.size))
  clear hz hb1 HZB
  obtain ⟨c0, c1, c2, c3, c4, c5, c6, c7⟩ := cells8 HA1.out.head
  rw [HOV.out] at c3
  have back : ∀ {w' : World} {J' : Jn} {S' : Dk}, Jq w1 w' jb bx J' mv S' (jf jb ov bx ba bs) → Jq w w' jb bx J' mv S' (jf jb ov bx ba bs) := fun h => Jq.trans (Off.of_below HB1.out) (fun b hb => Or.inl hb) h
  by_cases hne : J.opn = []
  · have HE := hide (show jwrite J S win t = jbegin J S (bytesOf (jhead J) ++ z) by rw [HW.out, if_pos hne])
    have hz0 : J.opn.length = 0 := by rw [hne]; rfl
    have hzi : (J.opn.length : Int) = 0 := by omega
    have hhd := head w1 jb bx J mv ov HA1.out (HT.out.below HB01.out) hg0 hg1
    rw [hz0] at c3
    go_wp2_with fail
    refine hhd.mono ?_
    clear hhd
    rintro e w2 ⟨⟨y, rfl, hy⟩, hb2⟩
    have hyb : y = bytesOf (jhead J) := Bytes.B_inj (by rw [hy]; rfl)
    subst hyb
    have hsz : (bytesOf (jhead J) ++ z).size ≤ t.size + 100 := by rw [ByteArray.size_append]; omega
    have hbg := begin_ w0 w2 HT.out (HB01.out.trans (hb2.mono HB01.out.size)) jb bx J mv ov S ba cap bs (bytesOf (jhead J) ++ z) k u (HA1.out.keep hb2) (HP1.out.keep hb2) HFAR.out HF.out (by omega) (by omega) hol hx0 hx1
    have HB2 := hide hb2
    clear hb2 hy
    go_wp2_with fail
    refine hbg.mono ?_
    clear hbg
    rintro e w3 ⟨v, rfl, hv, hq⟩
    have HV := hide hv
    have HQ := hide (back (Jq.trans (Off.of_below HB2.out) (fun b hb => Or.inl hb) hq))
    clear hv hq
    go_wp2_with fail
    go_ret
    exact ⟨_, rfl, by rw [HE.out]; exact HV.out, by rw [HE.out]; exact HQ.out⟩
  · have hnz : ¬ (J.opn.length : Int) = 0 := by
      have : J.opn.length ≠ 0 := fun e => hne (List.length_eq_zero_iff.1 e)
      omega
    have C1 : ∀ q : Bw w1, q.val.cell? ⟨jb, 1, none⟩ = some (.int .i64 J.most) := fun q => (HA1.out.keep q.is).head.cell 1 _ rfl
    have C4 : ∀ q : Bw w1, q.val.cell? ⟨jb, 4, none⟩ = some (.int .i64 (J.synced : Int)) := fun q => (HA1.out.keep q.is).head.cell 4 _ rfl
    have C5 : ∀ q : Bw w1, q.val.cell? ⟨jb, 5, none⟩ = some (.string J.uns) := fun q => (HA1.out.keep q.is).head.cell 5 _ rfl
    have hus : J.uns.size ≤ 1000000000000 := by omega
    go_wp2_with fail
    refine region_cls (by kernel_rfl) (by kernel_rfl) ?_
    repeat (first
      | go_big_quiet_skip
      | (go_big_quiet_want; go_big_quiet_op; go_big_quiet_on))
    refine wpQuiet_nil ?_
    rintro _ ⟨q, rfl⟩
    have HB2 := hide (HB01.out.trans (q.is.mono HB01.out.size))
    have HA2 := hide (HA1.out.keep q.is)
    have HP2 := hide (HP1.out.keep q.is)
    have back2 : ∀ {w' : World} {J' : Jn} {S' : Dk}, Jq q.val w' jb bx J' mv S' (jf jb ov bx ba bs) → Jq w w' jb bx J' mv S' (jf jb ov bx ba bs) := fun h => back (Jq.trans (Off.of_below q.is) (fun b hb => Or.inl hb) h)
    clear C1 C4 C5 back c0 c1 c2 c3 c4 c5 c6 c7
    generalize q.val = w2 at *
    by_cases hlt : (J.synced : Int) + (J.uns.size : Int) < J.most
    · have HE := hide (show jwrite J S win t = jadd J S z by rw [HW.out, if_neg hne, if_pos hlt])
      have had := add w0 w2 HT.out HB2.out jb bx J mv ov S ba cap bs z k u HA2.out HP2.out HFAR.out HF.out (by omega) (by omega) hne hol hsy hy0 hy1
      go_wp2_with fail
      refine had.mono ?_
      clear had
      rintro e w3 ⟨v, rfl, hv, hq⟩
      have HV := hide hv
      have HQ := hide (back2 hq)
      clear hv hq
      go_wp2_with fail
      go_ret
      exact ⟨_, rfl, by rw [HE.out]; exact HV.out, by rw [HE.out]; exact HQ.out⟩
    · have hsn := syncJ w0 w2 HT.out HB2.out jb bx J mv ov S ba cap bs k u HA2.out HP2.out HFAR.out HF.out (by omega) (by omega) hol hsy hy0 hy1
      have HSF := hide (sync_fit (J := J) HF.out hy1)
      have HSK := hide (sync_keeps J S)
      obtain ⟨J1, S1, e1, hj1⟩ : ∃ J1 S1 e1, jsync J S = (J1, S1, e1) := ⟨_, _, _, rfl⟩
      have HE := hide (show jwrite J S win t = if e1 ≠ 0 then (J1, S1, e1) else jbegin J1 S1 z by rw [HW.out, if_neg hne, if_neg hlt, hj1])
      rw [hj1] at hsn HSF HSK
      clear hj1
      go_wp2_with fail
      refine hsn.mono ?_
      clear hsn
      rintro e w3 ⟨v, rfl, hv, hq⟩
      rcases hv with ⟨he, rfl⟩ | ⟨hee, fb, fz, rfl, hfs⟩
      · have he : e1 = 0 := he
        subst he
        obtain ⟨ov1, ba1, cap1, bs1, hA3, hP3, hf3⟩ := hq.ex
        have hfar3 : ∀ b ∈ jf jb ov1 bx ba1 bs1, w0.heap.size ≤ b := fun b hb => (hf3 b hb).elim (HFAR.out b) fun h => Nat.le_trans HB2.out.size h
        have hbg := begin_ w0 w3 HT.out (HB2.out.trans (hq.off.below HFAR.out HB2.out.size)) jb bx J1 mv ov1 S1 ba1 cap1 bs1 z (k + 1) (u + J.uns.size) hA3 hP3 hfar3 HSF.out (by omega) (by omega) (by rw [HSK.out.1]; exact hol) (by rw [HSK.out.2]; exact hx0) (by rw [HSK.out.2]; exact hx1)
        have HQ3 := hide (show ∀ (w' : World) (J' : Jn) (S' : Dk), Jq w3 w' jb bx J' mv S' (jf jb ov1 bx ba1 bs1) → Jq w w' jb bx J' mv S' (jf jb ov bx ba bs) from fun _ _ _ h => back2 (Jq.trans hq.off hf3 h))
        have HE2 := hide (show jwrite J S win t = jbegin J1 S1 z by rw [HE.out, if_neg (by simp)])
        clear hA3 hP3 hf3 hq hfar3 back2
        go_wp2_with fail
        refine hbg.mono ?_
        clear hbg
        rintro e w4 ⟨v, rfl, hv, hq⟩
        have HV := hide hv
        have HQ := hide (HQ3.out _ _ _ hq)
        clear hv hq
        go_wp2_with fail
        go_ret
        exact ⟨_, rfl, by rw [HE2.out]; exact HV.out, by rw [HE2.out]; exact HQ.out⟩
      · have hee : e1 ≠ 0 := hee
        have HE2 := hide (show jwrite J S win t = (J1, S1, e1) by rw [HE.out, if_pos hee])
        have HV := hide (show ErrV w3 (.iface 178 (.pointer (some ⟨fb, 0, none⟩))) e1 from Or.inr ⟨hee, fb, fz, rfl, hfs⟩)
        have HQ := hide (back2 hq)
        clear hfs hq back2
        go_wp2_with fail
        go_ret
        exact ⟨_, rfl, by rw [HE2.out]; exact HV.out, by rw [HE2.out]; exact HQ.out⟩
end Go.Proofs.YtmkidefdegaamaaGreatDoor.Jr
namespace Go.Proofs.YtmkidefdegaamaaGreatDoor.Jr
open Go.RowKit Mem Foot Bytes Im Wm Hi Plainw Cq Dm Dh
def jkeep (J : Jn) (S : Dk) : Jn × Dk × Int :=
  if J.opn = [] then (if (jbegin J S (bytesOf (jhead J))).2.2 ≠ 0 then jbegin J S (bytesOf (jhead J)) else jsync (jbegin J S (bytesOf (jhead J))).1 (jbegin J S (bytesOf (jhead J))).2.1)
  else jsync J S
theorem begin_fit {J : Jn} {S : Dk} {k u : Nat} {t : ByteArray} (h : Fit S k u) (hx : J.next ≤ 9223372036854775807) : Fit (jbegin J S t).2.1 (k + 1) (u + t.size) := by
  have h1 := fit_append h J.next t hx
  unfold jbegin
  split <;> exact h1
theorem begin_last {J : Jn} {S : Dk} {t : ByteArray} (h : (jbegin J S t).2.2 = 0) : (jbegin J S t).1 = { J with opn := J.opn ++ [J.next], next := J.next + 1, synced := 0, uns := t } := by
  unfold jbegin at h ⊢
  split
  · rename_i hn
    rw [if_pos hn] at h
    exact absurd h hn
  · rfl
set_option maxRecDepth 10000 in
set_option maxHeartbeats 2000000 in
theorem keepGreatest (w0 w : World) (hT : Tab w0) (h0 : Below w0.heap.size w0 w) (jb bx : Nat) (J : Jn) (mv ov : Value) (S : Dk) (ba cap : Nat) (bs : List Nat) (k u : Nat) (h : JA w jb bx J mv ov) (hP : PD w bx S ba cap bs) (hfar : ∀ b ∈ jf jb ov bx ba bs, w0.heap.size ≤ b) (hF : Fit S k u) (hk : k ≤ 10000000) (hu : u + J.uns.size ≤ 100000000000) (hol : J.opn.length ≤ 100000000) (hsy : J.synced ≤ 1000000000000) (hx0 : 0 ≤ J.next) (hx1 : J.next ≤ 1000000000000) (hy0 : -9223372036854775808 ≤ jlast J) (hy1 : jlast J ≤ 9223372036854775807) (hg0 : -9223372036854775808 ≤ J.greatest) (hg1 : J.greatest ≤ 9223372036854775807) :
    Calls Tryz.prog 70 #[.pointer (some ⟨jb, 0, none⟩)] w fun e w' => ∃ v, e = .returned v ∧ ErrV w' v (jkeep J S).2.2 ∧ Jq w w' jb bx (jkeep J S).1 mv (jkeep J S).2.1 (jf jb ov bx ba bs) := by
  have hjl : (bytesOf (jhead J)).size ≤ 44 := by
    have := wrec_len [98] hg0 hg1 (t := []) (by simp)
    show (jhead J).toArray.size ≤ _
    rw [List.size_toArray]
    unfold jhead
    split
    · exact Nat.zero_le _
    · simpa using this
  have HA := hide h
  have HP := hide hP
  have HT := hide hT
  have HB0 := hide h0
  have HFAR := hide hfar
  have HF := hide hF
  obtain ⟨oa, oc, hov⟩ := own_shapeJ h.opn
  obtain ⟨c0, c1, c2, c3, c4, c5, c6, c7⟩ := cells8 h.head
  rw [hov] at c3
  clear h hP hT h0 hfar hF hov
  by_cases hne : J.opn = []
  · have HE := hide (show jkeep J S = if (jbegin J S (bytesOf (jhead J))).2.2 ≠ 0 then jbegin J S (bytesOf (jhead J)) else jsync (jbegin J S (bytesOf (jhead J))).1 (jbegin J S (bytesOf (jhead J))).2.1 by unfold jkeep; rw [if_pos hne])
    have hz0 : J.opn.length = 0 := by rw [hne]; rfl
    rw [hz0] at c3
    have hhd := head w jb bx J mv ov HA.out (HT.out.below HB0.out) hg0 hg1
    go_enter Tryz.func70, Tryz.ntmps70
    go_wp2_with fail
    refine hhd.mono ?_
    clear hhd c0 c1 c2 c3 c4 c5 c6 c7
    rintro e w2 ⟨⟨y, rfl, hy⟩, hb2⟩
    have hyb : y = bytesOf (jhead J) := Bytes.B_inj (by rw [hy]; rfl)
    subst hyb
    have hbg := begin_ w0 w2 HT.out (HB0.out.trans (hb2.mono HB0.out.size)) jb bx J mv ov S ba cap bs (bytesOf (jhead J)) k u (HA.out.keep hb2) (HP.out.keep hb2) HFAR.out HF.out (by omega) (by omega) (by omega) hx0 hx1
    have HBF := hide (begin_fit (J := J) (t := bytesOf (jhead J)) HF.out (by omega))
    have HBL := hide (show (jbegin J S (bytesOf (jhead J))).2.2 = 0 → (jbegin J S (bytesOf (jhead J))).1 = _ from begin_last)
    have HB2 := hide hb2
    clear hb2 hy
    obtain ⟨J1, S1, e1, hj1⟩ : ∃ J1 S1 e1, jbegin J S (bytesOf (jhead J)) = (J1, S1, e1) := ⟨_, _, _, rfl⟩
    rw [hj1] at HE HBF HBL hbg
    clear hj1
    go_wp2_with fail
    refine hbg.mono ?_
    clear hbg
    rintro e w3 ⟨v, rfl, hv, hq⟩
    have hq2 := Jq.trans (Off.of_below HB2.out) (fun b hb => Or.inl hb) hq
    rcases hv with ⟨he, rfl⟩ | ⟨hee, fb, fz, rfl, hfs⟩
    · have he : e1 = 0 := he
      subst he
      have hJ1 : J1 = { J with opn := J.opn ++ [J.next], next := J.next + 1, synced := 0, uns := bytesOf (jhead J) } := HBL.out rfl
      obtain ⟨ov1, ba1, cap1, bs1, hA3, hP3, hf3⟩ := hq2.ex
      have hfar3 : ∀ b ∈ jf jb ov1 bx ba1 bs1, w0.heap.size ≤ b := fun b hb => (hf3 b hb).elim (HFAR.out b) fun h => Nat.le_trans HB0.out.size h
      have hlast : jlast J1 = J.next := by rw [hJ1]; simp [jlast]
      have hun : J1.uns.size ≤ 44 := by rw [hJ1]; exact hjl
      have hsn := syncJ w0 w3 HT.out (HB0.out.trans (hq2.off.below HFAR.out HB0.out.size)) jb bx J1 mv ov1 S1 ba1 cap1 bs1 (k + 1) (u + (bytesOf (jhead J)).size) hA3 hP3 hfar3 HBF.out (by omega) (by omega) (by rw [hJ1]; simp only [List.length_append, List.length_singleton]; omega) (by rw [hJ1]; exact Nat.zero_le _) (by rw [hlast]; omega) (by rw [hlast]; omega)
      have HQ3 := hide (show ∀ (w' : World) (J' : Jn) (S' : Dk), Jq w3 w' jb bx J' mv S' (jf jb ov1 bx ba1 bs1) → Jq w w' jb bx J' mv S' (jf jb ov bx ba bs) from fun _ _ _ h => Jq.trans hq2.off hf3 h)
      have HE2 := hide (show jkeep J S = jsync J1 S1 by rw [HE.out, if_neg (by simp)])
      clear hA3 hP3 hf3 hq hq2 hfar3 hJ1 hlast hun
      go_wp2_with fail
      refine hsn.mono ?_
      clear hsn
      rintro e w4 ⟨v, rfl, hv, hq⟩
      have HV := hide hv
      have HQ := hide (HQ3.out _ _ _ hq)
      clear hv hq
      go_wp2_with fail
      go_ret
      exact ⟨_, rfl, by rw [HE2.out]; exact HV.out, by rw [HE2.out]; exact HQ.out⟩
    · have hee : e1 ≠ 0 := hee
      have HE2 := hide (show jkeep J S = (J1, S1, e1) by rw [HE.out, if_pos hee])
      have HV := hide (show ErrV w3 (.iface 178 (.pointer (some ⟨fb, 0, none⟩))) e1 from Or.inr ⟨hee, fb, fz, rfl, hfs⟩)
      have HQ := hide hq2
      clear hfs hq hq2
      go_wp2_with fail
      go_ret
      exact ⟨_, rfl, by rw [HE2.out]; exact HV.out, by rw [HE2.out]; exact HQ.out⟩
  · have HE := hide (show jkeep J S = jsync J S by unfold jkeep; rw [if_neg hne])
    have hnz : ¬ (J.opn.length : Int) = 0 := by
      have : J.opn.length ≠ 0 := fun e => hne (List.length_eq_zero_iff.1 e)
      omega
    have hsn := syncJ w0 w HT.out HB0.out jb bx J mv ov S ba cap bs k u HA.out HP.out HFAR.out HF.out (by omega) (by omega) (by omega) hsy hy0 hy1
    go_enter Tryz.func70, Tryz.ntmps70
    go_wp2_with fail
    refine hsn.mono ?_
    clear hsn c0 c1 c2 c3 c4 c5 c6 c7
    rintro e w3 ⟨v, rfl, hv, hq⟩
    have HV := hide hv
    have HQ := hide hq
    clear hv hq
    go_wp2_with fail
    go_ret
    exact ⟨_, rfl, by rw [HE.out]; exact HV.out, by rw [HE.out]; exact HQ.out⟩
end Go.Proofs.YtmkidefdegaamaaGreatDoor.Jr
namespace Go.Proofs.YtmkidefdegaamaaGreatDoor.Jr
open Go.RowKit Go.Maps Mem Foot Bytes Im Wm Hi Plainw Cq Dm Dh
def okS : Value → Bool
  | .slice _ _ _ => true
  | _ => false
/-- The sealed windows' rows: by numbers, where they lie and what they have. -/
abbrev Srs := List (Int × Value × List Int)
def sD (sv : Srs) : DataW Value := mp iLit (fun p : Value × List Int => p.1) sv
structure SM (w : World) (mb : Nat) (sv : Srs) : Prop where
  own : w.ownsMap Tryz.prog 3 (exE okS) mb sv.length (sD sv)
  up : Up iLt sv
  rows : ∀ p ∈ sv, w.ownsRow 0 3 1 p.2.1 p.2.2.length (p.2.2.map (Value.int .i64))
def sblocks (sv : Srs) : List Nat := sv.flatMap fun p => p.2.1.ownBlock.toList
theorem map_off {F : List Nat} {w w' : World} {P : Program} {k : TypeId} {R : Value → Option (DataW Value × List MemPlace)} {b n : Nat} {D : DataW Value} (h : w.ownsMap P k R b n D) (ho : Off F w w') (hF : b ∉ F) : w'.ownsMap P k R b n D := by
  have hl := h.lt
  obtain ⟨es, clock, h1, h2⟩ := h
  exact ⟨es, clock, by rw [ho.block b hl hF]; exact h1, h2⟩
theorem map_ne {w : World} {P : Program} {k : TypeId} {R : Value → Option (DataW Value × List MemPlace)} {b n : Nat} {D : DataW Value} (h : w.ownsMap P k R b n D) {c : Nat} {t : TypeId} {cs : Array Value} (hs : Sits w c t cs) : b ≠ c := by
  intro e
  subst e
  obtain ⟨es, clock, h1, _⟩ := h
  unfold Sits at hs
  rw [h1] at hs
  cases hs
theorem SM.off {F : List Nat} {w w' : World} {mb : Nat} {sv : Srs} (h : SM w mb sv) (ho : Off F w w') (hm : mb ∉ F) (hs : ∀ k ∈ sblocks sv, k ∉ F) : SM w' mb sv :=
  ⟨map_off h.own ho hm, h.up, fun p hp => own_off (h.rows p hp) ho fun k hk => hs k (List.mem_flatMap.2 ⟨p, hp, hk⟩)⟩
theorem SM.keep {w w' : World} {mb : Nat} {sv : Srs} (h : SM w mb sv) (hb : Below w.heap.size w w') : SM w' mb sv :=
  h.off (F := []) (Off.of_below hb) (by simp) (fun _ _ => by simp)
theorem SM.sits {w : World} {mb : Nat} {sv : Srs} (h : SM w mb sv) {k : Nat} (hk : k ∈ sblocks sv) : ∃ cs, Sits w k 3 cs := by
  obtain ⟨p, hp, hk⟩ := List.mem_flatMap.1 hk
  exact sits_row (h.rows p hp) hk
/-- The journal in memory. -/
structure JW (w : World) (jb bx mb : Nat) (J : Jn) (sv : Srs) (ov : Value) : Prop where
  ja : JA w jb bx J (.map (some mb)) ov
  sm : SM w mb sv
  eq : J.sealed = sv.map fun p => (p.1, p.2.2)
  apart : ∀ k ∈ sblocks sv, k ∉ ov.ownBlock.toList
/-- All blocks of it, and its disk's. -/
def kf (jb bx mb : Nat) (sv : Srs) (ov : Value) (ba : Nat) (bs : List Nat) : List Nat := mb :: (sblocks sv ++ jf jb ov bx ba bs)
theorem JW.keep {w w' : World} {jb bx mb : Nat} {J : Jn} {sv : Srs} {ov : Value} (h : JW w jb bx mb J sv ov) (hb : Below w.heap.size w w') : JW w' jb bx mb J sv ov :=
  ⟨h.ja.keep hb, h.sm.keep hb, h.eq, h.apart⟩
theorem JA.off2 {F : List Nat} {w w' : World} {jb bx : Nat} {J : Jn} {mv ov : Value} (h : JA w jb bx J mv ov) (ho : Off F w w') (hj : jb ∉ F) (hv : ∀ k ∈ ov.ownBlock.toList, k ∉ F) : JA w' jb bx J mv ov :=
  ⟨Foot.Sits.off h.head ho hj, own_off h.opn ho hv⟩
theorem JW.off {F : List Nat} {w w' : World} {jb bx mb : Nat} {J : Jn} {sv : Srs} {ov : Value} {ba : Nat} {bs : List Nat} (h : JW w jb bx mb J sv ov) (ho : Off F w w') (hF : ∀ k ∈ kf jb bx mb sv ov ba bs, k ∉ F) : JW w' jb bx mb J sv ov := by
  refine ⟨h.ja.off2 ho (hF _ ?_) fun k hk => hF _ ?_, h.sm.off ho (hF _ (List.mem_cons_self ..)) fun k hk => hF _ ?_, h.eq, h.apart⟩
  · exact List.mem_cons_of_mem _ (List.mem_append_right _ (List.mem_cons_self ..))
  · exact List.mem_cons_of_mem _ (List.mem_append_right _ (List.mem_cons_of_mem _ (List.mem_append_left _ hk)))
  · exact List.mem_cons_of_mem _ (List.mem_append_left _ hk)
theorem kf_pd {jb bx mb : Nat} {sv : Srs} {ov : Value} {ba : Nat} {bs : List Nat} {k : Nat} (h : k ∈ pf bx ba bs) : k ∈ kf jb bx mb sv ov ba bs :=
  List.mem_cons_of_mem _ (List.mem_append_right _ (List.mem_cons_of_mem _ (List.mem_append_right _ h)))
theorem kf_jf {jb bx mb : Nat} {sv : Srs} {ov : Value} {ba : Nat} {bs : List Nat} {k : Nat} (h : k ∈ jf jb ov bx ba bs) : k ∈ kf jb bx mb sv ov ba bs :=
  List.mem_cons_of_mem _ (List.mem_append_right _ h)
/-- What a call upon the journal leaves. -/
structure Kq (w w' : World) (jb bx mb : Nat) (J : Jn) (S : Dk) (F : List Nat) : Prop where
  ex : ∃ sv ov ba cap bs, JW w' jb bx mb J sv ov ∧ PD w' bx S ba cap bs ∧ ∀ b ∈ kf jb bx mb sv ov ba bs, b ∈ F ∨ w.heap.size ≤ b
  off : Off F w w'
/-- Two footprints, one after the other. -/
theorem off_trans {F G : List Nat} {w w1 w2 : World} (ho : Off F w w1) (hf : ∀ b ∈ G, b ∈ F ∨ w.heap.size ≤ b) (h : Off G w1 w2) : Off F w w2 := by
  refine ⟨h.os.trans ho.os, h.tape.trans ho.tape, h.output.trans ho.output, Nat.le_trans ho.size h.size, fun k hk hF => ?_⟩
  rw [h.block k (Nat.lt_of_lt_of_le hk ho.size) fun hm => ?_]
  · exact ho.block k hk hF
  · rcases hf k hm with e | e
    · exact hF e
    · omega
theorem Kq.trans {w w1 w2 : World} {jb bx mb : Nat} {J : Jn} {S : Dk} {F G : List Nat} (ho : Off F w w1) (hf : ∀ b ∈ G, b ∈ F ∨ w.heap.size ≤ b) (h : Kq w1 w2 jb bx mb J S G) : Kq w w2 jb bx mb J S F := by
  obtain ⟨sv, ov', ba', cap', bs', h1, h2, h3⟩ := h.ex
  refine ⟨⟨sv, ov', ba', cap', bs', h1, h2, fun b hb => ?_⟩, off_trans ho hf h.off⟩
  rcases h3 b hb with e | e
  · exact hf b e
  · exact Or.inr (Nat.le_trans ho.size e)
theorem sblocks_lt {w : World} {mb : Nat} {sv : Srs} (h : SM w mb sv) {k : Nat} (hk : k ∈ sblocks sv) : k < w.heap.size := by
  obtain ⟨cs, hs⟩ := h.sits hk
  exact hs.lt
/-- A sealed window's row is none of the blocks that a call writes. -/
theorem JW.not {w : World} {jb bx mb : Nat} {J : Jn} {sv : Srs} {ov : Value} {S : Dk} {ba cap : Nat} {bs : List Nat} (h : JW w jb bx mb J sv ov) (hP : PD w bx S ba cap bs) {k : Nat} (hk : k ∈ sblocks sv) : k ∉ jf jb ov bx ba bs := by
  obtain ⟨cs, hs⟩ := h.sm.sits hk
  intro hm
  rcases List.mem_cons.1 hm with e | e
  · exact sits_neJ hs h.ja.head (by decide) e
  · rcases List.mem_append.1 e with e | e
    · exact h.apart k hk e
    · exact PD.not hP hs (by decide) (by decide) (by decide) e
theorem pd_cells {w : World} {bx ba cap : Nat} {bs : List Nat} {S : Dk} (h : PD w bx S ba cap bs) {k : Nat} (hk : k ∈ pf bx ba bs) : ∃ t cs, Sits w k t cs := by
  cases bs with
  | nil =>
    rcases List.mem_cons.1 hk with e | e
    · exact ⟨_, _, e ▸ h.head⟩
    · cases e
  | cons b r =>
    rcases List.mem_cons.1 hk with e | e
    · exact ⟨_, _, e ▸ h.head⟩
    · rcases List.mem_cons.1 e with e | e
      · obtain ⟨cs', ha, _⟩ := h.arr (by simp)
        exact ⟨_, _, e ▸ ha⟩
      · obtain ⟨i, hi⟩ := List.getElem?_of_mem e
        have hil := (List.getElem?_eq_some_iff.1 hi).1
        have hlen := h.len
        exact ⟨_, _, h.seg i k _ hi (List.getElem?_eq_getElem (by omega))⟩
theorem jf_cells {w : World} {jb bx : Nat} {J : Jn} {mv ov : Value} {S : Dk} {ba cap : Nat} {bs : List Nat} (h : JA w jb bx J mv ov) (hP : PD w bx S ba cap bs) {k : Nat} (hk : k ∈ jf jb ov bx ba bs) : ∃ t cs, Sits w k t cs := by
  rcases List.mem_cons.1 hk with e | e
  · exact ⟨_, _, e ▸ h.head⟩
  · rcases List.mem_append.1 e with e | e
    · obtain ⟨cs, hs⟩ := sits_row h.opn e
      exact ⟨_, _, hs⟩
    · exact pd_cells hP e
theorem JW.mnot {w : World} {jb bx mb : Nat} {J : Jn} {sv : Srs} {ov : Value} {S : Dk} {ba cap : Nat} {bs : List Nat} (h : JW w jb bx mb J sv ov) (hP : PD w bx S ba cap bs) : mb ∉ jf jb ov bx ba bs := fun hm => by
  obtain ⟨t, cs, hs⟩ := jf_cells h.ja hP hm
  exact map_ne h.sm.own hs rfl
/-- A call that leaves the sealed windows alone. -/
theorem JW.jq {w w' : World} {jb bx mb : Nat} {J J' : Jn} {sv : Srs} {ov : Value} {S S' : Dk} {ba cap : Nat} {bs : List Nat} (h : JW w jb bx mb J sv ov) (hP : PD w bx S ba cap bs) (hq : Jq w w' jb bx J' (.map (some mb)) S' (jf jb ov bx ba bs)) (hs : J'.sealed = J.sealed) :
    ∃ ov' ba' cap' bs', JW w' jb bx mb J' sv ov' ∧ PD w' bx S' ba' cap' bs' ∧ (∀ b ∈ jf jb ov' bx ba' bs', b ∈ jf jb ov bx ba bs ∨ w.heap.size ≤ b) ∧ Off (jf jb ov bx ba bs) w w' := by
  obtain ⟨ov', ba', cap', bs', h1, h2, h3⟩ := hq.ex
  refine ⟨ov', ba', cap', bs', ⟨h1, h.sm.off hq.off (h.mnot hP) (fun k hk => h.not hP hk), hs.trans h.eq, fun k hk e => ?_⟩, h2, h3, hq.off⟩
  rcases h3 k (List.mem_cons_of_mem _ (List.mem_append_left _ e)) with e | e
  · exact h.not hP hk e
  · have := sblocks_lt h.sm hk
    omega
theorem JW.kq {w w' : World} {jb bx mb : Nat} {J J' : Jn} {sv : Srs} {ov : Value} {S S' : Dk} {ba cap : Nat} {bs : List Nat} (h : JW w jb bx mb J sv ov) (hP : PD w bx S ba cap bs) (hq : Jq w w' jb bx J' (.map (some mb)) S' (jf jb ov bx ba bs)) (hs : J'.sealed = J.sealed) :
    Kq w w' jb bx mb J' S' (kf jb bx mb sv ov ba bs) := by
  obtain ⟨ov', ba', cap', bs', h1, h2, h3, h4⟩ := h.jq hP hq hs
  refine ⟨⟨sv, ov', ba', cap', bs', h1, h2, fun b hb => ?_⟩, h4.mono fun k _ hk => kf_jf hk⟩
  rcases List.mem_cons.1 hb with e | e
  · exact Or.inl (e ▸ List.mem_cons_self ..)
  · rcases List.mem_append.1 e with e | e
    · exact Or.inl (List.mem_cons_of_mem _ (List.mem_append_left _ e))
    · exact (h3 b e).imp kf_jf id
theorem add_sealed (J : Jn) (S : Dk) (t : ByteArray) : (jadd J S t).1.sealed = J.sealed ∧ (jadd J S t).1.opn = J.opn ∧ (jadd J S t).1.next = J.next ∧ (jadd J S t).1.synced = J.synced ∧ (jadd J S t).1.greatest = J.greatest ∧ (jadd J S t).1.most = J.most := by
  unfold jadd
  repeat' (split)
  all_goals exact ⟨rfl, rfl, rfl, rfl, rfl, rfl⟩
theorem sync_sealed (J : Jn) (S : Dk) : (jsync J S).1.sealed = J.sealed ∧ (jsync J S).1.greatest = J.greatest ∧ (jsync J S).1.most = J.most := by
  unfold jsync
  repeat' (split)
  all_goals exact ⟨rfl, rfl, rfl⟩
theorem begin_sealed (J : Jn) (S : Dk) (t : ByteArray) : (jbegin J S t).1.sealed = J.sealed := by
  unfold jbegin
  repeat' (split)
  all_goals rfl
theorem write_sealed (J : Jn) (S : Dk) (win : Int) (t : ByteArray) : (jwrite J S win t).1.sealed = J.sealed := by
  unfold jwrite
  repeat' (split)
  · exact begin_sealed ..
  · exact (add_sealed ..).1
  · exact (sync_sealed ..).1
  · rw [begin_sealed]; exact (sync_sealed ..).1
theorem keep_sealed (J : Jn) (S : Dk) : (jkeep J S).1.sealed = J.sealed := by
  unfold jkeep
  repeat' (split)
  · exact begin_sealed ..
  · rw [(sync_sealed ..).1]; exact begin_sealed ..
  · exact (sync_sealed ..).1
end Go.Proofs.YtmkidefdegaamaaGreatDoor.Jr
namespace Go.Proofs.YtmkidefdegaamaaGreatDoor.Jr
open Go.RowKit Go.Maps Mem Foot Bytes Im Wm Hi Plainw Cq Dm Dh
def jseal (J : Jn) (S : Dk) (win : Int) : Jn × Dk × Int :=
  if (jadd J S (bytesOf (wrec [115] win []))).2.2 ≠ 0 then jadd J S (bytesOf (wrec [115] win []))
  else if (jsync (jadd J S (bytesOf (wrec [115] win []))).1 (jadd J S (bytesOf (wrec [115] win []))).2.1).2.2 ≠ 0 then jsync (jadd J S (bytesOf (wrec [115] win []))).1 (jadd J S (bytesOf (wrec [115] win []))).2.1
  else ({ (jsync (jadd J S (bytesOf (wrec [115] win []))).1 (jadd J S (bytesOf (wrec [115] win []))).2.1).1 with
          sealed := put iLt win J.opn J.sealed, opn := [], greatest := win }, (jsync (jadd J S (bytesOf (wrec [115] win []))).1 (jadd J S (bytesOf (wrec [115] win []))).2.1).2.1, 0)
theorem wf_int {n : Int} (h0 : -9223372036854775808 ≤ n) (h1 : n ≤ 9223372036854775807) : (Lit.int .i64 n).wf = true := by
  have e0 : IntKind.i64.min = -9223372036854775808 := rfl
  have e1 : IntKind.i64.max = 9223372036854775807 := rfl
  rw [Lit.wf, e0, e1, decide_eq_true h0, decide_eq_true h1]
  rfl
def sl (p : Int × Value × List Int) : Int × List Int := (p.1, p.2.2)
theorem sl_ins (x : Int × Value × List Int) (l : Srs) : (ins iLt x l).map sl = ins iLt (sl x) (l.map sl) := by
  induction l with
  | nil => rfl
  | cons y l ih =>
    have e : (y :: l).map sl = sl y :: l.map sl := rfl
    rw [e, ins, ins]
    by_cases h : iLt x.1 y.1 = true
    · have h' : iLt (sl x).1 (sl y).1 = true := h
      simp [h, h']
    · have h' : ¬ iLt (sl x).1 (sl y).1 = true := h
      rw [if_neg h, if_neg h', List.map_cons, ih]
theorem sl_del (k : Int) (l : Srs) : (del k l).map sl = del k (l.map sl) := by
  unfold del
  rw [List.filter_map]
  rfl
theorem sl_put (k : Int) (b : Value × List Int) (l : Srs) : (put iLt k b l).map sl = put iLt k b.2 (l.map sl) := by
  unfold put
  rw [sl_ins, sl_del]
  rfl
theorem mem_put {k : Int} {b : Value × List Int} {l : Srs} {p : Int × Value × List Int} (h : p ∈ put iLt k b l) : p = (k, b) ∨ p ∈ l := by
  unfold put at h
  rcases (mem_ins _ _ _).1 h with e | e
  · exact Or.inl e
  · exact Or.inr (List.mem_filter.1 e).1
/-- The sealed windows with one more. -/
theorem JW.sealed {w w1 w2 : World} {jb bx mb : Nat} {J : Jn} {sv : Srs} {ov : Value} {S : Dk} {ba cap : Nat} {bs : List Nat} (h : JW w jb bx mb J sv ov) (hP : PD w bx S ba cap bs) (win : Int) {n : Nat}
    (hm : w1.ownsMap Tryz.prog 3 (exE okS) mb n (sD (put iLt win (ov, J.opn) sv))) (hg : w.grownBy w1 (some mb)) (h2 : w2 = (w1.setCell ⟨jb, 3, none⟩ (.slice none 0 0)).setCell ⟨jb, 7, none⟩ (.int .i64 win)) :
    Kq w w2 jb bx mb { J with sealed := put iLt win J.opn J.sealed, opn := [], greatest := win } S (kf jb bx mb sv ov ba bs) := by
  have o1 : Off [mb] w w1 := ⟨hg.os, hg.tape, hg.output, hg.size, fun k hk hF => hg.block k hk (fun e => hF (by cases e; exact List.mem_singleton.2 rfl))⟩
  have o2 : Off [jb] w1 w2 := by rw [h2]; exact ((Off.refl _ _).set (List.mem_singleton.2 rfl) _ _).set (List.mem_singleton.2 rfl) _ _
  have hjm : jb ≠ mb := fun e => map_ne h.sm.own h.ja.head e.symm
  have hj1 := Foot.Sits.off h.ja.head o1 (by simpa using hjm)
  have hov : ∀ k ∈ ov.ownBlock.toList, k ∉ [mb] ∧ k ∉ [jb] := fun k hk => by
    obtain ⟨cs, hs⟩ := sits_row h.ja.opn hk
    exact ⟨fun e => map_ne h.sm.own hs (List.mem_singleton.1 e).symm, fun e => sits_neJ hs h.ja.head (by decide) (List.mem_singleton.1 e)⟩
  have hsb : ∀ k ∈ sblocks sv, k ∉ [mb] ∧ k ∉ [jb] := fun k hk => by
    obtain ⟨cs, hs⟩ := h.sm.sits hk
    exact ⟨fun e => map_ne h.sm.own hs (List.mem_singleton.1 e).symm, fun e => sits_neJ hs h.ja.head (by decide) (List.mem_singleton.1 e)⟩
  have hpd : ∀ k ∈ pf bx ba bs, k ∉ [mb] ∧ k ∉ [jb] := fun k hk => by
    obtain ⟨t, cs, hs⟩ := pd_cells hP hk
    exact ⟨fun e => map_ne h.sm.own hs (List.mem_singleton.1 e).symm, fun e => PD.not hP h.ja.head (by decide) (by decide) (by decide) (List.mem_singleton.1 e ▸ hk)⟩
  refine ⟨⟨put iLt win (ov, J.opn) sv, .slice none 0 0, ba, cap, bs, ⟨⟨?_, ?_⟩, ⟨?_, ?_, ?_⟩, ?_, ?_⟩, ?_, ?_⟩, ?_⟩
  · rw [h2]
    exact (hj1.set 3 _).set 7 _
  · exact ⟨rfl, Or.inl ⟨rfl, rfl⟩⟩
  · have := map_off (own_tight hm) o2 (by simpa using hjm.symm)
    rw [show Maps.size (sD (put iLt win (ov, J.opn) sv)) = (put iLt win (ov, J.opn) sv).length from mp_size _] at this
    exact this
  · exact Up.put iLt_trans iLt_total h.sm.up _ _
  · intro p hp
    rcases mem_put hp with rfl | hp
    · exact own_off (own_off h.ja.opn o1 fun k hk => (hov k hk).1) o2 fun k hk => (hov k hk).2
    · have hb : ∀ k ∈ p.2.1.ownBlock.toList, k ∈ sblocks sv := fun k hk => List.mem_flatMap.2 ⟨p, hp, hk⟩
      exact own_off (own_off (h.sm.rows p hp) o1 fun k hk => (hsb k (hb k hk)).1) o2 fun k hk => (hsb k (hb k hk)).2
  · show put iLt win J.opn J.sealed = (put iLt win (ov, J.opn) sv).map sl
    rw [sl_put, h.eq]
    rfl
  · intro k _ hk
    simp [Value.ownBlock] at hk
  · exact pd_off (pd_off hP o1 fun k hk => (hpd k hk).1) o2 fun k hk => (hpd k hk).2
  · intro b hb
    refine Or.inl ?_
    rcases List.mem_cons.1 hb with e | e
    · exact e ▸ List.mem_cons_self ..
    · rcases List.mem_append.1 e with e | e
      · obtain ⟨p, hp, hk⟩ := List.mem_flatMap.1 e
        rcases mem_put hp with rfl | hp
        · exact kf_jf (List.mem_cons_of_mem _ (List.mem_append_left _ hk))
        · exact List.mem_cons_of_mem _ (List.mem_append_left _ (List.mem_flatMap.2 ⟨p, hp, hk⟩))
      · rcases List.mem_cons.1 e with e | e
        · exact kf_jf (e ▸ List.mem_cons_self ..)
        · rcases List.mem_append.1 e with e | e
          · simp [Value.ownBlock] at e
          · exact kf_pd e
  · exact (o1.mono fun k _ hk => List.mem_singleton.1 hk ▸ List.mem_cons_self ..).trans (o2.mono fun k _ hk => List.mem_singleton.1 hk ▸ kf_jf (List.mem_cons_self ..))
theorem add_fit {J : Jn} {S : Dk} {k u : Nat} {t : ByteArray} (h : Fit S k u) (hx : jlast J ≤ 9223372036854775807) : Fit (jadd J S t).2.1 (k + 2) (u + J.uns.size + t.size) ∧ (jadd J S t).1.uns.size ≤ J.uns.size + t.size := by
  have h1 := mend_fit (J := J) h hx
  have h2 := fit_append h1 (jlast J) t hx
  unfold jadd
  split
  · exact ⟨⟨h1.good, Nat.le_trans h1.len (by omega), Nat.le_trans h1.use (by omega)⟩, Nat.le_add_right _ _⟩
  · split
    · exact ⟨h2, Nat.le_add_right _ _⟩
    · exact ⟨h2, by rw [ByteArray.size_append]; exact Nat.le_refl _⟩
set_option maxRecDepth 10000 in
set_option maxHeartbeats 2000000 in
theorem sealJ (w0 w : World) (hT : Tab w0) (h0 : Below w0.heap.size w0 w) (jb bx mb : Nat) (J : Jn) (sv : Srs) (ov : Value) (S : Dk) (ba cap : Nat) (bs : List Nat) (win : Int) (k u : Nat) (h : JW w jb bx mb J sv ov) (hP : PD w bx S ba cap bs) (hfar : ∀ b ∈ kf jb bx mb sv ov ba bs, w0.heap.size ≤ b) (hF : Fit S k u) (hk : k ≤ 10000000) (hu : u + 2 * J.uns.size ≤ 100000000000) (hne : J.opn ≠ []) (hol : J.opn.length ≤ 100000000) (hsl : sv.length ≤ 1000000000) (hsy : J.synced ≤ 1000000000000) (hy0 : -9223372036854775808 ≤ jlast J) (hy1 : jlast J ≤ 9223372036854775807) (hw0 : -9223372036854775808 ≤ win) (hw1 : win ≤ 9223372036854775807) :
    Calls Tryz.prog 50 #[.pointer (some ⟨jb, 0, none⟩), .int .i64 win] w fun e w' => ∃ v, e = .returned v ∧ ErrV w' v (jseal J S win).2.2 ∧ Kq w w' jb bx mb (jseal J S win).1 (jseal J S win).2.1 (kf jb bx mb sv ov ba bs) := by
  have hzl : (bytesOf (wrec [115] win [])).size ≤ 44 := by
    have := wrec_len [115] hw0 hw1 (t := []) (by simp)
    show (wrec [115] win []).toArray.size ≤ _
    rw [List.size_toArray]
    simpa using this
  have hwr := written ⟨#[115]⟩ win ⟨#[]⟩ w (hT.below h0) (by decide) hw0 hw1 (by decide)
  have HZB := hide (show ∀ z, B z = wrec (B ⟨#[115]⟩) win (B ⟨#[]⟩) → z = bytesOf (wrec [115] win []) from fun z hz => Bytes.B_inj (by rw [hz]; rfl))
  obtain ⟨J1, S1, e1, ha1⟩ : ∃ J1 S1 e1, jadd J S (bytesOf (wrec [115] win [])) = (J1, S1, e1) := ⟨_, _, _, rfl⟩
  obtain ⟨J2, S2, e2, ha2⟩ : ∃ J2 S2 e2, jsync J1 S1 = (J2, S2, e2) := ⟨_, _, _, rfl⟩
  have HE := hide (show jseal J S win = if e1 ≠ 0 then (J1, S1, e1) else if e2 ≠ 0 then (J2, S2, e2) else ({ J2 with sealed := put iLt win J.opn J.sealed, opn := [], greatest := win }, S2, 0) by unfold jseal; rw [ha1, ha2])
  have HAF := hide (add_fit (t := bytesOf (wrec [115] win [])) hF hy1)
  have HAS := hide (add_sealed J S (bytesOf (wrec [115] win [])))
  have HSS := hide (sync_sealed J1 S1)
  have HSK := hide (sync_keeps J1 S1)
  rw [ha1] at HAF HAS
  rw [ha2] at HSS HSK
  have hfar' : ∀ b ∈ jf jb ov bx ba bs, w0.heap.size ≤ b := fun b hb => hfar b (kf_jf hb)
  have HA := hide h
  have HP := hide hP
  have HT := hide hT
  have HB0 := hide h0
  have HFAR := hide hfar'
  have HF := hide hF
  have HNE := hide hne
  have HKEY := hide (Maps.keyOf_int_mk (P := Tryz.prog) (k := 3) Tryz.underlying3 (wf_int hw0 hw1))
  have HA1e := hide ha1
  have HA2e := hide ha2
  clear h hP hT h0 hfar hfar' hF hne ha1 ha2
  go_enter Tryz.func50, Tryz.ntmps50
  go_wp2_with fail
  refine hwr.mono ?_
  clear hwr
  rintro e w1 ⟨⟨z, rfl, hz⟩, hb1⟩
  obtain rfl := HZB.out z hz
  have HB1 := hide hb1
  have HW1 := hide (HA.out.keep hb1)
  have HP1 := hide (HP.out.keep hb1)
  have HB01 := hide (HB0.out.trans (hb1.mono HB0.out.size))
  clear hz hb1 HZB
  have had := add w0 w1 HT.out HB01.out jb bx J (.map (some mb)) ov S ba cap bs (bytesOf (wrec [115] win [])) k u HW1.out.ja HP1.out HFAR.out HF.out (by omega) (by omega) HNE.out (by omega) hsy hy0 hy1
  rw [HA1e.out] at had
  generalize bytesOf (wrec [115] win []) = zb at *
  go_wp2_with fail
  refine had.mono ?_
  clear had
  rintro e w2 ⟨v, rfl, hv, hq⟩
  have HS1 := hide (show J1.sealed = J.sealed ∧ J1.opn = J.opn ∧ J1.next = J.next ∧ J1.synced = J.synced ∧ _ from HAS.out)
  have HQ2 := hide (show Kq w w2 jb bx mb J1 S1 (kf jb bx mb sv ov ba bs) from Kq.trans (Off.of_below HB1.out) (fun b hb => Or.inl hb) (HW1.out.kq HP1.out hq HS1.out.1))
  rcases hv with ⟨he, rfl⟩ | ⟨hee, fb, fz, rfl, hfs⟩
  · have he : e1 = 0 := he
    subst he
    obtain ⟨ov1, ba1, cap1, bs1, hW2, hP2, hf2, ho2⟩ := HW1.out.jq HP1.out hq HS1.out.1
    have ho2' : Off (jf jb ov bx ba bs) w w2 := (Off.of_below HB1.out).trans ho2
    have hf2' : ∀ b ∈ jf jb ov1 bx ba1 bs1, b ∈ jf jb ov bx ba bs ∨ w.heap.size ≤ b := fun b hb => (hf2 b hb).imp id fun h => Nat.le_trans HB1.out.size h
    have hfar2 : ∀ b ∈ jf jb ov1 bx ba1 bs1, w0.heap.size ≤ b := fun b hb => (hf2' b hb).elim (HFAR.out b) fun h => Nat.le_trans HB0.out.size h
    have hb2 : Below w0.heap.size w0 w2 := HB0.out.trans (ho2'.below HFAR.out HB0.out.size)
    have hlast : jlast J1 = jlast J := by unfold jlast; rw [HS1.out.2.1]
    have hun : J1.uns.size ≤ J.uns.size + zb.size := HAF.out.2
    have hsn := syncJ w0 w2 HT.out hb2 jb bx J1 (.map (some mb)) ov1 S1 ba1 cap1 bs1 (k + 2) (u + J.uns.size + zb.size) hW2.ja hP2 hfar2 HAF.out.1 (by omega) (by omega) (by rw [HS1.out.2.1]; omega) (by rw [HS1.out.2.2.2.1]; exact hsy) (by rw [hlast]; exact hy0) (by rw [hlast]; exact hy1)
    rw [HA2e.out] at hsn
    have HW2 := hide hW2
    have HP2 := hide hP2
    have HO2 := hide ho2'
    have HF2 := hide hf2'
    clear hW2 hP2 hf2 ho2 ho2' hf2' hfar2 hb2 hlast hun hq
    go_wp2_with fail
    refine hsn.mono ?_
    clear hsn
    rintro e w3 ⟨v, rfl, hv, hq⟩
    have HS2 := hide (show J2.sealed = J1.sealed ∧ _ from HSS.out)
    have HK2 := hide (show J2.opn = J1.opn ∧ J2.next = J1.next from HSK.out)
    have HKF := hide (show ∀ b ∈ kf jb bx mb sv ov1 ba1 bs1, b ∈ kf jb bx mb sv ov ba bs ∨ w.heap.size ≤ b from fun b hb => by
      rcases List.mem_cons.1 hb with e | e
      · exact Or.inl (e ▸ List.mem_cons_self ..)
      · rcases List.mem_append.1 e with e | e
        · exact Or.inl (List.mem_cons_of_mem _ (List.mem_append_left _ e))
        · exact (HF2.out b e).imp kf_jf id)
    have HO2k := hide (show Off (kf jb bx mb sv ov ba bs) w w2 from HO2.out.mono fun k _ hk => kf_jf hk)
    rcases hv with ⟨he, rfl⟩ | ⟨hee, fb, fz, rfl, hfs⟩
    · have he : e2 = 0 := he
      subst he
      obtain ⟨ov2, ba2, cap2, bs2, hW3, hP3, hf3, ho3⟩ := HW2.out.jq HP2.out hq HS2.out.1
      have HW3 := hide hW3
      have HP3 := hide hP3
      have HF3 := hide hf3
      have HO3 := hide ho3
      clear hW3 hP3 hf3 ho3 hq
      have c2 := HW3.out.ja.head.cell 2 _ rfl
      have c3 := HW3.out.ja.head.cell 3 _ rfl
      obtain ⟨w4, hu4, ho4, hg4⟩ := (show w3.drew.ownsMap Tryz.prog 3 (exE okS) mb sv.length (sD sv) from HW3.out.sm.own).update (t := 97) (val := ov2) (int_keyed Tryz.underlying3) Tryz.underlying97 (Nat.lt_of_le_of_lt hsl (by decide)) HKEY.out (exE_mk (ok := okS) (by obtain ⟨a, c, h⟩ := own_shapeJ HW3.out.ja.opn; rw [h]; rfl))
      rw [show (sD sv).put (Lit.int .i64 win) (.held ov2) = sD (put iLt win (ov2, J2.opn) sv) from mp_put iLit_same iLit_before win (ov2, J2.opn) sv] at ho4
      have HM4 := hide ho4
      have HG4 := hide (show w3.grownBy w4 (some mb) from ⟨hg4.os, hg4.tape, hg4.output, hg4.size, hg4.block⟩)
      clear ho4 hg4
      have hj4 : Sits w4 jb 103 #[.pointer (some ⟨bx, 0, none⟩), .int .i64 J2.most, .map (some mb), ov2, .int .i64 (J2.synced : Int), .string J2.uns, .int .i64 J2.next, .int .i64 J2.greatest] :=
        Foot.Sits.off (F := [mb]) HW3.out.ja.head ⟨HG4.out.os, HG4.out.tape, HG4.out.output, HG4.out.size, fun k hk hF => HG4.out.block k hk (fun e => hF (by cases e; exact List.mem_singleton.2 rfl))⟩ (fun e => map_ne HW3.out.sm.own HW3.out.ja.head (List.mem_singleton.1 e).symm)
      have d3 := hj4.cell 3 _ rfl
      have f3 := hj4.frozen 3
      have d7 := (hj4.set 3 (.slice none 0 0)).cell 7 _ rfl
      have f7 := (hj4.set 3 (.slice none 0 0)).frozen 7
      clear hj4
      go_wp2_with fail
      go_region
      all_goals
        clear hu4 c2 c3
        go_wp2_with fail
        go_ret
        have hr := HW3.out.sealed HP3.out win HM4.out HG4.out rfl
        rw [HK2.out.1, HS1.out.2.1, HS2.out.1, HS1.out.1] at hr
        refine ⟨_, rfl, by rw [HE.out, if_neg (by simp), if_neg (by simp)]; exact Or.inl ⟨rfl, rfl⟩, ?_⟩
        rw [HE.out, if_neg (by simp), if_neg (by simp)]
        refine Kq.trans HO2k.out HKF.out (Kq.trans (HO3.out.mono fun k _ hk => kf_jf hk) (fun b hb => ?_) hr)
        rcases List.mem_cons.1 hb with e | e
        · exact Or.inl (e ▸ List.mem_cons_self ..)
        · rcases List.mem_append.1 e with e | e
          · exact Or.inl (List.mem_cons_of_mem _ (List.mem_append_left _ e))
          · exact (HF3.out b e).imp kf_jf id
    · have hee : e2 ≠ 0 := hee
      have HE2 := hide (show jseal J S win = (J2, S2, e2) by rw [HE.out, if_neg (by simp), if_pos hee])
      have HV := hide (show ErrV w3 (.iface 178 (.pointer (some ⟨fb, 0, none⟩))) e2 from Or.inr ⟨hee, fb, fz, rfl, hfs⟩)
      have HQ := hide (Kq.trans HO2k.out HKF.out (HW2.out.kq HP2.out hq HS2.out.1))
      clear hfs hq
      go_wp2_with fail
      go_ret
      exact ⟨_, rfl, by rw [HE2.out]; exact HV.out, by rw [HE2.out]; exact HQ.out⟩
  · have hee : e1 ≠ 0 := hee
    have HE2 := hide (show jseal J S win = (J1, S1, e1) by rw [HE.out, if_pos hee])
    have HV := hide (show ErrV w2 (.iface 178 (.pointer (some ⟨fb, 0, none⟩))) e1 from Or.inr ⟨hee, fb, fz, rfl, hfs⟩)
    clear hfs hq
    go_wp2_with fail
    go_ret
    exact ⟨_, rfl, by rw [HE2.out]; exact HV.out, by rw [HE2.out]; exact HQ2.out⟩
end Go.Proofs.YtmkidefdegaamaaGreatDoor.Jr
