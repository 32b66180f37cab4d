/- The journal mends its last segment. -/
import Derived.Test.YtmkidefdegaamaaGreatDoorHiy
import Derived.Test.YtmkidefdegaamaaGreatDoorSortly
import Derived.Lib.MinMax
namespace Go.Proofs.YtmkidefdegaamaaGreatDoor.Jr
open Go.RowKit Mem Foot Bytes Im Wm Hi Plainw Cq Dm Dh
theorem mem_own {v : Value} {k : Nat} (h : k ∈ v.ownBlock.toList) : v.ownBlock = some k := by simpa using h
theorem sits_row {w : World} {base size n : Nat} {e : TypeId} {v : Value} {xs : List Value} (h : w.ownsRow base e size v n xs) {k : Nat} (hk : k ∈ v.ownBlock.toList) : ∃ cs, Sits w k e cs := by
  have hk' := mem_own hk
  rcases h.2 with ⟨rfl, _⟩ | ⟨g, cap, cur, rfl, _, hg, _⟩
  · simp [Value.ownBlock] at hk'
  · simp [Value.ownBlock] at hk'
    subst hk'
    exact ⟨cur, hg⟩
theorem own_off {F : List Nat} {w w' : World} {e : TypeId} {v : Value} {n base : Nat} {xs : List Value} {size : Nat} (h : w.ownsRow base e size v n xs) (ho : Off F w w') (hF : ∀ k ∈ v.ownBlock.toList, k ∉ F) : w'.ownsRow base e size v n xs := by
  refine ⟨h.1, ?_⟩
  rcases h.2 with h0 | ⟨g, cap, cur, rfl, h1, hg, h2⟩
  · exact Or.inl h0
  · refine Or.inr ⟨g, cap, cur, rfl, h1, ?_, h2⟩
    rw [ho.block g (Array.getElem?_eq_some_iff.1 hg).1 (hF g (by simp [Value.ownBlock]))]
    exact hg
theorem own_keep {w w' : World} {base size n : Nat} {e : TypeId} {v : Value} {xs : List Value} (h : w.ownsRow base e size v n xs) (hb : Below w.heap.size w w') : w'.ownsRow base e size v n xs :=
  own_off (F := []) h (Off.of_below hb) (fun _ _ => by simp)
theorem PD.not {w : World} {bx ba cap : Nat} {bs : List Nat} {S : Dk} (h : PD w bx S ba cap bs) {k : Nat} {t : TypeId} {cs : Array Value} (hk : Sits w k t cs) (h1 : t ≠ 55) (h2 : t ≠ 127) (h3 : t ≠ 129) : k ∉ pf bx ba bs := by
  have ne : ∀ {k' : Nat} {t' : TypeId} {cs' : Array Value}, Sits w k' t' cs' → t ≠ t' → k ≠ k' := fun {k' t' cs'} h' hne e => by
    subst e
    unfold Sits at hk h'
    rw [hk] at h'
    injection h' with h'
    injection h' with _ h'
    exact hne h'
  intro hm
  cases bs with
  | nil =>
    rcases List.mem_cons.1 hm with e | e
    · exact ne h.head h1 e
    · cases e
  | cons b r =>
    rcases List.mem_cons.1 hm with e | e
    · exact ne h.head h1 e
    · rcases List.mem_cons.1 e with e | e
      · obtain ⟨cs', ha, _⟩ := h.arr (by simp)
        exact ne ha h2 e
      · obtain ⟨i, hi⟩ := List.getElem?_of_mem e
        have hil := (List.getElem?_eq_some_iff.1 hi).1
        have hlen := h.len
        exact ne (h.seg i k _ hi (List.getElem?_eq_getElem (by omega))) h3 rfl
theorem JA.off {w w' : World} {jb bx ba cap : Nat} {bs : List Nat} {S : Dk} {J : Jn} {mv ov : Value} (h : JA w jb bx J mv ov) (hP : PD w bx S ba cap bs) (ho : Off (pf bx ba bs) w w') : JA w' jb bx J mv ov := by
  refine ⟨Foot.Sits.off h.head ho (PD.not hP h.head (by decide) (by decide) (by decide)), own_off h.opn ho fun k hk => ?_⟩
  obtain ⟨cs, hs⟩ := sits_row h.opn hk
  exact PD.not hP hs (by decide) (by decide) (by decide)
theorem JA.keep {w w' : World} {jb bx : Nat} {J : Jn} {mv ov : Value} (h : JA w jb bx J mv ov) (hb : Below w.heap.size w w') : JA w' jb bx J mv ov :=
  ⟨Mem.Sits.below h.head hb h.head.lt, own_keep h.opn hb⟩
def jlast (J : Jn) : Int := J.opn.getLast?.getD 0
theorem read_size (S : Dk) (n : Int) : (doRead S n).1.size ≤ Dm.used S.segs := by
  unfold doRead
  split
  · exact Nat.zero_le _
  · split
    · exact Nat.zero_le _
    · rename_i i _
      cases hi : S.segs[i]? with
      | none => exact Nat.zero_le _
      | some s => exact used_mem (List.mem_of_getElem? hi)
/-- How much of what is not synced is there. -/
def jleft (J : Jn) (S : Dk) : Nat := min ((doRead S (jlast J)).1.size - J.synced) J.uns.size
def jmend (J : Jn) (S : Dk) : Dk × Int :=
  if (doRead S (jlast J)).2 ≠ 0 then (S, (doRead S (jlast J)).2)
  else if jleft J S = J.uns.size then (S, 0)
  else doAppend S (jlast J) (J.uns.extract (jleft J S) J.uns.size)
/-- What a call upon the journal leaves. -/
structure JR (w w' : World) (jb bx : Nat) (J : Jn) (mv ov : Value) (S : Dk) (ba : Nat) (bs : List Nat) : Prop where
  ja : JA w' jb bx J mv ov
  pd : ∃ ba' cap' bs', PD w' bx S ba' cap' bs' ∧ ∀ b ∈ pf bx ba' bs', b ∈ pf bx ba bs ∨ w.heap.size ≤ b
  off : Off (pf bx ba bs) w w'
set_option maxRecDepth 10000 in
set_option maxHeartbeats 2000000 in
theorem mend (w : World) (jb bx : Nat) (J : Jn) (mv ov : Value) (S : Dk) (ba cap : Nat) (bs : List Nat) (h : JA w jb bx J mv ov) (hP : PD w bx S ba cap bs) (hT : Tab w) (hG : Dm.Good S) (hl : bs.length ≤ 1000000000) (hu : Dm.used S.segs + J.uns.size ≤ 1000000000000) (hne : J.opn ≠ []) (hol : J.opn.length ≤ 1000000000) (hsy : J.synced ≤ 1000000000000) (hx0 : -9223372036854775808 ≤ jlast J) (hx1 : jlast J ≤ 9223372036854775807) :
    Calls Tryz.prog 58 #[.pointer (some ⟨jb, 0, none⟩)] w fun e w' => ∃ v, e = .returned v ∧ ErrV w' v (jmend J S).2 ∧ JR w w' jb bx J mv ov (jmend J S).1 ba bs := by
  obtain ⟨l, x, hlx⟩ : ∃ l x, J.opn = l ++ [x] := ⟨J.opn.dropLast, J.opn.getLast hne, (List.dropLast_concat_getLast hne).symm⟩
  have hjx : jlast J = x := by unfold jlast; rw [hlx]; simp
  have HLA := hide (fun (w1 : World) (h1 : JA w1 jb bx J mv ov) => last w1 jb bx J mv ov h1 l x hlx hol)
  have HA := hide h
  have HP := hide hP
  have HT := hide hT
  have HM := hide (show jmend J S = if (doRead S x).2 ≠ 0 then (S, (doRead S x).2) else if jleft J S = J.uns.size then (S, 0) else doAppend S x (J.uns.extract (jleft J S) J.uns.size) by unfold jmend; rw [hjx])
  rw [hjx] at hx0 hx1
  have HJX := hide hjx
  have HL1 := hide (fun q : Bw w => call_cls ((HLA.out q.val (HA.out.keep q.is)).mono fun e w' ⟨h1, n, h2⟩ => ⟨h1, by rw [h2]; exact below_drewN' (Below.refl _ _)⟩))
  have HRD := hide (fun q : Bw w => call_cls ((read bx ba cap bs S x q.val (HP.out.keep q.is) hl).mono fun e w' ⟨h1, h2⟩ => ⟨h1, by rw [← h2]; exact Below.refl _ _⟩))
  have C0 : ∀ q : Bw w, q.val.cell? ⟨jb, 0, none⟩ = some (.pointer (some ⟨bx, 0, none⟩)) := fun q => (HA.out.keep q.is).head.cell 0 _ rfl
  clear h hP hT hjx hlx hne
  go_enter Tryz.func58, Tryz.ntmps58
  go_wp2_with fail
  refine region_cls (by kernel_rfl) (by kernel_rfl) ?_
  repeat (first
    | go_big_quiet_skip
    | (go_big_quiet_want; go_big_quiet_op; first | go_big_quiet_on | (apply Exists.intro; refine ⟨fun _ => ?_, ?_⟩; (first | (go_at_call 59; exact HL1.out _) | (go_at_call 34; exact HRD.out _)); go_big_quiet_on)))
  refine wpQuiet_nil ?_
  rintro _ ⟨q, rfl⟩
  have HB1 := hide q.is
  clear C0 HL1 HRD
  generalize q.val = w1 at *
  have HA1 := hide (HA.out.keep HB1.out)
  have HP1 := hide (HP.out.keep HB1.out)
  obtain ⟨T, er, hTe⟩ : ∃ T er, doRead S x = (T, er) := ⟨_, _, rfl⟩
  have hTs : T.size ≤ 1000000000000 := by
    have h1 : T.size ≤ Dm.used S.segs := by simpa [hTe] using read_size S x
    omega
  have HTE := hide hTe
  rw [hTe] at HM ⊢
  clear hTe
  have fin : ∀ w' v, Below w.heap.size w w' → ErrV w' v (jmend J S).2 → (jmend J S).1 = S → ∃ v', Ending.returned v = .returned v' ∧ ErrV w' v' (jmend J S).2 ∧ JR w w' jb bx J mv ov (jmend J S).1 ba bs := fun w' v hb he hs =>
    ⟨v, rfl, he, HA.out.keep hb, ⟨ba, cap, bs, by rw [hs]; exact HP.out.keep hb, fun b hb => Or.inl hb⟩, Off.of_below hb⟩
  have FIN := hide fin
  clear fin
  by_cases her : er = 0
  · subst her
    have C4 : ∀ q : Bw w1, q.val.cell? ⟨jb, 4, none⟩ = some (.int .i64 (J.synced : Int)) := fun q => (HA1.out.keep q.is).head.cell 4 _ rfl
    have C5 : ∀ q : Bw w1, q.val.cell? ⟨jb, 5, none⟩ = some (.string J.uns) := fun q => (HA1.out.keep q.is).head.cell 5 _ rfl
    have hus : J.uns.size ≤ 1000000000000 := by omega
    have hwr : IntKind.i64.wrap ((T.size : Int) - (J.synced : Int)) = (T.size : Int) - (J.synced : Int) := IntWalk.i64_in _ (by omega)
    go_wp2_with fail
    refine region_cls (by kernel_rfl) (by kernel_rfl) ?_
    repeat (first
      | go_big_quiet_skip
      | (go_big_quiet_want; go_big_quiet_op; go_big_quiet_on))
    refine wpQuiet_nil ?_
    rintro _ ⟨q, rfl⟩
    have HB2 := hide (HB1.out.trans (q.is.mono HB1.out.size))
    clear C4 C5 hwr
    generalize q.val = w2 at *
    have HA2 := hide (HA.out.keep HB2.out)
    have HP2 := hide (HP.out.keep HB2.out)
    obtain ⟨k, hk⟩ : ∃ k, jleft J S = k := ⟨_, rfl⟩
    have hkz : min (max ((T.size : Int) - (J.synced : Int)) 0) (J.uns.size : Int) = (k : Int) := by
      rw [← hk, jleft, HJX.out, HTE.out]
      show _ = ((min (T.size - J.synced) J.uns.size : Nat) : Int)
      omega
    have hkl : k ≤ J.uns.size := by rw [← hk]; exact Nat.min_le_right _ _
    rw [hkz]
    clear hkz
    have HK := hide hk
    clear hk
    obtain ⟨c0, c1, c2, c3, c4, c5, c6, c7⟩ := cells8 HA2.out.head
    by_cases hke : k = J.uns.size
    · have HE := hide (show jmend J S = (S, 0) by rw [HM.out, if_neg (by simp), if_pos (by rw [HK.out, hke])])
      subst hke
      go_wp2_with fail
      go_ret
      exact FIN.out _ _ HB2.out (by rw [HE.out]; exact Or.inl ⟨rfl, rfl⟩) (by rw [HE.out])
    · have HE := hide (show jmend J S = doAppend S x (J.uns.extract k J.uns.size) by rw [HM.out, if_neg (by simp), if_neg (by rw [HK.out]; exact hke), HK.out])
      have hkz : ¬ (k : Int) = (J.uns.size : Int) := by omega
      go_wp2_with fail
      have HL2 := hide (fun q : Bw w2 => call_cls ((HLA.out q.val (HA2.out.keep q.is)).mono fun e w' ⟨h1, n, h2⟩ => ⟨h1, by rw [h2]; exact below_drewN' (Below.refl _ _)⟩))
      have HAB := hide (fun q : Bw w2 => call_cls (about ⟨#[109, 101, 110, 100, 105, 110, 103]⟩ (by decide) x hx0 hx1 q.val ((HT.out.below HB2.out).below q.is)))
      generalize aboutB ⟨#[109, 101, 110, 100, 105, 110, 103]⟩ x = y at HAB
      have C0 : ∀ q : Bw w2, q.val.cell? ⟨jb, 0, none⟩ = some (.pointer (some ⟨bx, 0, none⟩)) := fun q => (HA2.out.keep q.is).head.cell 0 _ rfl
      have C5 : ∀ q : Bw w2, q.val.cell? ⟨jb, 5, none⟩ = some (.string J.uns) := fun q => (HA2.out.keep q.is).head.cell 5 _ rfl
      clear c0 c1 c2 c3 c4 c5 c6 c7
      refine region_pre 15 (by kernel_rfl) (by kernel_rfl) ?_
      simp only [List.take_succ_cons, List.take_zero, List.drop_succ_cons, List.drop_zero]
      repeat (first
        | go_big_quiet_skip
        | (go_big_quiet_want; go_big_quiet_op; first | go_big_quiet_on | (apply Exists.intro; refine ⟨fun _ => ?_, ?_⟩; (first | (go_at_call 59; exact HL2.out _) | (go_at_call 61; exact HAB.out _)); go_big_quiet_on)))
      refine wpQuiet_nil ?_
      intro q
      have HB3 := hide (HB2.out.trans (q.is.mono HB2.out.size))
      clear C0 C5 HL2 HAB
      generalize q.val = w3 at *
      have HP3 := hide (HP.out.keep HB3.out)
      have hes : (J.uns.extract k J.uns.size).size ≤ J.uns.size := by simp [ByteArray.size_extract]
      have hap := append bx ba cap bs S x (J.uns.extract k J.uns.size) w3 HP3.out hG hl (by omega)
      go_wp2_with fail
      refine hap.mono ?_
      clear hap
      rintro e w4 ⟨rfl, ho4, ba', cap', bs', hP4, hf4⟩
      have HO4 := hide ((Off.of_below HB3.out).trans ho4)
      have HA4 := hide ((HA.out.keep HB3.out).off HP3.out ho4)
      have HP4 := hide hP4
      have HF4 := hide (show ∀ b ∈ pf bx ba' bs', b ∈ pf bx ba bs ∨ w.heap.size ≤ b from fun b hb => (hf4 b hb).imp id fun h => Nat.le_trans HB3.out.size h)
      have hdu := during y (doAppend S x (J.uns.extract k J.uns.size)).2 w4
      clear ho4 hP4 hf4
      go_wp2_with fail
      refine hdu.mono ?_
      clear hdu
      rintro e w5 ⟨⟨v, rfl, hv⟩, hb5⟩
      have HV := hide hv
      have HB5 := hide hb5
      clear hv hb5
      go_wp2_with fail
      go_ret
      refine ⟨_, rfl, by rw [HE.out]; exact HV.out, HA4.out.keep HB5.out, ⟨ba', cap', bs', by rw [HE.out]; exact HP4.out.keep HB5.out, HF4.out⟩, HO4.out.trans (Off.of_below HB5.out)⟩
  · have HE := hide (show jmend J S = (S, er) by rw [HM.out, if_pos her])
    go_wp2_with fail
    refine (HLA.out w1 HA1.out).mono ?_
    rintro e w2 ⟨rfl, n, rfl⟩
    have HB2 := hide (show Below w.heap.size w (w1.drewN n) from below_drewN' HB1.out)
    generalize w1.drewN n = w2 at *
    have hab := about ⟨#[114, 101, 97, 100, 105, 110, 103]⟩ (by decide) x hx0 hx1 w2 (HT.out.below HB2.out)
    go_wp2_with fail
    refine hab.mono ?_
    clear hab
    rintro e w3 ⟨rfl, hb3⟩
    generalize aboutB ⟨#[114, 101, 97, 100, 105, 110, 103]⟩ x = y
    have HB3 := hide (HB2.out.trans (hb3.mono HB2.out.size))
    have hdu := during y er w3
    clear hb3
    go_wp2_with fail
    refine hdu.mono ?_
    clear hdu
    rintro e w4 ⟨⟨v, rfl, hv⟩, hb4⟩
    have HV := hide hv
    have HB4 := hide (HB3.out.trans (hb4.mono HB3.out.size))
    clear hv hb4
    go_wp2_with fail
    go_ret
    exact FIN.out _ _ HB4.out (by rw [HE.out]; exact HV.out) (by rw [HE.out])
end Go.Proofs.YtmkidefdegaamaaGreatDoor.Jr
namespace Go.Proofs.YtmkidefdegaamaaGreatDoor.Jr
open Go.RowKit Mem Foot Bytes Im Wm Hi Plainw Cq Dm Dh
theorem pd_off {F : List Nat} {w w' : World} {bx ba cap : Nat} {bs : List Nat} {S : Dk} (h : PD w bx S ba cap bs) (ho : Off F w w') (hF : ∀ k ∈ pf bx ba bs, k ∉ F) : PD w' bx S ba cap bs := by
  have hbx : bx ∈ pf bx ba bs := by cases bs <;> exact List.mem_cons_self ..
  refine ⟨Foot.Sits.off h.head ho (hF bx hbx), h.len, fun hb => ?_, fun i b s h1 h2 => ?_, h.apart, h.capm⟩
  · obtain ⟨cs, h1, h2⟩ := h.arr hb
    refine ⟨cs, Foot.Sits.off h1 ho (hF ba ?_), h2⟩
    cases bs with
    | nil => exact absurd rfl hb
    | cons b r => exact List.mem_cons_of_mem _ (List.mem_cons_self ..)
  · refine Foot.Sits.off (h.seg i b s h1 h2) ho (hF b ?_)
    have hm := List.mem_of_getElem? h1
    cases bs with
    | nil => cases hm
    | cons b' r => exact List.mem_cons_of_mem _ (List.mem_cons_of_mem _ hm)
/-- All blocks of a journal and its disk, but for the sealed windows. -/
def jf (jb : Nat) (ov : Value) (bx ba : Nat) (bs : List Nat) : List Nat := jb :: (ov.ownBlock.toList ++ pf bx ba bs)
structure Jq (w w' : World) (jb bx : Nat) (J : Jn) (mv : Value) (S : Dk) (F : List Nat) : Prop where
  ex : ∃ ov ba cap bs, JA w' jb bx J mv ov ∧ PD w' bx S ba cap bs ∧ ∀ b ∈ jf jb ov bx ba bs, b ∈ F ∨ w.heap.size ≤ b
  off : Off F w w'
theorem JR.jq {w w' : World} {jb bx : Nat} {J : Jn} {mv ov : Value} {S : Dk} {ba : Nat} {bs : List Nat} (h : JR w w' jb bx J mv ov S ba bs) : Jq w w' jb bx J mv S (jf jb ov bx ba bs) := by
  obtain ⟨ba', cap', bs', h1, h2⟩ := h.pd
  refine ⟨⟨ov, ba', cap', bs', h.ja, h1, fun b hb => ?_⟩, h.off.mono fun k _ hk => List.mem_cons_of_mem _ (List.mem_append_right _ hk)⟩
  rcases List.mem_cons.1 hb with e | e
  · exact Or.inl (e ▸ List.mem_cons_self ..)
  · rcases List.mem_append.1 e with e | e
    · exact Or.inl (List.mem_cons_of_mem _ (List.mem_append_left _ e))
    · exact (h2 b e).imp (fun h => List.mem_cons_of_mem _ (List.mem_append_right _ h)) id
theorem Jq.keep {w w' w2 : World} {jb bx : Nat} {J : Jn} {mv : Value} {S : Dk} {F : List Nat} (h : Jq w w' jb bx J mv S F) (hb : Below w'.heap.size w' w2) : Jq w w2 jb bx J mv S F := by
  obtain ⟨ov, ba, cap, bs, h1, h2, h3⟩ := h.ex
  exact ⟨⟨ov, ba, cap, bs, h1.keep hb, h2.keep hb, h3⟩, h.off.trans (Off.of_below hb)⟩
/-- One after the other. -/
theorem Jq.trans {w w1 w2 : World} {jb bx : Nat} {J : Jn} {mv ov : Value} {S : Dk} {F : List Nat} {ba : Nat} {bs : List Nat} (ho : Off F w w1) (hf : ∀ b ∈ jf jb ov bx ba bs, b ∈ F ∨ w.heap.size ≤ b) (h : Jq w1 w2 jb bx J mv S (jf jb ov bx ba bs)) : Jq w w2 jb bx J mv S F := by
  obtain ⟨ov', ba', cap', bs', h1, h2, h3⟩ := h.ex
  refine ⟨⟨ov', ba', cap', bs', h1, h2, fun b hb => ?_⟩, ?_⟩
  · rcases h3 b hb with e | e
    · exact hf b e
    · exact Or.inr (Nat.le_trans ho.size e)
  · refine ⟨h.off.os.trans ho.os, h.off.tape.trans ho.tape, h.off.output.trans ho.output, Nat.le_trans ho.size h.off.size, fun k hk hF => ?_⟩
    rw [h.off.block k (Nat.lt_of_lt_of_le hk ho.size) fun hm => ?_]
    · exact ho.block k hk hF
    · rcases hf k hm with e | e
      · exact hF e
      · omega
/-- A store into the journal's own cells. -/
theorem JA.set {w : World} {jb bx : Nat} {J : Jn} {mv ov : Value} (h : JA w jb bx J mv ov) (t : ByteArray) : JA (w.setCell ⟨jb, 5, none⟩ (.string t)) jb bx { J with uns := t } mv ov := by
  have ho : Off [jb] w (w.setCell ⟨jb, 5, none⟩ (.string t)) := (Off.refl _ _).set (List.mem_singleton.2 rfl) _ _
  refine ⟨h.head.set 5 (.string t), own_off h.opn ho fun k hk e => ?_⟩
  rw [List.mem_singleton] at e
  subst e
  obtain ⟨cs, hs⟩ := sits_row h.opn hk
  have hh := h.head
  unfold Sits at hs hh
  rw [hs] at hh
  injection hh with hh
  injection hh with _ hh
  exact absurd hh (by decide)
theorem jf_mono {jb : Nat} {ov : Value} {bx ba ba1 : Nat} {bs bs1 : List Nat} {n : Nat} (h : ∀ b ∈ pf bx ba1 bs1, b ∈ pf bx ba bs ∨ n ≤ b) : ∀ b ∈ jf jb ov bx ba1 bs1, b ∈ jf jb ov bx ba bs ∨ n ≤ b := fun b hb => by
  rcases List.mem_cons.1 hb with e | e
  · exact Or.inl (e ▸ List.mem_cons_self ..)
  · rcases List.mem_append.1 e with e | e
    · exact Or.inl (List.mem_cons_of_mem _ (List.mem_append_left _ e))
    · exact (h b e).imp (fun h => List.mem_cons_of_mem _ (List.mem_append_right _ h)) id
/-- The journal's text behind a store. -/
theorem jq_set {w w' : World} {jb bx : Nat} {J : Jn} {mv ov : Value} {S : Dk} {ba : Nat} {bs : List Nat} (t : ByteArray) (h : JR w w' jb bx J mv ov S ba bs) : Jq w (w'.setCell ⟨jb, 5, none⟩ (.string t)) jb bx { J with uns := t } mv S (jf jb ov bx ba bs) := by
  obtain ⟨ba', cap', bs', h1, h2⟩ := h.pd
  have ho : Off [jb] w' (w'.setCell ⟨jb, 5, none⟩ (.string t)) := (Off.refl _ _).set (List.mem_singleton.2 rfl) _ _
  have hn := PD.not h1 h.ja.head (by decide) (by decide) (by decide)
  exact ⟨⟨ov, ba', cap', bs', h.ja.set t, pd_off h1 ho fun k hk e => hn (List.mem_singleton.1 e ▸ hk), jf_mono h2⟩, (h.jq.off).set (List.mem_cons_self ..) _ _⟩
def jadd (J : Jn) (S : Dk) (t : ByteArray) : Jn × Dk × Int :=
  if (jmend J S).2 ≠ 0 then (J, (jmend J S).1, (jmend J S).2)
  else if (doAppend (jmend J S).1 (jlast J) t).2 ≠ 0 then (J, (doAppend (jmend J S).1 (jlast J) t).1, (doAppend (jmend J S).1 (jlast J) t).2)
  else ({ J with uns := J.uns ++ t }, (doAppend (jmend J S).1 (jlast J) t).1, 0)
theorem mend_fit {J : Jn} {S : Dk} {k u : Nat} (h : Fit S k u) (hx : jlast J ≤ 9223372036854775807) : Fit (jmend J S).1 (k + 1) (u + J.uns.size) := by
  have up : Fit S (k + 1) (u + J.uns.size) := ⟨h.good, Nat.le_trans h.len (Nat.le_succ _), Nat.le_trans h.use (Nat.le_add_right _ _)⟩
  unfold jmend
  split
  · exact up
  · split
    · exact up
    · have h1 := fit_append h (jlast J) (J.uns.extract (jleft J S) J.uns.size) hx
      have h2 : (J.uns.extract (jleft J S) J.uns.size).size ≤ J.uns.size := by simp [ByteArray.size_extract]
      exact ⟨h1.good, h1.len, Nat.le_trans h1.use (by omega)⟩
set_option maxRecDepth 10000 in
set_option maxHeartbeats 2000000 in
theorem add (w0 w : World) (hT : Tab w0) (h0 : Below w0.heap.size w0 w) (jb bx : Nat) (J : Jn) (mv ov : Value) (S : Dk) (ba cap : Nat) (bs : List Nat) (t : ByteArray) (k u : Nat) (h : JA w jb bx J mv ov) (hP : PD w bx S ba cap bs) (hfar : ∀ b ∈ jf jb ov bx ba bs, w0.heap.size ≤ b) (hF : Fit S k u) (hk : k ≤ 100000000) (hu : u + J.uns.size + t.size ≤ 1000000000000) (hne : J.opn ≠ []) (hol : J.opn.length ≤ 1000000000) (hsy : J.synced ≤ 1000000000000) (hx0 : -9223372036854775808 ≤ jlast J) (hx1 : jlast J ≤ 9223372036854775807) :
    Calls Tryz.prog 55 #[.pointer (some ⟨jb, 0, none⟩), .string t] w fun e w' => ∃ v, e = .returned v ∧ ErrV w' v (jadd J S t).2.2 ∧ Jq w w' jb bx (jadd J S t).1 mv (jadd J S t).2.1 (jf jb ov bx ba bs) := by
  obtain ⟨l, x, hlx⟩ : ∃ l x, J.opn = l ++ [x] := ⟨J.opn.dropLast, J.opn.getLast hne, (List.dropLast_concat_getLast hne).symm⟩
  have hjx : jlast J = x := by unfold jlast; rw [hlx]; simp
  have HLA := hide (fun (w1 : World) (h1 : JA w1 jb bx J mv ov) => last w1 jb bx J mv ov h1 l x hlx hol)
  have hlen := hP.len
  have hfl := hF.len
  have hfu := hF.use
  have hme := mend w jb bx J mv ov S ba cap bs h hP (hT.below h0) hF.good (by omega) (by omega) hne hol hsy hx0 hx1
  have HF1 := hide (mend_fit (J := J) hF hx1)
  obtain ⟨S1, e1, hm1⟩ : ∃ S1 e1, jmend J S = (S1, e1) := ⟨_, _, rfl⟩
  have HM := hide (show jadd J S t = if e1 ≠ 0 then (J, S1, e1) else if (doAppend S1 x t).2 ≠ 0 then (J, (doAppend S1 x t).1, (doAppend S1 x t).2) else ({ J with uns := J.uns ++ t }, (doAppend S1 x t).1, 0) by unfold jadd; rw [hm1, hjx])
  rw [hm1] at hme HF1
  rw [hjx] at hx0 hx1
  have HT := hide hT
  have HB0 := hide h0
  have HFAR := hide hfar
  clear h hP hT hF hm1 hjx hlx hne hlen hfl hfu h0 hfar
  go_enter Tryz.func55, Tryz.ntmps55
  go_wp2_with fail
  refine hme.mono ?_
  clear hme
  rintro e w1 ⟨v, rfl, hv, hjr⟩
  have HJ1 := hide hjr
  clear hjr
  rcases hv with ⟨rfl, rfl⟩ | ⟨hne, fb, fz, rfl, hfs⟩
  · obtain ⟨ba1, cap1, bs1, hP1, hf1⟩ := HJ1.out.pd
    have HP1 := hide hP1
    have HF := hide (jf_mono (jb := jb) (ov := ov) hf1)
    have HA1 := hide HJ1.out.ja
    have hlen1 := hP1.len
    have hfl1 : S1.segs.length ≤ k + 1 := HF1.out.len
    have hfu1 : Dm.used S1.segs ≤ u + J.uns.size := HF1.out.use
    have HG1 := hide (show Dm.Good S1 from HF1.out.good)
    have HO1 := hide HJ1.out.jq.off
    have HL2 := hide (fun q : Bw w1 => call_cls ((HLA.out q.val (HA1.out.keep q.is)).mono fun e w' ⟨h1, n, h2⟩ => ⟨h1, by rw [h2]; exact below_drewN' (Below.refl _ _)⟩))
    have C0 : ∀ q : Bw w1, q.val.cell? ⟨jb, 0, none⟩ = some (.pointer (some ⟨bx, 0, none⟩)) := fun q => (HA1.out.keep q.is).head.cell 0 _ rfl
    clear hP1 hf1
    go_wp2_with fail
    refine region_pre 7 (by kernel_rfl) (by kernel_rfl) ?_
    simp only [List.take_succ_cons, List.take_zero, List.drop_succ_cons, List.drop_zero]
    repeat (first
      | go_big_quiet_skip
      | (go_big_quiet_want; go_big_quiet_op; first | go_big_quiet_on | (apply Exists.intro; refine ⟨fun _ => ?_, ?_⟩; (go_at_call 59; exact HL2.out _); go_big_quiet_on)))
    refine wpQuiet_nil ?_
    intro q
    have HB2 := hide q.is
    clear C0 HL2
    generalize q.val = w2 at *
    have hap := append bx ba1 cap1 bs1 S1 x t w2 (HP1.out.keep HB2.out) HG1.out (by omega) (by omega)
    go_wp2_with fail
    refine hap.mono ?_
    clear hap
    rintro e w3 ⟨rfl, ho3, ba2, cap2, bs2, hP3, hf3⟩
    have HR3 := hide (show JR w1 w3 jb bx J mv ov (doAppend S1 x t).1 ba1 bs1 from ⟨(HA1.out.keep HB2.out).off (HP1.out.keep HB2.out) ho3, ⟨ba2, cap2, bs2, hP3, fun b hb => (hf3 b hb).imp id fun h => Nat.le_trans HB2.out.size h⟩, (Off.of_below HB2.out).trans ho3⟩)
    clear ho3 hP3 hf3
    by_cases her : (doAppend S1 x t).2 = 0
    · have HE := hide (show jadd J S t = ({ J with uns := J.uns ++ t }, (doAppend S1 x t).1, 0) by rw [HM.out, if_neg (by simp), if_neg (by simpa using her)])
      rw [her]
      obtain ⟨c0, c1, c2, c3, c4, c5, c6, c7⟩ := cells8 HR3.out.ja.head
      have f5 := HR3.out.ja.head.frozen 5
      have HQ := hide (jq_set (J.uns ++ t) HR3.out)
      go_wp2_with fail
      go_ret
      exact ⟨_, rfl, by rw [HE.out]; exact Or.inl ⟨rfl, rfl⟩, by rw [HE.out]; exact Jq.trans HO1.out HF.out HQ.out⟩
    · have HE := hide (show jadd J S t = (J, (doAppend S1 x t).1, (doAppend S1 x t).2) by rw [HM.out, if_neg (by simp), if_pos her])
      have HQ := hide (Jq.trans HO1.out HF.out HR3.out.jq)
      have HT3 := hide (HT.out.below (HB0.out.trans (HQ.out.off.below HFAR.out HB0.out.size)))
      generalize (doAppend S1 x t).2 = er at *
      go_wp2_with fail
      refine (HLA.out w3 HR3.out.ja).mono ?_
      rintro e w4 ⟨rfl, n, rfl⟩
      have HB4 := hide (show Below w3.heap.size w3 (w3.drewN n) from below_drewN' (Below.refl _ _))
      generalize w3.drewN n = w4 at *
      have hab := about ⟨#[119, 114, 105, 116, 105, 110, 103, 32, 116, 111]⟩ (by decide) x hx0 hx1 w4 (HT3.out.below HB4.out)
      go_wp2_with fail
      refine hab.mono ?_
      clear hab
      rintro e w5 ⟨rfl, hb5⟩
      generalize aboutB ⟨#[119, 114, 105, 116, 105, 110, 103, 32, 116, 111]⟩ x = y
      have HB5 := hide (HB4.out.trans (hb5.mono HB4.out.size))
      have hdu := during y er w5
      clear hb5
      go_wp2_with fail
      refine hdu.mono ?_
      clear hdu
      rintro e w6 ⟨⟨v, rfl, hv⟩, hb6⟩
      have HV := hide hv
      have HB6 := hide (HB5.out.trans (hb6.mono HB5.out.size))
      clear hv hb6
      go_wp2_with fail
      go_ret
      exact ⟨_, rfl, by rw [HE.out]; exact HV.out, by rw [HE.out]; exact HQ.out.keep HB6.out⟩
  · have HE := hide (show jadd J S t = (J, S1, e1) by rw [HM.out, if_pos hne])
    have HV := hide (show ErrV w1 (.iface 178 (.pointer (some ⟨fb, 0, none⟩))) e1 from Or.inr ⟨hne, fb, fz, rfl, hfs⟩)
    clear hfs
    go_wp2_with fail
    go_ret
    refine ⟨_, rfl, by rw [HE.out]; exact HV.out, by rw [HE.out]; exact HJ1.out.jq⟩
end Go.Proofs.YtmkidefdegaamaaGreatDoor.Jr
namespace Go.Proofs.YtmkidefdegaamaaGreatDoor.Jr
open Go.RowKit Mem Foot Bytes Im Wm Hi Plainw Cq Dm Dh
theorem JA.set4 {w : World} {jb bx : Nat} {J : Jn} {mv ov : Value} (h : JA w jb bx J mv ov) (n : Nat) : JA (w.setCell ⟨jb, 4, none⟩ (.int .i64 (n : Int))) jb bx { J with synced := n } mv ov := by
  have ho : Off [jb] w (w.setCell ⟨jb, 4, none⟩ (.int .i64 (n : Int))) := (Off.refl _ _).set (List.mem_singleton.2 rfl) _ _
  refine ⟨h.head.set 4 (.int .i64 (n : Int)), own_off h.opn ho fun k hk e => ?_⟩
  rw [List.mem_singleton] at e
  subst e
  obtain ⟨cs, hs⟩ := sits_row h.opn hk
  have hh := h.head
  unfold Sits at hs hh
  rw [hs] at hh
  injection hh with hh
  injection hh with _ hh
  exact absurd hh (by decide)
/-- The journal's own cells written. -/
theorem jq_put {w w' w2 : World} {jb bx : Nat} {J J' : Jn} {mv ov : Value} {S : Dk} {ba : Nat} {bs : List Nat} (h : JR w w' jb bx J mv ov S ba bs) (ho : Off [jb] w' w2) (ha : JA w2 jb bx J' mv ov) : Jq w w2 jb bx J' mv S (jf jb ov bx ba bs) := by
  obtain ⟨ba', cap', bs', h1, h2⟩ := h.pd
  have hn := PD.not h1 h.ja.head (by decide) (by decide) (by decide)
  exact ⟨⟨ov, ba', cap', bs', ha, pd_off h1 ho fun k hk e => hn (List.mem_singleton.1 e ▸ hk), jf_mono h2⟩, (h.jq.off).trans (ho.mono fun k _ hk => List.mem_singleton.1 hk ▸ List.mem_cons_self ..)⟩
def jsync (J : Jn) (S : Dk) : Jn × Dk × Int :=
  if J.opn = [] then (J, S, 0)
  else if (jmend J S).2 ≠ 0 then (J, (jmend J S).1, (jmend J S).2)
  else if (doSync (jmend J S).1 (jlast J)).2 ≠ 0 then (J, (doSync (jmend J S).1 (jlast J)).1, (doSync (jmend J S).1 (jlast J)).2)
  else ({ J with synced := J.synced + J.uns.size, uns := ⟨#[]⟩ }, (doSync (jmend J S).1 (jlast J)).1, 0)
theorem pf_sub {bx ba : Nat} {bs : List Nat} {k : Nat} (h : k ∈ bx :: bs) : k ∈ pf bx ba bs := by
  cases bs with
  | nil => exact h
  | cons b r =>
    rcases List.mem_cons.1 h with e | e
    · exact e ▸ List.mem_cons_self ..
    · exact List.mem_cons_of_mem _ (List.mem_cons_of_mem _ e)
set_option maxRecDepth 10000 in
set_option maxHeartbeats 2000000 in
theorem syncJ (w0 w : World) (hT : Tab w0) (h0 : Below w0.heap.size w0 w) (jb bx : Nat) (J : Jn) (mv ov : Value) (S : Dk) (ba cap : Nat) (bs : List Nat) (k u : Nat) (h : JA w jb bx J mv ov) (hP : PD w bx S ba cap bs) (hfar : ∀ b ∈ jf jb ov bx ba bs, w0.heap.size ≤ b) (hF : Fit S k u) (hk : k ≤ 100000000) (hu : u + J.uns.size ≤ 1000000000000) (hol : J.opn.length ≤ 1000000000) (hsy : J.synced ≤ 1000000000000) (hx0 : -9223372036854775808 ≤ jlast J) (hx1 : jlast J ≤ 9223372036854775807) :
    Calls Tryz.prog 30 #[.pointer (some ⟨jb, 0, none⟩)] w fun e w' => ∃ v, e = .returned v ∧ ErrV w' v (jsync J S).2.2 ∧ Jq w w' jb bx (jsync J S).1 mv (jsync J S).2.1 (jf jb ov bx ba bs) := by
  by_cases hne : J.opn = []
  · have HE := hide (show jsync J S = (J, S, 0) by unfold jsync; rw [if_pos hne])
    have HQ := hide (JR.jq (show JR w w jb bx J mv ov S ba bs from ⟨h, ⟨ba, cap, bs, hP, fun b hb => Or.inl hb⟩, Off.refl _ _⟩))
    obtain ⟨c0, c1, c2, c3, c4, c5, c6, c7⟩ := cells8 h.head
    have hov : ∃ a c, ov = .slice a 0 c := by
      have hs := h.opn
      rw [hne] at hs
      rcases hs.2 with ⟨e, _⟩ | ⟨g, cp, cur, e, _⟩
      · exact ⟨_, _, e⟩
      · exact ⟨_, _, e⟩
    obtain ⟨oa, oc, rfl⟩ := hov
    clear h hP hF hfar
    go_enter Tryz.func30, Tryz.ntmps30
    go_wp2_with fail
    go_ret
    exact ⟨_, rfl, by rw [HE.out]; exact Or.inl ⟨rfl, rfl⟩, by rw [HE.out]; exact HQ.out⟩
  · obtain ⟨l, x, hlx⟩ : ∃ l x, J.opn = l ++ [x] := ⟨J.opn.dropLast, J.opn.getLast hne, (List.dropLast_concat_getLast hne).symm⟩
    have hjx : jlast J = x := by unfold jlast; rw [hlx]; simp
    have HLA := hide (fun (w1 : World) (h1 : JA w1 jb bx J mv ov) => last w1 jb bx J mv ov h1 l x hlx hol)
    have hlen := hP.len
    have hfl := hF.len
    have hfu := hF.use
    have hme := mend w jb bx J mv ov S ba cap bs h hP (hT.below h0) hF.good (by omega) (by omega) hne hol hsy hx0 hx1
    have HF1 := hide (mend_fit (J := J) hF hx1)
    obtain ⟨S1, e1, hm1⟩ : ∃ S1 e1, jmend J S = (S1, e1) := ⟨_, _, rfl⟩
    have HM := hide (show jsync J S = if e1 ≠ 0 then (J, S1, e1) else if (doSync S1 x).2 ≠ 0 then (J, (doSync S1 x).1, (doSync S1 x).2) else ({ J with synced := J.synced + J.uns.size, uns := ⟨#[]⟩ }, (doSync S1 x).1, 0) by unfold jsync; rw [if_neg hne, hm1, hjx])
    rw [hm1] at hme HF1
    rw [hjx] at hx0 hx1
    have HT := hide hT
    have HB0 := hide h0
    have HFAR := hide hfar
    obtain ⟨g, gcap, hov, hgc, hg, hgcell⟩ := row_ints h.opn (show J.opn[l.length]? = some x by rw [hlx]; exact List.getElem?_concat_length)
    have hol0 : ¬ (J.opn.length : Int) = 0 := by
      have : J.opn.length = l.length + 1 := by rw [hlx]; simp
      omega
    obtain ⟨c0, c1, c2, c3, c4, c5, c6, c7⟩ := cells8 h.head
    rw [hov] at c3
    have HOV := hide hov
    clear h hP hT hF hm1 hjx hlx hlen hfl hfu h0 hfar hov hgcell
    go_enter Tryz.func30, Tryz.ntmps30
    go_wp2_with fail
    refine hme.mono ?_
    clear hme c0 c1 c2 c3 c4 c5 c6 c7
    rintro e w1 ⟨v, rfl, hv, hjr⟩
    have HJ1 := hide hjr
    clear hjr
    rcases hv with ⟨rfl, rfl⟩ | ⟨hne, fb, fz, rfl, hfs⟩
    · obtain ⟨ba1, cap1, bs1, hP1, hf1⟩ := HJ1.out.pd
      have HP1 := hide hP1
      have HF := hide (jf_mono (jb := jb) (ov := ov) hf1)
      have HA1 := hide HJ1.out.ja
      have hlen1 := hP1.len
      have hfl1 : S1.segs.length ≤ k + 1 := HF1.out.len
      have HG1 := hide (show Dm.Good S1 from HF1.out.good)
      have HO1 := hide HJ1.out.jq.off
      have HL2 := hide (fun q : Bw w1 => call_cls ((HLA.out q.val (HA1.out.keep q.is)).mono fun e w' ⟨h1, n, h2⟩ => ⟨h1, by rw [h2]; exact below_drewN' (Below.refl _ _)⟩))
      have C0 : ∀ q : Bw w1, q.val.cell? ⟨jb, 0, none⟩ = some (.pointer (some ⟨bx, 0, none⟩)) := fun q => (HA1.out.keep q.is).head.cell 0 _ rfl
      clear hP1 hf1
      go_wp2_with fail
      refine region_pre 6 (by kernel_rfl) (by kernel_rfl) ?_
      simp only [List.take_succ_cons, List.take_zero, List.drop_succ_cons, List.drop_zero]
      repeat (first
        | go_big_quiet_skip
        | (go_big_quiet_want; go_big_quiet_op; first | go_big_quiet_on | (apply Exists.intro; refine ⟨fun _ => ?_, ?_⟩; (go_at_call 59; exact HL2.out _); go_big_quiet_on)))
      refine wpQuiet_nil ?_
      intro q
      have HB2 := hide q.is
      clear C0 HL2
      generalize q.val = w2 at *
      have hap := sync bx ba1 cap1 bs1 S1 x w2 (HP1.out.keep HB2.out) HG1.out (by omega)
      go_wp2_with fail
      refine hap.mono ?_
      clear hap
      rintro e w3 ⟨rfl, ho3, hP3⟩
      have ho3' : Off (pf bx ba1 bs1) w2 w3 := ho3.mono fun k _ hk => pf_sub hk
      have HR3 := hide (show JR w1 w3 jb bx J mv ov (doSync S1 x).1 ba1 bs1 from ⟨(HA1.out.keep HB2.out).off (HP1.out.keep HB2.out) ho3', ⟨ba1, cap1, bs1, hP3, fun b hb => Or.inl hb⟩, (Off.of_below HB2.out).trans ho3'⟩)
      clear ho3 ho3' hP3
      by_cases her : (doSync S1 x).2 = 0
      · have HE := hide (show jsync J S = ({ J with synced := J.synced + J.uns.size, uns := ⟨#[]⟩ }, (doSync S1 x).1, 0) by rw [HM.out, if_neg (by simp), if_neg (by simpa using her)])
        rw [her]
        have C4 : ∀ q : Bw w3, q.val.cell? ⟨jb, 4, none⟩ = some (.int .i64 (J.synced : Int)) := fun q => (HR3.out.ja.keep q.is).head.cell 4 _ rfl
        have C5 : ∀ q : Bw w3, q.val.cell? ⟨jb, 5, none⟩ = some (.string J.uns) := fun q => (HR3.out.ja.keep q.is).head.cell 5 _ rfl
        have HPE := hide (show (J.synced : Int) + (J.uns.size : Int) = ((J.synced + J.uns.size : Nat) : Int) by omega)
        have hus : J.uns.size ≤ 1000000000000 := by omega
        go_wp2_with fail
        refine region_pre 12 (by kernel_rfl) (by kernel_rfl) ?_
        simp only [List.take_succ_cons, List.take_zero, List.drop_succ_cons, List.drop_zero]
        repeat (first
          | go_big_quiet_skip
          | (go_big_quiet_want; go_big_quiet_op; go_big_quiet_on))
        refine wpQuiet_nil ?_
        intro q
        have HR4 := hide (show JR w1 q.val jb bx J mv ov (doSync S1 x).1 ba1 bs1 from ⟨HR3.out.ja.keep q.is, by
          obtain ⟨ba', cap', bs', h1, h2⟩ := HR3.out.pd
          exact ⟨ba', cap', bs', h1.keep q.is, h2⟩, HR3.out.off.trans (Off.of_below q.is)⟩)
        clear C4 C5
        generalize q.val = w4 at *
        have HA5 := hide (HR4.out.ja.set4 (J.synced + J.uns.size))
        rw [← HPE.out] at HA5
        have HA6 := hide (HA5.out.set ⟨#[]⟩)
        have HO6 := hide (show Off [jb] w4 ((w4.setCell ⟨jb, 4, none⟩ (.int .i64 ((J.synced : Int) + (J.uns.size : Int)))).setCell ⟨jb, 5, none⟩ (.string ⟨#[]⟩)) from ((Off.refl _ _).set (List.mem_singleton.2 rfl) _ _).set (List.mem_singleton.2 rfl) _ _)
        have c4 := HR4.out.ja.head.cell 4 _ rfl
        have f4 := HR4.out.ja.head.frozen 4
        have c5 := HA5.out.head.cell 5 _ rfl
        have f5 := HA5.out.head.frozen 5
        go_wp2_with fail
        go_ret
        exact ⟨_, rfl, by rw [HE.out]; exact Or.inl ⟨rfl, rfl⟩, by rw [HE.out]; exact Jq.trans HO1.out HF.out (jq_put HR4.out HO6.out HA6.out)⟩
      · have HE := hide (show jsync J S = (J, (doSync S1 x).1, (doSync S1 x).2) by rw [HM.out, if_neg (by simp), if_pos her])
        have HQ := hide (Jq.trans HO1.out HF.out HR3.out.jq)
        have HT3 := hide (HT.out.below (HB0.out.trans (HQ.out.off.below HFAR.out HB0.out.size)))
        generalize (doSync S1 x).2 = er at *
        go_wp2_with fail
        refine (HLA.out w3 HR3.out.ja).mono ?_
        rintro e w4 ⟨rfl, n, rfl⟩
        have HB4 := hide (show Below w3.heap.size w3 (w3.drewN n) from below_drewN' (Below.refl _ _))
        generalize w3.drewN n = w4 at *
        have hab := about ⟨#[115, 121, 110, 99, 105, 110, 103]⟩ (by decide) x hx0 hx1 w4 (HT3.out.below HB4.out)
        go_wp2_with fail
        refine hab.mono ?_
        clear hab
        rintro e w5 ⟨rfl, hb5⟩
        generalize aboutB ⟨#[115, 121, 110, 99, 105, 110, 103]⟩ x = y
        have HB5 := hide (HB4.out.trans (hb5.mono HB4.out.size))
        have hdu := during y er w5
        clear hb5
        go_wp2_with fail
        refine hdu.mono ?_
        clear hdu
        rintro e w6 ⟨⟨v, rfl, hv⟩, hb6⟩
        have HV := hide hv
        have HB6 := hide (HB5.out.trans (hb6.mono HB5.out.size))
        clear hv hb6
        go_wp2_with fail
        go_ret
        exact ⟨_, rfl, by rw [HE.out]; exact HV.out, by rw [HE.out]; exact HQ.out.keep HB6.out⟩
    · have HE := hide (show jsync J S = (J, S1, e1) by rw [HM.out, if_pos hne])
      have HV := hide (show ErrV w1 (.iface 178 (.pointer (some ⟨fb, 0, none⟩))) e1 from Or.inr ⟨hne, fb, fz, rfl, hfs⟩)
      clear hfs
      go_wp2_with fail
      go_ret
      refine ⟨_, rfl, by rw [HE.out]; exact HV.out, by rw [HE.out]; exact HJ1.out.jq⟩
end Go.Proofs.YtmkidefdegaamaaGreatDoor.Jr
