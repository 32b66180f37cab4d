/- A window's text. -/
import Derived.Test.YtenegfafjjknoaaGreatDoorWrx
namespace Go.Proofs.YtenegfafjjknoaaGreatDoor.Kr
open Go.RowKit Go.Maps Mem Foot Im Wm Hk Hb Hi Hn Plainw Cq Hs Sh Readw Wi Go.Sort Go.Shelf

attribute [local go_sem] Oper.semAt_some

theorem risingF (M : Nat) (w : World) : Calls Tryz.prog 92 #[.pointer (some ⟨M, 0, none⟩)] w fun e w' => e = .returned (.func (.func 145) #[] #[.pointer (some ⟨w.heap.size, 0, none⟩)]) ∧ w' = w.alloc (.cells #[.pointer (some ⟨M, 0, none⟩)] 135) := by
  go_enter Tryz.func92, Tryz.ntmps92
  go_wp2_with fail
  go_ret
  exact ⟨rfl, rfl⟩

theorem stexts_snoc (l : List (Bs × Ser)) (p : Bs × Ser) : stexts (l ++ [p]) = stexts l ++ (p.1 ++ [61] ++ stext p.2 ++ [10]) := by
  induction l with
  | nil => simp [stexts]
  | cons x r ih => simp [stexts, ih]

theorem stexts_le {l : List (Bs × Ser)} (h : ∀ p ∈ l, p.1.length + (stext p.2).length ≤ 300) : (stexts l).length ≤ 400 * l.length := by
  induction l with
  | nil => simp [stexts]
  | cons x r ih =>
    have h1 := h x (List.mem_cons_self ..)
    have h2 := ih fun p hp => h p (List.mem_cons_of_mem _ hp)
    simp only [stexts, List.length_append, List.length_cons, List.length_nil]
    omega

theorem buf_base {w : World} {B b : Nat} {v : Value} {bs : Bs} (h : BuAt w B b v bs) : ∀ k ∈ bfoot b v, B ≤ k := by
  intro k hk
  rcases List.mem_cons.1 hk with e | e
  · subst e
    exact h.base
  · rcases h.row.2 with ⟨e1, _⟩ | ⟨g, cap, cur, rfl, hb, _⟩
    · subst e1
      simp [Value.ownBlock] at e
    · simp [Value.ownBlock] at e
      subst e
      exact hb

theorem below_off {B : Nat} {w A C : World} {F : List Nat} (h : Below B w A) (ho : Off F A C) (hF : ∀ k ∈ F, B ≤ k) (hB : B ≤ A.heap.size) : Below B w C :=
  h.trans ⟨ho.os, ho.tape, ho.output, ho.size, fun k hk => ho.block k (by omega) (fun hm => by have := hF k hm; omega)⟩

theorem off_putObj {W : World} {l : Nat} {o' : Obj} : Off [l] W (W.putObj l o') :=
  ⟨rfl, rfl, rfl, by simp [World.putObj], fun k _ hk => World.putObj_heap_other (by simpa using hk)⟩

theorem bu_noObj {w : World} {B b k : Nat} {v : Value} {bs : Bs} {o : Obj} (h : BuAt w B b v bs) (hk : w.heap[k]? = some o) (ho : o.isCells = false) : k ∉ bfoot b v := by
  intro hm
  have : ∀ t cs, ¬ Sits w k t cs := fun t cs hs => by
    unfold Sits at hs
    rw [hk] at hs
    cases hs
    cases ho
  rcases List.mem_cons.1 hm with e | e
  · subst e
    rcases h.head with h1 | h1 <;> exact this _ _ h1
  · obtain ⟨cs', h1⟩ := sits_row h.row e
    exact this _ _ h1

theorem bu_off {w w' : World} {B b : Nat} {v : Value} {bs : Bs} {F : List Nat} (h : BuAt w B b v bs) (ho : Off F w w') (hF : ∀ k ∈ bfoot b v, k ∉ F) : BuAt w' B b v bs :=
  h.off ho (hF b (List.mem_cons_self ..)) (fun k hk => hF k (List.mem_cons_of_mem _ hk))

theorem bu_new (w : World) : BuAt (w.alloc (.cells #[.pointer none, .slice none 0 0] 130)) w.heap.size w.heap.size (.slice none 0 0) [] :=
  ⟨Or.inl (Sits.new _ _ _), World.ownsRow_nil _ _ _ _, Nat.le_refl _⟩

/-- Between two rounds. -/
def Inv (w : World) (b : Nat) (hd : Bs) (E : List Ent) (pre : List (Bs × Nat)) (W : World) : Prop :=
  (∃ v E1 E2, E = E1 ++ E2 ∧ pre = ptrOf E1 ∧ BuAt W b b v (hd ++ stexts (serOf E1))) ∧ Below b w W

theorem Inv.keep {w A B : World} {b : Nat} {hd : Bs} {E : List Ent} {pre : List (Bs × Nat)} (h : Inv w b hd E pre A) (hb : Below A.heap.size A B) (hz : b ≤ A.heap.size) : Inv w b hd E pre B := by
  obtain ⟨⟨v, E1, E2, e1, e2, h3⟩, h4⟩ := h
  exact ⟨⟨v, E1, E2, e1, e2, h3.keep hb⟩, h4.trans (hb.mono hz)⟩

theorem Inv.size {w A : World} {b : Nat} {hd : Bs} {E : List Ent} {pre : List (Bs × Nat)} (h : Inv w b hd E pre A) : b < A.heap.size := by
  obtain ⟨⟨v, E1, E2, e1, e2, h3⟩, h4⟩ := h
  rcases h3.head with h | h <;> exact h.lt

theorem Inv.off1 {w A B : World} {b k : Nat} {hd : Bs} {E : List Ent} {pre : List (Bs × Nat)} (h : Inv w b hd E pre A) (ho : Off [k] A B) (hk : b ≤ k) (hn : ∀ v bs, BuAt A b b v bs → k ∉ bfoot b v) : Inv w b hd E pre B := by
  have hz := h.size
  obtain ⟨⟨v, E1, E2, e1, e2, h3⟩, h4⟩ := h
  refine ⟨⟨v, E1, E2, e1, e2, bu_off h3 ho (fun j hj he => ?_)⟩, below_off h4 ho (by simpa using hk) (by omega)⟩
  simp only [List.mem_singleton] at he
  subst he
  exact hn v _ h3 hj

theorem ptr_append (a b : List Ent) : ptrOf (a ++ b) = ptrOf a ++ ptrOf b := by simp [ptrOf]
theorem ser_append (a b : List Ent) : serOf (a ++ b) = serOf a ++ serOf b := by simp [serOf]

/-- The next entry. -/
theorem next_ent {E E1 E2 : List Ent} {x : Bs × Nat} {pre post : List (Bs × Nat)} (h : E = E1 ++ E2) (hp : pre = ptrOf E1) (he : ptrOf E = pre ++ x :: post) : ∃ e E3, E2 = e :: E3 ∧ x = (e.1, e.2.1.X) := by
  subst h
  subst hp
  rw [ptr_append, List.append_cancel_left_eq] at he
  cases E2 with
  | nil => simp [ptrOf] at he
  | cons e E3 =>
    simp only [ptrOf, List.map_cons, List.cons.injEq] at he
    exact ⟨e, E3, rfl, he.1.symm⟩

set_option maxRecDepth 10000 in
set_option maxHeartbeats 4000000 in
theorem textW (num : Int) (p : WI) (L : Lim) (n rj dr : Nat) (E : List Ent) (w : World) (h : WiAt w p L rj dr E) (hf : WFit L n (winOf rj dr E)) (hL : LOk L) (hlv : Live (winOf rj dr E)) (ht : Tab w) (hn : n ≤ 1000000000000000) (hn0 : -9223372036854775808 ≤ num) (hn1 : num ≤ 9223372036854775807) :
    Calls Tryz.prog 42 #[.pointer (some ⟨p.P, 0, none⟩), .int .i64 num] w fun e w' => (∃ z, e = .returned (.string z) ∧ Bytes.B z = wtext num (winOf rj dr E)) ∧ Below w.heap.size w w' := by
  refine (callsIn_wide (n := 12)).1 ?_
  have HW := hide h
  have HF := hide hf
  have HLV := hide hlv
  have HT := hide ht
  have hrd : rj + dr ≤ n := hf.cnt
  have HB0 := hide (below_new (w := w) (.cells #[.pointer none, .slice none 0 0] 130))
  have HBU := hide (bu_new w)
  clear h hf hlv ht
  refine callsIn_of_wp_marks Tryz.func42 rfl trivial ?_ rfl
  simp only [Tryz.ntmps42, List.size_toArray, List.length_cons, List.length_nil, Nat.reduceAdd, Nat.reduceSub, Array.replicate_succ, Array.replicate_zero, List.push_toArray, List.append_toArray, List.nil_append, List.cons_append]
  gi_wp2_with fail
  obtain ⟨b, hb⟩ : ∃ b, w.heap.size = b := ⟨_, rfl⟩
  have HBE := hide hb
  rw [hb] at HBU
  rw [hb]
  clear hb
  generalize w.alloc (.cells #[.pointer none, .slice none 0 0] 130) = w1 at *
  have HW1 := hide (HW.out.keep HB0.out)
  have C7 : ∀ s : Bw w1, s.val.cell? ⟨p.P, 7, none⟩ = some (.int .i64 (rj : Int)) := fun s => (HW1.out.keep s.is).head.cell 7 _ rfl
  have C8 : ∀ s : Bw w1, s.val.cell? ⟨p.P, 8, none⟩ = some (.int .i64 (dr : Int)) := fun s => (HW1.out.keep s.is).head.cell 8 _ rfl
  have hit : ∀ (x : Int) (h0 : -9223372036854775808 ≤ x) (h1 : x ≤ 9223372036854775807), ∃ z : ByteArray, Bytes.B z = Lib.itoa x ∧ z.size ≤ 20 ∧ ∀ s : Bw w1, Calls Tryz.prog 91 #[.int .i64 x] s.val fun e w' => e = .returned (.string z) ∧ Below s.val.heap.size s.val w' := fun x h0 h1 => ⟨⟨(Lib.itoa x).toArray⟩, rfl, by rw [Bytes.size_B]; exact itoa_len h0 h1, fun s => (itoaG x h0 h1 s.val ((HT.out.below HB0.out).below s.is)).mono fun e w' ⟨⟨z, h1, h2, _⟩, h3⟩ => ⟨by
    have : z = ⟨(Lib.itoa x).toArray⟩ := Bytes.B_inj (by rw [h2]; rfl)
    rw [h1, this], h3⟩⟩
  obtain ⟨z0, hz0, L0, hA0⟩ := hit num hn0 hn1
  obtain ⟨z1, hz1, L1, hA1⟩ := hit (rj : Int) (by omega) (by omega)
  obtain ⟨z2, hz2, L2, hA2⟩ := hit (dr : Int) (by omega) (by omega)
  have HA0 := hide fun s => call_cls (hA0 s)
  have HA1 := hide fun s => call_cls (hA1 s)
  have HA2 := hide fun s => call_cls (hA2 s)
  have HZ := hide (And.intro hz0 (And.intro hz1 hz2))
  clear hit hA0 hA1 hA2 hz0 hz1 hz2
  gi_wp2_with fail
  rename_i hK
  have HKK := hide hK
  clear hK
  refine wpIn_wide.2 (region_pre 18 (by kernel_rfl) (by kernel_rfl) ?_)
  simp only [List.take_succ_cons, List.take_zero, List.drop_succ_cons, List.drop_zero]
  repeat (first
    | go_big_quiet_skip
    | (go_big_quiet_want; go_big_quiet_op; first | go_big_quiet_on | (apply Exists.intro; refine ⟨fun _ => ?_, ?_⟩; (first | exact HA0.out _ | exact HA1.out _ | exact HA2.out _); go_big_quiet_on)))
  refine wpQuiet_nil ?_
  intro s
  generalize hhs : ((((((⟨#[119, 105, 110, 100, 111, 119, 32]⟩ : ByteArray) ++ z0) ++ ⟨#[32, 114, 101, 106, 101, 99, 116, 115, 32]⟩) ++ z1) ++ ⟨#[32, 100, 114, 111, 112, 115, 32]⟩) ++ z2) ++ ⟨#[10]⟩ = hs
  have hB : Bytes.B hs = whead num rj dr := by
    obtain ⟨h1, h2, h3⟩ := HZ.out
    rw [← hhs, str_add, str_add, str_add, str_add, str_add, str_add, h1, h2, h3]
    rfl
  have hsz : hs.size ≤ 1000 := by
    obtain ⟨h1, h2, h3⟩ := HZ.out
    have e1 := Bytes.size_B z0
    have e2 := Bytes.size_B z1
    have e3 := Bytes.size_B z2
    rw [h1] at e1
    rw [h2] at e2
    rw [h3] at e3
    rw [Bytes.size_B, hB]
    simp only [whead, List.length_append, List.length_cons, List.length_nil]
    omega
  have hwr := writeString b b (.slice none 0 0) [] hs s.val (HBU.out.keep s.is) (by simp; omega)
  have HBs := hide (show Below b w s.val by rw [← HBE.out]; exact HB0.out.trans (s.is.mono HB0.out.size))
  have HBUs := hide (HBU.out.keep s.is)
  have HHB := hide hB
  clear hhs hB C7 C8
  go_wp2_with fail
  refine hwr.mono ?_
  clear hwr
  rintro e w2 ⟨rfl, ho, v', hbu⟩
  rw [HHB.out, List.nil_append] at hbu
  have HB2 := hide (show Below b w w2 from below_off HBs.out ho (buf_base HBUs.out) (by
    have := HBUs.out.head
    rcases this with h | h <;> exact Nat.le_of_lt h.lt))
  have HBU2 := hide hbu
  clear ho hbu
  have HW2 := hide (HW.out.keep (by rw [HBE.out]; exact HB2.out))
  have c6 : w2.cell? ⟨p.P, 6, none⟩ = some (.pointer (some ⟨p.M, 0, none⟩)) := HW2.out.head.cell 6 _ rfl
  go_wp2_with fail
  refine HKK.out _ _ ?_
  gi_wp2_with fail
  refine ⟨trivial, (callsIn_wide.2 (risingF p.M w2)).mono ?_⟩
  rintro e w3 ⟨rfl, rfl⟩
  have HX := hide (Sits.new w2 135 #[.pointer (some ⟨p.M, 0, none⟩)])
  have HB3 := hide (below_new (w := w2) (.cells #[.pointer (some ⟨p.M, 0, none⟩)] 135))
  have hbl : b < w2.heap.size := by
    rcases HBU2.out.head with h | h <;> exact h.lt
  have HI3 := hide (show Inv w b (whead num rj dr) E [] (w2.alloc (.cells #[.pointer (some ⟨p.M, 0, none⟩)] 135)) from
    Inv.keep ⟨⟨v', [], E, rfl, rfl, by simpa [serOf, stexts] using HBU2.out⟩, HB2.out⟩ HB3.out (Nat.le_of_lt hbl))
  have HSH := hide (HW2.out.sh.keep HB3.out)
  have hle : E.length ≤ 32 := by
    have h1 := HF.out.len
    have h2 := hL.s
    have h3 := ser_length E
    have h4 : (winOf rj dr E).ser = serOf E := rfl
    rw [h4] at h1
    omega
  obtain ⟨X, hX⟩ : ∃ X, w2.heap.size = X := ⟨_, rfl⟩
  rw [hX] at HX hbl
  rw [hX]
  have HXE := hide hX
  have hzz : (w2.alloc (.cells #[.pointer (some ⟨p.M, 0, none⟩)] 135)).heap.size = X + 1 := by simp [hX]
  clear hX c6
  generalize w2.alloc (.cells #[.pointer (some ⟨p.M, 0, none⟩)] 135) = w3 at *
  gi_wp2_with fail
  have hent : (ptrOf E).length ≤ 1000 := by rw [ptr_length]; omega
  have HKL := hide (show ∀ x ∈ ptrOf E, x.1.length ≤ 1000 from fun x hx => by
    simp only [ptrOf, List.mem_map] at hx
    obtain ⟨y, hy, rfl⟩ := hx
    have := (HF.out.ser (y.1, y.2.2) (List.mem_map.2 ⟨y, hy, rfl⟩)).klen
    simp only at this ⊢
    omega)
  apply range_ 6 X p.M p.R p.bs (ptrOf E) rfl rfl HX.out HSH.out (up_ptr.2 (up_ser.1 HF.out.up)) hent HKL.out (Inv w b (whead num rj dr) E)
    (fun s A B hi hb => Inv.keep hi hb (Nat.le_of_lt hi.size))
    (fun s A Rk i u cs hi hR hs => Inv.off1 hi ((Off.refl _ _).set (F := [Rk]) (by simp) _ _) (by omega) (fun v bs hbu => hbu.noT _ (by decide) (by decide) _ _ hs))
    (fun s A l o o' hi hl hlo ho => Inv.off1 hi off_putObj (by omega) (fun v bs hbu => bu_noObj hbu hlo ho)) HI3.out
  case hassign =>
    intro l x W K hK
    gi_wp2_with fail
    exact hK
  case hbody =>
    intro l pre x post W hi he
    obtain ⟨⟨v, E1, E2, e1, e2, hbu⟩, hbl2⟩ := hi
    obtain ⟨en, E3, rfl, rfl⟩ := next_ent e1 e2 he
    have HWn := hide (HW.out.keep (by rw [HBE.out]; exact hbl2))
    have hmem : en ∈ E := by rw [e1]; simp
    have hms : (en.1, en.2.2) ∈ (winOf rj dr E).ser := List.mem_map.2 ⟨en, hmem, rfl⟩
    have hfit := HF.out.ser _ hms
    have hsx := seText L n en.1 en.2.1 en.2.2 W (HWn.out.ser en hmem) hfit (HT.out.below (by rw [HBE.out]; exact hbl2)) hn hL.b1 (by have := hL.t; omega) (fun t ht => HLV.out _ hms t ht)
    have htl := stext_len hfit (by have := hL.t; omega)
    have hkl := hfit.klen
    have hz : (hs.size : Int) = hs.size := rfl
    have hlen : (whead num rj dr ++ stexts (serOf E1)).length ≤ 1000 + 400 * 32 := by
      have h1 : (stexts (serOf E1)).length ≤ 400 * (serOf E1).length := stexts_le fun q hq => by
        have hq' : q ∈ (winOf rj dr E).ser := by
          show q ∈ serOf E
          rw [e1, ser_append]
          exact List.mem_append_left _ hq
        have hq1 := HF.out.ser _ hq'
        have hq2 := stext_len hq1 (by have := hL.t; omega)
        have hq3 := hq1.klen
        omega
      have h2 : (serOf E1).length ≤ 32 := by
        rw [ser_length]
        have : E1.length ≤ E.length := by rw [e1]; simp
        omega
      have h3 := Bytes.size_B hs
      rw [HHB.out] at h3
      rw [List.length_append]
      omega
    have HE1 := hide e1
    have HE2 := hide e2
    have HBW := hide hbu
    have HBL := hide hbl2
    have kz : (⟨en.1.toArray⟩ : ByteArray).size ≤ 64 := by
      rw [Bytes.size_B]
      exact hkl
    have HKK2 := hide (show Bytes.B ⟨en.1.toArray⟩ = en.1 from rfl)
    clear e1 e2 hbu hbl2 hms hfit hkl he hz
    generalize hkb : (⟨en.1.toArray⟩ : ByteArray) = kb at *
    have HKB := hide hkb
    clear hkb
    gi_wp2_with fail
    refine ⟨trivial, (CallsIn.inRound l (callsIn_wide.2 hsx)).mono ?_⟩
    clear hsx
    rintro e W2 ⟨⟨z, rfl, hz⟩, hb2⟩
    have hzl : z.size ≤ 200 := by rw [Bytes.size_B, hz]; exact htl
    have HZZ := hide hz
    have HBb := hide hb2
    have HBW2 := hide (HBW.out.keep hb2)
    clear hz hb2
    gi_wp2_with fail
    generalize hss : ((kb ++ ⟨#[61]⟩) ++ z) ++ ⟨#[10]⟩ = ss
    have hBs : Bytes.B ss = en.1 ++ [61] ++ stext en.2.2 ++ [10] := by
      rw [← hss, str_add, str_add, str_add, HZZ.out, HKK2.out]
      rfl
    have hssz : ss.size ≤ 1000 := by
      have h1 := Bytes.size_B z
      have h2 := Bytes.size_B kb
      rw [HZZ.out] at h1
      rw [HKK2.out] at h2
      rw [Bytes.size_B, hBs]
      simp only [List.length_append, List.length_cons, List.length_nil]
      omega
    have hwr := writeString b b v _ ss W2 HBW2.out (by omega)
    refine ⟨trivial, (CallsIn.inRound l (callsIn_wide.2 hwr)).mono ?_⟩
    clear hwr
    rintro e W3 ⟨rfl, ho, v3, hbu3⟩
    have HO := hide ho
    have HBU3 := hide hbu3
    have HBS := hide hBs
    clear ho hbu3 hBs hss
    gi_wp2_with fail
    refine ⟨(Keep.of_below HBb.out).trans (keep_of_off HBW2.out HO.out), ⟨⟨v3, E1 ++ [en], E3, ?_, ?_, ?_⟩, ?_⟩⟩
    · rw [HE1.out]
      simp
    · rw [HE2.out, ptr_append]
      rfl
    · have h5 := HBU3.out
      rw [HBS.out] at h5
      rw [ser_append]
      show BuAt W3 b b v3 (whead num rj dr ++ stexts (serOf E1 ++ [(en.1, en.2.2)]))
      rw [stexts_snoc, ← List.append_assoc]
      exact h5
    · have hz2 : b < W.heap.size := by
        rcases HBW.out.head with h | h <;> exact h.lt
      have hz3 := HBb.out.size
      exact below_off (HBL.out.trans (HBb.out.mono (Nat.le_of_lt hz2))) HO.out (buf_base HBW2.out) (by omega)
  case hdone =>
    intro D W hD hi hK
    obtain ⟨⟨v, E1, E2, e1, e2, hbu⟩, hbl2⟩ := hi
    have hE : E1 = E := by
      have h1 : (ptrOf E).length = (ptrOf E1).length := by rw [e2]
      rw [ptr_length, ptr_length, e1, List.length_append] at h1
      have : E2 = [] := List.eq_nil_of_length_eq_zero (by omega)
      rw [e1, this, List.append_nil]
    subst hE
    have hst := stringOff b b v _ W hbu (by
      have h1 := whead_len num rj dr
      intro h2
      rw [List.append_eq_nil_iff] at h2
      rw [h2.1] at h1
      simp at h1)
    have HKD := hide hK
    have HBL := hide hbl2
    have HBU5 := hide hbu
    have hz5 : b < W.heap.size := by
      rcases hbu.head with h | h <;> exact h.lt
    clear hK hbl2 hbu e1 e2
    gi_wp2_with fail
    refine ⟨trivial, (callsIn_wide.2 hst).mono ?_⟩
    clear hst
    rintro e W6 ⟨rfl, ho6⟩
    have HK6 := hide (show W6.heap[D]? = some (.deferred (some [])) from (ho6.block D (Array.getElem?_eq_some_iff.1 HKD.out).1 (bu_noObj HBU5.out HKD.out rfl)).trans HKD.out)
    have HB6 := hide (below_off HBL.out ho6 (buf_base HBU5.out) (Nat.le_of_lt hz5))
    clear ho6
    generalize hrs : (⟨(whead num rj dr ++ stexts (serOf E1)).toArray⟩ : ByteArray) = rs
    have hBr : Bytes.B rs = wtext num (winOf rj dr E1) := by
      rw [← hrs]
      rfl
    have HBR := hide hBr
    clear hrs hBr
    gi_wp2_with fail
    refine ⟨by simp, .inl ⟨_, _, rfl, run_takeDeferred HK6.out, ?_⟩⟩
    refine ⟨_, results_tmp rfl _ _ _, ⟨rs, rfl, HBR.out⟩, ?_⟩
    rw [HBE.out]
    exact HB6.out.trans (belowK_b (w := w) (by rw [HBE.out]; exact Nat.le_refl _) W6 D _ _ (by rw [HBE.out]; omega) HK6.out rfl rfl)

end Go.Proofs.YtenegfafjjknoaaGreatDoor.Kr
