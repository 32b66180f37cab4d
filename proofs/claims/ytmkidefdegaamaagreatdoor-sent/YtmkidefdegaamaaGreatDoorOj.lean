/- The records of all segments, one by one: the iterator. -/
import Derived.Test.YtmkidefdegaamaaGreatDoorOdy
import Derived.Test.YtmkidefdegaamaaGreatDoorJoy
namespace Go.Proofs.YtmkidefdegaamaaGreatDoor.Jr
open Go.RowKit Go.Maps Mem Foot Bytes Im Wm Hi Plainw Cq
attribute [local go_sem] Oper.semAt_some
/-- These segments have these records, up to the first that is not whole. -/
def Told : List (Int × ByteArray) → List (Int × List Rc) → Prop
  | [], [] => True
  | (n, t) :: l, (m, rs) :: ss => n = m ∧ (∀ r ∈ rs, r.Ok) ∧ t.size ≤ 140737488355328 ∧ ((B t = stx rs ∧ Told l ss) ∨ ∃ y, y ≠ [] ∧ (rdr y).2 = false ∧ B t = stx rs ++ y ∧ ss = [])
  | _, _ => False
/-- A segment of a text as cells. -/
def scells (x : Int × ByteArray) : List Value := [.int .i64 x.1, .string x.2]
/-- What a round must keep: all that is old, and all segments and lists of segments. -/
def Sk0 (n0 : Nat) (A C : World) : Prop := Below n0 A C ∧ ∀ (k : Nat) (cs : Array Value) (t : TypeId), Sits A k t cs → t = 143 ∨ t = 91 → Sits C k t cs
theorem Sk0.trans {n0 : Nat} {A C D : World} (h : Sk0 n0 A C) (k : Sk0 n0 C D) : Sk0 n0 A D := ⟨h.1.trans k.1, fun b cs t hs ht => k.2 b cs t (h.2 b cs t hs ht) ht⟩
theorem Sk0.of_below {n0 : Nat} {A C : World} (h : Below A.heap.size A C) (hn : n0 ≤ A.heap.size) : Sk0 n0 A C := ⟨h.mono hn, fun _ _ _ hs _ => Mem.Sits.below hs h hs.lt⟩
/-- A record that may be yielded. -/
abbrev Yr := { x : Et // x.2.Ok }
def encY (x : Yr) : Array Value := #[.agg #[.int .i64 x.1.1.1, .int .i64 (x.1.1.2 : Int)], x.1.2.val]
def unY (l : List Yr) : List Et := l.map (·.1)
theorem unY_append (a b : List Yr) : unY (a ++ b) = unY a ++ unY b := List.map_append ..
theorem grown_below {A C : World} (h : Below A.heap.size A C) : A.grownBy C none := ⟨h.os, h.tape, h.output, h.size, fun k hk _ => h.block k hk⟩
theorem row_cell {w : World} {base size n : Nat} {e : TypeId} {v : Value} {xs : List Value} (h : w.ownsRow base e size v n xs) {i : Nat} {u : Value} (hi : xs[i]? = some u) : ∃ g cap, v = .slice (some ⟨g, 0, none⟩) n cap ∧ n ≤ cap ∧ (∃ cs, Sits w g e cs) ∧ w.cell? ⟨g, i, none⟩ = some u := by
  rcases h.2 with ⟨_, h0⟩ | ⟨g, cap, cur, rfl, hb, hg, hn, _, _, ht⟩
  · have h1 := h.1
    have h2 := (List.getElem?_eq_some_iff.1 hi).1
    subst h0
    simp at h1
    rw [h1] at hi
    cases hi
  · have hs : Sits w g e cur := hg
    refine ⟨g, cap, rfl, hn, ⟨_, hs⟩, ?_⟩
    rw [← ht, List.getElem?_take] at hi
    split at hi
    · exact hs.cell i u (by simpa using hi)
    · cases hi
theorem scells_at : ∀ {l : List (Int × ByteArray)} {i : Nat} {x : Int × ByteArray}, l[i]? = some x → (l.flatMap scells)[i * 2]? = some (.int .i64 x.1) ∧ (l.flatMap scells)[i * 2 + 1]? = some (.string x.2) := by
  intro l
  induction l with
  | nil => intro i x h; cases h
  | cons y l ih =>
    intro i x h
    cases i with
    | zero =>
      simp only [List.getElem?_cons_zero, Option.some.injEq] at h
      subst h
      exact ⟨rfl, rfl⟩
    | succ i =>
      have h1 := ih (by simpa using h)
      have h0 : ∀ j, ((y :: l).flatMap scells)[(i + 1) * 2 + j]? = (l.flatMap scells)[i * 2 + j]? := fun j => by
        rw [List.flatMap_cons, show (i + 1) * 2 + j = i * 2 + j + 1 + 1 by omega]
        rfl
      exact ⟨(h0 0).trans h1.1, (h0 1).trans h1.2⟩
theorem row_sk {n0 : Nat} {w w' : World} {base n : Nat} {v : Value} {xs : List Value} (h : w.ownsRow base 143 2 v n xs) (hk : Sk0 n0 w w') : w'.ownsRow base 143 2 v n xs := by
  refine ⟨h.1, ?_⟩
  rcases h.2 with h0 | ⟨g, cap, cur, rfl, h1, hg, h2⟩
  · exact Or.inl h0
  · exact Or.inr ⟨g, cap, cur, rfl, h1, hk.2 g cur _ hg (Or.inl rfl), h2⟩
theorem tx_drop {t : ByteArray} {a x : Bs} (h : B t = a ++ x) : B (t.extract a.length t.size) = x := by
  rw [B_extract, size_B, h, List.drop_left, List.length_append, Nat.add_sub_cancel_left, List.take_length]
theorem Rd.whole {e : Ending} {r : Rc} (h : Rd e (([r.k], r.n, B r.t), true)) : e = .returned (.tuple #[.agg #[.string ⟨#[r.k]⟩, .int .i64 r.n, .string r.t], .bool true]) := by
  obtain ⟨k, t, h1, h2, h3⟩ := h
  have e1 : k = ⟨#[r.k]⟩ := B_inj (by rw [h2]; rfl)
  have e2 : t = r.t := B_inj h3
  rw [h1, e1, e2]
theorem Rc.Ok.read {r : Rc} (h : r.Ok) (x : Bs) : rdr (r.tx ++ x) = (([r.k], r.n, B r.t), true) := by
  refine rdr_whole ?_ h.n0 h.n1 ?_ x
  · intro e
    have hk := h.k
    rw [e] at hk
    revert hk
    decide
  · rw [← size_B]
    have := h.t
    omega
theorem stx_snoc (a : List Rc) (r : Rc) : stx (a ++ [r]) = stx a ++ r.tx := by simp [stx]
theorem tx_pos (r : Rc) : 0 < r.tx.length := by
  unfold Rc.tx wrec
  simp only [List.length_append, List.length_singleton]
  omega
set_option maxRecDepth 10000 in
set_option maxHeartbeats 4000000 in
theorem recSeq (w0 w : World) (hT : Tab w0) (hE : Ers w0) (hw : Below w0.heap.size w0 w) (m : Nat) (hm : 1 ≤ m) (Bx : Nat) (sv : Value) (l : List (Int × ByteArray)) (ss : List (Int × List Rc)) (hbox : Sits w Bx 91 #[sv]) (hrow : w.ownsRow 0 143 2 sv l.length (l.flatMap scells)) (ht : Told l ss) (hl : l.length ≤ 1000000000) :
    SeqStopsK Fence.wide m Tryz.prog 99 #[.pointer (some ⟨Bx, 0, none⟩)] encY (Sk0 w0.heap.size) (fun xs => unY xs = ents ss) (fun pre => ∃ post, unY pre ++ post = ents ss) (ents ss).length w := by
  intro lp J Jx W hb hJ hJx hY h0
  obtain ⟨va, vc, hov⟩ := own_shapeJ hrow
  subst hov
  have HWW := hide (show Below w0.heap.size w0 W from hw.trans (hb.mono hw.size))
  have HBX := hide (Mem.Sits.below hbox hb hbox.lt)
  have HRW := hide (own_keep hrow hb)
  have HY := hide hY
  have HJA := hide hJ
  have H0 := hide h0
  have HT := hide hT
  have HE := hide hE
  have HTO := hide ht
  have c0 := HBX.out.cell 0 _ rfl
  clear hbox hrow hY h0 hb hJ hJx hT hE ht hw
  refine callsIn_of_wp Tryz.func99 rfl trivial ?_ rfl
  simp only [Tryz.ntmps99, List.size_toArray, List.length_cons, List.length_nil, Nat.reduceAdd, Nat.reduceSub, Array.replicate_succ, Array.replicate_zero, List.push_toArray, List.append_toArray, List.nil_append, List.cons_append]
  gi_wp2_with fail
  clear c0
  gi_loopw [10] (fun a wr => ∃ (k : Nat) (pre : List Yr) (rest : List (Int × List Rc)), a = .int .i64 (k : Int) ∧ k ≤ l.length ∧ Hid (Told (l.drop k) rest) ∧ Hid (unY pre ++ ents rest = ents ss) ∧ Hid (J pre wr) ∧ Hid (Sk0 w0.heap.size W wr)) (fun a _ => l.length - (intOf a).toNat)
  case atStart => exact ⟨0, [], ss, rfl, Nat.zero_le _, HTO.out, by simp [unY, Hid], H0.out, Sk0.of_below (Below.refl _ _) HWW.out.size⟩
  case round =>
    obtain ⟨k, pre, rest, rfl, hkl, HTL, HEN, HJ, HK⟩ := hrel
    rcases Nat.lt_or_ge k l.length with hk | hk
    · obtain ⟨⟨num, t⟩, hx⟩ : ∃ x, l[k]? = some x := ⟨_, List.getElem?_eq_getElem hk⟩
      have hdr : l.drop k = (num, t) :: l.drop (k + 1) := by
        rw [List.drop_eq_getElem_cons hk]
        congr 1
        rw [List.getElem?_eq_getElem hk] at hx
        exact Option.some.inj hx
      rw [hdr] at HTL
      have htl := HTL.out
      cases rest with
      | nil => exact htl.elim
      | cons p rest =>
        obtain ⟨num', rs⟩ := p
        obtain ⟨rfl, hok, hts, hor⟩ := htl
        obtain ⟨r1, r2⟩ := scells_at hx
        obtain ⟨g, cap, hv, hcap, ⟨cs, hsg⟩, d1⟩ := row_cell (row_sk HRW.out HK.out) r1
        obtain ⟨g', cap', hv', _, _, d2⟩ := row_cell (row_sk HRW.out HK.out) r2
        injection hv with e1 _ e3
        injection hv' with e1' _ _
        rw [e1] at e1'
        have eg : g = g' := by injection e1' with e; injection e
        rw [← eg] at d2
        subst e1
        subst e3
        clear e1' eg r1 r2 hdr hx HTL
        have HOK := hide hok
        have HOR := hide hor
        have hs1 := Sits.new wr 143 #[.int .i64 num, .string t]
        have hb1 := below_new (w := wr) (.cells #[.int .i64 num, .string t] 143)
        have hz1 : w0.heap.size ≤ wr.heap.size := Nat.le_trans HWW.out.size HK.out.1.size
        have HK1 := hide (HK.out.trans (Sk0.of_below hb1 hz1))
        have HJ1 := hide (HJA.out pre _ _ none HJ.out (grown_below hb1) (fun _ e => by cases e))
        have HS1 := hide hs1
        clear hs1 hb1 hok hor HJ HK
        gi_wp2_with fail
        obtain ⟨sb, hsb⟩ : ∃ sb, wr.heap.size = sb := ⟨_, rfl⟩
        rw [hsb] at HS1 ⊢
        clear hsb d1 d2
        generalize wr.alloc (.cells #[.int .i64 num, .string t] 143) = wr1 at *
        have HEN1 := hide (show unY pre ++ (ents1 num 0 rs ++ ents rest) = ents ss from HEN.out)
        gi_loopw [5] (fun a wq => ∃ (dn lf : List Rc) (pre' : List Yr), a = .int .i64 ((stx dn).length : Int) ∧ Hid (rs = dn ++ lf) ∧ Hid (unY pre' = unY pre ++ ents1 num 0 dn) ∧ Hid (J pre' wq) ∧ Hid (Sk0 w0.heap.size W wq) ∧ Hid (Sits wq sb 143 #[.int .i64 num, .string t])) (fun a _ => t.size - (intOf a).toNat)
        case atStart => exact ⟨[], rs, pre, rfl, rfl, by simp [ents1, Hid], HJ1, HK1, HS1⟩
        case round =>
          obtain ⟨dn, lf, pre', rfl, HRS, HPR, HJq, HKq, HSq⟩ := hrel
          obtain ⟨y, hy, hyc⟩ : ∃ y, B t = stx rs ++ y ∧ ((y = [] ∧ Told (l.drop (k + 1)) rest) ∨ (y ≠ [] ∧ (rdr y).2 = false ∧ rest = [])) := by
            rcases HOR.out with ⟨h1, h2⟩ | ⟨y, h1, h2, h3, h4⟩
            · exact ⟨[], by rw [h1, List.append_nil], Or.inl ⟨rfl, h2⟩⟩
            · exact ⟨y, h3, Or.inr ⟨h1, h2, h4⟩⟩
          have hBt : B t = stx dn ++ (stx lf ++ y) := by rw [hy, HRS.out, stx_append, List.append_assoc]
          have hsz : t.size = (stx dn).length + ((stx lf).length + y.length) := by rw [size_B, hBt, List.length_append, List.length_append]
          have htd := tx_drop hBt
          have hes : (t.extract (stx dn).length t.size).size ≤ 140737488355328 := by
            rw [size_B, htd, List.length_append]
            omega
          have q0 : wr.cell? ⟨sb, 0, none⟩ = some (.int .i64 num) := HSq.out.cell 0 _ rfl
          have q1 : wr.cell? ⟨sb, 1, none⟩ = some (.string t) := HSq.out.cell 1 _ rfl
          have HTq := hide (HT.out.below (HWW.out.trans HKq.out.1))
          have HEq := hide (HE.out.keep (HWW.out.trans HKq.out.1))
          have hzq : w0.heap.size ≤ wr.heap.size := Nat.le_trans HWW.out.size HKq.out.1.size
          have hrr := readRecord (t.extract (stx dn).length t.size) hes wr HTq.out HEq.out
          rw [htd] at hrr
          have HYC := hide hyc
          have HBT := hide hBt
          clear hy hyc hBt htd hes
          cases lf with
          | nil =>
            have hrs : rs = dn := by rw [HRS.out, List.append_nil]
            by_cases hyn : y = []
            · have hge : ¬ ((stx dn).length : Int) < (t.size : Int) := by
                rw [hsz, hyn]
                simp [stx]
              have HTN := hide (show Told (l.drop (k + 1)) rest from HYC.out.elim (fun h => h.2) fun h => absurd hyn h.1)
              have HEQ := hide (show unY pre' ++ ents rest = ents ss by rw [HPR.out, ← hrs, List.append_assoc]; exact HEN1.out)
              clear hrr hrs hyn hsz
              gi_wp2_with fail
              go_roundw
              case rel => exact ⟨_, _, _, _, _, ⟨k + 1, by go_num, by omega, pre', rest, HTN, HEQ, HJq⟩, rfl, rfl, rfl, rfl, rfl⟩
              case measure => simp only [intOf]; omega
            · have hlt : ((stx dn).length : Int) < (t.size : Int) := by
                have := List.length_pos_iff.2 hyn
                rw [hsz]
                omega
              have HRY := hide (show (rdr ([] ++ y)).2 = false from HYC.out.elim (fun h => absurd h.1 hyn) fun h => h.2.1)
              have HEQ := hide (show unY pre' = ents ss by
                have h1 : rest = [] := HYC.out.elim (fun h => absurd h.1 hyn) fun h => h.2.2
                have h2 := HEN1.out
                rw [h1, hrs] at h2
                rw [HPR.out, ← h2]
                simp [ents])
              rw [show stx ([] : List Rc) = [] from rfl] at hrr
              clear hrs hyn hsz
              gi_wp2_with fail
              refine ⟨trivial, (callsIn_wide.2 hrr).mono ?_⟩
              clear hrr
              rintro e wz ⟨⟨kk, tt, rfl, _, _⟩, hbz⟩
              rw [HRY.out]
              generalize (rdr ([] ++ y)).1.2.1 = nn
              have HBZ := hide hbz
              clear hbz
              gi_wp2_with fail
              refine bodyPost_ret (results_none rfl _ _ _) rfl ?_
              exact ⟨⟨_, rfl⟩, .inl ⟨pre', HEQ.out, HJA.out pre' _ _ none HJq.out (grown_below (HBZ.out.trans ((below_new _).mono HBZ.out.size))) (fun _ e => by cases e)⟩⟩
          | cons r lf =>
            have hrok : r.Ok := HOK.out r (by rw [HRS.out]; simp)
            have hst : stx (r :: lf) = r.tx ++ stx lf := rfl
            have htp := tx_pos r
            rw [hst, List.length_append] at hsz
            have hlt : ((stx dn).length : Int) < (t.size : Int) := by
              rw [hsz]
              omega
            rw [hst, List.append_assoc, hrok.read] at hrr
            have hk0 : r.n ≤ 9223372036854775807 := by have := hrok.n1; omega
            have hk1 : -9223372036854775808 ≤ r.n := by have := hrok.n0; omega
            have hrt : r.t.size ≤ 140737488355328 := by have := hrok.t; omega
            have HROK := hide hrok
            have HSZ := hide hsz
            clear hst hrok hsz
            gi_wp2_with fail
            refine ⟨trivial, (callsIn_wide.2 hrr).mono ?_⟩
            clear hrr
            rintro e wz ⟨hrd, hbz⟩
            have he := hrd.whole
            subst he
            have hs2 := Sits.new wz 121 #[.string ⟨#[r.k]⟩, .int .i64 r.n, .string r.t]
            have hb2 := below_new (w := wz) (.cells #[.string ⟨#[r.k]⟩, .int .i64 r.n, .string r.t] 121)
            have HB2 := hide (hbz.trans (hb2.mono hbz.size))
            have hwn := written ⟨#[r.k]⟩ r.n r.t (wz.alloc (.cells #[.string ⟨#[r.k]⟩, .int .i64 r.n, .string r.t] 121)) (HTq.out.below HB2.out) (show 1 ≤ 1000 by decide) hk1 hk0 hrt
            have x0 := hs2.cell 0 _ rfl
            have x1 := hs2.cell 1 _ rfl
            have x2 := hs2.cell 2 _ rfl
            have HS2 := hide hs2
            clear hrd hbz hs2 hb2
            gi_wp2_with fail
            refine ⟨trivial, (callsIn_wide.2 hwn).mono ?_⟩
            clear hwn x0 x1 x2
            rintro e w5 ⟨⟨z, rfl, hz⟩, hb5⟩
            have hzs : z.size = r.tx.length := by rw [size_B, hz]; rfl
            have HS5 := hide (Mem.Sits.below HS2.out hb5 HS2.out.lt)
            have HB5 := hide (HB2.out.trans (hb5.mono HB2.out.size))
            have HSq5 := hide (Mem.Sits.below HSq.out HB5.out HSq.out.lt)
            have HJ5 := hide (HJA.out pre' _ _ none HJq.out (grown_below HB5.out) (fun _ e => by cases e))
            have HK5 := hide (HKq.out.trans (Sk0.of_below HB5.out hzq))
            have x0 := HS5.out.cell 0 _ rfl
            have x1 := HS5.out.cell 1 _ rfl
            have x2 := HS5.out.cell 2 _ rfl
            have y0 := HSq5.out.cell 0 _ rfl
            have HEP := hide (show unY pre ++ (ents1 num 0 dn ++ (((num, (stx dn).length + r.tx.length), r) :: ents1 num ((stx dn).length + r.tx.length) lf) ++ ents rest) = ents ss by
              rw [← HEN1.out, HRS.out, ents1_append, Nat.zero_add]
              rfl)
            have hpl : pre'.length < (ents ss).length := by
              have h1 : pre'.length = (unY pre').length := (List.length_map ..).symm
              rw [h1, HPR.out, ← HEP.out]
              simp only [List.length_append, List.length_cons]
              omega
            obtain ⟨fn, tmps, assign, body, hyi, hR⟩ := HY.out pre' ⟨((num, (stx dn).length + r.tx.length), r), HROK.out⟩ w5 HJ5.out hpl
            have HRR := hide hR
            simp only [encY, Rc.val, Int.natCast_add] at hyi
            rw [← hzs] at hyi
            have hwr : IntKind.i64.wrap (((stx dn).length : Int) + (z.size : Int)) = ((stx dn).length : Int) + (z.size : Int) := IntWalk.i64_in _ (by
              have := HSZ.out
              omega)
            have HZS := hide hzs
            clear hR hb5 hpl hzs hz
            gi_wp2_with fail
            refine HRR.out.mono ?_
            have HPN := hide (show unY (pre' ++ [(⟨((num, (stx dn).length + r.tx.length), r), HROK.out⟩ : Yr)]) = unY pre ++ ents1 num 0 (dn ++ [r]) by
              rw [unY_append, HPR.out, ents1_append, Nat.zero_add, List.append_assoc]
              rfl)
            rintro e W4 (⟨rfl, hJ4, hk4⟩ | ⟨rfl, hJx4⟩)
            · have HJ4 := hide hJ4
              have HK4 := hide (HK5.out.trans hk4)
              have HS4 := hide (hk4.2 _ _ _ HSq5.out (Or.inl rfl))
              clear hJ4 hk4
              gi_wp2_with fail
              go_roundw
              case rel =>
                refine ⟨dn ++ [r], lf, _, ?_, by rw [HRS.out, List.append_assoc]; rfl, HPN, HJ4, HK4, HS4⟩
                rw [stx_snoc, List.length_append, ← HZS.out]
                simp
              case measure =>
                have h1 := HSZ.out
                have h2 := HZS.out
                simp only [intOf]
                omega
            · have HJ4 := hide hJx4
              clear hJx4
              gi_wp2_with fail
              refine bodyPost_ret (results_none rfl _ _ _) rfl ?_
              refine ⟨⟨_, rfl⟩, .inr ⟨_, ⟨ents1 num ((stx dn).length + r.tx.length) lf ++ ents rest, ?_⟩, HJ4.out⟩⟩
              rw [HPN.out, ents1_append, Nat.zero_add, ← HEP.out]
              simp [ents1]
    · have hdr : l.drop k = [] := List.drop_of_length_le hk
      have hkz : ¬ (k : Int) < (l.length : Int) := by omega
      rw [hdr] at HTL
      have htl := HTL.out
      cases rest with
      | cons p rest => exact htl.elim
      | nil =>
        gi_wp2_with fail
        go_end0
        exact ⟨⟨_, rfl⟩, .inl ⟨pre, by rw [← HEN.out]; simp [ents], HJ.out⟩⟩
end Go.Proofs.YtmkidefdegaamaaGreatDoor.Jr
