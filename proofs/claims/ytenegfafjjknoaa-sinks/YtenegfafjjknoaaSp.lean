/- takes. -/
import Derived.Test.YtenegfafjjknoaaSn
namespace Go.Proofs.Ytenegfafjjknoaa.Sk
open Go.RowKit Go.Maps Go.Shelf Mem Foot Im

theorem head4 {w : World} {b : Nat} {t : TypeId} {v0 v1 v2 v3 : Value} (h : Sits w b t #[v0, v1, v2, v3]) :
    w.cell? ⟨b, 0, none⟩ = some v0 ∧ w.cell? ⟨b, 1, none⟩ = some v1 ∧ w.cell? ⟨b, 2, none⟩ = some v2 ∧ w.cell? ⟨b, 3, none⟩ = some v3 ∧ w.frozen? ⟨b, 0, none⟩ = false ∧ w.frozen? ⟨b, 1, none⟩ = false ∧ w.frozen? ⟨b, 2, none⟩ = false ∧ w.frozen? ⟨b, 3, none⟩ = false :=
  ⟨h.cell 0 _ rfl, h.cell 1 _ rfl, h.cell 2 _ rfl, h.cell 3 _ rfl, h.frozen 0, h.frozen 1, h.frozen 2, h.frozen 3⟩

theorem num (x : Int) (w : World) : Calls Try.prog 18 #[.int .i64 x] w fun e w' => e = .returned (.int .i64 x) ∧ w' = w := by
  go_enter Try.func18, Try.ntmps18
  go_wp2_with fail
  go_ret
  exact ⟨by first | rfl | simp, rfl⟩

/-- A message of a row. -/
theorem msg_at {w : World} {base n i : Nat} {v : Value} {l : List Ms} {m : Ms} (h : w.ownsRow base 36 2 v n (mcells l)) (hi : l[i]? = some m) : ∃ g cap, v = .slice (some ⟨g, 0, none⟩) n cap ∧ n ≤ cap ∧ base ≤ g ∧ g < w.heap.size ∧ w.cell? ⟨g, i * 2, none⟩ = some (.int .i64 m.k) ∧ w.cell? ⟨g, i * 2 + 1, none⟩ = some (.string m.t) ∧ w.frozen? ⟨g, i * 2, none⟩ = false ∧ w.frozen? ⟨g, i * 2 + 1, none⟩ = false := by
  obtain ⟨h1, h2⟩ := mcells_at hi
  rcases h.2 with ⟨_, h0⟩ | ⟨g, cap, cur, rfl, hb, hg, hn, _, _, ht⟩
  · have h3 := h.1
    rw [h0, mcells_length] at h3
    have := (List.getElem?_eq_some_iff.1 hi).1
    omega
  · have hs : Sits w g 36 cur := hg
    have hc : ∀ (j : Nat) u, (mcells l)[j]? = some u → w.cell? ⟨g, j, none⟩ = some u := fun j u hu => by
      rw [← ht, List.getElem?_take] at hu
      split at hu
      · exact hs.cell j u (by simpa using hu)
      · cases hu
    exact ⟨g, cap, rfl, hn, hb, hs.lt, hc _ _ h1, hc _ _ h2, hs.frozen _, hs.frozen _⟩

theorem insM_append (m : Ms) (l r : List Ms) : insM m (l ++ r) = if l.any (fun x => decide (m.k < x.k)) then insM m l ++ r else l ++ insM m r := by
  induction l with
  | nil => simp
  | cons x l ih =>
    rw [List.cons_append, insM, insM]
    by_cases h : m.k < x.k
    · simp [h]
    · simp only [h, if_false, List.any_cons, decide_false, Bool.false_or, ih]
      by_cases h2 : (l.any fun x => decide (m.k < x.k)) = true
      · simp [h2]
      · simp [h2]

/-- How far the law's own insertion has come. -/
def put' (m : Ms) (l : List Ms) : Bool := l.any fun x => decide (m.k < x.k)
def acc (m : Ms) (l : List Ms) : List Ms := if put' m l then insM m l else l

theorem acc_next {m x : Ms} {l : List Ms} : acc m (l ++ [x]) = acc m l ++ (if put' m l = false ∧ m.k < x.k then [m, x] else [x]) := by
  unfold acc
  have e : put' m (l ++ [x]) = (put' m l || decide (m.k < x.k)) := by simp [put']
  rw [e]
  by_cases h : put' m l = true
  · have h' := h
    rw [put'] at h'
    simp [h, insM_append, h']
  · have h' := h
    rw [put'] at h'
    by_cases h2 : m.k < x.k
    · simp [h, h2, insM_append, h', insM]
    · simp [h, h2]

theorem acc_end (m : Ms) (l : List Ms) : insM m l = if put' m l then acc m l else acc m l ++ [m] := by
  unfold acc
  by_cases h : put' m l = true
  · simp [h]
  · have := insM_append m l []
    rw [List.append_nil] at this
    have h' := h
    rw [put'] at h'
    simp only [h', if_false, Bool.false_eq_true] at this
    simp [h, this, insM]

theorem acc_length (m : Ms) (l : List Ms) : (acc m l).length ≤ l.length + 1 := by
  unfold acc
  split
  · rw [insM_length]
    exact Nat.le_refl _
  · omega

/-- What Take leaves. -/
def Tk (W : World) (X : Nat) (mb : Option Nat) (ms : List Ms) (m : Ms) (ev : Int) (w' : World) : Prop :=
  (m.k ∈ ms.map (·.k) ∧ ev = 10 ∧ Below W.heap.size W w') ∨
  (m.k ∉ ms.map (·.k) ∧ ev = 0 ∧ Off (X :: mb.toList) W w' ∧ ∃ b, SK w' X (some b) (insM m ms) ∧ (b ∈ mb.toList ∨ W.heap.size ≤ b))

theorem take' (X : Nat) (mb : Option Nat) (ms : List Ms) (m : Ms) (hw : (Lit.int .i64 m.k).wf = true) (w : World) (h : SK w X mb ms) (hl : ms.length < maxLen) :
    Calls Try.prog 17 #[.pointer (some ⟨X, 0, none⟩), mv m] w fun e w' => ∃ ev : Int, e = .returned (.int .i64 ev) ∧ Hid (Tk w X mb ms m ev w') := by
  refine (take X mb ms m hw w h hl).mono ?_
  rintro e w' (⟨h1, h2, h3⟩ | ⟨h1, h2, h3⟩)
  · exact ⟨10, h2, Or.inl ⟨h1, rfl, h3⟩⟩
  · exact ⟨0, h2, Or.inr ⟨h1, rfl, h3⟩⟩

theorem Tk.off {W w' : World} {X : Nat} {mb : Option Nat} {ms : List Ms} {m : Ms} {ev : Int} (h : Tk W X mb ms m ev w') : Off (X :: mb.toList) W w' := by
  rcases h with ⟨_, _, h⟩ | ⟨_, _, h, _⟩
  · exact Off.of_below h
  · exact h

theorem Tk.mid {W w' : World} {S B : Nat} {cs : Array Value} {ms : List Ms} {p : LI} {m : Ms} {ev : Int} (h : Tk W p.X p.mb ms m ev w') (hp : Sn W S ms p) (hB : Sits W B 36 cs) :
    Sits w' S 33 #[.pointer (some ⟨p.X, 0, none⟩), p.lw, p.lv, p.gv] ∧ w'.ownsRow 0 36 2 p.lw ms.length (mcells ms) ∧ Sits w' B 36 cs := by
  have ho := h.off
  have hF : ∀ k t cs, Sits W k t cs → t ≠ 44 → k ∉ p.X :: p.mb.toList := by
    intro k t cs hs hn hm
    rcases List.mem_cons.1 hm with e | e
    · exact sits_ne hs hp.sk.head hn e
    · have e' : p.mb = some k := by simpa using e
      have := hp.sk.map
      rw [e'] at this
      exact map_ne this hs rfl
  exact ⟨so hp.head ho (hF _ _ _ hp.head (by decide)), own_off2 hp.own ho (fun k hk => by obtain ⟨cs, hs⟩ := sits_row hp.own hk; exact hF _ _ _ hs (by decide)), so hB ho (hF _ _ _ hB (by decide))⟩

theorem put_next (m x : Ms) (l : List Ms) : put' m (l ++ [x]) = (put' m l || decide (m.k < x.k)) := by simp [put']

theorem own_more {w wr w3 : World} {o : Obj} {base n : Nat} {v : Value} {xs : List Value} {e : TypeId} {size : Nat} (hb : Below base w wr) (hB : base ≤ wr.heap.size) (ho : wr.ownsRow base e size v n xs) (hg : (wr.alloc o).grownBy w3 v.ownBlock) : Below base w w3 := Own.below_more hb hB ho hg

theorem cells_of {w : World} {base n i g cap : Nat} {v : Value} {l : List Ms} {m : Ms} (h : w.ownsRow base 36 2 v n (mcells l)) (hv : v = .slice (some ⟨g, 0, none⟩) n cap) (hi : l[i]? = some m) : w.cell? ⟨g, i * 2, none⟩ = some (.int .i64 m.k) ∧ w.cell? ⟨g, i * 2 + 1, none⟩ = some (.string m.t) := by
  obtain ⟨g', cap', h1, _, _, _, h2, h3, _⟩ := msg_at h hi
  rw [hv] at h1
  injection h1 with h1 _ _
  injection h1 with h1
  injection h1 with h1
  subst h1
  exact ⟨h2, h3⟩

/-- What takes leaves. -/
def Tx (S : Nat) (ms : List Ms) (p : LI) (w w' : World) : Prop := Off (foot S p) w w' ∧ ∃ ms' p', Sn w' S ms' p' ∧ p'.vs = p.vs ∧ ms'.length ≤ ms.length + 1 ∧ ∀ k ∈ foot S p', k ∈ foot S p ∨ w.heap.size ≤ k

theorem tx_in {S : Nat} {ms : List Ms} {p : LI} {w w' : World} (h : Sn w S ms p) (hb : Below w.heap.size w w') : Tx S ms p w w' :=
  ⟨Off.of_below hb, ms, p, h.keep hb, rfl, Nat.le_succ _, fun _ hk => Or.inl hk⟩

theorem tx_out {S : Nat} {ms : List Ms} {p : LI} {m : Ms} {w W1 w2 wr : World} {v : Value} {ev : Int} (h : Sn w S ms p) (hb : Below w.heap.size w W1) (ht : Tk W1 p.X p.mb ms m ev w2) (hno : m.k ∉ ms.map (·.k)) (h2 : Below w2.heap.size w2 wr)
    (hrow : wr.ownsRow w2.heap.size 36 2 v (insM m ms).length (mcells (insM m ms))) : ev = 0 ∧ Tx S ms p w (wr.setCell ⟨S, 1, none⟩ v) := by
  rcases ht with ⟨h1, _⟩ | ⟨_, h1, h3, b, h4, h5⟩
  · exact absurd h1 hno
  · obtain ⟨a1, a2, a3⟩ := (h.keep hb).taken h3 h4 h5 (h.rise.ins hno) h2 hrow
    refine ⟨h1, (Off.of_below hb).trans a1, _, _, a2, rfl, by rw [insM_length]; exact Nat.le_refl _, fun k hk => ?_⟩
    have := hb.size
    exact (a3 k hk).imp id (fun e => by omega)

set_option maxRecDepth 10000 in
set_option maxHeartbeats 4000000 in
theorem takes (S : Nat) (ms : List Ms) (p : LI) (m : Ms) (hw : (Lit.int .i64 m.k).wf = true) (w : World) (h : Sn w S ms p) (hl : ms.length ≤ 3600000000000) :
    Calls Try.prog 12 #[.pointer (some ⟨S, 0, none⟩), mv m] w fun e w' => e = .returned (.bool true) ∧ Tx S ms p w w' := by
  have HP := hide h
  clear h
  obtain ⟨i0, hi, hz0, hz1, hz2⟩ := info_parts infoM
  unfold mv
  go_enter Try.func12, Try.ntmps12
  go_wp2_with fail
  have HS := hide (Sits.new w 36 #[.int .i64 m.k, .string m.t])
  have HB1 := hide (below_new (w := w) (.cells #[.int .i64 m.k, .string m.t] 36))
  have HP1 := hide (HP.out.keep HB1.out)
  generalize w.alloc (.cells #[.int .i64 m.k, .string m.t] 36) = W1 at *
  obtain ⟨B, hB⟩ : ∃ B, w.heap.size = B := ⟨_, rfl⟩
  rw [hB] at HS
  rw [hB]
  clear hB
  obtain ⟨c0, c1, c2, c3, f0, f1, f2, f3⟩ := head4 HP1.out.head
  have k0 := HS.out.cell 0 _ rfl
  have k1 := HS.out.cell 1 _ rfl
  have htk := take' p.X p.mb ms m hw W1.drew (show SK W1.drew p.X p.mb ms from ⟨HP1.out.sk.head, HP1.out.sk.map⟩) (by unfold maxLen; omega)
  unfold mv at htk
  go_region_with (go_at_call 17; refine htk.mono ?_; rintro e w2 ⟨ev, rfl, hd⟩)
  all_goals
    have HB1' := hide (show Below w.heap.size w W1.drew from below_drewN' (n := 1) HB1.out)
    have HM := hide (Tk.mid hd.out (show Sn W1.drew S ms p from HP1.out.keep ((Below.refl _ W1).drew)) HS.out)
    clear c0 c1 c2 c3 f0 f1 f2 f3 k0 k1 htk HP1 HS HB1
    go_wp2_with fail
    go_loopw [6, 7, 8] (fun s6 s7 s8 wr => ∃ k : Nat, s8 = .int .i64 (k : Int) ∧ k ≤ ms.length ∧ s7 = .bool (put' m (ms.take k)) ∧ Hid ((∀ x ∈ ms.take k, x.k ≠ m.k) ∧ wr.ownsRow w2.heap.size 36 2 s6 (acc m (ms.take k)).length (mcells (acc m (ms.take k))) ∧ Below w2.heap.size w2 wr)) (fun _ _ s8 _ => ms.length - (intOf s8).toNat)
    case atStart => exact ⟨0, rfl, by omega, rfl, by simp, World.ownsRow_nil _ _ _ _, Below.refl _ _⟩
    case round =>
      obtain ⟨k, rfl, hk, rfl, HR⟩ := hrel
      have HOr := hide (own_keep HM.out.2.1 HR.out.2.2)
      have HSr := hide (HM.out.2.2.below HR.out.2.2 HM.out.2.2.lt)
      have HHr := hide (HM.out.1.below HR.out.2.2 HM.out.1.lt)
      obtain ⟨c0, c1, c2, c3, f0, f1, f2, f3⟩ := head4 HHr.out
      have k0 := HSr.out.cell 0 _ rfl
      have k1 := HSr.out.cell 1 _ rfl
      have hal := acc_length m (ms.take k)
      rw [List.length_take_of_le hk] at hal
      obtain ⟨rao, rcv, hrv⟩ := Own.shape HR.out.2.1
      subst hrv
      by_cases hkl : k < ms.length
      · have hkz : (k : Int) < (ms.length : Int) := by omega
        obtain ⟨x, hx⟩ : ∃ x, ms[k]? = some x := ⟨_, List.getElem?_eq_getElem hkl⟩
        obtain ⟨g, cap, hlw, hcap, _, hgl, x0, x1, _, _⟩ := msg_at HOr.out hx
        rw [hlw] at c1
        have HLW := hide hlw
        have HX := hide hx
        have HTK := hide (show ms.take (k + 1) = ms.take k ++ [x] by rw [List.take_add_one, hx]; rfl)
        clear hx hlw
        by_cases hxm : x.k = m.k
        · rw [hxm] at x0
          obtain ⟨_, hev, hbw⟩ : m.k ∈ ms.map (·.k) ∧ ev = 10 ∧ Below W1.drew.heap.size W1.drew w2 := by
            rcases hd.out with h1 | ⟨h1, _⟩
            · exact h1
            · exact absurd (List.mem_map.2 ⟨x, List.mem_of_getElem? HX.out, hxm⟩) h1
          have HBW := hide hbw
          subst hev
          clear hbw hxm
          go_wp2_with fail
          go_quiet (fail)
          go_wp2_with (go_at_call 18; refine (num _ _).mono ?_; rintro e w' ⟨rfl, rfl⟩)
          go_ret
          exact ⟨by simp, tx_in HP.out (below_drewN' ((HB1'.out.trans (HBW.out.mono HB1'.out.size)).trans (HR.out.2.2.mono (HB1'.out.trans (HBW.out.mono HB1'.out.size)).size)))⟩
        · have hxz : (x.k == m.k) = false := by simp [hxm]
          go_wp2_with fail
          go_quiet (fail)
          have HRa := hide (show (∀ x ∈ ms.take k, x.k ≠ m.k) ∧ (wr.drewN nq).ownsRow w2.heap.size 36 2 (.slice rao (acc m (ms.take k)).length rcv) (acc m (ms.take k)).length (mcells (acc m (ms.take k))) ∧ Below w2.heap.size w2 (wr.drewN nq) from ⟨HR.out.1, HR.out.2.1, below_drewN' HR.out.2.2⟩)
          have HOa := hide (show (wr.drewN nq).ownsRow 0 36 2 p.lw ms.length (mcells ms) from HOr.out)
          have HSa := hide (show Sits (wr.drewN nq) B 36 #[.int .i64 m.k, .string m.t] from HSr.out)
          have HHa := hide (show Sits (wr.drewN nq) S 33 #[.pointer (some ⟨p.X, 0, none⟩), p.lw, p.lv, p.gv] from HHr.out)
          clear HR HOr HSr HHr c0 c1 c2 c3 f0 f1 f2 f3 k0 k1 x0 x1
          generalize wr.drewN nq = wa at *
          obtain ⟨c0, c1, c2, c3, f0, f1, f2, f3⟩ := head4 HHa.out
          rw [HLW.out] at c1
          have k0 := HSa.out.cell 0 _ rfl
          have k1 := HSa.out.cell 1 _ rfl
          obtain ⟨x0, x1⟩ := cells_of HOa.out HLW.out HX.out
          have HNX := hide hxm
          cases hput : put' m (ms.take k) with
          | true =>
            go_wp2_with fail
            go_quiet (fail)
            have HRb := hide (show (∀ x ∈ ms.take k, x.k ≠ m.k) ∧ (wa.drewN nq).ownsRow w2.heap.size 36 2 (.slice rao (acc m (ms.take k)).length rcv) (acc m (ms.take k)).length (mcells (acc m (ms.take k))) ∧ Below w2.heap.size w2 (wa.drewN nq) from ⟨HRa.out.1, HRa.out.2.1, below_drewN' HRa.out.2.2⟩)
            have HOb := hide (show (wa.drewN nq).ownsRow 0 36 2 p.lw ms.length (mcells ms) from HOa.out)
            have HSb := hide (show Sits (wa.drewN nq) B 36 #[.int .i64 m.k, .string m.t] from HSa.out)
            have HHb := hide (show Sits (wa.drewN nq) S 33 #[.pointer (some ⟨p.X, 0, none⟩), p.lw, p.lv, p.gv] from HHa.out)
            clear HRa HOa HSa HHa c0 c1 c2 c3 f0 f1 f2 f3 k0 k1 x0 x1
            generalize wa.drewN nq = wb at *
            obtain ⟨c0, c1, c2, c3, f0, f1, f2, f3⟩ := head4 HHb.out
            rw [HLW.out] at c1
            have k0 := HSb.out.cell 0 _ rfl
            have k1 := HSb.out.cell 1 _ rfl
            obtain ⟨x0, x1⟩ := cells_of HOb.out HLW.out HX.out
            have hown := HRb.out.2.1
            have HBB := hide HRb.out.2.2
            have hsize : w2.heap.size ≤ wb.heap.size := HRb.out.2.2.size
            go_wp2_with (at_builtin; refine wpList_append_own _ rfl (.tmp 57) (.tmp 65) 30 rfl w2.heap.size 36 i0 (.agg #[.int .i64 0, .string ⟨#[]⟩]) 2 24 Try.underlying30 hi hz0 hz1 hz2 rfl (by decide) _ _ _ rfl (hown.alloc _) ⟨wb.heap.size, 0, none⟩ 1 1 [.int .i64 x.k, .string x.t] rfl rfl (cell_two_new _ _ _ _) (by intro u hu; simp at hu; rcases hu with rfl | rfl <;> rfl) (by unfold maxLen; omega) (by omega) (by simp; omega) ?_; intro v3 w3 hown3 hg3 hn3)
            go_roundw
            case rel =>
              refine ⟨k + 1, by go_num, by omega, by rw [HTK.out, put_next, hput]; simp, ?_, ?_, own_more HBB.out hsize hown hg3⟩
              · rw [HTK.out]
                intro y hy
                rcases List.mem_append.1 hy with hy | hy
                · exact HRb.out.1 y hy
                · simp at hy
                  subst hy
                  exact HNX.out
              · rw [HTK.out, acc_next, hput, mcells_append]
                simpa [mcells] using hown3
            case measure => simp [intOf]; omega
          | false =>
            by_cases hlt : m.k < x.k
            · go_wp2_with fail
              go_quiet (fail)
              have HRb := hide (show (∀ x ∈ ms.take k, x.k ≠ m.k) ∧ (wa.drewN nq).ownsRow w2.heap.size 36 2 (.slice rao (acc m (ms.take k)).length rcv) (acc m (ms.take k)).length (mcells (acc m (ms.take k))) ∧ Below w2.heap.size w2 (wa.drewN nq) from ⟨HRa.out.1, HRa.out.2.1, below_drewN' HRa.out.2.2⟩)
              have HOb := hide (show (wa.drewN nq).ownsRow 0 36 2 p.lw ms.length (mcells ms) from HOa.out)
              have HSb := hide (show Sits (wa.drewN nq) B 36 #[.int .i64 m.k, .string m.t] from HSa.out)
              have HHb := hide (show Sits (wa.drewN nq) S 33 #[.pointer (some ⟨p.X, 0, none⟩), p.lw, p.lv, p.gv] from HHa.out)
              clear HRa HOa HSa HHa c0 c1 c2 c3 f0 f1 f2 f3 k0 k1 x0 x1
              generalize wa.drewN nq = wb at *
              obtain ⟨c0, c1, c2, c3, f0, f1, f2, f3⟩ := head4 HHb.out
              rw [HLW.out] at c1
              have k0 := HSb.out.cell 0 _ rfl
              have k1 := HSb.out.cell 1 _ rfl
              obtain ⟨x0, x1⟩ := cells_of HOb.out HLW.out HX.out
              have hown := HRb.out.2.1
              have HBB := hide HRb.out.2.2
              have hsize : w2.heap.size ≤ wb.heap.size := HRb.out.2.2.size
              have HLT := hide hlt
              clear hlt
              go_wp2_with (first | (at_builtin; refine wpList_append_own _ rfl (.tmp 53) (.tmp 55) 30 rfl w2.heap.size 36 i0 (.agg #[.int .i64 0, .string ⟨#[]⟩]) 2 24 Try.underlying30 hi hz0 hz1 hz2 rfl (by decide) _ _ _ rfl (hown.alloc _) ⟨wb.heap.size, 0, none⟩ 1 1 [.int .i64 m.k, .string m.t] rfl rfl (cell_two_new _ _ _ _) (by intro u hu; simp at hu; rcases hu with rfl | rfl <;> rfl) (by unfold maxLen; omega) (by omega) (by simp; omega) ?_; intro v3 w3 hown3 hg3 hn3; obtain ⟨a3, cv3, rfl⟩ := Own.shape hown3; have hb3 := own_more HBB.out hsize hown hg3; have hs3 := hb3.size; have d1 := (head4 (HM.out.1.below hb3 HM.out.1.lt)).2.1; rw [HLW.out] at d1; obtain ⟨y0, y1⟩ := cells_of (own_keep HM.out.2.1 hb3) HLW.out HX.out) | (at_builtin; refine wpList_append_own _ rfl (.tmp 57) (.tmp 65) 30 rfl w2.heap.size 36 i0 (.agg #[.int .i64 0, .string ⟨#[]⟩]) 2 24 Try.underlying30 hi hz0 hz1 hz2 rfl (by decide) _ _ _ rfl (hown3.alloc _) ⟨w3.heap.size, 0, none⟩ 1 1 [.int .i64 x.k, .string x.t] rfl rfl (cell_two_new _ _ _ _) (by intro u hu; simp at hu; rcases hu with rfl | rfl <;> rfl) (by unfold maxLen; omega) (by omega) (by simp; omega) ?_; intro v4 w4 hown4 hg4 hn4))
              go_roundw
              case rel =>
                refine ⟨k + 1, by go_num, by omega, by rw [HTK.out, put_next, hput]; simp [HLT.out], ?_, ?_, own_more hb3 hs3 hown3 hg4⟩
                · rw [HTK.out]
                  intro y hy
                  rcases List.mem_append.1 hy with hy | hy
                  · exact HRb.out.1 y hy
                  · simp at hy
                    subst hy
                    exact HNX.out
                · rw [HTK.out, acc_next, hput, mcells_append]
                  simp only [HLT.out, and_self, if_true, mcells, List.length_append, List.length_cons, List.length_nil]
                  simpa using hown4
              case measure => simp [intOf]; omega
            · go_wp2_with fail
              go_quiet (fail)
              have HRb := hide (show (∀ x ∈ ms.take k, x.k ≠ m.k) ∧ (wa.drewN nq).ownsRow w2.heap.size 36 2 (.slice rao (acc m (ms.take k)).length rcv) (acc m (ms.take k)).length (mcells (acc m (ms.take k))) ∧ Below w2.heap.size w2 (wa.drewN nq) from ⟨HRa.out.1, HRa.out.2.1, below_drewN' HRa.out.2.2⟩)
              have HOb := hide (show (wa.drewN nq).ownsRow 0 36 2 p.lw ms.length (mcells ms) from HOa.out)
              have HSb := hide (show Sits (wa.drewN nq) B 36 #[.int .i64 m.k, .string m.t] from HSa.out)
              have HHb := hide (show Sits (wa.drewN nq) S 33 #[.pointer (some ⟨p.X, 0, none⟩), p.lw, p.lv, p.gv] from HHa.out)
              clear HRa HOa HSa HHa c0 c1 c2 c3 f0 f1 f2 f3 k0 k1 x0 x1
              generalize wa.drewN nq = wb at *
              obtain ⟨c0, c1, c2, c3, f0, f1, f2, f3⟩ := head4 HHb.out
              rw [HLW.out] at c1
              have k0 := HSb.out.cell 0 _ rfl
              have k1 := HSb.out.cell 1 _ rfl
              obtain ⟨x0, x1⟩ := cells_of HOb.out HLW.out HX.out
              have hown := HRb.out.2.1
              have HBB := hide HRb.out.2.2
              have hsize : w2.heap.size ≤ wb.heap.size := HRb.out.2.2.size
              have HLT := hide hlt
              go_wp2_with (at_builtin; refine wpList_append_own _ rfl (.tmp 57) (.tmp 65) 30 rfl w2.heap.size 36 i0 (.agg #[.int .i64 0, .string ⟨#[]⟩]) 2 24 Try.underlying30 hi hz0 hz1 hz2 rfl (by decide) _ _ _ rfl (hown.alloc _) ⟨wb.heap.size, 0, none⟩ 1 1 [.int .i64 x.k, .string x.t] rfl rfl (cell_two_new _ _ _ _) (by intro u hu; simp at hu; rcases hu with rfl | rfl <;> rfl) (by unfold maxLen; omega) (by omega) (by simp; omega) ?_; intro v3 w3 hown3 hg3 hn3)
              go_roundw
              case rel =>
                refine ⟨k + 1, by go_num, by omega, by rw [HTK.out, put_next, hput]; simp [HLT.out], ?_, ?_, own_more HBB.out hsize hown hg3⟩
                · rw [HTK.out]
                  intro y hy
                  rcases List.mem_append.1 hy with hy | hy
                  · exact HRb.out.1 y hy
                  · simp at hy
                    subst hy
                    exact HNX.out
                · rw [HTK.out, acc_next, hput, if_neg (fun h => by have := HLT.out; have := h.2; omega), mcells_append]
                  simpa [mcells] using hown3
              case measure => simp [intOf]; omega
      · have hkz : ¬ (k : Int) < (ms.length : Int) := by omega
        obtain rfl : k = ms.length := by omega
        obtain ⟨lao, lcv, hlw⟩ := Own.shape HOr.out
        rw [hlw] at c1
        have HNO := hide (show m.k ∉ ms.map (·.k) from fun e => by
          obtain ⟨x, hx, e⟩ := List.mem_map.1 e
          exact HR.out.1 x (by rw [List.take_length]; exact hx) e)
        have hev : ev = 0 := by
          rcases hd.out with ⟨h1, _⟩ | ⟨_, h1, _⟩
          · exact absurd h1 HNO.out
          · exact h1
        subst hev
        have hown := HR.out.2.1
        have HBB := hide HR.out.2.2
        have hsize : w2.heap.size ≤ wr.heap.size := HR.out.2.2.size
        have HAE := hide (acc_end m ms)
        clear hlw
        cases hput : put' m (ms.take ms.length) with
        | true =>
          go_wp2_with (go_at_call 18; refine (num _ _).mono ?_; rintro e w' ⟨rfl, rfl⟩)
          go_ret
          have e := HAE.out
          rw [List.take_length] at hput hown
          rw [hput, if_pos rfl] at e
          exact ⟨by simp, (tx_out HP.out HB1'.out hd.out HNO.out HBB.out (by rw [e]; exact hown)).2⟩
        | false =>
          go_wp2_with (first | (at_builtin; refine wpList_append_own _ rfl (.tmp 69) (.tmp 71) 30 rfl w2.heap.size 36 i0 (.agg #[.int .i64 0, .string ⟨#[]⟩]) 2 24 Try.underlying30 hi hz0 hz1 hz2 rfl (by decide) _ _ _ rfl (hown.alloc _) ⟨wr.heap.size, 0, none⟩ 1 1 [.int .i64 m.k, .string m.t] rfl rfl (cell_two_new _ _ _ _) (by intro u hu; simp at hu; rcases hu with rfl | rfl <;> rfl) (by unfold maxLen; omega) (by omega) (by simp; omega) ?_; intro v3 w3 hown3 hg3 hn3; obtain ⟨a3, cv3, rfl⟩ := Own.shape hown3; have hb3 := own_more HBB.out hsize hown hg3; obtain ⟨d0, d1, d2, d3, e0, e1, e2, e3⟩ := head4 (HM.out.1.below hb3 HM.out.1.lt)) | (go_at_call 18; refine (num _ _).mono ?_; rintro e w' ⟨rfl, rfl⟩))
          go_ret
          have e := HAE.out
          rw [List.take_length] at hput hown3
          rw [hput] at e
          refine ⟨by simp, (tx_out HP.out HB1'.out hd.out HNO.out hb3 ?_).2⟩
          rw [e]
          simp only [Bool.false_eq_true, if_false, mcells_append, mcells, List.length_append, List.length_cons, List.length_nil]
          simpa using hown3

end Go.Proofs.Ytenegfafjjknoaa.Sk
