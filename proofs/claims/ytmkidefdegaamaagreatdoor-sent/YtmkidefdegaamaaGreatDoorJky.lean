/- Whether a record fits behind those that were taken. -/
import Derived.Test.YtmkidefdegaamaaGreatDoorHiy
import Derived.Test.YtmkidefdegaamaaGreatDoorPlainvy
namespace Go.Proofs.YtmkidefdegaamaaGreatDoor.Jr
open Go.RowKit Mem Foot Bytes Im Wm Hi Plainw Cq
/-- Whether such a record is written there. -/
def hfits (kb : ByteArray) (win : Int) (begun : Bool) (onum g : Int) : Bool :=
  if kb = ⟨#[100]⟩ then decide (g < win) && (!begun || decide (win = onum))
  else if kb = ⟨#[115]⟩ then begun && decide (win = onum)
  else if kb = ⟨#[98]⟩ then decide (g ≤ win)
  else false
theorem cells7 {w : World} {b : Nat} {t : TypeId} {v0 v1 v2 v3 v4 v5 v6 : Value} (h : Sits w b t #[v0, v1, v2, v3, v4, v5, v6]) :
    w.cell? ⟨b, 1, none⟩ = some v1 ∧ w.cell? ⟨b, 2, none⟩ = some v2 ∧ w.cell? ⟨b, 4, none⟩ = some v4 := ⟨h.cell 1 _ rfl, h.cell 2 _ rfl, h.cell 4 _ rfl⟩
set_option maxRecDepth 10000 in
set_option maxHeartbeats 2000000 in
theorem fits_base (w : World) (hb : Nat) (sv sg : Value) (onum g es ez : Int) (da : Option Addr) (dl dc : Nat) (win : Int) (tb : ByteArray) (h : Sits w hb 101 #[sv, .int .i64 onum, .slice da dl dc, sg, .int .i64 g, .int .i64 es, .int .i64 ez]) :
    Calls Tryz.prog 74 #[.pointer (some ⟨hb, 0, none⟩), .agg #[.string ⟨#[98]⟩, .int .i64 win, .string tb]] w fun e w' => e = .returned (.bool (hfits ⟨#[98]⟩ win (decide (0 < dl)) onum g)) ∧ Below w.heap.size w w' := by
  have HS1 := hide (Sits.new w 121 #[.string ⟨#[98]⟩, .int .i64 win, .string tb])
  have HB1 := hide (below_new (w := w) (.cells #[.string ⟨#[98]⟩, .int .i64 win, .string tb] 121))
  have HH := hide (Mem.Sits.below h (below_new (w := w) (.cells #[.string ⟨#[98]⟩, .int .i64 win, .string tb] 121)) h.lt)
  have HR := hide (show hfits ⟨#[98]⟩ win (decide (0 < dl)) onum g = decide (g ≤ win) by unfold hfits; rw [if_neg (by decide), if_neg (by decide), if_pos rfl])
  clear h
  go_enter Tryz.func74, Tryz.ntmps74
  go_upto_region 1 with fail
  obtain ⟨X, hX⟩ : ∃ X, w.heap.size = X := ⟨_, rfl⟩
  rw [hX] at HS1 ⊢
  clear hX
  generalize w.alloc (.cells #[.string ⟨#[98]⟩, .int .i64 win, .string tb] 121) = w1 at *
  obtain ⟨c1, c2, c4⟩ := cells7 HH.out
  have d0 := HS1.out.cell 0 _ rfl
  have d1 := HS1.out.cell 1 _ rfl
  go_wp2_with fail
  go_quiet (fail)
  go_wp2_with fail
  go_ret
  exact ⟨by rw [HR.out]; rfl, below_drewN' HB1.out⟩
set_option maxRecDepth 10000 in
set_option maxHeartbeats 2000000 in
theorem fits_seal (w : World) (hb : Nat) (sv sg : Value) (onum g es ez : Int) (da : Option Addr) (dl dc : Nat) (win : Int) (tb : ByteArray) (h : Sits w hb 101 #[sv, .int .i64 onum, .slice da dl dc, sg, .int .i64 g, .int .i64 es, .int .i64 ez]) :
    Calls Tryz.prog 74 #[.pointer (some ⟨hb, 0, none⟩), .agg #[.string ⟨#[115]⟩, .int .i64 win, .string tb]] w fun e w' => e = .returned (.bool (hfits ⟨#[115]⟩ win (decide (0 < dl)) onum g)) ∧ Below w.heap.size w w' := by
  have HS1 := hide (Sits.new w 121 #[.string ⟨#[115]⟩, .int .i64 win, .string tb])
  have HB1 := hide (below_new (w := w) (.cells #[.string ⟨#[115]⟩, .int .i64 win, .string tb] 121))
  have HH := hide (Mem.Sits.below h (below_new (w := w) (.cells #[.string ⟨#[115]⟩, .int .i64 win, .string tb] 121)) h.lt)
  have HR := hide (show hfits ⟨#[115]⟩ win (decide (0 < dl)) onum g = (decide (0 < dl) && decide (win = onum)) by unfold hfits; rw [if_neg (by decide), if_pos rfl])
  clear h
  go_enter Tryz.func74, Tryz.ntmps74
  go_upto_region 1 with fail
  obtain ⟨X, hX⟩ : ∃ X, w.heap.size = X := ⟨_, rfl⟩
  rw [hX] at HS1 ⊢
  clear hX
  generalize w.alloc (.cells #[.string ⟨#[115]⟩, .int .i64 win, .string tb] 121) = w1 at *
  obtain ⟨c1, c2, c4⟩ := cells7 HH.out
  have d0 := HS1.out.cell 0 _ rfl
  have d1 := HS1.out.cell 1 _ rfl
  by_cases hdl : 0 < dl
  · have hdi : decide ((0 : Int) < (dl : Int)) = true := decide_eq_true (by omega)
    have hdn : decide (0 < dl) = true := decide_eq_true hdl
    go_wp2_with fail
    go_quiet (fail)
    go_wp2_with fail
    go_ret
    refine ⟨?_, below_drewN' HB1.out⟩
    rw [HR.out, hdn]
    by_cases e : win = onum <;> simp [e]
  · have hdl0 : dl = 0 := by omega
    subst hdl0
    go_wp2_with fail
    go_quiet (fail)
    go_wp2_with fail
    go_ret
    refine ⟨?_, below_drewN' HB1.out⟩
    rw [HR.out]
    simp
set_option maxRecDepth 10000 in
set_option maxHeartbeats 2000000 in
theorem fits_datagram (w : World) (hb : Nat) (sv sg : Value) (onum g es ez : Int) (da : Option Addr) (dl dc : Nat) (win : Int) (tb : ByteArray) (h : Sits w hb 101 #[sv, .int .i64 onum, .slice da dl dc, sg, .int .i64 g, .int .i64 es, .int .i64 ez]) :
    Calls Tryz.prog 74 #[.pointer (some ⟨hb, 0, none⟩), .agg #[.string ⟨#[100]⟩, .int .i64 win, .string tb]] w fun e w' => e = .returned (.bool (hfits ⟨#[100]⟩ win (decide (0 < dl)) onum g)) ∧ Below w.heap.size w w' := by
  have HS1 := hide (Sits.new w 121 #[.string ⟨#[100]⟩, .int .i64 win, .string tb])
  have HB1 := hide (below_new (w := w) (.cells #[.string ⟨#[100]⟩, .int .i64 win, .string tb] 121))
  have HH := hide (Mem.Sits.below h (below_new (w := w) (.cells #[.string ⟨#[100]⟩, .int .i64 win, .string tb] 121)) h.lt)
  have HR := hide (show hfits ⟨#[100]⟩ win (decide (0 < dl)) onum g = (decide (g < win) && (!decide (0 < dl) || decide (win = onum))) by unfold hfits; rw [if_pos rfl])
  clear h
  go_enter Tryz.func74, Tryz.ntmps74
  go_upto_region 1 with fail
  obtain ⟨X, hX⟩ : ∃ X, w.heap.size = X := ⟨_, rfl⟩
  rw [hX] at HS1 ⊢
  clear hX
  generalize w.alloc (.cells #[.string ⟨#[100]⟩, .int .i64 win, .string tb] 121) = w1 at *
  obtain ⟨c1, c2, c4⟩ := cells7 HH.out
  have d0 := HS1.out.cell 0 _ rfl
  have d1 := HS1.out.cell 1 _ rfl
  by_cases hgw : g < win
  · have hgd : decide (g < win) = true := decide_eq_true hgw
    by_cases hdl : 0 < dl
    · have hdi : decide ((0 : Int) < (dl : Int)) = true := decide_eq_true (by omega)
      have hdn : decide (0 < dl) = true := decide_eq_true hdl
      go_wp2_with fail
      go_quiet (fail)
      go_wp2_with fail
      go_ret
      refine ⟨?_, below_drewN' HB1.out⟩
      rw [HR.out, hdn, hgd]
      by_cases e : win = onum <;> simp [e]
    · have hdl0 : dl = 0 := by omega
      subst hdl0
      go_wp2_with fail
      go_quiet (fail)
      go_wp2_with fail
      go_ret
      refine ⟨?_, below_drewN' HB1.out⟩
      rw [HR.out, hgd]
      simp
  · have hgd : decide (g < win) = false := decide_eq_false hgw
    have HGD := hide hgd
    go_wp2_with fail
    go_quiet (fail)
    go_wp2_with fail
    go_ret
    refine ⟨?_, below_drewN' HB1.out⟩
    rw [HR.out, HGD.out]
    simp
end Go.Proofs.YtmkidefdegaamaaGreatDoor.Jr
namespace Go.Proofs.YtmkidefdegaamaaGreatDoor.Hi
open Go.RowKit Go.Maps Mem Foot Im Wm Hk Hb Plainw Cq
set_option maxRecDepth 10000 in
set_option maxHeartbeats 1000000 in
theorem quantile (T S b : Nat) (L : Lim) (n : Nat) (t : Tim) (q : Int) (hq0 : 0 ≤ q) (hq1 : q ≤ 100) (w : World) (h : TiAt w T S b L.buckets t) (hf : TFit L n t) (hn : n ≤ 1000000000000000) (hL' : L.buckets ≤ 64) (hc : 1 ≤ t.count) :
    Calls Tryz.prog 110 #[.pointer (some ⟨T, 0, none⟩), .int .i64 q] w fun e w' => e = .returned (.int .i64 (quant t q)) ∧ Below w.heap.size w w' := by
  have hc1 : t.count ≤ 1000000000000000 := hf.count.2
  have hm0 : 0 ≤ q * (t.count - 1) := Int.mul_nonneg hq0 (by omega)
  have hm1 : q * (t.count - 1) ≤ 100000000000000000 := by
    have := Int.mul_le_mul hq1 (show t.count - 1 ≤ 1000000000000000 by omega) (by omega) (by omega : (0 : Int) ≤ 100)
    omega
  have C0 : ∀ s : Bw w, s.val.cell? ⟨T, 0, none⟩ = some (.int .i64 t.count) := fun s => (h.keep s.is).head.cell 0 _ rfl
  have C4 : ∀ s : Bw w, s.val.cell? ⟨T, 4, none⟩ = some (.pointer (some ⟨S, 0, none⟩)) := fun s => (h.keep s.is).head.cell 4 _ rfl
  have HA := hide (fun s : Bw w => call_cls (atW S b L.buckets t.cells t.folded (q * (t.count - 1) / 100) s.val (h.keep s.is).sk (CFit.of hf hn hL')))
  have HE := hide (show quant t q = upto (q * (t.count - 1) / 100) 0 t.cells from rfl)
  clear h hf
  go_enter Tryz.func110, Tryz.ntmps110
  go_wp2_with fail
  refine region_cls (by kernel_rfl) (by kernel_rfl) ?_
  repeat (first
    | go_big_quiet_skip
    | (go_big_quiet_want; go_big_quiet_op; first | go_big_quiet_on | (apply Exists.intro; refine ⟨fun _ => ?_, ?_⟩; exact HA.out _; go_big_quiet_on)))
  refine wpQuiet_nil ?_
  rintro _ ⟨s, rfl⟩
  go_wp2_with fail
  go_ret
  exact ⟨by rw [HE.out]; rfl, s.is⟩
end Go.Proofs.YtmkidefdegaamaaGreatDoor.Hi
namespace Go.Proofs.YtmkidefdegaamaaGreatDoor.Hi
open Go.RowKit Go.Maps Mem Foot Im Wm Hk Hb Plainw Cq
theorem upto_range {k : Int} {l : List (Int × Cel)} (h : ∀ c ∈ l, 0 ≤ c.2.stands ∧ c.2.stands ≤ 2000000000) : ∀ s, 0 ≤ upto k s l ∧ upto k s l ≤ 2000000000 := by
  induction l with
  | nil => intro s; simp [upto]
  | cons c r ih =>
    intro s
    rw [upto]
    split
    · exact h c (List.mem_cons_self ..)
    · exact ih (fun c hc => h c (List.mem_cons_of_mem _ hc)) _
theorem quant_range {L : Lim} {n : Nat} {t : Tim} (h : TFit L n t) (q : Int) : 0 ≤ quant t q ∧ quant t q ≤ 2000000000 :=
  upto_range (fun c hc => ⟨(h.cel c hc).2.2.1, (h.cel c hc).2.2.2.1⟩) 0
theorem cells8 (w : World) (x : Fin 8 → Int) (t : TypeId) : ∀ (j : Nat) y, [x 0, x 1, x 2, x 3, x 4, x 5, x 6, x 7][j]? = some y → (w.alloc (.cells #[.int .i64 (x 0), .int .i64 (x 1), .int .i64 (x 2), .int .i64 (x 3), .int .i64 (x 4), .int .i64 (x 5), .int .i64 (x 6), .int .i64 (x 7)] t)).cell? ⟨w.heap.size, j, none⟩ = some (.int .i64 y) := by
  intro j y hj
  refine (Sits.new w t _).cell j _ ?_
  match j, hj with
  | 0, hj => simp at hj; subst hj; rfl
  | 1, hj => simp at hj; subst hj; rfl
  | 2, hj => simp at hj; subst hj; rfl
  | 3, hj => simp at hj; subst hj; rfl
  | 4, hj => simp at hj; subst hj; rfl
  | 5, hj => simp at hj; subst hj; rfl
  | 6, hj => simp at hj; subst hj; rfl
  | 7, hj => simp at hj; subst hj; rfl
  | j + 8, hj => simp at hj
/-- The numbers, joined, out of a row that was just built. -/
theorem join8 (w0 w : World) (x0 x1 x2 x3 x4 x5 x6 x7 : Int) (hb : Below w0.heap.size w0 w) (ht : Tab w) (hr : ∀ x ∈ [x0, x1, x2, x3, x4, x5, x6, x7], -9223372036854775808 ≤ x ∧ x ≤ 9223372036854775807) :
    Calls Tryz.prog 109 #[.slice (some ⟨w.heap.size, 0, none⟩) 8 8] (w.alloc (.cells #[.int .i64 x0, .int .i64 x1, .int .i64 x2, .int .i64 x3, .int .i64 x4, .int .i64 x5, .int .i64 x6, .int .i64 x7] 3)) fun e w' => (∃ z, e = .returned (.string z) ∧ Bytes.B z = Lib.join ([x0, x1, x2, x3, x4, x5, x6, x7].map Lib.itoa) [32]) ∧ Below w0.heap.size w0 w' := by
  refine (joined w.heap.size 8 [x0, x1, x2, x3, x4, x5, x6, x7] _ (ht.below (below_new _)) (by simp) (by simp) (cells8 w (fun i => [x0, x1, x2, x3, x4, x5, x6, x7][i]) 3) hr rfl).mono ?_
  rintro e w' ⟨h1, h2⟩
  exact ⟨h1, (hb.alloc hb.size _).trans (h2.mono (hb.alloc hb.size _).size)⟩
set_option maxRecDepth 10000 in
set_option maxHeartbeats 2000000 in
theorem tiText (T S b : Nat) (L : Lim) (n : Nat) (t : Tim) (w : World) (h : TiAt w T S b L.buckets t) (hf : TFit L n t) (ht : Tab w) (hn : n ≤ 1000000000000000) (hL' : L.buckets ≤ 64) (hc : 1 ≤ t.count) :
    Calls Tryz.prog 85 #[.pointer (some ⟨T, 0, none⟩)] w fun e w' => (∃ z, e = .returned (.string z) ∧ Bytes.B z = stext (.tim t)) ∧ Below w.heap.size w w' := by
  obtain ⟨c0, c1, c2, c3, c4, f0, f1, f2, f3⟩ := cells5 h.head
  have C0 : ∀ s : Bw w, s.val.cell? ⟨T, 0, none⟩ = some (.int .i64 t.count) := fun s => (h.keep s.is).head.cell 0 _ rfl
  have C1 : ∀ s : Bw w, s.val.cell? ⟨T, 1, none⟩ = some (.int .i64 t.sum) := fun s => (h.keep s.is).head.cell 1 _ rfl
  have C2 : ∀ s : Bw w, s.val.cell? ⟨T, 2, none⟩ = some (.int .i64 t.least) := fun s => (h.keep s.is).head.cell 2 _ rfl
  have C3 : ∀ s : Bw w, s.val.cell? ⟨T, 3, none⟩ = some (.int .i64 t.greatest) := fun s => (h.keep s.is).head.cell 3 _ rfl
  have HA := hide (fun (q : Int) (h0 : 0 ≤ q) (h1 : q ≤ 100) (s : Bw w) => call_cls (quantile T S b L n t q h0 h1 s.val (h.keep s.is) hf hn hL' hc))
  have hfd := folded S b L.buckets t.cells t.folded w h.sk
  have HT := hide (fun s : Bw w => ht.below s.is)
  have HR := hide (show ∀ x ∈ tnums t, -9223372036854775808 ≤ x ∧ x ≤ 9223372036854775807 by
    intro x hx
    have q1 := hf.count
    have q2 := hf.sum
    have q3 := hf.least
    have q4 := hf.greatest
    have q5 := quant_range hf 50
    have q6 := quant_range hf 90
    have q7 := quant_range hf 99
    simp only [top] at q1 q2
    simp only [tnums, List.mem_cons, List.not_mem_nil, or_false] at hx
    rcases hx with rfl | rfl | rfl | rfl | rfl | rfl | rfl | rfl
    · omega
    · omega
    · omega
    · omega
    · omega
    · omega
    · omega
    · split <;> omega)
  have HE := hide (show stext (.tim t) = Lib.join ((tnums t).map Lib.itoa) [32] from rfl)
  clear c0 c1 c2 c3 f0 f1 f2 f3 h hf
  cases hfo : t.folded with
  | true =>
    rw [hfo] at hfd
    have HN := hide (show tnums t = [t.count, t.sum, t.least, t.greatest, quant t 50, quant t 90, quant t 99, 1] by simp [tnums, hfo])
    clear hfo
    go_enter Tryz.func85, Tryz.ntmps85
    go_wp2_with fail
    refine hfd.mono ?_
    clear hfd
    rintro e w' ⟨rfl, rfl⟩
    go_wp2_with fail
    refine region_pre 23 (by kernel_rfl) (by kernel_rfl) ?_
    simp only [List.take_succ_cons, List.take_zero, List.drop_succ_cons, List.drop_zero]
    repeat (first
      | go_big_quiet_skip
      | (go_big_quiet_want; go_big_quiet_op; first | go_big_quiet_on | (apply Exists.intro; refine ⟨fun _ => ?_, ?_⟩; exact HA.out _ (by decide) (by decide) _; go_big_quiet_on)))
    refine wpQuiet_nil ?_
    intro s
    have hj := join8 w' s.val t.count t.sum t.least t.greatest (quant t 50) (quant t 90) (quant t 99) 1 s.is (HT.out s) (by rw [← HN.out]; exact HR.out)
    rw [← HN.out, ← HE.out] at hj
    clear C0 C1 C2 C3
    go_wp2_with fail
    refine hj.mono ?_
    clear hj
    rintro e w2 ⟨⟨z, rfl, hz⟩, hb⟩
    have HZ := hide hz
    have HB := hide hb
    clear hz hb
    go_wp2_with fail
    go_ret
    exact ⟨⟨z, rfl, HZ.out⟩, HB.out⟩
  | false =>
    rw [hfo] at hfd
    have HN := hide (show tnums t = [t.count, t.sum, t.least, t.greatest, quant t 50, quant t 90, quant t 99, 0] by simp [tnums, hfo])
    clear hfo
    go_enter Tryz.func85, Tryz.ntmps85
    go_wp2_with fail
    refine hfd.mono ?_
    clear hfd
    rintro e w' ⟨rfl, rfl⟩
    go_wp2_with fail
    refine region_pre 23 (by kernel_rfl) (by kernel_rfl) ?_
    simp only [List.take_succ_cons, List.take_zero, List.drop_succ_cons, List.drop_zero]
    repeat (first
      | go_big_quiet_skip
      | (go_big_quiet_want; go_big_quiet_op; first | go_big_quiet_on | (apply Exists.intro; refine ⟨fun _ => ?_, ?_⟩; exact HA.out _ (by decide) (by decide) _; go_big_quiet_on)))
    refine wpQuiet_nil ?_
    intro s
    have hj := join8 w' s.val t.count t.sum t.least t.greatest (quant t 50) (quant t 90) (quant t 99) 0 s.is (HT.out s) (by rw [← HN.out]; exact HR.out)
    rw [← HN.out, ← HE.out] at hj
    clear C0 C1 C2 C3
    go_wp2_with fail
    refine hj.mono ?_
    clear hj
    rintro e w2 ⟨⟨z, rfl, hz⟩, hb⟩
    have HZ := hide hz
    have HB := hide hb
    clear hz hb
    go_wp2_with fail
    go_ret
    exact ⟨⟨z, rfl, HZ.out⟩, HB.out⟩
end Go.Proofs.YtmkidefdegaamaaGreatDoor.Hi
namespace Go.Proofs.YtmkidefdegaamaaGreatDoor.Wm
open Im Opts
theorem lines_ne (l : Bs) : lines l ≠ [] := by
  cases l with
  | nil => simp [lines]
  | cons c r =>
    rw [lines]
    split
    · simp
    · split <;> simp
theorem lines_join (a b : Bs) : lines (a ++ 10 :: b) = lines a ++ lines b := by
  induction a with
  | nil => simp [lines]
  | cons c r ih =>
    rw [List.cons_append, lines, lines, ih]
    by_cases h : c = 10
    · simp [h]
    · simp only [h, if_false]
      cases hr : lines r with
      | nil => exact absurd hr (lines_ne r)
      | cons x y => rfl
theorem wline_nil (L : Lim) (w : Win) : wline L w [] = w := by rw [wline, if_pos rfl]
/-- One line alone. -/
theorem lines_one {l : Bs} (h : (10 : UInt8) ∉ l) : lines l = [l] := by
  induction l with
  | nil => rfl
  | cons c r ih =>
    have h1 : c ≠ 10 := fun e => h (by simp [e])
    rw [lines, if_neg h1, ih fun e => h (List.mem_cons_of_mem _ e)]
theorem itoa_pos (n : Int) : 1 ≤ (Lib.itoa n).length := by
  unfold Lib.itoa
  have h : ∀ m, 1 ≤ (Lib.decDigits m).length := fun m => by
    rw [Lib.decDigits_length]
    exact Lib.nDigits_pos _
  split
  · simp
  · exact h _
theorem whead_len (n : Int) (r d : Nat) : 27 ≤ (whead n r d).length := by
  have h1 := itoa_pos n
  have h2 := itoa_pos r
  have h3 := itoa_pos d
  simp only [whead, List.length_append, List.length_cons, List.length_nil]
  omega
end Go.Proofs.YtmkidefdegaamaaGreatDoor.Wm
