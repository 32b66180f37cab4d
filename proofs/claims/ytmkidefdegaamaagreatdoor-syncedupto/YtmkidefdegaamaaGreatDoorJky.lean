/- Whether a record fits behind those that were taken. -/
import Derived.Test.YtmkidefdegaamaaGreatDoorHiy
import Derived.Test.YtmkidefdegaamaaGreatDoorPlainvy
namespace Go.Proofs.YtmkidefdegaamaaGreatDoor.Jr
open Go.RowKit Mem Foot Bytes Im Wm Hi Plainw Cq
/-- Whether such a record is written there. -/
def hfits (kb : ByteArray) (win : Int) (begun : Bool) (onum g : Int) : Bool :=
  if kb = ⟨#[100]⟩ then decide (g < win) && (!begun || decide (win = onum))
  else if kb = ⟨#[115]⟩ then begun && decide (win = onum)
  else if kb = ⟨#[98]⟩ then decide (g ≤ win)
  else false
theorem cells7 {w : World} {b : Nat} {t : TypeId} {v0 v1 v2 v3 v4 v5 v6 : Value} (h : Sits w b t #[v0, v1, v2, v3, v4, v5, v6]) :
    w.cell? ⟨b, 1, none⟩ = some v1 ∧ w.cell? ⟨b, 2, none⟩ = some v2 ∧ w.cell? ⟨b, 4, none⟩ = some v4 := ⟨h.cell 1 _ rfl, h.cell 2 _ rfl, h.cell 4 _ rfl⟩
set_option maxRecDepth 10000 in
set_option maxHeartbeats 2000000 in
theorem fits_base (w : World) (hb : Nat) (sv sg : Value) (onum g es ez : Int) (da : Option Addr) (dl dc : Nat) (win : Int) (tb : ByteArray) (h : Sits w hb 101 #[sv, .int .i64 onum, .slice da dl dc, sg, .int .i64 g, .int .i64 es, .int .i64 ez]) :
    Calls Tryz.prog 74 #[.pointer (some ⟨hb, 0, none⟩), .agg #[.string ⟨#[98]⟩, .int .i64 win, .string tb]] w fun e w' => e = .returned (.bool (hfits ⟨#[98]⟩ win (decide (0 < dl)) onum g)) ∧ Below w.heap.size w w' := by
  have HS1 := hide (Sits.new w 121 #[.string ⟨#[98]⟩, .int .i64 win, .string tb])
  have HB1 := hide (below_new (w := w) (.cells #[.string ⟨#[98]⟩, .int .i64 win, .string tb] 121))
  have HH := hide (Mem.Sits.below h (below_new (w := w) (.cells #[.string ⟨#[98]⟩, .int .i64 win, .string tb] 121)) h.lt)
  have HR := hide (show hfits ⟨#[98]⟩ win (decide (0 < dl)) onum g = decide (g ≤ win) by unfold hfits; rw [if_neg (by decide), if_neg (by decide), if_pos rfl])
  clear h
  go_enter Tryz.func74, Tryz.ntmps74
  go_upto_region 1 with fail
  obtain ⟨X, hX⟩ : ∃ X, w.heap.size = X := ⟨_, rfl⟩
  rw [hX] at HS1 ⊢
  clear hX
  generalize w.alloc (.cells #[.string ⟨#[98]⟩, .int .i64 win, .string tb] 121) = w1 at *
  obtain ⟨c1, c2, c4⟩ := cells7 HH.out
  have d0 := HS1.out.cell 0 _ rfl
  have d1 := HS1.out.cell 1 _ rfl
  go_wp2_with fail
  go_quiet (fail)
  go_wp2_with fail
  go_ret
  exact ⟨by rw [HR.out]; rfl, below_drewN' HB1.out⟩
set_option maxRecDepth 10000 in
set_option maxHeartbeats 2000000 in
theorem fits_seal (w : World) (hb : Nat) (sv sg : Value) (onum g es ez : Int) (da : Option Addr) (dl dc : Nat) (win : Int) (tb : ByteArray) (h : Sits w hb 101 #[sv, .int .i64 onum, .slice da dl dc, sg, .int .i64 g, .int .i64 es, .int .i64 ez]) :
    Calls Tryz.prog 74 #[.pointer (some ⟨hb, 0, none⟩), .agg #[.string ⟨#[115]⟩, .int .i64 win, .string tb]] w fun e w' => e = .returned (.bool (hfits ⟨#[115]⟩ win (decide (0 < dl)) onum g)) ∧ Below w.heap.size w w' := by
  have HS1 := hide (Sits.new w 121 #[.string ⟨#[115]⟩, .int .i64 win, .string tb])
  have HB1 := hide (below_new (w := w) (.cells #[.string ⟨#[115]⟩, .int .i64 win, .string tb] 121))
  have HH := hide (Mem.Sits.below h (below_new (w := w) (.cells #[.string ⟨#[115]⟩, .int .i64 win, .string tb] 121)) h.lt)
  have HR := hide (show hfits ⟨#[115]⟩ win (decide (0 < dl)) onum g = (decide (0 < dl) && decide (win = onum)) by unfold hfits; rw [if_neg (by decide), if_pos rfl])
  clear h
  go_enter Tryz.func74, Tryz.ntmps74
  go_upto_region 1 with fail
  obtain ⟨X, hX⟩ : ∃ X, w.heap.size = X := ⟨_, rfl⟩
  rw [hX] at HS1 ⊢
  clear hX
  generalize w.alloc (.cells #[.string ⟨#[115]⟩, .int .i64 win, .string tb] 121) = w1 at *
  obtain ⟨c1, c2, c4⟩ := cells7 HH.out
  have d0 := HS1.out.cell 0 _ rfl
  have d1 := HS1.out.cell 1 _ rfl
  by_cases hdl : 0 < dl
  · have hdi : decide ((0 : Int) < (dl : Int)) = true := decide_eq_true (by omega)
    have hdn : decide (0 < dl) = true := decide_eq_true hdl
    go_wp2_with fail
    go_quiet (fail)
    go_wp2_with fail
    go_ret
    refine ⟨?_, below_drewN' HB1.out⟩
    rw [HR.out, hdn]
    by_cases e : win = onum <;> simp [e]
  · have hdl0 : dl = 0 := by omega
    subst hdl0
    go_wp2_with fail
    go_quiet (fail)
    go_wp2_with fail
    go_ret
    refine ⟨?_, below_drewN' HB1.out⟩
    rw [HR.out]
    simp
set_option maxRecDepth 10000 in
set_option maxHeartbeats 2000000 in
theorem fits_datagram (w : World) (hb : Nat) (sv sg : Value) (onum g es ez : Int) (da : Option Addr) (dl dc : Nat) (win : Int) (tb : ByteArray) (h : Sits w hb 101 #[sv, .int .i64 onum, .slice da dl dc, sg, .int .i64 g, .int .i64 es, .int .i64 ez]) :
    Calls Tryz.prog 74 #[.pointer (some ⟨hb, 0, none⟩), .agg #[.string ⟨#[100]⟩, .int .i64 win, .string tb]] w fun e w' => e = .returned (.bool (hfits ⟨#[100]⟩ win (decide (0 < dl)) onum g)) ∧ Below w.heap.size w w' := by
  have HS1 := hide (Sits.new w 121 #[.string ⟨#[100]⟩, .int .i64 win, .string tb])
  have HB1 := hide (below_new (w := w) (.cells #[.string ⟨#[100]⟩, .int .i64 win, .string tb] 121))
  have HH := hide (Mem.Sits.below h (below_new (w := w) (.cells #[.string ⟨#[100]⟩, .int .i64 win, .string tb] 121)) h.lt)
  have HR := hide (show hfits ⟨#[100]⟩ win (decide (0 < dl)) onum g = (decide (g < win) && (!decide (0 < dl) || decide (win = onum))) by unfold hfits; rw [if_pos rfl])
  clear h
  go_enter Tryz.func74, Tryz.ntmps74
  go_upto_region 1 with fail
  obtain ⟨X, hX⟩ : ∃ X, w.heap.size = X := ⟨_, rfl⟩
  rw [hX] at HS1 ⊢
  clear hX
  generalize w.alloc (.cells #[.string ⟨#[100]⟩, .int .i64 win, .string tb] 121) = w1 at *
  obtain ⟨c1, c2, c4⟩ := cells7 HH.out
  have d0 := HS1.out.cell 0 _ rfl
  have d1 := HS1.out.cell 1 _ rfl
  by_cases hgw : g < win
  · have hgd : decide (g < win) = true := decide_eq_true hgw
    by_cases hdl : 0 < dl
    · have hdi : decide ((0 : Int) < (dl : Int)) = true := decide_eq_true (by omega)
      have hdn : decide (0 < dl) = true := decide_eq_true hdl
      go_wp2_with fail
      go_quiet (fail)
      go_wp2_with fail
      go_ret
      refine ⟨?_, below_drewN' HB1.out⟩
      rw [HR.out, hdn, hgd]
      by_cases e : win = onum <;> simp [e]
    · have hdl0 : dl = 0 := by omega
      subst hdl0
      go_wp2_with fail
      go_quiet (fail)
      go_wp2_with fail
      go_ret
      refine ⟨?_, below_drewN' HB1.out⟩
      rw [HR.out, hgd]
      simp
  · have hgd : decide (g < win) = false := decide_eq_false hgw
    have HGD := hide hgd
    go_wp2_with fail
    go_quiet (fail)
    go_wp2_with fail
    go_ret
    refine ⟨?_, below_drewN' HB1.out⟩
    rw [HR.out, HGD.out]
    simp
end Go.Proofs.YtmkidefdegaamaaGreatDoor.Jr
namespace Go.Proofs.YtmkidefdegaamaaGreatDoor.Hi
open Go.RowKit Go.Maps Mem Foot Im Wm Hk Hb Plainw Cq
set_option maxRecDepth 10000 in
set_option maxHeartbeats 1000000 in
theorem quantile (T S b : Nat) (L : Lim) (n : Nat) (t : Tim) (q : Int) (hq0 : 0 ≤ q) (hq1 : q ≤ 100) (w : World) (h : TiAt w T S b L.buckets t) (hf : TFit L n t) (hn : n ≤ 1000000000000000) (hL' : L.buckets ≤ 64) (hc : 1 ≤ t.count) :
    Calls Tryz.prog 110 #[.pointer (some ⟨T, 0, none⟩), .int .i64 q] w fun e w' => e = .returned (.int .i64 (quant t q)) ∧ Below w.heap.size w w' := by
  have hc1 : t.count ≤ 1000000000000000 := hf.count.2
  have hm0 : 0 ≤ q * (t.count - 1) := Int.mul_nonneg hq0 (by omega)
  have hm1 : q * (t.count - 1) ≤ 100000000000000000 := by
    have := Int.mul_le_mul hq1 (show t.count - 1 ≤ 1000000000000000 by omega) (by omega) (by omega : (0 : Int) ≤ 100)
    omega
  have C0 : ∀ s : Bw w, s.val.cell? ⟨T, 0, none⟩ = some (.int .i64 t.count) := fun s => (h.keep s.is).head.cell 0 _ rfl
  have C4 : ∀ s : Bw w, s.val.cell? ⟨T, 4, none⟩ = some (.pointer (some ⟨S, 0, none⟩)) := fun s => (h.keep s.is).head.cell 4 _ rfl
  have HA := hide (fun s : Bw w => call_cls (atW S b L.buckets t.cells t.folded (q * (t.count - 1) / 100) s.val (h.keep s.is).sk (CFit.of hf hn hL')))
  have HE := hide (show quant t q = upto (q * (t.count - 1) / 100) 0 t.cells from rfl)
  clear h hf
  go_enter Tryz.func110, Tryz.ntmps110
  go_wp2_with fail
  refine region_cls (by kernel_rfl) (by kernel_rfl) ?_
  repeat (first
    | go_big_quiet_skip
    | (go_big_quiet_want; go_big_quiet_op; first | go_big_quiet_on | (apply Exists.intro; refine ⟨fun _ => ?_, ?_⟩; exact HA.out _; go_big_quiet_on)))
  refine wpQuiet_nil ?_
  rintro _ ⟨s, rfl⟩
  go_wp2_with fail
  go_ret
  exact ⟨by rw [HE.out]; rfl, s.is⟩
end Go.Proofs.YtmkidefdegaamaaGreatDoor.Hi
namespace Go.Proofs.YtmkidefdegaamaaGreatDoor.Hi
open Go.RowKit Go.Maps Mem Foot Im Wm Hk Hb Plainw Cq
theorem upto_range {k : Int} {l : List (Int × Cel)} (h : ∀ c ∈ l, 0 ≤ c.2.stands ∧ c.2.stands ≤ 2000000000) : ∀ s, 0 ≤ upto k s l ∧ upto k s l ≤ 2000000000 := by
  induction l with
  | nil => intro s; simp [upto]
  | cons c r ih =>
    intro s
    rw [upto]
    split
    · exact h c (List.mem_cons_self ..)
    · exact ih (fun c hc => h c (List.mem_cons_of_mem _ hc)) _
theorem quant_range {L : Lim} {n : Nat} {t : Tim} (h : TFit L n t) (q : Int) : 0 ≤ quant t q ∧ quant t q ≤ 2000000000 :=
  upto_range (fun c hc => ⟨(h.cel c hc).2.2.1, (h.cel c hc).2.2.2.1⟩) 0
theorem cells8 (w : World) (x : Fin 8 → Int) (t : TypeId) : ∀ (j : Nat) y, [x 0, x 1, x 2, x 3, x 4, x 5, x 6, x 7][j]? = some y → (w.alloc (.cells #[.int .i64 (x 0), .int .i64 (x 1), .int .i64 (x 2), .int .i64 (x 3), .int .i64 (x 4), .int .i64 (x 5), .int .i64 (x 6), .int .i64 (x 7)] t)).cell? ⟨w.heap.size, j, none⟩ = some (.int .i64 y) := by
  intro j y hj
  refine (Sits.new w t _).cell j _ ?_
  match j, hj with
  | 0, hj => simp at hj; subst hj; rfl
  | 1, hj => simp at hj; subst hj; rfl
  | 2, hj => simp at hj; subst hj; rfl
  | 3, hj => simp at hj; subst hj; rfl
  | 4, hj => simp at hj; subst hj; rfl
  | 5, hj => simp at hj; subst hj; rfl
  | 6, hj => simp at hj; subst hj; rfl
  | 7, hj => simp at hj; subst hj; rfl
  | j + 8, hj => simp at hj
/-- The numbers, joined, out of a row that was just built. -/
theorem join8 (w0 w : World) (x0 x1 x2 x3 x4 x5 x6 x7 : Int) (hb : Below w0.heap.size w0 w) (ht : Tab w) (hr : ∀ x ∈ [x0, x1, x2, x3, x4, x5, x6, x7], -9223372036854775808 ≤ x ∧ x ≤ 9223372036854775807) :
    Calls Tryz.prog 109 #[.slice (some ⟨w.heap.size, 0, none⟩) 8 8] (w.alloc (.cells #[.int .i64 x0, .int .i64 x1, .int .i64 x2, .int .i64 x3, .int .i64 x4, .int .i64 x5, .int .i64 x6, .int .i64 x7] 3)) fun e w' => (∃ z, e = .returned (.string z) ∧ Bytes.B z = Lib.join ([x0, x1, x2, x3, x4, x5, x6, x7].map Lib.itoa) [32]) ∧ Below w0.heap.size w0 w' := by
  refine (joined w.heap.size 8 [x0, x1, x2, x3, x4, x5, x6, x7] _ (ht.below (below_new _)) (by simp) (by simp) (cells8 w (fun i => [x0, x1, x2, x3, x4, x5, x6, x7][i]) 3) hr rfl).mono ?_
  rintro e w' ⟨h1, h2⟩
  exact ⟨h1, (hb.alloc hb.size _).trans (h2.mono (hb.alloc hb.size _).size)⟩
set_option maxRecDepth 10000 in
set_option maxHeartbeats 2000000 in
theorem tiText (T S b : Nat) (L : Lim) (n : Nat) (t : Tim) (w : World) (h : TiAt w T S b L.buckets t) (hf : TFit L n t) (ht : Tab w) (hn : n ≤ 1000000000000000) (hL' : L.buckets ≤ 64) (hc : 1 ≤ t.count) :
    Calls Tryz.prog 85 #[.pointer (some ⟨T, 0, none⟩)] w fun e w' => (∃ z, e = .returned (.string z) ∧ Bytes.B z = stext (.tim t)) ∧ Below w.heap.size w w' := by
  obtain ⟨c0, c1, c2, c3, c4, f0, f1, f2, f3⟩ := cells5 h.head
  have C0 : ∀ s : Bw w, s.val.cell? ⟨T, 0, none⟩ = some (.int .i64 t.count) := fun s => (h.keep s.is).head.cell 0 _ rfl
  have C1 : ∀ s : Bw w, s.val.cell? ⟨T, 1, none⟩ = some (.int .i64 t.sum) := fun s => (h.keep s.is).head.cell 1 _ rfl
  have C2 : ∀ s : Bw w, s.val.cell? ⟨T, 2, none⟩ = some (.int .i64 t.least) := fun s => (h.keep s.is).head.cell 2 _ rfl
  have C3 : ∀ s : Bw w, s.val.cell? ⟨T, 3, none⟩ = some (.int .i64 t.greatest) := fun s => (h.keep s.is).head.cell 3 _ rfl
  have HA := hide (fun (q : Int) (h0 : 0 ≤ q) (h1 : q ≤ 100) (s : Bw w) => call_cls (quantile T S b L n t q h0 h1 s.val (h.keep s.is) hf hn hL' hc))
  have hfd := folded S b L.buckets t.cells t.folded w h.sk
  have HT := hide (fun s : Bw w => ht.below s.is)
  have HR := hide (show ∀ x ∈ tnums t, -9223372036854775808 ≤ x ∧ x ≤ 9223372036854775807 by
    intro x hx
    have q1 := hf.count
    have q2 := hf.sum
    have q3 := hf.least
    have q4 := hf.greatest
    have q5 := quant_range hf 50
    have q6 := quant_range hf 90
    have q7 := quant_range hf 99
    simp only [top] at q1 q2
    simp only [tnums, List.mem_cons, List.not_mem_nil, or_false] at hx
    rcases hx with rfl | rfl | rfl | rfl | rfl | rfl | rfl | rfl
    · omega
    · omega
    · omega
    · omega
    · omega
    · omega
    · omega
    · split <;> omega)
  have HE := hide (show stext (.tim t) = Lib.join ((tnums t).map Lib.itoa) [32] from rfl)
  clear c0 c1 c2 c3 f0 f1 f2 f3 h hf
  cases hfo : t.folded with
  | true =>
    rw [hfo] at hfd
    have HN := hide (show tnums t = [t.count, t.sum, t.least, t.greatest, quant t 50, quant t 90, quant t 99, 1] by simp [tnums, hfo])
    clear hfo
    go_enter Tryz.func85, Tryz.ntmps85
    go_wp2_with fail
    refine hfd.mono ?_
    clear hfd
    rintro e w' ⟨rfl, rfl⟩
    go_wp2_with fail
    refine region_pre 23 (by kernel_rfl) (by kernel_rfl) ?_
    simp only [List.take_succ_cons, List.take_zero, List.drop_succ_cons, List.drop_zero]
    repeat (first
      | go_big_quiet_skip
      | (go_big_quiet_want; go_big_quiet_op; first | go_big_quiet_on | (apply Exists.intro; refine ⟨fun _ => ?_, ?_⟩; exact HA.out _ (by decide) (by decide) _; go_big_quiet_on)))
    refine wpQuiet_nil ?_
    intro s
    have hj := join8 w' s.val t.count t.sum t.least t.greatest (quant t 50) (quant t 90) (quant t 99) 1 s.is (HT.out s) (by rw [← HN.out]; exact HR.out)
    rw [← HN.out, ← HE.out] at hj
    clear C0 C1 C2 C3
    go_wp2_with fail
    refine hj.mono ?_
    clear hj
    rintro e w2 ⟨⟨z, rfl, hz⟩, hb⟩
    have HZ := hide hz
    have HB := hide hb
    clear hz hb
    go_wp2_with fail
    go_ret
    exact ⟨⟨z, rfl, HZ.out⟩, HB.out⟩
  | false =>
    rw [hfo] at hfd
    have HN := hide (show tnums t = [t.count, t.sum, t.least, t.greatest, quant t 50, quant t 90, quant t 99, 0] by simp [tnums, hfo])
    clear hfo
    go_enter Tryz.func85, Tryz.ntmps85
    go_wp2_with fail
    refine hfd.mono ?_
    clear hfd
    rintro e w' ⟨rfl, rfl⟩
    go_wp2_with fail
    refine region_pre 23 (by kernel_rfl) (by kernel_rfl) ?_
    simp only [List.take_succ_cons, List.take_zero, List.drop_succ_cons, List.drop_zero]
    repeat (first
      | go_big_quiet_skip
      | (go_big_quiet_want; go_big_quiet_op; first | go_big_quiet_on | (apply Exists.intro; refine ⟨fun _ => ?_, ?_⟩; exact HA.out _ (by decide) (by decide) _; go_big_quiet_on)))
    refine wpQuiet_nil ?_
    intro s
    have hj := join8 w' s.val t.count t.sum t.least t.greatest (quant t 50) (quant t 90) (quant t 99) 0 s.is (HT.out s) (by rw [← HN.out]; exact HR.out)
    rw [← HN.out, ← HE.out] at hj
    clear C0 C1 C2 C3
    go_wp2_with fail
    refine hj.mono ?_
    clear hj
    rintro e w2 ⟨⟨z, rfl, hz⟩, hb⟩
    have HZ := hide hz
    have HB := hide hb
    clear hz hb
    go_wp2_with fail
    go_ret
    exact ⟨⟨z, rfl, HZ.out⟩, HB.out⟩
end Go.Proofs.YtmkidefdegaamaaGreatDoor.Hi
namespace Go.Proofs.YtmkidefdegaamaaGreatDoor.Hn
open Go.RowKit Go.Maps Mem Foot Im Wm Hk Hb Hi Plainw Cq
/-- Where a series lies. -/
structure Gh where
  X : Nat
  A : Nat
  S : Nat
  b : Nat
def SeAt (w : World) (L : Lim) (k : Bs) (g : Gh) : Ser → Prop
  | .num n => ∃ kb, Bytes.B kb = kindOf k ∧ Sits w g.X 164 #[.string kb, .int .i64 n, .pointer none, .pointer none]
  | .set ws => Sits w g.X 164 #[.string ⟨#[115]⟩, .int .i64 0, .pointer (some ⟨g.A, 0, none⟩), .pointer none] ∧ WoAt w g.A g.b L.sets ws
  | .tim t => Sits w g.X 164 #[.string ⟨#[109, 115]⟩, .int .i64 0, .pointer none, .pointer (some ⟨g.A, 0, none⟩)] ∧ TiAt w g.A g.S g.b L.buckets t
/-- What it may write. -/
def gf (g : Gh) : Ser → List Nat
  | .num _ => [g.X]
  | .set _ => [g.X, g.A, g.b]
  | .tim _ => [g.X, g.A, g.S, g.b]
theorem SeAt.off {F : List Nat} {w w' : World} {L : Lim} {k : Bs} {g : Gh} {s : Ser} (h : SeAt w L k g s) (ho : Off F w w') (hF : ∀ x ∈ gf g s, x ∉ F) : SeAt w' L k g s := by
  cases s with
  | num n =>
    obtain ⟨kb, h1, h2⟩ := h
    exact ⟨kb, h1, Foot.Sits.off h2 ho (hF _ (by simp [gf]))⟩
  | set ws => exact ⟨Foot.Sits.off h.1 ho (hF _ (by simp [gf])), h.2.off ho (hF _ (by simp [gf])) (hF _ (by simp [gf]))⟩
  | tim t => exact ⟨Foot.Sits.off h.1 ho (hF _ (by simp [gf])), h.2.off ho (hF _ (by simp [gf])) (hF _ (by simp [gf])) (hF _ (by simp [gf]))⟩
theorem SeAt.keep {w w' : World} {L : Lim} {k : Bs} {g : Gh} {s : Ser} (h : SeAt w L k g s) (hb : Below w.heap.size w w') : SeAt w' L k g s :=
  h.off (F := []) (Off.of_below hb) (by simp)
theorem SeAt.lt {w : World} {L : Lim} {k : Bs} {g : Gh} {s : Ser} (h : SeAt w L k g s) : ∀ x ∈ gf g s, x < w.heap.size := by
  intro x hx
  cases s with
  | num n =>
    obtain ⟨kb, h1, h2⟩ := h
    simp [gf] at hx
    rw [hx]
    exact h2.lt
  | set ws =>
    simp [gf] at hx
    rcases hx with rfl | rfl | rfl
    · exact h.1.lt
    · exact h.2.head.lt
    · exact h.2.map.below
  | tim t =>
    simp [gf] at hx
    rcases hx with rfl | rfl | rfl | rfl
    · exact h.1.lt
    · exact h.2.head.lt
    · exact h.2.sk.head.lt
    · exact h.2.sk.map.below
/-- The configuration as a value. -/
def cfg (c : Fin 6 → Int) : Value := .agg #[.int .i64 (c 0), .int .i64 (c 1), .int .i64 (c 2), .int .i64 (c 3), .int .i64 (c 4), .int .i64 (c 5)]
theorem head4 {w : World} {b : Nat} {t : TypeId} {v0 v1 v2 v3 : Value} (h : Sits w b t #[v0, v1, v2, v3]) :
    w.cell? ⟨b, 0, none⟩ = some v0 ∧ w.cell? ⟨b, 1, none⟩ = some v1 ∧ w.cell? ⟨b, 2, none⟩ = some v2 ∧ w.cell? ⟨b, 3, none⟩ = some v3 ∧ w.frozen? ⟨b, 0, none⟩ = false ∧ w.frozen? ⟨b, 1, none⟩ = false ∧ w.frozen? ⟨b, 2, none⟩ = false ∧ w.frozen? ⟨b, 3, none⟩ = false :=
  ⟨h.cell 0 _ rfl, h.cell 1 _ rfl, h.cell 2 _ rfl, h.cell 3 _ rfl, h.frozen 0, h.frozen 1, h.frozen 2, h.frozen 3⟩
theorem new_num (kb : ByteArray) (c : Fin 6 → Int) (L : Lim) (k : Bs) (hk : Bytes.B kb = kindOf k) (h1 : (kb.toList == [115]) = false) (h2 : (kb.toList == [109, 115]) = false) (w : World) :
    Calls Tryz.prog 121 #[.string kb, cfg c] w fun e w' => ∃ g : Gh, e = .returned (.pointer (some ⟨g.X, 0, none⟩)) ∧ SeAt w' L k g (.num 0) ∧ (∀ x ∈ gf g (.num 0), w.heap.size ≤ x) ∧ Below w.heap.size w w' := by
  unfold cfg
  go_enter Tryz.func121, Tryz.ntmps121
  go_wp2_with fail
  go_ret
  refine ⟨⟨w.heap.size + 1, 0, 0, 0⟩, by simp, ⟨kb, hk, ?_⟩, by simp [gf], (below_new _).alloc (by simp) _⟩
  have := Sits.new (w.alloc (.cells #[.int .i64 (c 0), .int .i64 (c 1), .int .i64 (c 2), .int .i64 (c 3), .int .i64 (c 4), .int .i64 (c 5)] 23)) 164 #[.string kb, .int .i64 0, .pointer none, .pointer none]
  simpa using this
theorem new_set (c : Fin 6 → Int) (L : Lim) (k : Bs) (hc : c 2 = L.sets) (w : World) :
    Calls Tryz.prog 121 #[.string ⟨#[115]⟩, cfg c] w fun e w' => ∃ g : Gh, e = .returned (.pointer (some ⟨g.X, 0, none⟩)) ∧ SeAt w' L k g (.set []) ∧ (∀ x ∈ gf g (.set []), w.heap.size ≤ x) ∧ Below w.heap.size w w' := by
  have HC := hide hc
  clear hc
  unfold cfg
  go_enter Tryz.func121, Tryz.ntmps121
  go_wp2_with fail
  have hS := Sits.new (w.alloc (.cells #[.int .i64 (c 0), .int .i64 (c 1), .int .i64 (c 2), .int .i64 (c 3), .int .i64 (c 4), .int .i64 (c 5)] 23)) 164 #[.string ⟨#[115]⟩, .int .i64 0, .pointer none, .pointer none]
  have hB : Below w.heap.size w ((w.alloc (.cells #[.int .i64 (c 0), .int .i64 (c 1), .int .i64 (c 2), .int .i64 (c 3), .int .i64 (c 4), .int .i64 (c 5)] 23)).alloc (.cells #[.string ⟨#[115]⟩, .int .i64 0, .pointer none, .pointer none] 164)) := (below_new _).alloc (by simp) _
  rw [World.size_alloc] at hS
  generalize (w.alloc (.cells #[.int .i64 (c 0), .int .i64 (c 1), .int .i64 (c 2), .int .i64 (c 3), .int .i64 (c 4), .int .i64 (c 5)] 23)).alloc (.cells #[.string ⟨#[115]⟩, .int .i64 0, .pointer none, .pointer none] 164) = w1 at *
  rw [HC.out]
  refine (woNew L.sets w1).mono ?_
  rintro e w2 ⟨rfl, hwo, hb2⟩
  have HS2 := hide (hS.below hb2 hS.lt)
  have HB2 := hide (hB.trans (hb2.mono hB.size))
  have HW := hide hwo
  have HL := hide (show w.heap.size ≤ w1.heap.size ∧ w.heap.size + 1 < w1.heap.size from ⟨hB.size, hS.lt⟩)
  obtain ⟨c0, c1, c2, c3, f0, f1, f2, f3⟩ := head4 HS2.out
  clear hS hB hwo hb2
  go_wp2_with fail
  go_ret
  obtain ⟨l1, l2⟩ := HL.out
  have ho : Off [w.heap.size + 1] w2 (w2.setCell ⟨w.heap.size + 1, 2, none⟩ (.pointer (some ⟨w1.heap.size + 1, 0, none⟩))) := (Off.refl _ _).set (by simp) _ _
  refine ⟨⟨w.heap.size + 1, w1.heap.size + 1, 0, w1.heap.size⟩, rfl, ⟨HS2.out.set 2 _, HW.out.off ho ?_ ?_⟩, ?_, HB2.out.setCell (p := ⟨w.heap.size + 1, 2, none⟩) (by simp) _⟩
  · simp
    omega
  · simp
    omega
  · intro x hx
    simp [gf] at hx
    omega
theorem new_tim (c : Fin 6 → Int) (L : Lim) (k : Bs) (hc : c 3 = L.buckets) (w : World) :
    Calls Tryz.prog 121 #[.string ⟨#[109, 115]⟩, cfg c] w fun e w' => ∃ g : Gh, e = .returned (.pointer (some ⟨g.X, 0, none⟩)) ∧ SeAt w' L k g (.tim ⟨0, 0, 0, 0, [], false⟩) ∧ (∀ x ∈ gf g (.tim ⟨0, 0, 0, 0, [], false⟩), w.heap.size ≤ x) ∧ Below w.heap.size w w' := by
  have HC := hide hc
  clear hc
  unfold cfg
  go_enter Tryz.func121, Tryz.ntmps121
  go_wp2_with fail
  have hS := Sits.new (w.alloc (.cells #[.int .i64 (c 0), .int .i64 (c 1), .int .i64 (c 2), .int .i64 (c 3), .int .i64 (c 4), .int .i64 (c 5)] 23)) 164 #[.string ⟨#[109, 115]⟩, .int .i64 0, .pointer none, .pointer none]
  have hB : Below w.heap.size w ((w.alloc (.cells #[.int .i64 (c 0), .int .i64 (c 1), .int .i64 (c 2), .int .i64 (c 3), .int .i64 (c 4), .int .i64 (c 5)] 23)).alloc (.cells #[.string ⟨#[109, 115]⟩, .int .i64 0, .pointer none, .pointer none] 164)) := (below_new _).alloc (by simp) _
  rw [World.size_alloc] at hS
  generalize (w.alloc (.cells #[.int .i64 (c 0), .int .i64 (c 1), .int .i64 (c 2), .int .i64 (c 3), .int .i64 (c 4), .int .i64 (c 5)] 23)).alloc (.cells #[.string ⟨#[109, 115]⟩, .int .i64 0, .pointer none, .pointer none] 164) = w1 at *
  rw [HC.out]
  refine (tiNew L.buckets w1).mono ?_
  rintro e w2 ⟨T, rfl, hT, hti, hb2⟩
  have HS2 := hide (hS.below hb2 hS.lt)
  have HB2 := hide (hB.trans (hb2.mono hB.size))
  have HW := hide hti
  have HL := hide (show w.heap.size ≤ w1.heap.size ∧ w.heap.size + 1 < w1.heap.size ∧ w1.heap.size ≤ T from ⟨hB.size, hS.lt, hT⟩)
  obtain ⟨c0, c1, c2, c3, f0, f1, f2, f3⟩ := head4 HS2.out
  clear hS hB hti hb2 hT
  go_wp2_with fail
  go_ret
  obtain ⟨l1, l2, l3⟩ := HL.out
  have ho : Off [w.heap.size + 1] w2 (w2.setCell ⟨w.heap.size + 1, 3, none⟩ (.pointer (some ⟨T, 0, none⟩))) := (Off.refl _ _).set (by simp) _ _
  refine ⟨⟨w.heap.size + 1, T, w1.heap.size + 1, w1.heap.size⟩, rfl, ⟨HS2.out.set 3 _, HW.out.off ho ?_ ?_ ?_⟩, ?_, HB2.out.setCell (p := ⟨w.heap.size + 1, 3, none⟩) (by simp) _⟩
  · simp
    omega
  · simp
    omega
  · simp
    omega
  · intro x hx
    simp [gf] at hx
    omega
/-- A new series. -/
theorem newSeries (kb : ByteArray) (c : Fin 6 → Int) (L : Lim) (l : Bs) (m : Opts.Smp) (hr : Opts.rd l = some m) (hk : Bytes.B kb = m.kind) (h2 : c 2 = L.sets) (h3 : c 3 = L.buckets) (w : World) :
    Calls Tryz.prog 121 #[.string kb, cfg c] w fun e w' => ∃ g : Gh, e = .returned (.pointer (some ⟨g.X, 0, none⟩)) ∧ SeAt w' L (key m) g (ser0 m.kind) ∧ (∀ x ∈ gf g (ser0 m.kind), w.heap.size ≤ x) ∧ Below w.heap.size w w' := by
  obtain ⟨_, hkd⟩ := rd_kind hr
  rcases hkd with e | e | e | ⟨e, _⟩
  · rw [e] at hk ⊢
    obtain rfl : kb = ⟨#[115]⟩ := Bytes.B_inj hk
    exact new_set c L (key m) h2 w
  · have h1 : ser0 m.kind = .num 0 := by rw [e]; rfl
    rw [h1]
    refine new_num kb c L (key m) (by rw [hk, kindOf_key hr]) ?_ ?_ w
    · exact Vals.ne_list (by rw [hk, e]; decide)
    · exact Vals.ne_list (by rw [hk, e]; decide)
  · have h1 : ser0 m.kind = .num 0 := by rw [e]; rfl
    rw [h1]
    refine new_num kb c L (key m) (by rw [hk, kindOf_key hr]) ?_ ?_ w
    · exact Vals.ne_list (by rw [hk, e]; decide)
    · exact Vals.ne_list (by rw [hk, e]; decide)
  · rw [e] at hk ⊢
    obtain rfl : kb = ⟨#[109, 115]⟩ := Bytes.B_inj hk
    exact new_tim c L (key m) h3 w
/-- A series' text. -/
theorem seText (L : Lim) (n : Nat) (k : Bs) (g : Gh) (s : Ser) (w : World) (h : SeAt w L k g s) (hf : SFit L n k s) (ht : Tab w) (hn : n ≤ 1000000000000000) (hL : L.buckets ≤ 64) (hS : L.sets ≤ 1000) (hc : ∀ t, s = .tim t → 1 ≤ t.count) :
    Calls Tryz.prog 48 #[.pointer (some ⟨g.X, 0, none⟩)] w fun e w' => (∃ z, e = .returned (.string z) ∧ Bytes.B z = stext s) ∧ Below w.heap.size w w' := by
  cases s with
  | num x =>
    obtain ⟨kb, hk, hs⟩ := h
    obtain ⟨c0, c1, c2, c3, f0, f1, f2, f3⟩ := head4 hs
    have hr : -top ≤ x ∧ x ≤ top := hf.ok
    have hkk : kindOf k = [99] ∨ kindOf k = [103] := hf.kind
    simp only [top] at hr
    have e1 : (kb.toList == [115]) = false := Vals.ne_list (by rw [hk]; rcases hkk with e | e <;> rw [e] <;> decide)
    have e2 : (kb.toList == [109, 115]) = false := Vals.ne_list (by rw [hk]; rcases hkk with e | e <;> rw [e] <;> decide)
    have hit := itoaG x (by omega) (by omega) w ht
    clear hf hs hkk hk
    go_enter Tryz.func48, Tryz.ntmps48
    go_wp2_with fail
    refine hit.mono ?_
    clear hit
    rintro e w2 ⟨⟨z, rfl, hz, _⟩, hb⟩
    have HZ := hide hz
    have HB := hide hb
    clear hz hb
    go_wp2_with fail
    go_ret
    exact ⟨⟨z, rfl, HZ.out⟩, HB.out⟩
  | set ws =>
    obtain ⟨c0, c1, c2, c3, f0, f1, f2, f3⟩ := head4 h.1
    have hlen := woLen g.A g.b L.sets ws w h.2
    have hws : ws.length ≤ L.sets := hf.ok.2
    have hit := itoaG (ws.length : Int) (by omega) (by omega) w ht
    clear hf h
    go_enter Tryz.func48, Tryz.ntmps48
    go_wp2_with fail
    refine hlen.mono ?_
    clear hlen
    rintro e w' ⟨rfl, rfl⟩
    go_wp2_with fail
    refine hit.mono ?_
    clear hit
    rintro e w2 ⟨⟨z, rfl, hz, _⟩, hb⟩
    have HZ := hide hz
    have HB := hide hb
    clear hz hb
    go_wp2_with fail
    go_ret
    exact ⟨⟨z, rfl, HZ.out⟩, HB.out⟩
  | tim t =>
    obtain ⟨c0, c1, c2, c3, f0, f1, f2, f3⟩ := head4 h.1
    have htx := tiText g.A g.S g.b L n t w h.2 hf.ok ht hn hL (hc t rfl)
    clear hf h
    go_enter Tryz.func48, Tryz.ntmps48
    go_wp2_with fail
    refine htx.mono ?_
    clear htx
    rintro e w2 ⟨⟨z, rfl, hz⟩, hb⟩
    have HZ := hide hz
    have HB := hide hb
    clear hz hb
    go_wp2_with fail
    go_ret
    exact ⟨⟨z, rfl, HZ.out⟩, HB.out⟩
end Go.Proofs.YtmkidefdegaamaaGreatDoor.Hn
namespace Go.Proofs.YtmkidefdegaamaaGreatDoor.Hn
open Go.RowKit Go.Maps Mem Foot Im Wm Hk Hb Hi Plainw Cq Readw
theorem take_set (L : Lim) (k : Bs) (g : Gh) (ws : List (Bs × Unit)) (nb wb : ByteArray) (sg : Bool) (v r : Int) (sa : Option Addr) (sl sc : Nat) (w : World) (h : SeAt w L k g (.set ws)) (hl : ws.length < 1000) (hsz : wb.size ≤ 1000) :
    Calls Tryz.prog 91 #[.pointer (some ⟨g.X, 0, none⟩), smp nb ⟨#[115]⟩ sg v wb r (.slice sa sl sc)] w fun e w' =>
      e = .returned (.bool (wadd L.sets (Bytes.B wb) ws).2) ∧ Off (gf g (.set ws)) w w' ∧ SeAt w' L k g (.set (wadd L.sets (Bytes.B wb) ws).1) := by
  unfold smp
  have HS := hide h
  clear h
  go_enter Tryz.func91, Tryz.ntmps91
  go_wp2_with fail
  have hN := Sits.new w 172 #[.string nb, .string ⟨#[115]⟩, .bool sg, .int .i64 v, .string wb, .int .i64 r, .slice sa sl sc]
  have hB := below_new (w := w) (.cells #[.string nb, .string ⟨#[115]⟩, .bool sg, .int .i64 v, .string wb, .int .i64 r, .slice sa sl sc] 172)
  generalize w.alloc (.cells #[.string nb, .string ⟨#[115]⟩, .bool sg, .int .i64 v, .string wb, .int .i64 r, .slice sa sl sc] 172) = w1 at *
  obtain ⟨B, hBe⟩ : ∃ B, w.heap.size = B := ⟨_, rfl⟩
  have HB1 := hide hB
  rw [hBe] at hN
  rw [hBe]
  have HS1 := hide (HS.out.keep hB)
  have C2 : ∀ s : Bw w1, s.val.cell? ⟨g.X, 2, none⟩ = some (.pointer (some ⟨g.A, 0, none⟩)) := fun s => (HS1.out.keep s.is).1.cell 2 _ rfl
  have C4 : ∀ s : Bw w1, s.val.cell? ⟨B, 4, none⟩ = some (.string wb) := fun s => (hN.below s.is hN.lt).cell 4 _ rfl
  clear hB hN hBe
  refine region_pre 6 (by kernel_rfl) (by kernel_rfl) ?_
  simp only [List.take_succ_cons, List.take_zero, List.drop_succ_cons, List.drop_zero]
  repeat (first
    | go_big_quiet_skip
    | (go_big_quiet_want; go_big_quiet_op; go_big_quiet_on))
  refine wpQuiet_nil ?_
  intro s
  have HSs := hide (HS1.out.keep s.is)
  have HBs := hide (HB1.out.trans (s.is.mono HB1.out.size))
  have hadd := woAdd g.A g.b L.sets ws wb s.val HSs.out.2 hl hsz
  clear C2 C4
  go_wp2_with fail
  refine hadd.mono ?_
  clear hadd
  rintro e w2 ⟨rfl, ho, hwo⟩
  have HO := hide ho
  have HW := hide hwo
  clear ho hwo
  go_wp2_with fail
  go_ret
  have hne : g.X ≠ g.b := map_sits HSs.out.2.map HSs.out.1
  refine ⟨rfl, (Off.of_below HBs.out).trans (HO.out.mono fun x _ hx => ?_), Foot.Sits.off HSs.out.1 HO.out (by simpa using hne), HW.out⟩
  simp at hx
  simp [gf, hx]
theorem take_tim (L : Lim) (n : Nat) (k : Bs) (g : Gh) (t : Tim) (nb wb : ByteArray) (sg : Bool) (v r : Int) (sa : Option Addr) (sl sc : Nat) (w : World) (h : SeAt w L k g (.tim t)) (hf : TFit L n t) (hn : n ≤ 1000000000000000) (hL : 2 ≤ L.buckets) (hL' : L.buckets ≤ 64) (h0 : 0 ≤ v) (h1 : v ≤ 999999999) (h2 : 1 ≤ r) (h3 : r ≤ 1000) :
    Calls Tryz.prog 91 #[.pointer (some ⟨g.X, 0, none⟩), smp nb ⟨#[109, 115]⟩ sg v wb r (.slice sa sl sc)] w fun e w' =>
      e = .returned (.bool true) ∧ Off (gf g (.tim t)) w w' ∧ SeAt w' L k g (.tim (tadd L.buckets t v (1000 / r))) := by
  unfold smp
  have HS := hide h
  have HF := hide hf
  have hq0 : 1 ≤ 1000 / r := Int.le_ediv_of_mul_le (by omega) (by omega)
  have hq1 : 1000 / r ≤ 1000 := Int.ediv_le_self _ (by omega)
  clear h hf
  go_enter Tryz.func91, Tryz.ntmps91
  go_wp2_with fail
  have hN := Sits.new w 172 #[.string nb, .string ⟨#[109, 115]⟩, .bool sg, .int .i64 v, .string wb, .int .i64 r, .slice sa sl sc]
  have hB := below_new (w := w) (.cells #[.string nb, .string ⟨#[109, 115]⟩, .bool sg, .int .i64 v, .string wb, .int .i64 r, .slice sa sl sc] 172)
  generalize w.alloc (.cells #[.string nb, .string ⟨#[109, 115]⟩, .bool sg, .int .i64 v, .string wb, .int .i64 r, .slice sa sl sc] 172) = w1 at *
  obtain ⟨B, hBe⟩ : ∃ B, w.heap.size = B := ⟨_, rfl⟩
  have HB1 := hide hB
  rw [hBe] at hN
  rw [hBe]
  have HS1 := hide (HS.out.keep hB)
  have C3 : ∀ s : Bw w1, s.val.cell? ⟨g.X, 3, none⟩ = some (.pointer (some ⟨g.A, 0, none⟩)) := fun s => (HS1.out.keep s.is).1.cell 3 _ rfl
  have C5 : ∀ s : Bw w1, s.val.cell? ⟨B, 5, none⟩ = some (.int .i64 r) := fun s => (hN.below s.is hN.lt).cell 5 _ rfl
  clear hB hN hBe
  refine region_pre 8 (by kernel_rfl) (by kernel_rfl) ?_
  simp only [List.take_succ_cons, List.take_zero, List.drop_succ_cons, List.drop_zero]
  repeat (first
    | go_big_quiet_skip
    | (go_big_quiet_want; go_big_quiet_op; go_big_quiet_on))
  refine wpQuiet_nil ?_
  intro s
  have HSs := hide (HS1.out.keep s.is)
  have HBs := hide (HB1.out.trans (s.is.mono HB1.out.size))
  have hadd := tiAdd g.A g.S g.b L n t v (1000 / r) s.val HSs.out.2 HF.out hn hL hL' h0 h1 hq0 hq1
  clear C3 C5
  go_wp2_with fail
  refine hadd.mono ?_
  clear hadd
  rintro e w2 ⟨rfl, ho, hwo⟩
  have HO := hide ho
  have HW := hide hwo
  clear ho hwo
  go_wp2_with fail
  go_ret
  have hne : g.X ≠ g.b := map_sits HSs.out.2.sk.map HSs.out.1
  have hne2 : g.X ≠ g.A := sits_ne HSs.out.1 HSs.out.2.head (by decide)
  have hne3 : g.X ≠ g.S := sits_ne HSs.out.1 HSs.out.2.sk.head (by decide)
  refine ⟨rfl, (Off.of_below HBs.out).trans (HO.out.mono fun x _ hx => ?_), Foot.Sits.off HSs.out.1 HO.out (by simp [hne, hne2, hne3]), HW.out⟩
  simp at hx
  simp [gf]
  omega
theorem take_c (L : Lim) (k : Bs) (g : Gh) (n : Int) (nb wb : ByteArray) (sg : Bool) (v r : Int) (sa : Option Addr) (sl sc : Nat) (w : World) (h : SeAt w L k g (.num n)) (hn0 : -1000000000000000 ≤ n) (hn1 : n ≤ 1000000000000000) (h0 : -999999999 ≤ v) (h1 : v ≤ 999999999) (h2 : 1 ≤ r) (h3 : r ≤ 1000) :
    Calls Tryz.prog 91 #[.pointer (some ⟨g.X, 0, none⟩), smp nb ⟨#[99]⟩ sg v wb r (.slice sa sl sc)] w fun e w' =>
      e = .returned (.bool true) ∧ Off (gf g (.num n)) w w' ∧ SeAt w' L k g (.num (bnd ((v * 1000).tdiv r + n))) := by
  unfold smp
  obtain ⟨kb, hk, hs⟩ := h
  have HK := hide hk
  have hd0 : -999999999000 ≤ (v * 1000).tdiv r := by
    have h5 : (v * 1000).natAbs / r.natAbs ≤ (v * 1000).natAbs := Nat.div_le_self _ _
    have h6 : ((v * 1000).tdiv r).natAbs = (v * 1000).natAbs / r.natAbs := Int.natAbs_tdiv _ _
    omega
  have hd1 : (v * 1000).tdiv r ≤ 999999999000 := by
    have h5 : (v * 1000).natAbs / r.natAbs ≤ (v * 1000).natAbs := Nat.div_le_self _ _
    have h6 : ((v * 1000).tdiv r).natAbs = (v * 1000).natAbs / r.natAbs := Int.natAbs_tdiv _ _
    omega
  have hbd := bounded
  have HN := hide (hs.alloc (.cells #[.string nb, .string ⟨#[99]⟩, .bool sg, .int .i64 v, .string wb, .int .i64 r, .slice sa sl sc] 172))
  obtain ⟨c0, c1, c2, c3, f0, f1, f2, f3⟩ := head4 HN.out
  clear hk hs c0 c2 c3 f0 f2 f3
  go_enter Tryz.func91, Tryz.ntmps91
  go_wp2_with (go_at_call 125; refine (hbd _ _).mono ?_; rintro e w' ⟨rfl, rfl⟩)
  go_ret
  refine ⟨rfl, (Off.of_below (below_new _)).set (by simp [gf]) _ _, kb, HK.out, ?_⟩
  exact HN.out.set 1 _
theorem take_d (L : Lim) (k : Bs) (g : Gh) (n : Int) (nb wb : ByteArray) (v r : Int) (sa : Option Addr) (sl sc : Nat) (w : World) (h : SeAt w L k g (.num n)) (hn0 : -1000000000000000 ≤ n) (hn1 : n ≤ 1000000000000000) (h0 : -999999999 ≤ v) (h1 : v ≤ 999999999) :
    Calls Tryz.prog 91 #[.pointer (some ⟨g.X, 0, none⟩), smp nb ⟨#[103]⟩ true v wb r (.slice sa sl sc)] w fun e w' =>
      e = .returned (.bool true) ∧ Off (gf g (.num n)) w w' ∧ SeAt w' L k g (.num (bnd (v + n))) := by
  unfold smp
  obtain ⟨kb, hk, hs⟩ := h
  have HK := hide hk
  have hbd := bounded
  have HN := hide (hs.alloc (.cells #[.string nb, .string ⟨#[103]⟩, .bool true, .int .i64 v, .string wb, .int .i64 r, .slice sa sl sc] 172))
  obtain ⟨c0, c1, c2, c3, f0, f1, f2, f3⟩ := head4 HN.out
  clear hk hs c0 c2 c3 f0 f2 f3
  go_enter Tryz.func91, Tryz.ntmps91
  go_wp2_with (go_at_call 125; refine (hbd _ _).mono ?_; rintro e w' ⟨rfl, rfl⟩)
  go_ret
  refine ⟨rfl, (Off.of_below (below_new _)).set (by simp [gf]) _ _, kb, HK.out, ?_⟩
  exact HN.out.set 1 _
theorem take_g (L : Lim) (k : Bs) (g : Gh) (n : Int) (nb wb : ByteArray) (v r : Int) (sa : Option Addr) (sl sc : Nat) (w : World) (h : SeAt w L k g (.num n)) :
    Calls Tryz.prog 91 #[.pointer (some ⟨g.X, 0, none⟩), smp nb ⟨#[103]⟩ false v wb r (.slice sa sl sc)] w fun e w' =>
      e = .returned (.bool true) ∧ Off (gf g (.num n)) w w' ∧ SeAt w' L k g (.num (bnd (v))) := by
  unfold smp
  obtain ⟨kb, hk, hs⟩ := h
  have HK := hide hk
  have hbd := bounded
  have HN := hide (hs.alloc (.cells #[.string nb, .string ⟨#[103]⟩, .bool false, .int .i64 v, .string wb, .int .i64 r, .slice sa sl sc] 172))
  obtain ⟨c0, c1, c2, c3, f0, f1, f2, f3⟩ := head4 HN.out
  clear hk hs c0 c2 c3 f0 f2 f3
  go_enter Tryz.func91, Tryz.ntmps91
  go_wp2_with (go_at_call 125; refine (hbd _ _).mono ?_; rintro e w' ⟨rfl, rfl⟩)
  go_ret
  refine ⟨rfl, (Off.of_below (below_new _)).set (by simp [gf]) _ _, kb, HK.out, ?_⟩
  exact HN.out.set 1 _
/-- A series takes a sample of its type. -/
theorem seTake (L : Lim) (n : Nat) (k l : Bs) (g : Gh) (s : Ser) (m : Opts.Smp) (nb kb wb : ByteArray) (sa : Option Addr) (sl sc : Nat) (w : World) (h : SeAt w L k g s) (hf : SFit L n k s) (hr : Opts.rd l = some m) (hk : kindOf k = m.kind) (hkb : Bytes.B kb = m.kind) (hwb : Bytes.B wb = m.word)
    (hn : n ≤ 1000000000000000) (hL : 2 ≤ L.buckets) (hL' : L.buckets ≤ 64) (hS : L.sets < 1000) :
    Calls Tryz.prog 91 #[.pointer (some ⟨g.X, 0, none⟩), smp nb kb m.signed m.value wb m.rate (.slice sa sl sc)] w fun e w' =>
      e = .returned (.bool (stake L m s).2) ∧ Off (gf g s) w w' ∧ SeAt w' L k g (stake L m s).1 := by
  obtain ⟨_, _, hw1, ⟨hv0, hv1⟩, ⟨hr0, hr1⟩, _⟩ := Bounds.rd_short hr
  obtain ⟨_, hkd⟩ := rd_kind hr
  have hkk := hf.kind
  rw [hk] at hkk
  cases s with
  | num x =>
    have hx : -1000000000000000 ≤ x ∧ x ≤ 1000000000000000 := hf.ok
    have hkk : m.kind = [99] ∨ m.kind = [103] := hkk
    rcases hkk with e | e
    · rw [e] at hkb
      obtain rfl : kb = ⟨#[99]⟩ := Bytes.B_inj hkb
      have e2 : stake L m (.num x) = (.num (bnd ((m.value * 1000).tdiv m.rate + x)), true) := by simp [stake, e]
      rw [e2]
      exact take_c L k g x nb wb m.signed m.value m.rate sa sl sc w h hx.1 hx.2 hv0 hv1 hr0 hr1
    · rw [e] at hkb
      obtain rfl : kb = ⟨#[103]⟩ := Bytes.B_inj hkb
      cases hs : m.signed with
      | true =>
        have e2 : stake L m (.num x) = (.num (bnd (m.value + x)), true) := by simp [stake, e, hs]
        rw [e2]
        exact take_d L k g x nb wb m.value m.rate sa sl sc w h hx.1 hx.2 hv0 hv1
      | false =>
        have e2 : stake L m (.num x) = (.num (bnd m.value), true) := by simp [stake, e, hs]
        rw [e2]
        exact take_g L k g x nb wb m.value m.rate sa sl sc w h
  | set ws =>
    have e : m.kind = [115] := hkk
    rw [e] at hkb
    obtain rfl : kb = ⟨#[115]⟩ := Bytes.B_inj hkb
    have hws : ws.length ≤ L.sets := hf.ok.2
    have e2 : stake L m (.set ws) = (.set (wadd L.sets (Bytes.B wb) ws).1, (wadd L.sets (Bytes.B wb) ws).2) := by
      rw [hwb]
      simp only [stake, wadd]
      split
      · rfl
      · split <;> rfl
    rw [e2]
    exact take_set L k g ws nb wb m.signed m.value m.rate sa sl sc w h (by omega) (by rw [Bytes.size_B, hwb]; omega)
  | tim t =>
    have e : m.kind = [109, 115] := hkk
    have h0 : 0 ≤ m.value := by
      rcases hkd with e' | e' | e' | ⟨_, e'⟩
      · rw [e] at e'; cases e'
      · rw [e] at e'; cases e'
      · rw [e] at e'; cases e'
      · exact e'
    rw [e] at hkb
    obtain rfl : kb = ⟨#[109, 115]⟩ := Bytes.B_inj hkb
    exact take_tim L n k g t nb wb m.signed m.value m.rate sa sl sc w h hf.ok hn hL hL' h0 hv1 hr0 hr1
end Go.Proofs.YtmkidefdegaamaaGreatDoor.Hn
namespace Go.Proofs.YtmkidefdegaamaaGreatDoor.Wm
open Im Opts
theorem lines_ne (l : Bs) : lines l ≠ [] := by
  cases l with
  | nil => simp [lines]
  | cons c r =>
    rw [lines]
    split
    · simp
    · split <;> simp
theorem lines_join (a b : Bs) : lines (a ++ 10 :: b) = lines a ++ lines b := by
  induction a with
  | nil => simp [lines]
  | cons c r ih =>
    rw [List.cons_append, lines, lines, ih]
    by_cases h : c = 10
    · simp [h]
    · simp only [h, if_false]
      cases hr : lines r with
      | nil => exact absurd hr (lines_ne r)
      | cons x y => rfl
theorem wline_nil (L : Lim) (w : Win) : wline L w [] = w := by rw [wline, if_pos rfl]
/-- One line alone. -/
theorem lines_one {l : Bs} (h : (10 : UInt8) ∉ l) : lines l = [l] := by
  induction l with
  | nil => rfl
  | cons c r ih =>
    have h1 : c ≠ 10 := fun e => h (by simp [e])
    rw [lines, if_neg h1, ih fun e => h (List.mem_cons_of_mem _ e)]
theorem itoa_pos (n : Int) : 1 ≤ (Lib.itoa n).length := by
  unfold Lib.itoa
  have h : ∀ m, 1 ≤ (Lib.decDigits m).length := fun m => by
    rw [Lib.decDigits_length]
    exact Lib.nDigits_pos _
  split
  · simp
  · exact h _
theorem whead_len (n : Int) (r d : Nat) : 27 ≤ (whead n r d).length := by
  have h1 := itoa_pos n
  have h2 := itoa_pos r
  have h3 := itoa_pos d
  simp only [whead, List.length_append, List.length_cons, List.length_nil]
  omega
end Go.Proofs.YtmkidefdegaamaaGreatDoor.Wm
