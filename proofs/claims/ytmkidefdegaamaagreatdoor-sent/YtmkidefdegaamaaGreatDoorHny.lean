/- The program's series in memory. -/
import Derived.Test.YtmkidefdegaamaaGreatDoorJky
namespace Go.Proofs.YtmkidefdegaamaaGreatDoor.Hn
open Go.RowKit Go.Maps Mem Foot Im Wm Hk Hb Hi Plainw Cq
/-- Where a series lies. -/
structure Gh where
  X : Nat
  A : Nat
  S : Nat
  b : Nat
def SeAt (w : World) (L : Lim) (k : Bs) (g : Gh) : Ser → Prop
  | .num n => ∃ kb, Bytes.B kb = kindOf k ∧ Sits w g.X 164 #[.string kb, .int .i64 n, .pointer none, .pointer none]
  | .set ws => Sits w g.X 164 #[.string ⟨#[115]⟩, .int .i64 0, .pointer (some ⟨g.A, 0, none⟩), .pointer none] ∧ WoAt w g.A g.b L.sets ws
  | .tim t => Sits w g.X 164 #[.string ⟨#[109, 115]⟩, .int .i64 0, .pointer none, .pointer (some ⟨g.A, 0, none⟩)] ∧ TiAt w g.A g.S g.b L.buckets t
/-- What it may write. -/
def gf (g : Gh) : Ser → List Nat
  | .num _ => [g.X]
  | .set _ => [g.X, g.A, g.b]
  | .tim _ => [g.X, g.A, g.S, g.b]
theorem SeAt.off {F : List Nat} {w w' : World} {L : Lim} {k : Bs} {g : Gh} {s : Ser} (h : SeAt w L k g s) (ho : Off F w w') (hF : ∀ x ∈ gf g s, x ∉ F) : SeAt w' L k g s := by
  cases s with
  | num n =>
    obtain ⟨kb, h1, h2⟩ := h
    exact ⟨kb, h1, Foot.Sits.off h2 ho (hF _ (by simp [gf]))⟩
  | set ws => exact ⟨Foot.Sits.off h.1 ho (hF _ (by simp [gf])), h.2.off ho (hF _ (by simp [gf])) (hF _ (by simp [gf]))⟩
  | tim t => exact ⟨Foot.Sits.off h.1 ho (hF _ (by simp [gf])), h.2.off ho (hF _ (by simp [gf])) (hF _ (by simp [gf])) (hF _ (by simp [gf]))⟩
theorem SeAt.keep {w w' : World} {L : Lim} {k : Bs} {g : Gh} {s : Ser} (h : SeAt w L k g s) (hb : Below w.heap.size w w') : SeAt w' L k g s :=
  h.off (F := []) (Off.of_below hb) (by simp)
theorem SeAt.lt {w : World} {L : Lim} {k : Bs} {g : Gh} {s : Ser} (h : SeAt w L k g s) : ∀ x ∈ gf g s, x < w.heap.size := by
  intro x hx
  cases s with
  | num n =>
    obtain ⟨kb, h1, h2⟩ := h
    simp [gf] at hx
    rw [hx]
    exact h2.lt
  | set ws =>
    simp [gf] at hx
    rcases hx with rfl | rfl | rfl
    · exact h.1.lt
    · exact h.2.head.lt
    · exact h.2.map.below
  | tim t =>
    simp [gf] at hx
    rcases hx with rfl | rfl | rfl | rfl
    · exact h.1.lt
    · exact h.2.head.lt
    · exact h.2.sk.head.lt
    · exact h.2.sk.map.below
/-- The configuration as a value. -/
def cfg (c : Fin 6 → Int) : Value := .agg #[.int .i64 (c 0), .int .i64 (c 1), .int .i64 (c 2), .int .i64 (c 3), .int .i64 (c 4), .int .i64 (c 5)]
theorem head4 {w : World} {b : Nat} {t : TypeId} {v0 v1 v2 v3 : Value} (h : Sits w b t #[v0, v1, v2, v3]) :
    w.cell? ⟨b, 0, none⟩ = some v0 ∧ w.cell? ⟨b, 1, none⟩ = some v1 ∧ w.cell? ⟨b, 2, none⟩ = some v2 ∧ w.cell? ⟨b, 3, none⟩ = some v3 ∧ w.frozen? ⟨b, 0, none⟩ = false ∧ w.frozen? ⟨b, 1, none⟩ = false ∧ w.frozen? ⟨b, 2, none⟩ = false ∧ w.frozen? ⟨b, 3, none⟩ = false :=
  ⟨h.cell 0 _ rfl, h.cell 1 _ rfl, h.cell 2 _ rfl, h.cell 3 _ rfl, h.frozen 0, h.frozen 1, h.frozen 2, h.frozen 3⟩
theorem new_num (kb : ByteArray) (c : Fin 6 → Int) (L : Lim) (k : Bs) (hk : Bytes.B kb = kindOf k) (h1 : (kb.toList == [115]) = false) (h2 : (kb.toList == [109, 115]) = false) (w : World) :
    Calls Tryz.prog 121 #[.string kb, cfg c] w fun e w' => ∃ g : Gh, e = .returned (.pointer (some ⟨g.X, 0, none⟩)) ∧ SeAt w' L k g (.num 0) ∧ (∀ x ∈ gf g (.num 0), w.heap.size ≤ x) ∧ Below w.heap.size w w' := by
  unfold cfg
  go_enter Tryz.func121, Tryz.ntmps121
  go_wp2_with fail
  go_ret
  refine ⟨⟨w.heap.size + 1, 0, 0, 0⟩, by simp, ⟨kb, hk, ?_⟩, by simp [gf], (below_new _).alloc (by simp) _⟩
  have := Sits.new (w.alloc (.cells #[.int .i64 (c 0), .int .i64 (c 1), .int .i64 (c 2), .int .i64 (c 3), .int .i64 (c 4), .int .i64 (c 5)] 23)) 164 #[.string kb, .int .i64 0, .pointer none, .pointer none]
  simpa using this
theorem new_set (c : Fin 6 → Int) (L : Lim) (k : Bs) (hc : c 2 = L.sets) (w : World) :
    Calls Tryz.prog 121 #[.string ⟨#[115]⟩, cfg c] w fun e w' => ∃ g : Gh, e = .returned (.pointer (some ⟨g.X, 0, none⟩)) ∧ SeAt w' L k g (.set []) ∧ (∀ x ∈ gf g (.set []), w.heap.size ≤ x) ∧ Below w.heap.size w w' := by
  have HC := hide hc
  clear hc
  unfold cfg
  go_enter Tryz.func121, Tryz.ntmps121
  go_wp2_with fail
  have hS := Sits.new (w.alloc (.cells #[.int .i64 (c 0), .int .i64 (c 1), .int .i64 (c 2), .int .i64 (c 3), .int .i64 (c 4), .int .i64 (c 5)] 23)) 164 #[.string ⟨#[115]⟩, .int .i64 0, .pointer none, .pointer none]
  have hB : Below w.heap.size w ((w.alloc (.cells #[.int .i64 (c 0), .int .i64 (c 1), .int .i64 (c 2), .int .i64 (c 3), .int .i64 (c 4), .int .i64 (c 5)] 23)).alloc (.cells #[.string ⟨#[115]⟩, .int .i64 0, .pointer none, .pointer none] 164)) := (below_new _).alloc (by simp) _
  rw [World.size_alloc] at hS
  generalize (w.alloc (.cells #[.int .i64 (c 0), .int .i64 (c 1), .int .i64 (c 2), .int .i64 (c 3), .int .i64 (c 4), .int .i64 (c 5)] 23)).alloc (.cells #[.string ⟨#[115]⟩, .int .i64 0, .pointer none, .pointer none] 164) = w1 at *
  rw [HC.out]
  refine (woNew L.sets w1).mono ?_
  rintro e w2 ⟨rfl, hwo, hb2⟩
  have HS2 := hide (hS.below hb2 hS.lt)
  have HB2 := hide (hB.trans (hb2.mono hB.size))
  have HW := hide hwo
  have HL := hide (show w.heap.size ≤ w1.heap.size ∧ w.heap.size + 1 < w1.heap.size from ⟨hB.size, hS.lt⟩)
  obtain ⟨c0, c1, c2, c3, f0, f1, f2, f3⟩ := head4 HS2.out
  clear hS hB hwo hb2
  go_wp2_with fail
  go_ret
  obtain ⟨l1, l2⟩ := HL.out
  have ho : Off [w.heap.size + 1] w2 (w2.setCell ⟨w.heap.size + 1, 2, none⟩ (.pointer (some ⟨w1.heap.size + 1, 0, none⟩))) := (Off.refl _ _).set (by simp) _ _
  refine ⟨⟨w.heap.size + 1, w1.heap.size + 1, 0, w1.heap.size⟩, rfl, ⟨HS2.out.set 2 _, HW.out.off ho ?_ ?_⟩, ?_, HB2.out.setCell (p := ⟨w.heap.size + 1, 2, none⟩) (by simp) _⟩
  · simp
    omega
  · simp
    omega
  · intro x hx
    simp [gf] at hx
    omega
theorem new_tim (c : Fin 6 → Int) (L : Lim) (k : Bs) (hc : c 3 = L.buckets) (w : World) :
    Calls Tryz.prog 121 #[.string ⟨#[109, 115]⟩, cfg c] w fun e w' => ∃ g : Gh, e = .returned (.pointer (some ⟨g.X, 0, none⟩)) ∧ SeAt w' L k g (.tim ⟨0, 0, 0, 0, [], false⟩) ∧ (∀ x ∈ gf g (.tim ⟨0, 0, 0, 0, [], false⟩), w.heap.size ≤ x) ∧ Below w.heap.size w w' := by
  have HC := hide hc
  clear hc
  unfold cfg
  go_enter Tryz.func121, Tryz.ntmps121
  go_wp2_with fail
  have hS := Sits.new (w.alloc (.cells #[.int .i64 (c 0), .int .i64 (c 1), .int .i64 (c 2), .int .i64 (c 3), .int .i64 (c 4), .int .i64 (c 5)] 23)) 164 #[.string ⟨#[109, 115]⟩, .int .i64 0, .pointer none, .pointer none]
  have hB : Below w.heap.size w ((w.alloc (.cells #[.int .i64 (c 0), .int .i64 (c 1), .int .i64 (c 2), .int .i64 (c 3), .int .i64 (c 4), .int .i64 (c 5)] 23)).alloc (.cells #[.string ⟨#[109, 115]⟩, .int .i64 0, .pointer none, .pointer none] 164)) := (below_new _).alloc (by simp) _
  rw [World.size_alloc] at hS
  generalize (w.alloc (.cells #[.int .i64 (c 0), .int .i64 (c 1), .int .i64 (c 2), .int .i64 (c 3), .int .i64 (c 4), .int .i64 (c 5)] 23)).alloc (.cells #[.string ⟨#[109, 115]⟩, .int .i64 0, .pointer none, .pointer none] 164) = w1 at *
  rw [HC.out]
  refine (tiNew L.buckets w1).mono ?_
  rintro e w2 ⟨T, rfl, hT, hti, hb2⟩
  have HS2 := hide (hS.below hb2 hS.lt)
  have HB2 := hide (hB.trans (hb2.mono hB.size))
  have HW := hide hti
  have HL := hide (show w.heap.size ≤ w1.heap.size ∧ w.heap.size + 1 < w1.heap.size ∧ w1.heap.size ≤ T from ⟨hB.size, hS.lt, hT⟩)
  obtain ⟨c0, c1, c2, c3, f0, f1, f2, f3⟩ := head4 HS2.out
  clear hS hB hti hb2 hT
  go_wp2_with fail
  go_ret
  obtain ⟨l1, l2, l3⟩ := HL.out
  have ho : Off [w.heap.size + 1] w2 (w2.setCell ⟨w.heap.size + 1, 3, none⟩ (.pointer (some ⟨T, 0, none⟩))) := (Off.refl _ _).set (by simp) _ _
  refine ⟨⟨w.heap.size + 1, T, w1.heap.size + 1, w1.heap.size⟩, rfl, ⟨HS2.out.set 3 _, HW.out.off ho ?_ ?_ ?_⟩, ?_, HB2.out.setCell (p := ⟨w.heap.size + 1, 3, none⟩) (by simp) _⟩
  · simp
    omega
  · simp
    omega
  · simp
    omega
  · intro x hx
    simp [gf] at hx
    omega
/-- A new series. -/
theorem newSeries (kb : ByteArray) (c : Fin 6 → Int) (L : Lim) (l : Bs) (m : Opts.Smp) (hr : Opts.rd l = some m) (hk : Bytes.B kb = m.kind) (h2 : c 2 = L.sets) (h3 : c 3 = L.buckets) (w : World) :
    Calls Tryz.prog 121 #[.string kb, cfg c] w fun e w' => ∃ g : Gh, e = .returned (.pointer (some ⟨g.X, 0, none⟩)) ∧ SeAt w' L (key m) g (ser0 m.kind) ∧ (∀ x ∈ gf g (ser0 m.kind), w.heap.size ≤ x) ∧ Below w.heap.size w w' := by
  obtain ⟨_, hkd⟩ := rd_kind hr
  rcases hkd with e | e | e | ⟨e, _⟩
  · rw [e] at hk ⊢
    obtain rfl : kb = ⟨#[115]⟩ := Bytes.B_inj hk
    exact new_set c L (key m) h2 w
  · have h1 : ser0 m.kind = .num 0 := by rw [e]; rfl
    rw [h1]
    refine new_num kb c L (key m) (by rw [hk, kindOf_key hr]) ?_ ?_ w
    · exact Vals.ne_list (by rw [hk, e]; decide)
    · exact Vals.ne_list (by rw [hk, e]; decide)
  · have h1 : ser0 m.kind = .num 0 := by rw [e]; rfl
    rw [h1]
    refine new_num kb c L (key m) (by rw [hk, kindOf_key hr]) ?_ ?_ w
    · exact Vals.ne_list (by rw [hk, e]; decide)
    · exact Vals.ne_list (by rw [hk, e]; decide)
  · rw [e] at hk ⊢
    obtain rfl : kb = ⟨#[109, 115]⟩ := Bytes.B_inj hk
    exact new_tim c L (key m) h3 w
/-- A series' text. -/
theorem seText (L : Lim) (n : Nat) (k : Bs) (g : Gh) (s : Ser) (w : World) (h : SeAt w L k g s) (hf : SFit L n k s) (ht : Tab w) (hn : n ≤ 1000000000000000) (hL : L.buckets ≤ 64) (hS : L.sets ≤ 1000) (hc : ∀ t, s = .tim t → 1 ≤ t.count) :
    Calls Tryz.prog 48 #[.pointer (some ⟨g.X, 0, none⟩)] w fun e w' => (∃ z, e = .returned (.string z) ∧ Bytes.B z = stext s) ∧ Below w.heap.size w w' := by
  cases s with
  | num x =>
    obtain ⟨kb, hk, hs⟩ := h
    obtain ⟨c0, c1, c2, c3, f0, f1, f2, f3⟩ := head4 hs
    have hr : -top ≤ x ∧ x ≤ top := hf.ok
    have hkk : kindOf k = [99] ∨ kindOf k = [103] := hf.kind
    simp only [top] at hr
    have e1 : (kb.toList == [115]) = false := Vals.ne_list (by rw [hk]; rcases hkk with e | e <;> rw [e] <;> decide)
    have e2 : (kb.toList == [109, 115]) = false := Vals.ne_list (by rw [hk]; rcases hkk with e | e <;> rw [e] <;> decide)
    have hit := itoaG x (by omega) (by omega) w ht
    clear hf hs hkk hk
    go_enter Tryz.func48, Tryz.ntmps48
    go_wp2_with fail
    refine hit.mono ?_
    clear hit
    rintro e w2 ⟨⟨z, rfl, hz, _⟩, hb⟩
    have HZ := hide hz
    have HB := hide hb
    clear hz hb
    go_wp2_with fail
    go_ret
    exact ⟨⟨z, rfl, HZ.out⟩, HB.out⟩
  | set ws =>
    obtain ⟨c0, c1, c2, c3, f0, f1, f2, f3⟩ := head4 h.1
    have hlen := woLen g.A g.b L.sets ws w h.2
    have hws : ws.length ≤ L.sets := hf.ok.2
    have hit := itoaG (ws.length : Int) (by omega) (by omega) w ht
    clear hf h
    go_enter Tryz.func48, Tryz.ntmps48
    go_wp2_with fail
    refine hlen.mono ?_
    clear hlen
    rintro e w' ⟨rfl, rfl⟩
    go_wp2_with fail
    refine hit.mono ?_
    clear hit
    rintro e w2 ⟨⟨z, rfl, hz, _⟩, hb⟩
    have HZ := hide hz
    have HB := hide hb
    clear hz hb
    go_wp2_with fail
    go_ret
    exact ⟨⟨z, rfl, HZ.out⟩, HB.out⟩
  | tim t =>
    obtain ⟨c0, c1, c2, c3, f0, f1, f2, f3⟩ := head4 h.1
    have htx := tiText g.A g.S g.b L n t w h.2 hf.ok ht hn hL (hc t rfl)
    clear hf h
    go_enter Tryz.func48, Tryz.ntmps48
    go_wp2_with fail
    refine htx.mono ?_
    clear htx
    rintro e w2 ⟨⟨z, rfl, hz⟩, hb⟩
    have HZ := hide hz
    have HB := hide hb
    clear hz hb
    go_wp2_with fail
    go_ret
    exact ⟨⟨z, rfl, HZ.out⟩, HB.out⟩
end Go.Proofs.YtmkidefdegaamaaGreatDoor.Hn
namespace Go.Proofs.YtmkidefdegaamaaGreatDoor.Hn
open Go.RowKit Go.Maps Mem Foot Im Wm Hk Hb Hi Plainw Cq Readw
theorem take_set (L : Lim) (k : Bs) (g : Gh) (ws : List (Bs × Unit)) (nb wb : ByteArray) (sg : Bool) (v r : Int) (sa : Option Addr) (sl sc : Nat) (w : World) (h : SeAt w L k g (.set ws)) (hl : ws.length < 1000) (hsz : wb.size ≤ 1000) :
    Calls Tryz.prog 91 #[.pointer (some ⟨g.X, 0, none⟩), smp nb ⟨#[115]⟩ sg v wb r (.slice sa sl sc)] w fun e w' =>
      e = .returned (.bool (wadd L.sets (Bytes.B wb) ws).2) ∧ Off (gf g (.set ws)) w w' ∧ SeAt w' L k g (.set (wadd L.sets (Bytes.B wb) ws).1) := by
  unfold smp
  have HS := hide h
  clear h
  go_enter Tryz.func91, Tryz.ntmps91
  go_wp2_with fail
  have hN := Sits.new w 172 #[.string nb, .string ⟨#[115]⟩, .bool sg, .int .i64 v, .string wb, .int .i64 r, .slice sa sl sc]
  have hB := below_new (w := w) (.cells #[.string nb, .string ⟨#[115]⟩, .bool sg, .int .i64 v, .string wb, .int .i64 r, .slice sa sl sc] 172)
  generalize w.alloc (.cells #[.string nb, .string ⟨#[115]⟩, .bool sg, .int .i64 v, .string wb, .int .i64 r, .slice sa sl sc] 172) = w1 at *
  obtain ⟨B, hBe⟩ : ∃ B, w.heap.size = B := ⟨_, rfl⟩
  have HB1 := hide hB
  rw [hBe] at hN
  rw [hBe]
  have HS1 := hide (HS.out.keep hB)
  have C2 : ∀ s : Bw w1, s.val.cell? ⟨g.X, 2, none⟩ = some (.pointer (some ⟨g.A, 0, none⟩)) := fun s => (HS1.out.keep s.is).1.cell 2 _ rfl
  have C4 : ∀ s : Bw w1, s.val.cell? ⟨B, 4, none⟩ = some (.string wb) := fun s => (hN.below s.is hN.lt).cell 4 _ rfl
  clear hB hN hBe
  refine region_pre 6 (by kernel_rfl) (by kernel_rfl) ?_
  simp only [List.take_succ_cons, List.take_zero, List.drop_succ_cons, List.drop_zero]
  repeat (first
    | go_big_quiet_skip
    | (go_big_quiet_want; go_big_quiet_op; go_big_quiet_on))
  refine wpQuiet_nil ?_
  intro s
  have HSs := hide (HS1.out.keep s.is)
  have HBs := hide (HB1.out.trans (s.is.mono HB1.out.size))
  have hadd := woAdd g.A g.b L.sets ws wb s.val HSs.out.2 hl hsz
  clear C2 C4
  go_wp2_with fail
  refine hadd.mono ?_
  clear hadd
  rintro e w2 ⟨rfl, ho, hwo⟩
  have HO := hide ho
  have HW := hide hwo
  clear ho hwo
  go_wp2_with fail
  go_ret
  have hne : g.X ≠ g.b := map_sits HSs.out.2.map HSs.out.1
  refine ⟨rfl, (Off.of_below HBs.out).trans (HO.out.mono fun x _ hx => ?_), Foot.Sits.off HSs.out.1 HO.out (by simpa using hne), HW.out⟩
  simp at hx
  simp [gf, hx]
theorem take_tim (L : Lim) (n : Nat) (k : Bs) (g : Gh) (t : Tim) (nb wb : ByteArray) (sg : Bool) (v r : Int) (sa : Option Addr) (sl sc : Nat) (w : World) (h : SeAt w L k g (.tim t)) (hf : TFit L n t) (hn : n ≤ 1000000000000000) (hL : 2 ≤ L.buckets) (hL' : L.buckets ≤ 64) (h0 : 0 ≤ v) (h1 : v ≤ 999999999) (h2 : 1 ≤ r) (h3 : r ≤ 1000) :
    Calls Tryz.prog 91 #[.pointer (some ⟨g.X, 0, none⟩), smp nb ⟨#[109, 115]⟩ sg v wb r (.slice sa sl sc)] w fun e w' =>
      e = .returned (.bool true) ∧ Off (gf g (.tim t)) w w' ∧ SeAt w' L k g (.tim (tadd L.buckets t v (1000 / r))) := by
  unfold smp
  have HS := hide h
  have HF := hide hf
  have hq0 : 1 ≤ 1000 / r := Int.le_ediv_of_mul_le (by omega) (by omega)
  have hq1 : 1000 / r ≤ 1000 := Int.ediv_le_self _ (by omega)
  clear h hf
  go_enter Tryz.func91, Tryz.ntmps91
  go_wp2_with fail
  have hN := Sits.new w 172 #[.string nb, .string ⟨#[109, 115]⟩, .bool sg, .int .i64 v, .string wb, .int .i64 r, .slice sa sl sc]
  have hB := below_new (w := w) (.cells #[.string nb, .string ⟨#[109, 115]⟩, .bool sg, .int .i64 v, .string wb, .int .i64 r, .slice sa sl sc] 172)
  generalize w.alloc (.cells #[.string nb, .string ⟨#[109, 115]⟩, .bool sg, .int .i64 v, .string wb, .int .i64 r, .slice sa sl sc] 172) = w1 at *
  obtain ⟨B, hBe⟩ : ∃ B, w.heap.size = B := ⟨_, rfl⟩
  have HB1 := hide hB
  rw [hBe] at hN
  rw [hBe]
  have HS1 := hide (HS.out.keep hB)
  have C3 : ∀ s : Bw w1, s.val.cell? ⟨g.X, 3, none⟩ = some (.pointer (some ⟨g.A, 0, none⟩)) := fun s => (HS1.out.keep s.is).1.cell 3 _ rfl
  have C5 : ∀ s : Bw w1, s.val.cell? ⟨B, 5, none⟩ = some (.int .i64 r) := fun s => (hN.below s.is hN.lt).cell 5 _ rfl
  clear hB hN hBe
  refine region_pre 8 (by kernel_rfl) (by kernel_rfl) ?_
  simp only [List.take_succ_cons, List.take_zero, List.drop_succ_cons, List.drop_zero]
  repeat (first
    | go_big_quiet_skip
    | (go_big_quiet_want; go_big_quiet_op; go_big_quiet_on))
  refine wpQuiet_nil ?_
  intro s
  have HSs := hide (HS1.out.keep s.is)
  have HBs := hide (HB1.out.trans (s.is.mono HB1.out.size))
  have hadd := tiAdd g.A g.S g.b L n t v (1000 / r) s.val HSs.out.2 HF.out hn hL hL' h0 h1 hq0 hq1
  clear C3 C5
  go_wp2_with fail
  refine hadd.mono ?_
  clear hadd
  rintro e w2 ⟨rfl, ho, hwo⟩
  have HO := hide ho
  have HW := hide hwo
  clear ho hwo
  go_wp2_with fail
  go_ret
  have hne : g.X ≠ g.b := map_sits HSs.out.2.sk.map HSs.out.1
  have hne2 : g.X ≠ g.A := sits_ne HSs.out.1 HSs.out.2.head (by decide)
  have hne3 : g.X ≠ g.S := sits_ne HSs.out.1 HSs.out.2.sk.head (by decide)
  refine ⟨rfl, (Off.of_below HBs.out).trans (HO.out.mono fun x _ hx => ?_), Foot.Sits.off HSs.out.1 HO.out (by simp [hne, hne2, hne3]), HW.out⟩
  simp at hx
  simp [gf]
  omega
theorem take_c (L : Lim) (k : Bs) (g : Gh) (n : Int) (nb wb : ByteArray) (sg : Bool) (v r : Int) (sa : Option Addr) (sl sc : Nat) (w : World) (h : SeAt w L k g (.num n)) (hn0 : -1000000000000000 ≤ n) (hn1 : n ≤ 1000000000000000) (h0 : -999999999 ≤ v) (h1 : v ≤ 999999999) (h2 : 1 ≤ r) (h3 : r ≤ 1000) :
    Calls Tryz.prog 91 #[.pointer (some ⟨g.X, 0, none⟩), smp nb ⟨#[99]⟩ sg v wb r (.slice sa sl sc)] w fun e w' =>
      e = .returned (.bool true) ∧ Off (gf g (.num n)) w w' ∧ SeAt w' L k g (.num (bnd ((v * 1000).tdiv r + n))) := by
  unfold smp
  obtain ⟨kb, hk, hs⟩ := h
  have HK := hide hk
  have hd0 : -999999999000 ≤ (v * 1000).tdiv r := by
    have h5 : (v * 1000).natAbs / r.natAbs ≤ (v * 1000).natAbs := Nat.div_le_self _ _
    have h6 : ((v * 1000).tdiv r).natAbs = (v * 1000).natAbs / r.natAbs := Int.natAbs_tdiv _ _
    omega
  have hd1 : (v * 1000).tdiv r ≤ 999999999000 := by
    have h5 : (v * 1000).natAbs / r.natAbs ≤ (v * 1000).natAbs := Nat.div_le_self _ _
    have h6 : ((v * 1000).tdiv r).natAbs = (v * 1000).natAbs / r.natAbs := Int.natAbs_tdiv _ _
    omega
  have hbd := bounded
  have HN := hide (hs.alloc (.cells #[.string nb, .string ⟨#[99]⟩, .bool sg, .int .i64 v, .string wb, .int .i64 r, .slice sa sl sc] 172))
  obtain ⟨c0, c1, c2, c3, f0, f1, f2, f3⟩ := head4 HN.out
  clear hk hs c0 c2 c3 f0 f2 f3
  go_enter Tryz.func91, Tryz.ntmps91
  go_wp2_with (go_at_call 125; refine (hbd _ _).mono ?_; rintro e w' ⟨rfl, rfl⟩)
  go_ret
  refine ⟨rfl, (Off.of_below (below_new _)).set (by simp [gf]) _ _, kb, HK.out, ?_⟩
  exact HN.out.set 1 _
theorem take_d (L : Lim) (k : Bs) (g : Gh) (n : Int) (nb wb : ByteArray) (v r : Int) (sa : Option Addr) (sl sc : Nat) (w : World) (h : SeAt w L k g (.num n)) (hn0 : -1000000000000000 ≤ n) (hn1 : n ≤ 1000000000000000) (h0 : -999999999 ≤ v) (h1 : v ≤ 999999999) :
    Calls Tryz.prog 91 #[.pointer (some ⟨g.X, 0, none⟩), smp nb ⟨#[103]⟩ true v wb r (.slice sa sl sc)] w fun e w' =>
      e = .returned (.bool true) ∧ Off (gf g (.num n)) w w' ∧ SeAt w' L k g (.num (bnd (v + n))) := by
  unfold smp
  obtain ⟨kb, hk, hs⟩ := h
  have HK := hide hk
  have hbd := bounded
  have HN := hide (hs.alloc (.cells #[.string nb, .string ⟨#[103]⟩, .bool true, .int .i64 v, .string wb, .int .i64 r, .slice sa sl sc] 172))
  obtain ⟨c0, c1, c2, c3, f0, f1, f2, f3⟩ := head4 HN.out
  clear hk hs c0 c2 c3 f0 f2 f3
  go_enter Tryz.func91, Tryz.ntmps91
  go_wp2_with (go_at_call 125; refine (hbd _ _).mono ?_; rintro e w' ⟨rfl, rfl⟩)
  go_ret
  refine ⟨rfl, (Off.of_below (below_new _)).set (by simp [gf]) _ _, kb, HK.out, ?_⟩
  exact HN.out.set 1 _
theorem take_g (L : Lim) (k : Bs) (g : Gh) (n : Int) (nb wb : ByteArray) (v r : Int) (sa : Option Addr) (sl sc : Nat) (w : World) (h : SeAt w L k g (.num n)) :
    Calls Tryz.prog 91 #[.pointer (some ⟨g.X, 0, none⟩), smp nb ⟨#[103]⟩ false v wb r (.slice sa sl sc)] w fun e w' =>
      e = .returned (.bool true) ∧ Off (gf g (.num n)) w w' ∧ SeAt w' L k g (.num (bnd (v))) := by
  unfold smp
  obtain ⟨kb, hk, hs⟩ := h
  have HK := hide hk
  have hbd := bounded
  have HN := hide (hs.alloc (.cells #[.string nb, .string ⟨#[103]⟩, .bool false, .int .i64 v, .string wb, .int .i64 r, .slice sa sl sc] 172))
  obtain ⟨c0, c1, c2, c3, f0, f1, f2, f3⟩ := head4 HN.out
  clear hk hs c0 c2 c3 f0 f2 f3
  go_enter Tryz.func91, Tryz.ntmps91
  go_wp2_with (go_at_call 125; refine (hbd _ _).mono ?_; rintro e w' ⟨rfl, rfl⟩)
  go_ret
  refine ⟨rfl, (Off.of_below (below_new _)).set (by simp [gf]) _ _, kb, HK.out, ?_⟩
  exact HN.out.set 1 _
/-- A series takes a sample of its type. -/
theorem seTake (L : Lim) (n : Nat) (k l : Bs) (g : Gh) (s : Ser) (m : Opts.Smp) (nb kb wb : ByteArray) (sa : Option Addr) (sl sc : Nat) (w : World) (h : SeAt w L k g s) (hf : SFit L n k s) (hr : Opts.rd l = some m) (hk : kindOf k = m.kind) (hkb : Bytes.B kb = m.kind) (hwb : Bytes.B wb = m.word)
    (hn : n ≤ 1000000000000000) (hL : 2 ≤ L.buckets) (hL' : L.buckets ≤ 64) (hS : L.sets < 1000) :
    Calls Tryz.prog 91 #[.pointer (some ⟨g.X, 0, none⟩), smp nb kb m.signed m.value wb m.rate (.slice sa sl sc)] w fun e w' =>
      e = .returned (.bool (stake L m s).2) ∧ Off (gf g s) w w' ∧ SeAt w' L k g (stake L m s).1 := by
  obtain ⟨_, _, hw1, ⟨hv0, hv1⟩, ⟨hr0, hr1⟩, _⟩ := Bounds.rd_short hr
  obtain ⟨_, hkd⟩ := rd_kind hr
  have hkk := hf.kind
  rw [hk] at hkk
  cases s with
  | num x =>
    have hx : -1000000000000000 ≤ x ∧ x ≤ 1000000000000000 := hf.ok
    have hkk : m.kind = [99] ∨ m.kind = [103] := hkk
    rcases hkk with e | e
    · rw [e] at hkb
      obtain rfl : kb = ⟨#[99]⟩ := Bytes.B_inj hkb
      have e2 : stake L m (.num x) = (.num (bnd ((m.value * 1000).tdiv m.rate + x)), true) := by simp [stake, e]
      rw [e2]
      exact take_c L k g x nb wb m.signed m.value m.rate sa sl sc w h hx.1 hx.2 hv0 hv1 hr0 hr1
    · rw [e] at hkb
      obtain rfl : kb = ⟨#[103]⟩ := Bytes.B_inj hkb
      cases hs : m.signed with
      | true =>
        have e2 : stake L m (.num x) = (.num (bnd (m.value + x)), true) := by simp [stake, e, hs]
        rw [e2]
        exact take_d L k g x nb wb m.value m.rate sa sl sc w h hx.1 hx.2 hv0 hv1
      | false =>
        have e2 : stake L m (.num x) = (.num (bnd m.value), true) := by simp [stake, e, hs]
        rw [e2]
        exact take_g L k g x nb wb m.value m.rate sa sl sc w h
  | set ws =>
    have e : m.kind = [115] := hkk
    rw [e] at hkb
    obtain rfl : kb = ⟨#[115]⟩ := Bytes.B_inj hkb
    have hws : ws.length ≤ L.sets := hf.ok.2
    have e2 : stake L m (.set ws) = (.set (wadd L.sets (Bytes.B wb) ws).1, (wadd L.sets (Bytes.B wb) ws).2) := by
      rw [hwb]
      simp only [stake, wadd]
      split
      · rfl
      · split <;> rfl
    rw [e2]
    exact take_set L k g ws nb wb m.signed m.value m.rate sa sl sc w h (by omega) (by rw [Bytes.size_B, hwb]; omega)
  | tim t =>
    have e : m.kind = [109, 115] := hkk
    have h0 : 0 ≤ m.value := by
      rcases hkd with e' | e' | e' | ⟨_, e'⟩
      · rw [e] at e'; cases e'
      · rw [e] at e'; cases e'
      · rw [e] at e'; cases e'
      · exact e'
    rw [e] at hkb
    obtain rfl : kb = ⟨#[109, 115]⟩ := Bytes.B_inj hkb
    exact take_tim L n k g t nb wb m.signed m.value m.rate sa sl sc w h hf.ok hn hL hL' h0 hv1 hr0 hr1
end Go.Proofs.YtmkidefdegaamaaGreatDoor.Hn
namespace Go.Proofs.YtmkidefdegaamaaGreatDoor.Sh
open Go.RowKit Go.Maps Mem Foot Im Wm Hk Hb Hi Plainw Cq Hs
def pv (x : Nat) : Value := .pointer (some ⟨x, 0, none⟩)
def okP : Value → Bool
  | .pointer _ => true
  | _ => false
theorem zeroP (w : World) : (zeroValue 117).run Tryz.prog w = .ok (.pointer none) w := Tryz.zeroValue117 w
/-- The shard of a key. -/
def idx (n : Nat) (k : Bs) : Nat := (hsh k % (n : Int)).toNat
def part (n i : Nat) (ent : List (Bs × Nat)) : List (Bs × Nat) := ent.filter fun p => idx n p.1 == i
theorem idx_lt {n : Nat} (h : 0 < n) (k : Bs) : idx n k < n := by
  unfold idx
  have h1 := Int.emod_nonneg (hsh k) (show (n : Int) ≠ 0 by omega)
  have h2 := Int.emod_lt_of_pos (hsh k) (show (0 : Int) < n by omega)
  omega
structure ShAt (w : World) (M R : Nat) (bs : List Nat) (ent : List (Bs × Nat)) : Prop where
  head : Sits w M 159 #[.slice (some ⟨R, 0, none⟩) bs.length bs.length, .int .i64 (ent.length : Int)]
  row : Sits w R 156 (bs.map fun b => Value.map (some b)).toArray
  maps : ∀ i b, bs[i]? = some b → Owns Tryz.prog 9 okP sLit pv w b (part bs.length i ent)
  nodup : bs.Nodup
  pos : 0 < bs.length
  most : bs.length ≤ 16
/-- What it may write. -/
def shf (M R : Nat) (bs : List Nat) : List Nat := M :: R :: bs
theorem ShAt.off {F : List Nat} {w w' : World} {M R : Nat} {bs : List Nat} {ent : List (Bs × Nat)} (h : ShAt w M R bs ent) (ho : Off F w w') (hF : ∀ x ∈ shf M R bs, x ∉ F) : ShAt w' M R bs ent :=
  ⟨Foot.Sits.off h.head ho (hF M (by simp [shf])), Foot.Sits.off h.row ho (hF R (by simp [shf])), fun i b hb => Owns.at (h.maps i b hb) (ho.block b (h.maps i b hb).below (hF b (by simp only [shf, List.mem_cons]; exact Or.inr (Or.inr (List.mem_of_getElem? hb))))), h.nodup, h.pos, h.most⟩
theorem ShAt.keep {w w' : World} {M R : Nat} {bs : List Nat} {ent : List (Bs × Nat)} (h : ShAt w M R bs ent) (hb : Below w.heap.size w w') : ShAt w' M R bs ent :=
  h.off (F := []) (Off.of_below hb) (by simp)
theorem ShAt.lt {w : World} {M R : Nat} {bs : List Nat} {ent : List (Bs × Nat)} (h : ShAt w M R bs ent) : ∀ x ∈ shf M R bs, x < w.heap.size := by
  intro x hx
  simp only [shf, List.mem_cons] at hx
  rcases hx with rfl | rfl | hx
  · exact h.head.lt
  · exact h.row.lt
  · obtain ⟨i, hi⟩ := List.getElem?_of_mem hx
    exact (h.maps i x hi).below
theorem ShAt.cell {w : World} {M R : Nat} {bs : List Nat} {ent : List (Bs × Nat)} (h : ShAt w M R bs ent) {i b : Nat} (hb : bs[i]? = some b) : w.cell? ⟨R, i, none⟩ = some (.map (some b)) :=
  h.row.cell i _ (by simp [hb])
theorem len (M R : Nat) (bs : List Nat) (ent : List (Bs × Nat)) (w : World) (h : ShAt w M R bs ent) : Calls Tryz.prog 120 #[.pointer (some ⟨M, 0, none⟩)] w fun e w' => e = .returned (.int .i64 (ent.length : Int)) ∧ w' = w := by
  have c1 := h.head.cell 1 _ rfl
  go_enter Tryz.func120, Tryz.ntmps120
  go_wp2_with fail
  go_ret
  exact ⟨rfl, rfl⟩
set_option maxHeartbeats 1000000 in
theorem shardOf (M R : Nat) (bs : List Nat) (ent : List (Bs × Nat)) (s : ByteArray) (hs : s.size ≤ 1000) (w : World) (h : ShAt w M R bs ent) (b : Nat) (hb : bs[idx bs.length (Bytes.B s)]? = some b) :
    Calls Tryz.prog 166 #[.pointer (some ⟨M, 0, none⟩), .string s] w fun e w' => e = .returned (.map (some b)) ∧ Below w.heap.size w w' := by
  have C0 : ∀ s : Bw w, s.val.cell? ⟨M, 0, none⟩ = some (.slice (some ⟨R, 0, none⟩) bs.length bs.length) := fun s => (h.keep s.is).head.cell 0 _ rfl
  have hp := h.pos
  have hm := h.most
  have hi := idx_lt hp (Bytes.B s)
  obtain ⟨x0, x1⟩ := hsh_range (Bytes.B s)
  have CR : ∀ s' : Bw w, s'.val.cell? ⟨R, idx bs.length (Bytes.B s), none⟩ = some (.map (some b)) := fun s' => (h.keep s'.is).cell hb
  have HH := hide (fun s' : Bw w => call_cls (v := .int .u32 (hsh (Bytes.B s))) ((hashW s hs s'.val).mono fun e w' ⟨h1, h2⟩ => ⟨h1, by rw [h2]; exact Below.refl _ _⟩))
  have hie : idx bs.length (Bytes.B s) = (hsh (Bytes.B s) % (bs.length : Int)).toNat := rfl
  clear h hb
  generalize hsh (Bytes.B s) = x at *
  generalize bs.length = n at *
  obtain ⟨j, hj⟩ : ∃ j : Nat, x % (n : Int) = (j : Int) := ⟨(x % (n : Int)).toNat, by
    have := Int.emod_nonneg x (show (n : Int) ≠ 0 by omega)
    omega⟩
  have hje : idx n (Bytes.B s) = j := by rw [hie, hj]; rfl
  rw [hje] at hi CR
  have hjz : (j : Int) < (n : Int) := by omega
  clear hie hje
  have e1 : (n : Int) % 4294967296 = n := by omega
  have hz : ¬ (n : Int) = 0 := by omega
  go_enter Tryz.func166, Tryz.ntmps166
  go_wp2_with fail
  refine region_cls (by kernel_rfl) (by kernel_rfl) ?_
  repeat (first
    | go_big_quiet_skip
    | (go_big_quiet_want; go_big_quiet_op; first | go_big_quiet_on | (apply Exists.intro; refine ⟨fun _ => ?_, ?_⟩; exact HH.out _; go_big_quiet_on)))
  refine wpQuiet_nil ?_
  rintro _ ⟨s', rfl⟩
  go_wp2_with fail
  go_ret
  exact ⟨rfl, s'.is⟩
end Go.Proofs.YtmkidefdegaamaaGreatDoor.Sh
namespace Go.Proofs.YtmkidefdegaamaaGreatDoor.Sh
open Go.RowKit Go.Maps Mem Foot Im Wm Hk Hb Hi Plainw Cq Hs
theorem getE_filter {κ β : Type} [DecidableEq κ] {p : κ × β → Bool} {k : κ} (hp : ∀ x : κ × β, x.1 = k → p x = true) (l : List (κ × β)) : getE k (l.filter p) = getE k l := by
  induction l with
  | nil => rfl
  | cons x r ih =>
    by_cases h : x.1 = k
    · rw [List.filter_cons_of_pos (hp x h), getE_cons_eq h, getE_cons_eq h]
    · rw [getE_cons_ne h]
      by_cases h2 : p x = true
      · rw [List.filter_cons_of_pos h2, getE_cons_ne h, ih]
      · rw [List.filter_cons_of_neg h2, ih]
theorem getE_part (n : Nat) (k : Bs) (ent : List (Bs × Nat)) : getE k (part n (idx n k) ent) = getE k ent :=
  getE_filter (fun x hx => by simp [hx]) ent
theorem filter_ins {κ β : Type} {lt : κ → κ → Bool} (htr : ∀ a b c, lt a b = true → lt b c = true → lt a c = true) {p : κ × β → Bool} {x : κ × β} {l : List (κ × β)} (h : Up lt l) : (ins lt x l).filter p = if p x then ins lt x (l.filter p) else l.filter p := by
  induction l with
  | nil =>
    by_cases hp : p x = true
    · simp [ins, hp]
    · simp [ins, hp]
  | cons y r ih =>
    obtain ⟨h1, h2⟩ := List.pairwise_cons.1 h
    rw [ins]
    by_cases hl : lt x.1 y.1 = true
    · rw [if_pos hl]
      by_cases hp : p x = true
      · rw [List.filter_cons_of_pos hp, if_pos hp]
        cases hf : (y :: r).filter p with
        | nil => rfl
        | cons z q =>
          have hz : z ∈ y :: r := by
            have : z ∈ (y :: r).filter p := by rw [hf]; exact List.mem_cons_self ..
            exact (List.mem_filter.1 this).1
          have hlt : lt x.1 z.1 = true := by
            rcases List.mem_cons.1 hz with e | e
            · rw [e]
              exact hl
            · exact htr _ _ _ hl (h1 z e)
          rw [ins, if_pos hlt]
      · rw [List.filter_cons_of_neg hp, if_neg hp]
    · rw [if_neg hl]
      by_cases hy : p y = true
      · rw [List.filter_cons_of_pos hy, ih h2, List.filter_cons_of_pos hy]
        by_cases hp : p x = true
        · rw [if_pos hp, if_pos hp, ins, if_neg hl]
        · rw [if_neg hp, if_neg hp]
      · rw [List.filter_cons_of_neg hy, ih h2, List.filter_cons_of_neg hy]
theorem part_put {n : Nat} {k : Bs} {x : Nat} {ent : List (Bs × Nat)} (hu : Up sLt ent) (hk : getE k ent = none) (i : Nat) : part n i (put sLt k x ent) = if idx n k = i then put sLt k x (part n i ent) else part n i ent := by
  have h1 : has k ent = false := by rw [has_getE, hk]; rfl
  have e1 : put sLt k x ent = ins sLt (k, x) ent := by rw [put, del_of_not k ent h1]
  have h2 : has k (part n i ent) = false := by
    rw [has_false]
    intro hm
    obtain ⟨p, hp, e⟩ := List.mem_map.1 hm
    exact (has_false k ent).1 h1 (List.mem_map.2 ⟨p, (List.mem_filter.1 hp).1, e⟩)
  have e2 : put sLt k x (part n i ent) = ins sLt (k, x) (part n i ent) := by rw [put, del_of_not k _ h2]
  rw [e1, e2]
  unfold part
  rw [filter_ins sLt_trans hu]
  simp
theorem nodup_idx {l : List Nat} (h : l.Nodup) {i j b : Nat} (hi : l[i]? = some b) (hj : l[j]? = some b) : i = j := by
  rw [List.nodup_iff_pairwise_ne, List.pairwise_iff_getElem] at h
  obtain ⟨i1, e1⟩ := List.getElem?_eq_some_iff.1 hi
  obtain ⟨j1, e2⟩ := List.getElem?_eq_some_iff.1 hj
  rcases Nat.lt_trichotomy i j with h1 | h1 | h1
  · exact absurd (e1.trans e2.symm) (h i j i1 j1 h1)
  · exact h1
  · exact absurd (e2.trans e1.symm) (h j i j1 i1 h1)
theorem get (M R : Nat) (bs : List Nat) (ent : List (Bs × Nat)) (s : ByteArray) (hs : s.size ≤ 1000) (w : World) (h : ShAt w M R bs ent) :
    Calls Tryz.prog 119 #[.pointer (some ⟨M, 0, none⟩), .string s] w fun e w' => e = .returned (.tuple #[Im.elemOf pv (.pointer none) (Bytes.B s) ent, .bool (has (Bytes.B s) ent)]) ∧ Below w.heap.size w w' := by
  obtain ⟨b, hb⟩ : ∃ b, bs[idx bs.length (Bytes.B s)]? = some b := ⟨_, List.getElem?_eq_getElem (idx_lt h.pos _)⟩
  have hsh := shardOf M R bs ent s hs w h b hb
  have hkey : keyOf Tryz.prog 9 (.string s) = some (sLit (Bytes.B s)) := Go.WideMaps.keyOf_string_mk Tryz.underlying9 (by unfold maxLen; omega)
  have hlk := look_ok_run (h.maps _ b hb) (string_keyed Tryz.underlying9) Tryz.underlying156 zeroP rfl sLit_same hkey
  have e1 : Im.elemOf pv (.pointer none) (Bytes.B s) (part bs.length (idx bs.length (Bytes.B s)) ent) = Im.elemOf pv (.pointer none) (Bytes.B s) ent := by
    unfold Im.elemOf
    rw [getE_part]
  have e2 : has (Bytes.B s) (part bs.length (idx bs.length (Bytes.B s)) ent) = has (Bytes.B s) ent := by rw [has_getE, has_getE, getE_part]
  rw [e1, e2] at hlk
  have hbl := (h.maps _ b hb).below
  obtain ⟨q, hq⟩ : ∃ q, Im.elemOf pv (.pointer none) (Bytes.B s) ent = .pointer q := by
    unfold Im.elemOf
    split
    · exact ⟨_, rfl⟩
    · exact ⟨_, rfl⟩
  rw [hq] at hlk ⊢
  generalize has (Bytes.B s) ent = hh at *
  clear h hq e1 e2
  go_enter Tryz.func119, Tryz.ntmps119
  go_wp2_with fail
  refine hsh.mono ?_
  clear hsh
  rintro e w1 ⟨rfl, hb1⟩
  have hl1 := hlk w1 (hb1.block b hbl)
  have HB := hide hb1
  clear hlk hb1
  go_wp2_with fail
  go_ret2
  exact ⟨rfl, HB.out⟩
set_option maxHeartbeats 1000000 in
theorem put_ (M R : Nat) (bs : List Nat) (ent : List (Bs × Nat)) (s : ByteArray) (x : Nat) (hs : s.size ≤ 1000) (w : World) (h : ShAt w M R bs ent) (hu : Up sLt ent) (hk : getE (Bytes.B s) ent = none) (hl : ent.length < 1000) :
    Calls Tryz.prog 122 #[.pointer (some ⟨M, 0, none⟩), .string s, .pointer (some ⟨x, 0, none⟩)] w fun e w' => e = .returned (.tuple #[]) ∧ Off (shf M R bs) w w' ∧ ShAt w' M R bs (put sLt (Bytes.B s) x ent) := by
  obtain ⟨b, hb⟩ : ∃ b, bs[idx bs.length (Bytes.B s)]? = some b := ⟨_, List.getElem?_eq_getElem (idx_lt h.pos _)⟩
  have hsh := shardOf M R bs ent s hs w h b hb
  have hkey : keyOf Tryz.prog 9 (.string s) = some (sLit (Bytes.B s)) := Go.WideMaps.keyOf_string_mk Tryz.underlying9 (by unfold maxLen; omega)
  have hpl : (part bs.length (idx bs.length (Bytes.B s)) ent).length ≤ ent.length := List.length_filter_le _ _
  have hpk : getE (Bytes.B s) (part bs.length (idx bs.length (Bytes.B s)) ent) = none := by rw [getE_part, hk]
  have hpn := put_length_none (lt := sLt) (b' := x) hpk
  have HS := hide h
  have HBs := hide hb
  have HU := hide hu
  have HK := hide hk
  clear h hb hu hk
  go_enter Tryz.func122, Tryz.ntmps122
  go_wp2_with fail
  refine hsh.mono ?_
  clear hsh
  rintro e w1 ⟨rfl, hb1⟩
  have HS1 := hide (HS.out.keep hb1)
  have HB1 := hide hb1
  have hm1 := HS1.out.maps _ b HBs.out
  have hlen := fun ty => len_run hm1 Tryz.underlying156 ty w1 rfl
  obtain ⟨w4, hu4, ho4, hg4⟩ := upd_run (lt := sLt) hm1 (string_keyed Tryz.underlying9) Tryz.underlying156 sLit_same sLit_before (by unfold maxLen; omega) hkey x rfl
  simp only [pv] at hu4
  have HO4 := hide ho4
  have HG4 := hide hg4
  have hlen4 := fun ty => len_run ho4 Tryz.underlying156 ty w4.drew rfl
  rw [hpn] at hlen4
  have hMb : M ≠ b := map_sits hm1 HS1.out.head
  have HH4 := hide (Foot.Sits.off HS1.out.head (grown_off' (F := [b]) hg4 (by simp)) (by simpa using hMb))
  have c1 := HH4.out.cell 1 _ rfl
  have f1 := HH4.out.frozen 1
  generalize (part bs.length (idx bs.length (Bytes.B s)) ent).length = np at *
  clear hb1 hm1 ho4 hg4 hpk hpn
  go_wp2_with fail
  go_region
  all_goals
    go_wp2_with fail
    go_end0
    have hMR : R ≠ M := sits_ne HS1.out.row HS1.out.head (by decide)
    have hRb : R ≠ b := map_sits (HS1.out.maps _ b HBs.out) HS1.out.row
    have e0 : (ent.length : Int) + ((np : Int) + 1 - np) = ((put sLt (Bytes.B s) x ent).length : Int) := by
      rw [put_length_none HK.out]
      omega
    rw [e0]
    have hbm : b ∈ shf M R bs := by
      simp only [shf, List.mem_cons]
      exact Or.inr (Or.inr (List.mem_of_getElem? HBs.out))
    refine ⟨rfl, ?_, ?_⟩
    · exact (((Off.of_below HB1.out).trans (grown_off' HG4.out hbm)).set (by simp [shf]) _ _).drewN 1
    · have hW : ∀ k, k ≠ b → k ≠ M → k < w1.heap.size → (w4.setCell ⟨M, 1, none⟩ (.int .i64 ((put sLt (Bytes.B s) x ent).length : Int))).drew.heap[k]? = w1.heap[k]? := fun k h1 h2 h3 =>
        (Below.heap_setCell _ _ _ _ h2).trans (HG4.out.block k h3 (by simpa using h1))
      refine ⟨HH4.out.set 1 _, ?_, fun i b' hb' => ?_, HS1.out.nodup, HS1.out.pos, HS1.out.most⟩
      · exact (hW R hRb hMR HS1.out.row.lt).trans HS1.out.row
      · rw [part_put HU.out HK.out]
        by_cases hi : idx bs.length (Bytes.B s) = i
        · rw [if_pos hi]
          have hbb : b' = b := by
            have h1 := HBs.out
            rw [hi, hb'] at h1
            exact Option.some.inj h1
          subst hbb
          subst hi
          exact Owns.at HO4.out (Below.heap_setCell _ _ _ _ (fun e => hMb e.symm))
        · rw [if_neg hi]
          have hne : b' ≠ b := fun e => hi (by
            subst e
            exact nodup_idx HS1.out.nodup HBs.out hb')
          have hM' : M ≠ b' := map_sits (HS1.out.maps i b' hb') HS1.out.head
          exact Owns.at (HS1.out.maps i b' hb') (hW b' hne (fun e => hM' e.symm) (HS1.out.maps i b' hb').below)
end Go.Proofs.YtmkidefdegaamaaGreatDoor.Sh
namespace Go.Proofs.YtmkidefdegaamaaGreatDoor.Sh
open Go.RowKit Go.Maps Mem Foot Im Wm Hk Hb Hi Plainw Cq Hs
theorem infoMap : (Tryz.prog.info? 156).map (fun i => (i.zero, i.size, i.bytes)) = some (some (.map none), 1, 8) := by kernel_rfl
/-- Shards of which so many are made. -/
def Making (w wr : World) (R n k : Nat) : Prop := ∃ (cs : Array Value) (bs : List Nat), Sits wr R 156 cs ∧ cs.size = n ∧ bs.length = k ∧ (∀ (i b : Nat), bs[i]? = some b → cs[i]? = some (Value.map (some b)) ∧ w.heap.size + 2 ≤ b ∧ Owns Tryz.prog 9 okP sLit pv wr b ([] : List (Bs × Nat))) ∧ bs.Nodup ∧
  Sits wr (w.heap.size + 1) 159 #[.slice (some ⟨R, 0, none⟩) n n, .int .i64 0] ∧ Below w.heap.size w wr ∧ w.heap.size + 2 ≤ wr.heap.size
set_option maxRecDepth 10000 in
set_option maxHeartbeats 2000000 in
theorem new_ (n : Nat) (h1 : 1 ≤ n) (h2 : n ≤ 16) (w : World) :
    Calls Tryz.prog 78 #[.int .i64 (n : Int)] w fun e w' => ∃ bs : List Nat, e = .returned (.pointer (some ⟨w.heap.size + 1, 0, none⟩)) ∧ bs.length = n ∧ ShAt w' (w.heap.size + 1) w.heap.size bs [] ∧ (∀ x ∈ shf (w.heap.size + 1) w.heap.size bs, w.heap.size ≤ x) ∧ Below w.heap.size w w' := by
  obtain ⟨cs0, hcs0, hmk⟩ := made 157 156 _ 8 Tryz.underlying157 infoMap n (by omega) (by omega) w
  have hmm := @run_makeMap Tryz.prog
  have hmx : max (n : Int) 1 = n := by omega
  have HM0 := hide (show Making w ((w.alloc (.cells cs0 156)).alloc (.cells #[.slice (some ⟨w.heap.size, 0, none⟩) n n, .int .i64 0] 159)) w.heap.size n 0 from
    ⟨cs0, [], (Sits.new w _ _).alloc _, hcs0, rfl, by simp, List.nodup_nil, by
      have := Sits.new (w.alloc (.cells cs0 156)) 159 #[.slice (some ⟨w.heap.size, 0, none⟩) n n, .int .i64 0]
      simpa using this, (below_new _).alloc (by simp) _, by simp⟩)
  go_enter Tryz.func78, Tryz.ntmps78
  go_wp2_with fail
  generalize (w.alloc (.cells cs0 156)).alloc (.cells #[.slice (some ⟨w.heap.size, 0, none⟩) n n, .int .i64 0] 159) = w0 at *
  have c0 : w0.cell? ⟨w.heap.size + 1, 0, none⟩ = some (.slice (some ⟨w.heap.size, 0, none⟩) n n) := by
    obtain ⟨_, _, _, _, _, _, _, h, _⟩ := HM0.out
    exact h.cell 0 _ rfl
  clear hmk hmx
  go_wp2_with fail
  go_loopw [15] (fun i wr => ∃ k : Nat, i = .int .i64 (k : Int) ∧ k ≤ n ∧ Hid (Making w wr w.heap.size n k)) (fun i _ => n - (intOf i).toNat)
  case atStart => exact ⟨0, rfl, by omega, HM0.out⟩
  case round =>
    obtain ⟨k, rfl, hk, HI⟩ := hrel
    by_cases hkn : k < n
    · have hkz : (k : Int) < (n : Int) := by omega
      obtain ⟨cs, bs, hS, hsz, hbl, hbs, hnd, hM, hB, hZ⟩ := HI.out
      have d0 := hM.cell 0 _ rfl
      have hSa := hS.alloc (.map #[] 0)
      have ck := hSa.cell k (cs[k]'(by omega)) (by simp [hsz, hkn])
      have fk := hSa.frozen k
      have d1 := (hM.alloc (.map #[] 0)).cell 0 _ rfl
      have HS := hide hS
      have HBS := hide hbs
      have HND := hide hnd
      have HM := hide hM
      have HB := hide hB
      clear hS hbs hnd hM hB hSa c0
      go_wp2_with fail
      go_roundw
      case rel =>
        refine ⟨k + 1, by go_num, by omega, _, bs ++ [wr.heap.size], (HS.out.alloc _).set k _, by simp [hsz], by simp [hbl], fun i b hb => ?_, ?_, ?_, ?_, ?_⟩
        · have hRb : wr.heap.size ≠ w.heap.size := by omega
          by_cases hi : i < bs.length
          · rw [List.getElem?_append_left hi] at hb
            obtain ⟨e1, e2, e3⟩ := HBS.out i b hb
            refine ⟨?_, e2, ?_⟩
            · rw [Array.getElem?_setIfInBounds_ne (by omega)]
              exact e1
            · refine Owns.at e3 ((Below.heap_setCell _ _ _ _ (by simp; omega)).trans (Below.heap_alloc _ _ _ e3.below))
          · have hi2 : i = bs.length := by
              have := (List.getElem?_eq_some_iff.1 hb).1
              simp at this
              omega
            subst hi2
            rw [List.getElem?_append_right (Nat.le_refl _), Nat.sub_self] at hb
            cases hb
            refine ⟨by rw [hbl]; simp [hsz, hkn], hZ, ?_⟩
            exact Owns.at (made_owns wr) (Below.heap_setCell _ _ _ _ hRb)
        · rw [List.nodup_append]
          refine ⟨HND.out, by simp, fun a ha b hb => ?_⟩
          simp at hb
          subst hb
          obtain ⟨i, hi⟩ := List.getElem?_of_mem ha
          have := (HBS.out i a hi).2.2.below
          omega
        · have ho : Off [w.heap.size] (wr.alloc (.map #[] 0)) ((wr.alloc (.map #[] 0)).setCell ⟨w.heap.size, k, none⟩ (.map (some wr.heap.size))) := (Off.refl _ _).set (by simp) _ _
          exact Foot.Sits.off (HM.out.alloc _) ho (by simp)
        · exact (HB.out.alloc (by omega) _).setCell (p := ⟨w.heap.size, k, none⟩) (by simp) _
        · simp
          omega
      case measure => simp only [intOf]; omega
    · have hkz : ¬ (k : Int) < (n : Int) := by omega
      have hk2 : k = n := by omega
      subst hk2
      obtain ⟨cs, bs, hS, hsz, hbl, hbs, hnd, hM, hB, hZ⟩ := HI.out
      have d0 := hM.cell 0 _ rfl
      have HF := hide (show ShAt wr (w.heap.size + 1) w.heap.size bs [] ∧ (∀ x ∈ shf (w.heap.size + 1) w.heap.size bs, w.heap.size ≤ x) by
        refine ⟨⟨by rw [hbl]; exact hM, ?_, fun i b hb => (hbs i b hb).2.2, hnd, by omega, by omega⟩, fun x hx => ?_⟩
        · have e : cs = (bs.map fun b => Value.map (some b)).toArray := by
            apply Array.ext_getElem?
            intro i
            by_cases hi : i < bs.length
            · rw [(hbs i _ (List.getElem?_eq_getElem hi)).1]
              simp [hi]
            · rw [Array.getElem?_eq_none (by omega), List.getElem?_toArray, List.getElem?_eq_none (by simp; omega)]
          rw [← e]
          exact hS
        · simp only [shf, List.mem_cons] at hx
          rcases hx with rfl | rfl | hx
          · omega
          · omega
          · obtain ⟨i, hi⟩ := List.getElem?_of_mem hx
            have := (hbs i x hi).2.1
            omega)
      have HB := hide hB
      have HL := hide hbl
      clear hS hbs hnd hM hB hbl c0 hsz
      go_wp2_with fail
      go_ret
      exact ⟨rfl, bs, HL.out, HF.out.1, HF.out.2, HB.out⟩
end Go.Proofs.YtmkidefdegaamaaGreatDoor.Sh
namespace Go.Proofs.YtmkidefdegaamaaGreatDoor.Wm
open Im Opts
section
variable {κ β : Type} [DecidableEq κ] {lt : κ → κ → Bool}
theorem getE_ins_ne {x : κ × β} {k : κ} (h : x.1 ≠ k) (l : List (κ × β)) : getE k (ins lt x l) = getE k l := by
  induction l with
  | nil => rw [ins, getE_cons_ne h]
  | cons y r ih =>
    rw [ins]
    split
    · rw [getE_cons_ne h]
    · by_cases e : y.1 = k
      · rw [getE_cons_eq e, getE_cons_eq e]
      · rw [getE_cons_ne e, getE_cons_ne e, ih]
theorem getE_ins_eq {x : κ × β} {l : List (κ × β)} (h : x.1 ∉ l.map (·.1)) : getE x.1 (ins lt x l) = some x.2 := by
  induction l with
  | nil => rw [ins, getE_cons_eq rfl]
  | cons y r ih =>
    rw [ins]
    split
    · rw [getE_cons_eq rfl]
    · have h1 : y.1 ≠ x.1 := fun e => h (by simp [e])
      rw [getE_cons_ne h1, ih fun e => h (by simp only [List.map_cons, List.mem_cons]; exact Or.inr e)]
theorem getE_del {k k' : κ} (l : List (κ × β)) : getE k' (del k l) = if k' = k then none else getE k' l := by
  induction l with
  | nil => simp [del, getE]
  | cons y r ih =>
    by_cases e : y.1 = k
    · have : del k (y :: r) = del k r := List.filter_cons_of_neg (by simp [e])
      rw [this, ih]
      by_cases e' : k' = k
      · simp [e']
      · rw [if_neg e', if_neg e', getE_cons_ne (by rw [e]; exact fun h => e' h.symm)]
    · have : del k (y :: r) = y :: del k r := List.filter_cons_of_pos (by simp [e])
      rw [this]
      by_cases e' : y.1 = k'
      · rw [getE_cons_eq e', getE_cons_eq e', if_neg (by rw [← e']; exact e)]
      · rw [getE_cons_ne e', getE_cons_ne e', ih]
theorem getE_put {k k' : κ} {b : β} (l : List (κ × β)) : getE k' (put lt k b l) = if k' = k then some b else getE k' l := by
  by_cases e : k' = k
  · subst e
    rw [if_pos rfl, put]
    refine getE_ins_eq (x := (k', b)) ?_
    intro hm
    obtain ⟨p, hp, e⟩ := List.mem_map.1 hm
    have := (List.mem_filter.1 hp).2
    simp only [Bool.not_eq_true', decide_eq_false_iff_not] at this
    exact this e
  · rw [if_neg e, put, getE_ins_ne (fun h => e h.symm), getE_del, if_neg e]
theorem getE_of_mem {l : List (κ × β)} (hn : (l.map (·.1)).Nodup) {p : κ × β} (h : p ∈ l) : getE p.1 l = some p.2 := by
  induction l with
  | nil => cases h
  | cons y r ih =>
    rw [List.map_cons, List.nodup_cons] at hn
    rcases List.mem_cons.1 h with rfl | h
    · rw [getE_cons_eq rfl]
    · have : y.1 ≠ p.1 := fun e => hn.1 (by rw [e]; exact List.mem_map.2 ⟨p, h, rfl⟩)
      rw [getE_cons_ne this, ih hn.2 h]
/-- Two rising lists with the same entries are the same. -/
theorem up_ext (htr : ∀ a b c, lt a b = true → lt b c = true → lt a c = true) (hir : ∀ a, lt a a = false) {l r : List (κ × β)} (hl : Up lt l) (hr : Up lt r) (h : ∀ k, getE k l = getE k r) : l = r := by
  have hm : ∀ p, p ∈ l ↔ p ∈ r := fun p => by
    constructor
    · intro hp
      have := getE_of_mem (Up.nodup hir hl) hp
      rw [h] at this
      exact getE_mem this
    · intro hp
      have := getE_of_mem (Up.nodup hir hr) hp
      rw [← h] at this
      exact getE_mem this
  clear h
  induction l generalizing r with
  | nil =>
    cases r with
    | nil => rfl
    | cons y r => exact absurd ((hm y).2 (List.mem_cons_self ..)) (by simp)
  | cons x l ih =>
    cases r with
    | nil => exact absurd ((hm x).1 (List.mem_cons_self ..)) (by simp)
    | cons y r =>
      obtain ⟨h1, h2⟩ := List.pairwise_cons.1 hl
      obtain ⟨h3, h4⟩ := List.pairwise_cons.1 hr
      have hxy : x = y := by
        rcases List.mem_cons.1 ((hm x).1 (List.mem_cons_self ..)) with e | e
        · exact e
        · rcases List.mem_cons.1 ((hm y).2 (List.mem_cons_self ..)) with k | k
          · exact k.symm
          · have := htr _ _ _ (h1 y k) (h3 x e)
            rw [hir] at this
            cases this
      subst hxy
      rw [ih h2 h4]
      intro p
      have hne : ∀ q : List (κ × β), (∀ p ∈ q, lt x.1 p.1 = true) → x ∉ q := fun q hq hx => by
        have := hq x hx
        rw [hir] at this
        cases this
      constructor
      · intro hp
        rcases List.mem_cons.1 ((hm p).1 (List.mem_cons_of_mem _ hp)) with rfl | e
        · exact absurd hp (hne _ h1)
        · exact e
      · intro hp
        rcases List.mem_cons.1 ((hm p).2 (List.mem_cons_of_mem _ hp)) with rfl | e
        · exact absurd hp (hne _ h3)
        · exact e
end
theorem sub_length {l r : List Int} (hn : l.Nodup) (hs : ∀ x ∈ l, x ∈ r) : l.length ≤ r.length := by
  induction l generalizing r with
  | nil => exact Nat.zero_le _
  | cons x l ih =>
    rw [List.nodup_cons] at hn
    have hx := hs x (List.mem_cons_self ..)
    have h1 := ih (r := r.erase x) hn.2 fun y hy => by
      have hne : y ≠ x := fun e => hn.1 (e ▸ hy)
      exact (List.mem_erase_of_ne hne).2 (hs y (List.mem_cons_of_mem _ hy))
    rw [List.length_erase_of_mem hx] at h1
    have : 0 < r.length := List.length_pos_of_mem hx
    simp only [List.length_cons]
    omega
/-! ### Counters and timers -/
/-- The buckets that come. -/
noncomputable def thirty : List Int := (List.range 30).map fun x : Nat => (bk (1000 * (x : Int))).1
structure TOk (t : Tim) : Prop where
  count : 0 ≤ t.count
  sum : 0 ≤ t.sum
  up : Up iLt t.cells
  sub : ∀ c ∈ t.cells, c.1 ∈ thirty
def Tv (v : Int) : Prop := ∃ x : Nat, x < 30 ∧ v = 1000 * (x : Int)
theorem Tv.fit {v : Int} (h : Tv v) : 0 ≤ v ∧ v ≤ 999999999 := by
  obtain ⟨x, h1, rfl⟩ := h
  omega
theorem Tv.bk {v : Int} (h : Tv v) : (bk v).1 ∈ thirty := by
  obtain ⟨x, h1, rfl⟩ := h
  exact List.mem_map.2 ⟨x, List.mem_range.2 h1, rfl⟩
theorem lay_sub {v wt : Int} {l : List (Int × Cel)} (h : ∀ c ∈ l, c.1 ∈ thirty) (hv : Tv v) : ∀ c ∈ lay v wt l, c.1 ∈ thirty := by
  intro c hc
  rcases mem_put hc with rfl | ⟨hc, _⟩
  · exact hv.bk
  · exact h c hc
theorem sub_len {l : List (Int × Cel)} (hu : Up iLt l) (h : ∀ c ∈ l, c.1 ∈ thirty) : l.length ≤ 30 := by
  have := sub_length (l := l.map (·.1)) (r := thirty) (Up.nodup iLt_irr hu) fun x hx => by
    obtain ⟨c, hc, rfl⟩ := List.mem_map.1 hx
    exact h c hc
  simpa [thirty] using this
theorem tadd_is {t : Tim} (h : TOk t) {v : Int} (hv : Tv v) : tadd 64 t v 1 = ⟨bnd (t.count + 1), bnd (t.sum + v), if t.count = 0 then v else min t.least v, if t.count = 0 then v else max t.greatest v, lay v 1 t.cells, t.folded⟩ := by
  have hl := sub_len (up_lay (v := v) (wt := 1) h.up) (lay_sub (wt := 1) h.sub hv)
  have h1 : ¬ 64 < (lay v 1 t.cells).length := by omega
  simp [tadd, h1]
theorem TOk.add {t : Tim} (h : TOk t) {v : Int} (hv : Tv v) : TOk (tadd 64 t v 1) := by
  rw [tadd_is h hv]
  have hf := hv.fit
  have h1 := h.count
  have h2 := h.sum
  exact ⟨by simp only [bnd, top]; omega, by simp only [bnd, top]; omega, up_lay h.up, lay_sub h.sub hv⟩
theorem TOk.zero : TOk ⟨0, 0, 0, 0, [], false⟩ := ⟨by simp, by simp, List.Pairwise.nil, by simp⟩
def cSmp (v : Int) : Smp := ⟨[99], [99], false, v, [], 1000, []⟩
def tSmp (v : Int) : Smp := ⟨[116], [109, 115], false, v, [], 1000, []⟩
def U (m : Smp) : Prop := (∃ v : Int, 0 ≤ v ∧ m = cSmp v) ∨ (∃ v : Int, Tv v ∧ m = tSmp v)
def kc : Bs := [99, 124, 99]
def kt : Bs := [116, 124, 109, 115]
theorem key_c (v : Int) : key (cSmp v) = kc := rfl
theorem key_t (v : Int) : key (tSmp v) = kt := rfl
structure WOk (w : Win) : Prop where
  up : Up sLt w.ser
  keys : ∀ p ∈ w.ser, p.1 = kc ∨ p.1 = kt
  c : ∀ s, getE kc w.ser = some s → ∃ n, 0 ≤ n ∧ s = .num n
  t : ∀ s, getE kt w.ser = some s → ∃ t, TOk t ∧ s = .tim t
theorem WOk.len {w : Win} (h : WOk w) : w.ser.length ≤ 2 := by
  have hn := Up.nodup sLt_irr h.up
  have key : ∀ l : List (Bs × Ser), (l.map (·.1)).Nodup → (∀ p ∈ l, p.1 = kc ∨ p.1 = kt) → l.length ≤ 2 := by
    intro l hn hk
    match l with
    | [] => simp
    | [a] => simp
    | [a, b] => simp
    | a :: b :: c :: r =>
      exfalso
      simp only [List.map_cons, List.nodup_cons, List.mem_cons, not_or] at hn
      have h1 := hk a (by simp)
      have h2 := hk b (by simp)
      have h3 := hk c (by simp)
      obtain ⟨⟨n1, n2, _⟩, ⟨n3, _⟩, _⟩ := hn
      rcases h1 with e1 | e1 <;> rcases h2 with e2 | e2 <;> rcases h3 with e3 | e3 <;> rw [e1, e2] at n1 <;> rw [e1, e3] at n2 <;> rw [e2, e3] at n3 <;> first | exact n1 rfl | exact n2 rfl | exact n3 rfl
  exact key _ hn h.keys
/-- What a sample's series was. -/
def was (w : Win) (m : Smp) : Ser := (getE (key m) w.ser).getD (ser0 m.kind)
theorem wtake_is {L : Lim} (hL : 3 ≤ L.series) {w : Win} (h : WOk w) {m : Smp} (hk : (stake L m (was w m)).2 = true) : wtake L w m = ⟨w.rejects, w.drops, put sLt (key m) (stake L m (was w m)).1 w.ser⟩ := by
  unfold wtake was at *
  have := h.len
  split
  · rename_i s hs
    rw [hs] at hk
    simp only [Option.getD_some] at hk ⊢
    rw [hs]
    simp [hk]
  · rename_i hs
    rw [hs] at hk
    simp only [Option.getD_none] at hk
    rw [if_neg (by omega), hs]
    simp [hk]
theorem was_c {w : Win} (h : WOk w) (v : Int) : ∃ n, 0 ≤ n ∧ was w (cSmp v) = .num n := by
  unfold was
  rw [key_c]
  cases hg : getE kc w.ser with
  | none => exact ⟨0, by omega, rfl⟩
  | some s =>
    obtain ⟨n, h1, rfl⟩ := h.c s hg
    exact ⟨n, h1, rfl⟩
theorem was_t {w : Win} (h : WOk w) (v : Int) : ∃ t, TOk t ∧ was w (tSmp v) = .tim t := by
  unfold was
  rw [key_t]
  cases hg : getE kt w.ser with
  | none => exact ⟨_, TOk.zero, rfl⟩
  | some s =>
    obtain ⟨n, h1, rfl⟩ := h.t s hg
    exact ⟨n, h1, rfl⟩
def L32 (sets : Nat) : Lim := ⟨32, sets, 64⟩
theorem stake_c (s : Nat) (v n : Int) : stake (L32 s) (cSmp v) (.num n) = (.num (bnd (v + n)), true) := by
  have e : (v * 1000).tdiv 1000 = v := Int.mul_tdiv_cancel _ (by decide)
  show (Ser.num (bnd (if ([99] : Bs) = [99] then (v * 1000).tdiv 1000 + n else _)), true) = _
  rw [if_pos rfl, e]
theorem stake_t (s : Nat) (v : Int) (t : Tim) : stake (L32 s) (tSmp v) (.tim t) = (.tim (tadd 64 t v 1), true) := rfl
theorem take_c {s : Nat} {w : Win} (h : WOk w) {v n : Int} (hn : was w (cSmp v) = .num n) : wtake (L32 s) w (cSmp v) = ⟨w.rejects, w.drops, put sLt kc (.num (bnd (v + n))) w.ser⟩ := by
  have e : (stake (L32 s) (cSmp v) (was w (cSmp v))) = (.num (bnd (v + n)), true) := by rw [hn, stake_c]
  rw [wtake_is (L := L32 s) (show 3 ≤ 32 by decide) h (by rw [e]), e, key_c]
theorem take_t {s : Nat} {w : Win} (h : WOk w) {v : Int} {t : Tim} (hn : was w (tSmp v) = .tim t) : wtake (L32 s) w (tSmp v) = ⟨w.rejects, w.drops, put sLt kt (.tim (tadd 64 t v 1)) w.ser⟩ := by
  have e : (stake (L32 s) (tSmp v) (was w (tSmp v))) = (.tim (tadd 64 t v 1), true) := by rw [hn, stake_t]
  rw [wtake_is (L := L32 s) (show 3 ≤ 32 by decide) h (by rw [e]), e, key_t]
theorem kc_ne : kc ≠ kt := by decide
theorem WOk.put_c {w : Win} (h : WOk w) {r d : Nat} {n : Int} (hn : 0 ≤ n) : WOk ⟨r, d, put sLt kc (.num n) w.ser⟩ :=
  ⟨h.up.put sLt_trans sLt_total _ _, fun p hp => by
    rcases mem_put hp with rfl | ⟨hp, _⟩
    · exact Or.inl rfl
    · exact h.keys p hp, fun s hs => by
    rw [getE_put, if_pos rfl] at hs
    cases hs
    exact ⟨n, hn, rfl⟩, fun s hs => by
    rw [getE_put, if_neg (fun e => kc_ne e.symm)] at hs
    exact h.t s hs⟩
theorem WOk.put_t {w : Win} (h : WOk w) {r d : Nat} {t : Tim} (hn : TOk t) : WOk ⟨r, d, put sLt kt (.tim t) w.ser⟩ :=
  ⟨h.up.put sLt_trans sLt_total _ _, fun p hp => by
    rcases mem_put hp with rfl | ⟨hp, _⟩
    · exact Or.inr rfl
    · exact h.keys p hp, fun s hs => by
    rw [getE_put, if_neg kc_ne] at hs
    exact h.c s hs, fun s hs => by
    rw [getE_put, if_pos rfl] at hs
    cases hs
    exact ⟨t, hn, rfl⟩⟩
theorem bnd_pos {n : Int} (h : 0 ≤ n) : 0 ≤ bnd n := by
  simp only [bnd, top]
  omega
theorem WOk.take {s : Nat} {w : Win} (h : WOk w) {m : Smp} (hm : U m) : WOk (wtake (L32 s) w m) := by
  rcases hm with ⟨v, hv, rfl⟩ | ⟨v, hv, rfl⟩
  · obtain ⟨n, hn, e⟩ := was_c h v
    rw [take_c h e]
    exact h.put_c (bnd_pos (by omega))
  · obtain ⟨t, ht, e⟩ := was_t h v
    rw [take_t h e]
    exact h.put_t (ht.add hv)
theorem WOk.zero : WOk win0 := ⟨List.Pairwise.nil, by simp [win0], by simp [win0, getE], by simp [win0, getE]⟩
end Go.Proofs.YtmkidefdegaamaaGreatDoor.Wm
namespace Go.Proofs.YtmkidefdegaamaaGreatDoor.Wi
open Go.RowKit Go.Maps Mem Foot Im Wm Hk Hb Hi Hn Plainw Cq Hs Sh Readw
theorem str_add (a b : ByteArray) : Bytes.B (a ++ b) = Bytes.B a ++ Bytes.B b := Bytes.B_append a b
set_option maxRecDepth 10000 in
set_option maxHeartbeats 2000000 in
theorem keyW (nb kb wb : ByteArray) (sg : Bool) (v r : Int) (lo : Nat) (ls : List Bs) (sa : Option Addr) (sl sc : Nat) (w : World) (hst : Tagw.Strs lo w (.slice sa sl sc) ls) (hl : ls.length ≤ 4) (hz : (Lib.join ls [44]).length ≤ 1000) (h1 : nb.size ≤ 1000) (h2 : kb.size ≤ 1000) :
    Calls Tryz.prog 118 #[smp nb kb sg v wb r (.slice sa sl sc)] w fun e w' => (∃ z, e = .returned (.string z) ∧ Bytes.B z = Bytes.B nb ++ [124] ++ Bytes.B kb ++ Plain.pt ls) ∧ Below w.heap.size w w' := by
  unfold smp
  have hN := Sits.new w 172 #[.string nb, .string kb, .bool sg, .int .i64 v, .string wb, .int .i64 r, .slice sa sl sc]
  have hB := below_new (w := w) (.cells #[.string nb, .string kb, .bool sg, .int .i64 v, .string wb, .int .i64 r, .slice sa sl sc] 172)
  have hpt : (Plain.pt ls).length ≤ 1002 := by
    unfold Plain.pt
    split <;> simp <;> omega
  go_enter Tryz.func118, Tryz.ntmps118
  go_wp2_with fail
  generalize w.alloc (.cells #[.string nb, .string kb, .bool sg, .int .i64 v, .string wb, .int .i64 r, .slice sa sl sc] 172) = w1 at *
  obtain ⟨B, hBe⟩ : ∃ B, w.heap.size = B := ⟨_, rfl⟩
  rw [hBe] at hN
  rw [hBe]
  have C : ∀ (j : Nat) u, #[Value.string nb, .string kb, .bool sg, .int .i64 v, .string wb, .int .i64 r, .slice sa sl sc][j]? = some u → ∀ s : Bw w1, s.val.cell? ⟨B, j, none⟩ = some u := fun j u hu s => (hN.below s.is hN.lt).cell j _ hu
  have C0 := C 0 _ rfl
  have C1 := C 1 _ rfl
  have C2 := C 2 _ rfl
  have C3 := C 3 _ rfl
  have C4 := C 4 _ rfl
  have C5 := C 5 _ rfl
  have C6 := C 6 _ rfl
  have HT := hide (fun s : Bw w1 => call_cls (v := .string ⟨(Plain.pt ls).toArray⟩) ((Plainv.plainTags nb kb wb sg v r lo ls (.slice sa sl sc) s.val ((hst.below hB).below s.is) (by omega) (by omega)).mono fun e w' ⟨⟨z, h1, h2, _⟩, h3⟩ => ⟨by
    have : z = ⟨(Plain.pt ls).toArray⟩ := Bytes.B_inj (by rw [h2]; rfl)
    rw [h1, this], h3⟩))
  have HB := hide hB
  have hts : (⟨(Plain.pt ls).toArray⟩ : ByteArray).size ≤ 1002 := by rw [Bytes.size_B]; exact hpt
  clear C hN hB hst
  refine region_cls (by kernel_rfl) (by kernel_rfl) ?_
  repeat (first
    | go_big_quiet_skip
    | (go_big_quiet_want; go_big_quiet_op; first | go_big_quiet_on | (apply Exists.intro; refine ⟨fun _ => ?_, ?_⟩; exact HT.out _; go_big_quiet_on)))
  refine wpQuiet_nil ?_
  rintro _ ⟨s, rfl⟩
  go_wp2_with fail
  go_ret
  refine ⟨⟨_, rfl, ?_⟩, HB.out.trans (s.is.mono HB.out.size)⟩
  rw [str_add, str_add, str_add]
  rfl
theorem SeAt.nodup {w : World} {L : Lim} {k : Bs} {g : Gh} {s : Ser} (h : SeAt w L k g s) : (gf g s).Nodup := by
  cases s with
  | num n => simp [gf]
  | set ws =>
    have e1 : g.X ≠ g.A := sits_ne h.1 h.2.head (by decide)
    have e2 : g.X ≠ g.b := map_sits h.2.map h.1
    have e3 : g.A ≠ g.b := map_sits h.2.map h.2.head
    simp [gf, e1, e2, e3]
  | tim t =>
    have e1 : g.X ≠ g.A := sits_ne h.1 h.2.head (by decide)
    have e2 : g.X ≠ g.S := sits_ne h.1 h.2.sk.head (by decide)
    have e3 : g.A ≠ g.S := sits_ne h.2.head h.2.sk.head (by decide)
    have e4 : g.X ≠ g.b := map_sits h.2.sk.map h.1
    have e5 : g.A ≠ g.b := map_sits h.2.sk.map h.2.head
    have e6 : g.S ≠ g.b := map_sits h.2.sk.map h.2.sk.head
    simp [gf, e1, e2, e3, e4, e5, e6]
/-! ### Windows -/
/-- Where a window lies, and its configuration. -/
structure WI where
  P : Nat
  M : Nat
  R : Nat
  bs : List Nat
  c : Fin 6 → Int
abbrev Ent := Bs × (Gh × Ser)
def serOf (E : List Ent) : List (Bs × Ser) := E.map fun p => (p.1, p.2.2)
def ptrOf (E : List Ent) : List (Bs × Nat) := E.map fun p => (p.1, p.2.1.X)
def efoot (E : List Ent) : List Nat := E.flatMap fun p => gf p.2.1 p.2.2
/-- What it may write. -/
def wfoot (p : WI) (E : List Ent) : List Nat := (p.P :: shf p.M p.R p.bs) ++ efoot E
structure WiAt (w : World) (p : WI) (L : Lim) (rj dr : Nat) (E : List Ent) : Prop where
  head : Sits w p.P 113 #[.int .i64 (p.c 0), .int .i64 (p.c 1), .int .i64 (p.c 2), .int .i64 (p.c 3), .int .i64 (p.c 4), .int .i64 (p.c 5), .pointer (some ⟨p.M, 0, none⟩), .int .i64 (rj : Int), .int .i64 (dr : Int)]
  sh : ShAt w p.M p.R p.bs (ptrOf E)
  ser : ∀ x ∈ E, SeAt w L x.1 x.2.1 x.2.2
  apart : (wfoot p E).Nodup
  c1 : p.c 1 = L.series
  c2 : p.c 2 = L.sets
  c3 : p.c 3 = L.buckets
theorem map_ins {κ β γ : Type} {lt : κ → κ → Bool} (f : β → γ) (x : κ × β) (l : List (κ × β)) : (ins lt x l).map (fun p => (p.1, f p.2)) = ins lt (x.1, f x.2) (l.map fun p => (p.1, f p.2)) := by
  induction l with
  | nil => rfl
  | cons y r ih =>
    rw [ins, List.map_cons, ins]
    by_cases h : lt x.1 y.1 = true
    · simp [h]
    · simp only [h, Bool.false_eq_true, if_false, List.map_cons]
      rw [ih]
theorem map_del {κ β γ : Type} [DecidableEq κ] (f : β → γ) (k : κ) (l : List (κ × β)) : (del k l).map (fun p => (p.1, f p.2)) = del k (l.map fun p => (p.1, f p.2)) := by
  unfold del
  rw [List.filter_map]
  rfl
theorem map_put {κ β γ : Type} [DecidableEq κ] {lt : κ → κ → Bool} (f : β → γ) (k : κ) (b : β) (l : List (κ × β)) : (put lt k b l).map (fun p => (p.1, f p.2)) = put lt k (f b) (l.map fun p => (p.1, f p.2)) := by
  rw [put, put, map_ins, map_del]
theorem getE_map {κ β γ : Type} [DecidableEq κ] (f : β → γ) (k : κ) (l : List (κ × β)) : getE k (l.map fun p => (p.1, f p.2)) = (getE k l).map f := by
  induction l with
  | nil => rfl
  | cons y r ih =>
    rw [List.map_cons]
    by_cases h : y.1 = k
    · rw [getE_cons_eq (x := (y.1, f y.2)) h, getE_cons_eq h]
      rfl
    · rw [getE_cons_ne (x := (y.1, f y.2)) h, getE_cons_ne h, ih]
theorem up_map {κ β γ : Type} {lt : κ → κ → Bool} (f : β → γ) {l : List (κ × β)} : Up lt (l.map fun p => (p.1, f p.2)) ↔ Up lt l := by
  unfold Up
  rw [List.pairwise_map]
theorem gf_stake (L : Lim) (m : Opts.Smp) (g : Gh) (s : Ser) : gf g (stake L m s).1 = gf g s := by
  cases s with
  | num n => rfl
  | tim t => rfl
  | set ws =>
    simp only [stake]
    split
    · rfl
    · split <;> rfl
theorem WiAt.off {F : List Nat} {w w' : World} {p : WI} {L : Lim} {rj dr : Nat} {E : List Ent} (h : WiAt w p L rj dr E) (ho : Off F w w') (hF : ∀ x ∈ wfoot p E, x ∉ F) : WiAt w' p L rj dr E :=
  ⟨Foot.Sits.off h.head ho (hF _ (by simp [wfoot])), h.sh.off ho (fun x hx => hF x (by simp only [wfoot, List.mem_append, List.mem_cons]; exact Or.inl (Or.inr hx))),
    fun x hx => (h.ser x hx).off ho (fun y hy => hF y (by simp only [wfoot, List.mem_append, efoot, List.mem_flatMap]; exact Or.inr ⟨x, hx, hy⟩)), h.apart, h.c1, h.c2, h.c3⟩
theorem WiAt.keep {w w' : World} {p : WI} {L : Lim} {rj dr : Nat} {E : List Ent} (h : WiAt w p L rj dr E) (hb : Below w.heap.size w w') : WiAt w' p L rj dr E :=
  h.off (F := []) (Off.of_below hb) (by simp)
theorem WiAt.lt {w : World} {p : WI} {L : Lim} {rj dr : Nat} {E : List Ent} (h : WiAt w p L rj dr E) : ∀ x ∈ wfoot p E, x < w.heap.size := by
  intro x hx
  simp only [wfoot, List.mem_append, List.mem_cons, efoot, List.mem_flatMap] at hx
  rcases hx with (rfl | hx) | ⟨y, hy, hx⟩
  · exact h.head.lt
  · exact h.sh.lt x hx
  · exact (h.ser y hy).lt x hx
theorem efoot_perm {E E' : List Ent} (h : E.Perm E') : (efoot E).Perm (efoot E') := h.flatMap_right _
theorem ptr_length (E : List Ent) : (ptrOf E).length = E.length := by simp [ptrOf]
theorem ser_length (E : List Ent) : (serOf E).length = E.length := by simp [serOf]
theorem up_ser {E : List Ent} : Up sLt (serOf E) ↔ Up sLt E := up_map (f := fun q : Gh × Ser => q.2)
theorem up_ptr {E : List Ent} : Up sLt (ptrOf E) ↔ Up sLt E := up_map (f := fun q : Gh × Ser => q.1.X)
theorem get_ser (k : Bs) (E : List Ent) : getE k (serOf E) = (getE k E).map (·.2) := getE_map (fun q : Gh × Ser => q.2) k E
theorem get_ptr (k : Bs) (E : List Ent) : getE k (ptrOf E) = (getE k E).map (·.1.X) := getE_map (fun q : Gh × Ser => q.1.X) k E
theorem put_ser (k : Bs) (q : Gh × Ser) (E : List Ent) : serOf (put sLt k q E) = put sLt k q.2 (serOf E) := map_put (fun q : Gh × Ser => q.2) k q E
theorem put_ptr (k : Bs) (q : Gh × Ser) (E : List Ent) : ptrOf (put sLt k q E) = put sLt k q.1.X (ptrOf E) := map_put (fun q : Gh × Ser => q.1.X) k q E
/-- Put where it is: the places stay. -/
theorem ptr_same {k : Bs} {g : Gh} {s s' : Ser} {E : List Ent} (hu : Up sLt E) (h : getE k E = some (g, s)) : ptrOf (put sLt k (g, s') E) = ptrOf E := by
  rw [put_ptr]
  refine up_ext sLt_trans sLt_irr ((up_ptr.2 hu).put sLt_trans sLt_total _ _) (up_ptr.2 hu) fun k' => ?_
  rw [getE_put]
  by_cases e : k' = k
  · subst e
    rw [if_pos rfl, get_ptr, h]
    rfl
  · rw [if_neg e]
/-- One series has turned. -/
theorem WiAt.turned {w w' : World} {p : WI} {L : Lim} {rj dr : Nat} {E : List Ent} {k : Bs} {g : Gh} {s s' : Ser} (h : WiAt w p L rj dr E) (hu : Up sLt E) (hk : getE k E = some (g, s)) (ho : Off (gf g s) w w') (hs : SeAt w' L k g s') (hg : gf g s' = gf g s) :
    WiAt w' p L rj dr (put sLt k (g, s') E) ∧ Off (wfoot p E) w w' ∧ ∀ x, x ∈ wfoot p (put sLt k (g, s') E) ↔ x ∈ wfoot p E := by
  obtain ⟨r, p1, p2⟩ := put_perm_some (lt := sLt) (b' := (g, s')) (Up.nodup sLt_irr hu) hk
  have hp : (efoot (put sLt k (g, s') E)).Perm (efoot E) := by
    refine (efoot_perm p2).trans (List.Perm.trans ?_ (efoot_perm p1).symm)
    have e : efoot ((k, (g, s')) :: r) = efoot ((k, (g, s)) :: r) := by
      simp only [efoot, List.flatMap_cons]
      rw [hg]
    rw [e]
  have hwp : (wfoot p (put sLt k (g, s') E)).Perm (wfoot p E) := hp.append_left _
  have hnd := h.apart
  have hnd2 : (wfoot p ((k, (g, s)) :: r)).Nodup := ((efoot_perm p1).append_left (p.P :: shf p.M p.R p.bs)).nodup_iff.1 hnd
  rw [wfoot, List.nodup_append] at hnd2
  obtain ⟨_, n2, n3⟩ := hnd2
  simp only [efoot, List.flatMap_cons] at n2 n3
  rw [List.nodup_append] at n2
  obtain ⟨_, _, n4⟩ := n2
  have hA : ∀ x, x ∈ p.P :: shf p.M p.R p.bs → x ∉ gf g s := fun x hx hx' => n3 x hx x (List.mem_append_left _ hx') rfl
  refine ⟨⟨Foot.Sits.off h.head ho (hA _ (List.mem_cons_self ..)), ?_, fun x hx => ?_, hwp.nodup_iff.2 hnd, h.c1, h.c2, h.c3⟩, ho.mono fun x _ hx => ?_, fun x => hwp.mem_iff⟩
  · rw [ptr_same hu hk]
    exact h.sh.off ho fun x hx => hA x (List.mem_cons_of_mem _ hx)
  · rcases mem_put hx with rfl | ⟨hx, hne⟩
    · exact hs
    · have hxr : x ∈ r := by
        rcases List.mem_cons.1 (p1.mem_iff.1 hx) with e | e
        · rw [e] at hne
          exact absurd rfl hne
        · exact e
      refine (h.ser x hx).off ho fun y hy hy' => n4 y hy' y (List.mem_flatMap.2 ⟨x, hxr, hy⟩) rfl
  · simp only [wfoot, List.mem_append]
    exact Or.inr ((efoot_perm p1).mem_iff.2 (by simp only [efoot, List.flatMap_cons, List.mem_append]; exact Or.inl hx))
/-- A series more. -/
theorem WiAt.more {w w1 w' : World} {p : WI} {L : Lim} {rj dr : Nat} {E : List Ent} {k : Bs} {g : Gh} {s : Ser} (h : WiAt w p L rj dr E) (hk : getE k E = none) (hb : Below w.heap.size w w1) (hs : SeAt w1 L k g s) (hg : ∀ x ∈ gf g s, w.heap.size ≤ x) (hgn : (gf g s).Nodup)
    (ho : Off (shf p.M p.R p.bs) w1 w') (hsh : ShAt w' p.M p.R p.bs (put sLt k g.X (ptrOf E))) :
    WiAt w' p L rj dr (put sLt k (g, s) E) ∧ Off (wfoot p E) w w' ∧ ∀ x, x ∈ wfoot p (put sLt k (g, s) E) → x ∈ wfoot p E ∨ w.heap.size ≤ x := by
  have p2 := put_perm_none (lt := sLt) (b' := (g, s)) hk
  have hwp : (wfoot p (put sLt k (g, s) E)).Perm ((p.P :: shf p.M p.R p.bs) ++ (gf g s ++ efoot E)) := by
    refine List.Perm.append_left _ ((efoot_perm p2).trans ?_)
    simp only [efoot, List.flatMap_cons]
    exact List.Perm.refl _
  have hnd := h.apart
  have hlt := h.lt
  have hnew : ∀ x ∈ gf g s, x ∉ wfoot p E := fun x hx hx' => by
    have h1 := hg x hx
    have h2 := hlt x hx'
    omega
  have hb1 := h.keep hb
  rw [wfoot, List.nodup_append] at hnd
  obtain ⟨n1, n2, n3⟩ := hnd
  have hsub : ∀ x, x ∈ shf p.M p.R p.bs → x ∈ wfoot p E := fun x hx => by
    simp only [wfoot, List.mem_append, List.mem_cons]
    exact Or.inl (Or.inr hx)
  refine ⟨⟨Foot.Sits.off hb1.head ho ?_, by rw [put_ptr]; exact hsh, fun x hx => ?_, ?_, h.c1, h.c2, h.c3⟩, (Off.of_below hb).trans (ho.mono fun x _ hx => hsub x hx), fun x hx => ?_⟩
  · exact (List.nodup_cons.1 n1).1
  · rcases mem_put hx with rfl | ⟨hx, _⟩
    · exact hs.off ho fun y hy hy' => hnew y hy (hsub y hy')
    · exact (hb1.ser x hx).off ho fun y hy hy' => n3 y (List.mem_cons_of_mem _ hy') y (List.mem_flatMap.2 ⟨x, hx, hy⟩) rfl
  · rw [hwp.nodup_iff, List.nodup_append]
    refine ⟨n1, ?_, fun a ha b hb' => ?_⟩
    · rw [List.nodup_append]
      refine ⟨hgn, n2, fun a ha b hb' e => hnew a ha ?_⟩
      rw [e, wfoot]
      exact List.mem_append_right _ hb'
    · rcases List.mem_append.1 hb' with hb' | hb'
      · intro e
        exact hnew b hb' (by rw [← e, wfoot]; exact List.mem_append_left _ ha)
      · exact n3 a ha b hb'
  · rcases List.mem_append.1 (hwp.mem_iff.1 hx) with hx | hx
    · exact Or.inl (by rw [wfoot]; exact List.mem_append_left _ hx)
    · rcases List.mem_append.1 hx with hx | hx
      · exact Or.inr (hg x hx)
      · exact Or.inl (by rw [wfoot]; exact List.mem_append_right _ hx)
end Go.Proofs.YtmkidefdegaamaaGreatDoor.Wi
namespace Go.Proofs.YtmkidefdegaamaaGreatDoor.Wi
open Go.RowKit Go.Maps Mem Foot Im Wm Hk Hb Hi Hn Plainw Cq Hs Sh Readw
theorem cells9 {w : World} {b : Nat} {t : TypeId} {v0 v1 v2 v3 v4 v5 v6 v7 v8 : Value} (h : Sits w b t #[v0, v1, v2, v3, v4, v5, v6, v7, v8]) :
    w.cell? ⟨b, 0, none⟩ = some v0 ∧ w.cell? ⟨b, 1, none⟩ = some v1 ∧ w.cell? ⟨b, 2, none⟩ = some v2 ∧ w.cell? ⟨b, 3, none⟩ = some v3 ∧ w.cell? ⟨b, 4, none⟩ = some v4 ∧ w.cell? ⟨b, 5, none⟩ = some v5 ∧ w.cell? ⟨b, 6, none⟩ = some v6 ∧ w.cell? ⟨b, 7, none⟩ = some v7 ∧ w.cell? ⟨b, 8, none⟩ = some v8 :=
  ⟨h.cell 0 _ rfl, h.cell 1 _ rfl, h.cell 2 _ rfl, h.cell 3 _ rfl, h.cell 4 _ rfl, h.cell 5 _ rfl, h.cell 6 _ rfl, h.cell 7 _ rfl, h.cell 8 _ rfl⟩
/-- A sample in the program's hands. -/
structure Held (w : World) (l : Bs) (m : Opts.Smp) (lo : Nat) (nb kb wb : ByteArray) (sa : Option Addr) (sl sc : Nat) : Prop where
  rd : Opts.rd l = some m
  name : Bytes.B nb = m.name
  kind : Bytes.B kb = m.kind
  word : Bytes.B wb = m.word
  tags : Tagw.Strs lo w (.slice sa sl sc) m.tags
theorem Held.keep {w w' : World} {l : Bs} {m : Opts.Smp} {lo : Nat} {nb kb wb : ByteArray} {sa : Option Addr} {sl sc : Nat} (h : Held w l m lo nb kb wb sa sl sc) (hb : Below w.heap.size w w') : Held w' l m lo nb kb wb sa sl sc :=
  ⟨h.rd, h.name, h.kind, h.word, h.tags.below hb⟩
theorem heldKey {w : World} {l : Bs} {m : Opts.Smp} {lo : Nat} {nb kb wb : ByteArray} {sa : Option Addr} {sl sc : Nat} (h : Held w l m lo nb kb wb sa sl sc) :
    Calls Tryz.prog 118 #[smp nb kb m.signed m.value wb m.rate (.slice sa sl sc)] w fun e w' => (∃ z, e = .returned (.string z) ∧ Bytes.B z = key m ∧ z.size ≤ 64) ∧ Below w.heap.size w w' := by
  obtain ⟨h1, h2, _, _, _, h5, h6⟩ := Bounds.rd_short h.rd
  have hj := Bounds.join_len m.tags h6
  refine (keyW nb kb wb m.signed m.value m.rate lo m.tags sa sl sc w h.tags h5 (by omega) (by rw [Bytes.size_B, h.name]; omega) (by rw [Bytes.size_B, h.kind]; omega)).mono ?_
  rintro e w' ⟨⟨z, he, hz⟩, hb⟩
  have e1 : Bytes.B z = key m := by rw [hz, h.name, h.kind]; rfl
  exact ⟨⟨z, he, e1, by rw [Bytes.size_B, e1]; exact key_len h.rd⟩, hb⟩
/-- What seriesOf leaves. -/
def Found (w w' : World) (e : Ending) (p : WI) (L : Lim) (rj dr : Nat) (E : List Ent) (m : Opts.Smp) : Prop :=
  (∃ g s, getE (key m) E = some (g, s) ∧ e = .returned (.tuple #[.pointer (some ⟨g.X, 0, none⟩), .bool true]) ∧ Below w.heap.size w w') ∨
  (getE (key m) E = none ∧ L.series ≤ E.length ∧ e = .returned (.tuple #[.pointer none, .bool false]) ∧ Below w.heap.size w w') ∨
  (getE (key m) E = none ∧ E.length < L.series ∧ ∃ g : Gh, e = .returned (.tuple #[.pointer (some ⟨g.X, 0, none⟩), .bool true]) ∧ WiAt w' p L rj dr (put sLt (key m) (g, ser0 m.kind) E) ∧ Off (wfoot p E) w w' ∧ ∀ x, x ∈ wfoot p (put sLt (key m) (g, ser0 m.kind) E) → x ∈ wfoot p E ∨ w.heap.size ≤ x)
set_option maxRecDepth 10000 in
set_option maxHeartbeats 4000000 in
theorem seriesOf (p : WI) (L : Lim) (rj dr : Nat) (E : List Ent) (l : Bs) (m : Opts.Smp) (lo : Nat) (nb kb wb : ByteArray) (sa : Option Addr) (sl sc : Nat) (w : World) (h : WiAt w p L rj dr E) (hu : Up sLt E) (hE : E.length ≤ 32) (hd : Held w l m lo nb kb wb sa sl sc) :
    Calls Tryz.prog 90 #[.pointer (some ⟨p.P, 0, none⟩), smp nb kb m.signed m.value wb m.rate (.slice sa sl sc)] w fun e w' => Found w w' e p L rj dr E m := by
  have HW := hide h
  have HU := hide hu
  have HD := hide hd
  clear h hu hd
  have hN := Sits.new w 172 #[.string nb, .string kb, .bool m.signed, .int .i64 m.value, .string wb, .int .i64 m.rate, .slice sa sl sc]
  have hB := below_new (w := w) (.cells #[.string nb, .string kb, .bool m.signed, .int .i64 m.value, .string wb, .int .i64 m.rate, .slice sa sl sc] 172)
  have hkc := heldKey (HD.out.keep hB)
  obtain ⟨k0, k1, k2, k3, k4, k5, k6⟩ := cells7 hN
  have HB0 := hide hB
  have HN0 := hide hN
  clear hB hN
  unfold smp at hkc ⊢
  go_enter Tryz.func90, Tryz.ntmps90
  go_wp2_with fail
  refine hkc.mono ?_
  clear hkc k0 k1 k2 k3 k4 k5 k6
  rintro e w1 ⟨⟨z, rfl, hz, hzs⟩, hb1⟩
  have HB1 := hide (HB0.out.trans (hb1.mono HB0.out.size))
  have HN1 := hide (HN0.out.below hb1 HN0.out.lt)
  have HW1 := hide (HW.out.keep HB1.out)
  clear HB0 HN0 hb1
  obtain ⟨c0, c1, c2, c3, c4, c5, c6, c7, c8⟩ := cells9 HW1.out.head
  have hget := Sh.get p.M p.R p.bs (ptrOf E) z (by omega) w1 HW1.out.sh
  rw [hz] at hget
  have HZ := hide hz
  clear hz c0 c1 c2 c3 c4 c5 c7 c8
  obtain ⟨B, hBe⟩ : ∃ B, w.heap.size = B := ⟨_, rfl⟩
  have HBE := hide hBe
  rw [hBe] at HN1
  rw [hBe]
  clear hBe
  cases hg : getE (key m) E with
  | some q =>
    obtain ⟨g, s⟩ := q
    have e1 : Im.elemOf pv (.pointer none) (key m) (ptrOf E) = .pointer (some ⟨g.X, 0, none⟩) := by
      unfold Im.elemOf
      rw [get_ptr, hg]
      rfl
    have e2 : Im.has (key m) (ptrOf E) = true := by rw [has_getE, get_ptr, hg]; rfl
    rw [e1, e2] at hget
    have HG := hide hg
    clear hg e1 e2
    go_wp2_with fail
    refine hget.mono ?_
    clear hget
    rintro e w2 ⟨rfl, hb2⟩
    have HB2 := hide (HB1.out.trans (hb2.mono HB1.out.size))
    clear hb2
    go_wp2_with fail
    go_ret2
    exact Or.inl ⟨g, s, HG.out, rfl, HB2.out⟩
  | none =>
    have e1 : Im.elemOf pv (.pointer none) (key m) (ptrOf E) = .pointer none := by
      unfold Im.elemOf
      rw [get_ptr, hg]
      rfl
    have e2 : Im.has (key m) (ptrOf E) = false := by rw [has_getE, get_ptr, hg]; rfl
    rw [e1, e2] at hget
    have HG := hide hg
    clear hg e1 e2
    go_wp2_with fail
    refine hget.mono ?_
    clear hget
    rintro e w2 ⟨rfl, hb2⟩
    have HB2 := hide (HB1.out.trans (hb2.mono HB1.out.size))
    have HN2 := hide (HN1.out.below hb2 HN1.out.lt)
    have HW2 := hide (HW.out.keep HB2.out)
    clear hb2 c6
    go_wp2_with fail
    have C6 : ∀ s : Bw w2, s.val.cell? ⟨p.P, 6, none⟩ = some (.pointer (some ⟨p.M, 0, none⟩)) := fun s => (HW2.out.keep s.is).head.cell 6 _ rfl
    have C1 : ∀ s : Bw w2, s.val.cell? ⟨p.P, 1, none⟩ = some (.int .i64 (p.c 1)) := fun s => (HW2.out.keep s.is).head.cell 1 _ rfl
    have HLn := hide (fun s : Bw w2 => call_cls (v := .int .i64 (E.length : Int)) ((Sh.len p.M p.R p.bs (ptrOf E) s.val (HW2.out.keep s.is).sh).mono fun e w' ⟨h1, h2⟩ => ⟨by rw [h1, ptr_length], by rw [h2]; exact Below.refl _ _⟩))
    have hc1 := HW2.out.c1
    refine region_cls (by kernel_rfl) (by kernel_rfl) ?_
    repeat (first
      | go_big_quiet_skip
      | (go_big_quiet_want; go_big_quiet_op; first | go_big_quiet_on | (apply Exists.intro; refine ⟨fun _ => ?_, ?_⟩; exact HLn.out _; go_big_quiet_on)))
    refine wpQuiet_nil ?_
    rintro _ ⟨s, rfl⟩
    have HB3 := hide (HB2.out.trans (s.is.mono HB2.out.size))
    have HN3 := hide (HN2.out.below s.is HN2.out.lt)
    have HW3 := hide (HW.out.keep HB3.out)
    clear C6 C1 HLn HB2 HN2 HW2
    generalize s.val = w3 at *
    by_cases hle : L.series ≤ E.length
    · have hz1 : (L.series : Int) ≤ (E.length : Int) := by omega
      go_wp2_with fail
      go_ret2
      exact Or.inr (Or.inl ⟨HG.out, hle, rfl, HB3.out⟩)
    · have hz1 : ¬ (L.series : Int) ≤ (E.length : Int) := by omega
      have hlt : E.length < L.series := by omega
      go_wp2_with fail
      have D : ∀ (j : Nat) u, #[Value.int .i64 (p.c 0), .int .i64 (p.c 1), .int .i64 (p.c 2), .int .i64 (p.c 3), .int .i64 (p.c 4), .int .i64 (p.c 5)][j]? = some u → ∀ s : Bw w3, s.val.cell? ⟨p.P, j, none⟩ = some u := fun j u hu s => (HW3.out.keep s.is).head.cell j _ (by
        match j, hu with
        | 0, hu => exact hu
        | 1, hu => exact hu
        | 2, hu => exact hu
        | 3, hu => exact hu
        | 4, hu => exact hu
        | 5, hu => exact hu
        | j + 6, hu => simp at hu)
      have D0 := D 0 _ rfl
      have D1 := D 1 _ rfl
      have D2 := D 2 _ rfl
      have D3 := D 3 _ rfl
      have D4 := D 4 _ rfl
      have D5 := D 5 _ rfl
      have DB : ∀ s : Bw w3, s.val.cell? ⟨B, 1, none⟩ = some (.string kb) := fun s => (HN3.out.below s.is HN3.out.lt).cell 1 _ rfl
      clear D hc1
      refine region_pre 6 (by kernel_rfl) (by kernel_rfl) ?_
      simp only [List.take_succ_cons, List.take_zero, List.drop_succ_cons, List.drop_zero]
      repeat (first
        | go_big_quiet_skip
        | (go_big_quiet_want; go_big_quiet_op; go_big_quiet_on))
      refine wpQuiet_nil ?_
      intro s4
      have HB4 := hide (HB3.out.trans (s4.is.mono HB3.out.size))
      clear D0 D1 D2 D3 D4 D5 DB HB3 HN3 HW3
      generalize s4.val = w4 at *
      have HW4 := hide (HW.out.keep HB4.out)
      have hnew := newSeries kb p.c L l m HD.out.rd HD.out.kind HW4.out.c2 HW4.out.c3 w4
      unfold cfg at hnew
      go_wp2_with fail
      refine hnew.mono ?_
      clear hnew
      rintro e w5 ⟨g, rfl, hse, hgf, hb5⟩
      have HB5 := hide hb5
      have HSE := hide hse
      have HGF := hide hgf
      have HW5 := hide (HW4.out.keep hb5)
      obtain ⟨c0, c1, c2, c3, c4, c5, c6, c7, c8⟩ := cells9 HW5.out.head
      have hput := Sh.put_ p.M p.R p.bs (ptrOf E) z g.X (by omega) w5 HW5.out.sh (up_ptr.2 HU.out) (by rw [HZ.out, get_ptr, HG.out]; rfl) (by rw [ptr_length]; omega)
      rw [HZ.out] at hput
      clear hse hgf hb5 c0 c1 c2 c3 c4 c5 c7 c8
      go_wp2_with fail
      refine hput.mono ?_
      clear hput
      rintro e w6 ⟨rfl, ho6, hs6⟩
      have hmore := WiAt.more (HW4.out) HG.out HB5.out HSE.out HGF.out (Wi.SeAt.nodup HSE.out) ho6 hs6
      have HM := hide hmore
      clear hmore ho6 hs6 c6
      go_wp2_with fail
      go_ret2
      obtain ⟨m1, m2, m3⟩ := HM.out
      refine Or.inr (Or.inr ⟨HG.out, hlt, g, rfl, m1, (Off.of_below HB4.out).trans m2, fun x hx => ?_⟩)
      have := HB4.out.size
      exact (m3 x hx).imp id (fun h => by omega)
end Go.Proofs.YtmkidefdegaamaaGreatDoor.Wi
