/- A new window; datagrams taken one behind the other. -/
import Derived.Test.YtenegfafjjknoaaGreatDoorWv
import Derived.Deep.RegionWith
namespace Go.Proofs.YtenegfafjjknoaaGreatDoor.Wi
open Go.RowKit Go.Maps Mem Foot Im Wm Hk Hb Hi Hn Plainw Cq Hs Sh Readw

def limOf (c : Fin 6 → Int) : Lim := ⟨(c 1).toNat, (c 2).toNat, (c 3).toNat⟩

/-- A configuration. -/
structure COk (c : Fin 6 → Int) : Prop where
  w : 1 ≤ c 0 ∧ c 0 ≤ 1000
  s : 1 ≤ c 1 ∧ c 1 ≤ 32
  t : 1 ≤ c 2 ∧ c 2 ≤ 16
  b : 2 ≤ c 3 ∧ c 3 ≤ 64
  n : 1 ≤ c 4 ∧ c 4 ≤ 16
  g : 64 ≤ c 5 ∧ c 5 ≤ 4096

theorem COk.lim {c : Fin 6 → Int} (h : COk c) : LOk (limOf c) := by
  have h1 := h.s
  have h2 := h.t
  have h3 := h.b
  exact ⟨by simp only [limOf]; omega, by simp only [limOf]; omega, by simp only [limOf]; omega, by simp only [limOf]; omega⟩

theorem cells6 {w : World} {b : Nat} {t : TypeId} {v0 v1 v2 v3 v4 v5 : Value} (h : Sits w b t #[v0, v1, v2, v3, v4, v5]) :
    w.cell? ⟨b, 0, none⟩ = some v0 ∧ w.cell? ⟨b, 1, none⟩ = some v1 ∧ w.cell? ⟨b, 2, none⟩ = some v2 ∧ w.cell? ⟨b, 3, none⟩ = some v3 ∧ w.cell? ⟨b, 4, none⟩ = some v4 ∧ w.cell? ⟨b, 5, none⟩ = some v5 :=
  ⟨h.cell 0 _ rfl, h.cell 1 _ rfl, h.cell 2 _ rfl, h.cell 3 _ rfl, h.cell 4 _ rfl, h.cell 5 _ rfl⟩

theorem made_at {w w1 : World} {M R : Nat} {bs : List Nat} {c : Fin 6 → Int} (hc : COk c) (hb : Below w.heap.size w w1) (hs : ShAt w1 M R bs []) (hf : ∀ x ∈ shf M R bs, w.heap.size ≤ x) (hnd : (shf M R bs).Nodup) :
    WiAt (w1.alloc (.cells #[.int .i64 (c 0), .int .i64 (c 1), .int .i64 (c 2), .int .i64 (c 3), .int .i64 (c 4), .int .i64 (c 5), .pointer (some ⟨M, 0, none⟩), .int .i64 0, .int .i64 0] 137)) ⟨w1.heap.size, M, R, bs, c⟩ (limOf c) 0 0 [] ∧
    (∀ x ∈ wfoot ⟨w1.heap.size, M, R, bs, c⟩ [], w.heap.size ≤ x) ∧ Below w.heap.size w (w1.alloc (.cells #[.int .i64 (c 0), .int .i64 (c 1), .int .i64 (c 2), .int .i64 (c 3), .int .i64 (c 4), .int .i64 (c 5), .pointer (some ⟨M, 0, none⟩), .int .i64 0, .int .i64 0] 137)) := by
  have h1 := hc.s
  have h2 := hc.t
  have h3 := hc.b
  have hz := hb.size
  refine ⟨⟨Sits.new _ _ _, hs.keep (below_new _), by simp, ?_, by simp only [limOf]; omega, by simp only [limOf]; omega, by simp only [limOf]; omega⟩, fun x hx => ?_, hb.alloc hb.size _⟩
  · simp only [wfoot, efoot, List.flatMap_nil, List.append_nil, List.nodup_cons]
    refine ⟨fun hx => ?_, hnd⟩
    have := hs.lt _ hx
    omega
  · simp only [wfoot, efoot, List.flatMap_nil, List.append_nil, List.mem_cons] at hx
    rcases hx with rfl | hx
    · exact hz
    · exact hf x hx

theorem sh_nodup {w : World} {M R : Nat} {bs : List Nat} {ent : List (Bs × Nat)} (h : ShAt w M R bs ent) : (shf M R bs).Nodup := by
  simp only [shf, List.nodup_cons, List.mem_cons, not_or]
  refine ⟨⟨sits_ne h.head h.row (by decide), fun hm => ?_⟩, fun hm => ?_, h.nodup⟩
  · obtain ⟨i, hi⟩ := List.getElem?_of_mem hm
    exact map_sits (h.maps i M hi) h.head rfl
  · obtain ⟨i, hi⟩ := List.getElem?_of_mem hm
    exact map_sits (h.maps i R hi) h.row rfl

set_option maxRecDepth 10000 in
set_option maxHeartbeats 1000000 in
theorem newW (c : Fin 6 → Int) (hc : COk c) (w : World) :
    Calls Tryz.prog 88 #[cfg c] w fun e w' => ∃ p : WI, e = .returned (.pointer (some ⟨p.P, 0, none⟩)) ∧ p.c = c ∧ WiAt w' p (limOf c) 0 0 [] ∧ (∀ x ∈ wfoot p [], w.heap.size ≤ x) ∧ Below w.heap.size w w' := by
  have hN := Sits.new w 31 #[.int .i64 (c 0), .int .i64 (c 1), .int .i64 (c 2), .int .i64 (c 3), .int .i64 (c 4), .int .i64 (c 5)]
  have hB := below_new (w := w) (.cells #[.int .i64 (c 0), .int .i64 (c 1), .int .i64 (c 2), .int .i64 (c 3), .int .i64 (c 4), .int .i64 (c 5)] 31)
  have hn := hc.n
  obtain ⟨n, hcn⟩ : ∃ n : Nat, c 4 = (n : Int) := ⟨(c 4).toNat, by omega⟩
  have HCN := hide hcn
  have hn1 : 1 ≤ n := by omega
  have hn2 : n ≤ 16 := by omega
  have HC := hide hc
  unfold cfg
  go_enter Tryz.func88, Tryz.ntmps88
  clear hcn hn hc
  go_wp2_with fail
  generalize w.alloc (.cells #[.int .i64 (c 0), .int .i64 (c 1), .int .i64 (c 2), .int .i64 (c 3), .int .i64 (c 4), .int .i64 (c 5)] 31) = w1 at *
  obtain ⟨B, hBe⟩ : ∃ B, w.heap.size = B := ⟨_, rfl⟩
  have HB := hide hB
  rw [hBe] at hN
  rw [hBe]
  have HN := hide hN
  obtain ⟨c0, c1, c2, c3, c4, c5⟩ := cells6 hN
  have hnew := Sh.new_ n hn1 hn2 w1.drew
  rw [← HCN.out] at hnew
  have HNE := hide hnew
  clear hB hN hBe hnew
  go_region_with (go_at_call 140; refine HNE.out.mono ?_; rintro e w3 ⟨bs, rfl, hbl, hsh, hft, hb3⟩; have hN3 := HN.out.below (show Below w1.heap.size w1 w3 from ((Below.refl w1.heap.size w1).drew).trans hb3) HN.out.lt; obtain ⟨d0, d1, d2, d3, d4, d5⟩ := cells6 hN3)
  all_goals
    have HSH := hide hsh
    have HFT := hide hft
    have HB3 := hide hb3
    clear hsh hft hb3
    go_wp2_with fail
    go_ret
    have hb' : Below w.heap.size w w3 := HB.out.trans ((show Below w1.heap.size w1 w3 from ((Below.refl w1.heap.size w1).drew).trans HB3.out).mono HB.out.size)
    refine ⟨⟨w3.heap.size, w1.heap.size + 1, w1.heap.size, bs, c⟩, rfl, rfl, made_at HC.out hb' HSH.out (fun x hx => ?_) (sh_nodup HSH.out)⟩
    have h1 := HFT.out x hx
    have h2 := HB.out.size
    have h3 : w1.drew.heap.size = w1.heap.size := rfl
    omega

end Go.Proofs.YtenegfafjjknoaaGreatDoor.Wi
