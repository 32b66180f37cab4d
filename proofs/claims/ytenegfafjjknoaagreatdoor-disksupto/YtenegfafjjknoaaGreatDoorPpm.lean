/- A pair of disks in memory: the program's, the document's, the lists that came out. pick and whole. The lists of a pair: what grows. The lists of a pair: before and behind the second append. -/
import Derived.Test.YtenegfafjjknoaaGreatDoorDha
import Derived.Test.YtenegfafjjknoaaGreatDoorDra
namespace Go.Proofs.YtenegfafjjknoaaGreatDoor.Pp
open Go.RowKit Mem Foot Dm Dh Dr

/-- Where a pair lies. -/
structure PI where
  bx : Nat
  ba : Nat
  cap : Nat
  bs : List Nat
  dx : Nat
  da : Nat
  dcap : Nat
  lv : Value
  gv : Value
  vs : List Value
  gs : List Value

/-- A slice full of a mark. -/
def Marks (w : World) (v : Value) (n : Nat) (z : Int) : Prop := ∃ ao cv, v = .slice ao n cv ∧ (n ≠ 0 → ∃ b cs, ao = some ⟨b, 0, none⟩ ∧ n ≤ cv ∧ Sits w b 3 cs ∧ ∀ j : Nat, j < n → cs[j]? = some (.int .i64 z))

/-- A list that came out, and the same grown: full of its mark. -/
def Ent (w : World) (i : Nat) (v g : Value) : Prop := ∃ n : Nat, n ≤ 1000000000 ∧ Marks w v n (-1 - (i : Int)) ∧ Marks w g (n + 3) (-1 - (i : Int))

structure Pr (w : World) (px : Nat) (S : Dk) (p : PI) : Prop where
  head : Sits w px 59 #[.pointer (some ⟨p.bx, 0, none⟩), .pointer (some ⟨p.dx, 0, none⟩), p.lv, p.gv]
  pd : PD w p.bx S p.ba p.cap p.bs
  rd : RD w p.dx S p.da p.dcap
  lists : w.ownsRow 0 48 1 p.lv p.vs.length p.vs
  grown : w.ownsRow 0 48 1 p.gv p.gs.length p.gs
  len : p.gs.length = p.vs.length
  ent : ∀ (i : Nat) v g, p.vs[i]? = some v → p.gs[i]? = some g → Ent w i v g
  apart : p.lv.ownBlock = none ∨ p.lv.ownBlock ≠ p.gv.ownBlock

/-- What a pair may write. -/
def foot (px : Nat) (S : Dk) (p : PI) : List Nat := px :: (pf p.bx p.ba p.bs ++ rf p.dx p.da S.segs ++ p.lv.ownBlock.toList ++ p.gv.ownBlock.toList)

theorem so {w w' : World} {c : Nat} {F : List Nat} {t : TypeId} {cs : Array Value} (h : Sits w c t cs) (ho : Off F w w') (hc : c ∉ F) : Sits w' c t cs := Foot.Sits.off h ho hc

theorem sits_ne {w : World} {k k' : Nat} {t t' : TypeId} {cs cs' : Array Value} (h : Sits w k t cs) (h' : Sits w k' t' cs') (ht : t ≠ t') : k ≠ k' := by
  intro e
  subst e
  unfold Sits at h h'
  rw [h] at h'
  injection h' with h'
  injection h' with _ h2
  exact ht h2

theorem sits_own {w : World} {e : TypeId} {v : Value} {n k : Nat} {xs : List Value} {size : Nat} (h : w.ownsRow 0 e size v n xs) (hk : v.ownBlock = some k) : ∃ cs, Sits w k e cs := by
  rcases h.2 with ⟨rfl, _⟩ | ⟨g, cap, cur, rfl, _, hg, _⟩
  · simp [Value.ownBlock] at hk
  · simp [Value.ownBlock] at hk
    subst hk
    exact ⟨cur, hg⟩

theorem own_off {F : List Nat} {w w' : World} {e : TypeId} {v : Value} {n : Nat} {xs : List Value} {size : Nat} (h : w.ownsRow 0 e size v n xs) (ho : Off F w w') (hF : ∀ k, v.ownBlock = some k → k ∉ F) : w'.ownsRow 0 e size v n xs := by
  refine ⟨h.1, ?_⟩
  rcases h.2 with h0 | ⟨g, cap, cur, rfl, h1, hg, h2⟩
  · exact Or.inl h0
  · refine Or.inr ⟨g, cap, cur, rfl, h1, ?_, h2⟩
    rw [ho.block g (Array.getElem?_eq_some_iff.1 hg).1 (hF g rfl)]
    exact hg

theorem pf_typed {w : World} {bx ba cap : Nat} {bs : List Nat} {S : Dk} (h : PD w bx S ba cap bs) : ∀ k ∈ pf bx ba bs, ∃ t cs, Sits w k t cs ∧ (t = 101 ∨ t = 146 ∨ t = 149) := by
  intro k hk
  cases bs with
  | nil =>
    rw [pf, List.mem_singleton] at hk
    rw [hk]
    exact ⟨_, _, h.head, Or.inl rfl⟩
  | cons b l =>
    rw [pf, List.mem_cons, List.mem_cons] at hk
    rcases hk with e | e | e
    · rw [e]
      exact ⟨_, _, h.head, Or.inl rfl⟩
    · rw [e]
      obtain ⟨cs, h1, _⟩ := h.arr (by simp)
      exact ⟨_, _, h1, Or.inr (Or.inl rfl)⟩
    · obtain ⟨i, hi⟩ := List.getElem?_of_mem e
      obtain ⟨s, hs⟩ : ∃ s, S.segs[i]? = some s := ⟨_, List.getElem?_eq_getElem (by rw [← h.len]; exact (List.getElem?_eq_some_iff.1 hi).1)⟩
      exact ⟨_, _, h.seg i k s hi hs, Or.inr (Or.inr rfl)⟩

theorem rf_typed {w : World} {dx da cap : Nat} {S : Dk} (h : RD w dx S da cap) : ∀ k ∈ rf dx da S.segs, ∃ t cs, Sits w k t cs ∧ (t = 104 ∨ t = 153) := by
  intro k hk
  by_cases hs : S.segs = []
  · rw [hs, rf, List.mem_singleton] at hk
    rw [hk]
    exact ⟨_, _, h.head, Or.inl rfl⟩
  · obtain ⟨cs, h1, _⟩ := h.arr hs
    have : k = dx ∨ k = da := by
      cases hc : S.segs with
      | nil => exact absurd hc hs
      | cons s l =>
        rw [hc, rf] at hk
        simpa using hk
    rcases this with e | e
    · rw [e]
      exact ⟨_, _, h.head, Or.inl rfl⟩
    · rw [e]
      exact ⟨_, _, h1, Or.inr rfl⟩

theorem pd_off {F : List Nat} {w w' : World} {bx ba cap : Nat} {bs : List Nat} {S : Dk} (h : PD w bx S ba cap bs) (ho : Off F w w') (hF : ∀ k ∈ pf bx ba bs, k ∉ F) : PD w' bx S ba cap bs :=
  ⟨so h.head ho (hF _ (pf_head ..)), h.len, fun hne => by
    obtain ⟨cs, h1, h2⟩ := h.arr hne
    exact ⟨cs, so h1 ho (hF _ (pf_arr hne)), h2⟩, fun i c s hi hS => so (h.seg i c s hi hS) ho (hF _ (pf_seg (List.mem_of_getElem? hi))), h.apart, h.capm⟩

theorem rd_off {F : List Nat} {w w' : World} {dx da cap : Nat} {S : Dk} (h : RD w dx S da cap) (ho : Off F w w') (hF : ∀ k ∈ rf dx da S.segs, k ∉ F) : RD w' dx S da cap :=
  ⟨so h.head ho (hF _ (rf_head ..)), fun hne => by
    obtain ⟨cs, h1, h2⟩ := h.arr hne
    exact ⟨cs, so h1 ho (hF _ (rf_arr hne)), h2⟩, h.apart⟩

theorem marks_off {F : List Nat} {w w' : World} {n : Nat} {z : Int} {v : Value} (h : Marks w v n z) (ho : Off F w w') (hF : ∀ k cs, Sits w k 3 cs → k ∉ F) : Marks w' v n z := by
  obtain ⟨ao, cv, h1, h2⟩ := h
  refine ⟨ao, cv, h1, fun hn => ?_⟩
  obtain ⟨b, cs, h3, h4, h5, h6⟩ := h2 hn
  exact ⟨b, cs, h3, h4, so h5 ho (hF b cs h5), h6⟩

theorem ent_off {F : List Nat} {w w' : World} {i : Nat} {v g : Value} (h : Ent w i v g) (ho : Off F w w') (hF : ∀ k cs, Sits w k 3 cs → k ∉ F) : Ent w' i v g := by
  obtain ⟨n, h0, h1, h2⟩ := h
  exact ⟨n, h0, marks_off h1 ho hF, marks_off h2 ho hF⟩

/-- All that is not a pair's own stays: so does a pair under another's writes. -/
theorem Pr.off {F : List Nat} {w w' : World} {px : Nat} {S : Dk} {p : PI} (h : Pr w px S p) (ho : Off F w w') (hF : ∀ k ∈ foot px S p, k ∉ F) (hI : ∀ k cs, Sits w k 3 cs → k ∉ F) : Pr w' px S p := by
  have m1 : ∀ k ∈ pf p.bx p.ba p.bs, k ∉ F := fun k hk => hF k (by simp [foot, hk])
  have m2 : ∀ k ∈ rf p.dx p.da S.segs, k ∉ F := fun k hk => hF k (by simp [foot, hk])
  have m3 : ∀ k, p.lv.ownBlock = some k → k ∉ F := fun k hk => hF k (by simp [foot, hk])
  have m4 : ∀ k, p.gv.ownBlock = some k → k ∉ F := fun k hk => hF k (by simp [foot, hk])
  exact ⟨so h.head ho (hF px (by simp [foot])), pd_off h.pd ho m1, rd_off h.rd ho m2, own_off h.lists ho m3, own_off h.grown ho m4, h.len, fun i v g h1 h2 => ent_off (h.ent i v g h1 h2) ho hI, h.apart⟩

theorem Pr.keep {w w' : World} {px : Nat} {S : Dk} {p : PI} (h : Pr w px S p) (hb : Below w.heap.size w w') : Pr w' px S p :=
  h.off (F := []) (Off.of_below hb) (fun _ _ => by simp) (fun _ _ _ => by simp)

/-- Of what types a pair's own blocks are. -/
theorem Pr.typed {w : World} {px : Nat} {S : Dk} {p : PI} (h : Pr w px S p) : ∀ k ∈ foot px S p, ∃ t cs, Sits w k t cs ∧ t ≠ 3 := by
  intro k hk
  rw [foot, List.mem_cons] at hk
  rcases hk with e | hk
  · rw [e]
    exact ⟨_, _, h.head, by decide⟩
  · simp only [List.mem_append] at hk
    rcases hk with ((hk | hk) | hk) | hk
    · obtain ⟨t, cs, h1, h2⟩ := pf_typed h.pd k hk
      refine ⟨t, cs, h1, ?_⟩
      rcases h2 with e | e | e <;> (rw [e]; decide)
    · obtain ⟨t, cs, h1, h2⟩ := rf_typed h.rd k hk
      refine ⟨t, cs, h1, ?_⟩
      rcases h2 with e | e <;> (rw [e]; decide)
    · obtain ⟨cs, h1⟩ := sits_own h.lists (by simpa using hk)
      exact ⟨_, cs, h1, by decide⟩
    · obtain ⟨cs, h1⟩ := sits_own h.grown (by simpa using hk)
      exact ⟨_, cs, h1, by decide⟩

theorem Pr.noInt {w : World} {px : Nat} {S : Dk} {p : PI} (h : Pr w px S p) : ∀ k cs, Sits w k 3 cs → k ∉ foot px S p := by
  intro k cs hk hm
  obtain ⟨t, cs', h1, h2⟩ := h.typed k hm
  exact sits_ne h1 hk h2 rfl

theorem Pr.lt {w : World} {px : Nat} {S : Dk} {p : PI} (h : Pr w px S p) : ∀ k ∈ foot px S p, k < w.heap.size := by
  intro k hm
  obtain ⟨t, cs', h1, h2⟩ := h.typed k hm
  exact h1.lt

/-- The program's disk has turned: the rest of the pair stays. -/
theorem Pr.mid {w w1 : World} {px : Nat} {S : Dk} {p : PI} (h : Pr w px S p) (ho : Off (pf p.bx p.ba p.bs) w w1) :
    RD w1 p.dx S p.da p.dcap ∧ Sits w1 px 59 #[.pointer (some ⟨p.bx, 0, none⟩), .pointer (some ⟨p.dx, 0, none⟩), p.lv, p.gv] ∧ w1.ownsRow 0 48 1 p.lv p.vs.length p.vs ∧ w1.ownsRow 0 48 1 p.gv p.gs.length p.gs ∧
      ∀ (i : Nat) v g, p.vs[i]? = some v → p.gs[i]? = some g → Ent w1 i v g := by
  have key : ∀ k t cs, Sits w k t cs → t ≠ 101 → t ≠ 146 → t ≠ 149 → k ∉ pf p.bx p.ba p.bs := by
    intro k t cs hs n1 n2 n3 hm
    obtain ⟨t', cs', h1, h2⟩ := pf_typed h.pd k hm
    rcases h2 with e | e | e
    · exact sits_ne hs (e ▸ h1) n1 rfl
    · exact sits_ne hs (e ▸ h1) n2 rfl
    · exact sits_ne hs (e ▸ h1) n3 rfl
  refine ⟨rd_off h.rd ho fun k hk => ?_, so h.head ho (key _ _ _ h.head (by decide) (by decide) (by decide)), own_off h.lists ho fun k hk => ?_, own_off h.grown ho fun k hk => ?_, fun i v g h1 h2 => ent_off (h.ent i v g h1 h2) ho fun k cs hs => key _ _ _ hs (by decide) (by decide) (by decide)⟩
  · obtain ⟨t, cs, h1, h2⟩ := rf_typed h.rd k hk
    rcases h2 with e | e <;> (subst e; exact key _ _ _ h1 (by decide) (by decide) (by decide))
  · obtain ⟨cs, h1⟩ := sits_own h.lists hk
    exact key _ _ _ h1 (by decide) (by decide) (by decide)
  · obtain ⟨cs, h1⟩ := sits_own h.grown hk
    exact key _ _ _ h1 (by decide) (by decide) (by decide)

/-- Both disks have turned. -/
theorem Pr.both {w w1 w2 : World} {px : Nat} {S S' : Dk} {p : PI} (h : Pr w px S p) (ho : Off (pf p.bx p.ba p.bs) w w1) {ba' cap' : Nat} {bs' : List Nat} (hp : PD w1 p.bx S' ba' cap' bs') (hpf : ∀ b ∈ pf p.bx ba' bs', b ∈ pf p.bx p.ba p.bs ∨ w.heap.size ≤ b)
    (ho2 : Off (rf p.dx p.da S.segs) w1 w2) {da' dcap' : Nat} (hr : RD w2 p.dx S' da' dcap') (hrf : ∀ b ∈ rf p.dx da' S'.segs, b ∈ rf p.dx p.da S.segs ∨ w.heap.size ≤ b) :
    ∃ p', Pr w2 px S' p' ∧ p'.vs = p.vs ∧ Off (foot px S p) w w2 ∧ ∀ k ∈ foot px S' p', k ∈ foot px S p ∨ w.heap.size ≤ k := by
  obtain ⟨hR, hH, hL, hG, hE⟩ := h.mid ho
  have key : ∀ k t cs, Sits w1 k t cs → t ≠ 104 → t ≠ 153 → k ∉ rf p.dx p.da S.segs := by
    intro k t cs hs n1 n2 hm
    obtain ⟨t', cs', h1, h2⟩ := rf_typed hR k hm
    rcases h2 with e | e
    · exact sits_ne hs (e ▸ h1) n1 rfl
    · exact sits_ne hs (e ▸ h1) n2 rfl
  refine ⟨{ p with ba := ba', cap := cap', bs := bs', da := da', dcap := dcap' }, ⟨so hH ho2 (key _ _ _ hH (by decide) (by decide)), pd_off hp ho2 fun k hk => ?_, hr, own_off hL ho2 fun k hk => ?_, own_off hG ho2 fun k hk => ?_, h.len, fun i v g h1 h2 => ent_off (hE i v g h1 h2) ho2 fun k cs hs => key _ _ _ hs (by decide) (by decide), h.apart⟩, rfl, ?_, ?_⟩
  · obtain ⟨t, cs, h1, h2⟩ := pf_typed hp k hk
    rcases h2 with e | e | e <;> (subst e; exact key _ _ _ h1 (by decide) (by decide))
  · obtain ⟨cs, h1⟩ := sits_own hL hk
    exact key _ _ _ h1 (by decide) (by decide)
  · obtain ⟨cs, h1⟩ := sits_own hG hk
    exact key _ _ _ h1 (by decide) (by decide)
  · exact (ho.mono fun k _ hk => by simp [foot, hk]).trans (ho2.mono fun k _ hk => by simp [foot, hk])
  · intro k hk
    rw [foot, List.mem_cons] at hk
    rcases hk with e | hk
    · exact Or.inl (by simp [foot, e])
    · simp only [List.mem_append] at hk
      rcases hk with ((hk | hk) | hk) | hk
      · exact (hpf k hk).imp (fun e => by simp [foot, e]) id
      · exact (hrf k hk).imp (fun e => by simp [foot, e]) id
      · exact Or.inl (by simp only [foot, List.mem_cons, List.mem_append]; exact Or.inr (Or.inl (Or.inr hk)))
      · exact Or.inl (by simp only [foot, List.mem_cons, List.mem_append]; exact Or.inr (Or.inr hk))

end Go.Proofs.YtenegfafjjknoaaGreatDoor.Pp

namespace Go.Proofs.YtenegfafjjknoaaGreatDoor.Pp
open Go.RowKit Mem Foot Dm Dh Dr

theorem head4 {w : World} {b : Nat} {t : TypeId} {v0 v1 v2 v3 : Value} (h : Sits w b t #[v0, v1, v2, v3]) :
    w.cell? ⟨b, 0, none⟩ = some v0 ∧ w.cell? ⟨b, 1, none⟩ = some v1 ∧ w.cell? ⟨b, 2, none⟩ = some v2 ∧ w.cell? ⟨b, 3, none⟩ = some v3 ∧ w.frozen? ⟨b, 0, none⟩ = false ∧ w.frozen? ⟨b, 1, none⟩ = false ∧ w.frozen? ⟨b, 2, none⟩ = false ∧ w.frozen? ⟨b, 3, none⟩ = false :=
  ⟨h.cell 0 _ rfl, h.cell 1 _ rfl, h.cell 2 _ rfl, h.cell 3 _ rfl, h.frozen 0, h.frozen 1, h.frozen 2, h.frozen 3⟩

/-- Which of two. -/
def pk (c : Int) : Nat := ((if c < 0 then -(c + 1) else c) % 2).toNat

theorem pk_lt (c : Int) : pk c < 2 := by
  unfold pk
  omega

theorem pick (c : Int) (hc : -9223372036854775808 ≤ c ∧ c ≤ 9223372036854775807) (w : World) :
    Calls Tryz.prog 28 #[.int .i64 c, .int .i64 2] w fun e w' => e = .returned (.int .i64 (pk c : Int)) ∧ w' = w := by
  by_cases h : c < 0
  · obtain ⟨d, hd⟩ : ∃ d : Nat, -(c + 1) = (d : Int) := ⟨(-(c + 1)).toNat, by omega⟩
    have hw1 : IntKind.i64.wrap (c + 1) = c + 1 := IntWalk.i64_in _ (by omega)
    have hw2 : IntKind.i64.wrap (-(c + 1)) = (d : Int) := by rw [IntWalk.i64_in _ (by omega)]; exact hd
    have HE := hide (show (pk c : Int) = (d : Int) % 2 by rw [pk, if_pos h, hd]; omega)
    clear hd
    go_enter Tryz.func28, Tryz.ntmps28
    go_wp2_with fail
    go_ret
    rw [HE.out]
    exact ⟨rfl, rfl⟩
  · obtain ⟨d, rfl⟩ : ∃ d : Nat, c = (d : Int) := ⟨c.toNat, by omega⟩
    have HE := hide (show (pk (d : Int) : Int) = (d : Int) % 2 by rw [pk, if_neg h]; omega)
    go_enter Tryz.func28, Tryz.ntmps28
    go_wp2_with fail
    go_ret
    rw [HE.out]
    exact ⟨rfl, rfl⟩

/-- A row's cell. -/
theorem row_at {w : World} {e : TypeId} {v : Value} {n i : Nat} {xs : List Value} (h : w.ownsRow 0 e 1 v n xs) (hi : i < n) : ∃ g cap, v = .slice (some ⟨g, 0, none⟩) n cap ∧ n ≤ cap ∧ ∀ (j : Nat) u, xs[j]? = some u → w.cell? ⟨g, j, none⟩ = some u ∧ w.frozen? ⟨g, j, none⟩ = false := by
  rcases h.2 with ⟨_, h0⟩ | ⟨g, cap, cur, rfl, _, hg, hn, _, _, ht⟩
  · omega
  · refine ⟨g, cap, rfl, hn, fun j u hu => ?_⟩
    have hs : Sits w g e cur := hg
    rw [← ht, List.getElem?_take] at hu
    split at hu
    · exact ⟨hs.cell j u (by simpa using hu), hs.frozen j⟩
    · cases hu

theorem marks_at {w : World} {v : Value} {n k : Nat} {z : Int} (h : Marks w v n z) (hk : k < n) : ∃ b cv, v = .slice (some ⟨b, 0, none⟩) n cv ∧ n ≤ cv ∧ ∀ j : Nat, j < n → w.cell? ⟨b, j, none⟩ = some (.int .i64 z) := by
  obtain ⟨ao, cv, h1, h2⟩ := h
  obtain ⟨b, cs, rfl, h4, h5, h6⟩ := h2 (by omega)
  exact ⟨b, cv, h1, h4, fun j hj => h5.cell j _ (h6 j hj)⟩

theorem rep_at {n j : Nat} {v : Value} (h : j < n) : (List.replicate n v)[j]? = some v := by
  rw [List.getElem?_replicate, if_pos h]

set_option maxRecDepth 10000 in
set_option maxHeartbeats 1000000 in
theorem whole (px : Nat) (S : Dk) (p : PI) (w : World) (hP : Pr w px S p) (hl : p.gs.length ≤ 1000000000) :
    Calls Tryz.prog 30 #[.pointer (some ⟨px, 0, none⟩)] w fun e w' => w' = w ∧ e = .returned (.bool true) := by
  obtain ⟨c0, c1, c2, c3, f0, f1, f2, f3⟩ := head4 hP.head
  have HP := hide hP
  clear hP
  obtain ⟨gao, gcv, hgs⟩ := Own.shape HP.out.grown
  obtain ⟨lao, lcv, hls⟩ := Own.shape HP.out.lists
  rw [hgs] at c3
  rw [hls] at c2
  have HGS := hide hgs
  have HLS := hide hls
  clear hgs hls
  go_enter Tryz.func30, Tryz.ntmps30
  go_wp2_with fail
  go_loopw [3] (fun s3 wr => ∃ i : Nat, s3 = .int .i64 (i : Int) ∧ wr = w ∧ i ≤ p.gs.length) (fun s3 _ => p.gs.length - (intOf s3).toNat)
  case atStart => exact ⟨0, rfl, rfl, by omega⟩
  case round =>
    obtain ⟨i, rfl, hwr, hi⟩ := hrel
    subst wr
    by_cases hil : i < p.gs.length
    · have hiz : (i : Int) < (p.gs.length : Int) := by omega
      have hivl : i < p.vs.length := by rw [← HP.out.len]; exact hil
      obtain ⟨v, hv⟩ : ∃ v, p.vs[i]? = some v := ⟨_, List.getElem?_eq_getElem hivl⟩
      obtain ⟨g, hg⟩ : ∃ g, p.gs[i]? = some g := ⟨_, List.getElem?_eq_getElem hil⟩
      obtain ⟨n, hn0, hov, hog⟩ := HP.out.ent i v g hv hg
      obtain ⟨gb, gcap, hgv, hgcap, hgc⟩ := row_at HP.out.grown hil
      obtain ⟨lb, lcap, hlv, hlcap, hlc⟩ := row_at HP.out.lists hivl
      rw [HGS.out] at hgv
      rw [HLS.out] at hlv
      injection hgv with e1 _ e2
      injection hlv with e3 _ e4
      subst e1
      subst e2
      subst e3
      subst e4
      obtain ⟨vao, vcv, rfl, hov2⟩ := hov
      obtain ⟨gb2, gcap2, rfl, hgcap2, hgc2⟩ := marks_at hog (k := 0) (by omega)
      have k1 := (hgc i _ hg).1
      have k2 := (hlc i _ hv).1
      have HGC2 := hide hgc2
      have HOV := hide hov2
      have hlenvs : p.vs.length = p.gs.length := HP.out.len.symm
      have hsub : IntKind.i64.wrap (-1 - (i : Int)) = -1 - (i : Int) := IntWalk.i64_in _ (by omega)
      clear hgc hlc hov2 hog hv hg hgc2
      go_wp2_with fail
      go_loopw [4] (fun s4 wr => ∃ k : Nat, s4 = .int .i64 (k : Int) ∧ wr = w ∧ k ≤ n + 3) (fun s4 _ => n + 3 - (intOf s4).toNat)
      case atStart => exact ⟨0, rfl, rfl, by omega⟩
      case round =>
        obtain ⟨k, rfl, hwr, hk⟩ := hrel
        subst wr
        by_cases hkl : k < n + 3
        · have hkz : (k : Int) < ((n + 3 : Nat) : Int) := by omega
          have kc := HGC2.out k hkl
          have hbe : ((-1 - (i : Int)) != (-1 - (i : Int))) = false := by simp
          by_cases hkn : k < n
          · have hknz : (k : Int) < (n : Int) := by omega
            obtain ⟨vb, vcs, rfl, hvcap, hvc, hvm⟩ := HOV.out (by omega)
            have kv := hvc.cell k _ (hvm k hkn)
            clear hvc hvm
            go_wp2_with fail
            go_roundw
            case rel => exact ⟨k + 1, by go_num, trivial, by omega⟩
            case measure => simp [intOf]; omega
          · have hknz : ¬ (k : Int) < (n : Int) := by omega
            go_wp2_with fail
            go_roundw
            case rel => exact ⟨k + 1, by go_num, trivial, by omega⟩
            case measure => simp [intOf]; omega
        · have hkz : ¬ (k : Int) < ((n + 3 : Nat) : Int) := by omega
          go_wp2_with fail
          exact ⟨⟨i + 1, by go_num, trivial, by omega⟩, by simp [intOf]; omega⟩
    · have hiz : ¬ (i : Int) < (p.gs.length : Int) := by omega
      go_wp2_with fail
      go_ret
      exact ⟨rfl, rfl⟩

end Go.Proofs.YtenegfafjjknoaaGreatDoor.Pp

namespace Go.Proofs.YtenegfafjjknoaaGreatDoor.Pp
open Go.RowKit Mem Foot Dm Dh Dr

theorem own_keep {w w' : World} {base size n : Nat} {e : TypeId} {v : Value} {xs : List Value} (h : w.ownsRow base e size v n xs) (hb : Below w.heap.size w w') : w'.ownsRow base e size v n xs := by
  refine ⟨h.1, ?_⟩
  rcases h.2 with h0 | ⟨g, cap, cur, rfl, h1, hg, h2⟩
  · exact Or.inl h0
  · refine Or.inr ⟨g, cap, cur, rfl, h1, ?_, h2⟩
    rw [hb.block g (Array.getElem?_eq_some_iff.1 hg).1]
    exact hg

/-- A row's cell, with its block's number. -/
theorem row_from {w : World} {base : Nat} {e : TypeId} {v : Value} {n i : Nat} {xs : List Value} (h : w.ownsRow base e 1 v n xs) (hi : i < n) : ∃ g cap, v = .slice (some ⟨g, 0, none⟩) n cap ∧ n ≤ cap ∧ base ≤ g ∧ g < w.heap.size ∧ ∀ (j : Nat) u, xs[j]? = some u → w.cell? ⟨g, j, none⟩ = some u ∧ w.frozen? ⟨g, j, none⟩ = false := by
  rcases h.2 with ⟨_, h0⟩ | ⟨g, cap, cur, rfl, hb, hg, hn, _, _, ht⟩
  · omega
  · refine ⟨g, cap, rfl, hn, hb, (Array.getElem?_eq_some_iff.1 hg).1, fun j u hu => ?_⟩
    have hs : Sits w g e cur := hg
    rw [← ht, List.getElem?_take] at hu
    split at hu
    · exact ⟨hs.cell j u (by simpa using hu), hs.frozen j⟩
    · cases hu

/-- A cell of a row set. -/
theorem own_set {w : World} {base n g cap j : Nat} {e : TypeId} {xs : List Value} (h : w.ownsRow base e 1 (.slice (some ⟨g, 0, none⟩) n cap) n xs) (u : Value) : (w.setCell ⟨g, j, none⟩ u).ownsRow base e 1 (.slice (some ⟨g, 0, none⟩) n cap) n (xs.set j u) := by
  refine ⟨by rw [List.length_set]; exact h.1, ?_⟩
  rcases h.2 with ⟨h0, _⟩ | ⟨g', cap', cur, hv, hb, hg, hn, hm, hs, ht⟩
  · cases h0
  · injection hv with e1 _ e3
    injection e1 with e1
    injection e1 with e1
    subst e1
    subst e3
    refine Or.inr ⟨g, cap, _, rfl, hb, Sits.set (t := e) (cs := cur) hg j u, hn, hm, by simpa using hs, ?_⟩
    rw [Array.toList_setIfInBounds, List.take_set, ht]

/-- The first i are marks. -/
def filled (i : Nat) (z : Int) (nums : List Int) : List Value := List.replicate i (.int .i64 z) ++ (nums.drop i).map (Value.int .i64)

theorem filled_zero (z : Int) (nums : List Int) : filled 0 z nums = nums.map (Value.int .i64) := by simp [filled]

theorem filled_set {i : Nat} {z : Int} {nums : List Int} (h : i < nums.length) : (filled i z nums).set i (.int .i64 z) = filled (i + 1) z nums := by
  have hd : nums.drop i = nums[i] :: nums.drop (i + 1) := List.drop_eq_getElem_cons h
  rw [filled, filled, List.set_append_right _ _ (by simp), List.length_replicate, Nat.sub_self, hd, List.map_cons, List.set_cons_zero, List.replicate_succ', List.append_assoc]
  rfl

theorem filled_all (z : Int) (nums : List Int) : filled nums.length z nums = List.replicate nums.length (.int .i64 z) := by simp [filled]

theorem filled_get {i : Nat} {z : Int} {nums : List Int} (h : i < nums.length) : (filled i z nums)[i]? = some (.int .i64 nums[i]) := by
  rw [filled, List.getElem?_append_right (by simp), List.length_replicate, Nat.sub_self, List.getElem?_map, List.getElem?_drop, Nat.add_zero, List.getElem?_eq_getElem h]
  rfl

theorem nums_le (S : Dk) : (doList S).1.length ≤ S.segs.length := by
  rw [doList]
  split
  · simp
  · simp

theorem grown_off {w x : World} {o : Obj} {v : Value} (h : (w.alloc o).grownBy x v.ownBlock) : Off v.ownBlock.toList w x :=
  ⟨h.os, h.tape, h.output, by have := h.size; simp at this; omega, fun k hk hF => by
    rw [h.block k (by simp; omega) (fun e => hF (by rw [← e]; simp)), Below.heap_alloc _ _ _ hk]⟩

theorem off_more {F G : List Nat} {w x y : World} (h : Off F w x) (k : Off G x y) (hG : ∀ b ∈ G, b ∈ F ∨ w.heap.size ≤ b) : Off F w y :=
  ⟨k.os.trans h.os, k.tape.trans h.tape, k.output.trans h.output, Nat.le_trans h.size k.size, fun i hi hF => (k.block i (Nat.lt_of_lt_of_le hi h.size) (fun e => by
    rcases hG i e with e | e
    · exact hF e
    · omega)).trans (h.block i hi hF)⟩

theorem own_lt {w : World} {base size n : Nat} {e : TypeId} {v : Value} {xs : List Value} (h : w.ownsRow base e size v n xs) {k : Nat} (hk : k ∈ v.ownBlock.toList) : base ≤ k ∧ k < w.heap.size := h.lt k (by simpa using hk)

theorem sits_row {w : World} {base size n : Nat} {e : TypeId} {v : Value} {xs : List Value} (h : w.ownsRow base e size v n xs) {k : Nat} (hk : k ∈ v.ownBlock.toList) : ∃ cs, Sits w k e cs := by
  have hk' : v.ownBlock = some k := by simpa using hk
  rcases h.2 with ⟨rfl, _⟩ | ⟨g, cap, cur, rfl, _, hg, _⟩
  · simp [Value.ownBlock] at hk'
  · simp [Value.ownBlock] at hk'
    subst hk'
    exact ⟨cur, hg⟩

/-- What the lists' writes may touch. -/
def lf (px : Nat) (p : PI) : List Nat := px :: (p.lv.ownBlock.toList ++ p.gv.ownBlock.toList)

theorem lf_foot {px : Nat} {S : Dk} {p : PI} : ∀ k ∈ lf px p, k ∈ foot px S p := by
  intro k hk
  rw [lf, List.mem_cons, List.mem_append] at hk
  rw [foot, List.mem_cons]
  simp only [List.mem_append]
  rcases hk with e | e | e
  · exact Or.inl e
  · exact Or.inr (Or.inl (Or.inr e))
  · exact Or.inr (Or.inr e)

theorem lf_typed {w : World} {px : Nat} {S : Dk} {p : PI} (h : Pr w px S p) : ∀ k ∈ lf px p, ∃ t cs, Sits w k t cs ∧ (t = 59 ∨ t = 48) := by
  intro k hk
  rw [lf, List.mem_cons, List.mem_append] at hk
  rcases hk with e | e | e
  · rw [e]
    exact ⟨_, _, h.head, Or.inl rfl⟩
  · obtain ⟨cs, h1⟩ := sits_row h.lists e
    exact ⟨_, _, h1, Or.inr rfl⟩
  · obtain ⟨cs, h1⟩ := sits_row h.grown e
    exact ⟨_, _, h1, Or.inr rfl⟩

/-- The lists have grown: the pair anew. -/
theorem Pr.lists_new {w W : World} {px : Nat} {S : Dk} {p : PI} (h : Pr w px S p) (ho : Off (lf px p) w W) {v3 v6 v g : Value} (hH : Sits W px 59 #[.pointer (some ⟨p.bx, 0, none⟩), .pointer (some ⟨p.dx, 0, none⟩), v3, v6])
    (h3 : W.ownsRow 0 48 1 v3 (p.vs.length + 1) (p.vs ++ [v])) (h6 : W.ownsRow 0 48 1 v6 (p.gs.length + 1) (p.gs ++ [g])) (hE : Ent W p.vs.length v g) (hA : v3.ownBlock ≠ v6.ownBlock)
    (f3 : ∀ k ∈ v3.ownBlock.toList, k ∈ p.lv.ownBlock.toList ∨ w.heap.size ≤ k) (f6 : ∀ k ∈ v6.ownBlock.toList, k ∈ p.gv.ownBlock.toList ∨ w.heap.size ≤ k) :
    Off (foot px S p) w W ∧ ∃ p', Pr W px S p' ∧ p'.vs.length = p.vs.length + 1 ∧ ∀ k ∈ foot px S p', k ∈ foot px S p ∨ w.heap.size ≤ k := by
  have key : ∀ k t cs, Sits w k t cs → t ≠ 59 → t ≠ 48 → k ∉ lf px p := by
    intro k t cs hs n1 n2 hm
    obtain ⟨t', cs', h1, h2⟩ := lf_typed h k hm
    rcases h2 with e | e
    · exact sits_ne hs (e ▸ h1) n1 rfl
    · exact sits_ne hs (e ▸ h1) n2 rfl
  refine ⟨ho.mono fun k _ hk => lf_foot k hk, { p with lv := v3, gv := v6, vs := p.vs ++ [v], gs := p.gs ++ [g] }, ⟨hH, pd_off h.pd ho fun k hk => ?_, rd_off h.rd ho fun k hk => ?_, ?_, ?_, ?_, fun i a b h1 h2 => ?_, Or.inr hA⟩, by simp, fun k hk => ?_⟩
  · obtain ⟨t, cs, h1, h2⟩ := pf_typed h.pd k hk
    rcases h2 with e | e | e <;> (subst e; exact key _ _ _ h1 (by decide) (by decide))
  · obtain ⟨t, cs, h1, h2⟩ := rf_typed h.rd k hk
    rcases h2 with e | e <;> (subst e; exact key _ _ _ h1 (by decide) (by decide))
  · show W.ownsRow 0 48 1 v3 (p.vs ++ [v]).length (p.vs ++ [v])
    rw [List.length_append]
    exact h3
  · show W.ownsRow 0 48 1 v6 (p.gs ++ [g]).length (p.gs ++ [g])
    rw [List.length_append]
    exact h6
  · show (p.gs ++ [g]).length = (p.vs ++ [v]).length
    rw [List.length_append, List.length_append, h.len]
    rfl
  · have h1' : (p.vs ++ [v])[i]? = some a := h1
    have h2' : (p.gs ++ [g])[i]? = some b := h2
    by_cases hi : i < p.vs.length
    · rw [List.getElem?_append_left hi] at h1'
      rw [List.getElem?_append_left (by rw [h.len]; exact hi)] at h2'
      exact ent_off (h.ent i a b h1' h2') ho fun k cs hs => key _ _ _ hs (by decide) (by decide)
    · have hi2 : i = p.vs.length := by
        have := (List.getElem?_eq_some_iff.1 h1').1
        simp at this
        omega
      subst hi2
      rw [List.getElem?_append_right (Nat.le_refl _), Nat.sub_self] at h1'
      rw [List.getElem?_append_right (by rw [h.len]; exact Nat.le_refl _), h.len, Nat.sub_self] at h2'
      cases h1'
      cases h2'
      exact hE
  · rw [foot, List.mem_cons] at hk
    rw [foot, List.mem_cons]
    simp only [List.mem_append] at hk ⊢
    rcases hk with e | ((e | e) | e) | e
    · exact Or.inl (Or.inl e)
    · exact Or.inl (Or.inr (Or.inl (Or.inl (Or.inl e))))
    · exact Or.inl (Or.inr (Or.inl (Or.inl (Or.inr e))))
    · exact (f3 k e).imp (fun e => Or.inr (Or.inl (Or.inr e))) id
    · exact (f6 k e).imp (fun e => Or.inr (Or.inr e)) id

/-- A row of marks. -/
theorem marks_own {w : World} {base n : Nat} {v : Value} {z : Int} (h : w.ownsRow base 3 1 v n (List.replicate n (.int .i64 z))) : Marks w v n z := by
  rcases h.2 with ⟨rfl, rfl⟩ | ⟨g, cap, cur, rfl, _, hg, hn, _, _, ht⟩
  · exact ⟨none, 0, rfl, fun e => absurd rfl e⟩
  · refine ⟨_, _, rfl, fun _ => ⟨g, cur, rfl, hn, hg, fun j hj => ?_⟩⟩
    have := rep_at (v := .int .i64 z) hj
    rw [← ht, List.getElem?_take] at this
    split at this
    · simpa using this
    · cases this

/-- .. behind the append that may have grown it in place. -/
theorem marks_grown {x x5 : World} {o : Obj} {base n : Nat} {v g : Value} {z : Int} (h : x.ownsRow base 3 1 v n (List.replicate n (.int .i64 z))) (o5 : x5.ownsRow 0 3 1 g (n + 3) (List.replicate (n + 3) (.int .i64 z))) (st : g.ownBlock = v.ownBlock ∨ (x.alloc o).grownBy x5 none) : Marks x5 v n z := by
  rcases st with e | e
  · rcases h.2 with ⟨rfl, rfl⟩ | ⟨b, cap, cur, rfl, _, hg, hn, _, _, ht⟩
    · exact ⟨none, 0, rfl, fun e => absurd rfl e⟩
    · refine ⟨_, _, rfl, fun _ => ?_⟩
      obtain ⟨ao, cv, h1, h2⟩ := marks_own o5
      obtain ⟨b', cs, h3, _, h5, h6⟩ := h2 (by omega)
      rw [h1, h3] at e
      simp [Value.ownBlock] at e
      subst e
      exact ⟨b', cs, rfl, hn, h5, fun j hj => h6 j (by omega)⟩
  · refine marks_off (F := []) (marks_own h) ?_ (fun _ _ _ => by simp)
    have := grown_off (v := .slice none 0 0) e
    simpa [Value.ownBlock] using this

theorem src_val (w : World) (x : Value) (t : TypeId) (b : Nat) (hb : b = w.heap.size) (hx : x.oneCell' = true) : Apn.Src (w.alloc (.cells #[x] t)) 1 (some ⟨b, 0, none⟩) 1 [x] := by
  subst hb
  exact ⟨rfl, fun u hu => by simp at hu; subst hu; exact hx, Or.inr ⟨_, rfl, cell_one_new w _ t⟩⟩

theorem src_three (w : World) (z : Int) (t : TypeId) (b : Nat) (hb : b = w.heap.size) : Apn.Src (w.alloc (.cells #[.int .i64 z, .int .i64 z, .int .i64 z] t)) 1 (some ⟨b, 0, none⟩) 3 (List.replicate 3 (.int .i64 z)) := by
  subst hb
  exact ⟨rfl, fun u hu => by rw [List.eq_of_mem_replicate hu]; rfl, Or.inr ⟨_, rfl, cell_three_new w _ _ _ t⟩⟩

theorem hiRow : (Tryz.prog.info? 48).map (fun i => (i.zero, i.size, i.bytes)) = some (some (.slice none 0 0), 1, 24) := by kernel_rfl

theorem own_as {w : World} {base size n : Nat} {e : TypeId} {v v' : Value} {xs : List Value} (h : w.ownsRow base e size v n xs) (hv : v = v') (o : Obj) : (w.alloc o).ownsRow base e size v' n xs := hv ▸ h.alloc o

theorem lists_head {w x : World} {px : Nat} {S : Dk} {p : PI} {o : Obj} {v : Value} (h : Pr w px S p) (hv : p.lv = v) (gr : (w.alloc o).grownBy x v.ownBlock) : Sits x px 59 #[.pointer (some ⟨p.bx, 0, none⟩), .pointer (some ⟨p.dx, 0, none⟩), p.lv, p.gv] := by
  subst hv
  refine so h.head (grown_off gr) fun hm => ?_
  obtain ⟨cs, h1⟩ := sits_row h.lists hm
  exact sits_ne h.head h1 (by decide) rfl

end Go.Proofs.YtenegfafjjknoaaGreatDoor.Pp

namespace Go.Proofs.YtenegfafjjknoaaGreatDoor.Pp
open Go.RowKit Mem Foot Dm Dh Dr

/-- Behind the first append. -/
structure Mid (w x : World) (px : Nat) (S : Dk) (p : PI) (v v3 : Value) (n : Nat) (z : Int) : Prop where
  off : Off (lf px p) w x
  head : Sits x px 59 #[.pointer (some ⟨p.bx, 0, none⟩), .pointer (some ⟨p.dx, 0, none⟩), v3, p.gv]
  lists : x.ownsRow 0 48 1 v3 (p.vs.length + 1) (p.vs ++ [v])
  grown : x.ownsRow 0 48 1 p.gv p.gs.length p.gs
  row : x.ownsRow w.heap.size 3 1 v n (List.replicate n (.int .i64 z))
  f3 : ∀ k ∈ v3.ownBlock.toList, k ∈ p.lv.ownBlock.toList ∨ w.heap.size ≤ k
  n3 : ∀ k ∈ v3.ownBlock.toList, k ∉ p.gv.ownBlock.toList
  some3 : v3.ownBlock ≠ none

theorem mem_own {v : Value} {k : Nat} (h : k ∈ v.ownBlock.toList) : v.ownBlock = some k := by simpa using h

theorem own_some {w : World} {e : TypeId} {v : Value} {n : Nat} {xs : List Value} (h : w.ownsRow 0 e 1 v (n + 1) xs) : v.ownBlock ≠ none := by
  rcases h.2 with ⟨_, h0⟩ | ⟨g, cap, cur, rfl, _⟩
  · omega
  · simp [Value.ownBlock]

theorem own_off2 {F : List Nat} {w w' : World} {e : TypeId} {v : Value} {n base : Nat} {xs : List Value} {size : Nat} (h : w.ownsRow base e size v n xs) (ho : Off F w w') (hF : ∀ k ∈ v.ownBlock.toList, k ∉ F) : w'.ownsRow base e size v n xs := by
  refine ⟨h.1, ?_⟩
  rcases h.2 with h0 | ⟨g, cap, cur, rfl, h1, hg, h2⟩
  · exact Or.inl h0
  · refine Or.inr ⟨g, cap, cur, rfl, h1, ?_, h2⟩
    rw [ho.block g (Array.getElem?_eq_some_iff.1 hg).1 (hF g (by simp [Value.ownBlock]))]
    exact hg

theorem row_ne {w : World} {e e' : TypeId} {v v' : Value} {n n' b b' : Nat} {xs xs' : List Value} (h : w.ownsRow b e 1 v n xs) (h' : w.ownsRow b' e' 1 v' n' xs') (hne : e ≠ e') : ∀ k ∈ v.ownBlock.toList, k ∉ v'.ownBlock.toList := by
  intro k h1 h2
  obtain ⟨cs, s1⟩ := sits_row h h1
  obtain ⟨cs', s2⟩ := sits_row h' h2
  exact sits_ne s1 s2 hne rfl

theorem row_ne_sits {w : World} {e e' : TypeId} {v : Value} {n b px : Nat} {xs : List Value} {cs : Array Value} (h : w.ownsRow b e 1 v n xs) (h' : Sits w px e' cs) (hne : e ≠ e') : px ∉ v.ownBlock.toList := by
  intro h1
  obtain ⟨cs, s1⟩ := sits_row h h1
  exact sits_ne s1 h' hne rfl

theorem mid {w wr x3 : World} {px : Nat} {S : Dk} {p : PI} {v v3 : Value} {n : Nat} {z : Int} {o : Obj} (h0 : Pr w px S p) (hb : Below w.heap.size w wr) (hrow : wr.ownsRow w.heap.size 3 1 v n (List.replicate n (.int .i64 z)))
    (o3 : x3.ownsRow 0 48 1 v3 (p.vs.length + 1) (p.vs ++ [v])) (gr3 : (wr.alloc o).grownBy x3 p.lv.ownBlock) (sm3 : Apn.Same (wr.alloc o) p.lv v3) : Mid w (x3.setCell ⟨px, 2, none⟩ v3) px S p v v3 n z := by
  have h := h0.keep hb
  have g3 := grown_off gr3
  have hX := lists_head h rfl gr3
  have hbut : Off [px] x3 (x3.setCell ⟨px, 2, none⟩ v3) := (Off.refl _ _).set (List.mem_cons_self ..) _ _
  have hap : ∀ k ∈ p.gv.ownBlock.toList, k ∉ p.lv.ownBlock.toList := fun k h1 h2 => by
    have e1 := mem_own h1
    have e2 := mem_own h2
    rcases h.apart with e | e
    · rw [e] at e2
      cases e2
    · exact e (e2.trans e1.symm)
  have hG3 := own_off2 h.grown g3 hap
  have hV3 := own_off2 hrow g3 (row_ne hrow h.lists (by decide))
  refine ⟨?_, hX.set 2 v3, own_off2 o3 hbut fun k hk e => ?_, own_off2 hG3 hbut fun k hk e => ?_, own_off2 hV3 hbut fun k hk e => ?_, fun k hk => ?_, fun k hk hg => ?_, own_some o3⟩
  · have ho : Off (lf px p) w x3 := off_more (Off.of_below hb) g3 fun b hb' => Or.inl (by rw [lf, List.mem_cons, List.mem_append]; exact Or.inr (Or.inl hb'))
    exact ho.set (by rw [lf]; exact List.mem_cons_self ..) _ _
  · rw [List.mem_singleton] at e
    exact row_ne_sits o3 hX (by decide) (e ▸ hk)
  · rw [List.mem_singleton] at e
    exact row_ne_sits hG3 hX (by decide) (e ▸ hk)
  · rw [List.mem_singleton] at e
    exact row_ne_sits hV3 hX (by decide) (e ▸ hk)
  · rcases sm3 with e | ⟨g, e, hg⟩
    · exact Or.inl (by rw [← e]; exact hk)
    · have := mem_own hk
      rw [e] at this
      cases this
      have := hb.size
      simp at hg
      exact Or.inr (by omega)
  · rcases sm3 with e | ⟨g, e, hg'⟩
    · exact hap k hg (by rw [← e]; exact hk)
    · have := mem_own hk
      rw [e] at this
      cases this
      have := (own_lt h.grown hg).2
      simp at hg'
      omega

/-- The pair's head behind an append onto a row of another type. -/
theorem head_on {x y : World} {px : Nat} {q : Obj} {e : TypeId} {v : Value} {n b : Nat} {xs : List Value} {cs : Array Value} (hX : Sits x px 59 cs) (hr : x.ownsRow b e 1 v n xs) (hne : e ≠ 59) (gr : (x.alloc q).grownBy y v.ownBlock) : Sits y px 59 cs :=
  so hX (grown_off gr) (row_ne_sits hr hX hne)

theorem own_drew {w : World} {base size n : Nat} {e : TypeId} {v : Value} {xs : List Value} (h : w.ownsRow base e size v n xs) (o : Obj) : (w.drew.alloc o).ownsRow base e size v n xs := by
  have h1 : w.drew.ownsRow base e size v n xs := h
  exact h1.alloc o

theorem Mid.drew {w x : World} {px : Nat} {S : Dk} {p : PI} {v v3 : Value} {n : Nat} {z : Int} (h : Mid w x px S p v v3 n z) : Mid w x.drew px S p v v3 n z :=
  ⟨h.off.drewN 1, h.head, h.lists, h.grown, h.row, h.f3, h.n3, h.some3⟩

theorem done {w x x5 x6 : World} {px : Nat} {S : Dk} {p : PI} {v v3 g v6 : Value} {n : Nat} {q q6 : Obj} (h : Pr w px S p) (hm : Mid w x px S p v v3 n (-1 - (p.vs.length : Int))) (hn : n ≤ 1000000000)
    (o5 : x5.ownsRow 0 3 1 g (n + 3) (List.replicate n (.int .i64 (-1 - (p.vs.length : Int))) ++ List.replicate 3 (.int .i64 (-1 - (p.vs.length : Int))))) (gr5 : (x.alloc q).grownBy x5 v.ownBlock) (st5 : g.ownBlock = v.ownBlock ∨ (x.alloc q).grownBy x5 none)
    (o6 : x6.ownsRow 0 48 1 v6 (p.gs.length + 1) (p.gs ++ [g])) (gr6 : (x5.alloc q6).grownBy x6 p.gv.ownBlock) (sm6 : Apn.Same (x5.alloc q6) p.gv v6) :
    Off (foot px S p) w (x6.setCell ⟨px, 3, none⟩ v6) ∧ ∃ p', Pr (x6.setCell ⟨px, 3, none⟩ v6) px S p' ∧ p'.vs.length = p.vs.length + 1 ∧ ∀ k ∈ foot px S p', k ∈ foot px S p ∨ w.heap.size ≤ k := by
  have g5 := grown_off gr5
  have g6 := grown_off gr6
  have hX5 := head_on hm.head hm.row (by decide) gr5
  have hG5 := own_off2 hm.grown g5 (row_ne hm.grown hm.row (by decide))
  have hX6 := head_on hX5 hG5 (by decide) gr6
  have hL5 := own_off2 hm.lists g5 (row_ne hm.lists hm.row (by decide))
  have hL6 := own_off2 hL5 g6 hm.n3
  have e53 : List.replicate n (Value.int .i64 (-1 - (p.vs.length : Int))) ++ List.replicate 3 (.int .i64 (-1 - (p.vs.length : Int))) = List.replicate (n + 3) (.int .i64 (-1 - (p.vs.length : Int))) := by rw [List.replicate_append_replicate]
  rw [e53] at o5
  have hM1 := marks_grown hm.row o5 st5
  have hM2 := marks_own o5
  have hint6 : ∀ k cs, Sits x5 k 3 cs → k ∉ p.gv.ownBlock.toList := fun k cs hs hk => by
    obtain ⟨cs', s1⟩ := sits_row hG5 hk
    exact sits_ne s1 hs (by decide) rfl
  have hbut : Off [px] x6 (x6.setCell ⟨px, 3, none⟩ v6) := (Off.refl _ _).set (List.mem_cons_self ..) _ _
  have hint7 : ∀ k cs, Sits x6 k 3 cs → k ∉ [px] := fun k cs hs hk => by
    rw [List.mem_singleton] at hk
    subst hk
    exact sits_ne hX6 hs (by decide) rfl
  refine h.lists_new (v3 := v3) (v6 := v6) (v := v) (g := g) ?_ (hX6.set 3 v6) (own_off2 hL6 hbut fun k hk e => ?_) (own_off2 o6 hbut fun k hk e => ?_) ⟨n, hn, marks_off (marks_off hM1 g6 hint6) hbut hint7, marks_off (marks_off hM2 g6 hint6) hbut hint7⟩ (fun e => ?_) hm.f3 fun k hk => ?_
  · refine (off_more (off_more hm.off g5 fun b hb => Or.inr (own_lt hm.row hb).1) g6 fun b hb => Or.inl ?_).set (List.mem_cons_self ..) _ _
    rw [lf, List.mem_cons, List.mem_append]
    exact Or.inr (Or.inr hb)
  · rw [List.mem_singleton] at e
    exact row_ne_sits hL6 hX6 (by decide) (e ▸ hk)
  · rw [List.mem_singleton] at e
    exact row_ne_sits o6 hX6 (by decide) (e ▸ hk)
  · rcases sm6 with e6 | ⟨g', e6, hg'⟩
    · obtain ⟨b, hb⟩ := Option.ne_none_iff_exists'.1 hm.some3
      exact hm.n3 b (by simp [hb]) (by rw [← e6, ← e, hb]; simp)
    · obtain ⟨b, hb⟩ := Option.ne_none_iff_exists'.1 hm.some3
      have := (own_lt hL5 (k := b) (by simp [hb])).2
      rw [hb, e6] at e
      cases e
      simp at hg'
      omega
  · rcases sm6 with e6 | ⟨g', e6, hg'⟩
    · exact Or.inl (by rw [← e6]; exact hk)
    · have := mem_own hk
      rw [e6] at this
      cases this
      have h1 := hm.off.size
      have h2 := g5.size
      simp at hg'
      exact Or.inr (by omega)

end Go.Proofs.YtenegfafjjknoaaGreatDoor.Pp
