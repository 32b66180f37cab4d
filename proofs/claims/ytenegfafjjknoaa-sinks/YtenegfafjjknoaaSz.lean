/- Sinks: the two sinks in memory, from parcel to parcel. -/
import Derived.Test.YtenegfafjjknoaaSr
namespace Go.Proofs.Ytenegfafjjknoaa.Sk
open Go.RowKit Go.Maps Go.Shelf Mem Foot Im

/-- A parcel. -/
structure Pc where
  c : Int
  look : Bool
  m : Ms

/-- Its numbers are Go's. -/
def Pc.ok (d : Pc) : Prop := (-9223372036854775808 ≤ d.c ∧ d.c ≤ 9223372036854775807) ∧ (Lit.int .i64 d.m.k).wf = true

structure En where
  S : Nat
  ms : List Ms
  p : LI

def En.foot (x : En) : List Nat := Sk.foot x.S x.p

/-- One sink among what is new since w0. -/
structure One (w0 w : World) (x : En) (K : Nat) : Prop where
  sn : Sn w x.S x.ms x.p
  ms : x.ms.length ≤ K
  vs : x.p.vs.length ≤ K
  far : ∀ k ∈ x.foot, w0.heap.size ≤ k

/-- Both sinks. -/
structure Two (w0 w : World) (x y : En) (K : Nat) : Prop where
  one : One w0 w x K
  two : One w0 w y K
  apart : ∀ k ∈ x.foot, k ∉ y.foot

theorem One.keep {w0 w w' : World} {x : En} {K : Nat} (h : One w0 w x K) (hb : Below w.heap.size w w') : One w0 w' x K := ⟨h.sn.keep hb, h.ms, h.vs, h.far⟩
theorem Two.keep {w0 w w' : World} {x y : En} {K : Nat} (h : Two w0 w x y K) (hb : Below w.heap.size w w') : Two w0 w' x y K := ⟨h.one.keep hb, h.two.keep hb, h.apart⟩
theorem Two.swap {w0 w : World} {x y : En} {K : Nat} (h : Two w0 w x y K) : Two w0 w y x K := ⟨h.two, h.one, fun k hk hx => h.apart k hx hk⟩

/-- What a parcel leaves. -/
def Dx (x : En) (w w' : World) : Prop := Off x.foot w w' ∧ ∃ ms' p', Sn w' x.S ms' p' ∧ ms'.length ≤ x.ms.length + 1 ∧ p'.vs.length ≤ x.p.vs.length + 1 ∧ ∀ k ∈ foot x.S p', k ∈ x.foot ∨ w.heap.size ≤ k

theorem Two.step {w0 w w' : World} {x y : En} {K : Nat} (h : Two w0 w x y K) (h0 : w0.heap.size ≤ w.heap.size) (hd : Dx x w w') : ∃ x' : En, x'.S = x.S ∧ Two w0 w' x' y (K + 1) ∧ Below w0.heap.size w w' := by
  obtain ⟨ho, ms', p', h1, h2, h3, h4⟩ := hd
  have m1 := h.one.ms
  have v1 := h.one.vs
  have m2 := h.two.ms
  have v2 := h.two.vs
  refine ⟨⟨x.S, ms', p'⟩, rfl, ⟨⟨h1, by show ms'.length ≤ _; omega, by show p'.vs.length ≤ _; omega, fun k hk => ?_⟩, ⟨h.two.sn.off ho (fun k hk hx => h.apart k hx hk) (h.one.sn.noMsg), by omega, by omega, h.two.far⟩, fun k hk hy => ?_⟩, ho.below h.one.far h0⟩
  · rcases h4 k hk with e | e
    · exact h.one.far k e
    · omega
  · rcases h4 k hk with e | e
    · exact h.apart k e hy
    · have := h.two.sn.lt k hy
      omega

/-- A row that is no sink's own stays. -/
theorem row_stays {w w' : World} {x : En} {base n size : Nat} {e : TypeId} {v : Value} {xs : List Value} (hp : Sn w x.S x.ms x.p) (hd : Dx x w w') (h1 : e ≠ 33) (h2 : e ≠ 44) (h3 : e ≠ 30) (h : w.ownsRow base e size v n xs) : w'.ownsRow base e size v n xs := by
  refine own_off2 h hd.1 fun k hk hf => ?_
  obtain ⟨cs, s1⟩ := sits_row h hk
  exact hp.noT e h1 h2 h3 k cs s1 hf

/-- A new sink. -/
theorem fresh_sink (w : World) : ∃ p : LI, Sn ((w.alloc (.cells #[.map none] 44)).alloc (.cells #[.pointer (some ⟨w.heap.size, 0, none⟩), .slice none 0 0, .slice none 0 0, .slice none 0 0] 33)) (w.heap.size + 1) [] p ∧ p.vs.length = 0 ∧ foot (w.heap.size + 1) p = [w.heap.size + 1, w.heap.size] := by
  refine ⟨⟨w.heap.size, none, .slice none 0 0, .slice none 0 0, .slice none 0 0, [], []⟩, ⟨?_, ⟨?_, ?_⟩, List.Pairwise.nil, World.ownsRow_nil _ _ _ _, World.ownsRow_nil _ _ _ _, World.ownsRow_nil _ _ _ _, rfl, fun i v g h => by simp at h, Or.inl rfl⟩, rfl, rfl⟩
  · have := Sits.new (w.alloc (.cells #[.map none] 44)) 33 #[.pointer (some ⟨w.heap.size, 0, none⟩), .slice none 0 0, .slice none 0 0, .slice none 0 0]
    rw [World.size_alloc] at this
    exact this
  · exact (Sits.new w 44 #[.map none]).alloc _
  · exact rfl

theorem fresh_one {w0 w : World} (hw : w0.heap.size ≤ w.heap.size) : ∃ x : En, x.S = w.heap.size + 1 ∧ (∀ k ∈ x.foot, w.heap.size ≤ k) ∧ One w0 ((w.alloc (.cells #[.map none] 44)).alloc (.cells #[.pointer (some ⟨w.heap.size, 0, none⟩), .slice none 0 0, .slice none 0 0, .slice none 0 0] 33)) x 0 := by
  obtain ⟨p, h1, h2, h3⟩ := fresh_sink w
  have hk : ∀ k ∈ foot (w.heap.size + 1) p, w.heap.size ≤ k := fun k hk => by
    rw [h3] at hk
    simp only [List.mem_cons, List.mem_nil_iff, or_false] at hk
    omega
  exact ⟨⟨w.heap.size + 1, [], p⟩, rfl, hk, ⟨h1, Nat.le_refl _, by show p.vs.length ≤ 0; omega, fun k h => Nat.le_trans hw (hk k h)⟩⟩

/-- A parcel's four cells. -/
def prow : List Pc → List Value
  | [] => []
  | d :: l => .int .i64 d.c :: .bool d.look :: .int .i64 d.m.k :: .string d.m.t :: prow l

theorem prow_append (l m : List Pc) : prow (l ++ m) = prow l ++ prow m := by
  induction l with
  | nil => rfl
  | cons s l ih => simp [prow, ih]

theorem prow_length (l : List Pc) : (prow l).length = l.length * 4 := by
  induction l with
  | nil => rfl
  | cons s l ih =>
    simp [prow, ih]
    omega

theorem prow_get : ∀ {l : List Pc} {i : Nat} {d : Pc}, l[i]? = some d → (prow l)[i * 4]? = some (.int .i64 d.c) ∧ (prow l)[i * 4 + 1]? = some (.bool d.look) ∧ (prow l)[i * 4 + 2]? = some (.int .i64 d.m.k) ∧ (prow l)[i * 4 + 3]? = some (.string d.m.t) := by
  intro l
  induction l with
  | nil => intro i d h; simp at h
  | cons x l ih =>
    intro i d h
    cases i with
    | zero =>
      rw [List.getElem?_cons_zero] at h
      cases h
      exact ⟨rfl, rfl, rfl, rfl⟩
    | succ i =>
      rw [List.getElem?_cons_succ] at h
      obtain ⟨a, b, c, d'⟩ := ih h
      have h0 : ∀ j, (prow (x :: l))[(i + 1) * 4 + j]? = (prow l)[i * 4 + j]? := fun j => by
        rw [prow, show (i + 1) * 4 + j = i * 4 + j + 1 + 1 + 1 + 1 by omega]
        simp
      refine ⟨?_, ?_, ?_, ?_⟩
      · have := h0 0
        simp only [Nat.add_zero] at this
        rw [this]
        exact a
      · rw [h0 1]
        exact b
      · rw [h0 2]
        exact c
      · rw [h0 3]
        exact d'

theorem prow_oneCell (l : List Pc) : ∀ u ∈ prow l, u.oneCell' = true := by
  induction l with
  | nil => intro u h; cases h
  | cons s l ih =>
    intro u h
    simp only [prow, List.mem_cons] at h
    rcases h with rfl | rfl | rfl | rfl | h
    · rfl
    · rfl
    · rfl
    · rfl
    · exact ih u h

/-- A parcel of the row: its cells. -/
theorem prow_at {w : World} {base : Nat} {v : Value} {l : List Pc} {i : Nat} {d : Pc} (h : w.ownsRow base 38 4 v l.length (prow l)) (hi : l[i]? = some d) : ∃ g cap, v = .slice (some ⟨g, 0, none⟩) l.length cap ∧ l.length ≤ cap ∧ w.cell? ⟨g, i * 4, none⟩ = some (.int .i64 d.c) ∧ w.cell? ⟨g, i * 4 + 1, none⟩ = some (.bool d.look) ∧ w.cell? ⟨g, i * 4 + 2, none⟩ = some (.int .i64 d.m.k) ∧ w.cell? ⟨g, i * 4 + 3, none⟩ = some (.string d.m.t) := by
  have hl := (List.getElem?_eq_some_iff.1 hi).1
  rcases h.2 with ⟨_, h0⟩ | ⟨g, cap, cur, rfl, _, hg, hn, _, _, ht⟩
  · omega
  · have hs : Sits w g 38 cur := hg
    have hc : ∀ (j : Nat) u, (prow l)[j]? = some u → w.cell? ⟨g, j, none⟩ = some u := fun j u hu => by
      rw [← ht, List.getElem?_take] at hu
      split at hu
      · exact hs.cell j u (by simpa using hu)
      · cases hu
    obtain ⟨a, b, c, d'⟩ := prow_get hi
    exact ⟨g, cap, rfl, hn, hc _ _ a, hc _ _ b, hc _ _ c, hc _ _ d'⟩

/-- The four parcels ahead of the script. -/
def four : List Pc := [⟨0, false, ⟨3, ⟨#[97]⟩⟩⟩, ⟨0, false, ⟨3, ⟨#[98]⟩⟩⟩, ⟨0, true, ⟨0, ⟨#[]⟩⟩⟩, ⟨1, true, ⟨0, ⟨#[]⟩⟩⟩]

theorem own_four {w0 w : World} (hw : w0.heap.size ≤ w.heap.size) : (w.alloc (.cells #[.int .i64 0, .bool false, .int .i64 3, .string ⟨#[97]⟩, .int .i64 0, .bool false, .int .i64 3, .string ⟨#[98]⟩, .int .i64 0, .bool true, .int .i64 0, .string ⟨#[]⟩, .int .i64 1, .bool true, .int .i64 0, .string ⟨#[]⟩] 38)).ownsRow w0.heap.size 38 4 (.slice (some ⟨w.heap.size, 0, none⟩) 4 4) 4 (prow four) :=
  World.ownsRow_lit w _ 4 hw (by decide) rfl

/-- From parcel to parcel. -/
structure Run (w0 w : World) (lv sv : Value) (px py : Nat) (l : List Pc) (x y : En) (i : Nat) : Prop where
  two : Two w0 w x y i
  hx : x.S = px
  hy : y.S = py
  pairs : w.ownsRow w0.heap.size 27 1 lv 2 [.pointer (some ⟨px, 0, none⟩), .pointer (some ⟨py, 0, none⟩)]
  script : w.ownsRow w0.heap.size 38 4 sv l.length (prow l)
  below : Below w0.heap.size w0 w

theorem Run.keep {w0 w w' : World} {lv sv : Value} {px py : Nat} {l : List Pc} {x y : En} {i : Nat} (h : Run w0 w lv sv px py l x y i) (hb : Below w.heap.size w w') : Run w0 w' lv sv px py l x y i :=
  ⟨h.two.keep hb, h.hx, h.hy, own_keep h.pairs hb, own_keep h.script hb, h.below.trans (hb.mono h.below.size)⟩

theorem Run.next {w0 w w' : World} {lv sv : Value} {px py : Nat} {l : List Pc} {x y : En} {i : Nat} (h : Run w0 w lv sv px py l x y i) (hx : Dx x w w') : ∃ x', Run w0 w' lv sv px py l x' y (i + 1) := by
  obtain ⟨x', h1, h2, h3⟩ := h.two.step h.below.size hx
  exact ⟨x', h2, h1.trans h.hx, h.hy, row_stays h.two.one.sn hx (by decide) (by decide) (by decide) h.pairs, row_stays h.two.one.sn hx (by decide) (by decide) (by decide) h.script, h.below.trans h3⟩

theorem Run.next2 {w0 w w' : World} {lv sv : Value} {px py : Nat} {l : List Pc} {x y : En} {i : Nat} (h : Run w0 w lv sv px py l x y i) (hx : Dx y w w') : ∃ y', Run w0 w' lv sv px py l x y' (i + 1) := by
  obtain ⟨y', h1, h2, h3⟩ := h.two.swap.step h.below.size hx
  exact ⟨y', h2.swap, h.hx, h1.trans h.hy, row_stays h.two.two.sn hx (by decide) (by decide) (by decide) h.pairs, row_stays h.two.two.sn hx (by decide) (by decide) (by decide) h.script, h.below.trans h3⟩

theorem run_takes {w0 w : World} {x : En} {K : Nat} (m : Ms) (hm : (Lit.int .i64 m.k).wf = true) (h : One w0 w x K) (hK : K ≤ 3600000000000) :
    Calls Try.prog 12 #[.pointer (some ⟨x.S, 0, none⟩), .agg #[.int .i64 m.k, .string m.t]] w fun e w' => e = .returned (.bool true) ∧ Dx x w w' :=
  (takes x.S x.ms x.p m hm w h.sn (by have := h.ms; omega)).mono fun _ _ ⟨he, ho, ms', p', h1, h2, h3, h4⟩ => ⟨he, ho, ms', p', h1, h3, by rw [h2]; omega, h4⟩

theorem run_looks {w0 w : World} {x : En} {K : Nat} (h : One w0 w x K) (hK : K ≤ 3600000000000) :
    Calls Try.prog 11 #[.pointer (some ⟨x.S, 0, none⟩)] w fun e w' => e = .returned (.bool true) ∧ Dx x w w' :=
  (looks x.S x.ms x.p w h.sn (by have := h.ms; omega) (by have := h.vs; omega)).mono fun _ _ ⟨he, ho, p', h1, h2, h4⟩ => ⟨he, ho, x.ms, p', h1, by omega, by omega, h4⟩

theorem run_whole {w0 w : World} {x : En} {K : Nat} (h : One w0 w x K) (hK : K ≤ 3600000000000) :
    Calls Try.prog 13 #[.pointer (some ⟨x.S, 0, none⟩)] w fun e w' => e = .returned (.bool true) ∧ Below w.heap.size w w' :=
  whole x.S x.ms x.p w h.sn (by rw [h.sn.len]; have := h.vs; omega)

end Go.Proofs.Ytenegfafjjknoaa.Sk
