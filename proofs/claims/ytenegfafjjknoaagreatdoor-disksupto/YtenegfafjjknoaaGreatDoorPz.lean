/- Disks: the two pairs in memory, from deed to deed. -/
import Derived.Test.YtenegfafjjknoaaGreatDoorPq
namespace Go.Proofs.YtenegfafjjknoaaGreatDoor.Pp
open Go.RowKit Mem Foot Dm Dh Dr

/-- A deed. -/
structure Dd where
  c : Int
  k : Int
  a : Int
  b : Int
  t : ByteArray

/-- Its numbers are Go's. -/
def Dd.ok (d : Dd) : Prop := (-9223372036854775808 ≤ d.c ∧ d.c ≤ 9223372036854775807) ∧ d.a ≤ 9223372036854775807 ∧ d.b ≤ 9223372036854775807

structure En where
  px : Nat
  S : Dk
  p : PI

def En.foot (x : En) : List Nat := Pp.foot x.px x.S x.p

theorem Pr.typed2 {w : World} {px : Nat} {S : Dk} {p : PI} (h : Pr w px S p) : ∀ k ∈ foot px S p, ∃ t cs, Sits w k t cs ∧ t ≠ 61 ∧ t ≠ 54 := by
  intro k hk
  rw [foot, List.mem_cons] at hk
  rcases hk with e | hk
  · rw [e]
    exact ⟨_, _, h.head, by decide, by decide⟩
  · simp only [List.mem_append] at hk
    rcases hk with ((hk | hk) | hk) | hk
    · obtain ⟨t, cs, h1, h2⟩ := pf_typed h.pd k hk
      refine ⟨t, cs, h1, ?_⟩
      rcases h2 with e | e | e <;> (rw [e]; exact ⟨by decide, by decide⟩)
    · obtain ⟨t, cs, h1, h2⟩ := rf_typed h.rd k hk
      refine ⟨t, cs, h1, ?_⟩
      rcases h2 with e | e <;> (rw [e]; exact ⟨by decide, by decide⟩)
    · obtain ⟨cs, h1⟩ := sits_own h.lists (by simpa using hk)
      exact ⟨_, cs, h1, by decide, by decide⟩
    · obtain ⟨cs, h1⟩ := sits_own h.grown (by simpa using hk)
      exact ⟨_, cs, h1, by decide, by decide⟩

/-- One pair among what is new since w0. -/
structure One (w0 w : World) (x : En) (K U : Nat) : Prop where
  pr : Pr w x.px x.S x.p
  fit : Fit x.S K U
  vs : x.p.vs.length ≤ K
  far : ∀ k ∈ x.foot, w0.heap.size ≤ k

/-- Both pairs. -/
structure Two (w0 w : World) (x y : En) (K U : Nat) : Prop where
  one : One w0 w x K U
  two : One w0 w y K U
  apart : ∀ k ∈ x.foot, k ∉ y.foot

theorem One.keep {w0 w w' : World} {x : En} {K U : Nat} (h : One w0 w x K U) (hb : Below w.heap.size w w') : One w0 w' x K U := ⟨h.pr.keep hb, h.fit, h.vs, h.far⟩
theorem Two.keep {w0 w w' : World} {x y : En} {K U : Nat} (h : Two w0 w x y K U) (hb : Below w.heap.size w w') : Two w0 w' x y K U := ⟨h.one.keep hb, h.two.keep hb, h.apart⟩

theorem Two.swap {w0 w : World} {x y : En} {K U : Nat} (h : Two w0 w x y K U) : Two w0 w y x K U := ⟨h.two, h.one, fun k hk hx => h.apart k hx hk⟩

/-- What a deed leaves. -/
def Dx (x : En) (K U : Nat) (w w' : World) : Prop := Off x.foot w w' ∧ ∃ S' p', Pr w' x.px S' p' ∧ Fit S' (K + 1) U ∧ p'.vs.length ≤ x.p.vs.length + 1 ∧ ∀ k ∈ foot x.px S' p', k ∈ x.foot ∨ w.heap.size ≤ k

theorem Two.step {w0 w w' : World} {x y : En} {K U U' : Nat} (h : Two w0 w x y K U) (hU : U ≤ U') (h0 : w0.heap.size ≤ w.heap.size) (hd : Dx x K U' w w') : ∃ x' : En, x'.px = x.px ∧ Two w0 w' x' y (K + 1) U' ∧ Below w0.heap.size w w' := by
  obtain ⟨ho, S', p', h1, h2, h3, h4⟩ := hd
  refine ⟨⟨x.px, S', p'⟩, rfl, ⟨⟨h1, h2, Nat.le_trans h3 (by have := h.one.vs; show _ ≤ _; omega), fun k hk => ?_⟩, ⟨h.two.pr.off ho (fun k hk hx => h.apart k hx hk) (h.one.pr.noInt), h.two.fit.more (by omega) hU, Nat.le_trans h.two.vs (by omega), h.two.far⟩, fun k hk hy => ?_⟩, ho.below h.one.far h0⟩
  · rcases h4 k hk with e | e
    · exact h.one.far k e
    · omega
  · rcases h4 k hk with e | e
    · exact h.apart k e hy
    · have := h.two.pr.lt k hy
      omega

/-- A row that is no pair's own stays. -/
theorem row_stays {w w' : World} {x : En} {K U base n size : Nat} {e : TypeId} {v : Value} {xs : List Value} (hp : Pr w x.px x.S x.p) (hd : Dx x K U w w') (he : e = 61 ∨ e = 54) (h : w.ownsRow base e size v n xs) : w'.ownsRow base e size v n xs := by
  refine own_off2 h hd.1 fun k hk hf => ?_
  obtain ⟨cs, s1⟩ := sits_row h hk
  obtain ⟨t, cs', s2, n1, n2⟩ := hp.typed2 k hf
  rcases he with rfl | rfl
  · exact sits_ne s2 s1 n1 rfl
  · exact sits_ne s2 s1 n2 rfl

/-- A new pair. -/
theorem fresh_pair (w : World) : ∃ p : PI, Pr (((w.alloc (.cells #[.slice none 0 0, .int .i64 (-1), .int .i64 (-1)] 101)).alloc (.cells #[.slice none 0 0, .int .i64 (-1), .int .i64 (-1)] 104)).alloc (.cells #[.pointer (some ⟨w.heap.size, 0, none⟩), .pointer (some ⟨w.heap.size + 1, 0, none⟩), .slice none 0 0, .slice none 0 0] 59)) (w.heap.size + 2) fresh p ∧ p.vs.length = 0 ∧ foot (w.heap.size + 2) fresh p = [w.heap.size + 2, w.heap.size, w.heap.size + 1] := by
  have e1 : (w.alloc (.cells #[.slice none 0 0, .int .i64 (-1), .int .i64 (-1)] 101)).heap.size = w.heap.size + 1 := by simp
  have e2 : ((w.alloc (.cells #[.slice none 0 0, .int .i64 (-1), .int .i64 (-1)] 101)).alloc (.cells #[.slice none 0 0, .int .i64 (-1), .int .i64 (-1)] 104)).heap.size = w.heap.size + 2 := by simp
  refine ⟨⟨w.heap.size, w.heap.size + 1, 0, [], w.heap.size + 1, w.heap.size + 2, 0, .slice none 0 0, .slice none 0 0, [], []⟩, ⟨?_, ?_, ?_, World.ownsRow_nil _ _ _ _, World.ownsRow_nil _ _ _ _, rfl, fun i v g h => by simp at h, Or.inl rfl⟩, rfl, rfl⟩
  · have := Sits.new ((w.alloc (.cells #[.slice none 0 0, .int .i64 (-1), .int .i64 (-1)] 101)).alloc (.cells #[.slice none 0 0, .int .i64 (-1), .int .i64 (-1)] 104)) 59 #[.pointer (some ⟨w.heap.size, 0, none⟩), .pointer (some ⟨w.heap.size + 1, 0, none⟩), .slice none 0 0, .slice none 0 0]
    rw [e2] at this
    exact this
  · exact pd_off (F := []) (pd_off (F := []) (Dh.fresh_new w) (Off.of_below (below_new _)) (fun _ _ => by simp)) (Off.of_below (below_new _)) (fun _ _ => by simp)
  · have h := Dr.fresh_new (w.alloc (.cells #[.slice none 0 0, .int .i64 (-1), .int .i64 (-1)] 101))
    rw [e1] at h
    exact rd_off (F := []) h (Off.of_below (below_new _)) (fun _ _ => by simp)

theorem fresh_one {w0 w : World} (hw : w0.heap.size ≤ w.heap.size) : ∃ x : En, x.px = w.heap.size + 2 ∧ (∀ k ∈ x.foot, w.heap.size ≤ k) ∧ One w0 (((w.alloc (.cells #[.slice none 0 0, .int .i64 (-1), .int .i64 (-1)] 101)).alloc (.cells #[.slice none 0 0, .int .i64 (-1), .int .i64 (-1)] 104)).alloc (.cells #[.pointer (some ⟨w.heap.size, 0, none⟩), .pointer (some ⟨w.heap.size + 1, 0, none⟩), .slice none 0 0, .slice none 0 0] 59)) x 0 0 := by
  obtain ⟨p, h1, h2, h3⟩ := fresh_pair w
  have hk : ∀ k ∈ foot (w.heap.size + 2) fresh p, w.heap.size ≤ k := fun k hk => by
    rw [h3] at hk
    simp only [List.mem_cons, List.mem_nil_iff, or_false] at hk
    omega
  exact ⟨⟨w.heap.size + 2, fresh, p⟩, rfl, hk, ⟨h1, ⟨good_fresh, Nat.le_refl _, Nat.le_refl _⟩, by show p.vs.length ≤ 0; omega, fun k h => Nat.le_trans hw (hk k h)⟩⟩

/-- A deed's five cells. -/
def dcells (d : Dd) : List Value := [.int .i64 d.c, .int .i64 d.k, .int .i64 d.a, .int .i64 d.b, .string d.t]

def drows : List Dd → List Value
  | [] => []
  | d :: l => .int .i64 d.c :: .int .i64 d.k :: .int .i64 d.a :: .int .i64 d.b :: .string d.t :: drows l

theorem drows_append (l m : List Dd) : drows (l ++ m) = drows l ++ drows m := by
  induction l with
  | nil => rfl
  | cons s l ih => simp [drows, ih]

theorem drows_length (l : List Dd) : (drows l).length = l.length * 5 := by
  induction l with
  | nil => rfl
  | cons s l ih =>
    simp [drows, ih]
    omega

theorem drows_get : ∀ {l : List Dd} {i : Nat} {d : Dd}, l[i]? = some d → (drows l)[i * 5]? = some (.int .i64 d.c) ∧ (drows l)[i * 5 + 1]? = some (.int .i64 d.k) ∧ (drows l)[i * 5 + 2]? = some (.int .i64 d.a) ∧ (drows l)[i * 5 + 3]? = some (.int .i64 d.b) ∧ (drows l)[i * 5 + 4]? = some (.string d.t) := by
  intro l
  induction l with
  | nil => intro i d h; simp at h
  | cons x l ih =>
    intro i d h
    cases i with
    | zero =>
      rw [List.getElem?_cons_zero] at h
      cases h
      exact ⟨rfl, rfl, rfl, rfl, rfl⟩
    | succ i =>
      rw [List.getElem?_cons_succ] at h
      obtain ⟨a, b, c, d', e⟩ := ih h
      have h0 : ∀ j, (drows (x :: l))[(i + 1) * 5 + j]? = (drows l)[i * 5 + j]? := fun j => by
        rw [drows, show (i + 1) * 5 + j = i * 5 + j + 1 + 1 + 1 + 1 + 1 by omega]
        simp
      refine ⟨?_, ?_, ?_, ?_, ?_⟩
      · have := h0 0
        simp only [Nat.add_zero] at this
        rw [this]
        exact a
      · rw [h0 1]
        exact b
      · rw [h0 2]
        exact c
      · rw [h0 3]
        exact d'
      · rw [h0 4]
        exact e

theorem drows_oneCell (l : List Dd) : ∀ u ∈ drows l, u.oneCell' = true := by
  induction l with
  | nil => intro u h; cases h
  | cons s l ih =>
    intro u h
    simp only [drows, List.mem_cons] at h
    rcases h with rfl | rfl | rfl | rfl | rfl | h
    · rfl
    · rfl
    · rfl
    · rfl
    · rfl
    · exact ih u h

/-- How many letters the first i have. -/
def letters (l : List Dd) (i : Nat) : Nat := ((l.take i).map (·.t.size)).sum

theorem letters_next {l : List Dd} {i : Nat} {d : Dd} (h : l[i]? = some d) : letters l (i + 1) = letters l i + d.t.size := by
  rw [letters, letters, List.take_add_one, h, List.map_append, List.sum_append]
  simp

theorem letters_le (l : List Dd) (i : Nat) : letters l i ≤ letters l l.length := by
  have h : letters l l.length = ((l.take i ++ l.drop i).map (·.t.size)).sum := by rw [letters, List.take_length, List.take_append_drop]
  rw [h, List.map_append, List.sum_append, letters]
  omega

/-- A deed of the row: its cells. -/
theorem drow_at {w : World} {base : Nat} {v : Value} {l : List Dd} {i : Nat} {d : Dd} (h : w.ownsRow base 61 5 v l.length (drows l)) (hi : l[i]? = some d) : ∃ g cap, v = .slice (some ⟨g, 0, none⟩) l.length cap ∧ l.length ≤ cap ∧ w.cell? ⟨g, i * 5, none⟩ = some (.int .i64 d.c) ∧ w.cell? ⟨g, i * 5 + 1, none⟩ = some (.int .i64 d.k) ∧ w.cell? ⟨g, i * 5 + 2, none⟩ = some (.int .i64 d.a) ∧ w.cell? ⟨g, i * 5 + 3, none⟩ = some (.int .i64 d.b) ∧ w.cell? ⟨g, i * 5 + 4, none⟩ = some (.string d.t) := by
  have hl := (List.getElem?_eq_some_iff.1 hi).1
  rcases h.2 with ⟨_, h0⟩ | ⟨g, cap, cur, rfl, _, hg, hn, _, _, ht⟩
  · omega
  · have hs : Sits w g 61 cur := hg
    have hc : ∀ (j : Nat) u, (drows l)[j]? = some u → w.cell? ⟨g, j, none⟩ = some u := fun j u hu => by
      rw [← ht, List.getElem?_take] at hu
      split at hu
      · exact hs.cell j u (by simpa using hu)
      · cases hu
    obtain ⟨a, b, c, d', e⟩ := drows_get hi
    exact ⟨g, cap, rfl, hn, hc _ _ a, hc _ _ b, hc _ _ c, hc _ _ d', hc _ _ e⟩

end Go.Proofs.YtenegfafjjknoaaGreatDoor.Pp
