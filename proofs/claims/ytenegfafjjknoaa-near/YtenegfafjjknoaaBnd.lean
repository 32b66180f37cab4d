/- The boundaries of the document's buckets, as plain numbers: they rise, a value lies in one bucket only, and what a bucket stands for is near to what is in it. No Go in sight. -/
namespace Go.Proofs.Ytenegfafjjknoaa.Bnd

/-- The boundary behind b. -/
def nxt (b : Int) : Int := max (51 * b / 49) (b + 1)

/-- The boundaries. -/
def bnd : Nat → Int
  | 0 => 0
  | n + 1 => nxt (bnd n)

/-- What a bucket with these bounds stands for. -/
def stand (l h : Int) : Int := 2 * l * h / (l + h)

/-- What Bucket answers at v. -/
def IsB (v n s : Int) : Prop :=
  ((v < 0 ∨ 1000000000 < v) ∧ n = -1 ∧ s = 0) ∨
  (0 ≤ v ∧ v ≤ 1000000000 ∧ ∃ k : Nat, n = (k : Int) ∧ bnd k ≤ v ∧ v < bnd (k + 1) ∧ s = stand (bnd k) (bnd (k + 1)))

theorem nxt_gt (b : Int) : b + 1 ≤ nxt b := by
  unfold nxt
  omega

theorem bnd_step (k : Nat) : bnd k + 1 ≤ bnd (k + 1) := nxt_gt _

theorem bnd_ge (k : Nat) : (k : Int) ≤ bnd k := by
  induction k with
  | zero => simp [bnd]
  | succ k ih =>
    have := bnd_step k
    omega

theorem bnd_nonneg (k : Nat) : 0 ≤ bnd k := by
  have := bnd_ge k
  omega

theorem bnd_mono {j k : Nat} (h : j ≤ k) : bnd j ≤ bnd k := by
  induction h with
  | refl => exact Int.le_refl _
  | step _ ih =>
    rename_i m _
    have : bnd m + 1 ≤ bnd m.succ := bnd_step m
    omega

theorem bnd_one {v : Int} {j k : Nat} (hj : bnd j ≤ v) (hj' : v < bnd (j + 1)) (hk : bnd k ≤ v) (hk' : v < bnd (k + 1)) : j = k := by
  rcases Nat.lt_trichotomy j k with h | h | h
  · have := bnd_mono (j := j + 1) (k := k) h
    omega
  · exact h
  · have := bnd_mono (j := k + 1) (k := j) h
    omega

theorem isB_one {v n s m t : Int} (h : IsB v n s) (g : IsB v m t) : n = m ∧ s = t := by
  rcases h with ⟨h1, rfl, rfl⟩ | ⟨h1, h2, k, rfl, h3, h4, rfl⟩ <;> rcases g with ⟨g1, rfl, rfl⟩ | ⟨g1, g2, j, rfl, g3, g4, rfl⟩
  · exact ⟨rfl, rfl⟩
  · omega
  · omega
  · have e := bnd_one h3 h4 g3 g4
    subst e
    exact ⟨rfl, rfl⟩

theorem isB_52 {n s : Int} (h : IsB 52 n s) : n = 50 ∧ s = 51 := by
  refine isB_one h (Or.inr ⟨by omega, by omega, 50, rfl, ?_, ?_, ?_⟩)
  · decide +kernel
  · decide +kernel
  · decide +kernel

theorem isB_range {v n s : Int} (h : IsB v n s) : -1 ≤ n ∧ n ≤ 1000000000 := by
  rcases h with ⟨h1, rfl, rfl⟩ | ⟨h1, h2, k, rfl, h3, h4, rfl⟩
  · omega
  · have := bnd_ge k
    omega

/-! ### What a bucket stands for -/
theorem stand_lo {l h : Int} (hl : 0 ≤ l) (hh : l < h) : stand l h * (l + h) ≤ 2 * l * h :=
  Int.ediv_mul_le _ (by omega)

theorem stand_hi {l h : Int} (hl : 0 ≤ l) (hh : l < h) : 2 * l * h < (stand l h + 1) * (l + h) := by
  have := Int.lt_ediv_add_one_mul_self (2 * l * h) (b := l + h) (by omega)
  exact this

theorem stand_nonneg {l h : Int} (hl : 0 ≤ l) (hh : l < h) : 0 ≤ stand l h :=
  Int.ediv_nonneg (Int.mul_nonneg (by omega) (by omega)) (by omega)

theorem stand_lt {l h : Int} (hl : 0 ≤ l) (hh : l < h) : stand l h < h := by
  refine Int.ediv_lt_of_lt_mul (by omega) ?_
  have e : h * (l + h) - 2 * l * h = h * (h - l) := by
    rw [Int.mul_add, Int.mul_sub, Int.mul_assoc, Int.mul_comm l h]
    omega
  have p : 0 < h * (h - l) := Int.mul_pos (by omega) (by omega)
  omega

theorem stand_ge {l h : Int} (hl : 0 ≤ l) (hh : l < h) : l ≤ stand l h := by
  refine Int.le_ediv_of_mul_le (by omega) ?_
  have e : 2 * l * h - l * (l + h) = l * (h - l) := by
    rw [Int.mul_add, Int.mul_sub, Int.mul_assoc]
    omega
  have p : 0 ≤ l * (h - l) := Int.mul_nonneg hl (by omega)
  omega

theorem stand_rises {k : Nat} : stand (bnd k) (bnd (k + 1)) < stand (bnd (k + 1)) (bnd (k + 2)) := by
  have h1 := stand_lt (bnd_nonneg k) (by have := bnd_step k; omega : bnd k < bnd (k + 1))
  have h2 := stand_ge (bnd_nonneg (k + 1)) (by have : bnd (k + 1) + 1 ≤ bnd (k + 2) := bnd_step (k + 1); omega : bnd (k + 1) < bnd (k + 2))
  omega

/-- Two bounds behind one another: the second is the first's neighbour, or at most 51 to 49 of it. -/
theorem bnd_cases (k : Nat) : bnd (k + 1) = bnd k + 1 ∨ 49 * bnd (k + 1) ≤ 51 * bnd k := by
  show nxt (bnd k) = _ ∨ 49 * nxt (bnd k) ≤ _
  unfold nxt
  omega

/-- The arithmetic of a fiftieth: q is l times h, twice, over l and h together. -/
theorem near_wide {l h x q : Int} (hl : 0 ≤ l) (hx : l ≤ x) (hxh : x < h) (hr : 49 * h ≤ 51 * l) (h1 : q * (l + h) ≤ 2 * l * h) (h2 : 2 * l * h < (q + 1) * (l + h)) :
    50 * (q - x) ≤ x + 50 ∧ 50 * (x - q) ≤ x + 50 := by
  have hp : 0 < l + h := by omega
  constructor
  · -- 50 q ≤ 51 l, since 100 l h ≤ 51 l (l + h)
    have a : 50 * q ≤ 51 * l := by
      refine Int.le_of_mul_le_mul_right (a := l + h) ?_ hp
      have b : 0 ≤ l * (51 * l - 49 * h) := Int.mul_nonneg hl (by omega)
      rw [Int.mul_sub] at b
      have c1 : 50 * q * (l + h) = 50 * (q * (l + h)) := Int.mul_assoc _ _ _
      have c2 : 51 * l * (l + h) = 51 * (l * l) + 51 * (l * h) := by
        rw [Int.mul_assoc, Int.mul_add]
        omega
      have c3 : l * (51 * l) = 51 * (l * l) := by
        rw [Int.mul_left_comm]
      have c4 : l * (49 * h) = 49 * (l * h) := by
        rw [Int.mul_left_comm]
      have c5 : 2 * l * h = 2 * (l * h) := Int.mul_assoc _ _ _
      omega
    omega
  · -- 49 h ≤ 50 (q + 1), since 49 h (l + h) ≤ 100 l h
    have a : 49 * h < 50 * (q + 1) := by
      refine Int.lt_of_mul_lt_mul_right (a := l + h) ?_ (by omega)
      have b : 0 ≤ h * (51 * l - 49 * h) := Int.mul_nonneg (by omega) (by omega)
      rw [Int.mul_sub] at b
      have c1 : 50 * (q + 1) * (l + h) = 50 * ((q + 1) * (l + h)) := Int.mul_assoc _ _ _
      have c2 : 49 * h * (l + h) = 49 * (l * h) + 49 * (h * h) := by
        rw [Int.mul_assoc, Int.mul_add, Int.mul_comm h l]
        omega
      have c3 : h * (51 * l) = 51 * (l * h) := by
        rw [Int.mul_left_comm, Int.mul_comm h l]
      have c4 : h * (49 * h) = 49 * (h * h) := by
        rw [Int.mul_left_comm]
      have c5 : 2 * l * h = 2 * (l * h) := Int.mul_assoc _ _ _
      omega
    omega

theorem near_slim {l q : Int} (hl : 0 ≤ l) (h1 : q * (l + (l + 1)) ≤ 2 * l * (l + 1)) (h2 : 2 * l * (l + 1) < (q + 1) * (l + (l + 1))) : q = l := by
  have hp : 0 < l + (l + 1) := by omega
  have e : 2 * l * (l + 1) = l * (l + (l + 1)) + l := by
    have c1 : 2 * l * (l + 1) = 2 * (l * l) + 2 * l := by
      rw [Int.mul_add, Int.mul_one, Int.mul_assoc]
    have c2 : l * (l + (l + 1)) = l * l + (l * l + l) := by
      rw [Int.mul_add, Int.mul_add, Int.mul_one]
    omega
  have a : q < l + 1 := by
    refine Int.lt_of_mul_lt_mul_right (a := l + (l + 1)) ?_ (by omega)
    rw [Int.add_mul]
    omega
  have b : l < q + 1 := by
    refine Int.lt_of_mul_lt_mul_right (a := l + (l + 1)) ?_ (by omega)
    omega
  omega

/-- What a bucket stands for is near to every value in it. -/
theorem near {x n e : Int} (h : IsB x n e) (h0 : 0 ≤ x) (hm : x ≤ 1000000000) : 0 ≤ n ∧ n ≤ x ∧ 50 * (e - x) ≤ x + 50 ∧ 50 * (x - e) ≤ x + 50 ∧ 0 ≤ e ∧ e ≤ 2000000000 := by
  rcases h with ⟨h1, rfl, rfl⟩ | ⟨h1, h2, k, rfl, h3, h4, rfl⟩
  · omega
  · have g := bnd_ge k
    have hl := bnd_nonneg k
    have hs := bnd_step k
    have s1 := stand_lo hl (by omega : bnd k < bnd (k + 1))
    have s2 := stand_hi hl (by omega : bnd k < bnd (k + 1))
    have s0 := stand_nonneg hl (by omega : bnd k < bnd (k + 1))
    rcases bnd_cases k with hc | hc
    · rw [hc] at s1 s2 s0 h4 ⊢
      have e := near_slim hl s1 s2
      omega
    · have e := near_wide hl h3 h4 hc s1 s2
      omega

theorem near_top {n e : Int} (h : IsB 1000000000 n e) : 100 < n := by
  rcases h with ⟨h1, rfl, rfl⟩ | ⟨h1, h2, k, rfl, h3, h4, rfl⟩
  · omega
  · have e : bnd 101 ≤ 1000000000 := by decide +kernel
    by_cases hk : 100 < k
    · omega
    · have := bnd_mono (j := k + 1) (k := 101) (by omega)
      omega

theorem near_next {x n e m f : Int} (h : IsB x n e) (g : IsB (x + 1) m f) (h0 : 0 ≤ x) (hm : x < 1000000000) : (m = n ∧ f = e) ∨ (m = n + 1 ∧ e < f) := by
  rcases h with ⟨h1, rfl, rfl⟩ | ⟨h1, h2, k, rfl, h3, h4, rfl⟩
  · omega
  · by_cases hk : x + 1 < bnd (k + 1)
    · have e : IsB (x + 1) (k : Int) (stand (bnd k) (bnd (k + 1))) := Or.inr ⟨by omega, by omega, k, rfl, by omega, hk, rfl⟩
      have := isB_one g e
      exact Or.inl this
    · have hs : bnd (k + 1) + 1 ≤ bnd (k + 1 + 1) := bnd_step (k + 1)
      have e : IsB (x + 1) ((k + 1 : Nat) : Int) (stand (bnd (k + 1)) (bnd (k + 2))) := Or.inr ⟨by omega, by omega, k + 1, rfl, by omega, by omega, rfl⟩
      obtain ⟨e1, e2⟩ := isB_one g e
      refine Or.inr ⟨by omega, ?_⟩
      rw [e2]
      exact stand_rises

/-! ### Bounds for the walks -/
theorem stand_room {l h : Int} (hl : 0 ≤ l) (hl' : l ≤ 1000000000) (hh : 0 ≤ h) (hh' : h ≤ 2000000000) : 0 ≤ 2 * l * h ∧ 2 * l * h ≤ 4000000000000000000 := by
  constructor
  · exact Int.mul_nonneg (by omega) hh
  · have a : 2 * l * h ≤ 2000000000 * 2000000000 := Int.mul_le_mul (by omega) hh' hh (by omega)
    omega

theorem nxt_room {b : Int} (h1 : 0 ≤ b) (h2 : b ≤ 1000000000) : nxt b ≤ 2000000000 := by
  unfold nxt
  omega

end Go.Proofs.Ytenegfafjjknoaa.Bnd
