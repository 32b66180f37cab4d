/- The two readers read the same rates and values. No Go in sight. -/
import Derived.Test.YtenegfafjjknoaaGreatDoorSame
import Derived.Test.YtenegfafjjknoaaGreatDoorRefl
namespace Go.Proofs.YtenegfafjjknoaaGreatDoor.Same
open Bytes Nums Refs Refl Vals

theorem num_zero_point (g : List UInt8) : num (48 :: 46 :: g) = dec g := by
  have h1 : fore 46 (48 :: 46 :: g) = [48] := rfl
  have h2 : aft 46 (48 :: 46 :: g) = g := rfl
  have h3 : has 46 (48 :: 46 :: g) = true := by simp [has]
  rw [num_point (by rw [h1]; decide +kernel) h3, h1, h2]
  have hv : val [48] = 0 := by decide +kernel
  rw [hv]
  cases dec g with
  | none => rfl
  | some p =>
    show some (0 * 1000 + p) = some p
    congr 1
    omega

theorem dec_nil : dec [] = none := rfl

theorem rok_eq (q : List UInt8) : rok q = rate q := by
  unfold rok rate
  by_cases h49 : q = [49]
  · rw [if_pos h49, if_pos h49]
  · rw [if_neg h49, if_neg h49]
    match q with
    | [] => rfl
    | [a] =>
      rw [if_pos (Or.inl (by simp)), if_neg]
      simp [List.isPrefixOf]
    | a :: b :: g =>
      by_cases ha : a = 48
      · by_cases hb : b = 46
        · subst ha hb
          rw [refNum_eq, num_zero_point]
          have hpre : [48, 46].isPrefixOf ((48 : UInt8) :: 46 :: g) = true := by simp [List.isPrefixOf]
          rw [if_pos hpre]
          show _ = (dec g).filter _
          cases hd : dec g with
          | none =>
            rw [if_pos (Or.inr (Or.inr (Or.inr (by show (-1 : Int) < 1; omega))))]
            rfl
          | some p =>
            have hlen : ¬ (48 :: 46 :: g : List UInt8).length < 3 := by
              cases g with
              | nil => rw [dec_nil] at hd; cases hd
              | cons x g => simp
            by_cases hp : p < 1
            · rw [if_pos (Or.inr (Or.inr (Or.inr (by show p < 1; exact hp))))]
              have : ¬ 0 < p := by omega
              simp [Option.filter, this]
            · rw [if_neg]
              · have : 0 < p := by omega
                simp [Option.filter, this]
              · rintro (h | h | h | h)
                · exact hlen h
                · exact h rfl
                · exact h rfl
                · exact hp h
        · rw [if_pos (Or.inr (Or.inr (Or.inl (by simpa using hb)))), if_neg]
          simp [List.isPrefixOf]
          intro _ h
          exact absurd h.symm hb
      · rw [if_pos (Or.inr (Or.inl (by simpa using ha))), if_neg]
        simp [List.isPrefixOf]
        intro h
        exact absurd h.symm ha

/-- No number begins with a sign. -/
theorem num_sign {b : UInt8} (t : List UInt8) (hb : dig (b.toNat : Int) = false) (hn : b ≠ 46) : num (b :: t) = none := by
  refine num_not ?_
  have hb' : (b != 46) = true := by simpa using hn
  have e : fore 46 (b :: t) = b :: fore 46 t := by
    simp only [fore, List.takeWhile_cons, hb', if_true]
  rw [e, made]
  simp [hb]

/-- How the document's reader keeps a type. -/
def kb (k : List UInt8) (g : Bool) : Int := if k = [99] then 99 else if k = [103] then (if g = true then 100 else 103) else if k = [115] then 115 else 109

def conv (x : List UInt8 × Bool × Int × List UInt8) : Int × Int × List UInt8 := (kb x.1 x.2.1, x.2.2.1, x.2.2.2)

theorem getD_none {l : List UInt8} (h : num l = none) : ¬ 0 ≤ refNum l := by
  rw [refNum_eq, h]
  decide

theorem getD_some {l : List UInt8} {n : Int} (h : num l = some n) : refNum l = n ∧ 0 ≤ n := by
  rw [refNum_eq, h]
  exact ⟨rfl, (num_some h).1⟩

theorem refVal_eq (k v : List UInt8) (rated : Bool) : refVal k v rated = if rated = true ∧ (k = [103] ∨ k = [115]) then none else (rv k v).map conv := by
  by_cases h1 : k = [99]
  · subst h1
    rw [if_neg (by simp), rv_c rfl, refVal, if_pos rfl, signed]
    match v with
    | [] => rfl
    | b :: t =>
      by_cases h45 : b = 45
      · subst h45
        have e1 : rsg ((45 : UInt8) :: t) = 45 := rfl
        have e2 : rrest ((45 : UInt8) :: t) = t := rfl
        have e3 : sg [45] ((45 : UInt8) :: t) = [45] := rfl
        rw [e1, e2, e3]
        show _ = (((num t).map _).map _).map _
        cases hn : num t with
        | none =>
          rw [if_neg (fun h => getD_none hn h.1)]
          rfl
        | some n =>
          obtain ⟨g1, g2⟩ := getD_some hn
          rw [g1, if_pos ⟨g2, by decide⟩]
          rfl
      · by_cases h43 : b = 43
        · subst h43
          have e1 : rsg ((43 : UInt8) :: t) = 43 := rfl
          have e3 : sg [45] ((43 : UInt8) :: t) = [] := rfl
          rw [e1, if_neg (by simp), e3]
          show none = (((num (43 :: t)).map _).map _).map _
          rw [num_sign t (by decide) (by decide)]
          rfl
        · have e1 : rsg (b :: t) = 0 := by simp [rsg, h45, h43]
          have e2 : rrest (b :: t) = b :: t := by rw [rrest, if_pos e1]
          have e3 : sg [45] (b :: t) = [] := by simp [sg, has, h45]
          rw [e1, e2, e3]
          show _ = (((num (b :: t)).map _).map _).map _
          cases hn : num (b :: t) with
          | none =>
            rw [if_neg (fun h => getD_none hn h.1)]
            rfl
          | some n =>
            obtain ⟨g1, g2⟩ := getD_some hn
            rw [g1, if_pos ⟨g2, by decide⟩]
            rfl
  · by_cases h2 : k = [103]
    · subst h2
      cases rated with
      | true =>
        rw [if_pos ⟨rfl, Or.inl rfl⟩, refVal, if_neg (by decide), if_pos rfl, if_neg (by simp)]
      | false =>
        rw [if_neg (by simp), rv_g rfl, refVal, if_neg (by decide), if_pos rfl, signed]
        match v with
        | [] => rfl
        | b :: t =>
          by_cases h45 : b = 45
          · subst h45
            have e1 : rsg ((45 : UInt8) :: t) = 45 := rfl
            have e2 : rrest ((45 : UInt8) :: t) = t := rfl
            have e3 : sg [43, 45] ((45 : UInt8) :: t) = [45] := rfl
            rw [e1, e2, e3]
            show _ = (((num t).map _).map _).map _
            cases hn : num t with
            | none =>
              rw [if_neg (fun h => getD_none hn h.1)]
              rfl
            | some n =>
              obtain ⟨g1, g2⟩ := getD_some hn
              rw [g1, if_pos ⟨g2, rfl⟩]
              rfl
          · by_cases h43 : b = 43
            · subst h43
              have e1 : rsg ((43 : UInt8) :: t) = 43 := rfl
              have e2 : rrest ((43 : UInt8) :: t) = t := rfl
              have e3 : sg [43, 45] ((43 : UInt8) :: t) = [43] := rfl
              rw [e1, e2, e3]
              show _ = (((num t).map _).map _).map _
              cases hn : num t with
              | none =>
                rw [if_neg (fun h => getD_none hn h.1)]
                rfl
              | some n =>
                obtain ⟨g1, g2⟩ := getD_some hn
                rw [g1, if_pos ⟨g2, rfl⟩]
                rfl
            · have e1 : rsg (b :: t) = 0 := by simp [rsg, h45, h43]
              have e2 : rrest (b :: t) = b :: t := by rw [rrest, if_pos e1]
              have e3 : sg [43, 45] (b :: t) = [] := by simp [sg, has, h45, h43]
              rw [e1, e2, e3]
              show _ = (((num (b :: t)).map _).map _).map _
              cases hn : num (b :: t) with
              | none =>
                rw [if_neg (fun h => getD_none hn h.1)]
                rfl
              | some n =>
                obtain ⟨g1, g2⟩ := getD_some hn
                rw [g1, if_pos ⟨g2, rfl⟩]
                rfl
    · by_cases h3 : k = [115]
      · subst h3
        cases rated with
        | true =>
          rw [if_pos ⟨rfl, Or.inr rfl⟩, refVal, if_neg (by decide), if_neg (by decide), if_pos rfl, if_neg (by simp)]
        | false =>
          rw [if_neg (by simp), rv_s rfl, refVal, if_neg (by decide), if_neg (by decide), if_pos rfl]
          cases hm : made let_ 16 v with
          | true => rfl
          | false => rfl
      · rw [if_neg (by rintro ⟨_, h | h⟩; exact h2 h; exact h3 h), refVal, if_neg h1, if_neg h2, if_neg h3]
        by_cases h4 : k = [109, 115] ∨ k = [104]
        · rw [if_pos h4, rv_m (h4.elim Or.inr Or.inl), signed]
          have e3 : sg [] v = [] := sg_none v
          rw [e3]
          show _ = (((num v).map _).map _).map _
          match v with
          | [] => rfl
          | b :: t =>
            by_cases h45 : b = 45
            · subst h45
              have e1 : rsg ((45 : UInt8) :: t) = 45 := rfl
              rw [e1, if_neg (by simp), num_sign t (by decide) (by decide)]
              rfl
            · by_cases h43 : b = 43
              · subst h43
                have e1 : rsg ((43 : UInt8) :: t) = 43 := rfl
                rw [e1, if_neg (by simp), num_sign t (by decide) (by decide)]
                rfl
              · have e1 : rsg (b :: t) = 0 := by simp [rsg, h45, h43]
                have e2 : rrest (b :: t) = b :: t := by rw [rrest, if_pos e1]
                rw [e1, e2]
                cases hn : num (b :: t) with
                | none =>
                  rw [if_neg (fun h => getD_none hn h.1)]
                  rfl
                | some n =>
                  obtain ⟨g1, g2⟩ := getD_some hn
                  rw [g1, if_pos ⟨g2, rfl⟩]
                  rfl
        · rw [if_neg h4]
          have : rv k v = none := by
            have h5 : ¬ (k = [104] ∨ k = [109, 115]) := fun h => h4 h.symm
            rw [rv, if_neg h3, if_neg h1, if_neg h2, if_neg h5]
          rw [this]
          rfl

end Go.Proofs.YtenegfafjjknoaaGreatDoor.Same
