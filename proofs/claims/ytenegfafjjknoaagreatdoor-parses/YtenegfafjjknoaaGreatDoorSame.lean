/- The two readers read the same numbers. No Go in sight. -/
import Derived.Test.YtenegfafjjknoaaGreatDoorRefs
import Derived.Test.YtenegfafjjknoaaGreatDoorVals
namespace Go.Proofs.YtenegfafjjknoaaGreatDoor.Same
open Bytes Nums Refs

/-- Digits behind a value. -/
def vf (v : Int) (l : List UInt8) : Int := l.foldl (fun n b => n * 10 + ((b.toNat : Int) - 48)) v

theorem vf_zero (l : List UInt8) : vf 0 l = val l := rfl

theorem run_lead (l : List UInt8) : ∀ (v wh : Int), 0 ≤ wh → wh ≤ 6 → digs l = true → nrun (v, wh, -1) l = if wh + l.length ≤ 6 then some (vf v l, wh + l.length, -1) else none := by
  induction l with
  | nil =>
    intro v wh h0 h6 _
    rw [nrun, if_pos (by simpa using h6)]
    simp [vf]
  | cons b l ih =>
    intro v wh h0 h6 hd
    simp only [digs, List.all_cons, Bool.and_eq_true] at hd
    rw [nrun, nstep, if_pos hd.1, if_pos (by dsimp only; omega)]
    dsimp only
    by_cases h : 6 < wh + 1
    · rw [if_pos h]
      have : ¬ wh + ((b :: l).length : Int) ≤ 6 := by
        simp only [List.length_cons]
        omega
      rw [if_neg this]
      rfl
    · rw [if_neg h, Option.bind_some, ih _ _ (by omega) (by omega) hd.2]
      have e : wh + 1 + (l.length : Int) = wh + ((b :: l).length : Int) := by
        simp only [List.length_cons]
        omega
      have e2 : vf (10 * v + ((b.toNat : Int) - 48)) l = vf v (b :: l) := by
        show vf _ l = vf (v * 10 + ((b.toNat : Int) - 48)) l
        congr 1
        omega
      rw [e, e2]

theorem run_tail (l : List UInt8) : ∀ (v wh rs : Int), 0 ≤ rs → rs ≤ 3 → digs l = true → nrun (v, wh, rs) l = if rs + l.length ≤ 3 then some (vf v l, wh, rs + l.length) else none := by
  induction l with
  | nil =>
    intro v wh rs h0 h3 _
    rw [nrun, if_pos (by simpa using h3)]
    simp [vf]
  | cons b l ih =>
    intro v wh rs h0 h3 hd
    simp only [digs, List.all_cons, Bool.and_eq_true] at hd
    rw [nrun, nstep, if_pos hd.1, if_neg (by dsimp only; omega)]
    dsimp only
    by_cases h : 3 < rs + 1
    · rw [if_pos h]
      have : ¬ rs + ((b :: l).length : Int) ≤ 3 := by
        simp only [List.length_cons]
        omega
      rw [if_neg this]
      rfl
    · rw [if_neg h, Option.bind_some, ih _ _ _ (by omega) (by omega) hd.2]
      have e : rs + 1 + (l.length : Int) = rs + ((b :: l).length : Int) := by
        simp only [List.length_cons]
        omega
      have e2 : vf (10 * v + ((b.toNat : Int) - 48)) l = vf v (b :: l) := by
        show vf _ l = vf (v * 10 + ((b.toNat : Int) - 48)) l
        congr 1
        omega
      rw [e, e2]

/-- A byte that is no digit, where no point may come. -/
theorem run_dead (l : List UInt8) : ∀ (st : Int × Int × Int), digs l = false → (st.2.2 < 0 → has 46 l = false) → nrun st l = none := by
  induction l with
  | nil => intro st h; simp [digs] at h
  | cons b l ih =>
    intro st hd hp
    rw [nrun]
    by_cases hb : dig (b.toNat : Int) = true
    · have hl : digs l = false := by
        simp only [digs, List.all_cons, hb, Bool.true_and] at hd
        exact hd
      cases hs : nstep st b with
      | none => rfl
      | some st' =>
        refine ih st' hl fun hneg => ?_
        have hst : st.2.2 < 0 := by
          unfold nstep at hs
          rw [if_pos hb] at hs
          split at hs
          · assumption
          · split at hs
            · cases hs
            · cases hs
              dsimp only at hneg
              omega
        have h1 := hp hst
        simp only [has, List.contains_cons, Bool.or_eq_false_iff] at h1
        exact h1.2
    · have hb' : dig (b.toNat : Int) = false := by simpa using hb
      have : nstep st b = none := by
        rw [nstep, hb']
        have hne : ¬ (b = 46 ∧ st.2.2 < 0) := by
          rintro ⟨rfl, h2⟩
          have h1 := hp h2
          simp [has] at h1
        simp only [Bool.false_eq_true, if_false, if_neg hne]
      rw [this]
      rfl

theorem fore_no (c : UInt8) (l : List UInt8) : has c (fore c l) = false := by
  induction l with
  | nil => rfl
  | cons b l ih =>
    by_cases h : b = c
    · subst h
      simp [fore, has]
    · simp only [fore, List.takeWhile_cons] at ih ⊢
      have hb : (b != c) = true := by simpa using h
      rw [hb, if_pos rfl]
      simp only [has, List.contains_cons] at ih ⊢
      have hc : (c == b) = false := by simpa using fun e => h e.symm
      rw [hc, ih]
      rfl

theorem split_at {c : UInt8} {l : List UInt8} (h : has c l = true) : l = fore c l ++ c :: aft c l := by
  induction l with
  | nil => simp [has] at h
  | cons b l ih =>
    by_cases hb : b = c
    · subst hb
      simp [fore, aft]
    · have hb' : (b != c) = true := by simpa using hb
      have hc : (c == b) = false := by simpa using fun e => hb e.symm
      have hl : has c l = true := by
        simp only [has, List.contains_cons, hc, Bool.false_or] at h
        exact h
      have e := ih hl
      have e1 : fore c (b :: l) = b :: fore c l := by
        simp only [fore, List.takeWhile_cons, hb', if_true]
      have e2 : aft c (b :: l) = aft c l := by
        simp only [aft, List.dropWhile_cons, hb', if_true]
      rw [e1, e2, List.cons_append, ← e]

theorem made_iff {most : Int} {l : List UInt8} : made dig most l = true ↔ l ≠ [] ∧ (l.length : Int) ≤ most ∧ digs l = true := by
  unfold made digs
  cases l with
  | nil => simp
  | cons b l => simp only [List.isEmpty_cons, Bool.not_false, Bool.true_and, Bool.and_eq_true, decide_eq_true_eq, ne_eq, reduceCtorEq, not_false_eq_true, true_and]

theorem vf_one (v : Int) (a : UInt8) : vf v [a] = v * 10 + ((a.toNat : Int) - 48) := rfl
theorem vf_two (v : Int) (a b : UInt8) : vf v [a, b] = (v * 10 + ((a.toNat : Int) - 48)) * 10 + ((b.toNat : Int) - 48) := rfl
theorem vf_three (v : Int) (a b c : UInt8) : vf v [a, b, c] = ((v * 10 + ((a.toNat : Int) - 48)) * 10 + ((b.toNat : Int) - 48)) * 10 + ((c.toNat : Int) - 48) := rfl

theorem dec_zero : dec [48] = some 0 := by decide +kernel

theorem nrun_dot (v wh : Int) (l : List UInt8) : nrun (v, wh, -1) (46 :: l) = nrun (v, wh, 0) l := by
  rw [nrun, nstep, if_neg (by decide), if_pos ⟨rfl, by dsimp only; omega⟩]
  rfl

/-- The document's number is the program's. -/
theorem refNum_eq (l : List UInt8) : refNum l = (num l).getD (-1) := by
  cases hp : has 46 l with
  | false =>
    have hf : fore 46 l = l := by
      rcases idx_cases l 46 with ⟨_, _, h, _⟩ | ⟨o, _, _, h, _⟩
      · exact h
      · rw [hp] at h
        cases h
    cases hm : made dig 6 l with
    | true =>
      obtain ⟨h1, h2, h3⟩ := made_iff.1 hm
      rw [num_plain (by rw [hf]; exact hm) hp, hf, dec_zero]
      have hr := run_lead l 0 0 (by omega) (by omega) h3
      rw [if_pos (by omega), vf_zero] at hr
      have hl : 1 ≤ l.length := by
        cases l with
        | nil => exact absurd rfl h1
        | cons b l => simp
      rw [refNum, hr]
      show nend _ = val l * 1000 + 0
      rw [nend, if_neg (by dsimp only; omega), if_pos (by dsimp only; omega)]
      dsimp only
      omega
    | false =>
      rw [num_not (by rw [hf]; exact hm)]
      show refNum l = -1
      rw [refNum]
      cases hd : digs l with
      | false => rw [run_dead l _ hd (fun _ => hp)]
      | true =>
        rw [run_lead l 0 0 (by omega) (by omega) hd]
        by_cases hl : (0 : Int) + l.length ≤ 6
        · rw [if_pos hl]
          have hn : l = [] := by
            cases l with
            | nil => rfl
            | cons b l =>
              exfalso
              rw [made_iff.2 ⟨by simp, by omega, hd⟩] at hm
              cases hm
          subst hn
          rfl
        · rw [if_neg hl]
  | true =>
    have hs := split_at hp
    cases hm : made dig 6 (fore 46 l) with
    | false =>
      rw [num_not hm]
      show refNum l = -1
      rw [refNum]
      cases hd : digs (fore 46 l) with
      | false =>
        have : nrun (0, 0, -1) l = none := by
          rw [hs, nrun_append, run_dead (fore 46 l) _ hd (fun _ => fore_no _ _)]
          rfl
        rw [this]
      | true =>
        have hr := run_lead (fore 46 l) 0 0 (by omega) (by omega) hd
        by_cases hl : (0 : Int) + (fore 46 l).length ≤ 6
        · have hn : fore 46 l = [] := by
            cases hfl : fore 46 l with
            | nil => rfl
            | cons b m =>
              exfalso
              rw [made_iff.2 ⟨by rw [hfl]; simp, by omega, hd⟩] at hm
              cases hm
          rw [hn, List.nil_append] at hs
          rw [hs, nrun_dot]
          cases hg : digs (aft 46 l) with
          | false => rw [run_dead _ _ hg (fun h => by dsimp only at h; omega)]
          | true =>
            rw [run_tail _ _ _ _ (by omega) (by omega) hg]
            by_cases hl3 : (0 : Int) + (aft 46 l).length ≤ 3
            · rw [if_pos hl3]
              show nend _ = -1
              rw [nend, if_pos (Or.inl (by dsimp only; omega))]
            · rw [if_neg hl3]
        · rw [if_neg hl] at hr
          have : nrun (0, 0, -1) l = none := by
            rw [hs, nrun_append, hr]
            rfl
          rw [this]
    | true =>
      obtain ⟨h1, h2, h3⟩ := made_iff.1 hm
      have hr := run_lead (fore 46 l) 0 0 (by omega) (by omega) h3
      rw [if_pos (by omega), vf_zero] at hr
      have hfl : 1 ≤ (fore 46 l).length := by
        cases hq : fore 46 l with
        | nil => exact absurd hq h1
        | cons b m => simp
      have hrun : nrun (0, 0, -1) l = nrun (val (fore 46 l), 0 + (fore 46 l).length, 0) (aft 46 l) := by
        conv => lhs; rw [hs]
        rw [nrun_append, hr, Option.bind_some, nrun_dot]
      rw [num_point hm hp, refNum, hrun]
      generalize val (fore 46 l) = V
      generalize hL : (0 : Int) + (fore 46 l).length = L
      have hL1 : ¬ L < 1 := by omega
      cases hg : digs (aft 46 l) with
      | false =>
        rw [run_dead _ _ hg (fun h => by dsimp only at h; omega)]
        have hd : dec (aft 46 l) = none := by
          rw [dec, if_neg]
          intro hh
          rw [(made_iff.1 hh).2.2] at hg
          cases hg
        rw [hd]
        rfl
      | true =>
        rw [run_tail _ _ _ _ (by omega) (by omega) hg]
        by_cases hl3 : (0 : Int) + (aft 46 l).length ≤ 3
        · rw [if_pos hl3]
          have hdm : aft 46 l ≠ [] → made dig 3 (aft 46 l) = true := fun hne => made_iff.2 ⟨hne, by omega, hg⟩
          generalize aft 46 l = g at hg hl3 hdm ⊢
          match g, hg, hl3, hdm with
          | [], _, _, _ =>
            show nend _ = _
            rw [nend, if_pos (Or.inr (by simp))]
            rfl
          | [a], _, _, hdm =>
            rw [dec, if_pos (hdm (by simp))]
            show nend (V * 10 + ((a.toNat : Int) - 48), L, 0 + 1) = V * 1000 + vf 0 [a, 48, 48]
            rw [nend, if_neg (by dsimp only; omega), if_neg (by dsimp only; omega), if_pos (by dsimp only; omega), vf_three]
            dsimp only
            have : ((48 : UInt8).toNat : Int) = 48 := rfl
            omega
          | [a, b], _, _, hdm =>
            rw [dec, if_pos (hdm (by simp))]
            show nend ((V * 10 + ((a.toNat : Int) - 48)) * 10 + ((b.toNat : Int) - 48), L, 0 + 2) = V * 1000 + vf 0 [a, b, 48]
            rw [nend, if_neg (by dsimp only; omega), if_neg (by dsimp only; omega), if_neg (by dsimp only; omega), if_pos (by dsimp only; omega), vf_three]
            dsimp only
            have : ((48 : UInt8).toNat : Int) = 48 := rfl
            omega
          | [a, b, c], _, _, hdm =>
            rw [dec, if_pos (hdm (by simp))]
            show nend (((V * 10 + ((a.toNat : Int) - 48)) * 10 + ((b.toNat : Int) - 48)) * 10 + ((c.toNat : Int) - 48), L, 0 + 3) = V * 1000 + vf 0 [a, b, c]
            rw [nend, if_neg (by dsimp only; omega), if_neg (by dsimp only; omega), if_neg (by dsimp only; omega), if_neg (by dsimp only; omega), vf_three]
            dsimp only
            omega
          | a :: b :: c :: d :: m, _, hl3, _ =>
            exfalso
            simp only [List.length_cons] at hl3
            omega
        · rw [if_neg hl3]
          have hd : dec (aft 46 l) = none := by
            rw [dec, if_neg]
            intro hh
            have := (made_iff.1 hh).2.1
            omega
          rw [hd]
          rfl

end Go.Proofs.YtenegfafjjknoaaGreatDoor.Same
