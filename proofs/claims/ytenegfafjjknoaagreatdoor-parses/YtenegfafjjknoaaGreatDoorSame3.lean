/- The two readers read the same lines. No Go in sight. -/
import Derived.Test.YtenegfafjjknoaaGreatDoorSame2
import Derived.Test.YtenegfafjjknoaaGreatDoorSorts
namespace Go.Proofs.YtenegfafjjknoaaGreatDoor.Same
open Bytes Nums Refs Refl Vals Opts Tags Spl Sorts Bounds

theorem tw_fore (c : UInt8) (l : List UInt8) : tw [c] l = fore c l := by
  unfold tw fore
  congr 1
  funext b
  show (!(b == c || false)) = !(b == c)
  rw [Bool.or_false]

theorem place (c : UInt8) {l : List UInt8} {q : Nat} (hq : q ≤ l.length) :
    (has c (l.drop q) = true ∧ q + (fore c (l.drop q)).length < l.length ∧ l.drop (q + (fore c (l.drop q)).length + 1) = aft c (l.drop q)) ∨
    (has c (l.drop q) = false ∧ q + (fore c (l.drop q)).length = l.length ∧ fore c (l.drop q) = l.drop q) := by
  rcases idx_cases (l.drop q) c with ⟨_, h2, h3, _⟩ | ⟨o, _, h0, h2, h3, h4⟩
  · refine Or.inr ⟨h2, ?_, h3⟩
    rw [h3, List.length_drop]
    omega
  · refine Or.inl ⟨h2, ?_⟩
    have e : (fore c (l.drop q)).length = o := by
      rw [h3, List.length_take]
      omega
    rw [List.length_drop] at h0
    rw [e, h4, List.drop_drop]
    exact ⟨by omega, by rw [Nat.add_assoc]⟩

theorem rtags_end {l : List UInt8} (k : Nat) {p : Nat} (h : ¬ p < l.length) (acc : List (List UInt8)) : rtags l k p acc = some acc := by
  cases k <;> rw [rtags, if_neg h]

/-- All pieces are tags, and not too many. -/
def okTags (k : Nat) (t : List UInt8) : Prop := (spl k t).length ≤ k ∧ (spl k t).all (made let_ 8) = true

def okT (k : Nat) (t : List UInt8) : Bool := decide ((spl k t).length ≤ k) && (spl k t).all (made let_ 8)

theorem okT_iff {k : Nat} {t : List UInt8} : okT k t = true ↔ okTags k t := by
  unfold okT okTags
  rw [Bool.and_eq_true, decide_eq_true_eq]

theorem rtags_eq {l : List UInt8} (k : Nat) : ∀ (q : Nat) (acc : List (List UInt8)), q < l.length → rtags l k q acc = if okT k (l.drop (q + 1)) = true then some (insAll acc (spl k (l.drop (q + 1)))) else none := by
  induction k with
  | zero =>
    intro q acc h
    rw [rtags, if_pos h, if_neg]
    intro hk
    have := (okT_iff.1 hk).1
    rw [spl] at this
    simp at this
  | succ k ih =>
    intro q acc h
    rw [rtags, if_pos h, tw_fore]
    rcases place 44 (l := l) (q := q + 1) (by omega) with ⟨h1, h2, h3⟩ | ⟨h1, h2, h3⟩
    · have es : spl (k + 1) (l.drop (q + 1)) = fore 44 (l.drop (q + 1)) :: spl k (aft 44 (l.drop (q + 1))) := by
        rw [spl, if_pos h1]
      cases hm : made let_ 8 (fore 44 (l.drop (q + 1))) with
      | false =>
        rw [if_neg (by simp), if_neg]
        intro hk
        have := (okT_iff.1 hk).2
        rw [es, List.all_cons, hm] at this
        simp at this
      | true =>
        rw [if_pos rfl, ih _ _ h2, h3, es]
        have e : okT (k + 1) (l.drop (q + 1)) = true ↔ okT k (aft 44 (l.drop (q + 1))) = true := by
          rw [okT_iff, okT_iff]
          unfold okTags
          rw [es, List.all_cons, hm, List.length_cons, Bool.true_and]
          exact ⟨fun h => ⟨by omega, h.2⟩, fun h => ⟨by omega, h.2⟩⟩
        by_cases hk : okT k (aft 44 (l.drop (q + 1))) = true
        · rw [if_pos hk, if_pos (e.2 hk)]
          rfl
        · rw [if_neg hk, if_neg (fun h => hk (e.1 h))]
    · have es : spl (k + 1) (l.drop (q + 1)) = [l.drop (q + 1)] := by
        rw [spl, h1]
        rfl
      rw [h2, rtags_end k (by omega), h3]
      cases hm : made let_ 8 (l.drop (q + 1)) with
      | false =>
        rw [if_neg (by simp), if_neg]
        intro hk
        have := (okT_iff.1 hk).2
        rw [es, List.all_cons, hm] at this
        simp at this
      | true =>
        rw [if_pos rfl, if_pos, es]
        · rfl
        · rw [okT_iff]
          unfold okTags
          rw [es, List.all_cons, hm]
          exact ⟨by simp, rfl⟩

theorem lastOk_made {l t : List UInt8} {q : Nat} (ht : l.drop q = t) (hm : made let_ 8 t = true) : lastOk l = true := by
  have hne : t ≠ [] := by
    intro e
    rw [e] at hm
    simp [made] at hm
  have hall : (t.all fun b => let_ b.toNat) = true := by
    unfold made at hm
    rw [Bool.and_eq_true, Bool.and_eq_true] at hm
    exact hm.2.2
  have el : l.getLast? = t.getLast? := by
    rw [← List.take_append_drop q l, ht, List.getLast?_append]
    cases h : t.getLast? with
    | none => exact absurd (List.getLast?_eq_none_iff.1 h) hne
    | some b => rfl
  have hb : ∃ b, t.getLast? = some b := ⟨t.getLast hne, List.getLast?_eq_some_getLast hne⟩
  obtain ⟨b, hb⟩ := hb
  have hbm : b ∈ t := List.mem_of_getLast? hb
  have hlet := List.all_eq_true.1 hall b hbm
  have h44 : b ≠ 44 := by
    intro e
    subst e
    exact absurd hlet (by decide)
  have h35 : b ≠ 35 := by
    intro e
    subst e
    exact absurd hlet (by decide)
  unfold lastOk
  rw [el, hb]
  simp [h44, h35]

theorem lastOk_tags {l : List UInt8} (k : Nat) : ∀ (q : Nat), q < l.length → okTags k (l.drop (q + 1)) → lastOk l = true := by
  induction k with
  | zero =>
    intro q h hk
    have := hk.1
    rw [spl] at this
    simp at this
  | succ k ih =>
    intro q h hk
    rcases place 44 (l := l) (q := q + 1) (by omega) with ⟨h1, h2, h3⟩ | ⟨h1, h2, h3⟩
    · have es : spl (k + 1) (l.drop (q + 1)) = fore 44 (l.drop (q + 1)) :: spl k (aft 44 (l.drop (q + 1))) := by
        rw [spl, if_pos h1]
      refine ih _ h2 ?_
      rw [h3]
      have h' := hk
      unfold okTags at h' ⊢
      rw [es, List.all_cons, List.length_cons, Bool.and_eq_true] at h'
      exact ⟨by omega, h'.2.2⟩
    · have es : spl (k + 1) (l.drop (q + 1)) = [l.drop (q + 1)] := by
        rw [spl, h1]
        rfl
      have h' := hk.2
      rw [es, List.all_cons, Bool.and_eq_true] at h'
      exact lastOk_made rfl h'.1

theorem head_iff (c : UInt8) {l : List UInt8} {p : Nat} : l[p]? = some c ↔ [c].isPrefixOf (l.drop p) = true := by
  have e : l[p]? = (l.drop p)[0]? := by
    rw [List.getElem?_drop, Nat.add_zero]
  rw [e]
  cases l.drop p with
  | nil => simp
  | cons b t =>
    show some b = some c ↔ (c == b && true) = true
    rw [Bool.and_true, beq_iff_eq]
    exact ⟨fun h => (Option.some.inj h).symm, fun h => congrArg some h.symm⟩

/-- Tags at a place are the tags of what stands behind. -/
theorem fin_eq {l n v k : List UInt8} {rated : Bool} {r : Int} {p : Nat} :
    fin l n v k rated r p = (refVal k v rated).bind fun x => if p < l.length then (tagsOf (l.drop (p + 1))).map fun t => ⟨n, x.1, x.2.1, x.2.2, r, t⟩ else some ⟨n, x.1, x.2.1, x.2.2, r, []⟩ := by
  unfold fin
  congr 1
  funext x
  by_cases hp : p < l.length
  · rw [if_pos hp, if_pos hp]
    by_cases h35 : l[p + 1]? = some 35
    · have hq : p + 1 < l.length := (List.getElem?_eq_some_iff.1 h35).1
      have hpre := (head_iff 35).1 h35
      rw [if_pos h35, rtags_eq 4 _ _ hq]
      have ed : (l.drop (p + 1)).drop 1 = l.drop (p + 1 + 1) := by rw [List.drop_drop]
      by_cases hk : okTags 4 (l.drop (p + 1 + 1))
      · have hl := lastOk_tags 4 _ hq hk
        rw [if_pos (okT_iff.2 hk), tagsOf_good hpre (by rw [ed]; exact hk.1) (by rw [ed]; exact hk.2), ed, ← tags_same]
        show (if lastOk l = true then _ else none) = _
        rw [if_pos hl]
        rfl
      · rw [if_neg (fun h => hk (okT_iff.1 h))]
        have hn : tagsOf (l.drop (p + 1)) = none := by
          rw [tagsOf, if_pos hpre, ed]
          unfold okTags at hk
          by_cases h4 : (spl 4 (l.drop (p + 1 + 1))).length ≤ 4
          · rw [if_pos h4, if_neg]
            exact fun h => hk ⟨h4, h⟩
          · rw [if_neg h4]
        rw [hn]
        rfl
    · have hpre : [35].isPrefixOf (l.drop (p + 1)) = false := by
        cases h : [35].isPrefixOf (l.drop (p + 1)) with
        | false => rfl
        | true => exact absurd ((head_iff 35).2 h) h35
      rw [if_neg h35, tagsOf_not hpre]
      rfl
  · rw [if_neg hp, if_neg hp]

theorem fin_lt {l n v k : List UInt8} {rated : Bool} {r : Int} {p : Nat} (hp : p < l.length) :
    fin l n v k rated r p = (refVal k v rated).bind fun x => (tagsOf (l.drop (p + 1))).map fun t => ⟨n, x.1, x.2.1, x.2.2, r, t⟩ := by
  rw [fin_eq]
  congr 1
  funext x
  rw [if_pos hp]

theorem fin_ge {l n v k : List UInt8} {rated : Bool} {r : Int} {p : Nat} (hp : ¬ p < l.length) :
    fin l n v k rated r p = (refVal k v rated).bind fun x => some ⟨n, x.1, x.2.1, x.2.2, r, []⟩ := by
  rw [fin_eq]
  congr 1
  funext x
  rw [if_neg hp]

theorem rv_kind {k l : List UInt8} {x : List UInt8 × Bool × Int × List UInt8} (h : rv k l = some x) : (x.1 = [103] ∨ x.1 = [115]) ↔ (k = [103] ∨ k = [115]) := by
  unfold rv at h
  split at h
  · rename_i hk
    split at h
    · cases h
      simp [hk]
    · cases h
  · split at h
    · rename_i hk
      rw [Option.map_eq_some_iff] at h
      obtain ⟨y, _, rfl⟩ := h
      simp [hk]
    · split at h
      · rename_i hk
        rw [Option.map_eq_some_iff] at h
        obtain ⟨y, _, rfl⟩ := h
        simp [hk]
      · split at h
        · rename_i h1 h2 h3 h4
          rw [Option.map_eq_some_iff] at h
          obtain ⟨y, _, rfl⟩ := h
          simp [h1, h3]
        · cases h

/-- What the program keeps, as the document keeps it. -/
def cv (m : Smp) : Rs := ⟨m.name, kb m.kind m.signed, m.value, m.word, m.rate, m.tags⟩

theorem opt_eq {l n v k : List UInt8} {p : Nat} (hp : p < l.length) :
    opt l n v k p = (rv k v).bind fun x => (opts x.1 (l.drop (p + 1))).map fun o => cv ⟨n, x.1, x.2.1, x.2.2.1, x.2.2.2, o.1, o.2⟩ := by
  unfold opt
  by_cases h64 : l[p + 1]? = some 64
  · have hq : p + 1 < l.length := (List.getElem?_eq_some_iff.1 h64).1
    have hpre := (head_iff 64).1 h64
    have ed : (l.drop (p + 1)).drop 1 = l.drop (p + 2) := by rw [List.drop_drop]
    rw [if_pos h64, tw_fore, rok_eq]
    cases hv : rv k v with
    | none =>
      have e : ∀ r pp, fin l n v k true r pp = none := by
        intro r pp
        rw [fin_eq, refVal_eq, hv]
        by_cases hk : k = [103] ∨ k = [115]
        · rw [if_pos ⟨rfl, hk⟩]
          rfl
        · rw [if_neg (fun h => hk h.2)]
          rfl
      cases rate (fore 124 (l.drop (p + 2))) with
      | none => rfl
      | some r => exact e r _
    | some x =>
      have hkd := rv_kind hv
      by_cases hk : k = [103] ∨ k = [115]
      · have e : ∀ r pp, fin l n v k true r pp = none := by
          intro r pp
          rw [fin_eq, refVal_eq, if_pos ⟨rfl, hk⟩]
          rfl
        rw [Option.bind_some, opts_bar hpre (hkd.2 hk)]
        cases rate (fore 124 (l.drop (p + 2))) with
        | none => rfl
        | some r => exact e r _
      · rw [Option.bind_some, opts_rate hpre (fun h => hk (hkd.1 h)), ed]
        cases hr : rate (fore 124 (l.drop (p + 2))) with
        | none => rfl
        | some r =>
          rw [Option.bind_some, Option.bind_some]
          rcases place 124 (l := l) (q := p + 2) (by omega) with ⟨h1, h2, h3⟩ | ⟨h1, h2, h3⟩
          · rw [fin_lt h2, refVal_eq, if_neg (fun h => hk h.2), hv, h3, h1, if_pos rfl]
            cases tagsOf (aft 124 (l.drop (p + 2))) <;> rfl
          · rw [fin_ge (by omega), refVal_eq, if_neg (fun h => hk h.2), hv, h1]
            rfl
  · have hpre : [64].isPrefixOf (l.drop (p + 1)) = false := by
      cases h : [64].isPrefixOf (l.drop (p + 1)) with
      | false => rfl
      | true => exact absurd ((head_iff 64).2 h) h64
    rw [if_neg h64, fin_lt hp, refVal_eq, if_neg (fun h => by cases h.1)]
    cases hv : rv k v with
    | none => rfl
    | some x =>
      rw [Option.bind_some, opts_tags hpre]
      cases tagsOf (l.drop (p + 1)) <;> rfl

theorem opt_end {l n v k : List UInt8} {p : Nat} (hp : ¬ p < l.length) :
    opt l n v k p = (rv k v).bind fun x => some (cv ⟨n, x.1, x.2.1, x.2.2.1, x.2.2.2, 1000, []⟩) := by
  unfold opt
  rw [if_neg, fin_ge hp, refVal_eq, if_neg (fun h => by cases h.1)]
  · cases rv k v <;> rfl
  · intro h
    have := (List.getElem?_eq_some_iff.1 h).1
    omega

theorem val2_eq {l n : List UInt8} {p : Nat} (hp : p + 1 ≤ l.length) : val2 l n p = (rdBehind n (l.drop (p + 1))).map cv := by
  unfold val2 rdBehind
  simp only [tw_fore]
  rcases place 124 (l := l) (q := p + 1) hp with ⟨h1, h2, h3⟩ | ⟨h1, h2, h3⟩
  · rw [if_pos h2, if_pos h1, h3]
    rcases place 124 (l := l) (q := p + 1 + (fore 124 (l.drop (p + 1))).length + 1) (by omega) with ⟨k1, k2, k3⟩ | ⟨k1, k2, k3⟩
    · rw [h3] at k1 k2 k3
      rw [opt_eq k2, k3, k1]
      cases rv (fore 124 (aft 124 (l.drop (p + 1)))) (fore 124 (l.drop (p + 1))) with
      | none => rfl
      | some x =>
        rw [Option.bind_some, Option.bind_some, if_pos rfl, Option.map_map]
        rfl
    · rw [h3] at k1 k2 k3
      rw [opt_end (by omega), k1]
      cases rv (fore 124 (aft 124 (l.drop (p + 1)))) (fore 124 (l.drop (p + 1))) with
      | none => rfl
      | some x => rfl
  · rw [if_neg (by omega), h1]
    rfl

theorem name_hit : ∀ {l : List UInt8}, l[(tw [58, 124] l).length]? = some 58 → has 58 l = true ∧ tw [58, 124] l = fore 58 l := by
  intro l
  induction l with
  | nil => intro h; simp at h
  | cons b l ih =>
    intro h
    by_cases h1 : b = 58
    · subst h1
      exact ⟨by simp [has], rfl⟩
    · by_cases h2 : b = 124
      · subst h2
        simp [tw] at h
      · have e : tw [58, 124] (b :: l) = b :: tw [58, 124] l := by
          simp [tw, h1, h2]
        rw [e, List.length_cons, List.getElem?_cons_succ] at h
        obtain ⟨i1, i2⟩ := ih h
        refine ⟨?_, ?_⟩
        · simp only [has] at i1 ⊢
          rw [List.contains_cons, i1, Bool.or_true]
        · rw [e, i2]
          simp [fore, h1]

theorem name_made : ∀ {l : List UInt8}, has 58 l = true → ((fore 58 l).all fun b => nam b.toNat) = true → tw [58, 124] l = fore 58 l ∧ l[(fore 58 l).length]? = some 58 := by
  intro l
  induction l with
  | nil => intro h; simp [has] at h
  | cons b l ih =>
    intro h hm
    by_cases h1 : b = 58
    · subst h1
      exact ⟨rfl, rfl⟩
    · have ef : fore 58 (b :: l) = b :: fore 58 l := by simp [fore, h1]
      rw [ef, List.all_cons, Bool.and_eq_true] at hm
      have h2 : b ≠ 124 := by
        intro e
        subst e
        exact absurd hm.1 (by decide)
      have hh : has 58 l = true := by
        simp only [has] at h ⊢
        rw [List.contains_cons, Bool.or_eq_true] at h
        rcases h with h | h
        · exact absurd (by simpa using h : (58 : UInt8) = b).symm h1
        · exact h
      obtain ⟨i1, i2⟩ := ih hh hm.2
      refine ⟨?_, ?_⟩
      · rw [ef, ← i1]
        simp [tw, h1, h2]
      · rw [ef, List.length_cons, List.getElem?_cons_succ]
        exact i2

/-- THE LINES: what the document reads is what the program reads. -/
theorem refRd_eq (l : List UInt8) : refRd l = (rd l).map cv := by
  unfold refRd rd
  by_cases hn : has 58 l = true ∧ made nam 16 (fore 58 l) = true
  · have hall : ((fore 58 l).all fun b => nam b.toNat) = true := by
      have h := hn.2
      unfold made at h
      rw [Bool.and_eq_true, Bool.and_eq_true] at h
      exact h.2.2
    obtain ⟨e1, e2⟩ := name_made hn.1 hall
    have hp := (List.getElem?_eq_some_iff.1 e2).1
    rw [e1, if_pos ⟨hn.2, e2⟩, if_pos hn.1, if_pos hn.2, val2_eq (by omega)]
    rcases place 58 (l := l) (q := 0) (by omega) with ⟨_, _, h3⟩ | ⟨h1, _, _⟩
    · rw [List.drop_zero, Nat.zero_add] at h3
      rw [h3]
    · rw [List.drop_zero] at h1
      rw [h1] at hn
      cases hn.1
  · have hr : (if has 58 l = true then (if made nam 16 (fore 58 l) = true then rdBehind (fore 58 l) (aft 58 l) else none) else none) = none := by
      split
      · split
        · exact absurd ⟨by assumption, by assumption⟩ hn
        · rfl
      · rfl
    rw [hr, if_neg]
    · rfl
    · rintro ⟨k1, k2⟩
      obtain ⟨i1, i2⟩ := name_hit k2
      rw [i2] at k1
      exact hn ⟨i1, k1⟩

end Go.Proofs.YtenegfafjjknoaaGreatDoor.Same
