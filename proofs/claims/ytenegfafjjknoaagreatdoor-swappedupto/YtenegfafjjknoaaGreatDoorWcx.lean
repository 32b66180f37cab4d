/- Lines that are put together: counters, timers. No Go in sight. A line that is one has no newline. No Go in sight. -/
import Derived.Test.YtenegfafjjknoaaGreatDoorAgx
import Derived.Test.YtenegfafjjknoaaGreatDoorSpn
namespace Go.Proofs.YtenegfafjjknoaaGreatDoor.Wm
open Im Opts

theorem wn_thousand (x : Nat) : Plain.wn (1000 * (x : Int)) = Lib.decDigits x := by
  rw [Ag.wn_nonneg (by omega)]
  have e : (1000 * (x : Int)).natAbs = 1000 * x := by omega
  rw [e]
  unfold Plain.wnAbs
  rw [if_pos (by omega), List.append_nil]
  congr 1
  omega

def cLine (x : Nat) : Bs := [99, 58] ++ Lib.decDigits x ++ [124, 99]
def tLine (x : Nat) : Bs := [116, 58] ++ Lib.decDigits x ++ [124, 109, 115]

theorem rd_cLine {x : Nat} (h : x ≤ 999999) : rd (cLine x) = some (cSmp (1000 * x)) := by
  have := Ag.rd_back (m := cSmp (1000 * x)) ⟨show Bytes.made Bytes.nam 16 [99] = true by decide, Or.inr ⟨rfl, by show -999999999 ≤ 1000 * (x : Int); omega, by show 1000 * (x : Int) ≤ 999999999; omega, Or.inl ⟨rfl, rfl⟩⟩, Or.inl rfl, show (1 : Int) ≤ 1000 by decide, show (1000 : Int) ≤ 1000 by decide, Or.inl rfl⟩
  rw [← this]
  congr 1
  show _ = [99] ++ [58] ++ Ag.pvf [99] false (1000 * x) [] ++ [124] ++ [99] ++ [] ++ []
  unfold Ag.pvf Ag.pn
  rw [if_neg (by decide), if_neg (by simp), wn_thousand]
  simp [cLine]

theorem rd_tLine {x : Nat} (h : x ≤ 999999) : rd (tLine x) = some (tSmp (1000 * x)) := by
  have := Ag.rd_back (m := tSmp (1000 * x)) ⟨show Bytes.made Bytes.nam 16 [116] = true by decide, Or.inr ⟨rfl, by show -999999999 ≤ 1000 * (x : Int); omega, by show 1000 * (x : Int) ≤ 999999999; omega, Or.inr (Or.inr ⟨rfl, rfl, by show 0 ≤ 1000 * (x : Int); omega⟩)⟩, Or.inl rfl, show (1 : Int) ≤ 1000 by decide, show (1000 : Int) ≤ 1000 by decide, Or.inl rfl⟩
  rw [← this]
  congr 1
  show _ = [116] ++ [58] ++ Ag.pvf [109, 115] false (1000 * x) [] ++ [124] ++ [109, 115] ++ [] ++ []
  unfold Ag.pvf Ag.pn
  rw [if_neg (by decide), if_neg (by simp), wn_thousand]
  simp [tLine]

theorem dd_no_nl (x : Nat) : (10 : UInt8) ∉ Lib.decDigits x := Ag.digs_not (Ag.dd_val x).1 (by decide)

/-- Either line, by one number. -/
def lineOf (p : Bool × Nat) : Bs := if p.1 then tLine p.2 else cLine p.2
def smpOf (p : Bool × Nat) : Smp := if p.1 then tSmp (1000 * p.2) else cSmp (1000 * p.2)

theorem line_take {L : Lim} {w : Win} {p : Bool × Nat} (h : p.2 ≤ 999999) : wgram L w (lineOf p) = wtake L w (smpOf p) := by
  obtain ⟨b, x⟩ := p
  have h10 : (10 : UInt8) ∉ lineOf (b, x) := by
    have := dd_no_nl x
    cases b <;> simp [lineOf, tLine, cLine, this]
  rw [wgram, lines_one h10, List.foldl_cons, List.foldl_nil, wline]
  cases b with
  | true =>
    rw [if_neg (by simp [lineOf, tLine])]
    simp only [lineOf, smpOf, if_true]
    rw [rd_tLine h]
  | false =>
    rw [if_neg (by simp [lineOf, cLine])]
    simp only [lineOf, smpOf, Bool.false_eq_true, if_false]
    rw [rd_cLine h]

theorem wsum_lines {L : Lim} (l : List (Bool × Nat)) (h : ∀ p ∈ l, p.2 ≤ 999999) : wsum L (l.map lineOf) = (l.map smpOf).foldl (wtake L) win0 := by
  unfold wsum
  have key : ∀ (l : List (Bool × Nat)) (w : Win), (∀ p ∈ l, p.2 ≤ 999999) → (l.map lineOf).foldl (wgram L) w = (l.map smpOf).foldl (wtake L) w := by
    intro l
    induction l with
    | nil => intro w _; rfl
    | cons p r ih =>
      intro w hp
      simp only [List.map_cons, List.foldl_cons]
      rw [line_take (hp p (List.mem_cons_self ..)), ih _ fun q hq => hp q (List.mem_cons_of_mem _ hq)]
  exact key l win0 h

/-- Rows of such lines, in any order. -/
theorem swapped_same {s : Nat} {l r : List (Bool × Nat)} (hp : l.Perm r) (h : ∀ p ∈ l, p.2 ≤ 999 ∧ (p.1 = true → p.2 < 30)) : wsum (L32 s) (l.map lineOf) = wsum (L32 s) (r.map lineOf) := by
  rw [wsum_lines l fun p hp => by have := (h p hp).1; omega, wsum_lines r fun p hp' => by have := (h p (hp.mem_iff.2 hp')).1; omega]
  refine takes_perm (hp.map smpOf) fun m hm => ?_
  obtain ⟨p, hp, rfl⟩ := List.mem_map.1 hm
  obtain ⟨b, x⟩ := p
  cases b with
  | true => exact Or.inr ⟨_, ⟨x, (h _ hp).2 rfl, rfl⟩, rfl⟩
  | false => exact Or.inl ⟨_, by omega, rfl⟩

theorem foldl_ser_ne {L : Lim} (hL : 1 ≤ L.series) (l : List Smp) : ∀ w : Win, w.ser ≠ [] ∨ l ≠ [] → (l.foldl (wtake L) w).ser ≠ [] := by
  induction l with
  | nil => intro w h; exact h.resolve_right (by simp)
  | cons m r ih =>
    intro w h
    refine ih _ (Or.inl ?_)
    unfold wtake
    split
    · exact put_ne
    · split
      · rename_i hlen
        intro e
        simp only at e
        rw [e] at hlen
        simp at hlen
        omega
      · exact put_ne

theorem wtext_len {n : Int} {w : Win} (h : w.ser ≠ []) : 28 < (wtext n w).length := by
  have h1 := stexts_len h
  have h2 := whead_len n w.rejects w.drops
  simp only [wtext, List.length_append]
  omega

/-! ### A counter's line, put together -/
def nSmp (n t : Bs) (x : Nat) : Smp := ⟨n, [99], false, 1000 * x, [], 1000, [t]⟩
def nLine (n t : Bs) (x : Nat) : Bs := n ++ [58] ++ Lib.decDigits x ++ [124, 99, 124, 35] ++ t

theorem nSmp_ok {n t : Bs} {x : Nat} (hn : Bytes.made Bytes.nam 16 n = true) (ht : Bytes.made Bytes.let_ 8 t = true) (h : x ≤ 999999) : Ag.Smpl (nSmp n t x) :=
  ⟨hn, Or.inr ⟨rfl, by show -999999999 ≤ 1000 * (x : Int); omega, by show 1000 * (x : Int) ≤ 999999999; omega, Or.inl ⟨rfl, rfl⟩⟩, Or.inr ⟨List.pairwise_singleton _ _, by simp [nSmp], by simp [nSmp], by simpa [nSmp] using ht⟩, by simp [nSmp], by simp [nSmp], Or.inl rfl⟩

theorem nLine_is (n t : Bs) (x : Nat) : nLine n t x = Ag.pform n [99] false (1000 * x) [] 1000 [t] := by
  unfold Ag.pform Ag.pvf Ag.pn Plain.pt
  rw [if_neg (by decide), if_neg (by simp), if_pos rfl, if_neg (by simp), wn_thousand]
  simp [nLine, Lib.join_one]

theorem rd_nLine {n t : Bs} {x : Nat} (hn : Bytes.made Bytes.nam 16 n = true) (ht : Bytes.made Bytes.let_ 8 t = true) (h : x ≤ 999999) : rd (nLine n t x) = some (nSmp n t x) := by
  rw [nLine_is]
  exact Ag.rd_back (nSmp_ok hn ht h)

theorem made_no_nl {p : Int → Bool} (hp : p 10 = false) {most : Int} {l : Bs} (h : Bytes.made p most l = true) : (10 : UInt8) ∉ l := by
  intro hm
  simp only [Bytes.made, Bool.and_eq_true, List.all_eq_true] at h
  have := h.2.2 10 hm
  change p 10 = true at this
  rw [hp] at this
  cases this

theorem counts_text {L : Lim} (hL : 1 ≤ L.series) {n t : Bs} {x : Nat} (hn : Bytes.made Bytes.nam 16 n = true) (ht : Bytes.made Bytes.let_ 8 t = true) (h : x ≤ 999999) :
    wtext 0 (wsum L [nLine n t x]) = whead 0 0 0 ++ (n ++ [124, 99, 124, 35] ++ t) ++ [61] ++ Lib.decDigits (1000 * x) ++ [10] := by
  have h10 : (10 : UInt8) ∉ nLine n t x := by
    have h1 := dd_no_nl x
    have h2 := made_no_nl (by decide) hn
    have h3 := made_no_nl (by decide) ht
    simp [nLine, h1, h2, h3]
  have hne : nLine n t x ≠ [] := by simp [nLine]
  have hk : key (nSmp n t x) = n ++ [124, 99, 124, 35] ++ t := by
    show n ++ [124] ++ [99] ++ Plain.pt [t] = _
    unfold Plain.pt
    rw [if_neg (by simp)]
    simp [Lib.join_one]
  have e : wline L win0 (nLine n t x) = ⟨0, 0, [(key (nSmp n t x), .num (1000 * x))]⟩ := by
    rw [wline, if_neg hne, rd_nLine hn ht h]
    show wtake L win0 (nSmp n t x) = _
    unfold wtake
    rw [show getE (key (nSmp n t x)) win0.ser = none from rfl]
    simp only
    rw [if_neg (by show ¬ L.series ≤ 0; omega)]
    have e1 : stake L (nSmp n t x) (ser0 (nSmp n t x).kind) = (.num (1000 * x), true) := by
      have e2 : ((1000 * (x : Int)) * 1000).tdiv 1000 = 1000 * x := Int.mul_tdiv_cancel _ (by decide)
      show (Ser.num (bnd (if ([99] : Bs) = [99] then ((1000 * (x : Int)) * 1000).tdiv 1000 + 0 else _)), true) = _
      rw [if_pos rfl, e2]
      congr 2
      simp only [bnd, top]
      omega
    rw [e1]
    rfl
  rw [wsum_one L h10, e]
  show whead 0 0 0 ++ (key (nSmp n t x) ++ [61] ++ Lib.itoa (1000 * (x : Int)) ++ [10] ++ []) = _
  rw [hk, show (1000 * (x : Int)) = ((1000 * x : Nat) : Int) by omega, Lib.itoa_nonneg]
  simp

end Go.Proofs.YtenegfafjjknoaaGreatDoor.Wm

namespace Go.Proofs.YtenegfafjjknoaaGreatDoor.Wm
open Im Opts Bytes Nums Spl Tags Vals

abbrev NL : UInt8 := 10

theorem nl_cut {c : UInt8} (hc : NL ≠ c) {l : Bs} (h1 : NL ∉ fore c l) (h2 : has c l = true → NL ∉ aft c l) : NL ∉ l := by
  cases hh : has c l with
  | true =>
    rw [Spn.cut_at hh]
    simp [h1, h2 hh, hc]
  | false =>
    rcases idx_cases l c with ⟨_, _, h, _⟩ | ⟨o, _, _, h, _⟩
    · rw [h] at h1
      exact h1
    · rw [hh] at h
      cases h

theorem nl_drop {l : Bs} {k : Nat} {p : Bs} (hp : p.isPrefixOf l = true) (hk : p.length = k) (h0 : NL ∉ p) (h : NL ∉ l.drop k) : NL ∉ l := by
  obtain ⟨t, rfl⟩ := List.isPrefixOf_iff_prefix.1 hp
  subst hk
  simp only [List.drop_left] at h
  simp [h0, h]

theorem nl_spl (k : Nat) : ∀ l : Bs, (∀ x ∈ spl k l, NL ∉ x) → NL ∉ l := by
  induction k with
  | zero => intro l h; exact h l (by simp [spl])
  | succ k ih =>
    intro l h
    rw [spl] at h
    split at h
    · exact nl_cut (c := 44) (by decide) (h _ (List.mem_cons_self ..)) fun _ => ih _ fun x hx => h x (List.mem_cons_of_mem _ hx)
    · exact h l (List.mem_cons_self ..)

theorem nl_tags {l : Bs} {ls : List Bs} (h : tagsOf l = some ls) : NL ∉ l := by
  rw [tagsOf] at h
  split at h
  · rename_i hp
    split at h
    · split at h
      · rename_i ha
        refine nl_drop hp rfl (by decide) (nl_spl 4 _ fun x hx => ?_)
        exact made_no_nl (p := let_) (by decide) (List.all_eq_true.1 ha x hx)
      · cases h
    · cases h
  · cases h

theorem nl_dec {l : Bs} {n : Int} (h : dec l = some n) : NL ∉ l := by
  rw [dec] at h
  split at h
  · rename_i hm
    exact made_no_nl (p := dig) (by decide) hm
  · cases h

theorem nl_rate {l : Bs} {n : Int} (h : rate l = some n) : NL ∉ l := by
  rw [rate] at h
  split at h
  · rename_i e
    rw [e]
    decide
  · split at h
    · rename_i hp
      have h2 := Option.filter_eq_some_iff.1 h
      exact nl_drop hp rfl (by decide) (nl_dec h2.1)
    · cases h

theorem nl_num {l : Bs} {n : Int} (h : num l = some n) : NL ∉ l := by
  rw [num] at h
  split at h
  · rename_i hm
    refine nl_cut (c := 46) (by decide) (made_no_nl (p := dig) (by decide) hm) fun hh => ?_
    rw [if_pos hh] at h
    obtain ⟨p, hp, _⟩ := Option.map_eq_some_iff.1 h
    exact nl_dec hp
  · cases h

theorem nl_opts {k l : Bs} {r : Int} {ls : List Bs} (h : opts k l = some (r, ls)) : NL ∉ l := by
  rw [opts] at h
  split at h
  · rename_i hp
    split at h
    · cases h
    · obtain ⟨x, hx, h2⟩ := Option.bind_eq_some_iff.1 h
      refine nl_drop (k := 1) hp rfl (by decide) (nl_cut (c := 124) (by decide) (nl_rate hx) fun hh => ?_)
      rw [if_pos hh] at h2
      obtain ⟨t, ht, _⟩ := Option.map_eq_some_iff.1 h2
      exact nl_tags ht
  · obtain ⟨t, ht, _⟩ := Option.map_eq_some_iff.1 h
    exact nl_tags ht

theorem nl_signed {t l : Bs} {x : Bs × Int} (ht : NL ∉ t) (h : signed t l = some x) : NL ∉ l := by
  rw [signed] at h
  obtain ⟨n, hn, _⟩ := Option.map_eq_some_iff.1 h
  have h1 := nl_num hn
  cases l with
  | nil => simp
  | cons b r =>
    rw [sg] at h1
    split at h1
    · rename_i hb
      have hbt : b ∈ t := by simpa [Bytes.has] using hb
      simp only [List.length_cons, List.length_nil, List.drop_succ_cons, List.drop_zero] at h1
      intro hm
      rcases List.mem_cons.1 hm with e | e
      · exact ht (e ▸ hbt)
      · exact h1 e
    · exact h1

theorem nl_rv {k l : Bs} {x : Bs × Bool × Int × Bs} (h : rv k l = some x) : NL ∉ l ∧ NL ∉ k := by
  rw [rv] at h
  split at h
  · rename_i e
    split at h
    · rename_i hm
      exact ⟨made_no_nl (p := let_) (by decide) hm, by rw [e]; decide⟩
    · cases h
  · split at h
    · rename_i e
      obtain ⟨y, hy, _⟩ := Option.map_eq_some_iff.1 h
      exact ⟨nl_signed (by decide) hy, by rw [e]; decide⟩
    · split at h
      · rename_i e
        obtain ⟨y, hy, _⟩ := Option.map_eq_some_iff.1 h
        exact ⟨nl_signed (by decide) hy, by rw [e]; decide⟩
      · split at h
        · rename_i e
          obtain ⟨y, hy, _⟩ := Option.map_eq_some_iff.1 h
          refine ⟨nl_signed (by simp) hy, ?_⟩
          rcases e with e | e <;> rw [e] <;> decide
        · cases h

theorem rd_nl {l : Bs} {m : Smp} (h : rd l = some m) : NL ∉ l := by
  rw [rd] at h
  split at h
  · split at h
    · rename_i hm
      refine nl_cut (c := 58) (by decide) (made_no_nl (p := nam) (by decide) hm) fun _ => ?_
      rw [rdBehind] at h
      split at h
      · obtain ⟨x, hx, h2⟩ := Option.bind_eq_some_iff.1 h
        obtain ⟨h3, h4⟩ := nl_rv hx
        refine nl_cut (c := 124) (by decide) h3 fun _ => ?_
        refine nl_cut (c := 124) (by decide) h4 fun hh => ?_
        rw [if_pos hh] at h2
        obtain ⟨o, ho, _⟩ := Option.map_eq_some_iff.1 h2
        exact nl_opts (r := o.1) (ls := o.2) ho
      · cases h
    · cases h
  · cases h

end Go.Proofs.YtenegfafjjknoaaGreatDoor.Wm
