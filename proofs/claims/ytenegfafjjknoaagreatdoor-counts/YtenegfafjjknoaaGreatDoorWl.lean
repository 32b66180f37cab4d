/- Windows: a timer in one has taken something; how long a series' text is. -/
import Derived.Test.YtenegfafjjknoaaGreatDoorWz
import Derived.Test.YtenegfafjjknoaaGreatDoorAgx
namespace Go.Proofs.YtenegfafjjknoaaGreatDoor.Wm
open Im Opts

def Live (w : Win) : Prop := ∀ p ∈ w.ser, ∀ t, p.2 = Ser.tim t → 1 ≤ t.count

theorem live_stake {L : Lim} {m : Smp} {s : Ser} (hr : 1 ≤ m.rate ∧ m.rate ≤ 1000) (h : ∀ t, s = .tim t → 0 ≤ t.count) : ∀ t, (stake L m s).1 = .tim t → 1 ≤ t.count := by
  intro t ht
  cases s with
  | num n => simp [stake] at ht
  | set ws =>
    simp only [stake] at ht
    split at ht
    · cases ht
    · split at ht <;> cases ht
  | tim u =>
    simp only [stake] at ht
    injection ht with ht
    subst ht
    have h1 := h u rfl
    have h2 : 1 ≤ 1000 / m.rate := by
      rw [Int.le_ediv_iff_mul_le (by omega)]
      omega
    simp only [tadd, bnd, top]
    omega

theorem live_take {L : Lim} {m : Smp} {w : Win} (hr : 1 ≤ m.rate ∧ m.rate ≤ 1000) (h : Live w) : Live (wtake L w m) := by
  intro p hp t ht
  unfold wtake at hp
  split at hp
  · rename_i s hs
    rcases mem_put hp with e | ⟨e, _⟩
    · subst e
      refine live_stake hr (fun u hu => ?_) t ht
      have := h _ (getE_mem hs) u hu
      omega
    · exact h p e t ht
  · split at hp
    · exact h p hp t ht
    · rcases mem_put hp with e | ⟨e, _⟩
      · subst e
        refine live_stake hr (fun u hu => ?_) t ht
        unfold ser0 at hu
        split at hu
        · cases hu
        · split at hu
          · injection hu with hu
            subst hu
            exact Int.le_refl _
          · cases hu
      · exact h p e t ht

theorem live_line {L : Lim} {w : Win} (l : Bs) (h : Live w) : Live (wline L w l) := by
  unfold wline
  split
  · exact h
  · split
    · exact h
    · rename_i m hm
      exact live_take (Bounds.rd_short hm).2.2.2.2.1 h

theorem live_lines {L : Lim} (ls : List Bs) {w : Win} (h : Live w) : Live (ls.foldl (wline L) w) := by
  induction ls generalizing w with
  | nil => exact h
  | cons l r ih => exact ih (live_line l h)

theorem live_gram {L : Lim} {w : Win} (d : Bs) (h : Live w) : Live (wgram L w d) := live_lines _ h

theorem live_grams {L : Lim} (ds : List Bs) {w : Win} (h : Live w) : Live (ds.foldl (wgram L) w) := by
  induction ds generalizing w with
  | nil => exact h
  | cons l r ih => exact ih (live_gram l h)

theorem live0 : Live win0 := by
  intro p hp
  simp [win0] at hp

theorem join_len32 (m : Nat) (ls : List Bs) (h : ∀ x ∈ ls, x.length ≤ m) : (Lib.join ls [32]).length ≤ (m + 1) * ls.length := by
  induction ls with
  | nil => simp [Lib.join]
  | cons x l ih =>
    have hx := h x (List.mem_cons_self ..)
    have hi := ih fun y hy => h y (List.mem_cons_of_mem _ hy)
    cases l with
    | nil =>
      simp [Lib.join]
      omega
    | cons y l =>
      have e : Lib.join (x :: y :: l) [32] = x ++ [32] ++ Lib.join (y :: l) [32] := by
        simp [Lib.join, List.intercalate, List.intersperse]
      rw [e, List.length_append, List.length_append]
      simp only [List.length_cons, List.length_nil] at hi ⊢
      rw [Nat.mul_add]
      omega

theorem stext_len {L : Lim} {n : Nat} {k : Bs} {s : Ser} (h : SFit L n k s) (hs : L.sets ≤ 1000) : (stext s).length ≤ 200 := by
  cases s with
  | num x =>
    have h1 : -top ≤ x ∧ x ≤ top := h.ok
    simp only [top] at h1
    have := Hi.itoa_len (n := x) (by omega) (by omega)
    simp only [stext]
    omega
  | set ws =>
    have h1 : ws.length ≤ L.sets := h.ok.2
    have := Hi.itoa_len (n := (ws.length : Int)) (by omega) (by omega)
    simp only [stext]
    omega
  | tim t =>
    have hf : TFit L n t := h.ok
    have hr : ∀ x ∈ tnums t, -9223372036854775808 ≤ x ∧ x ≤ 9223372036854775807 := by
      intro x hx
      have q1 := hf.count
      have q2 := hf.sum
      have q3 := hf.least
      have q4 := hf.greatest
      have q5 := Hi.quant_range hf 50
      have q6 := Hi.quant_range hf 90
      have q7 := Hi.quant_range hf 99
      simp only [top] at q1 q2
      simp only [tnums, List.mem_cons, List.not_mem_nil, or_false] at hx
      rcases hx with rfl | rfl | rfl | rfl | rfl | rfl | rfl | rfl
      · omega
      · omega
      · omega
      · omega
      · omega
      · omega
      · omega
      · split <;> omega
    have := join_len32 20 ((tnums t).map Lib.itoa) (fun x hx => by
      obtain ⟨y, hy, rfl⟩ := List.mem_map.1 hx
      exact Hi.itoa_len (hr y hy).1 (hr y hy).2)
    simp only [stext]
    refine Nat.le_trans this ?_
    simp [tnums]

end Go.Proofs.YtenegfafjjknoaaGreatDoor.Wm
