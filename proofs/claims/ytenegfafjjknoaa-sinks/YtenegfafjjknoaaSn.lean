/- A sink of the law in memory: the program's sink, the messages by rising windows, the lists that came out. -/
import Derived.Test.YtenegfafjjknoaaSy
namespace Go.Proofs.Ytenegfafjjknoaa.Sk
open Go.RowKit Go.Maps Go.Shelf Mem Foot Im

/-- Where it lies. -/
structure LI where
  X : Nat
  mb : Option Nat
  lw : Value
  lv : Value
  gv : Value
  vs : List Value
  gs : List Value

/-- What the caller writes. -/
def mark (i : Nat) : Ms := ⟨(i : Int), ⟨#[116, 104, 101, 32, 99, 97, 108, 108, 101, 114, 39, 115]⟩⟩

/-- A slice full of one message. -/
def Marks (w : World) (v : Value) (n : Nat) (m : Ms) : Prop := ∃ ao cv, v = .slice ao n cv ∧ (n ≠ 0 → ∃ b cs, ao = some ⟨b, 0, none⟩ ∧ n ≤ cv ∧ Sits w b 36 cs ∧ ∀ j : Nat, j < n → cs[j * 2]? = some (.int .i64 m.k) ∧ cs[j * 2 + 1]? = some (.string m.t))

def Ent (w : World) (i : Nat) (v g : Value) : Prop := ∃ n : Nat, n ≤ 4000000000000 ∧ Marks w v n (mark i) ∧ Marks w g (n + 3) (mark i)

structure Sn (w : World) (S : Nat) (ms : List Ms) (p : LI) : Prop where
  head : Sits w S 33 #[.pointer (some ⟨p.X, 0, none⟩), p.lw, p.lv, p.gv]
  sk : SK w p.X p.mb ms
  rise : Rise ms
  own : w.ownsRow 0 36 2 p.lw ms.length (mcells ms)
  lists : w.ownsRow 0 30 1 p.lv p.vs.length p.vs
  grown : w.ownsRow 0 30 1 p.gv p.gs.length p.gs
  len : p.gs.length = p.vs.length
  ent : ∀ (i : Nat) v g, p.vs[i]? = some v → p.gs[i]? = some g → Ent w i v g
  apart : p.lv.ownBlock = none ∨ p.lv.ownBlock ≠ p.gv.ownBlock

/-- What it may write. -/
def foot (S : Nat) (p : LI) : List Nat := S :: p.X :: (p.mb.toList ++ p.lv.ownBlock.toList ++ p.gv.ownBlock.toList)

theorem so {w w' : World} {c : Nat} {F : List Nat} {t : TypeId} {cs : Array Value} (h : Sits w c t cs) (ho : Off F w w') (hc : c ∉ F) : Sits w' c t cs := Foot.Sits.off h ho hc

theorem sits_ne {w : World} {k k' : Nat} {t t' : TypeId} {cs cs' : Array Value} (h : Sits w k t cs) (h' : Sits w k' t' cs') (ht : t ≠ t') : k ≠ k' := by
  intro e
  subst e
  unfold Sits at h h'
  rw [h] at h'
  injection h' with h'
  injection h' with _ h2
  exact ht h2

theorem sits_row {w : World} {base size n : Nat} {e : TypeId} {v : Value} {xs : List Value} (h : w.ownsRow base e size v n xs) {k : Nat} (hk : k ∈ v.ownBlock.toList) : ∃ cs, Sits w k e cs := by
  have hk' : v.ownBlock = some k := by simpa using hk
  rcases h.2 with ⟨rfl, _⟩ | ⟨g, cap, cur, rfl, _, hg, _⟩
  · simp [Value.ownBlock] at hk'
  · simp [Value.ownBlock] at hk'
    subst hk'
    exact ⟨cur, hg⟩

theorem own_off2 {F : List Nat} {w w' : World} {e : TypeId} {v : Value} {n base : Nat} {xs : List Value} {size : Nat} (h : w.ownsRow base e size v n xs) (ho : Off F w w') (hF : ∀ k ∈ v.ownBlock.toList, k ∉ F) : w'.ownsRow base e size v n xs := by
  refine ⟨h.1, ?_⟩
  rcases h.2 with h0 | ⟨g, cap, cur, rfl, h1, hg, h2⟩
  · exact Or.inl h0
  · refine Or.inr ⟨g, cap, cur, rfl, h1, ?_, h2⟩
    rw [ho.block g (Array.getElem?_eq_some_iff.1 hg).1 (hF g (by simp [Value.ownBlock]))]
    exact hg

theorem own_keep {w w' : World} {base size n : Nat} {e : TypeId} {v : Value} {xs : List Value} (h : w.ownsRow base e size v n xs) (hb : Below w.heap.size w w') : w'.ownsRow base e size v n xs :=
  own_off2 (F := []) h (Off.of_below hb) (fun _ _ => by simp)

theorem marks_off {F : List Nat} {w w' : World} {n : Nat} {z : Ms} {v : Value} (h : Marks w v n z) (ho : Off F w w') (hF : ∀ k cs, Sits w k 36 cs → k ∉ F) : Marks w' v n z := by
  obtain ⟨ao, cv, h1, h2⟩ := h
  refine ⟨ao, cv, h1, fun hn => ?_⟩
  obtain ⟨b, cs, h3, h4, h5, h6⟩ := h2 hn
  exact ⟨b, cs, h3, h4, so h5 ho (hF b cs h5), h6⟩

theorem ent_off {F : List Nat} {w w' : World} {i : Nat} {v g : Value} (h : Ent w i v g) (ho : Off F w w') (hF : ∀ k cs, Sits w k 36 cs → k ∉ F) : Ent w' i v g := by
  obtain ⟨n, h0, h1, h2⟩ := h
  exact ⟨n, h0, marks_off h1 ho hF, marks_off h2 ho hF⟩

theorem Sn.off {F : List Nat} {w w' : World} {S : Nat} {ms : List Ms} {p : LI} (h : Sn w S ms p) (ho : Off F w w') (hF : ∀ k ∈ foot S p, k ∉ F) (hI : ∀ k cs, Sits w k 36 cs → k ∉ F) : Sn w' S ms p :=
  ⟨so h.head ho (hF S (by simp [foot])), h.sk.off ho (hF p.X (by simp [foot])) (fun b hb => hF b (by simp [foot, hb])), h.rise, own_off2 h.own ho (fun k hk => by obtain ⟨cs, hs⟩ := sits_row h.own hk; exact hI k cs hs),
    own_off2 h.lists ho (fun k hk => hF k (by simp only [foot, List.mem_cons, List.mem_append]; exact Or.inr (Or.inr (Or.inl (Or.inr hk))))), own_off2 h.grown ho (fun k hk => hF k (by simp only [foot, List.mem_cons, List.mem_append]; exact Or.inr (Or.inr (Or.inr hk)))),
    h.len, fun i v g h1 h2 => ent_off (h.ent i v g h1 h2) ho hI, h.apart⟩

theorem Sn.keep {w w' : World} {S : Nat} {ms : List Ms} {p : LI} (h : Sn w S ms p) (hb : Below w.heap.size w w') : Sn w' S ms p :=
  h.off (F := []) (Off.of_below hb) (fun _ _ => by simp) (fun _ _ _ => by simp)

/-- A block that is a map's is no cells. -/
theorem map_ne {w : World} {b k : Nat} {ms : List Ms} {t : TypeId} {cs : Array Value} (h : Mapped w (some b) ms) (hs : Sits w k t cs) : k ≠ b := by
  intro e
  subst e
  obtain ⟨nn, es, clock, h1, _⟩ := h
  unfold Sits at hs
  rw [h1] at hs
  cases hs

/-- No message lies in what it may write; nor what is of a type that is not its own. -/
theorem Sn.noT {w : World} {S : Nat} {ms : List Ms} {p : LI} (h : Sn w S ms p) (t : TypeId) (n1 : t ≠ 33) (n2 : t ≠ 44) (n3 : t ≠ 30) : ∀ k cs, Sits w k t cs → k ∉ foot S p := by
  intro k cs hk hm
  rw [foot, List.mem_cons, List.mem_cons] at hm
  simp only [List.mem_append] at hm
  rcases hm with e | e | (e | e) | e
  · exact sits_ne hk h.head n1 e
  · exact sits_ne hk h.sk.head n2 e
  · have e' : p.mb = some k := by simpa using e
    have := h.sk.map
    rw [e'] at this
    exact map_ne this hk rfl
  · obtain ⟨cs', hs⟩ := sits_row h.lists e
    exact sits_ne hk hs n3 rfl
  · obtain ⟨cs', hs⟩ := sits_row h.grown e
    exact sits_ne hk hs n3 rfl

theorem Sn.noMsg {w : World} {S : Nat} {ms : List Ms} {p : LI} (h : Sn w S ms p) : ∀ k cs, Sits w k 36 cs → k ∉ foot S p := h.noT _ (by decide) (by decide) (by decide)

theorem Sn.lt {w : World} {S : Nat} {ms : List Ms} {p : LI} (h : Sn w S ms p) : ∀ k ∈ foot S p, k < w.heap.size := by
  intro k hm
  rw [foot, List.mem_cons, List.mem_cons] at hm
  simp only [List.mem_append] at hm
  rcases hm with e | e | (e | e) | e
  · rw [e]
    exact h.head.lt
  · rw [e]
    exact h.sk.head.lt
  · have e' : p.mb = some k := by simpa using e
    have := h.sk.map
    rw [e'] at this
    obtain ⟨nn, this⟩ := this
    exact this.lt
  · obtain ⟨cs', hs⟩ := sits_row h.lists e
    exact hs.lt
  · obtain ⟨cs', hs⟩ := sits_row h.grown e
    exact hs.lt

/-- The program's sink has turned, and so have the law's messages. -/
theorem Sn.taken {w w1 w2 : World} {S : Nat} {ms ms' : List Ms} {p : LI} {b : Nat} {lw : Value} (h : Sn w S ms p) (ho : Off (p.X :: p.mb.toList) w w1) (hk : SK w1 p.X (some b) ms') (hb : b ∈ p.mb.toList ∨ w.heap.size ≤ b) (hr : Rise ms')
    (h12 : Below w1.heap.size w1 w2) (hrow : w2.ownsRow w1.heap.size 36 2 lw ms'.length (mcells ms')) :
    Off (foot S p) w (w2.setCell ⟨S, 1, none⟩ lw) ∧ Sn (w2.setCell ⟨S, 1, none⟩ lw) S ms' { p with mb := some b, lw := lw } ∧ ∀ k ∈ foot S { p with mb := some b, lw := lw }, k ∈ foot S p ∨ w.heap.size ≤ k := by
  have hF : ∀ k t cs, Sits w k t cs → t ≠ 44 → k ∉ p.X :: p.mb.toList := by
    intro k t cs hs hn hm
    rcases List.mem_cons.1 hm with e | e
    · exact sits_ne hs h.sk.head hn e
    · have e' : p.mb = some k := by simpa using e
      have := h.sk.map
      rw [e'] at this
      exact map_ne this hs rfl
  have hH1 := so h.head ho (hF _ _ _ h.head (by decide))
  have hL1 := own_off2 h.lists ho (fun k hk => by obtain ⟨cs, hs⟩ := sits_row h.lists hk; exact hF _ _ _ hs (by decide))
  have hG1 := own_off2 h.grown ho (fun k hk => by obtain ⟨cs, hs⟩ := sits_row h.grown hk; exact hF _ _ _ hs (by decide))
  have hE1 : ∀ (i : Nat) v g, p.vs[i]? = some v → p.gs[i]? = some g → Ent w1 i v g := fun i v g h1 h2 => ent_off (h.ent i v g h1 h2) ho (fun k cs hs => hF _ _ _ hs (by decide))
  have o12 : Off [] w1 w2 := Off.of_below h12
  have hH2 := so hH1 o12 (by simp)
  have o23 : Off [S] w2 (w2.setCell ⟨S, 1, none⟩ lw) := (Off.refl _ _).set (List.mem_cons_self ..) _ _
  have nS : ∀ k t cs, Sits w2 k t cs → t ≠ 33 → k ∉ [S] := fun k t cs hs hn hm => by
    rw [List.mem_singleton] at hm
    exact sits_ne hs hH2 hn hm
  have hk2 := hk.keep h12
  refine ⟨?_, ⟨hH2.set 1 lw, hk2.off o23 (nS _ _ _ hk2.head (by decide)) (fun b' hb' hm => ?_), hr, ?_, ?_, ?_, h.len, fun i v g h1 h2 => ?_, h.apart⟩, fun k hk' => ?_⟩
  · refine Off.trans (ho.mono fun k _ hk' => ?_) (Off.trans (o12.mono fun k _ hk' => by simp at hk') (o23.mono fun k _ hk' => ?_))
    · rcases List.mem_cons.1 hk' with e | e
      · rw [e]
        simp [foot]
      · simp only [foot, List.mem_cons, List.mem_append]
        exact Or.inr (Or.inr (Or.inl (Or.inl e)))
    · rw [List.mem_singleton] at hk'
      rw [hk']
      simp [foot]
  · rw [List.mem_singleton] at hm
    injection hb' with hb'
    rw [← hb'] at hm
    exact map_ne hk2.map hH2 hm.symm
  · have := own_off2 hrow o23 (fun k hk' => by obtain ⟨cs, hs⟩ := sits_row hrow hk'; exact nS _ _ _ hs (by decide))
    exact Apn.weaken this
  · have hL2 := own_off2 hL1 o12 (fun _ _ => by simp)
    exact own_off2 hL2 o23 (fun k hk' => by obtain ⟨cs, hs⟩ := sits_row hL2 hk'; exact nS _ _ _ hs (by decide))
  · have hG2 := own_off2 hG1 o12 (fun _ _ => by simp)
    exact own_off2 hG2 o23 (fun k hk' => by obtain ⟨cs, hs⟩ := sits_row hG2 hk'; exact nS _ _ _ hs (by decide))
  · exact ent_off (ent_off (hE1 i v g h1 h2) o12 (fun _ _ _ => by simp)) o23 (fun k cs hs => nS _ _ _ hs (by decide))
  · simp only [foot, List.mem_cons, List.mem_append, Option.mem_toList] at hk' ⊢
    rcases hk' with e | e | (e | e) | e
    · exact Or.inl (Or.inl e)
    · exact Or.inl (Or.inr (Or.inl e))
    · injection e with e
      subst e
      rcases hb with e | e
      · exact Or.inl (Or.inr (Or.inr (Or.inl (Or.inl (by simpa using e)))))
      · exact Or.inr e
    · exact Or.inl (Or.inr (Or.inr (Or.inl (Or.inr e))))
    · exact Or.inl (Or.inr (Or.inr (Or.inr e)))

end Go.Proofs.Ytenegfafjjknoaa.Sk
