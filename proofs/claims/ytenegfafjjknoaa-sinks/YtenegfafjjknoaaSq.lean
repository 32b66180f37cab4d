/- looks. -/
import Derived.Test.YtenegfafjjknoaaSo
namespace Go.Proofs.Ytenegfafjjknoaa.Sk
open Go.RowKit Go.Maps Go.Shelf Mem Foot Im

/-- The first i are marks. -/
def filled (i : Nat) (z : Ms) (l : List Ms) : List Ms := List.replicate i z ++ l.drop i

theorem filled_zero (z : Ms) (l : List Ms) : filled 0 z l = l := by simp [filled]

theorem filled_length {i : Nat} {z : Ms} {l : List Ms} (h : i ≤ l.length) : (filled i z l).length = l.length := by
  simp [filled]
  omega

theorem filled_all (z : Ms) (l : List Ms) : filled l.length z l = List.replicate l.length z := by simp [filled]

theorem filled_get {i : Nat} {z : Ms} {l : List Ms} (h : i < l.length) : (filled i z l)[i]? = some l[i] := by
  rw [filled, List.getElem?_append_right (by simp), List.length_replicate, Nat.sub_self, List.getElem?_drop, Nat.add_zero, List.getElem?_eq_getElem h]

theorem filled_set {i : Nat} {z : Ms} {l : List Ms} (h : i < l.length) : (filled i z l).set i z = filled (i + 1) z l := by
  have hd : l.drop i = l[i] :: l.drop (i + 1) := List.drop_eq_getElem_cons h
  rw [filled, filled, List.set_append_right _ _ (by simp), List.length_replicate, Nat.sub_self, hd, List.set_cons_zero, List.replicate_succ', List.append_assoc]
  rfl

theorem mcells_set : ∀ (l : List Ms) (i : Nat) (z : Ms), i < l.length → mcells (l.set i z) = ((mcells l).set (i * 2) (.int .i64 z.k)).set (i * 2 + 1) (.string z.t) := by
  intro l
  induction l with
  | nil => intro i z h; simp at h
  | cons x l ih =>
    intro i z h
    cases i with
    | zero => rfl
    | succ i =>
      rw [List.set_cons_succ, mcells, mcells, ih i z (by simpa using h), show (i + 1) * 2 = i * 2 + 1 + 1 by omega, show i * 2 + 1 + 1 + 1 = (i * 2 + 1) + 1 + 1 by omega]
      rfl

/-- A message of a row set. -/
theorem own_set2 {w : World} {base n g cap i : Nat} {e : TypeId} {l : List Ms} (z : Ms) (hi : i < l.length) (h : w.ownsRow base e 2 (.slice (some ⟨g, 0, none⟩) n cap) n (mcells l)) : ((w.setCell ⟨g, i * 2, none⟩ (.int .i64 z.k)).setCell ⟨g, i * 2 + 1, none⟩ (.string z.t)).ownsRow base e 2 (.slice (some ⟨g, 0, none⟩) n cap) n (mcells (l.set i z)) := by
  have hl := h.1
  refine ⟨by rw [mcells_length, List.length_set, ← mcells_length]; exact hl, ?_⟩
  rcases h.2 with ⟨h0, _⟩ | ⟨g', cap', cur, hv, hb, hg, hn, hm, hs, ht⟩
  · cases h0
  · injection hv with e1 _ e3
    injection e1 with e1
    injection e1 with e1
    subst e1
    subst e3
    refine Or.inr ⟨g, cap, _, rfl, hb, Sits.set (t := e) (Sits.set (t := e) (cs := cur) hg (i * 2) _) (i * 2 + 1) _, hn, hm, by simpa using hs, ?_⟩
    rw [Array.toList_setIfInBounds, Array.toList_setIfInBounds, List.take_set, List.take_set, ht, mcells_set l i z hi]

theorem mcells_rep (n : Nat) (z : Ms) : ∀ j, j < n → (mcells (List.replicate n z))[j * 2]? = some (.int .i64 z.k) ∧ (mcells (List.replicate n z))[j * 2 + 1]? = some (.string z.t) := fun j hj =>
  mcells_at (by rw [List.getElem?_replicate, if_pos hj])

/-- A row of marks. -/
theorem marks_own {w : World} {base n : Nat} {v : Value} {z : Ms} (h : w.ownsRow base 36 2 v n (mcells (List.replicate n z))) : Marks w v n z := by
  rcases h.2 with ⟨rfl, rfl⟩ | ⟨g, cap, cur, rfl, _, hg, hn, _, _, ht⟩
  · exact ⟨none, 0, rfl, fun e => absurd rfl e⟩
  · refine ⟨_, _, rfl, fun _ => ⟨g, cur, rfl, hn, hg, fun j hj => ?_⟩⟩
    have hc : ∀ (i : Nat) u, (mcells (List.replicate n z))[i]? = some u → cur[i]? = some u := fun i u hu => by
      rw [← ht, List.getElem?_take] at hu
      split at hu
      · simpa using hu
      · cases hu
    obtain ⟨h1, h2⟩ := mcells_rep n z j hj
    exact ⟨hc _ _ h1, hc _ _ h2⟩

theorem grown_off {w x : World} {o : Obj} {v : Value} (h : (w.alloc o).grownBy x v.ownBlock) : Off v.ownBlock.toList w x :=
  ⟨h.os, h.tape, h.output, by have := h.size; simp at this; omega, fun k hk hF => by
    rw [h.block k (by simp; omega) (fun e => hF (by rw [← e]; simp)), Below.heap_alloc _ _ _ hk]⟩

/-- .. behind the append that may have grown it in place. -/
theorem marks_grown {x x5 : World} {o : Obj} {base n : Nat} {v g : Value} {z : Ms} (h : x.ownsRow base 36 2 v n (mcells (List.replicate n z))) (o5 : x5.ownsRow 0 36 2 g (n + 3) (mcells (List.replicate (n + 3) z))) (st : g.ownBlock = v.ownBlock ∨ (x.alloc o).grownBy x5 none) : Marks x5 v n z := by
  rcases st with e | e
  · rcases h.2 with ⟨rfl, rfl⟩ | ⟨b, cap, cur, rfl, _, hg, hn, _, _, ht⟩
    · exact ⟨none, 0, rfl, fun e => absurd rfl e⟩
    · refine ⟨_, _, rfl, fun _ => ?_⟩
      obtain ⟨ao, cv, h1, h2⟩ := marks_own o5
      obtain ⟨b', cs, h3, _, h5, h6⟩ := h2 (by omega)
      rw [h1, h3] at e
      simp [Value.ownBlock] at e
      subst e
      exact ⟨b', cs, rfl, hn, h5, fun j hj => h6 j (by omega)⟩
  · refine marks_off (F := []) (marks_own h) ?_ (fun _ _ _ => by simp)
    have := grown_off (v := .slice none 0 0) e
    simpa [Value.ownBlock] using this

theorem off_more {F G : List Nat} {w x y : World} (h : Off F w x) (k : Off G x y) (hG : ∀ b ∈ G, b ∈ F ∨ w.heap.size ≤ b) : Off F w y :=
  ⟨k.os.trans h.os, k.tape.trans h.tape, k.output.trans h.output, Nat.le_trans h.size k.size, fun i hi hF => (k.block i (Nat.lt_of_lt_of_le hi h.size) (fun e => by
    rcases hG i e with e | e
    · exact hF e
    · omega)).trans (h.block i hi hF)⟩

theorem own_lt {w : World} {base size n : Nat} {e : TypeId} {v : Value} {xs : List Value} (h : w.ownsRow base e size v n xs) {k : Nat} (hk : k ∈ v.ownBlock.toList) : base ≤ k ∧ k < w.heap.size := h.lt k (by simpa using hk)

/-- What the lists' writes may touch. -/
def lf (S : Nat) (p : LI) : List Nat := S :: (p.lv.ownBlock.toList ++ p.gv.ownBlock.toList)

theorem lf_foot {S : Nat} {p : LI} : ∀ k ∈ lf S p, k ∈ foot S p := by
  intro k hk
  rw [lf, List.mem_cons, List.mem_append] at hk
  rw [foot, List.mem_cons, List.mem_cons]
  simp only [List.mem_append]
  rcases hk with e | e | e
  · exact Or.inl e
  · exact Or.inr (Or.inr (Or.inl (Or.inr e)))
  · exact Or.inr (Or.inr (Or.inr e))

theorem lf_not {w : World} {S : Nat} {ms : List Ms} {p : LI} (h : Sn w S ms p) : ∀ k t cs, Sits w k t cs → t ≠ 33 → t ≠ 30 → k ∉ lf S p := by
  intro k t cs hs n1 n2 hk
  rw [lf, List.mem_cons, List.mem_append] at hk
  rcases hk with e | e | e
  · exact sits_ne hs h.head n1 e
  · obtain ⟨cs', h1⟩ := sits_row h.lists e
    exact sits_ne hs h1 n2 rfl
  · obtain ⟨cs', h1⟩ := sits_row h.grown e
    exact sits_ne hs h1 n2 rfl

/-- The lists have grown: the sink anew. -/
theorem Sn.lists_new {w W : World} {S : Nat} {ms : List Ms} {p : LI} (h : Sn w S ms p) (ho : Off (lf S p) w W) {v3 v6 v g : Value} (hH : Sits W S 33 #[.pointer (some ⟨p.X, 0, none⟩), p.lw, v3, v6])
    (h3 : W.ownsRow 0 30 1 v3 (p.vs.length + 1) (p.vs ++ [v])) (h6 : W.ownsRow 0 30 1 v6 (p.gs.length + 1) (p.gs ++ [g])) (hE : Ent W p.vs.length v g) (hA : v3.ownBlock ≠ v6.ownBlock)
    (f3 : ∀ k ∈ v3.ownBlock.toList, k ∈ p.lv.ownBlock.toList ∨ w.heap.size ≤ k) (f6 : ∀ k ∈ v6.ownBlock.toList, k ∈ p.gv.ownBlock.toList ∨ w.heap.size ≤ k) :
    Off (foot S p) w W ∧ ∃ p', Sn W S ms p' ∧ p'.vs.length = p.vs.length + 1 ∧ ∀ k ∈ foot S p', k ∈ foot S p ∨ w.heap.size ≤ k := by
  have key := lf_not h
  refine ⟨ho.mono fun k _ hk => lf_foot k hk, { p with lv := v3, gv := v6, vs := p.vs ++ [v], gs := p.gs ++ [g] }, ⟨hH, h.sk.off ho (key _ _ _ h.sk.head (by decide) (by decide)) (fun b hb hm => ?_), h.rise, own_off2 h.own ho (fun k hk => by obtain ⟨cs, hs⟩ := sits_row h.own hk; exact key _ _ _ hs (by decide) (by decide)), ?_, ?_, ?_, fun i a b h1 h2 => ?_, Or.inr hA⟩, by simp, fun k hk => ?_⟩
  · have hb' : p.mb = some b := hb
    have hm2 := h.sk.map
    rw [hb'] at hm2
    rw [lf, List.mem_cons, List.mem_append] at hm
    rcases hm with e | e | e
    · exact map_ne hm2 h.head e.symm
    · obtain ⟨cs', h1⟩ := sits_row h.lists e
      exact map_ne hm2 h1 rfl
    · obtain ⟨cs', h1⟩ := sits_row h.grown e
      exact map_ne hm2 h1 rfl
  · show W.ownsRow 0 30 1 v3 (p.vs ++ [v]).length (p.vs ++ [v])
    rw [List.length_append]
    exact h3
  · show W.ownsRow 0 30 1 v6 (p.gs ++ [g]).length (p.gs ++ [g])
    rw [List.length_append]
    exact h6
  · show (p.gs ++ [g]).length = (p.vs ++ [v]).length
    rw [List.length_append, List.length_append, h.len]
    rfl
  · have h1' : (p.vs ++ [v])[i]? = some a := h1
    have h2' : (p.gs ++ [g])[i]? = some b := h2
    by_cases hi : i < p.vs.length
    · rw [List.getElem?_append_left hi] at h1'
      rw [List.getElem?_append_left (by rw [h.len]; exact hi)] at h2'
      exact ent_off (h.ent i a b h1' h2') ho fun k cs hs => key _ _ _ hs (by decide) (by decide)
    · have hi2 : i = p.vs.length := by
        have := (List.getElem?_eq_some_iff.1 h1').1
        simp at this
        omega
      subst hi2
      rw [List.getElem?_append_right (Nat.le_refl _), Nat.sub_self] at h1'
      rw [List.getElem?_append_right (by rw [h.len]; exact Nat.le_refl _), h.len, Nat.sub_self] at h2'
      cases h1'
      cases h2'
      exact hE
  · rw [foot, List.mem_cons, List.mem_cons] at hk
    rw [foot, List.mem_cons, List.mem_cons]
    simp only [List.mem_append] at hk ⊢
    rcases hk with e | e | (e | e) | e
    · exact Or.inl (Or.inl e)
    · exact Or.inl (Or.inr (Or.inl e))
    · exact Or.inl (Or.inr (Or.inr (Or.inl (Or.inl e))))
    · exact (f3 k e).imp (fun e => Or.inr (Or.inr (Or.inl (Or.inr e)))) id
    · exact (f6 k e).imp (fun e => Or.inr (Or.inr (Or.inr e))) id

end Go.Proofs.Ytenegfafjjknoaa.Sk

namespace Go.Proofs.Ytenegfafjjknoaa.Sk
open Go.RowKit Go.Maps Go.Shelf Mem Foot Im

theorem own_as {w : World} {base size n : Nat} {e : TypeId} {v v' : Value} {xs : List Value} (h : w.ownsRow base e size v n xs) (hv : v = v') (o : Obj) : (w.alloc o).ownsRow base e size v' n xs := hv ▸ h.alloc o

theorem own_drew {w : World} {base size n : Nat} {e : TypeId} {v : Value} {xs : List Value} (h : w.ownsRow base e size v n xs) (o : Obj) : (w.drew.alloc o).ownsRow base e size v n xs := by
  have h1 : w.drew.ownsRow base e size v n xs := h
  exact h1.alloc o

theorem lists_head {w x : World} {S : Nat} {ms : List Ms} {p : LI} {o : Obj} {v : Value} (h : Sn w S ms p) (hv : p.lv = v) (gr : (w.alloc o).grownBy x v.ownBlock) : Sits x S 33 #[.pointer (some ⟨p.X, 0, none⟩), p.lw, p.lv, p.gv] := by
  subst hv
  refine so h.head (grown_off gr) fun hm => ?_
  obtain ⟨cs, h1⟩ := sits_row h.lists hm
  exact sits_ne h.head h1 (by decide) rfl

theorem mem_own {v : Value} {k : Nat} (h : k ∈ v.ownBlock.toList) : v.ownBlock = some k := by simpa using h

theorem own_some {w : World} {e : TypeId} {v : Value} {n : Nat} {xs : List Value} (h : w.ownsRow 0 e 1 v (n + 1) xs) : v.ownBlock ≠ none := by
  rcases h.2 with ⟨_, h0⟩ | ⟨g, cap, cur, rfl, _⟩
  · omega
  · simp [Value.ownBlock]

theorem row_ne {w : World} {e e' : TypeId} {v v' : Value} {n n' b b' s s' : Nat} {xs xs' : List Value} (h : w.ownsRow b e s v n xs) (h' : w.ownsRow b' e' s' v' n' xs') (hne : e ≠ e') : ∀ k ∈ v.ownBlock.toList, k ∉ v'.ownBlock.toList := by
  intro k h1 h2
  obtain ⟨cs, s1⟩ := sits_row h h1
  obtain ⟨cs', s2⟩ := sits_row h' h2
  exact sits_ne s1 s2 hne rfl

theorem row_ne_sits {w : World} {e e' : TypeId} {v : Value} {n b S s : Nat} {xs : List Value} {cs : Array Value} (h : w.ownsRow b e s v n xs) (h' : Sits w S e' cs) (hne : e ≠ e') : S ∉ v.ownBlock.toList := by
  intro h1
  obtain ⟨cs, s1⟩ := sits_row h h1
  exact sits_ne s1 h' hne rfl

theorem head_on {x y : World} {S s : Nat} {q : Obj} {e : TypeId} {v : Value} {n b : Nat} {xs : List Value} {cs : Array Value} (hX : Sits x S 33 cs) (hr : x.ownsRow b e s v n xs) (hne : e ≠ 33) (gr : (x.alloc q).grownBy y v.ownBlock) : Sits y S 33 cs :=
  so hX (grown_off gr) (row_ne_sits hr hX hne)

/-- A block of messages that is not the row's. -/
theorem msg_on {x y : World} {B s : Nat} {q : Obj} {v : Value} {n b : Nat} {xs : List Value} {cs : Array Value} {e : TypeId} (hX : Sits x B 36 cs) (hr : x.ownsRow b e s v n xs) (hne : B ∉ v.ownBlock.toList) (gr : (x.alloc q).grownBy y v.ownBlock) : Sits y B 36 cs := by
  have := hr.1
  exact so hX (grown_off gr) hne

/-- Behind the first append. -/
structure Mid (w x : World) (S B : Nat) (ms : List Ms) (p : LI) (v v3 : Value) (n : Nat) (z : Ms) : Prop where
  off : Off (lf S p) w x
  head : Sits x S 33 #[.pointer (some ⟨p.X, 0, none⟩), p.lw, v3, p.gv]
  lists : x.ownsRow 0 30 1 v3 (p.vs.length + 1) (p.vs ++ [v])
  grown : x.ownsRow 0 30 1 p.gv p.gs.length p.gs
  row : x.ownsRow w.heap.size 36 2 v n (mcells (List.replicate n z))
  box : Sits x B 36 #[.int .i64 z.k, .string z.t]
  f3 : ∀ k ∈ v3.ownBlock.toList, k ∈ p.lv.ownBlock.toList ∨ w.heap.size ≤ k
  n3 : ∀ k ∈ v3.ownBlock.toList, k ∉ p.gv.ownBlock.toList
  some3 : v3.ownBlock ≠ none

theorem mid {w wr x3 : World} {S B : Nat} {ms : List Ms} {p : LI} {v v3 : Value} {n : Nat} {z : Ms} {o : Obj} (h0 : Sn w S ms p) (hb : Below w.heap.size w wr) (hrow : wr.ownsRow w.heap.size 36 2 v n (mcells (List.replicate n z))) (hbox : Sits wr B 36 #[.int .i64 z.k, .string z.t])
    (o3 : x3.ownsRow 0 30 1 v3 (p.vs.length + 1) (p.vs ++ [v])) (gr3 : (wr.alloc o).grownBy x3 p.lv.ownBlock) (sm3 : Apn.Same (wr.alloc o) p.lv v3) : Mid w (x3.setCell ⟨S, 2, none⟩ v3) S B ms p v v3 n z := by
  have h := h0.keep hb
  have g3 := grown_off gr3
  have hX := lists_head h rfl gr3
  have hbut : Off [S] x3 (x3.setCell ⟨S, 2, none⟩ v3) := (Off.refl _ _).set (List.mem_cons_self ..) _ _
  have hap : ∀ k ∈ p.gv.ownBlock.toList, k ∉ p.lv.ownBlock.toList := fun k h1 h2 => by
    have e1 := mem_own h1
    have e2 := mem_own h2
    rcases h.apart with e | e
    · rw [e] at e2
      cases e2
    · exact e (e2.trans e1.symm)
  have hG3 := own_off2 h.grown g3 hap
  have hV3 := own_off2 hrow g3 (row_ne hrow h.lists (by decide))
  have hB3 := so hbox g3 (fun hm => by obtain ⟨cs, hs⟩ := sits_row h.lists hm; exact sits_ne hbox hs (by decide) rfl)
  refine ⟨?_, hX.set 2 v3, own_off2 o3 hbut fun k hk e => ?_, own_off2 hG3 hbut fun k hk e => ?_, own_off2 hV3 hbut fun k hk e => ?_, so hB3 hbut fun e => ?_, fun k hk => ?_, fun k hk hg => ?_, own_some o3⟩
  · have ho : Off (lf S p) w x3 := off_more (Off.of_below hb) g3 fun b hb' => Or.inl (by rw [lf, List.mem_cons, List.mem_append]; exact Or.inr (Or.inl hb'))
    exact ho.set (by rw [lf]; exact List.mem_cons_self ..) _ _
  · rw [List.mem_singleton] at e
    exact row_ne_sits o3 hX (by decide) (e ▸ hk)
  · rw [List.mem_singleton] at e
    exact row_ne_sits hG3 hX (by decide) (e ▸ hk)
  · rw [List.mem_singleton] at e
    exact row_ne_sits hV3 hX (by decide) (e ▸ hk)
  · rw [List.mem_singleton] at e
    exact sits_ne hB3 hX (by decide) e
  · rcases sm3 with e | ⟨g, e, hg⟩
    · exact Or.inl (by rw [← e]; exact hk)
    · have := mem_own hk
      rw [e] at this
      cases this
      have := hb.size
      simp at hg
      exact Or.inr (by omega)
  · rcases sm3 with e | ⟨g, e, hg'⟩
    · exact hap k hg (by rw [← e]; exact hk)
    · have := mem_own hk
      rw [e] at this
      cases this
      have := (own_lt h.grown hg).2
      simp at hg'
      omega

theorem Mid.drew {w x : World} {S B : Nat} {ms : List Ms} {p : LI} {v v3 : Value} {n : Nat} {z : Ms} (h : Mid w x S B ms p v v3 n z) : Mid w x.drew S B ms p v v3 n z :=
  ⟨h.off.drewN 1, h.head, h.lists, h.grown, h.row, h.box, h.f3, h.n3, h.some3⟩

theorem done {w x x5 x6 : World} {S B : Nat} {ms : List Ms} {p : LI} {v v3 g v6 : Value} {n : Nat} {q q6 : Obj} (h : Sn w S ms p) (hm : Mid w x S B ms p v v3 n (mark p.vs.length)) (hn : n ≤ 4000000000000)
    (o5 : x5.ownsRow 0 36 2 g (n + 3) (mcells (List.replicate (n + 3) (mark p.vs.length)))) (gr5 : (x.alloc q).grownBy x5 v.ownBlock) (st5 : g.ownBlock = v.ownBlock ∨ (x.alloc q).grownBy x5 none)
    (o6 : x6.ownsRow 0 30 1 v6 (p.gs.length + 1) (p.gs ++ [g])) (gr6 : (x5.alloc q6).grownBy x6 p.gv.ownBlock) (sm6 : Apn.Same (x5.alloc q6) p.gv v6) :
    Off (foot S p) w (x6.setCell ⟨S, 3, none⟩ v6) ∧ ∃ p', Sn (x6.setCell ⟨S, 3, none⟩ v6) S ms p' ∧ p'.vs.length = p.vs.length + 1 ∧ ∀ k ∈ foot S p', k ∈ foot S p ∨ w.heap.size ≤ k := by
  have g5 := grown_off gr5
  have g6 := grown_off gr6
  have hX5 := head_on hm.head hm.row (by decide) gr5
  have hG5 := own_off2 hm.grown g5 (row_ne hm.grown hm.row (by decide))
  have hX6 := head_on hX5 hG5 (by decide) gr6
  have hL5 := own_off2 hm.lists g5 (row_ne hm.lists hm.row (by decide))
  have hL6 := own_off2 hL5 g6 hm.n3
  have hM1 := marks_grown hm.row o5 st5
  have hM2 := marks_own o5
  have hint6 : ∀ k cs, Sits x5 k 36 cs → k ∉ p.gv.ownBlock.toList := fun k cs hs hk => by
    obtain ⟨cs', s1⟩ := sits_row hG5 hk
    exact sits_ne s1 hs (by decide) rfl
  have hbut : Off [S] x6 (x6.setCell ⟨S, 3, none⟩ v6) := (Off.refl _ _).set (List.mem_cons_self ..) _ _
  have hint7 : ∀ k cs, Sits x6 k 36 cs → k ∉ [S] := fun k cs hs hk => by
    rw [List.mem_singleton] at hk
    subst hk
    exact sits_ne hX6 hs (by decide) rfl
  refine h.lists_new (v3 := v3) (v6 := v6) (v := v) (g := g) ?_ (hX6.set 3 v6) (own_off2 hL6 hbut fun k hk e => ?_) (own_off2 o6 hbut fun k hk e => ?_) ⟨n, hn, marks_off (marks_off hM1 g6 hint6) hbut hint7, marks_off (marks_off hM2 g6 hint6) hbut hint7⟩ (fun e => ?_) hm.f3 fun k hk => ?_
  · refine (off_more (off_more hm.off g5 fun b hb => Or.inr (own_lt hm.row hb).1) g6 fun b hb => Or.inl ?_).set (List.mem_cons_self ..) _ _
    rw [lf, List.mem_cons, List.mem_append]
    exact Or.inr (Or.inr hb)
  · rw [List.mem_singleton] at e
    exact row_ne_sits hL6 hX6 (by decide) (e ▸ hk)
  · rw [List.mem_singleton] at e
    exact row_ne_sits o6 hX6 (by decide) (e ▸ hk)
  · rcases sm6 with e6 | ⟨g', e6, hg'⟩
    · obtain ⟨b, hb⟩ := Option.ne_none_iff_exists'.1 hm.some3
      exact hm.n3 b (by simp [hb]) (by rw [← e6, ← e, hb]; simp)
    · obtain ⟨b, hb⟩ := Option.ne_none_iff_exists'.1 hm.some3
      have := (own_lt hL5 (k := b) (by simp [hb])).2
      rw [hb, e6] at e
      cases e
      simp at hg'
      omega
  · rcases sm6 with e6 | ⟨g', e6, hg'⟩
    · exact Or.inl (by rw [← e6]; exact hk)
    · have := mem_own hk
      rw [e6] at this
      cases this
      have h1 := hm.off.size
      have h2 := g5.size
      simp at hg'
      exact Or.inr (by omega)

theorem infoRow : (Try.prog.info? 30).map (fun i => (i.zero, i.size, i.bytes)) = some (some (.slice none 0 0), 1, 24) := by kernel_rfl

theorem src_val (w : World) (x : Value) (t : TypeId) (b : Nat) (hb : b = w.heap.size) (hx : x.oneCell' = true) : Apn.Src (w.alloc (.cells #[x] t)) 1 (some ⟨b, 0, none⟩) 1 [x] := by
  subst hb
  exact ⟨rfl, fun u hu => by simp at hu; subst hu; exact hx, Or.inr ⟨_, rfl, cell_one_new w _ t⟩⟩

theorem cell_six_new (w : World) (a b c d e f : Value) (t : TypeId) : ∀ j u, [a, b, c, d, e, f][j]? = some u → (w.alloc (.cells #[a, b, c, d, e, f] t)).cell? ((⟨w.heap.size, 0, none⟩ : Addr).add j) = some u := by
  intro j u hj
  match j, hj with
  | 0, hj => simp at hj; subst hj; simp [Addr.add]
  | 1, hj => simp at hj; subst hj; simp [Addr.add]
  | 2, hj => simp at hj; subst hj; simp [Addr.add]
  | 3, hj => simp at hj; subst hj; simp [Addr.add]
  | 4, hj => simp at hj; subst hj; simp [Addr.add]
  | 5, hj => simp at hj; subst hj; simp [Addr.add]
  | j + 6, hj => simp at hj

theorem src_three (w : World) (z : Ms) (t : TypeId) (b : Nat) (hb : b = w.heap.size) : Apn.Src (w.alloc (.cells #[.int .i64 z.k, .string z.t, .int .i64 z.k, .string z.t, .int .i64 z.k, .string z.t] t)) 2 (some ⟨b, 0, none⟩) 3 (mcells (List.replicate 3 z)) := by
  subst hb
  refine ⟨rfl, fun u hu => ?_, Or.inr ⟨_, rfl, cell_six_new w _ _ _ _ _ _ t⟩⟩
  simp [mcells, List.replicate] at hu
  rcases hu with rfl | rfl | rfl | rfl | rfl | rfl <;> rfl

theorem rep_more (n : Nat) (z : Ms) : mcells (List.replicate n z) ++ mcells (List.replicate 3 z) = mcells (List.replicate (n + 3) z) := by
  rw [← mcells_append, List.replicate_append_replicate]

end Go.Proofs.Ytenegfafjjknoaa.Sk
