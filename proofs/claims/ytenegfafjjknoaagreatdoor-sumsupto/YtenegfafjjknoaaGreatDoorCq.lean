/- Regions whose operations only read, and whose callees lay new memory behind: one walk serves every order. -/
import Derived.Test.YtenegfafjjknoaaGreatDoorMem
import Derived.BigQuiet
namespace Go.Proofs.YtenegfafjjknoaaGreatDoor.Cq
open Go.RowKit

/-- A world in which all that lay in w lies as it lay. -/
structure Bw (w : World) where
  val : World
  is : Below w.heap.size w val

instance (w : World) : Nonempty (Bw w) := ⟨⟨w, Below.refl _ _⟩⟩

def Cls (w : World) (w' : World) : Prop := ∃ s : Bw w, w' = s.val

theorem region_cls {P : Program} {id : Nat} {Q : Exit → Act → World → Prop} {a : Act} {w : World} {l : List Oper} (hm : P.follows .mixedOrders = true) (hB : Region.lexB .any l.toArray = true)
    (h : wpQuiet P l.toArray (fun w' => ∃ s : Bw w, w' = s.val) (fun a' => ∀ w', (∃ s : Bw w, w' = s.val) → Q .normal a' w') l a) : (Code.region id l.toArray true).wp P Q a w :=
  wp_region_quiet (C := fun w' => ∃ s : Bw w, w' = s.val) hm hB ⟨⟨_, (Below.refl w.heap.size w).drew⟩, rfl⟩ (by simpa using h)

/-- A callee that lays new memory behind. -/
theorem call_cls {P : Program} {f : FuncId} {args : Array Value} {w : World} {v : Value} {s : Bw w} (h : Calls P f args s.val fun e w' => e = .returned v ∧ Below s.val.heap.size s.val w') : Calls P f args s.val fun e w' => e = .returned v ∧ ∃ s' : Bw w, w' = s'.val :=
  h.mono fun _ w' ⟨he, hb⟩ => ⟨he, ⟨w', s.is.trans (hb.mono s.is.size)⟩, rfl⟩

/-! ### Regions that begin so, and go on in one order -/
section
variable {P : Program} {ops : Array Oper} {md : Region.Mode} {C : World → Prop}

def edge (md : Region.Mode) (ops : Array Oper) (k i : Nat) : Bool := match ops[k]? with
  | some o => o.after.any fun e => Region.binds md e && e.on == i
  | none => false

/-- Each of the first m operations is waited for by one behind it, up to number m; from there on each waits for the one ahead of it. -/
def tailB (md : Region.Mode) (ops : Array Oper) (m : Nat) : Bool :=
  ((List.range m).all fun i => (List.range (m + 1)).any fun k => decide (i < k) && edge md ops k i) && ((List.range ops.size).all fun j => decide (j ≤ m) || edge md ops j (j - 1))

/-- What has come up has come behind what it waits for. -/
def DC (md : Region.Mode) (ops : Array Oper) (listed : Array Bool) : Prop :=
  listed.size = ops.size ∧ ∀ j oj, ops[j]? = some oj → listed.getD j true = true → ∀ e ∈ oj.after, Region.binds md e = true → listed.getD e.on false = true

theorem edge_inv {k i : Nat} (h : edge md ops k i = true) : ∃ o, ops[k]? = some o ∧ ∃ e ∈ o.after, Region.binds md e = true ∧ e.on = i := by
  unfold edge at h
  split at h
  · rename_i o ho
    obtain ⟨e, he, hb⟩ := Array.any_eq_true'.1 h
    simp only [Bool.and_eq_true, beq_iff_eq] at hb
    exact ⟨o, ho, e, he, hb⟩
  · cases h

theorem getD_tf {l : Array Bool} {i : Nat} (h : l.getD i false = true) : l.getD i true = true := by
  unfold Array.getD at *
  split at h
  · rename_i hi
    rw [dif_pos hi]
    exact h
  · cases h

theorem ready_edge {listed : Array Bool} {j i : Nat} (hj : j ∈ Region.ready md ops listed) (he : edge md ops j i = true) : listed.getD i false = true := by
  obtain ⟨_, o, ho, hall⟩ := mem_ready.1 hj
  obtain ⟨o', ho', e, he, hb, rfl⟩ := edge_inv he
  rw [ho] at ho'
  cases ho'
  exact hall e he hb

theorem DC.edge {listed : Array Bool} (h : DC md ops listed) {k i : Nat} (hk : listed.getD k false = true) (hed : Cq.edge md ops k i = true) : listed.getD i false = true := by
  obtain ⟨o, ho, e, he, hb, rfl⟩ := edge_inv hed
  exact h.2 k o ho (getD_tf hk) e he hb

theorem tail_all {m : Nat} (hB : tailB md ops m = true) {listed : Array Bool} (hd : DC md ops listed) {j : Nat} (hj : j ∈ Region.ready md ops listed) (hm : m ≤ j) : ∀ i, i < m → listed.getD i false = true := by
  simp only [tailB, Bool.and_eq_true, List.all_eq_true, List.mem_range, List.any_eq_true, decide_eq_true_eq, Bool.or_eq_true] at hB
  obtain ⟨h1, h2⟩ := hB
  have hjs : j < ops.size := by
    obtain ⟨_, o, ho, _⟩ := mem_ready.1 hj
    exact (Array.getElem?_eq_some_iff.1 ho).1
  have hD : ∀ i, edge md ops m i = true → listed.getD i false = true := by
    by_cases e : j = m
    · subst e
      exact fun i he => ready_edge hj he
    · have hl : listed.getD (j - 1) false = true := by
        rcases h2 j hjs with h | h
        · omega
        · exact ready_edge hj h
      have down : ∀ d, d ≤ j - 1 - m → listed.getD (j - 1 - d) false = true := by
        intro d
        induction d with
        | zero => intro _; exact hl
        | succ d ih =>
          intro hd'
          have h3 := ih (by omega)
          rcases h2 (j - 1 - d) (by omega) with h | h
          · omega
          · have h4 := hd.edge h3 h
            rw [show j - 1 - (d + 1) = j - 1 - d - 1 by omega]
            exact h4
      have hlm := down (j - 1 - m) (Nat.le_refl _)
      rw [show j - 1 - (j - 1 - m) = m by omega] at hlm
      exact fun i he => hd.edge hlm he
  have key : ∀ d i, i < m → m - i ≤ d → listed.getD i false = true := by
    intro d
    induction d with
    | zero => intro i h h'; omega
    | succ d ih =>
      intro i hi hd'
      obtain ⟨k, hk, hik, he⟩ := h1 i hi
      by_cases e : k = m
      · subst e
        exact hD i he
      · exact hd.edge (ih k (by omega) (by omega)) he
  exact fun i hi => key (m - i) i hi (Nat.le_refl _)

theorem DC.step {listed : Array Bool} (h : DC md ops listed) {j : Nat} (hj : j ∈ Region.ready md ops listed) : DC md ops (listed.setIfInBounds j true) := by
  refine ⟨by simpa using h.1, fun j' oj' hoj hl e he hb => ?_⟩
  by_cases hjj : j = j'
  · subst hjj
    obtain ⟨_, o, ho, hall⟩ := mem_ready.1 hj
    rw [ho] at hoj
    cases hoj
    exact getD_set_true (hall e he hb)
  · rw [getD_set_ne true hjj] at hl
    exact getD_set_true (h.2 j' oj' hoj hl e he hb)

/-- The first operations in whatever order; then R. -/
def wpPre (P : Program) (md : Region.Mode) (ops : Array Oper) (C : World → Prop) (m : Nat) (R : Array Bool → Act → Prop) : Nat → Array Bool → Act → Prop
  | 0, listed, a => R listed a ∧ ∀ j ∈ Region.ready md ops listed, m ≤ j
  | n + 1, listed, a => Region.ready md ops listed ≠ [] ∧ ∀ i ∈ Region.ready md ops listed, qOp P ops C i (wpPre P md ops C m R n (listed.setIfInBounds i true)) a

theorem wpAny_of_pre {m n : Nat} {R : Array Bool → Act → Prop} {Q : Exit → Act → World → Prop} (hR : ∀ lst a w, C w → R lst a → wpAny P md ops Q n lst a w) : ∀ (fuel : Nat) (listed : Array Bool) (a : Act) (w : World), C w →
    wpPre P md ops C m R fuel listed a → wpAny P md ops Q (fuel + n) listed a w
  | 0, _, _, _, hw, h => by
    rw [Nat.zero_add]
    exact hR _ _ _ hw h.1
  | fuel + 1, listed, a, w, hw, h => by
    rw [show fuel + 1 + n = (fuel + n) + 1 by omega]
    exact ⟨fun h0 => absurd h0 h.1, fun i hi => wpOp_of_qOp hw (fun a' w' hw' hp => wpAny_of_pre hR fuel _ a' w' hw' hp) (h.2 i hi)⟩

theorem pre_first {m : Nat} {R : Array Bool → Act → Prop} {i : Nat} {oi : Oper} {v : Value} (hB : tailB md ops m = true) (him : i < m) (hi : ops[i]? = some oi) (hsel : ∀ (j : Nat) (o : Oper) cs b, ops[j]? = some o → o.op ≠ .select cs b) :
    ∀ (fuel : Nat) (listed : Array Bool) (a : Act), DC md ops listed →
      (∀ j oj, ops[j]? = some oj → j ≠ i → listed.getD j true = false → (∀ e ∈ oj.after, Region.binds md e = true → e.on ≠ i) → oi.apart ops oj = true) →
      i ∈ Region.ready md ops listed → YieldsIn P ops C oi v a →
      wpPre P md ops C m R fuel (listed.setIfInBounds i true) (a.put oi.dst v) → wpPre P md ops C m R (fuel + 1) listed a := by
  have far : ∀ (listed : Array Bool) (j : Nat), DC md ops listed → i ∈ Region.ready md ops listed → j ∈ Region.ready md ops listed → j < m := by
    intro listed j hd hr hj
    rcases Nat.lt_or_ge j m with h | h
    · exact h
    · have h1 := getD_tf (tail_all hB hd hj h i him)
      have h0 := (mem_ready.1 hr).1
      rw [h1] at h0
      cases h0
  intro fuel
  induction fuel with
  | zero =>
    intro listed a hd _ hr hy H
    refine ⟨fun h => (by rw [h] at hr; cases hr), fun j hj => ?_⟩
    by_cases hji : j = i
    · subst hji
      exact hy.qOp hi H
    · have h1 := far listed j hd hr hj
      have h2 := H.2 j (ready_mono hj hji)
      omega
  | succ fuel ih =>
    intro listed a hd hfree hr hy H
    refine ⟨fun h => (by rw [h] at hr; cases hr), fun j hj => ?_⟩
    by_cases hji : j = i
    · subst hji
      exact hy.qOp hi H
    · have h1 := H.2 j (ready_mono hj hji)
      obtain ⟨hjun, oj, hoj, hall⟩ := mem_ready.1 hj
      have hnot : ∀ e ∈ oj.after, Region.binds md e = true → e.on ≠ i := fun e he hb heq => by
        have h1 := getD_tf (hall e he hb)
        have h0 := (mem_ready.1 hr).1
        rw [heq, h0] at h1
        cases h1
      have h2 := qOp_put hoj (hfree j oj hoj hji hjun hnot) (fun cs b => hsel i oi cs b hi) (fun cs b => hsel j oj cs b hoj) hy h1
      have hfree' : ∀ k ok, ops[k]? = some ok → k ≠ i → (listed.setIfInBounds j true).getD k true = false →
          (∀ e ∈ ok.after, Region.binds md e = true → e.on ≠ i) → oi.apart ops ok = true := fun k ok hk hki hun hno => by
        refine hfree k ok hk hki ?_ hno
        by_cases hjk : j = k
        · subst hjk
          exact hjun
        · rw [getD_set_ne true hjk] at hun
          exact hun
      refine qOp_mono (fun a' h3 => ih (listed.setIfInBounds j true) a' (hd.step hj) hfree' (ready_mono hr (Ne.symm hji)) h3.1 ?_) h2
      rw [Array.setIfInBounds_comm _ _ hji]
      exact h3.2

def finL : Nat → Nat → Array Bool → Array Bool
  | 0, _, l => l
  | n + 1, k, l => finL n (k + 1) (l.setIfInBounds k true)

def lexPre (md : Region.Mode) (ops : Array Oper) (m : Nat) : Nat → Nat → Array Bool → Bool
  | 0, _, listed => (Region.ready md ops listed).all fun j => decide (m ≤ j)
  | n + 1, k, listed => (Region.ready md ops listed).contains k && Region.free md ops listed k && lexPre md ops m n (k + 1) (listed.setIfInBounds k true)

theorem pre_lex {m : Nat} {Q : Act → Prop} (hs : Region.noSelect ops = true) (hB : tailB md ops m = true) : ∀ (l : List Oper) (k : Nat) (listed : Array Bool) (a : Act), (∀ j, j < l.length → l[j]? = ops[k + j]?) → k + l.length ≤ m → DC md ops listed →
    lexPre md ops m l.length k listed = true → wpQuiet P ops C Q l a → wpPre P md ops C m (fun lst a' => lst = finL l.length k listed ∧ Q a') l.length listed a
  | [], _, _, _, _, _, _, hL, h => ⟨⟨rfl, h⟩, fun j hj => by
      simp only [List.length_nil, lexPre, List.all_eq_true, decide_eq_true_eq] at hL
      exact hL j hj⟩
  | o :: l, k, listed, a, hl, hkm, hd, hL, h => by
    have h0 : ops[k]? = some o := by simpa using (hl 0 (by simp)).symm
    simp only [List.length_cons, lexPre, Bool.and_eq_true] at hL
    obtain ⟨⟨hr, hf⟩, hL'⟩ := hL
    have hst : qOp P ops C k (wpQuiet P ops C Q l) a := by
      unfold qOp
      simp only [h0]
      exact h
    obtain ⟨v, hy, hK⟩ := yieldsIn_of_qOp h0 hst
    have hr' : k ∈ Region.ready md ops listed := by simpa using hr
    simp only [List.length_cons] at hkm
    exact pre_first hB (by omega) h0 (Region.noSelect_spec hs) l.length listed a hd (Region.free_spec h0 hf) hr' hy
      (pre_lex hs hB l (k + 1) _ _ (fun j hj => by
        have := hl (j + 1) (by simp; omega)
        simpa [Nat.add_assoc, Nat.add_comm 1 j] using this) (by omega) (hd.step hr') hL' hK)

/-- From here on one alone may come up. -/
def seqB (md : Region.Mode) (ops : Array Oper) : Nat → Nat → Array Bool → Bool
  | 0, _, lst => (Region.ready md ops lst).isEmpty
  | n + 1, k, lst => (Region.ready md ops lst == [k]) && seqB md ops n (k + 1) (lst.setIfInBounds k true)

theorem any_of_list {Q : Exit → Act → World → Prop} : ∀ (l : List Oper) (k : Nat) (lst : Array Bool) (a : Act) (w : World), (∀ j, l[j]? = ops[k + j]?) → seqB md ops l.length k lst = true → wpList P ops Q l a w → wpAny P md ops Q l.length lst a w
  | [], _, _, _, _, _, hL, h => ⟨by simpa [seqB] using hL, h⟩
  | o :: l, k, lst, a, w, hl, hL, h => by
    have h0 : ops[k]? = some o := by simpa using (hl 0).symm
    simp only [List.length_cons, seqB, Bool.and_eq_true, beq_iff_eq] at hL
    obtain ⟨hr, hL'⟩ := hL
    have ih : ∀ a w, wpList P ops Q l a w → wpAny P md ops Q l.length (lst.setIfInBounds k true) a w := fun a w h =>
      any_of_list l (k + 1) _ a w (fun j => by
        have := hl (j + 1)
        simpa [Nat.add_assoc, Nat.add_comm 1 j] using this) hL' h
    refine ⟨fun e => (by rw [hr] at e; cases e), fun i hi => ?_⟩
    rw [hr] at hi
    have hik : i = k := by simpa using hi
    subst hik
    unfold wpOp
    simp only [h0]
    unfold wpList at h
    split
    · rename_i hw
      rw [if_pos hw] at h
      rcases h with h | h
      · exact Or.inl (Oper.wp_mono ih h)
      · exact Or.inr h
    · rename_i hw
      rw [if_neg hw] at h
      exact ih _ _ h

def preB (ops : Array Oper) (m : Nat) : Bool :=
  Region.noSelect ops && (tailB .any ops m && (decide (m ≤ ops.size) && (lexPre .any ops m m 0 (Array.replicate ops.size false) && seqB .any ops (ops.size - m) m (finL m 0 (Array.replicate ops.size false)))))

theorem region_pre {id : Nat} {Q : Exit → Act → World → Prop} {a : Act} {w : World} {l : List Oper} (m : Nat) (hm : P.follows .mixedOrders = true) (hB : preB l.toArray m = true)
    (h : wpQuiet P l.toArray (fun w' => ∃ s : Bw w, w' = s.val) (fun a' => ∀ s : Bw w, wpList P l.toArray Q (l.drop m) a' s.val) (l.take m) a) : (Code.region id l.toArray true).wp P Q a w := by
  simp only [preB, Bool.and_eq_true, decide_eq_true_eq] at hB
  obtain ⟨b1, b2, b3, b4, b5⟩ := hB
  have b3' : m ≤ l.length := by simpa using b3
  have hlen : (l.take m).length = m := by simp [b3']
  have hd0 : DC .any l.toArray (Array.replicate l.toArray.size false) := by
    refine ⟨by simp, fun j oj hoj hl => ?_⟩
    have hj := (Array.getElem?_eq_some_iff.1 hoj).1
    simp [Array.getD] at hl
    simp at hj
    omega
  refine wp_region_any hm ?_
  have hpre := pre_lex (P := P) (C := fun w' => ∃ s : Bw w, w' = s.val) (md := .any) b1 b2 (l.take m) 0 (Array.replicate l.toArray.size false) a (fun j hj => by
    rw [Nat.zero_add, List.getElem?_toArray, List.getElem?_take]
    rw [hlen] at hj
    rw [if_pos hj]) (by omega) hd0 (by rw [hlen]; exact b4) h
  rw [hlen] at hpre
  have hsz : l.toArray.size = m + (l.drop m).length := by simp; omega
  rw [hsz]
  refine wpAny_of_pre (C := fun w' => ∃ s : Bw w, w' = s.val) (n := (l.drop m).length) (fun lst a' w' hw hR => ?_) m _ a _ ⟨⟨_, (Below.refl w.heap.size w).drew⟩, rfl⟩ (by rw [← hsz]; exact hpre)
  obtain ⟨rfl, hQ⟩ := hR
  obtain ⟨s, rfl⟩ := hw
  refine any_of_list (l.drop m) m _ a' s.val (fun j => by rw [List.getElem?_drop, List.getElem?_toArray]) ?_ (hQ s)
  rw [show (l.drop m).length = l.toArray.size - m by simp]
  exact b5

end

end Go.Proofs.YtenegfafjjknoaaGreatDoor.Cq
