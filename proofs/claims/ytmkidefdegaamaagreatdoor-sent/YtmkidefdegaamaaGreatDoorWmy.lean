/- Windows, with no Go in sight: what lines come to, and the text that tells it. -/
import Derived.Test.YtmkidefdegaamaaGreatDoorSply
import Derived.Maps.Own
import Derived.Test.YtmkidefdegaamaaGreatDoorApo
import Derived.BigRegion
import Derived.BigQuiet
import Derived.StringKeys
namespace Go.Proofs.YtmkidefdegaamaaGreatDoor.Wm
open Im Opts
def top : Int := 1000000000000000
def bnd (n : Int) : Int := min (max n (-top)) top
/-- A bucket that has something: what it stands for, and its weight. -/
structure Cel where
  stands : Int
  weight : Int
structure Tim where
  count : Int
  sum : Int
  least : Int
  greatest : Int
  cells : List (Int × Cel)
  folded : Bool
/-- A series: a number, words, a timer. -/
inductive Ser where
  | num (n : Int)
  | set (ws : List (Bs × Unit))
  | tim (t : Tim)
open Classical in
/-- The bucket of a value, and what it stands for. -/
noncomputable def bk (v : Int) : Int × Int := if h : ∃ p : Int × Int, Bnd.IsB v p.1 p.2 then Classical.choose h else (-1, 0)
theorem bk_of {v n s : Int} (h : Bnd.IsB v n s) : bk v = (n, s) := by
  have hx : ∃ p : Int × Int, Bnd.IsB v p.1 p.2 := ⟨(n, s), h⟩
  unfold bk
  rw [dif_pos hx]
  obtain ⟨h1, h2⟩ := Bnd.isB_one (Classical.choose_spec hx) h
  exact Prod.ext h1 h2
/-- The lowest bucket moved into the next. -/
def fold : List (Int × Cel) → List (Int × Cel)
  | a :: b :: r => (b.1, ⟨b.2.stands, b.2.weight + a.2.weight⟩) :: r
  | l => l
def wgt (n : Int) (l : List (Int × Cel)) : Int := match getE n l with
  | some c => c.weight
  | none => 0
/-- A weight more in a value's bucket, ahead of folding. -/
noncomputable def lay (v wt : Int) (l : List (Int × Cel)) : List (Int × Cel) := put iLt (bk v).1 ⟨(bk v).2, wgt (bk v).1 l + wt⟩ l
noncomputable def tadd (mx : Nat) (t : Tim) (v wt : Int) : Tim :=
  { count := bnd (t.count + wt), sum := bnd (t.sum + v * wt), least := if t.count = 0 then v else min t.least v, greatest := if t.count = 0 then v else max t.greatest v,
    cells := if mx < (lay v wt t.cells).length then fold (lay v wt t.cells) else lay v wt t.cells, folded := t.folded || decide (mx < (lay v wt t.cells).length) }
/-- What the lowest bucket stands for at which the buckets up to it have more than k. -/
def upto (k : Int) : Int → List (Int × Cel) → Int
  | _, [] => 0
  | s, c :: r => if k < s + c.2.weight then c.2.stands else upto k (s + c.2.weight) r
def quant (t : Tim) (q : Int) : Int := upto (q * (t.count - 1) / 100) 0 t.cells
def tnums (t : Tim) : List Int := [t.count, t.sum, t.least, t.greatest, quant t 50, quant t 90, quant t 99, if t.folded then 1 else 0]
/-- What stands behind the key. -/
def stext : Ser → Bs
  | .num n => Lib.itoa n
  | .set ws => Lib.itoa ws.length
  | .tim t => Lib.join ((tnums t).map Lib.itoa) [32]
/-- The limits: series, words of a set, buckets of a timer. -/
structure Lim where
  series : Nat
  sets : Nat
  buckets : Nat
def ser0 (k : Bs) : Ser := if k = [115] then .set [] else if k = [109, 115] then .tim ⟨0, 0, 0, 0, [], false⟩ else .num 0
/-- A sample taken by its series; false: it is dropped. -/
noncomputable def stake (L : Lim) (m : Smp) : Ser → Ser × Bool
  | .set ws => if has m.word ws then (.set ws, true) else if L.sets ≤ ws.length then (.set ws, false) else (.set (put sLt m.word () ws), true)
  | .tim t => (.tim (tadd L.buckets t m.value (1000 / m.rate)), true)
  | .num n => (.num (bnd (if m.kind = [99] then (m.value * 1000).tdiv m.rate + n else if m.signed then m.value + n else m.value)), true)
def key (m : Smp) : Bs := m.name ++ [124] ++ m.kind ++ Plain.pt m.tags
structure Win where
  rejects : Nat
  drops : Nat
  ser : List (Bs × Ser)
def win0 : Win := ⟨0, 0, []⟩
noncomputable def wtake (L : Lim) (w : Win) (m : Smp) : Win := match getE (key m) w.ser with
  | some s => ⟨w.rejects, if (stake L m s).2 then w.drops else w.drops + 1, put sLt (key m) (stake L m s).1 w.ser⟩
  | none => if L.series ≤ w.ser.length then ⟨w.rejects, w.drops + 1, w.ser⟩
    else ⟨w.rejects, if (stake L m (ser0 m.kind)).2 then w.drops else w.drops + 1, put sLt (key m) (stake L m (ser0 m.kind)).1 w.ser⟩
noncomputable def wline (L : Lim) (w : Win) (l : Bs) : Win := if l = [] then w else match rd l with
  | none => ⟨w.rejects + 1, w.drops, w.ser⟩
  | some m => wtake L w m
/-- The pieces between newlines. -/
def lines : Bs → List Bs
  | [] => [[]]
  | c :: r => if c = 10 then [] :: lines r else match lines r with
    | [] => [[c]]
    | x :: y => (c :: x) :: y
noncomputable def wgram (L : Lim) (w : Win) (d : Bs) : Win := (lines d).foldl (wline L) w
noncomputable def wsum (L : Lim) (ds : List Bs) : Win := ds.foldl (wgram L) win0
def stexts : List (Bs × Ser) → Bs
  | [] => []
  | p :: r => p.1 ++ [61] ++ stext p.2 ++ [10] ++ stexts r
/-- "window N rejects R drops D", newline. -/
def whead (n : Int) (r d : Nat) : Bs := [119, 105, 110, 100, 111, 119, 32] ++ Lib.itoa n ++ [32, 114, 101, 106, 101, 99, 116, 115, 32] ++ Lib.itoa r ++ [32, 100, 114, 111, 112, 115, 32] ++ Lib.itoa d ++ [10]
def wtext (n : Int) (w : Win) : Bs := whead n w.rejects w.drops ++ stexts w.ser
end Go.Proofs.YtmkidefdegaamaaGreatDoor.Wm
namespace Go.Proofs.YtmkidefdegaamaaGreatDoor.Bounds
open Bytes Nums Spl Tags Vals Opts Plain
theorem made_len {p : Int → Bool} {most : Int} {l : List UInt8} (h : made p most l = true) : (l.length : Int) ≤ most := by
  simp only [made, Bool.and_eq_true, decide_eq_true_eq] at h
  exact h.2.1
theorem compact_mem {zs : List (List UInt8)} {x : List UInt8} (h : x ∈ Lib.compact zs) : x ∈ zs := by
  unfold Lib.compact Lib.compactUpTo at h
  rw [List.mem_map] at h
  obtain ⟨j, hj, rfl⟩ := h
  rw [List.mem_filter, List.mem_range] at hj
  have e : zs.toArray[j]! = zs[j] := by simp [hj.1]
  rw [e]
  exact List.getElem_mem hj.1
theorem compact_le (zs : List (List UInt8)) : (Lib.compact zs).length ≤ zs.length := by
  unfold Lib.compact Lib.compactUpTo
  rw [List.length_map]
  have := List.length_filter_le (Lib.keeps zs.toArray) (List.range zs.length)
  rwa [List.length_range] at this
theorem tags_short {l : List UInt8} {ls : List (List UInt8)} (h : tagsOf l = some ls) : ls.length ≤ 4 ∧ ∀ x ∈ ls, x.length ≤ 8 := by
  unfold tagsOf at h
  split at h
  · split at h
    · split at h
      · rename_i h4 ha
        cases h
        refine ⟨?_, fun x hx => ?_⟩
        · have := compact_le ((spl 4 (l.drop 1)).mergeSort fun x y => decide (x ≤ y))
          rw [List.length_mergeSort] at this
          omega
        · have hm := compact_mem hx
          rw [List.mem_mergeSort] at hm
          have := made_len (List.all_eq_true.1 ha x hm)
          omega
      · cases h
    · cases h
  · cases h
theorem opts_short {k l : List UInt8} {r : Int} {ls : List (List UInt8)} (h : opts k l = some (r, ls)) : 1 ≤ r ∧ r ≤ 1000 ∧ ls.length ≤ 4 ∧ ∀ x ∈ ls, x.length ≤ 8 := by
  unfold opts at h
  split at h
  · split at h
    · cases h
    · rw [Option.bind_eq_some_iff] at h
      obtain ⟨q, hq, h⟩ := h
      have hr := rate_some hq
      split at h
      · rw [Option.map_eq_some_iff] at h
        obtain ⟨t, ht, h⟩ := h
        cases h
        exact ⟨hr.1, hr.2, tags_short ht⟩
      · cases h
        exact ⟨hr.1, hr.2, by simp, by simp⟩
  · rw [Option.map_eq_some_iff] at h
    obtain ⟨t, ht, h⟩ := h
    cases h
    exact ⟨by omega, by omega, tags_short ht⟩
theorem signed_short {t l : List UInt8} {x : List UInt8 × Int} (h : signed t l = some x) : -999999999 ≤ x.2 ∧ x.2 ≤ 999999999 := by
  unfold signed at h
  rw [Option.map_eq_some_iff] at h
  obtain ⟨n, hn, rfl⟩ := h
  have hv := num_some hn
  dsimp only
  split <;> omega
theorem rv_short {k l k' x : List UInt8} {g : Bool} {v : Int} (h : rv k l = some (k', g, v, x)) : k'.length ≤ 2 ∧ -999999999 ≤ v ∧ v ≤ 999999999 ∧ x.length ≤ 16 := by
  unfold rv at h
  split at h
  · split at h
    · rename_i hm
      have := made_len hm
      cases h
      exact ⟨by simp, by omega, by omega, by omega⟩
    · cases h
  · split at h
    · rw [Option.map_eq_some_iff] at h
      obtain ⟨y, hy, h⟩ := h
      have := signed_short hy
      cases h
      exact ⟨by simp, this.1, this.2, by simp⟩
    · split at h
      · rw [Option.map_eq_some_iff] at h
        obtain ⟨y, hy, h⟩ := h
        have := signed_short hy
        cases h
        exact ⟨by simp, this.1, this.2, by simp⟩
      · split at h
        · rw [Option.map_eq_some_iff] at h
          obtain ⟨y, hy, h⟩ := h
          have := signed_short hy
          cases h
          exact ⟨by simp, this.1, this.2, by simp⟩
        · cases h
theorem rd_short {l : List UInt8} {m : Smp} (h : rd l = some m) : m.name.length ≤ 16 ∧ m.kind.length ≤ 2 ∧ m.word.length ≤ 16 ∧ (-999999999 ≤ m.value ∧ m.value ≤ 999999999) ∧ (1 ≤ m.rate ∧ m.rate ≤ 1000) ∧ m.tags.length ≤ 4 ∧ ∀ x ∈ m.tags, x.length ≤ 8 := by
  unfold rd at h
  split at h
  · split at h
    · rename_i hm
      have hl := made_len hm
      unfold rdBehind at h
      split at h
      · rw [Option.bind_eq_some_iff] at h
        obtain ⟨x, hx, h⟩ := h
        have hv := rv_short (k' := x.1) (g := x.2.1) (v := x.2.2.1) (x := x.2.2.2) hx
        split at h
        · rw [Option.map_eq_some_iff] at h
          obtain ⟨o, ho, rfl⟩ := h
          have hop := opts_short (r := o.1) (ls := o.2) ho
          exact ⟨by dsimp only; omega, hv.1, hv.2.2.2, ⟨hv.2.1, hv.2.2.1⟩, ⟨hop.1, hop.2.1⟩, hop.2.2⟩
        · cases h
          exact ⟨by dsimp only; omega, hv.1, hv.2.2.2, ⟨hv.2.1, hv.2.2.1⟩, ⟨by dsimp only; omega, by dsimp only; omega⟩, by simp, by simp⟩
      · cases h
    · cases h
  · cases h
theorem join_len (ls : List (List UInt8)) (h : ∀ x ∈ ls, x.length ≤ 8) : (Lib.join ls [44]).length ≤ 9 * ls.length := by
  induction ls with
  | nil => simp [Lib.join]
  | cons x l ih =>
    have hx := h x (List.mem_cons_self ..)
    have hi := ih fun y hy => h y (List.mem_cons_of_mem _ hy)
    cases l with
    | nil =>
      simp [Lib.join]
      omega
    | cons y l =>
      have e : Lib.join (x :: y :: l) [44] = x ++ [44] ++ Lib.join (y :: l) [44] := by
        simp [Lib.join, List.intercalate, List.intersperse]
      rw [e, List.length_append, List.length_append]
      simp only [List.length_cons, List.length_nil] at hi ⊢
      omega
end Go.Proofs.YtmkidefdegaamaaGreatDoor.Bounds
namespace Go.Proofs.YtmkidefdegaamaaGreatDoor.Wm
open Im Opts
theorem isB_some (v : Int) : ∃ n s, Bnd.IsB v n s := by
  by_cases h : 0 ≤ v ∧ v ≤ 1000000000
  · have key : ∀ m : Nat, v < Bnd.bnd (m + 1) → ∃ k : Nat, Bnd.bnd k ≤ v ∧ v < Bnd.bnd (k + 1) := by
      intro m
      induction m with
      | zero => intro hm; exact ⟨0, by simpa [Bnd.bnd] using h.1, hm⟩
      | succ m ih =>
        intro hm
        by_cases h2 : v < Bnd.bnd (m + 1)
        · exact ih h2
        · exact ⟨m + 1, by omega, hm⟩
    obtain ⟨k, h1, h2⟩ := key v.toNat (by have := Bnd.bnd_ge (v.toNat + 1); omega)
    exact ⟨k, _, Or.inr ⟨h.1, h.2, k, rfl, h1, h2, rfl⟩⟩
  · exact ⟨-1, 0, Or.inl ⟨by omega, rfl, rfl⟩⟩
theorem bk_is (v : Int) : Bnd.IsB v (bk v).1 (bk v).2 := by
  obtain ⟨n, s, h⟩ := isB_some v
  rw [bk_of h]
  exact h
theorem bk_fit {v : Int} (h0 : 0 ≤ v) (h1 : v ≤ 999999999) : 0 ≤ (bk v).1 ∧ (bk v).1 ≤ 1000000000 ∧ 0 ≤ (bk v).2 ∧ (bk v).2 ≤ 2000000000 := by
  obtain ⟨a, b, _, _, c, d⟩ := Bnd.near (bk_is v) h0 (by omega)
  exact ⟨a, by omega, c, d⟩
def tot : List (Int × Cel) → Int
  | [] => 0
  | c :: r => c.2.weight + tot r
theorem tot_perm {l r : List (Int × Cel)} (h : l.Perm r) : tot l = tot r := by
  induction h with
  | nil => rfl
  | cons x _ ih => simp [tot, ih]
  | swap x y l => simp only [tot]; omega
  | trans _ _ h1 h2 => rw [h1, h2]
section
variable {κ β : Type} [DecidableEq κ] {lt : κ → κ → Bool}
theorem getE_cons_eq {k : κ} {x : κ × β} {l : List (κ × β)} (h : x.1 = k) : getE k (x :: l) = some x.2 := by simp [getE, h]
theorem getE_cons_ne {k : κ} {x : κ × β} {l : List (κ × β)} (h : x.1 ≠ k) : getE k (x :: l) = getE k l := by simp [getE, h]
theorem getE_mem {k : κ} {l : List (κ × β)} {b : β} (h : getE k l = some b) : (k, b) ∈ l := by
  induction l with
  | nil => cases h
  | cons x r ih =>
    by_cases e : x.1 = k
    · rw [getE_cons_eq e] at h
      cases h
      subst e
      exact List.mem_cons_self ..
    · rw [getE_cons_ne e] at h
      exact List.mem_cons_of_mem _ (ih h)
theorem del_perm {l : List (κ × β)} (hn : (l.map (·.1)).Nodup) {k : κ} {b : β} (h : getE k l = some b) : l.Perm ((k, b) :: del k l) := by
  induction l with
  | nil => cases h
  | cons x r ih =>
    rw [List.map_cons, List.nodup_cons] at hn
    by_cases e : x.1 = k
    · rw [getE_cons_eq e] at h
      cases h
      subst e
      have h1 : del x.1 (x :: r) = r := by
        show (x :: r).filter _ = r
        rw [List.filter_cons_of_neg (by simp)]
        exact del_of_not x.1 r ((has_false x.1 r).2 hn.1)
      rw [h1]
    · rw [getE_cons_ne e] at h
      have h1 : del k (x :: r) = x :: del k r := List.filter_cons_of_pos (by simp [e])
      rw [h1]
      exact (List.Perm.cons x (ih hn.2 h)).trans (List.Perm.swap _ _ _)
theorem put_perm_some {l : List (κ × β)} (hn : (l.map (·.1)).Nodup) {k : κ} {b b' : β} (h : getE k l = some b) : ∃ r, l.Perm ((k, b) :: r) ∧ (put lt k b' l).Perm ((k, b') :: r) :=
  ⟨del k l, del_perm hn h, ins_perm _ _⟩
theorem put_perm_none {l : List (κ × β)} {k : κ} {b' : β} (h : getE k l = none) : (put lt k b' l).Perm ((k, b') :: l) := by
  have h1 : has k l = false := by rw [has_getE, h]; rfl
  have : put lt k b' l = ins lt (k, b') l := by rw [put, del_of_not k l h1]
  rw [this]
  exact ins_perm _ _
theorem put_length_some {l : List (κ × β)} (hn : (l.map (·.1)).Nodup) {k : κ} {b b' : β} (h : getE k l = some b) : (put lt k b' l).length = l.length := by
  obtain ⟨r, h1, h2⟩ := put_perm_some (lt := lt) (b' := b') hn h
  rw [h1.length_eq, h2.length_eq]
  rfl
theorem put_length_none {l : List (κ × β)} {k : κ} {b' : β} (h : getE k l = none) : (put lt k b' l).length = l.length + 1 := by
  rw [(put_perm_none h).length_eq]
  rfl
theorem put_length_le {l : List (κ × β)} (hn : (l.map (·.1)).Nodup) {k : κ} {b' : β} : l.length ≤ (put lt k b' l).length ∧ (put lt k b' l).length ≤ l.length + 1 := by
  cases h : getE k l with
  | none => rw [put_length_none h]; omega
  | some b => rw [put_length_some hn h]; omega
theorem mem_put {l : List (κ × β)} {k : κ} {b : β} {p : κ × β} (h : p ∈ put lt k b l) : p = (k, b) ∨ (p ∈ l ∧ p.1 ≠ k) := by
  rcases (mem_ins _ _ _).1 h with h | h
  · exact Or.inl h
  · exact Or.inr (by simpa [del] using h)
end
theorem tot_lay {v wt : Int} {l : List (Int × Cel)} (h : Up iLt l) : tot (lay v wt l) = tot l + wt := by
  have hn := Up.nodup iLt_irr h
  unfold lay wgt
  cases hg : getE (bk v).1 l with
  | none =>
    rw [tot_perm (put_perm_none hg)]
    simp only [tot]
    omega
  | some b =>
    obtain ⟨r, h1, h2⟩ := put_perm_some (lt := iLt) (b' := ⟨(bk v).2, b.weight + wt⟩) hn hg
    rw [tot_perm h1, tot_perm h2]
    simp only [tot]
    omega
theorem up_lay {v wt : Int} {l : List (Int × Cel)} (h : Up iLt l) : Up iLt (lay v wt l) := h.put iLt_trans iLt_total _ _
theorem tot_fold (l : List (Int × Cel)) : tot (fold l) = tot l := by
  match l with
  | [] => rfl
  | [a] => rfl
  | a :: b :: r =>
    simp only [fold, tot]
    omega
theorem up_fold {l : List (Int × Cel)} (h : Up iLt l) : Up iLt (fold l) := by
  match l, h with
  | [], h => exact h
  | [a], h => exact h
  | a :: b :: r, h =>
    obtain ⟨_, h2⟩ := List.pairwise_cons.1 h
    obtain ⟨h3, h4⟩ := List.pairwise_cons.1 h2
    exact List.pairwise_cons.2 ⟨h3, h4⟩
theorem fold_length {l : List (Int × Cel)} (h : 2 ≤ l.length) : (fold l).length + 1 = l.length := by
  match l, h with
  | a :: b :: r, h => simp [fold]
/-- How the program folds. -/
theorem fold_is {a b : Int × Cel} {r : List (Int × Cel)} (h : Up iLt (a :: b :: r)) : del a.1 (put iLt b.1 ⟨b.2.stands, b.2.weight + a.2.weight⟩ (a :: b :: r)) = fold (a :: b :: r) := by
  obtain ⟨h1, h2⟩ := List.pairwise_cons.1 h
  obtain ⟨h3, h4⟩ := List.pairwise_cons.1 h2
  have hab : a.1 < b.1 := by simpa [iLt] using h1 b (List.mem_cons_self ..)
  have hr : ∀ x ∈ r, b.1 < x.1 := fun x hx => by simpa [iLt] using h3 x hx
  have e1 : del b.1 (a :: b :: r) = a :: r := by
    show (a :: b :: r).filter _ = _
    rw [List.filter_cons_of_pos (by simp; omega), List.filter_cons_of_neg (by simp), List.filter_eq_self.2]
    intro x hx
    have := hr x hx
    simp
    omega
  have e2 : ins iLt (b.1, (⟨b.2.stands, b.2.weight + a.2.weight⟩ : Cel)) (a :: r) = a :: (b.1, ⟨b.2.stands, b.2.weight + a.2.weight⟩) :: r := by
    rw [ins, if_neg (by simp [iLt]; omega)]
    congr 1
    cases r with
    | nil => rfl
    | cons x r => rw [ins, if_pos (by simpa [iLt] using hr x (List.mem_cons_self ..))]
  rw [put, e1, e2]
  show (a :: _ :: r).filter _ = _
  rw [List.filter_cons_of_neg (by simp), List.filter_cons_of_pos (by simp; omega), List.filter_eq_self.2]
  · rfl
  · intro x hx
    have := hr x hx
    simp
    omega
/-- A timer's numbers are in bounds when so many lines have come. -/
structure TFit (L : Lim) (n : Nat) (t : Tim) : Prop where
  count : 0 ≤ t.count ∧ t.count ≤ top
  sum : 0 ≤ t.sum ∧ t.sum ≤ top
  least : 0 ≤ t.least ∧ t.least ≤ 999999999
  greatest : 0 ≤ t.greatest ∧ t.greatest ≤ 999999999
  up : Up iLt t.cells
  len : t.cells.length ≤ L.buckets
  tot : tot t.cells ≤ 1000 * n
  cel : ∀ c ∈ t.cells, 0 ≤ c.1 ∧ c.1 ≤ 1000000000 ∧ 0 ≤ c.2.stands ∧ c.2.stands ≤ 2000000000 ∧ 0 ≤ c.2.weight
theorem wgt_le {k : Int} {l : List (Int × Cel)} (h : ∀ c ∈ l, 0 ≤ c.2.weight) : 0 ≤ wgt k l ∧ wgt k l ≤ tot l := by
  have h0 : ∀ l : List (Int × Cel), (∀ c ∈ l, 0 ≤ c.2.weight) → 0 ≤ tot l := by
    intro l
    induction l with
    | nil => intro _; exact Int.le_refl _
    | cons x r ih =>
      intro h
      have h1 := h x (List.mem_cons_self ..)
      have h2 := ih fun c hc => h c (List.mem_cons_of_mem _ hc)
      simp only [tot]
      omega
  induction l with
  | nil => exact ⟨Int.le_refl _, Int.le_refl _⟩
  | cons x r ih =>
    have h1 := h x (List.mem_cons_self ..)
    have h2 := h0 r fun c hc => h c (List.mem_cons_of_mem _ hc)
    have h3 := ih fun c hc => h c (List.mem_cons_of_mem _ hc)
    unfold wgt at h3 ⊢
    by_cases e : x.1 = k
    · rw [getE_cons_eq e]
      simp only [tot]
      omega
    · rw [getE_cons_ne e]
      simp only [tot]
      omega
theorem bnd_fit (n : Int) : -top ≤ bnd n ∧ bnd n ≤ top := by
  unfold bnd top
  omega
theorem TFit.add {L : Lim} {n : Nat} {t : Tim} (h : TFit L n t) (hL : 2 ≤ L.buckets) {v wt : Int} (h0 : 0 ≤ v) (h1 : v ≤ 999999999) (h2 : 1 ≤ wt) (h3 : wt ≤ 1000) : TFit L (n + 1) (tadd L.buckets t v wt) := by
  have hp : 0 ≤ v * wt := Int.mul_nonneg h0 (by omega)
  have hlen := put_length_le (lt := iLt) (k := (bk v).1) (b' := ⟨(bk v).2, wgt (bk v).1 t.cells + wt⟩) (Up.nodup iLt_irr h.up)
  have hlay : (lay v wt t.cells).length ≤ t.cells.length + 1 := hlen.2
  have hw := wgt_le (k := (bk v).1) (fun c hc => (h.cel c hc).2.2.2.2)
  obtain ⟨b1, b2, b3, b4⟩ := bk_fit h0 h1
  have hcel : ∀ c ∈ lay v wt t.cells, 0 ≤ c.1 ∧ c.1 ≤ 1000000000 ∧ 0 ≤ c.2.stands ∧ c.2.stands ≤ 2000000000 ∧ 0 ≤ c.2.weight := by
    intro c hc
    rcases mem_put hc with rfl | ⟨hc, _⟩
    · exact ⟨b1, b2, b3, b4, by show 0 ≤ wgt _ _ + wt; omega⟩
    · exact h.cel c hc
  have htot := tot_lay (v := v) (wt := wt) h.up
  have hup := up_lay (v := v) (wt := wt) h.up
  have q1 := h.count
  have q2 := h.sum
  have q3 := h.least
  have q4 := h.greatest
  have q5 := h.len
  have q6 := h.tot
  refine ⟨?_, ?_, ?_, ?_, ?_, ?_, ?_, ?_⟩
  · simp only [tadd, bnd, top] at *
    omega
  · simp only [tadd, bnd, top] at *
    omega
  · simp only [tadd]
    split <;> omega
  · simp only [tadd]
    split <;> omega
  · simp only [tadd]
    split
    · exact up_fold hup
    · exact hup
  · simp only [tadd]
    split
    · have := fold_length (l := lay v wt t.cells) (by omega)
      omega
    · omega
  · simp only [tadd]
    split
    · rw [tot_fold, htot]
      omega
    · rw [htot]
      omega
  · simp only [tadd]
    split
    · intro c hc
      generalize lay v wt t.cells = l at *
      match l, hc, hcel with
      | [], hc, hcel => exact hcel c hc
      | [a], hc, hcel => exact hcel c hc
      | a :: b :: r, hc, hcel =>
        rcases List.mem_cons.1 hc with rfl | hc
        · have x1 := hcel a (List.mem_cons_self ..)
          have x2 := hcel b (List.mem_cons_of_mem _ (List.mem_cons_self ..))
          exact ⟨x2.1, x2.2.1, x2.2.2.1, x2.2.2.2.1, by show 0 ≤ b.2.weight + a.2.weight; omega⟩
        · exact hcel c (List.mem_cons_of_mem _ (List.mem_cons_of_mem _ hc))
    · exact hcel
theorem TFit.zero (L : Lim) (n : Nat) : TFit L n ⟨0, 0, 0, 0, [], false⟩ :=
  ⟨by simp [top], by simp [top], by simp, by simp, List.Pairwise.nil, Nat.zero_le _, by simp only [Wm.tot]; omega, by simp⟩
theorem TFit.mono {L : Lim} {n m : Nat} {t : Tim} (h : TFit L n t) (hm : n ≤ m) : TFit L m t :=
  ⟨h.count, h.sum, h.least, h.greatest, h.up, h.len, by have := h.tot; omega, h.cel⟩
/-- The type that a key names. -/
def kindOf (k : Bs) : Bs := Bytes.fore 124 (Bytes.aft 124 k)
def fits (k : Bs) : Ser → Prop
  | .set _ => k = [115]
  | .tim _ => k = [109, 115]
  | .num _ => k = [99] ∨ k = [103]
def sok (L : Lim) (n : Nat) : Ser → Prop
  | .num x => -top ≤ x ∧ x ≤ top
  | .set ws => Up sLt ws ∧ ws.length ≤ L.sets
  | .tim t => TFit L n t
structure SFit (L : Lim) (n : Nat) (k : Bs) (s : Ser) : Prop where
  kind : fits (kindOf k) s
  klen : k.length ≤ 64
  ok : sok L n s
theorem SFit.mono {L : Lim} {n m : Nat} {k : Bs} {s : Ser} (h : SFit L n k s) (hm : n ≤ m) : SFit L m k s := by
  refine ⟨h.kind, h.klen, ?_⟩
  have := h.ok
  cases s with
  | num x => exact this
  | set ws => exact this
  | tim t => exact TFit.mono this hm
structure WFit (L : Lim) (n : Nat) (w : Win) : Prop where
  cnt : w.rejects + w.drops ≤ n
  up : Up sLt w.ser
  len : w.ser.length ≤ L.series
  ser : ∀ p ∈ w.ser, SFit L n p.1 p.2
theorem WFit.zero (L : Lim) : WFit L 0 win0 := ⟨Nat.le_refl _, List.Pairwise.nil, Nat.zero_le _, by simp [win0]⟩
theorem WFit.mono {L : Lim} {n m : Nat} {w : Win} (h : WFit L n w) (hm : n ≤ m) : WFit L m w := ⟨by have := h.cnt; omega, h.up, h.len, fun p hp => (h.ser p hp).mono hm⟩
/-! ### Samples -/
theorem fore_append {c : UInt8} {a b : Bs} (h : c ∉ a) : Bytes.fore c (a ++ c :: b) = a := by
  induction a with
  | nil => simp [Bytes.fore]
  | cons x a ih =>
    have h1 : c ≠ x := fun e => h (by simp [e])
    have h2 := ih fun e => h (List.mem_cons_of_mem _ e)
    unfold Bytes.fore at *
    rw [List.cons_append, List.takeWhile_cons_of_pos (by simpa using fun e => h1 e.symm), h2]
theorem fore_all {c : UInt8} {a : Bs} (h : c ∉ a) : Bytes.fore c a = a := by
  induction a with
  | nil => rfl
  | cons x a ih =>
    have h1 : c ≠ x := fun e => h (by simp [e])
    have h2 := ih fun e => h (List.mem_cons_of_mem _ e)
    unfold Bytes.fore at *
    rw [List.takeWhile_cons_of_pos (by simpa using fun e => h1 e.symm), h2]
theorem aft_append {c : UInt8} {a b : Bs} (h : c ∉ a) : Bytes.aft c (a ++ c :: b) = b := by
  induction a with
  | nil => simp [Bytes.aft]
  | cons x a ih =>
    have h1 : c ≠ x := fun e => h (by simp [e])
    have h2 := ih fun e => h (List.mem_cons_of_mem _ e)
    unfold Bytes.aft at *
    rw [List.cons_append, List.dropWhile_cons_of_pos (by simpa using fun e => h1 e.symm), h2]
theorem name_no {most : Int} {l : Bs} (h : Bytes.made Bytes.nam most l = true) : (124 : UInt8) ∉ l := by
  intro hm
  simp only [Bytes.made, Bool.and_eq_true, List.all_eq_true] at h
  have := h.2.2 124 hm
  revert this
  decide
theorem rv_kind {k l k' x : Bs} {g : Bool} {v : Int} (h : Vals.rv k l = some (k', g, v, x)) : (k' = [115] ∨ k' = [99] ∨ k' = [103] ∨ (k' = [109, 115] ∧ 0 ≤ v)) := by
  unfold Vals.rv at h
  split at h
  · split at h
    · cases h; exact Or.inl rfl
    · cases h
  · split at h
    · simp only [Option.map_eq_some_iff] at h
      obtain ⟨_, _, h⟩ := h
      cases h; exact Or.inr (Or.inl rfl)
    · split at h
      · simp only [Option.map_eq_some_iff] at h
        obtain ⟨_, _, h⟩ := h
        cases h; exact Or.inr (Or.inr (Or.inl rfl))
      · split at h
        · simp only [Option.map_eq_some_iff] at h
          obtain ⟨y, hy, h⟩ := h
          cases h
          refine Or.inr (Or.inr (Or.inr ⟨rfl, ?_⟩))
          unfold Vals.signed at hy
          simp only [Option.map_eq_some_iff] at hy
          obtain ⟨n, hn, rfl⟩ := hy
          have e : Nums.sg [] l = [] := by
            unfold Nums.sg
            split <;> simp [Bytes.has]
          rw [e] at hn ⊢
          have := (Nums.num_some hn).1
          simpa using this
        · cases h
theorem rd_kind {l : Bs} {m : Smp} (h : rd l = some m) : (124 : UInt8) ∉ m.name ∧ (m.kind = [115] ∨ m.kind = [99] ∨ m.kind = [103] ∨ (m.kind = [109, 115] ∧ 0 ≤ m.value)) := by
  unfold rd at h
  split at h
  · split at h
    · rename_i hm
      unfold rdBehind at h
      split at h
      · simp only [Option.bind_eq_some_iff] at h
        obtain ⟨⟨k', g, v, x⟩, hx, h⟩ := h
        have hk := rv_kind hx
        split at h
        · simp only [Option.map_eq_some_iff] at h
          obtain ⟨o, _, rfl⟩ := h
          exact ⟨name_no hm, hk⟩
        · cases h
          exact ⟨name_no hm, hk⟩
      · cases h
    · cases h
  · cases h
theorem kindOf_key {l : Bs} {m : Smp} (h : rd l = some m) : kindOf (key m) = m.kind := by
  obtain ⟨h1, h2⟩ := rd_kind h
  have h3 : (124 : UInt8) ∉ m.kind := by
    rcases h2 with e | e | e | ⟨e, _⟩ <;> rw [e] <;> decide
  unfold kindOf key
  rw [List.append_assoc, List.append_assoc, List.singleton_append, aft_append h1]
  unfold Plain.pt
  split
  · rw [List.append_nil, fore_all h3]
  · exact fore_append h3
theorem key_len {l : Bs} {m : Smp} (h : rd l = some m) : (key m).length ≤ 64 := by
  obtain ⟨h1, h2, _, _, _, h5, h6⟩ := Bounds.rd_short h
  have hj := Bounds.join_len m.tags h6
  unfold key Plain.pt
  split <;> simp only [List.length_append, List.length_cons, List.length_nil] <;> omega
theorem SFit.take {L : Lim} {n : Nat} {k l : Bs} {s : Ser} {m : Smp} (h : SFit L n k s) (hL : 2 ≤ L.buckets) (hr : rd l = some m) (hk : kindOf k = m.kind) : SFit L (n + 1) k (stake L m s).1 := by
  obtain ⟨_, hkd⟩ := rd_kind hr
  obtain ⟨_, _, _, hv, hra, _⟩ := Bounds.rd_short hr
  have hok := h.ok
  have hkk := h.kind
  refine ⟨?_, h.klen, ?_⟩
  · cases s with
    | num x => exact hkk
    | tim t => exact hkk
    | set ws =>
      simp only [stake]
      split
      · exact hkk
      · split <;> exact hkk
  · cases s with
    | num x => exact bnd_fit _
    | tim t =>
      have e : m.kind = [109, 115] := by rw [← hk]; exact hkk
      have h0 : 0 ≤ m.value := by
        rcases hkd with e' | e' | e' | ⟨_, e'⟩
        · rw [e] at e'; cases e'
        · rw [e] at e'; cases e'
        · rw [e] at e'; cases e'
        · exact e'
      refine TFit.add hok hL h0 hv.2 ?_ ?_
      · exact Int.le_ediv_of_mul_le (by omega) (by omega)
      · exact Int.ediv_le_self _ (by omega)
    | set ws =>
      by_cases h1 : has m.word ws = true
      · simp only [stake, h1, if_true]
        exact hok
      · by_cases h2 : L.sets ≤ ws.length
        · simp only [stake, h1, h2, if_true, if_false, Bool.false_eq_true]
          exact hok
        · simp only [stake, h1, h2, if_false, Bool.false_eq_true]
          have hok : Up sLt ws ∧ ws.length ≤ L.sets := hok
          refine ⟨hok.1.put sLt_trans sLt_total _ _, ?_⟩
          have := (put_length_le (lt := sLt) (k := m.word) (b' := ()) (Up.nodup sLt_irr hok.1)).2
          omega
theorem SFit.zero {L : Lim} {n : Nat} {l : Bs} {m : Smp} (hr : rd l = some m) : SFit L n (key m) (ser0 m.kind) := by
  obtain ⟨_, hkd⟩ := rd_kind hr
  refine ⟨?_, key_len hr, ?_⟩
  · rw [kindOf_key hr]
    rcases hkd with e | e | e | ⟨e, _⟩ <;> rw [e] <;> simp [ser0, fits]
  · rcases hkd with e | e | e | ⟨e, _⟩ <;> rw [e]
    · exact ⟨List.Pairwise.nil, Nat.zero_le _⟩
    · exact ⟨by decide, by decide⟩
    · exact ⟨by decide, by decide⟩
    · exact TFit.zero _ _
theorem WFit.take {L : Lim} {n : Nat} {w : Win} {l : Bs} {m : Smp} (h : WFit L n w) (hL : 2 ≤ L.buckets) (hr : rd l = some m) : WFit L (n + 1) (wtake L w m) := by
  have hc := h.cnt
  have hput : ∀ s, SFit L (n + 1) (key m) s → ∀ p ∈ put sLt (key m) s w.ser, SFit L (n + 1) p.1 p.2 := fun s hs p hp => by
    rcases mem_put hp with rfl | ⟨hp, _⟩
    · exact hs
    · exact (h.ser p hp).mono (Nat.le_succ _)
  have hup := fun s : Ser => h.up.put sLt_trans sLt_total (key m) s
  unfold wtake
  split
  · rename_i s hs
    have h1 := h.ser _ (getE_mem hs)
    refine ⟨by simp only; split <;> omega, hup _, ?_, hput _ (h1.take hL hr (kindOf_key hr))⟩
    simp only [put_length_some (Up.nodup sLt_irr h.up) hs]
    exact h.len
  · rename_i hs
    split
    · exact ⟨by simp only; omega, h.up, h.len, fun p hp => (h.ser p hp).mono (Nat.le_succ _)⟩
    · refine ⟨by simp only; split <;> omega, hup _, ?_, hput _ ((SFit.zero hr).take hL hr (kindOf_key hr))⟩
      simp only [put_length_none hs]
      omega
theorem WFit.line {L : Lim} {n : Nat} {w : Win} (h : WFit L n w) (hL : 2 ≤ L.buckets) (l : Bs) : WFit L (n + 1) (wline L w l) := by
  unfold wline
  split
  · exact h.mono (Nat.le_succ _)
  · split
    · have := h.cnt
      exact ⟨by simp only; omega, h.up, h.len, fun p hp => (h.ser p hp).mono (Nat.le_succ _)⟩
    · rename_i m hr
      exact h.take hL hr
end Go.Proofs.YtmkidefdegaamaaGreatDoor.Wm
namespace Go.Proofs.YtmkidefdegaamaaGreatDoor.Im
open Go
section
variable {P : Program} {k e t : TypeId} {κ β : Type} {lit : κ → Lit} {f : β → Value} {ok : Value → Bool} {w : World} {b n : Nat} {l : List (κ × β)}
theorem own_at {w' : World} {R : Value → Option (DataW Value × List MemPlace)} {D : DataW Value} (h : w.ownsMap P k R b n D) (hb : w'.heap[b]? = w.heap[b]?) : w'.ownsMap P k R b n D := by
  obtain ⟨es, clock, h1, h2⟩ := h
  exact ⟨es, clock, hb.trans h1, h2⟩
theorem len_run (h : w.ownsMap P k (exE ok) b n (mp lit f l)) (ht : P.underlying t = some (.map k e)) (ty : TypeId) : ∀ w' : World, w'.heap[b]? = w.heap[b]? → (Builtin.len_ #[t] ty #[.map (some b)]).run P w' = .ok (.int .i64 l.length) w' := by
  intro w' hb
  have := (own_at h hb).len ht ty
  rw [mp_size] at this
  exact this
/-- A map whose entries are these. -/
def Owns (P : Program) (k : TypeId) (ok : Value → Bool) (lit : κ → Lit) (f : β → Value) (w : World) (b : Nat) (l : List (κ × β)) : Prop := w.ownsMap P k (exE ok) b l.length (mp lit f l)
theorem Owns.below (h : Owns P k ok lit f w b l) : b < w.heap.size := World.ownsMap.lt h
theorem Owns.at {w' : World} (h : Owns P k ok lit f w b l) (hb : w'.heap[b]? = w.heap[b]?) : Owns P k ok lit f w' b l := own_at h hb
theorem Owns.of (h : w.ownsMap P k (exE ok) b n (mp lit f l)) : Owns P k ok lit f w b l := by
  have := own_tight h
  rw [mp_size] at this
  exact this
theorem made_owns (w : World) : Owns P k ok lit f (w.alloc (.map #[] 0)) w.heap.size ([] : List (κ × β)) := World.ownsMap_made w P k (exE ok)
end
section
variable {P : Program} {k e t : TypeId} {κ β : Type} [DecidableEq κ] {lit : κ → Lit} {lt : κ → κ → Bool} {f : β → Value} {ok : Value → Bool} {w : World} {b n : Nat} {l : List (κ × β)}
/-- What a key's element is. -/
def elemOf (f : β → Value) (z : Value) (a : κ) (l : List (κ × β)) : Value := match getE a l with
  | some x => f x
  | none => z
theorem look_run (h : w.ownsMap P k (exE ok) b n (mp lit f l)) (K : Maps.Keyed P k) (ht : P.underlying t = some (.map k e)) {z : Value} (hz : ∀ w, (zeroValue e).run P w = .ok z w) (hok : ok z = true) (hs : ∀ a b, (lit a).sameKey (lit b) = decide (a = b)) {key : Value} {a : κ} (hkey : keyOf P k key = some (lit a)) :
    ∀ w' : World, w'.heap[b]? = w.heap[b]? → (Instr.lookup t (.map (some b)) key false).run P w' = .ok (elemOf f z a l) w' := by
  intro w' hb
  obtain ⟨v, ps, hrun, hv⟩ := (own_at h hb).lookup K ht (hz w') (exE_mk hok) hkey
  obtain ⟨_, e1⟩ := exE_inv hv
  rw [mp_at hs] at e1
  rw [hrun]
  congr 1
  unfold elemOf
  cases hg : getE a l with
  | none =>
    rw [hg] at e1
    simp at e1
    exact e1.1.symm
  | some x =>
    rw [hg] at e1
    simp at e1
    exact e1.1.symm
theorem look_ok_run (h : w.ownsMap P k (exE ok) b n (mp lit f l)) (K : Maps.Keyed P k) (ht : P.underlying t = some (.map k e)) {z : Value} (hz : ∀ w, (zeroValue e).run P w = .ok z w) (hok : ok z = true) (hs : ∀ a b, (lit a).sameKey (lit b) = decide (a = b)) {key : Value} {a : κ} (hkey : keyOf P k key = some (lit a)) :
    ∀ w' : World, w'.heap[b]? = w.heap[b]? → (Instr.lookup t (.map (some b)) key true).run P w' = .ok (.tuple #[elemOf f z a l, .bool (has a l)]) w' := by
  intro w' hb
  obtain ⟨v, ps, hrun, hv⟩ := (own_at h hb).look_ok K ht (hz w') (exE_mk hok) hkey
  obtain ⟨_, e1⟩ := exE_inv hv
  rw [mp_at hs] at e1
  rw [hrun, mp_has hs]
  congr 3
  unfold elemOf
  cases hg : getE a l with
  | none =>
    rw [hg] at e1
    simp at e1
    exact congrArg (· :: _) e1.1.symm
  | some x =>
    rw [hg] at e1
    simp at e1
    exact congrArg (· :: _) e1.1.symm
theorem upd_run (h : Owns P k ok lit f w b l) (K : Maps.Keyed P k) (ht : P.underlying t = some (.map k e)) (hs : ∀ a b, (lit a).sameKey (lit b) = decide (a = b)) (hb : ∀ a b, (lit a).before (lit b) = lt a b) (hl : l.length < maxLen) {key : Value} {a : κ} (hkey : keyOf P k key = some (lit a)) (x : β) (hx : ok (f x) = true) :
    ∃ w', (Instr.mapUpdate t (.map (some b)) key (f x)).run P w = .ok () w' ∧ Owns P k ok lit f w' b (put lt a x l) ∧ w.grownBy w' (some b) := by
  obtain ⟨w', h1, h2, h3⟩ := World.ownsMap.update h K ht hl hkey (exE_mk hx)
  rw [mp_put hs hb] at h2
  exact ⟨w', h1, Owns.of h2, h3⟩
theorem del_run (h : Owns P k ok lit f w b l) (K : Maps.Keyed P k) (ht : P.underlying t = some (.map k e)) (hs : ∀ a b, (lit a).sameKey (lit b) = decide (a = b)) {key : Value} {a : κ} (hkey : keyOf P k key = some (lit a)) (ty : TypeId) :
    ∃ w', (Builtin.delete_ #[t, k] ty #[.map (some b), key]).run P w = .ok (.tuple #[]) w' ∧ Owns P k ok lit f w' b (del a l) ∧ w.grownBy w' (some b) := by
  obtain ⟨w', h1, h2, h3⟩ := World.ownsMap.drop h K ht hkey ty
  rw [mp_del hs] at h2
  exact ⟨w', h1, Owns.of h2, h3.grown⟩
end
end Go.Proofs.YtmkidefdegaamaaGreatDoor.Im
namespace Go.Proofs.YtmkidefdegaamaaGreatDoor.Hk
open Go.RowKit Go.Maps Mem Foot Im Wm
def cv (c : Cel) : Value := .agg #[.int .i64 c.stands, .int .i64 c.weight]
def okC : Value → Bool
  | .agg cs => match cs.toList with
    | [.int .i64 _, .int .i64 _] => true
    | _ => false
  | _ => false
def zC : Value := .agg #[.int .i64 0, .int .i64 0]
/-- The map of a sketch's buckets. -/
def Cells (w : World) (b : Nat) (l : List (Int × Cel)) : Prop := Owns Tryz.prog 3 okC iLit cv w b l
theorem zeroC (w : World) : (zeroValue 290).run Tryz.prog w = .ok zC w := Tryz.zeroValue290 w
/-- A sketch. -/
structure SkAt (w : World) (S b : Nat) (mx : Nat) (l : List (Int × Cel)) (folded : Bool) : Prop where
  head : Sits w S 252 #[.int .i64 mx, .map (some b), .bool folded]
  map : Cells w b l
theorem grown_off' {F : List Nat} {w w' : World} {b : Nat} (h : w.grownBy w' (some b)) (hb : b ∈ F) : Off F w w' :=
  ⟨h.os, h.tape, h.output, h.size, fun k hk hF => h.block k hk (fun e => hF (by cases e; exact hb))⟩
theorem Cells.off {F : List Nat} {w w' : World} {b : Nat} {l : List (Int × Cel)} (h : Cells w b l) (ho : Off F w w') (hb : b ∉ F) : Cells w' b l := Owns.at h (ho.block b h.below hb)
theorem SkAt.off {F : List Nat} {w w' : World} {S b mx : Nat} {l : List (Int × Cel)} {f : Bool} (h : SkAt w S b mx l f) (ho : Off F w w') (hS : S ∉ F) (hb : b ∉ F) : SkAt w' S b mx l f :=
  ⟨Foot.Sits.off h.head ho hS, h.map.off ho hb⟩
theorem skNew (mx : Nat) (w : World) : Calls Tryz.prog 208 #[.int .i64 mx] w fun e w' => e = .returned (.pointer (some ⟨w.heap.size + 1, 0, none⟩)) ∧ SkAt w' (w.heap.size + 1) w.heap.size mx [] false ∧ Below w.heap.size w w' := by
  have hmm := @run_makeMap Tryz.prog
  go_enter Tryz.func208, Tryz.ntmps208
  go_wp2_with fail
  go_ret
  refine ⟨by simp, ⟨?_, ?_⟩, (below_new _).alloc (by simp) _⟩
  · have := Sits.new (w.alloc (.map #[] 0)) 252 #[.int .i64 mx, .map (some w.heap.size), .bool false]
    simpa using this
  · exact Owns.at (made_owns w) (Below.heap_alloc _ _ _ (by simp))
end Go.Proofs.YtmkidefdegaamaaGreatDoor.Hk
namespace Go.Proofs.YtmkidefdegaamaaGreatDoor.Hk
open Go.RowKit Go.Maps Mem Foot Im Wm
theorem bounded (n : Int) (w : World) : Calls Tryz.prog 125 #[.int .i64 n] w fun e w' => e = .returned (.int .i64 (Wm.bnd n)) ∧ w' = w := by
  by_cases h1 : n < -1000000000000000
  · go_enter Tryz.func125, Tryz.ntmps125
    go_wp2
    go_ret
    refine ⟨congrArg (fun z => Ending.returned (.int .i64 z)) ?_, rfl⟩
    simp only [Wm.bnd, top]
    omega
  · by_cases h2 : n ≤ 1000000000000000
    · go_enter Tryz.func125, Tryz.ntmps125
      go_wp2
      go_ret
      refine ⟨congrArg (fun z => Ending.returned (.int .i64 z)) ?_, rfl⟩
      simp only [Wm.bnd, top]
      omega
    · go_enter Tryz.func125, Tryz.ntmps125
      go_wp2
      go_ret
      refine ⟨congrArg (fun z => Ending.returned (.int .i64 z)) ?_, rfl⟩
      simp only [Wm.bnd, top]
      omega
theorem folded (S b mx : Nat) (l : List (Int × Cel)) (f : Bool) (w : World) (h : SkAt w S b mx l f) : Calls Tryz.prog 108 #[.pointer (some ⟨S, 0, none⟩)] w fun e w' => e = .returned (.bool f) ∧ w' = w := by
  have c2 := h.head.cell 2 _ rfl
  go_enter Tryz.func108, Tryz.ntmps108
  go_wp2_with fail
  go_ret
  exact ⟨rfl, rfl⟩
def okU : Value → Bool
  | .agg cs => cs.size == 0
  | _ => false
def uv (_ : Unit) : Value := .agg #[]
def Words (w : World) (b : Nat) (l : List (Bs × Unit)) : Prop := Owns Tryz.prog 9 okU sLit uv w b l
theorem zeroU (w : World) : (zeroValue 270).run Tryz.prog w = .ok (.agg #[]) w := Tryz.zeroValue270 w
/-- A set's words. -/
structure WoAt (w : World) (S b : Nat) (mx : Nat) (l : List (Bs × Unit)) : Prop where
  head : Sits w S 203 #[.int .i64 mx, .map (some b)]
  map : Words w b l
theorem WoAt.off {F : List Nat} {w w' : World} {S b mx : Nat} {l : List (Bs × Unit)} (h : WoAt w S b mx l) (ho : Off F w w') (hS : S ∉ F) (hb : b ∉ F) : WoAt w' S b mx l :=
  ⟨Foot.Sits.off h.head ho hS, Owns.at h.map (ho.block b h.map.below hb)⟩
theorem woNew (mx : Nat) (w : World) : Calls Tryz.prog 167 #[.int .i64 mx] w fun e w' => e = .returned (.pointer (some ⟨w.heap.size + 1, 0, none⟩)) ∧ WoAt w' (w.heap.size + 1) w.heap.size mx [] ∧ Below w.heap.size w w' := by
  have hmm := @run_makeMap Tryz.prog
  go_enter Tryz.func167, Tryz.ntmps167
  go_wp2_with fail
  go_ret
  refine ⟨by simp, ⟨?_, ?_⟩, (below_new _).alloc (by simp) _⟩
  · have := Sits.new (w.alloc (.map #[] 0)) 203 #[.int .i64 mx, .map (some w.heap.size)]
    simpa using this
  · exact Owns.at (made_owns w) (Below.heap_alloc _ _ _ (by simp))
theorem woLen (S b mx : Nat) (l : List (Bs × Unit)) (w : World) (h : WoAt w S b mx l) : Calls Tryz.prog 84 #[.pointer (some ⟨S, 0, none⟩)] w fun e w' => e = .returned (.int .i64 l.length) ∧ w' = w := by
  have c1 := h.head.cell 1 _ rfl
  have hl := len_run h.map Tryz.underlying201
  have hl1 := fun ty => hl ty w rfl
  clear hl
  go_enter Tryz.func84, Tryz.ntmps84
  go_wp2_with fail
  go_ret
  exact ⟨rfl, rfl⟩
end Go.Proofs.YtmkidefdegaamaaGreatDoor.Hk
namespace Go.Proofs.YtmkidefdegaamaaGreatDoor.Hk
open Go.RowKit Go.Maps Mem Foot Im Wm
theorem WoAt.keep {w w' : World} {S b mx : Nat} {l : List (Bs × Unit)} (h : WoAt w S b mx l) (hb : Below w.heap.size w w') : WoAt w' S b mx l :=
  h.off (F := []) (Off.of_below hb) (by simp) (by simp)
/-- What a word more leaves. -/
def wadd (mx : Nat) (x : Bs) (l : List (Bs × Unit)) : List (Bs × Unit) × Bool := if has x l then (l, true) else if mx ≤ l.length then (l, false) else (put sLt x () l, true)
theorem map_sits {w : World} {b k : Nat} {t : TypeId} {cs : Array Value} {κ β : Type} {K : TypeId} {ok : Value → Bool} {lit : κ → Lit} {f : β → Value} {l : List (κ × β)} (h : Owns Tryz.prog K ok lit f w b l) (hs : Sits w k t cs) : k ≠ b := by
  intro e
  subst e
  obtain ⟨es, clock, h1, _⟩ := h
  unfold Sits at hs
  rw [h1] at hs
  cases hs
set_option maxRecDepth 10000 in
set_option maxHeartbeats 2000000 in
theorem woAdd (S b mx : Nat) (l : List (Bs × Unit)) (s : ByteArray) (w : World) (h : WoAt w S b mx l) (hl : l.length < 1000) (hsz : s.size ≤ 1000) : Calls Tryz.prog 123 #[.pointer (some ⟨S, 0, none⟩), .string s] w fun e w' =>
    e = .returned (.bool (wadd mx (Bytes.B s) l).2) ∧ Off [b] w w' ∧ WoAt w' S b mx (wadd mx (Bytes.B s) l).1 := by
  have hkey : keyOf Tryz.prog 9 (.string s) = some (sLit (Bytes.B s)) := Go.WideMaps.keyOf_string_mk Tryz.underlying9 (by unfold maxLen; omega)
  have hall := look_ok_run h.map (string_keyed Tryz.underlying9) Tryz.underlying201 zeroU rfl sLit_same hkey
  have HW := hide h
  have e0 : Im.elemOf uv (.agg #[]) (Bytes.B s) l = .agg #[] := by
    unfold Im.elemOf
    split <;> rfl
  rw [e0] at hall
  have hl1 := hall w rfl
  have c1 := h.head.cell 1 _ rfl
  cases hh : has (Bytes.B s) l with
  | true =>
    rw [hh] at hl1
    have e1 : wadd mx (Bytes.B s) l = (l, true) := by rw [wadd, if_pos hh]
    rw [e1]
    clear hall h
    go_enter Tryz.func123, Tryz.ntmps123
    go_wp2_with fail
    go_ret
    have hb : Below w.heap.size w (w.alloc (.cells #[] 270)) := below_new _
    exact ⟨rfl, Off.of_below hb, HW.out.keep hb⟩
  | false =>
    rw [hh] at hl1
    have hb : Below w.heap.size w (w.alloc (.cells #[] 270)) := below_new _
    have HB := hide hb
    have HW1 := hide (h.keep hb)
    have HH := hide hh
    clear hall h hh hb
    go_enter Tryz.func123, Tryz.ntmps123
    go_wp2_with fail
    clear hl1 c1
    generalize w.alloc (.cells #[] 270) = W1 at *
    have c0 := HW1.out.head.cell 0 _ rfl
    have c1 := HW1.out.head.cell 1 _ rfl
    have hlen := fun ty => len_run HW1.out.map Tryz.underlying201 ty W1.drew rfl
    by_cases hm : mx ≤ l.length
    · have hz : (mx : Int) ≤ (l.length : Int) := by omega
      have e1 : wadd mx (Bytes.B s) l = (l, false) := by rw [wadd, HH.out, if_neg (by simp), if_pos hm]
      have HE := hide e1
      clear e1
      go_region
      all_goals
        go_wp2_with fail
        go_ret
        rw [HE.out]
        exact ⟨rfl, (Off.of_below HB.out).drewN 1, HW1.out.keep (below_drewN' (n := 1) (Below.refl _ _))⟩
    · have hz : (l.length : Int) < (mx : Int) := by omega
      have e1 : wadd mx (Bytes.B s) l = (put sLt (Bytes.B s) () l, true) := by rw [wadd, HH.out, if_neg (by simp), if_neg hm]
      have HE := hide e1
      clear e1
      go_region
      all_goals
        have HW2 := hide (show WoAt (W1.drew) S b mx l from HW1.out.keep (below_drewN' (n := 1) (Below.refl _ _)))
        have HB2 := hide (show Off [b] w (W1.drew) from (Off.of_below HB.out).drewN 1)
        clear c0 c1 hlen HB HW1
        generalize W1.drew = W2 at *
        have c0 := HW2.out.head.cell 0 _ rfl
        have c1 := HW2.out.head.cell 1 _ rfl
        obtain ⟨w4, hu, ho4, hg4⟩ := upd_run (lt := sLt) HW2.out.map (string_keyed Tryz.underlying9) Tryz.underlying201 sLit_same sLit_before (by unfold maxLen; omega) hkey () rfl
        simp only [uv] at hu
        have HU := hide ho4
        have HG := hide hg4
        clear ho4 hg4
        go_wp2_with fail
        go_ret
        have ho := grown_off' (F := [b]) HG.out (by simp)
        rw [HE.out]
        refine ⟨rfl, HB2.out.trans ho, Foot.Sits.off HW2.out.head ho ?_, HU.out⟩
        simpa using map_sits HW2.out.map HW2.out.head
end Go.Proofs.YtmkidefdegaamaaGreatDoor.Hk
namespace Go.Proofs.YtmkidefdegaamaaGreatDoor.Cq
open Go.RowKit
/-- A world in which all that lay in w lies as it lay. -/
structure Bw (w : World) where
  val : World
  is : Below w.heap.size w val
instance (w : World) : Nonempty (Bw w) := ⟨⟨w, Below.refl _ _⟩⟩
theorem region_cls {P : Program} {id : Nat} {Q : Exit → Act → World → Prop} {a : Act} {w : World} {l : List Oper} (hm : P.follows .mixedOrders = true) (hB : Region.lexB .any l.toArray = true)
    (h : wpQuiet P l.toArray (fun w' => ∃ s : Bw w, w' = s.val) (fun a' => ∀ w', (∃ s : Bw w, w' = s.val) → Q .normal a' w') l a) : (Code.region id l.toArray true).wp P Q a w :=
  wp_region_quiet (C := fun w' => ∃ s : Bw w, w' = s.val) hm hB ⟨⟨_, (Below.refl w.heap.size w).drew⟩, rfl⟩ (by simpa using h)
/-- A callee that lays new memory behind. -/
theorem call_cls {P : Program} {f : FuncId} {args : Array Value} {w : World} {v : Value} {s : Bw w} (h : Calls P f args s.val fun e w' => e = .returned v ∧ Below s.val.heap.size s.val w') : Calls P f args s.val fun e w' => e = .returned v ∧ ∃ s' : Bw w, w' = s'.val :=
  h.mono fun _ w' ⟨he, hb⟩ => ⟨he, ⟨w', s.is.trans (hb.mono s.is.size)⟩, rfl⟩
/-! ### Regions that begin so, and go on in one order -/
section
variable {P : Program} {ops : Array Oper} {md : Region.Mode} {C : World → Prop}
def edge (md : Region.Mode) (ops : Array Oper) (k i : Nat) : Bool := match ops[k]? with
  | some o => o.after.any fun e => Region.binds md e && e.on == i
  | none => false
/-- Each of the first m operations is waited for by one behind it, up to number m; from there on each waits for the one ahead of it. -/
def tailB (md : Region.Mode) (ops : Array Oper) (m : Nat) : Bool :=
  ((List.range m).all fun i => (List.range (m + 1)).any fun k => decide (i < k) && edge md ops k i) && ((List.range ops.size).all fun j => decide (j ≤ m) || edge md ops j (j - 1))
/-- What has come up has come behind what it waits for. -/
def DC (md : Region.Mode) (ops : Array Oper) (listed : Array Bool) : Prop :=
  listed.size = ops.size ∧ ∀ j oj, ops[j]? = some oj → listed.getD j true = true → ∀ e ∈ oj.after, Region.binds md e = true → listed.getD e.on false = true
theorem edge_inv {k i : Nat} (h : edge md ops k i = true) : ∃ o, ops[k]? = some o ∧ ∃ e ∈ o.after, Region.binds md e = true ∧ e.on = i := by
  unfold edge at h
  split at h
  · rename_i o ho
    obtain ⟨e, he, hb⟩ := Array.any_eq_true'.1 h
    simp only [Bool.and_eq_true, beq_iff_eq] at hb
    exact ⟨o, ho, e, he, hb⟩
  · cases h
theorem getD_tf {l : Array Bool} {i : Nat} (h : l.getD i false = true) : l.getD i true = true := by
  unfold Array.getD at *
  split at h
  · rename_i hi
    rw [dif_pos hi]
    exact h
  · cases h
theorem ready_edge {listed : Array Bool} {j i : Nat} (hj : j ∈ Region.ready md ops listed) (he : edge md ops j i = true) : listed.getD i false = true := by
  obtain ⟨_, o, ho, hall⟩ := mem_ready.1 hj
  obtain ⟨o', ho', e, he, hb, rfl⟩ := edge_inv he
  rw [ho] at ho'
  cases ho'
  exact hall e he hb
theorem DC.edge {listed : Array Bool} (h : DC md ops listed) {k i : Nat} (hk : listed.getD k false = true) (hed : Cq.edge md ops k i = true) : listed.getD i false = true := by
  obtain ⟨o, ho, e, he, hb, rfl⟩ := edge_inv hed
  exact h.2 k o ho (getD_tf hk) e he hb
theorem tail_all {m : Nat} (hB : tailB md ops m = true) {listed : Array Bool} (hd : DC md ops listed) {j : Nat} (hj : j ∈ Region.ready md ops listed) (hm : m ≤ j) : ∀ i, i < m → listed.getD i false = true := by
  simp only [tailB, Bool.and_eq_true, List.all_eq_true, List.mem_range, List.any_eq_true, decide_eq_true_eq, Bool.or_eq_true] at hB
  obtain ⟨h1, h2⟩ := hB
  have hjs : j < ops.size := by
    obtain ⟨_, o, ho, _⟩ := mem_ready.1 hj
    exact (Array.getElem?_eq_some_iff.1 ho).1
  have hD : ∀ i, edge md ops m i = true → listed.getD i false = true := by
    by_cases e : j = m
    · subst e
      exact fun i he => ready_edge hj he
    · have hl : listed.getD (j - 1) false = true := by
        rcases h2 j hjs with h | h
        · omega
        · exact ready_edge hj h
      have down : ∀ d, d ≤ j - 1 - m → listed.getD (j - 1 - d) false = true := by
        intro d
        induction d with
        | zero => intro _; exact hl
        | succ d ih =>
          intro hd'
          have h3 := ih (by omega)
          rcases h2 (j - 1 - d) (by omega) with h | h
          · omega
          · have h4 := hd.edge h3 h
            rw [show j - 1 - (d + 1) = j - 1 - d - 1 by omega]
            exact h4
      have hlm := down (j - 1 - m) (Nat.le_refl _)
      rw [show j - 1 - (j - 1 - m) = m by omega] at hlm
      exact fun i he => hd.edge hlm he
  have key : ∀ d i, i < m → m - i ≤ d → listed.getD i false = true := by
    intro d
    induction d with
    | zero => intro i h h'; omega
    | succ d ih =>
      intro i hi hd'
      obtain ⟨k, hk, hik, he⟩ := h1 i hi
      by_cases e : k = m
      · subst e
        exact hD i he
      · exact hd.edge (ih k (by omega) (by omega)) he
  exact fun i hi => key (m - i) i hi (Nat.le_refl _)
theorem DC.step {listed : Array Bool} (h : DC md ops listed) {j : Nat} (hj : j ∈ Region.ready md ops listed) : DC md ops (listed.setIfInBounds j true) := by
  refine ⟨by simpa using h.1, fun j' oj' hoj hl e he hb => ?_⟩
  by_cases hjj : j = j'
  · subst hjj
    obtain ⟨_, o, ho, hall⟩ := mem_ready.1 hj
    rw [ho] at hoj
    cases hoj
    exact getD_set_true (hall e he hb)
  · rw [getD_set_ne true hjj] at hl
    exact getD_set_true (h.2 j' oj' hoj hl e he hb)
/-- The first operations in whatever order; then R. -/
def wpPre (P : Program) (md : Region.Mode) (ops : Array Oper) (C : World → Prop) (m : Nat) (R : Array Bool → Act → Prop) : Nat → Array Bool → Act → Prop
  | 0, listed, a => R listed a ∧ ∀ j ∈ Region.ready md ops listed, m ≤ j
  | n + 1, listed, a => Region.ready md ops listed ≠ [] ∧ ∀ i ∈ Region.ready md ops listed, qOp P ops C i (wpPre P md ops C m R n (listed.setIfInBounds i true)) a
theorem wpAny_of_pre {m n : Nat} {R : Array Bool → Act → Prop} {Q : Exit → Act → World → Prop} (hR : ∀ lst a w, C w → R lst a → wpAny P md ops Q n lst a w) : ∀ (fuel : Nat) (listed : Array Bool) (a : Act) (w : World), C w →
    wpPre P md ops C m R fuel listed a → wpAny P md ops Q (fuel + n) listed a w
  | 0, _, _, _, hw, h => by
    rw [Nat.zero_add]
    exact hR _ _ _ hw h.1
  | fuel + 1, listed, a, w, hw, h => by
    rw [show fuel + 1 + n = (fuel + n) + 1 by omega]
    exact ⟨fun h0 => absurd h0 h.1, fun i hi => wpOp_of_qOp hw (fun a' w' hw' hp => wpAny_of_pre hR fuel _ a' w' hw' hp) (h.2 i hi)⟩
theorem pre_first {m : Nat} {R : Array Bool → Act → Prop} {i : Nat} {oi : Oper} {v : Value} (hB : tailB md ops m = true) (him : i < m) (hi : ops[i]? = some oi) (hsel : ∀ (j : Nat) (o : Oper) cs b, ops[j]? = some o → o.op ≠ .select cs b) :
    ∀ (fuel : Nat) (listed : Array Bool) (a : Act), DC md ops listed →
      (∀ j oj, ops[j]? = some oj → j ≠ i → listed.getD j true = false → (∀ e ∈ oj.after, Region.binds md e = true → e.on ≠ i) → oi.apart ops oj = true) →
      i ∈ Region.ready md ops listed → YieldsIn P ops C oi v a →
      wpPre P md ops C m R fuel (listed.setIfInBounds i true) (a.put oi.dst v) → wpPre P md ops C m R (fuel + 1) listed a := by
  have far : ∀ (listed : Array Bool) (j : Nat), DC md ops listed → i ∈ Region.ready md ops listed → j ∈ Region.ready md ops listed → j < m := by
    intro listed j hd hr hj
    rcases Nat.lt_or_ge j m with h | h
    · exact h
    · have h1 := getD_tf (tail_all hB hd hj h i him)
      have h0 := (mem_ready.1 hr).1
      rw [h1] at h0
      cases h0
  intro fuel
  induction fuel with
  | zero =>
    intro listed a hd _ hr hy H
    refine ⟨fun h => (by rw [h] at hr; cases hr), fun j hj => ?_⟩
    by_cases hji : j = i
    · subst hji
      exact hy.qOp hi H
    · have h1 := far listed j hd hr hj
      have h2 := H.2 j (ready_mono hj hji)
      omega
  | succ fuel ih =>
    intro listed a hd hfree hr hy H
    refine ⟨fun h => (by rw [h] at hr; cases hr), fun j hj => ?_⟩
    by_cases hji : j = i
    · subst hji
      exact hy.qOp hi H
    · have h1 := H.2 j (ready_mono hj hji)
      obtain ⟨hjun, oj, hoj, hall⟩ := mem_ready.1 hj
      have hnot : ∀ e ∈ oj.after, Region.binds md e = true → e.on ≠ i := fun e he hb heq => by
        have h1 := getD_tf (hall e he hb)
        have h0 := (mem_ready.1 hr).1
        rw [heq, h0] at h1
        cases h1
      have h2 := qOp_put hoj (hfree j oj hoj hji hjun hnot) (fun cs b => hsel i oi cs b hi) (fun cs b => hsel j oj cs b hoj) hy h1
      have hfree' : ∀ k ok, ops[k]? = some ok → k ≠ i → (listed.setIfInBounds j true).getD k true = false →
          (∀ e ∈ ok.after, Region.binds md e = true → e.on ≠ i) → oi.apart ops ok = true := fun k ok hk hki hun hno => by
        refine hfree k ok hk hki ?_ hno
        by_cases hjk : j = k
        · subst hjk
          exact hjun
        · rw [getD_set_ne true hjk] at hun
          exact hun
      refine qOp_mono (fun a' h3 => ih (listed.setIfInBounds j true) a' (hd.step hj) hfree' (ready_mono hr (Ne.symm hji)) h3.1 ?_) h2
      rw [Array.setIfInBounds_comm _ _ hji]
      exact h3.2
def finL : Nat → Nat → Array Bool → Array Bool
  | 0, _, l => l
  | n + 1, k, l => finL n (k + 1) (l.setIfInBounds k true)
def lexPre (md : Region.Mode) (ops : Array Oper) (m : Nat) : Nat → Nat → Array Bool → Bool
  | 0, _, listed => (Region.ready md ops listed).all fun j => decide (m ≤ j)
  | n + 1, k, listed => (Region.ready md ops listed).contains k && Region.free md ops listed k && lexPre md ops m n (k + 1) (listed.setIfInBounds k true)
theorem pre_lex {m : Nat} {Q : Act → Prop} (hs : Region.noSelect ops = true) (hB : tailB md ops m = true) : ∀ (l : List Oper) (k : Nat) (listed : Array Bool) (a : Act), (∀ j, j < l.length → l[j]? = ops[k + j]?) → k + l.length ≤ m → DC md ops listed →
    lexPre md ops m l.length k listed = true → wpQuiet P ops C Q l a → wpPre P md ops C m (fun lst a' => lst = finL l.length k listed ∧ Q a') l.length listed a
  | [], _, _, _, _, _, _, hL, h => ⟨⟨rfl, h⟩, fun j hj => by
      simp only [List.length_nil, lexPre, List.all_eq_true, decide_eq_true_eq] at hL
      exact hL j hj⟩
  | o :: l, k, listed, a, hl, hkm, hd, hL, h => by
    have h0 : ops[k]? = some o := by simpa using (hl 0 (by simp)).symm
    simp only [List.length_cons, lexPre, Bool.and_eq_true] at hL
    obtain ⟨⟨hr, hf⟩, hL'⟩ := hL
    have hst : qOp P ops C k (wpQuiet P ops C Q l) a := by
      unfold qOp
      simp only [h0]
      exact h
    obtain ⟨v, hy, hK⟩ := yieldsIn_of_qOp h0 hst
    have hr' : k ∈ Region.ready md ops listed := by simpa using hr
    simp only [List.length_cons] at hkm
    exact pre_first hB (by omega) h0 (Region.noSelect_spec hs) l.length listed a hd (Region.free_spec h0 hf) hr' hy
      (pre_lex hs hB l (k + 1) _ _ (fun j hj => by
        have := hl (j + 1) (by simp; omega)
        simpa [Nat.add_assoc, Nat.add_comm 1 j] using this) (by omega) (hd.step hr') hL' hK)
/-- From here on one alone may come up. -/
def seqB (md : Region.Mode) (ops : Array Oper) : Nat → Nat → Array Bool → Bool
  | 0, _, lst => (Region.ready md ops lst).isEmpty
  | n + 1, k, lst => (Region.ready md ops lst == [k]) && seqB md ops n (k + 1) (lst.setIfInBounds k true)
theorem any_of_list {Q : Exit → Act → World → Prop} : ∀ (l : List Oper) (k : Nat) (lst : Array Bool) (a : Act) (w : World), (∀ j, l[j]? = ops[k + j]?) → seqB md ops l.length k lst = true → wpList P ops Q l a w → wpAny P md ops Q l.length lst a w
  | [], _, _, _, _, _, hL, h => ⟨by simpa [seqB] using hL, h⟩
  | o :: l, k, lst, a, w, hl, hL, h => by
    have h0 : ops[k]? = some o := by simpa using (hl 0).symm
    simp only [List.length_cons, seqB, Bool.and_eq_true, beq_iff_eq] at hL
    obtain ⟨hr, hL'⟩ := hL
    have ih : ∀ a w, wpList P ops Q l a w → wpAny P md ops Q l.length (lst.setIfInBounds k true) a w := fun a w h =>
      any_of_list l (k + 1) _ a w (fun j => by
        have := hl (j + 1)
        simpa [Nat.add_assoc, Nat.add_comm 1 j] using this) hL' h
    refine ⟨fun e => (by rw [hr] at e; cases e), fun i hi => ?_⟩
    rw [hr] at hi
    have hik : i = k := by simpa using hi
    subst hik
    unfold wpOp
    simp only [h0]
    unfold wpList at h
    split
    · rename_i hw
      rw [if_pos hw] at h
      rcases h with h | h
      · exact Or.inl (Oper.wp_mono ih h)
      · exact Or.inr h
    · rename_i hw
      rw [if_neg hw] at h
      exact ih _ _ h
def preB (ops : Array Oper) (m : Nat) : Bool :=
  Region.noSelect ops && (tailB .any ops m && (decide (m ≤ ops.size) && (lexPre .any ops m m 0 (Array.replicate ops.size false) && seqB .any ops (ops.size - m) m (finL m 0 (Array.replicate ops.size false)))))
theorem region_pre {id : Nat} {Q : Exit → Act → World → Prop} {a : Act} {w : World} {l : List Oper} (m : Nat) (hm : P.follows .mixedOrders = true) (hB : preB l.toArray m = true)
    (h : wpQuiet P l.toArray (fun w' => ∃ s : Bw w, w' = s.val) (fun a' => ∀ s : Bw w, wpList P l.toArray Q (l.drop m) a' s.val) (l.take m) a) : (Code.region id l.toArray true).wp P Q a w := by
  simp only [preB, Bool.and_eq_true, decide_eq_true_eq] at hB
  obtain ⟨b1, b2, b3, b4, b5⟩ := hB
  have b3' : m ≤ l.length := by simpa using b3
  have hlen : (l.take m).length = m := by simp [b3']
  have hd0 : DC .any l.toArray (Array.replicate l.toArray.size false) := by
    refine ⟨by simp, fun j oj hoj hl => ?_⟩
    have hj := (Array.getElem?_eq_some_iff.1 hoj).1
    simp [Array.getD] at hl
    simp at hj
    omega
  refine wp_region_any hm ?_
  have hpre := pre_lex (P := P) (C := fun w' => ∃ s : Bw w, w' = s.val) (md := .any) b1 b2 (l.take m) 0 (Array.replicate l.toArray.size false) a (fun j hj => by
    rw [Nat.zero_add, List.getElem?_toArray, List.getElem?_take]
    rw [hlen] at hj
    rw [if_pos hj]) (by omega) hd0 (by rw [hlen]; exact b4) h
  rw [hlen] at hpre
  have hsz : l.toArray.size = m + (l.drop m).length := by simp; omega
  rw [hsz]
  refine wpAny_of_pre (C := fun w' => ∃ s : Bw w, w' = s.val) (n := (l.drop m).length) (fun lst a' w' hw hR => ?_) m _ a _ ⟨⟨_, (Below.refl w.heap.size w).drew⟩, rfl⟩ (by rw [← hsz]; exact hpre)
  obtain ⟨rfl, hQ⟩ := hR
  obtain ⟨s, rfl⟩ := hw
  refine any_of_list (l.drop m) m _ a' s.val (fun j => by rw [List.getElem?_drop, List.getElem?_toArray]) ?_ (hQ s)
  rw [show (l.drop m).length = l.toArray.size - m by simp]
  exact b5
end
end Go.Proofs.YtmkidefdegaamaaGreatDoor.Cq
