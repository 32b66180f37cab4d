/- The sort of messages; Taken. -/
import Derived.Test.YtenegfafjjknoaaSt
import Derived.Test.YtenegfafjjknoaaSortm
namespace Go.Proofs.Ytenegfafjjknoaa.Sk
open Go.RowKit Go.Maps Go.Shelf Mem Foot Im Go.Sort

theorem isNaN (a : Int) (w : World) : Calls Try.prog 32 #[.int .i64 a] w fun e w' => e = .returned (.bool false) ∧ w' = w := by
  go_enter Try.func32, Try.ntmps32
  go_wp2_with fail
  go_ret
  exact ⟨by simp, rfl⟩

def cmpZ (a b : Int) : Int := if a < b then -1 else if b < a then 1 else 0

theorem compare (a b : Int) (w : World) : Calls Try.prog 28 #[.int .i64 a, .int .i64 b] w fun e w' => e = .returned (.int .i64 (cmpZ a b)) ∧ w' = w := by
  unfold cmpZ
  by_cases h : a < b
  · rw [if_pos h]
    go_enter Try.func28, Try.ntmps28
    go_wp2_with (go_at_call 32; refine (isNaN _ _).mono ?_; rintro e w' ⟨rfl, rfl⟩)
    go_ret
    exact ⟨rfl, rfl⟩
  · rw [if_neg h]
    by_cases h' : b < a
    · rw [if_pos h']
      go_enter Try.func28, Try.ntmps28
      go_wp2_with (go_at_call 32; refine (isNaN _ _).mono ?_; rintro e w' ⟨rfl, rfl⟩)
      go_ret
      exact ⟨rfl, rfl⟩
    · rw [if_neg h']
      go_enter Try.func28, Try.ntmps28
      go_wp2_with (go_at_call 32; refine (isNaN _ _).mono ?_; rintro e w' ⟨rfl, rfl⟩)
      go_ret
      exact ⟨rfl, rfl⟩

def enc (m : Ms) : List Value := [.int .i64 m.k, .string m.t]
def cf (a b : Ms) : Int := cmpZ a.k b.k

theorem byWindow (a b : Ms) (w : World) : Calls Try.prog 24 #[.agg (enc a).toArray, .agg (enc b).toArray] w fun e w' => e = .returned (.int .i64 (cf a b)) ∧ ∃ q os', w' = grow (w.drewN q) os' := by
  simp only [enc]
  go_enter Try.func24, Try.ntmps24
  go_wp2_with (go_at_call 28; refine (compare _ _ _).mono ?_; rintro e w' ⟨rfl, rfl⟩)
  go_ret
  exact ⟨rfl, 0, #[.cells #[.int .i64 a.k, .string a.t] 36, .cells #[.int .i64 b.k, .string b.t] 36], by
    rw [alloc_eq_grow, alloc_eq_grow, grow_grow]
    rfl⟩

theorem mcells_at : ∀ {l : List Ms} {i : Nat} {m : Ms}, l[i]? = some m → (mcells l)[i * 2]? = some (.int .i64 m.k) ∧ (mcells l)[i * 2 + 1]? = some (.string m.t) := by
  intro l
  induction l with
  | nil => intro i m h; simp at h
  | cons x l ih =>
    intro i m h
    cases i with
    | zero =>
      rw [List.getElem?_cons_zero] at h
      cases h
      exact ⟨rfl, rfl⟩
    | succ i =>
      rw [List.getElem?_cons_succ] at h
      obtain ⟨a, b⟩ := ih h
      have h0 : ∀ j, (mcells (x :: l))[(i + 1) * 2 + j]? = (mcells l)[i * 2 + j]? := fun j => by
        rw [mcells, show (i + 1) * 2 + j = i * 2 + j + 1 + 1 by omega]
        simp
      refine ⟨?_, by rw [h0 1]; exact b⟩
      have := h0 0
      simp only [Nat.add_zero] at this
      rw [this]
      exact a

theorem flat_eq [Inhabited Ms] (l : List Ms) : flatK enc 2 l.toArray = (mcells l).toArray := by
  refine ext_get! (by simp [mcells_length]) fun t ht => ?_
  have ht' : t < l.length * 2 := by simpa using ht
  rw [get_flatK _ _ _ t (by simpa using ht')]
  obtain ⟨m, hm⟩ : ∃ m, l[t / 2]? = some m := ⟨_, List.getElem?_eq_getElem (by omega)⟩
  have e1 : l.toArray[t / 2]! = m := by
    rw [getElem!_pos _ _ (by simp; omega)]
    simpa using (List.getElem?_eq_some_iff.1 hm).2
  rw [e1]
  obtain ⟨h1, h2⟩ := mcells_at hm
  have h3 : ∀ v, (mcells l)[t]? = some v → (mcells l).toArray[t]! = v := fun v hv => by
    rw [getElem!_pos _ _ (by simpa [mcells_length] using ht')]
    simpa using (List.getElem?_eq_some_iff.1 hv).2
  rcases Nat.mod_two_eq_zero_or_one t with h | h
  · rw [h, h3 (.int .i64 m.k) (by rw [← h1]; congr 1; omega)]
    rfl
  · rw [h, h3 (.string m.t) (by rw [← h2]; congr 1; omega)]
    rfl

theorem lt_cf (a b : Ms) : ltOf cf a b = decide (a.k < b.k) := by
  unfold ltOf cf cmpZ
  by_cases h : a.k < b.k
  · simp [h]
  · by_cases h' : b.k < a.k <;> simp [h, h']

theorem swo_cf : SWO (ltOf cf) where
  irrefl x := by rw [lt_cf]; simp
  trans x y z h1 h2 := by rw [lt_cf] at *; simp at *; omega
  ntrans x y z h1 h2 := by rw [lt_cf] at *; simp at *; omega

theorem sorted_but [Inhabited Ms] {w : World} {g : Nat} (n : Nat) (os : Array Obj) (d : Array Ms) : But g w (sortWorldK enc 2 w g 0 n d os) := by
  refine ⟨rfl, rfl, rfl, by simp [sortWorldK, grow, putRowK, putRow, mapBlock, Sort.ahead], fun k hk hne => ?_⟩
  unfold sortWorldK
  rw [heap_grow_old _ _ (by simpa [putRowK, putRow, mapBlock, Sort.ahead] using hk)]
  have : g ≠ k := fun e => hne e.symm
  simp [putRowK, putRow, mapBlock, Sort.ahead, Array.getElem?_modify, this]

theorem sorted_sits [Inhabited Ms] {w : World} {g : Nat} {cur : Array Value} (n : Nat) (os : Array Obj) (d : Array Ms) (hg : Sits w g 36 cur) : Sits (sortWorldK enc 2 w g 0 n d os) g 36 (putCells id 0 (flatK enc 2 d) cur) := by
  have hgl := hg.lt
  unfold Sits at hg ⊢
  unfold sortWorldK
  rw [heap_grow_old _ _ (by simpa [putRowK, putRow, mapBlock, Sort.ahead] using hgl)]
  simp [putRowK, putRow, mapBlock, Sort.ahead, Array.getElem?_modify, hg, onCells]

theorem put_take (F cur : Array Value) (h : F.size ≤ cur.size) : (putCells id 0 F cur).toList.take F.size = F.toList := by
  apply List.ext_getElem?
  intro i
  rw [List.getElem?_take]
  by_cases hi : i < F.size
  · rw [if_pos hi]
    simp only [Array.getElem?_toList]
    rw [putCells, Array.getElem?_mapIdx, Array.getElem?_eq_getElem (by omega), Array.getElem?_eq_getElem hi]
    simp only [Option.map_some, Nat.zero_le, Nat.zero_add, hi, and_self, if_true, Nat.sub_zero, id]
    rw [getElem!_pos _ i hi]
  · rw [if_neg hi, List.getElem?_eq_none (by simpa using hi)]

theorem sorted_is {xs ms : List Ms} (hp : xs.Perm ms) (hr : Rise ms) (hs : xs.Pairwise fun a b => ¬ b.k < a.k) : xs = ms := by
  refine List.Perm.eq_of_pairwise (le := fun a b => ¬ b.k < a.k) (fun a b ha hb h1 h2 => ?_) hs (hr.imp fun {a b} h => by omega) hp
  exact uniq hr.nodup (hp.mem_iff.1 ha) hb (by omega)

/-- The row of messages sorted by windows. -/
theorem sortMs [Inhabited Ms] (g cap : Nat) (xs ms : List Ms) (hp : xs.Perm ms) (hr : Rise ms) (w : World) (cur : Array Value) (hg : Sits w g 36 cur) (hsz : xs.length * 2 ≤ cur.size) (hcur : cur.toList.take (xs.length * 2) = mcells xs) (hm : xs.length < 4611686018427387904) :
    Calls Try.prog 26 #[.slice (some ⟨g, 0, none⟩) xs.length cap, .func (.func 24) #[] #[]] w fun e w' => e = .returned (.tuple #[]) ∧ But g w w' ∧ ∃ cur' : Array Value, Sits w' g 36 cur' ∧ cur'.size = cur.size ∧ cur'.toList.take (ms.length * 2) = mcells ms := by
  have eg : ∀ args w, (callFunc 24 args).run Try.prog w = .ok (.enter 24 args) w := enters_of Try.func24 (by kernel_rfl) rfl
  have hcmp : CmpLays Try.prog 24 #[] enc 2 cf g 0 xs.toArray.size w := fun k os dk _ x y => byWindow x y _
  have hH : HoldsK enc 2 w g 0 xs.toArray := by
    unfold HoldsK
    rw [flat_eq]
    intro j hj
    have hj' : j < (mcells xs).length := by simpa using hj
    refine ⟨?_, hg.frozen _⟩
    rw [Nat.zero_add]
    refine hg.cell j _ ?_
    have h1 : (mcells xs)[j]? = some ((mcells xs).toArray[j]!) := by
      rw [getElem!_pos (mcells xs).toArray j hj]
      simp [hj']
    rw [← hcur, List.getElem?_take] at h1
    split at h1
    · simp only [id]
      rw [← hcur]
      simpa using h1
    · cases h1
  have hcon := AnyQ.slices_SortFunc Try.sortM 2 (fun w => Try.isAgg36 w) (fun w => Try.sizeOf36 w) enc (fun _ => rfl) (fun x v hv => by simp [enc] at hv; rcases hv with rfl | rfl <;> rfl) cf swo_cf 24 #[] g 0 cap xs.toArray w eg hcmp hH hg.lt (by simpa using hm)
  rw [List.size_toArray] at hcon
  change Calls Try.prog 26 _ _ _ at hcon
  refine hcon.mono fun e w' ⟨he, d', n, os, hp', hst, hw⟩ => ⟨he, ?_, ?_⟩
  · subst hw
    exact sorted_but n os d'
  · subst hw
    have h1 : d'.size = xs.length := by simpa using hp'.1
    have h2 : d'.toList.Perm xs := by
      have h := hp'.2.2
      rw [Array.extract_eq_self_of_le (by omega), Array.extract_eq_self_of_le (by simp)] at h
      simpa using h
    have h3 : d'.toList.Pairwise fun a b => ¬ b.k < a.k := by
      rw [List.pairwise_iff_getElem]
      intro i j hi hj hij
      have h2 := hst i j (Nat.zero_le _) hij (by rw [← h1]; simpa using hj)
      rw [lt_cf, getElem!_pos _ j (by simpa using hj), getElem!_pos _ i (by simpa using hi)] at h2
      simpa using h2
    have h4 : d'.toList = ms := sorted_is (h2.trans hp) hr h3
    have h5 : flatK enc 2 d' = (mcells ms).toArray := by
      rw [← h4, ← flat_eq]
    refine ⟨_, sorted_sits n os d' hg, by simp [putCells], ?_⟩
    rw [h5]
    have := put_take (mcells ms).toArray cur (by
      rw [List.size_toArray, mcells_length, ← h4]
      simp
      omega)
    rw [List.size_toArray, mcells_length] at this
    exact this

end Go.Proofs.Ytenegfafjjknoaa.Sk
