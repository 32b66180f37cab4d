/- A sink in memory: NewSink and Take. -/
import Derived.Test.YtmkidefdegaamaaGreatDoorMsvy
import Derived.Deep.RegionLaw
import Derived.WalkSpells
import Derived.Shelf.SlSortCmp.WholeK
import Derived.Shelf.Small.Bits
import Derived.Test.YtmkidefdegaamaaGreatDoorProg
namespace Go.Proofs.YtmkidefdegaamaaGreatDoor.Sk
open Go.RowKit Go.Maps Go.Shelf Mem Foot Im
/-- m[k], in every world that has this map. -/
theorem look_all {P : Program} {w : World} (t k e : TypeId) (Ky : Keyed P k) (ht : P.underlying t = some (.map k e)) {z : Value} (hz : ∀ W, (zeroValue e).run P W = .ok z W) {ok : Value → Bool} (hzo : ok z = true)
    {b n : Nat} {D : DataW Value} (hown : w.ownsMap P k (exE ok) b n D) {key : Value} {kl : Lit} (hkey : keyOf P k key = some kl) :
    ∃ v, ok v = true ∧ D.atKey kl (.held z) = .held v ∧ ∀ W : World, W.heap[b]? = w.heap[b]? → (Instr.lookup t (.map (some b)) key true).run P W = .ok (.tuple #[v, .bool (Maps.has D kl)]) W := by
  obtain ⟨v, ps, hrun, hv⟩ := hown.look_ok Ky ht (hz w) (exE_mk hzo) hkey
  obtain ⟨h1, h2⟩ := exE_inv hv
  injection h2 with h2 _
  refine ⟨v, h1, h2, fun W hW => ?_⟩
  obtain ⟨es, clock, h3, h4⟩ := hown
  have hW' : W.ownsMap P k (exE ok) b n D := ⟨es, clock, hW.trans h3, h4⟩
  obtain ⟨v', ps', hrun', hv'⟩ := hW'.look_ok Ky ht (hz W) (exE_mk hzo) hkey
  obtain ⟨_, h6⟩ := exE_inv hv'
  injection h6 with h6 _
  rw [h2] at h6
  injection h6 with h6
  rw [hrun', h6]
/-- Among others, by rising windows. -/
def insM (m : Ms) : List Ms → List Ms
  | [] => [m]
  | x :: r => if m.k < x.k then m :: x :: r else x :: insM m r
theorem ents_insM (m : Ms) (l : List Ms) : ents (insM m l) = ins iLt (m.k, m) (ents l) := by
  induction l with
  | nil => rfl
  | cons x r ih =>
    have e : ents (x :: r) = (x.k, x) :: ents r := rfl
    rw [insM, e, ins]
    by_cases h : m.k < x.k
    · simp [h, iLt, ents]
    · simp only [h, if_false, iLt, decide_false, Bool.false_eq_true]
      rw [← ih]
      rfl
def Rise (l : List Ms) : Prop := l.Pairwise fun a b => a.k < b.k
theorem Rise.nodup {l : List Ms} (h : Rise l) : (l.map (·.k)).Nodup := by
  rw [List.nodup_iff_pairwise_ne, List.pairwise_map]
  exact h.imp fun {a b} hab e => by omega
theorem rise_up {l : List Ms} : Rise l ↔ Up iLt (ents l) := by
  unfold Rise Up ents
  rw [List.pairwise_map]
  simp [iLt]
theorem Rise.ins {l : List Ms} (h : Rise l) {m : Ms} (hm : m.k ∉ l.map (·.k)) : Rise (insM m l) := by
  rw [rise_up, ents_insM]
  refine (rise_up.1 h).ins iLt_trans iLt_total (m.k, m) fun p hp e => hm ?_
  obtain ⟨x, hx, rfl⟩ := List.mem_map.1 hp
  exact List.mem_map.2 ⟨x, hx, e⟩
theorem insM_length (m : Ms) (l : List Ms) : (insM m l).length = l.length + 1 := by
  have := congrArg List.length (ents_insM m l)
  rw [ins_length] at this
  simpa [ents] using this
theorem D_put {m : Ms} {l : List Ms} (hm : m.k ∉ l.map (·.k)) : (D l).put (.int .i64 m.k) (.held (mv m)) = D (insM m l) := by
  have h : has m.k (ents l) = false := by
    rw [has_false]
    intro e
    obtain ⟨p, hp, e⟩ := List.mem_map.1 e
    obtain ⟨x, hx, rfl⟩ := List.mem_map.1 hp
    exact hm (List.mem_map.2 ⟨x, hx, e⟩)
  rw [D, show Lit.int .i64 m.k = iLit m.k from rfl, mp_put iLit_same iLit_before, D, ents_insM, put, del_of_not _ _ h]
theorem D_has (k : Int) (l : List Ms) : Maps.has (D l) (.int .i64 k) = decide (k ∈ l.map (·.k)) := by
  rw [D, show Lit.int .i64 k = iLit k from rfl, mp_has iLit_same, Bool.eq_iff_iff, has_iff, decide_eq_true_iff]
  simp [ents]
theorem infoZ (w : World) : (zeroValue 44).run Tryz.prog w = .ok (.agg #[.int .i64 0, .string ⟨#[]⟩]) w := Tryz.zeroValue44 w
theorem Mapped.off {F : List Nat} {w w' : World} {mb : Option Nat} {ms : List Ms} (h : Mapped w mb ms) (ho : Off F w w') (hF : ∀ b, mb = some b → b ∉ F) : Mapped w' mb ms := by
  cases mb with
  | none => exact h
  | some b =>
    obtain ⟨nn, h⟩ := h
    have hl := h.lt
    obtain ⟨es, clock, h1, h2⟩ := h
    exact ⟨nn, es, clock, by rw [ho.block b hl (hF b rfl)]; exact h1, h2⟩
theorem undrew {F : List Nat} {w w' : World} (h : Off F w.drew w') : Off F w w' := ⟨h.os, h.tape, h.output, h.size, h.block⟩
/-- One block has turned. -/
theorem grown_off' {F : List Nat} {w w' : World} {b : Nat} (h : w.grownBy w' (some b)) (hb : b ∈ F) : Off F w w' :=
  ⟨h.os, h.tape, h.output, h.size, fun k hk hF => h.block k hk (fun e => hF (by cases e; exact hb))⟩
theorem Mapped.tight {w : World} {b : Nat} {ms : List Ms} (h : Mapped w (some b) ms) : w.ownsMap Tryz.prog 3 (exE okM) b ms.length (D ms) := by
  obtain ⟨nn, h⟩ := h
  have := own_tight h
  rw [D_size] at this
  exact this
end Go.Proofs.YtmkidefdegaamaaGreatDoor.Sk
namespace Go.Proofs
open Go.Shelf
def Tryz.sortM_ren : Go.Shelf.Ren := ⟨fun | 6 => 95 | 15 => 93 | 14 => 137 | 28 => 134 | 29 => 135 | 20 => 175 | 21 => 176 | 22 => 177 | 23 => 178 | 24 => 179 | 25 => 180 | 26 => 181 | 27 => 182 | 46 => 212 | 47 => 171 | 48 => 172 | 49 => 213 | 50 => 214 | 57 => 240 | n => n, fun | 22 => 41 | 24 => 44 | 25 => 138 | 3 => 3 | 39 => 183 | 0 => 0 | 53 => 237 | 55 => 239 | 4 => 4 | 46 => 231 | 45 => 230 | 50 => 191 | 5 => 5 | 9 => 9 | 66 => 272 | 70 => 276 | 76 => 296 | 77 => 294 | n => n, fun | n => n⟩
theorem Tryz.sortM : Go.Proofs.SlLaysF0.n6 Tryz.prog Tryz.sortM_ren := {
  mixed := by kernel_rfl
  f6 := ⟨Tryz.f95.name, by decide, Tryz.func95.trans (congrArg some (by kernel_rfl))⟩
  f14 := ⟨Tryz.f137.name, by decide, Tryz.func137.trans (congrArg some (by kernel_rfl))⟩
  f15 := Tryz.func93.trans (congrArg some (by kernel_rfl))
  f20 := ⟨Tryz.f175.name, by decide, Tryz.func175.trans (congrArg some (by kernel_rfl))⟩
  f21 := ⟨Tryz.f176.name, by decide, Tryz.func176.trans (congrArg some (by kernel_rfl))⟩
  f22 := ⟨Tryz.f177.name, by decide, Tryz.func177.trans (congrArg some (by kernel_rfl))⟩
  f23 := ⟨Tryz.f178.name, by decide, Tryz.func178.trans (congrArg some (by kernel_rfl))⟩
  f24 := ⟨Tryz.f179.name, by decide, Tryz.func179.trans (congrArg some (by kernel_rfl))⟩
  f25 := ⟨Tryz.f180.name, by decide, Tryz.func180.trans (congrArg some (by kernel_rfl))⟩
  f26 := ⟨Tryz.f181.name, by decide, Tryz.func181.trans (congrArg some (by kernel_rfl))⟩
  f27 := ⟨Tryz.f182.name, by decide, Tryz.func182.trans (congrArg some (by kernel_rfl))⟩
  f28 := Tryz.func134.trans (congrArg some (by kernel_rfl))
  f29 := Tryz.func135.trans (congrArg some (by kernel_rfl))
  f46 := ⟨Tryz.f212.name, by decide, Tryz.func212.trans (congrArg some (by kernel_rfl))⟩
  f47 := Tryz.func171.trans (congrArg some (by kernel_rfl))
  f48 := Tryz.func172.trans (congrArg some (by kernel_rfl))
  f49 := ⟨Tryz.f213.name, by decide, Tryz.func213.trans (congrArg some (by kernel_rfl))⟩
  f50 := ⟨Tryz.f214.name, by decide, Tryz.func214.trans (congrArg some (by kernel_rfl))⟩
  f57 := ⟨Tryz.f240.name, by decide, Tryz.func240.trans (congrArg some (by kernel_rfl))⟩
  t0 := Tryz.underlying0
  a0 := Tryz.isAgg0
  z0 := Tryz.sizeOf0
  v0 := Tryz.zeroValue0
  t3 := Tryz.underlying3
  a3 := Tryz.isAgg3
  z3 := Tryz.sizeOf3
  v3 := Tryz.zeroValue3
  t4 := Tryz.underlying4
  a4 := Tryz.isAgg4
  z4 := Tryz.sizeOf4
  v4 := Tryz.zeroValue4
  t5 := Tryz.underlying5
  a5 := Tryz.isAgg5
  z5 := Tryz.sizeOf5
  v5 := Tryz.zeroValue5
  t9 := Tryz.underlying9
  a9 := Tryz.isAgg9
  z9 := Tryz.sizeOf9
  v9 := Tryz.zeroValue9
  t22 := Tryz.underlying41
  a22 := Tryz.isAgg41
  z22 := Tryz.sizeOf41
  v22 := Tryz.zeroValue41
  t25 := Tryz.underlying138
  a25 := Tryz.isAgg138
  z25 := Tryz.sizeOf138
  v25 := Tryz.zeroValue138
  t39 := Tryz.underlying183
  a39 := Tryz.isAgg183
  z39 := Tryz.sizeOf183
  v39 := Tryz.zeroValue183
  t45 := Tryz.underlying230
  a45 := Tryz.isAgg230
  z45 := Tryz.sizeOf230
  v45 := Tryz.zeroValue230
  t46 := Tryz.underlying231
  a46 := Tryz.isAgg231
  z46 := Tryz.sizeOf231
  v46 := Tryz.zeroValue231
  t50 := Tryz.underlying191
  a50 := Tryz.isAgg191
  z50 := Tryz.sizeOf191
  v50 := Tryz.zeroValue191
  t53 := Tryz.underlying237
  a53 := Tryz.isAgg237
  z53 := Tryz.sizeOf237
  v53 := Tryz.zeroValue237
  t55 := Tryz.underlying239
  a55 := Tryz.isAgg239
  z55 := Tryz.sizeOf239
  v55 := Tryz.zeroValue239
  t66 := Tryz.underlying272
  a66 := Tryz.isAgg272
  z66 := Tryz.sizeOf272
  v66 := Tryz.zeroValue272
  t70 := Tryz.underlying276
  a70 := Tryz.isAgg276
  z70 := Tryz.sizeOf276
  v70 := Tryz.zeroValue276
  t76 := Tryz.underlying296
  a76 := Tryz.isAgg296
  z76 := Tryz.sizeOf296
  v76 := Tryz.zeroValue296
  t77 := Tryz.underlying294
  a77 := Tryz.isAgg294
  z77 := Tryz.sizeOf294
  v77 := Tryz.zeroValue294 }
end Go.Proofs
namespace Go.Proofs.YtmkidefdegaamaaGreatDoor.Sk
open Go.RowKit Go.Maps Go.Shelf Mem Foot Im Go.Sort
theorem isNaN (a : Int) (w : World) : Calls Tryz.prog 138 #[.int .i64 a] w fun e w' => e = .returned (.bool false) ∧ w' = w := by
  go_enter Tryz.func138, Tryz.ntmps138
  go_wp2_with fail
  go_ret
  exact ⟨by simp, rfl⟩
def cmpZ (a b : Int) : Int := if a < b then -1 else if b < a then 1 else 0
theorem compare (a b : Int) (w : World) : Calls Tryz.prog 97 #[.int .i64 a, .int .i64 b] w fun e w' => e = .returned (.int .i64 (cmpZ a b)) ∧ w' = w := by
  unfold cmpZ
  by_cases h : a < b
  · rw [if_pos h]
    go_enter Tryz.func97, Tryz.ntmps97
    go_wp2_with (go_at_call 138; refine (isNaN _ _).mono ?_; rintro e w' ⟨rfl, rfl⟩)
    go_ret
    exact ⟨rfl, rfl⟩
  · rw [if_neg h]
    by_cases h' : b < a
    · rw [if_pos h']
      go_enter Tryz.func97, Tryz.ntmps97
      go_wp2_with (go_at_call 138; refine (isNaN _ _).mono ?_; rintro e w' ⟨rfl, rfl⟩)
      go_ret
      exact ⟨rfl, rfl⟩
    · rw [if_neg h']
      go_enter Tryz.func97, Tryz.ntmps97
      go_wp2_with (go_at_call 138; refine (isNaN _ _).mono ?_; rintro e w' ⟨rfl, rfl⟩)
      go_ret
      exact ⟨rfl, rfl⟩
def enc (m : Ms) : List Value := [.int .i64 m.k, .string m.t]
def cf (a b : Ms) : Int := cmpZ a.k b.k
theorem byWindow (a b : Ms) (w : World) : Calls Tryz.prog 69 #[.agg (enc a).toArray, .agg (enc b).toArray] w fun e w' => e = .returned (.int .i64 (cf a b)) ∧ ∃ q os', w' = grow (w.drewN q) os' := by
  simp only [enc]
  go_enter Tryz.func69, Tryz.ntmps69
  go_wp2_with (go_at_call 97; refine (compare _ _ _).mono ?_; rintro e w' ⟨rfl, rfl⟩)
  go_ret
  exact ⟨rfl, 0, #[.cells #[.int .i64 a.k, .string a.t] 44, .cells #[.int .i64 b.k, .string b.t] 44], by
    rw [alloc_eq_grow, alloc_eq_grow, grow_grow]
    rfl⟩
theorem mcells_at : ∀ {l : List Ms} {i : Nat} {m : Ms}, l[i]? = some m → (mcells l)[i * 2]? = some (.int .i64 m.k) ∧ (mcells l)[i * 2 + 1]? = some (.string m.t) := by
  intro l
  induction l with
  | nil => intro i m h; simp at h
  | cons x l ih =>
    intro i m h
    cases i with
    | zero =>
      rw [List.getElem?_cons_zero] at h
      cases h
      exact ⟨rfl, rfl⟩
    | succ i =>
      rw [List.getElem?_cons_succ] at h
      obtain ⟨a, b⟩ := ih h
      have h0 : ∀ j, (mcells (x :: l))[(i + 1) * 2 + j]? = (mcells l)[i * 2 + j]? := fun j => by
        rw [mcells, show (i + 1) * 2 + j = i * 2 + j + 1 + 1 by omega]
        simp
      refine ⟨?_, by rw [h0 1]; exact b⟩
      have := h0 0
      simp only [Nat.add_zero] at this
      rw [this]
      exact a
theorem flat_eq [Inhabited Ms] (l : List Ms) : flatK enc 2 l.toArray = (mcells l).toArray := by
  refine ext_get! (by simp [mcells_length]) fun t ht => ?_
  have ht' : t < l.length * 2 := by simpa using ht
  rw [get_flatK _ _ _ t (by simpa using ht')]
  obtain ⟨m, hm⟩ : ∃ m, l[t / 2]? = some m := ⟨_, List.getElem?_eq_getElem (by omega)⟩
  have e1 : l.toArray[t / 2]! = m := by
    rw [getElem!_pos _ _ (by simp; omega)]
    simpa using (List.getElem?_eq_some_iff.1 hm).2
  rw [e1]
  obtain ⟨h1, h2⟩ := mcells_at hm
  have h3 : ∀ v, (mcells l)[t]? = some v → (mcells l).toArray[t]! = v := fun v hv => by
    rw [getElem!_pos _ _ (by simpa [mcells_length] using ht')]
    simpa using (List.getElem?_eq_some_iff.1 hv).2
  rcases Nat.mod_two_eq_zero_or_one t with h | h
  · rw [h, h3 (.int .i64 m.k) (by rw [← h1]; congr 1; omega)]
    rfl
  · rw [h, h3 (.string m.t) (by rw [← h2]; congr 1; omega)]
    rfl
theorem lt_cf (a b : Ms) : ltOf cf a b = decide (a.k < b.k) := by
  unfold ltOf cf cmpZ
  by_cases h : a.k < b.k
  · simp [h]
  · by_cases h' : b.k < a.k <;> simp [h, h']
theorem swo_cf : SWO (ltOf cf) where
  irrefl x := by rw [lt_cf]; simp
  trans x y z h1 h2 := by rw [lt_cf] at *; simp at *; omega
  ntrans x y z h1 h2 := by rw [lt_cf] at *; simp at *; omega
theorem sorted_but [Inhabited Ms] {w : World} {g : Nat} (n : Nat) (os : Array Obj) (d : Array Ms) : But g w (sortWorldK enc 2 w g 0 n d os) := by
  refine ⟨rfl, rfl, rfl, by simp [sortWorldK, grow, putRowK, putRow, mapBlock, Sort.ahead], fun k hk hne => ?_⟩
  unfold sortWorldK
  rw [heap_grow_old _ _ (by simpa [putRowK, putRow, mapBlock, Sort.ahead] using hk)]
  have : g ≠ k := fun e => hne e.symm
  simp [putRowK, putRow, mapBlock, Sort.ahead, Array.getElem?_modify, this]
theorem sorted_sits [Inhabited Ms] {w : World} {g : Nat} {cur : Array Value} (n : Nat) (os : Array Obj) (d : Array Ms) (hg : Sits w g 44 cur) : Sits (sortWorldK enc 2 w g 0 n d os) g 44 (putCells id 0 (flatK enc 2 d) cur) := by
  have hgl := hg.lt
  unfold Sits at hg ⊢
  unfold sortWorldK
  rw [heap_grow_old _ _ (by simpa [putRowK, putRow, mapBlock, Sort.ahead] using hgl)]
  simp [putRowK, putRow, mapBlock, Sort.ahead, Array.getElem?_modify, hg, onCells]
theorem put_take (F cur : Array Value) (h : F.size ≤ cur.size) : (putCells id 0 F cur).toList.take F.size = F.toList := by
  apply List.ext_getElem?
  intro i
  rw [List.getElem?_take]
  by_cases hi : i < F.size
  · rw [if_pos hi]
    simp only [Array.getElem?_toList]
    rw [putCells, Array.getElem?_mapIdx, Array.getElem?_eq_getElem (by omega), Array.getElem?_eq_getElem hi]
    simp only [Option.map_some, Nat.zero_le, Nat.zero_add, hi, and_self, if_true, Nat.sub_zero, id]
    rw [getElem!_pos _ i hi]
  · rw [if_neg hi, List.getElem?_eq_none (by simpa using hi)]
theorem sorted_is {xs ms : List Ms} (hp : xs.Perm ms) (hr : Rise ms) (hs : xs.Pairwise fun a b => ¬ b.k < a.k) : xs = ms := by
  refine List.Perm.eq_of_pairwise (le := fun a b => ¬ b.k < a.k) (fun a b ha hb h1 h2 => ?_) hs (hr.imp fun {a b} h => by omega) hp
  exact uniq hr.nodup (hp.mem_iff.1 ha) hb (by omega)
/-- The row of messages sorted by windows. -/
theorem sortMs [Inhabited Ms] (g cap : Nat) (xs ms : List Ms) (hp : xs.Perm ms) (hr : Rise ms) (w : World) (cur : Array Value) (hg : Sits w g 44 cur) (hsz : xs.length * 2 ≤ cur.size) (hcur : cur.toList.take (xs.length * 2) = mcells xs) (hm : xs.length < 4611686018427387904) :
    Calls Tryz.prog 95 #[.slice (some ⟨g, 0, none⟩) xs.length cap, .func (.func 69) #[] #[]] w fun e w' => e = .returned (.tuple #[]) ∧ But g w w' ∧ ∃ cur' : Array Value, Sits w' g 44 cur' ∧ cur'.size = cur.size ∧ cur'.toList.take (ms.length * 2) = mcells ms := by
  have eg : ∀ args w, (callFunc 69 args).run Tryz.prog w = .ok (.enter 69 args) w := enters_of Tryz.func69 (by kernel_rfl) rfl
  have hcmp : CmpLays Tryz.prog 69 #[] enc 2 cf g 0 xs.toArray.size w := fun k os dk _ x y => byWindow x y _
  have hH : HoldsK enc 2 w g 0 xs.toArray := by
    unfold HoldsK
    rw [flat_eq]
    intro j hj
    have hj' : j < (mcells xs).length := by simpa using hj
    refine ⟨?_, hg.frozen _⟩
    rw [Nat.zero_add]
    refine hg.cell j _ ?_
    have h1 : (mcells xs)[j]? = some ((mcells xs).toArray[j]!) := by
      rw [getElem!_pos (mcells xs).toArray j hj]
      simp [hj']
    rw [← hcur, List.getElem?_take] at h1
    split at h1
    · simp only [id]
      rw [← hcur]
      simpa using h1
    · cases h1
  have hcon := AnyQ.slices_SortFunc Tryz.sortM 2 (fun w => Tryz.isAgg44 w) (fun w => Tryz.sizeOf44 w) enc (fun _ => rfl) (fun x v hv => by simp [enc] at hv; rcases hv with rfl | rfl <;> rfl) cf swo_cf 69 #[] g 0 cap xs.toArray w eg hcmp hH hg.lt (by simpa using hm)
  rw [List.size_toArray] at hcon
  change Calls Tryz.prog 95 _ _ _ at hcon
  refine hcon.mono fun e w' ⟨he, d', n, os, hp', hst, hw⟩ => ⟨he, ?_, ?_⟩
  · subst hw
    exact sorted_but n os d'
  · subst hw
    have h1 : d'.size = xs.length := by simpa using hp'.1
    have h2 : d'.toList.Perm xs := by
      have h := hp'.2.2
      rw [Array.extract_eq_self_of_le (by omega), Array.extract_eq_self_of_le (by simp)] at h
      simpa using h
    have h3 : d'.toList.Pairwise fun a b => ¬ b.k < a.k := by
      rw [List.pairwise_iff_getElem]
      intro i j hi hj hij
      have h2 := hst i j (Nat.zero_le _) hij (by rw [← h1]; simpa using hj)
      rw [lt_cf, getElem!_pos _ j (by simpa using hj), getElem!_pos _ i (by simpa using hi)] at h2
      simpa using h2
    have h4 : d'.toList = ms := sorted_is (h2.trans hp) hr h3
    have h5 : flatK enc 2 d' = (mcells ms).toArray := by
      rw [← h4, ← flat_eq]
    refine ⟨_, sorted_sits n os d' hg, by simp [putCells], ?_⟩
    rw [h5]
    have := put_take (mcells ms).toArray cur (by
      rw [List.size_toArray, mcells_length, ← h4]
      simp
      omega)
    rw [List.size_toArray, mcells_length] at this
    exact this
end Go.Proofs.YtmkidefdegaamaaGreatDoor.Sk
