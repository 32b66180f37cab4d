/- The contract of slices.SortFunc at this program's segments: laid by the guide's own tool, in plain words. -/
import Derived.Shelf.SlSortCmp.Whole1
import Derived.Shelf.Small.Bits
import Derived.Test.YtmkidefdegaamaaGreatDoorProg
import Derived.Test.YtmkidefdegaamaaGreatDoorDhn
namespace Go.Proofs
open Go.Shelf
def Tryz.sortSeg_ren : Go.Shelf.Ren := ⟨fun | 6 => 65 | 15 => 93 | 14 => 92 | 28 => 134 | 29 => 135 | 20 => 126 | 21 => 127 | 22 => 128 | 23 => 129 | 24 => 130 | 25 => 131 | 26 => 132 | 27 => 133 | 46 => 170 | 47 => 171 | 48 => 172 | 49 => 173 | 50 => 174 | 57 => 211 | n => n, fun | 22 => 53 | 24 => 127 | 25 => 133 | 3 => 3 | 39 => 183 | 0 => 0 | 53 => 237 | 55 => 239 | 4 => 4 | 46 => 231 | 45 => 230 | 50 => 191 | 5 => 5 | 9 => 9 | 66 => 272 | 70 => 276 | 76 => 296 | 77 => 294 | n => n, fun | n => n⟩
theorem Tryz.sortSeg : Go.Proofs.SlLaysF.n6 Tryz.prog Tryz.sortSeg_ren := {
  mixed := by kernel_rfl
  f6 := ⟨Tryz.f65.name, by decide, Tryz.func65.trans (congrArg some (by kernel_rfl))⟩
  f14 := ⟨Tryz.f92.name, by decide, Tryz.func92.trans (congrArg some (by kernel_rfl))⟩
  f15 := Tryz.func93.trans (congrArg some (by kernel_rfl))
  f20 := ⟨Tryz.f126.name, by decide, Tryz.func126.trans (congrArg some (by kernel_rfl))⟩
  f21 := ⟨Tryz.f127.name, by decide, Tryz.func127.trans (congrArg some (by kernel_rfl))⟩
  f22 := ⟨Tryz.f128.name, by decide, Tryz.func128.trans (congrArg some (by kernel_rfl))⟩
  f23 := ⟨Tryz.f129.name, by decide, Tryz.func129.trans (congrArg some (by kernel_rfl))⟩
  f24 := ⟨Tryz.f130.name, by decide, Tryz.func130.trans (congrArg some (by kernel_rfl))⟩
  f25 := ⟨Tryz.f131.name, by decide, Tryz.func131.trans (congrArg some (by kernel_rfl))⟩
  f26 := ⟨Tryz.f132.name, by decide, Tryz.func132.trans (congrArg some (by kernel_rfl))⟩
  f27 := ⟨Tryz.f133.name, by decide, Tryz.func133.trans (congrArg some (by kernel_rfl))⟩
  f28 := Tryz.func134.trans (congrArg some (by kernel_rfl))
  f29 := Tryz.func135.trans (congrArg some (by kernel_rfl))
  f46 := ⟨Tryz.f170.name, by decide, Tryz.func170.trans (congrArg some (by kernel_rfl))⟩
  f47 := Tryz.func171.trans (congrArg some (by kernel_rfl))
  f48 := Tryz.func172.trans (congrArg some (by kernel_rfl))
  f49 := ⟨Tryz.f173.name, by decide, Tryz.func173.trans (congrArg some (by kernel_rfl))⟩
  f50 := ⟨Tryz.f174.name, by decide, Tryz.func174.trans (congrArg some (by kernel_rfl))⟩
  f57 := ⟨Tryz.f211.name, by decide, Tryz.func211.trans (congrArg some (by kernel_rfl))⟩
  t0 := Tryz.underlying0
  a0 := Tryz.isAgg0
  z0 := Tryz.sizeOf0
  v0 := Tryz.zeroValue0
  t3 := Tryz.underlying3
  a3 := Tryz.isAgg3
  z3 := Tryz.sizeOf3
  v3 := Tryz.zeroValue3
  t4 := Tryz.underlying4
  a4 := Tryz.isAgg4
  z4 := Tryz.sizeOf4
  v4 := Tryz.zeroValue4
  t5 := Tryz.underlying5
  a5 := Tryz.isAgg5
  z5 := Tryz.sizeOf5
  v5 := Tryz.zeroValue5
  t9 := Tryz.underlying9
  a9 := Tryz.isAgg9
  z9 := Tryz.sizeOf9
  v9 := Tryz.zeroValue9
  t22 := Tryz.underlying53
  a22 := Tryz.isAgg53
  z22 := Tryz.sizeOf53
  v22 := Tryz.zeroValue53
  a24 := Tryz.isAgg127
  z24 := Tryz.sizeOf127
  t25 := Tryz.underlying133
  a25 := Tryz.isAgg133
  z25 := Tryz.sizeOf133
  v25 := Tryz.zeroValue133
  t39 := Tryz.underlying183
  a39 := Tryz.isAgg183
  z39 := Tryz.sizeOf183
  v39 := Tryz.zeroValue183
  t45 := Tryz.underlying230
  a45 := Tryz.isAgg230
  z45 := Tryz.sizeOf230
  v45 := Tryz.zeroValue230
  t46 := Tryz.underlying231
  a46 := Tryz.isAgg231
  z46 := Tryz.sizeOf231
  v46 := Tryz.zeroValue231
  t50 := Tryz.underlying191
  a50 := Tryz.isAgg191
  z50 := Tryz.sizeOf191
  v50 := Tryz.zeroValue191
  t53 := Tryz.underlying237
  a53 := Tryz.isAgg237
  z53 := Tryz.sizeOf237
  v53 := Tryz.zeroValue237
  t55 := Tryz.underlying239
  a55 := Tryz.isAgg239
  z55 := Tryz.sizeOf239
  v55 := Tryz.zeroValue239
  t66 := Tryz.underlying272
  a66 := Tryz.isAgg272
  z66 := Tryz.sizeOf272
  v66 := Tryz.zeroValue272
  t70 := Tryz.underlying276
  a70 := Tryz.isAgg276
  z70 := Tryz.sizeOf276
  v70 := Tryz.zeroValue276
  t76 := Tryz.underlying296
  a76 := Tryz.isAgg296
  z76 := Tryz.sizeOf296
  v76 := Tryz.zeroValue296
  t77 := Tryz.underlying294
  a77 := Tryz.isAgg294
  z77 := Tryz.sizeOf294
  v77 := Tryz.zeroValue294 }
end Go.Proofs
namespace Go.Proofs.YtmkidefdegaamaaGreatDoor.Dh
open Go.RowKit Mem Foot Dm Go.Sort
theorem closure (x y : Nat) (a b : Int) (W : World) (hx : W.cell? ⟨x, 0, none⟩ = some (.int .i64 a)) (hy : W.cell? ⟨y, 0, none⟩ = some (.int .i64 b)) :
    Calls Tryz.prog 66 #[.pointer (some ⟨x, 0, none⟩), .pointer (some ⟨y, 0, none⟩)] W fun e w' => e = .returned (.int .i64 (if a < b then -1 else 1)) ∧ ∃ q, w' = W.drewN q := by
  by_cases h : a < b
  · rw [if_pos h]
    go_enter Tryz.func66, Tryz.ntmps66
    go_wp2_with fail
    go_quiet (fail)
    go_wp2_with fail
    go_ret
    exact ⟨rfl, _, rfl⟩
  · rw [if_neg h]
    go_enter Tryz.func66, Tryz.ntmps66
    go_wp2_with fail
    go_quiet (fail)
    go_wp2_with fail
    go_ret
    exact ⟨rfl, _, rfl⟩
section
variable {m : Nat}
def num {l : List Seg} (hl : l.length = m + 1) (i : Fin (m + 1)) : Int := (l[i.1]'(by rw [hl]; exact i.2)).num
def blk {l : List Nat} (hl : l.length = m + 1) (i : Fin (m + 1)) : Nat := l[i.1]'(by rw [hl]; exact i.2)
def cmp {l : List Seg} (hl : l.length = m + 1) (i j : Fin (m + 1)) : Int := if num hl i < num hl j then -1 else 1
def enc {l : List Nat} (hl : l.length = m + 1) (i : Fin (m + 1)) : Value := .pointer (some ⟨blk hl i, 0, none⟩)
theorem lt_cmp {l : List Seg} (hl : l.length = m + 1) (i j : Fin (m + 1)) : ltOf (cmp hl) i j = decide (num hl i < num hl j) := by
  unfold ltOf cmp
  by_cases h : num hl i < num hl j <;> simp [h]
theorem swo {l : List Seg} (hl : l.length = m + 1) : SWO (ltOf (cmp hl)) where
  irrefl x := by rw [lt_cmp]; simp
  trans x y z h1 h2 := by rw [lt_cmp] at *; simp at *; omega
  ntrans x y z h1 h2 := by rw [lt_cmp] at *; simp at *; omega
theorem sorted_block {w : World} {g : Nat} {bl : List Nat} (hb : bl.length = m + 1) (n : Nat) (os : Array Obj) (d : Array (Fin (m + 1))) : But g w (sortWorld (enc hb) w g 0 n d os) := by
  refine ⟨rfl, rfl, rfl, by simp [sortWorld], fun k hk hne => ?_⟩
  unfold sortWorld
  rw [heap_grow_old _ _ (by simpa using hk)]
  have : g ≠ k := fun e => hne e.symm
  simp [putRow, mapBlock, Sort.ahead, Array.getElem?_modify, this]
theorem sorted_row {w : World} {g : Nat} {cur : Array Value} {bl : List Nat} (hb : bl.length = m + 1) (n : Nat) (os : Array Obj) (d : Array (Fin (m + 1))) (hg : Sits w g 127 cur) : Sits (sortWorld (enc hb) w g 0 n d os) g 127 (putCells (enc hb) 0 d cur) := by
  have hgl := hg.lt
  unfold Sits at hg ⊢
  unfold sortWorld
  rw [heap_grow_old _ _ (by simpa using hgl)]
  simp [putRow, mapBlock, Sort.ahead, Array.getElem?_modify, hg, onCells]
/-- The pointers of the array sorted by the segments' numbers. -/
theorem sort (g cap : Nat) (bl : List Nat) (sg : List Seg) (hb : bl.length = m + 1) (hs : sg.length = m + 1) (w : World) (cur : Array Value) (hg : Sits w g 127 cur) (hsz : m + 1 ≤ cur.size)
    (hcur : ∀ (i b : Nat), bl[i]? = some b → cur[i]? = some (Value.pointer (some ⟨b, 0, none⟩))) (hseg : ∀ (i b : Nat) (s : Seg), bl[i]? = some b → sg[i]? = some s → w.cell? ⟨b, 0, none⟩ = some (.int .i64 s.num)) (hne : ∀ b ∈ bl, b ≠ g) (hm : m + 1 < 4611686018427387904) :
    Calls Tryz.prog 65 #[.slice (some ⟨g, 0, none⟩) (m + 1) cap, .func (.func 66) #[] #[]] w fun e w' => e = .returned (.tuple #[]) ∧ ∃ d : List (Fin (m + 1)), d.Perm (List.ofFn id) ∧ (d.Pairwise fun i j => ¬ num hs j < num hs i) ∧ But g w w' ∧ ∃ cur' : Array Value, Sits w' g 127 cur' ∧ cur'.size = cur.size ∧ ∀ (i b : Nat), (bat bl hb d)[i]? = some b → cur'[i]? = some (Value.pointer (some ⟨b, 0, none⟩)) := by
  have eg : ∀ args w, (callFunc 66 args).run Tryz.prog w = .ok (.enter 66 args) w := enters_of Tryz.func66 (by kernel_rfl) rfl
  have hbi : ∀ i : Fin (m + 1), bl[i.1]? = some (blk hb i) := fun i => List.getElem?_eq_getElem _
  have hsi : ∀ i : Fin (m + 1), ∃ s, sg[i.1]? = some s ∧ s.num = num hs i := fun i => ⟨_, List.getElem?_eq_getElem (by rw [hs]; exact i.2), rfl⟩
  have hcmp : CmpReads Tryz.prog 66 #[] (enc hb) (cmp hs) g 0 (m + 1) w := by
    intro k os dk _ x y
    have hc : ∀ i : Fin (m + 1), (sortWorld (enc hb) w g 0 k dk os).cell? ⟨blk hb i, 0, none⟩ = some (.int .i64 (num hs i)) := by
      intro i
      obtain ⟨s, h1, h2⟩ := hsi i
      have h3 := hseg i.1 _ s (hbi i) h1
      rw [← h2, ← h3]
      exact World.cell?_of_block ((sorted_block hb k os dk).block _ (World.block_lt_of_cell? w _ h3) (hne _ (List.mem_of_getElem? (hbi i))))
    exact closure _ _ _ _ _ (hc x) (hc y)
  have hsize : (List.ofFn (id : Fin (m + 1) → Fin (m + 1))).toArray.size = m + 1 := by simp
  have hH : Holds (enc hb) w g 0 (List.ofFn (id : Fin (m + 1) → Fin (m + 1))).toArray := by
    intro j hj
    rw [hsize] at hj
    refine ⟨?_, hg.frozen _⟩
    rw [Nat.zero_add]
    refine hg.cell j _ ?_
    rw [getElem!_pos _ j (by rw [hsize]; exact hj), hcur j _ (hbi ⟨j, hj⟩)]
    have e : (List.ofFn (id : Fin (m + 1) → Fin (m + 1))).toArray[j]'(by rw [hsize]; exact hj) = ⟨j, hj⟩ := by
      rw [List.getElem_toArray, List.getElem_ofFn]
      rfl
    rw [e]
    rfl
  have hcon := Any.slices_SortFunc Tryz.sortSeg (enc hb) (fun _ => rfl) (cmp hs) (swo hs) 66 #[] g 0 cap (List.ofFn (id : Fin (m + 1) → Fin (m + 1))).toArray w eg (by rw [hsize]; exact hcmp.lays) hH hg.lt (by rw [hsize]; exact hm)
  rw [hsize] at hcon
  change Calls Tryz.prog 65 _ _ _ at hcon
  refine hcon.mono fun e w' ⟨he, d', n, os, hp, hst, hw⟩ => ⟨he, d'.toList, ?_, ?_, ?_, ?_⟩
  · have h := hp.2.2
    have h1 : d'.size = m + 1 := hp.1.trans hsize
    rw [Array.extract_eq_self_of_le (by omega), Array.extract_eq_self_of_le (by rw [hsize]; exact Nat.le_refl _)] at h
    exact h
  · rw [List.pairwise_iff_getElem]
    intro i j hi hj hij
    have h1 : d'.size = m + 1 := hp.1.trans hsize
    have h2 := hst i j (Nat.zero_le _) hij (by rw [← h1]; simpa using hj)
    rw [lt_cmp, getElem!_pos _ j (by simpa using hj), getElem!_pos _ i (by simpa using hi)] at h2
    simpa using h2
  · subst hw
    exact sorted_block hb n os d'
  · subst hw
    refine ⟨_, sorted_row hb n os d' hg, by simp [putCells], fun i b hi => ?_⟩
    have h1 : d'.size = m + 1 := hp.1.trans hsize
    rw [bat, List.getElem?_map, Option.map_eq_some_iff] at hi
    obtain ⟨j, hj, rfl⟩ := hi
    have hil := (List.getElem?_eq_some_iff.1 hj).1
    have hil2 : i < d'.size := by simpa using hil
    rw [putCells, Array.getElem?_mapIdx, Array.getElem?_eq_getElem (by omega)]
    simp only [Option.map_some, Nat.zero_le, Nat.zero_add, hil2, and_self, if_true, Nat.sub_zero]
    congr 1
    rw [getElem!_pos _ i hil2]
    have e : d'[i] = j := by
      have := (List.getElem?_eq_some_iff.1 hj).2
      simpa using this
    rw [e]
    rfl
end
end Go.Proofs.YtmkidefdegaamaaGreatDoor.Dh
namespace Go.Proofs.YtmkidefdegaamaaGreatDoor.Dh
open Go.RowKit Mem Foot Dm
/-- The blocks of the disk. -/
def pf (bx ba : Nat) : List Nat → List Nat
  | [] => [bx]
  | b :: bs => bx :: ba :: b :: bs
theorem pf_head (bx ba : Nat) (bs : List Nat) : bx ∈ pf bx ba bs := by
  cases bs <;> simp [pf]
theorem pf_seg {bx ba : Nat} {bs : List Nat} {b : Nat} (h : b ∈ bs) : b ∈ pf bx ba bs := by
  cases bs with
  | nil => cases h
  | cons c l => exact List.mem_cons_of_mem _ (List.mem_cons_of_mem _ h)
theorem pf_arr {bx ba : Nat} {bs : List Nat} (h : bs ≠ []) : ba ∈ pf bx ba bs := by
  cases bs with
  | nil => exact absurd rfl h
  | cons c l => exact List.mem_cons_of_mem _ (List.mem_cons_self ..)
theorem PD.owns {w : World} {bx ba cap : Nat} {bs : List Nat} {S : Dk} (h : PD w bx S ba cap bs) : w.ownsRow 0 127 1 (sl ba bs.length cap) bs.length (ptrs bs) := by
  refine ⟨by simp [ptrs], ?_⟩
  by_cases hz : bs.length = 0
  · exact Or.inl ⟨by rw [sl, if_pos hz], hz⟩
  · have hne : bs ≠ [] := fun e => hz (by rw [e]; rfl)
    obtain ⟨cs, h1, h2, h3, h4⟩ := h.arr hne
    refine Or.inr ⟨ba, cap, cs, by rw [sl, if_neg hz], Nat.zero_le _, h1, h3, h.capm hne, by rw [h2, Nat.mul_one], ?_⟩
    refine List.ext_getElem? fun i => ?_
    rw [List.getElem?_take]
    by_cases hi : i < bs.length
    · rw [if_pos (by omega), Array.getElem?_toList, h4 i _ (List.getElem?_eq_getElem hi), ptrs, List.getElem?_map, List.getElem?_eq_getElem hi]
      rfl
    · rw [if_neg (by omega), ptrs, List.getElem?_map, List.getElem?_eq_none (by omega)]
      rfl
theorem PD.drewN {w : World} {bx ba cap : Nat} {bs : List Nat} {S : Dk} (h : PD w bx S ba cap bs) (n : Nat) : PD (w.drewN n) bx S ba cap bs := ⟨h.head, h.len, h.arr, h.seg, h.apart, h.capm⟩
theorem own_two {w : World} {n : Nat} {v v' : Value} {xs : List Value} (h : w.ownsRow 0 127 1 v n xs) (e : v = v') (o p : Obj) : ((w.alloc o).alloc p).ownsRow 0 127 1 v' n xs := by
  subst e
  exact (h.alloc o).alloc p
theorem src_one (w : World) (x : Nat) (t : TypeId) (b : Nat) (hb : b = w.heap.size) : Apn.Src (w.alloc (.cells #[.pointer (some ⟨x, 0, none⟩)] t)) 1 (some ⟨b, 0, none⟩) 1 [.pointer (some ⟨x, 0, none⟩)] := by
  subst hb
  exact ⟨rfl, fun u hu => by simp at hu; subst hu; rfl, Or.inr ⟨_, rfl, cell_one_new w _ t⟩⟩
theorem PD.lt {w : World} {bx ba cap : Nat} {bs : List Nat} {S : Dk} (h : PD w bx S ba cap bs) {b : Nat} (hb : b ∈ bs) : b < w.heap.size := by
  obtain ⟨i, hi⟩ := List.getElem?_of_mem hb
  obtain ⟨s, hs⟩ : ∃ s, S.segs[i]? = some s := ⟨_, List.getElem?_eq_getElem (by rw [← h.len]; exact (List.getElem?_eq_some_iff.1 hi).1)⟩
  exact (h.seg i b s hi hs).lt
theorem PD.arr_lt {w : World} {bx ba cap : Nat} {bs : List Nat} {S : Dk} (h : PD w bx S ba cap bs) (hb : bs ≠ []) : ba < w.heap.size := by
  obtain ⟨cs, h1, _⟩ := h.arr hb
  exact h1.lt
/-- A new segment behind the others. -/
theorem grown {w2 w3 : World} {bx ba cap cv cv2 : Nat} {bs : List Nat} {S : Dk} {n : Int} {ao ao2 : Option Addr} {p : Obj} (h : PD w2 bx S ba cap bs) (hsl : sl ba bs.length cap = .slice ao bs.length cv)
    (o2 : w3.ownsRow 0 127 1 (.slice ao2 (bs.length + 1) cv2) (bs.length + 1) (ptrs bs ++ [.pointer (some ⟨w2.heap.size, 0, none⟩)]))
    (gr2 : ((w2.alloc (.cells #[.int .i64 n, .string ⟨#[]⟩, .int .i64 0] 129)).alloc p).grownBy w3 (Value.slice ao bs.length cv).ownBlock)
    (sm2 : Apn.Same ((w2.alloc (.cells #[.int .i64 n, .string ⟨#[]⟩, .int .i64 0] 129)).alloc p) (.slice ao bs.length cv) (.slice ao2 (bs.length + 1) cv2)) :
    ∃ ga, ao2 = some ⟨ga, 0, none⟩ ∧ w3.cell? ⟨bx, 0, none⟩ = some (.slice ao bs.length cv) ∧ w3.frozen? ⟨bx, 0, none⟩ = false ∧
      PD (w3.setCell ⟨bx, 0, none⟩ (.slice (some ⟨ga, 0, none⟩) (bs.length + 1) cv2)) bx ⟨S.segs ++ [⟨n, ⟨#[]⟩, 0⟩], S.left, S.room⟩ ga cv2 (bs ++ [w2.heap.size]) ∧
      Off (pf bx ba bs) w2 (w3.setCell ⟨bx, 0, none⟩ (.slice (some ⟨ga, 0, none⟩) (bs.length + 1) cv2)) ∧ (ga ∈ pf bx ba bs ∨ w2.heap.size ≤ ga) := by
  have hbx := h.head.lt
  have hown : ∀ k, some k = (Value.slice ao bs.length cv).ownBlock → k = ba ∧ bs ≠ [] := by
    intro k hk
    rw [← hsl, sl] at hk
    split at hk
    · simp [Value.ownBlock] at hk
    · rename_i hz
      simp [Value.ownBlock] at hk
      exact ⟨hk, fun e => hz (by rw [e]; rfl)⟩
  have hsz : ((w2.alloc (.cells #[.int .i64 n, .string ⟨#[]⟩, .int .i64 0] 129)).alloc p).heap.size = w2.heap.size + 2 := by simp
  have hold : ∀ k, k < w2.heap.size → ¬ (k = ba ∧ bs ≠ []) → w3.heap[k]? = w2.heap[k]? := by
    intro k hk hne
    rw [gr2.block k (by omega) (fun e => hne (hown k e)), Below.heap_alloc _ _ _ (by simp; omega), Below.heap_alloc _ _ _ hk]
  have hnew : Sits w3 w2.heap.size 129 (segCells ⟨n, ⟨#[]⟩, 0⟩) := by
    unfold Sits
    rw [gr2.block w2.heap.size (by omega) (fun e => by
      have := hown _ e
      have := h.arr_lt this.2
      omega), Below.heap_alloc _ _ _ (by simp)]
    exact Sits.new w2 129 _
  have hXo : Sits w3 bx 55 #[sl ba bs.length cap, .int .i64 S.left, .int .i64 S.room] := by
    unfold Sits
    rw [hold bx hbx (fun e => h.ne_arr e.1.symm)]
    exact h.head
  have hap := h.apart
  rw [List.nodup_cons, List.nodup_cons] at hap
  rcases o2.2 with ⟨_, h0⟩ | ⟨ga, cap', cur, hv, _, hg, hnc, hcm, hcs, htk⟩
  · omega
  · injection hv with e1 e2 e3
    subst e1
    subst e3
    have hga : (ga = ba ∧ bs ≠ []) ∨ w2.heap.size + 2 ≤ ga := by
      rcases sm2 with e | ⟨g, e, hgl⟩
      · exact Or.inl (hown ga e)
      · simp [Value.ownBlock] at e
        subst e
        exact Or.inr (by omega)
    have hgx : ga ≠ bx := by
      rcases hga with ⟨e, _⟩ | e
      · rw [e]
        exact h.ne_arr
      · omega
    have hP : ptrs bs ++ [.pointer (some ⟨w2.heap.size, 0, none⟩)] = ptrs (bs ++ [w2.heap.size]) := by rw [ptrs, ptrs, List.map_append]; rfl
    have hbut : But bx w3 (w3.setCell ⟨bx, 0, none⟩ (.slice (some ⟨ga, 0, none⟩) (bs.length + 1) cv2)) := (But.refl bx w3).set _ _
    have hlen := h.len
    refine ⟨ga, rfl, ?_, hXo.frozen 0, ⟨?_, by simp [h.len], fun _ => ⟨cur, Sits.but (w := w3) hg hbut hgx, by simpa using hcs, by simpa using hnc, fun i b hi => ?_⟩, fun i b s hi hs => ?_, ?_, fun _ => hcm⟩, ?_, ?_⟩
    · rw [← hsl]
      exact hXo.cell 0 _ rfl
    · have := hXo.set 0 (.slice (some ⟨ga, 0, none⟩) (bs.length + 1) cv2)
      rw [List.length_append, sl, if_neg (by simp)]
      exact this
    · have h1 : (ptrs (bs ++ [w2.heap.size]))[i]? = some (.pointer (some ⟨b, 0, none⟩)) := by rw [ptrs, List.getElem?_map, hi]; rfl
      rw [← hP, ← htk, List.getElem?_take] at h1
      split at h1
      · simpa using h1
      · cases h1
    · by_cases hil : i < bs.length
      · rw [List.getElem?_append_left hil] at hi
        rw [List.getElem?_append_left (by omega)] at hs
        have hS := h.seg i b s hi hs
        have hb := h.ne_seg (List.mem_of_getElem? hi)
        refine Sits.but (w := w3) ?_ hbut hb.1
        unfold Sits
        rw [hold b hS.lt (fun e => hb.2 e.1)]
        exact hS
      · have hi0 : i = bs.length := by
          have := (List.getElem?_eq_some_iff.1 hi).1
          simp at this
          omega
        subst hi0
        rw [List.getElem?_append_right (Nat.le_refl _), Nat.sub_self] at hi
        rw [List.getElem?_append_right (by omega), show bs.length - S.segs.length = 0 by omega] at hs
        cases hi
        cases hs
        exact hnew.but hbut (by omega)
    · have hfr : ∀ b ∈ bs, b < w2.heap.size := fun b hb => h.lt hb
      rw [List.nodup_cons, List.nodup_cons]
      refine ⟨fun e => ?_, fun e => ?_, ?_⟩
      · rcases List.mem_cons.1 e with e | e
        · exact hgx e.symm
        · rcases List.mem_append.1 e with e | e
          · exact hap.1 (List.mem_cons_of_mem _ e)
          · rw [List.mem_singleton] at e
            omega
      · rcases List.mem_append.1 e with e | e
        · rcases hga with ⟨e1, _⟩ | e1
          · exact hap.2.1 (e1 ▸ e)
          · have := hfr ga e
            omega
        · rw [List.mem_singleton] at e
          rcases hga with ⟨e1, e2⟩ | e1
          · have := h.arr_lt e2
            omega
          · omega
      · rw [List.nodup_append]
        refine ⟨hap.2.2, by simp, fun a ha b hb => ?_⟩
        rw [List.mem_singleton] at hb
        have := hfr a ha
        omega
    · have ho : Off (pf bx ba bs) w2 w3 := ⟨gr2.os, gr2.tape, gr2.output, by have := gr2.size; omega, fun k hk hF => hold k hk (fun e => hF (by rw [e.1]; exact pf_arr e.2))⟩
      exact ho.set (pf_head ..) _ _
    · rcases hga with ⟨e1, e2⟩ | e1
      · exact Or.inl (by rw [e1]; exact pf_arr e2)
      · exact Or.inr (by omega)
/-- The segments sorted. -/
theorem permuted {w w' : World} {bx ga cap m : Nat} {bl : List Nat} {sg : List Seg} {a b : Int} (h : PD w bx ⟨sg, a, b⟩ ga cap bl) (hb : bl.length = m + 1) (hs : sg.length = m + 1) {d : List (Fin (m + 1))} (hp : d.Perm (List.ofFn id)) (hbut : But ga w w') {cur' cur : Array Value}
    (hg : Sits w ga 127 cur) (hg' : Sits w' ga 127 cur') (hsz : cur'.size = cur.size) (hcur : ∀ (i b : Nat), (bat bl hb d)[i]? = some b → cur'[i]? = some (Value.pointer (some ⟨b, 0, none⟩))) : PD w' bx ⟨at_ sg hs d, a, b⟩ ga cap (bat bl hb d) := by
  have hne : bl ≠ [] := fun e => by rw [e] at hb; simp at hb
  have hl : d.length = m + 1 := by rw [hp.length_eq, List.length_ofFn]
  have hbl : (bat bl hb d).length = m + 1 := by rw [bat, List.length_map, hl]
  have hperm : (bat bl hb d).Perm bl := by
    have := hp.map fun i : Fin (m + 1) => bl[i.1]'(by rw [hb]; exact i.2)
    have e := bat_all bl hb
    rw [bat] at e
    rw [e] at this
    exact this
  obtain ⟨cs, h1, h2, h3, h4⟩ := h.arr hne
  have hcc : cs = cur := by
    unfold Sits at h1 hg
    rw [h1] at hg
    injection hg with hg
    injection hg
  subst hcc
  have hap := h.apart
  refine ⟨?_, by rw [hbl, at_, List.length_map, hl], fun _ => ⟨cur', hg', by rw [hsz, h2], by rw [hbl, ← hb]; exact h3, hcur⟩, fun i c s hi hS => ?_, ?_, fun _ => h.capm hne⟩
  · have := h.head.but hbut (fun e => h.ne_arr e.symm)
    rw [hb] at this
    rw [hbl]
    exact this
  · obtain ⟨j, hj1, hj2⟩ := at_get (hl := hs) hi hS
    exact (h.seg j c s hj1 hj2).but hbut (h.ne_seg (List.mem_of_getElem? hj1)).2
  · exact ((hperm.cons ga).cons bx).nodup_iff.2 hap
theorem off_but {F : List Nat} {w w1 w2 : World} {b : Nat} (h : Off F w w1) (hb : But b w1 w2) (hF : b ∈ F ∨ w.heap.size ≤ b) : Off F w w2 :=
  ⟨hb.os.trans h.os, hb.tape.trans h.tape, hb.output.trans h.output, Nat.le_trans h.size hb.size, fun k hk hkF => (hb.block k (Nat.lt_of_lt_of_le hk h.size) (fun e => by
    subst e
    rcases hF with e | e
    · exact hkF e
    · omega)).trans (h.block k hk hkF)⟩
theorem new_at {n : Int} {l : List Seg} (hr : l.Pairwise fun a b => a.num < b.num) (hne : ∀ s ∈ l, s.num ≠ n) : ∃ k : Nat, (ensure n l)[k]? = some ⟨n, ⟨#[]⟩, 0⟩ :=
  ⟨(l.filter fun s => decide (s.num < n)).length, by rw [ensure_new hr hne, List.getElem?_append_right (Nat.le_refl _), Nat.sub_self]; rfl⟩
/-- Where the new segment lies behind the sort. -/
theorem new_block {m g : Nat} {n : Int} {l : List Seg} {bs : List Nat} (hb : (bs ++ [g]).length = m + 1) (hs : (l ++ [(⟨n, ⟨#[]⟩, 0⟩ : Seg)]).length = m + 1) (hr : l.Pairwise fun a b => a.num < b.num) (hne : ∀ s ∈ l, s.num ≠ n) {d : List (Fin (m + 1))} (hp : d.Perm (List.ofFn id)) (he : at_ (l ++ [⟨n, ⟨#[]⟩, 0⟩]) hs d = ensure n l) :
    ∃ k : Nat, (ensure n l)[k]? = some ⟨n, ⟨#[]⟩, 0⟩ ∧ (bat (bs ++ [g]) hb d)[k]? = some g := by
  obtain ⟨k, hk⟩ := new_at hr hne
  refine ⟨k, hk, ?_⟩
  have hl : d.length = m + 1 := by rw [hp.length_eq, List.length_ofFn]
  have hkl : k < (bat (bs ++ [g]) hb d).length := by
    have := (List.getElem?_eq_some_iff.1 hk).1
    rw [← he, at_, List.length_map] at this
    rw [bat, List.length_map]
    exact this
  obtain ⟨c, hc⟩ : ∃ c, (bat (bs ++ [g]) hb d)[k]? = some c := ⟨_, List.getElem?_eq_getElem hkl⟩
  rw [← he] at hk
  obtain ⟨j, h1, h2⟩ := at_get hc hk
  by_cases hj : j < l.length
  · rw [List.getElem?_append_left hj] at h2
    exact absurd rfl (hne _ (List.mem_of_getElem? h2))
  · have hbl : bs.length = l.length := by
      simp at hb hs
      omega
    have hj2 : j = bs.length := by
      have := (List.getElem?_eq_some_iff.1 h1).1
      simp at this
      omega
    subst hj2
    rw [List.getElem?_append_right (Nat.le_refl _), Nat.sub_self] at h1
    cases h1
    exact hc
theorem bat_mem {m : Nat} {bl : List Nat} (hb : bl.length = m + 1) {d : List (Fin (m + 1))} {b : Nat} (h : b ∈ bat bl hb d) : b ∈ bl := by
  rw [bat, List.mem_map] at h
  obtain ⟨i, _, rfl⟩ := h
  exact List.getElem_mem _
theorem pf_sub {bx ga ba B : Nat} {bs bs' : List Nat} (h1 : ga ∈ pf bx ba bs ∨ B ≤ ga) (h2 : ∀ b ∈ bs', b ∈ pf bx ba bs ∨ B ≤ b) : ∀ b ∈ pf bx ga bs', b ∈ pf bx ba bs ∨ B ≤ b := by
  intro b hb
  cases bs' with
  | nil =>
    rw [pf, List.mem_singleton] at hb
    rw [hb]
    exact Or.inl (pf_head ..)
  | cons c l =>
    rw [pf, List.mem_cons, List.mem_cons] at hb
    rcases hb with e | e | e
    · rw [e]
      exact Or.inl (pf_head ..)
    · rw [e]
      exact h1
    · exact h2 b e
end Go.Proofs.YtmkidefdegaamaaGreatDoor.Dh
namespace Go.Proofs.YtmkidefdegaamaaGreatDoor.Dh
open Go.RowKit Mem Foot Dm
set_option maxRecDepth 10000 in
set_option maxHeartbeats 2000000 in
theorem append (bx ba cap : Nat) (bs : List Nat) (S : Dk) (n : Int) (t : ByteArray) (w : World) (hP : PD w bx S ba cap bs) (hG : Dm.Good S) (hl : bs.length ≤ 1000000000) (hu : Dm.used S.segs + t.size ≤ 1000000000000) :
    Calls Tryz.prog 35 #[.pointer (some ⟨bx, 0, none⟩), .int .i64 n, .string t] w fun e w' => e = .returned (.int .i64 (doAppend S n t).2) ∧ Off (pf bx ba bs) w w' ∧ ∃ ba' cap' bs', PD w' bx (doAppend S n t).1 ba' cap' bs' ∧ ∀ b ∈ pf bx ba' bs', b ∈ pf bx ba bs ∨ w.heap.size ≤ b := by
  have HP := hide hP
  have HG := hide hG
  clear hP hG
  go_enter Tryz.func35, Tryz.ntmps35
  go_wp2_with fail
  refine (operation bx S _ w HP.out.head HG.out.left).mono ?_
  rintro e w1 ⟨rfl, hb1, hs1⟩
  by_cases h0 : S.left = 0
  · have hd : decide (S.left = 0) = true := decide_eq_true h0
    have HE := hide (show doAppend S n t = (S, 8) from if_pos h0)
    rw [if_pos h0] at hs1
    have HQ := hide (HP.out.turned hb1 hs1)
    have HB := hide hb1
    clear hb1 hs1 h0
    rw [hd]
    go_wp2_with fail
    go_ret
    rw [HE.out]
    exact ⟨rfl, Off.of_but HB.out (pf_head ..), ba, cap, bs, HQ.out, fun _ h => Or.inl h⟩
  · have hd : decide (S.left = 0) = false := decide_eq_false h0
    rw [op_left h0] at hs1
    have HQ := hide (HP.out.turned hb1 hs1)
    have HB := hide hb1
    have H0 := hide h0
    clear hb1 hs1 h0
    rw [hd]
    by_cases hn0 : n < 0
    · have HE := hide (show doAppend S n t = (op S, 9) by rw [doAppend, if_neg H0.out, if_pos hn0])
      go_wp2_with fail
      go_ret
      rw [HE.out]
      exact ⟨rfl, Off.of_but HB.out (pf_head ..), ba, cap, bs, HQ.out, fun _ h => Or.inl h⟩
    · obtain ⟨c0, c1, c2, f0, f1, f2⟩ := head3 HQ.out.head
      have hus : Dm.used S.segs ≤ 1000000000000 := by omega
      by_cases hr0 : 0 ≤ S.room
      · by_cases hru : S.room < (Dm.used S.segs : Int) + (t.size : Int)
        · have HE := hide (show doAppend S n t = (op S, 7) by rw [doAppend, if_neg H0.out, if_neg hn0, if_pos ⟨hr0, hru⟩])
          have HUS := hide (show ∀ m, Calls Tryz.prog 64 #[.pointer (some ⟨bx, 0, none⟩)] (w1.drewN m) fun e w' => e = .returned (.int .i64 (Dm.used S.segs : Int)) ∧ w' = w1.drewN m from fun m => (used bx ba cap bs (op S) (w1.drewN m) (HQ.out.drewN m) hl hus).mono fun e w' ⟨h1, h2⟩ => ⟨h2, h1.symm⟩)
          go_wp2_with fail
          go_quiet (first | (go_at_call 64; refine Calls.quiet_of_same (HUS.out _)))
          go_wp2_with fail
          go_ret
          rw [HE.out]
          exact ⟨rfl, (Off.of_but HB.out (pf_head ..)).drewN _, ba, cap, bs, HQ.out.drewN _, fun _ h => Or.inl h⟩
        · have HD := hide (show doAppend S n t = ({ op S with segs := turn n (fun s => { s with text := s.text ++ t }) (ensure n S.segs) }, 0) by rw [doAppend, if_neg H0.out, if_neg hn0, if_neg (fun h => hru h.2)])
          have HUS := hide (show ∀ m, Calls Tryz.prog 64 #[.pointer (some ⟨bx, 0, none⟩)] (w1.drewN m) fun e w' => e = .returned (.int .i64 (Dm.used S.segs : Int)) ∧ w' = w1.drewN m from fun m => (used bx ba cap bs (op S) (w1.drewN m) (HQ.out.drewN m) hl hus).mono fun e w' ⟨h1, h2⟩ => ⟨h2, h1.symm⟩)
          go_wp2_with fail
          go_quiet (first | (go_at_call 64; refine Calls.quiet_of_same (HUS.out _)))
          go_wp2_with fail
          refine (find bx ba cap bs (op S) n (w1.drewN nq) (HQ.out.drewN nq) hl).mono ?_
          rintro e w2 ⟨rfl, rfl⟩
          have HO := hide ((Off.of_but HB.out (pf_head bx ba bs)).drewN nq)
          have HR := hide (HQ.out.drewN nq)
          have HSZ := hide HB.out.size
          clear c0 c1 c2 f0 f1 f2
          rw [show w1.heap.size = (w1.drewN nq).heap.size from rfl] at HSZ
          generalize w1.drewN nq = w2 at *
          clear HQ HB
          obtain ⟨c0, c1, c2, f0, f1, f2⟩ := head3 HR.out.head
          cases hp : place n S.segs with
          | some k =>
            obtain ⟨s, hs, hn⟩ := place_some hp
            obtain ⟨b, hb⟩ : ∃ b, bs[k]? = some b := ⟨_, List.getElem?_eq_getElem (by rw [HP.out.len]; exact (List.getElem?_eq_some_iff.1 hs).1)⟩
            have HE := hide (show doAppend S n t = (⟨S.segs.set k { s with text := s.text ++ t }, (op S).left, S.room⟩, 0) by rw [HD.out, ensure_there HG.out.rise hs hn, turn_set HG.out.rise hs hn]; rfl)
            rw [ptr_at (S := op S) hp hb]
            have hS := HR.out.seg k b s hb hs
            obtain ⟨b0, b1, b2, g0, g1, g2⟩ := head3 hS
            have hst : s.text.size + t.size ≤ 1000000000000 := by
              have := used_mem (List.mem_of_getElem? hs)
              omega
            have HS := hide hS
            have HK := hide hb
            clear hp hs hn hb hS
            go_wp2_with fail
            go_ret
            rw [HE.out]
            exact ⟨rfl, HO.out.set (pf_seg (List.mem_of_getElem? HK.out)) _ _, ba, cap, bs, HR.out.seg_turned HK.out ((But.refl _ _).set _ _) (HS.out.set 1 _), fun _ h => Or.inl h⟩
          | none =>
            rw [ptr_none (S := op S) hp]
            have HPN := hide (place_none hp)
            clear hp
            obtain ⟨ao, cv, hsl⟩ := Own.shape HR.out.owns
            have HOW := hide HR.out.owns
            have HSL := hide hsl
            have hbx := HR.out.head.lt
            obtain ⟨i0, hi, hz0, hz1, hz2⟩ := info_parts hiPtr
            rw [hsl] at c0
            clear hsl
            go_wp2_with (at_builtin; refine Apn.wpList_any _ rfl _ _ 53 rfl 127 i0 (.pointer none) 1 8 Tryz.underlying53 hi hz0 hz1 hz2 rfl (by decide) _ _ (ptrs bs) rfl (own_two HOW.out HSL.out _ _) _ 1 1 [.pointer (some ⟨w2.heap.size, 0, none⟩)] rfl (src_one _ _ _ _ (by simp)) (by unfold maxLen; omega) (by omega) ?_; intro v2 w3 o2 gr2 sm2 nn2; obtain ⟨ao2, cv2, rfl⟩ := Own.shape o2; obtain ⟨ga, rfl, hc3, hf3, hp3, ho3, hg3⟩ := grown HR.out HSL.out o2 gr2 sm2; have HP3 := hide hp3; have HO3 := hide ho3; have HG3 := hide hg3; clear hp3 ho3 hg3 o2 gr2 sm2 nn2)
            clear c0 c1 c2 f0 f1 f2 hc3 hf3
            have hbl : (bs ++ [w2.heap.size]).length = bs.length + 1 := by simp
            have hsg : (S.segs ++ [(⟨n, ⟨#[]⟩, 0⟩ : Seg)]).length = bs.length + 1 := by simp [HP.out.len]
            generalize w3.setCell ⟨bx, 0, none⟩ (.slice (some ⟨ga, 0, none⟩) (bs.length + 1) cv2) = w4 at *
            obtain ⟨cs, hA, hcs, hcap, hptr⟩ := HP3.out.arr (by simp)
            refine (sort ga cv2 (bs ++ [w2.heap.size]) (S.segs ++ [(⟨n, ⟨#[]⟩, 0⟩ : Seg)]) hbl hsg w4 cs hA (by rw [hcs, ← hbl]; exact hcap) hptr (fun i b s h1 h2 => (HP3.out.seg i b s h1 h2).cell 0 _ rfl) (fun b hb => (HP3.out.ne_seg hb).2) (by omega)).mono ?_
            rintro e w5 ⟨rfl, d, hd, hds, hbut5, cur', hg5, hsz5, hcur5⟩
            have hat : at_ (S.segs ++ [(⟨n, ⟨#[]⟩, 0⟩ : Seg)]) hsg d = ensure n S.segs := at_sorted hsg HG.out.rise HPN.out hd hds
            obtain ⟨k, hk1, hk2⟩ := new_block (g := w2.heap.size) hbl hsg HG.out.rise HPN.out hd hat
            have hp5 := permuted HP3.out hbl hsg hd hbut5 hA hg5 hsz5 hcur5
            rw [hat] at hp5
            obtain ⟨b0, b1, b2, g0, g1, g2⟩ := head3 (hp5.seg k w2.heap.size _ hk2 hk1)
            have HS5 := hide (hp5.seg k w2.heap.size _ hk2 hk1)
            have HP5 := hide hp5
            have HK2 := hide hk2
            have HO5 := hide (off_but (HO.out.trans (HO3.out.mono fun k _ h => h)) hbut5 (HG3.out.imp id (Nat.le_trans HSZ.out)))
            have HE := hide (show doAppend S n t = (⟨(ensure n S.segs).set k { (⟨n, ⟨#[]⟩, 0⟩ : Seg) with text := ⟨#[]⟩ ++ t }, (op S).left, S.room⟩, 0) by rw [HD.out, turn_set (ensure_rise HG.out.rise) hk1 rfl]; rfl)
            have htz : t.size ≤ 1000000000000 := by omega
            have HFT := hide (show ∀ b ∈ pf bx ga (bat (bs ++ [w2.heap.size]) hbl d), b ∈ pf bx ba bs ∨ w.heap.size ≤ b from pf_sub (HG3.out.imp id (Nat.le_trans HSZ.out)) fun b hb => by
              rcases List.mem_append.1 (bat_mem hbl hb) with e | e
              · exact Or.inl (pf_seg e)
              · rw [List.mem_singleton] at e
                rw [e]
                exact Or.inr HSZ.out)
            clear hd hds hbut5 hg5 hsz5 hcur5 hat hk1 hk2 hp5 hA hcs hcap hptr
            go_wp2_with fail
            go_ret
            rw [HE.out]
            have hb : But w2.heap.size w5 (w5.setCell ⟨w2.heap.size, 1, none⟩ (.string (⟨#[]⟩ ++ t))) := (But.refl _ _).set _ _
            exact ⟨rfl, off_but HO5.out hb (Or.inr HSZ.out), ga, cv2, _, HP5.out.seg_turned HK2.out hb (HS5.out.set 1 _), HFT.out⟩
      · have HD := hide (show doAppend S n t = ({ op S with segs := turn n (fun s => { s with text := s.text ++ t }) (ensure n S.segs) }, 0) by rw [doAppend, if_neg H0.out, if_neg hn0, if_neg (fun h => hr0 h.1)])
        have hrd : decide (0 ≤ S.room) = false := decide_eq_false hr0
        go_wp2_with fail
        go_quiet (fail)
        go_wp2_with fail
        refine (find bx ba cap bs (op S) n (w1.drewN nq) (HQ.out.drewN nq) hl).mono ?_
        rintro e w2 ⟨rfl, rfl⟩
        have HO := hide ((Off.of_but HB.out (pf_head bx ba bs)).drewN nq)
        have HR := hide (HQ.out.drewN nq)
        have HSZ := hide HB.out.size
        clear c0 c1 c2 f0 f1 f2
        rw [show w1.heap.size = (w1.drewN nq).heap.size from rfl] at HSZ
        generalize w1.drewN nq = w2 at *
        clear HQ HB
        obtain ⟨c0, c1, c2, f0, f1, f2⟩ := head3 HR.out.head
        cases hp : place n S.segs with
        | some k =>
          obtain ⟨s, hs, hn⟩ := place_some hp
          obtain ⟨b, hb⟩ : ∃ b, bs[k]? = some b := ⟨_, List.getElem?_eq_getElem (by rw [HP.out.len]; exact (List.getElem?_eq_some_iff.1 hs).1)⟩
          have HE := hide (show doAppend S n t = (⟨S.segs.set k { s with text := s.text ++ t }, (op S).left, S.room⟩, 0) by rw [HD.out, ensure_there HG.out.rise hs hn, turn_set HG.out.rise hs hn]; rfl)
          rw [ptr_at (S := op S) hp hb]
          have hS := HR.out.seg k b s hb hs
          obtain ⟨b0, b1, b2, g0, g1, g2⟩ := head3 hS
          have hst : s.text.size + t.size ≤ 1000000000000 := by
            have := used_mem (List.mem_of_getElem? hs)
            omega
          have HS := hide hS
          have HK := hide hb
          clear hp hs hn hb hS
          go_wp2_with fail
          go_ret
          rw [HE.out]
          exact ⟨rfl, HO.out.set (pf_seg (List.mem_of_getElem? HK.out)) _ _, ba, cap, bs, HR.out.seg_turned HK.out ((But.refl _ _).set _ _) (HS.out.set 1 _), fun _ h => Or.inl h⟩
        | none =>
          rw [ptr_none (S := op S) hp]
          have HPN := hide (place_none hp)
          clear hp
          obtain ⟨ao, cv, hsl⟩ := Own.shape HR.out.owns
          have HOW := hide HR.out.owns
          have HSL := hide hsl
          have hbx := HR.out.head.lt
          obtain ⟨i0, hi, hz0, hz1, hz2⟩ := info_parts hiPtr
          rw [hsl] at c0
          clear hsl
          go_wp2_with (at_builtin; refine Apn.wpList_any _ rfl _ _ 53 rfl 127 i0 (.pointer none) 1 8 Tryz.underlying53 hi hz0 hz1 hz2 rfl (by decide) _ _ (ptrs bs) rfl (own_two HOW.out HSL.out _ _) _ 1 1 [.pointer (some ⟨w2.heap.size, 0, none⟩)] rfl (src_one _ _ _ _ (by simp)) (by unfold maxLen; omega) (by omega) ?_; intro v2 w3 o2 gr2 sm2 nn2; obtain ⟨ao2, cv2, rfl⟩ := Own.shape o2; obtain ⟨ga, rfl, hc3, hf3, hp3, ho3, hg3⟩ := grown HR.out HSL.out o2 gr2 sm2; have HP3 := hide hp3; have HO3 := hide ho3; have HG3 := hide hg3; clear hp3 ho3 hg3 o2 gr2 sm2 nn2)
          clear c0 c1 c2 f0 f1 f2 hc3 hf3
          have hbl : (bs ++ [w2.heap.size]).length = bs.length + 1 := by simp
          have hsg : (S.segs ++ [(⟨n, ⟨#[]⟩, 0⟩ : Seg)]).length = bs.length + 1 := by simp [HP.out.len]
          generalize w3.setCell ⟨bx, 0, none⟩ (.slice (some ⟨ga, 0, none⟩) (bs.length + 1) cv2) = w4 at *
          obtain ⟨cs, hA, hcs, hcap, hptr⟩ := HP3.out.arr (by simp)
          refine (sort ga cv2 (bs ++ [w2.heap.size]) (S.segs ++ [(⟨n, ⟨#[]⟩, 0⟩ : Seg)]) hbl hsg w4 cs hA (by rw [hcs, ← hbl]; exact hcap) hptr (fun i b s h1 h2 => (HP3.out.seg i b s h1 h2).cell 0 _ rfl) (fun b hb => (HP3.out.ne_seg hb).2) (by omega)).mono ?_
          rintro e w5 ⟨rfl, d, hd, hds, hbut5, cur', hg5, hsz5, hcur5⟩
          have hat : at_ (S.segs ++ [(⟨n, ⟨#[]⟩, 0⟩ : Seg)]) hsg d = ensure n S.segs := at_sorted hsg HG.out.rise HPN.out hd hds
          obtain ⟨k, hk1, hk2⟩ := new_block (g := w2.heap.size) hbl hsg HG.out.rise HPN.out hd hat
          have hp5 := permuted HP3.out hbl hsg hd hbut5 hA hg5 hsz5 hcur5
          rw [hat] at hp5
          obtain ⟨b0, b1, b2, g0, g1, g2⟩ := head3 (hp5.seg k w2.heap.size _ hk2 hk1)
          have HS5 := hide (hp5.seg k w2.heap.size _ hk2 hk1)
          have HP5 := hide hp5
          have HK2 := hide hk2
          have HO5 := hide (off_but (HO.out.trans (HO3.out.mono fun k _ h => h)) hbut5 (HG3.out.imp id (Nat.le_trans HSZ.out)))
          have HE := hide (show doAppend S n t = (⟨(ensure n S.segs).set k { (⟨n, ⟨#[]⟩, 0⟩ : Seg) with text := ⟨#[]⟩ ++ t }, (op S).left, S.room⟩, 0) by rw [HD.out, turn_set (ensure_rise HG.out.rise) hk1 rfl]; rfl)
          have htz : t.size ≤ 1000000000000 := by omega
          have HFT := hide (show ∀ b ∈ pf bx ga (bat (bs ++ [w2.heap.size]) hbl d), b ∈ pf bx ba bs ∨ w.heap.size ≤ b from pf_sub (HG3.out.imp id (Nat.le_trans HSZ.out)) fun b hb => by
            rcases List.mem_append.1 (bat_mem hbl hb) with e | e
            · exact Or.inl (pf_seg e)
            · rw [List.mem_singleton] at e
              rw [e]
              exact Or.inr HSZ.out)
          clear hd hds hbut5 hg5 hsz5 hcur5 hat hk1 hk2 hp5 hA hcs hcap hptr
          go_wp2_with fail
          go_ret
          rw [HE.out]
          have hb : But w2.heap.size w5 (w5.setCell ⟨w2.heap.size, 1, none⟩ (.string (⟨#[]⟩ ++ t))) := (But.refl _ _).set _ _
          exact ⟨rfl, off_but HO5.out hb (Or.inr HSZ.out), ga, cv2, _, HP5.out.seg_turned HK2.out hb (HS5.out.set 1 _), HFT.out⟩
end Go.Proofs.YtmkidefdegaamaaGreatDoor.Dh
