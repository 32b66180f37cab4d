/- The program's shards in memory. The program's shards: a key looked up; a key put in. The program's shards: made. -/
import Derived.Test.YtenegfafjjknoaaGreatDoorHjx
namespace Go.Proofs.YtenegfafjjknoaaGreatDoor.Sh
open Go.RowKit Go.Maps Mem Foot Im Wm Hk Hb Hi Plainw Cq Hs

def pv (x : Nat) : Value := .pointer (some ⟨x, 0, none⟩)

def okP : Value → Bool
  | .pointer _ => true
  | _ => false

theorem zeroP (w : World) : (zeroValue 141).run Tryz.prog w = .ok (.pointer none) w := Tryz.zeroValue141 w

/-- The shard of a key. -/
def idx (n : Nat) (k : Bs) : Nat := (hsh k % (n : Int)).toNat
def part (n i : Nat) (ent : List (Bs × Nat)) : List (Bs × Nat) := ent.filter fun p => idx n p.1 == i

theorem idx_lt {n : Nat} (h : 0 < n) (k : Bs) : idx n k < n := by
  unfold idx
  have h1 := Int.emod_nonneg (hsh k) (show (n : Int) ≠ 0 by omega)
  have h2 := Int.emod_lt_of_pos (hsh k) (show (0 : Int) < n by omega)
  omega

structure ShAt (w : World) (M R : Nat) (bs : List Nat) (ent : List (Bs × Nat)) : Prop where
  head : Sits w M 201 #[.slice (some ⟨R, 0, none⟩) bs.length bs.length, .int .i64 (ent.length : Int)]
  row : Sits w R 198 (bs.map fun b => Value.map (some b)).toArray
  maps : ∀ i b, bs[i]? = some b → Owns Tryz.prog 9 okP sLit pv w b (part bs.length i ent)
  nodup : bs.Nodup
  pos : 0 < bs.length
  most : bs.length ≤ 16

/-- What it may write. -/
def shf (M R : Nat) (bs : List Nat) : List Nat := M :: R :: bs

theorem ShAt.off {F : List Nat} {w w' : World} {M R : Nat} {bs : List Nat} {ent : List (Bs × Nat)} (h : ShAt w M R bs ent) (ho : Off F w w') (hF : ∀ x ∈ shf M R bs, x ∉ F) : ShAt w' M R bs ent :=
  ⟨Foot.Sits.off h.head ho (hF M (by simp [shf])), Foot.Sits.off h.row ho (hF R (by simp [shf])), fun i b hb => Owns.at (h.maps i b hb) (ho.block b (h.maps i b hb).below (hF b (by simp only [shf, List.mem_cons]; exact Or.inr (Or.inr (List.mem_of_getElem? hb))))), h.nodup, h.pos, h.most⟩

theorem ShAt.keep {w w' : World} {M R : Nat} {bs : List Nat} {ent : List (Bs × Nat)} (h : ShAt w M R bs ent) (hb : Below w.heap.size w w') : ShAt w' M R bs ent :=
  h.off (F := []) (Off.of_below hb) (by simp)

theorem ShAt.lt {w : World} {M R : Nat} {bs : List Nat} {ent : List (Bs × Nat)} (h : ShAt w M R bs ent) : ∀ x ∈ shf M R bs, x < w.heap.size := by
  intro x hx
  simp only [shf, List.mem_cons] at hx
  rcases hx with rfl | rfl | hx
  · exact h.head.lt
  · exact h.row.lt
  · obtain ⟨i, hi⟩ := List.getElem?_of_mem hx
    exact (h.maps i x hi).below

theorem ShAt.cell {w : World} {M R : Nat} {bs : List Nat} {ent : List (Bs × Nat)} (h : ShAt w M R bs ent) {i b : Nat} (hb : bs[i]? = some b) : w.cell? ⟨R, i, none⟩ = some (.map (some b)) :=
  h.row.cell i _ (by simp [hb])

theorem len (M R : Nat) (bs : List Nat) (ent : List (Bs × Nat)) (w : World) (h : ShAt w M R bs ent) : Calls Tryz.prog 244 #[.pointer (some ⟨M, 0, none⟩)] w fun e w' => e = .returned (.int .i64 (ent.length : Int)) ∧ w' = w := by
  have c1 := h.head.cell 1 _ rfl
  go_enter Tryz.func244, Tryz.ntmps244
  go_wp2_with fail
  go_ret
  exact ⟨rfl, rfl⟩

set_option maxHeartbeats 1000000 in
theorem shardOf (M R : Nat) (bs : List Nat) (ent : List (Bs × Nat)) (s : ByteArray) (hs : s.size ≤ 1000) (w : World) (h : ShAt w M R bs ent) (b : Nat) (hb : bs[idx bs.length (Bytes.B s)]? = some b) :
    Calls Tryz.prog 294 #[.pointer (some ⟨M, 0, none⟩), .string s] w fun e w' => e = .returned (.map (some b)) ∧ Below w.heap.size w w' := by
  have C0 : ∀ s : Bw w, s.val.cell? ⟨M, 0, none⟩ = some (.slice (some ⟨R, 0, none⟩) bs.length bs.length) := fun s => (h.keep s.is).head.cell 0 _ rfl
  have hp := h.pos
  have hm := h.most
  have hi := idx_lt hp (Bytes.B s)
  obtain ⟨x0, x1⟩ := hsh_range (Bytes.B s)
  have CR : ∀ s' : Bw w, s'.val.cell? ⟨R, idx bs.length (Bytes.B s), none⟩ = some (.map (some b)) := fun s' => (h.keep s'.is).cell hb
  have HH := hide (fun s' : Bw w => call_cls (v := .int .u32 (hsh (Bytes.B s))) ((hashW s hs s'.val).mono fun e w' ⟨h1, h2⟩ => ⟨h1, by rw [h2]; exact Below.refl _ _⟩))
  have hie : idx bs.length (Bytes.B s) = (hsh (Bytes.B s) % (bs.length : Int)).toNat := rfl
  clear h hb
  generalize hsh (Bytes.B s) = x at *
  generalize bs.length = n at *
  obtain ⟨j, hj⟩ : ∃ j : Nat, x % (n : Int) = (j : Int) := ⟨(x % (n : Int)).toNat, by
    have := Int.emod_nonneg x (show (n : Int) ≠ 0 by omega)
    omega⟩
  have hje : idx n (Bytes.B s) = j := by rw [hie, hj]; rfl
  rw [hje] at hi CR
  have hjz : (j : Int) < (n : Int) := by omega
  clear hie hje
  have e1 : (n : Int) % 4294967296 = n := by omega
  have hz : ¬ (n : Int) = 0 := by omega
  go_enter Tryz.func294, Tryz.ntmps294
  go_wp2_with fail
  refine region_cls (by kernel_rfl) (by kernel_rfl) ?_
  repeat (first
    | go_big_quiet_skip
    | (go_big_quiet_want; go_big_quiet_op; first | go_big_quiet_on | (apply Exists.intro; refine ⟨fun _ => ?_, ?_⟩; exact HH.out _; go_big_quiet_on)))
  refine wpQuiet_nil ?_
  rintro _ ⟨s', rfl⟩
  go_wp2_with fail
  go_ret
  exact ⟨rfl, s'.is⟩

end Go.Proofs.YtenegfafjjknoaaGreatDoor.Sh

namespace Go.Proofs.YtenegfafjjknoaaGreatDoor.Sh
open Go.RowKit Go.Maps Mem Foot Im Wm Hk Hb Hi Plainw Cq Hs

theorem getE_filter {κ β : Type} [DecidableEq κ] {p : κ × β → Bool} {k : κ} (hp : ∀ x : κ × β, x.1 = k → p x = true) (l : List (κ × β)) : getE k (l.filter p) = getE k l := by
  induction l with
  | nil => rfl
  | cons x r ih =>
    by_cases h : x.1 = k
    · rw [List.filter_cons_of_pos (hp x h), getE_cons_eq h, getE_cons_eq h]
    · rw [getE_cons_ne h]
      by_cases h2 : p x = true
      · rw [List.filter_cons_of_pos h2, getE_cons_ne h, ih]
      · rw [List.filter_cons_of_neg h2, ih]

theorem getE_part (n : Nat) (k : Bs) (ent : List (Bs × Nat)) : getE k (part n (idx n k) ent) = getE k ent :=
  getE_filter (fun x hx => by simp [hx]) ent

theorem filter_ins {κ β : Type} {lt : κ → κ → Bool} (htr : ∀ a b c, lt a b = true → lt b c = true → lt a c = true) {p : κ × β → Bool} {x : κ × β} {l : List (κ × β)} (h : Up lt l) : (ins lt x l).filter p = if p x then ins lt x (l.filter p) else l.filter p := by
  induction l with
  | nil =>
    by_cases hp : p x = true
    · simp [ins, hp]
    · simp [ins, hp]
  | cons y r ih =>
    obtain ⟨h1, h2⟩ := List.pairwise_cons.1 h
    rw [ins]
    by_cases hl : lt x.1 y.1 = true
    · rw [if_pos hl]
      by_cases hp : p x = true
      · rw [List.filter_cons_of_pos hp, if_pos hp]
        cases hf : (y :: r).filter p with
        | nil => rfl
        | cons z q =>
          have hz : z ∈ y :: r := by
            have : z ∈ (y :: r).filter p := by rw [hf]; exact List.mem_cons_self ..
            exact (List.mem_filter.1 this).1
          have hlt : lt x.1 z.1 = true := by
            rcases List.mem_cons.1 hz with e | e
            · rw [e]
              exact hl
            · exact htr _ _ _ hl (h1 z e)
          rw [ins, if_pos hlt]
      · rw [List.filter_cons_of_neg hp, if_neg hp]
    · rw [if_neg hl]
      by_cases hy : p y = true
      · rw [List.filter_cons_of_pos hy, ih h2, List.filter_cons_of_pos hy]
        by_cases hp : p x = true
        · rw [if_pos hp, if_pos hp, ins, if_neg hl]
        · rw [if_neg hp, if_neg hp]
      · rw [List.filter_cons_of_neg hy, ih h2, List.filter_cons_of_neg hy]

theorem part_put {n : Nat} {k : Bs} {x : Nat} {ent : List (Bs × Nat)} (hu : Up sLt ent) (hk : getE k ent = none) (i : Nat) : part n i (put sLt k x ent) = if idx n k = i then put sLt k x (part n i ent) else part n i ent := by
  have h1 : has k ent = false := by rw [has_getE, hk]; rfl
  have e1 : put sLt k x ent = ins sLt (k, x) ent := by rw [put, del_of_not k ent h1]
  have h2 : has k (part n i ent) = false := by
    rw [has_false]
    intro hm
    obtain ⟨p, hp, e⟩ := List.mem_map.1 hm
    exact (has_false k ent).1 h1 (List.mem_map.2 ⟨p, (List.mem_filter.1 hp).1, e⟩)
  have e2 : put sLt k x (part n i ent) = ins sLt (k, x) (part n i ent) := by rw [put, del_of_not k _ h2]
  rw [e1, e2]
  unfold part
  rw [filter_ins sLt_trans hu]
  simp

theorem nodup_idx {l : List Nat} (h : l.Nodup) {i j b : Nat} (hi : l[i]? = some b) (hj : l[j]? = some b) : i = j := by
  rw [List.nodup_iff_pairwise_ne, List.pairwise_iff_getElem] at h
  obtain ⟨i1, e1⟩ := List.getElem?_eq_some_iff.1 hi
  obtain ⟨j1, e2⟩ := List.getElem?_eq_some_iff.1 hj
  rcases Nat.lt_trichotomy i j with h1 | h1 | h1
  · exact absurd (e1.trans e2.symm) (h i j i1 j1 h1)
  · exact h1
  · exact absurd (e2.trans e1.symm) (h j i j1 i1 h1)

theorem get (M R : Nat) (bs : List Nat) (ent : List (Bs × Nat)) (s : ByteArray) (hs : s.size ≤ 1000) (w : World) (h : ShAt w M R bs ent) :
    Calls Tryz.prog 243 #[.pointer (some ⟨M, 0, none⟩), .string s] w fun e w' => e = .returned (.tuple #[Im.elemOf pv (.pointer none) (Bytes.B s) ent, .bool (has (Bytes.B s) ent)]) ∧ Below w.heap.size w w' := by
  obtain ⟨b, hb⟩ : ∃ b, bs[idx bs.length (Bytes.B s)]? = some b := ⟨_, List.getElem?_eq_getElem (idx_lt h.pos _)⟩
  have hsh := shardOf M R bs ent s hs w h b hb
  have hkey : keyOf Tryz.prog 9 (.string s) = some (sLit (Bytes.B s)) := Go.WideMaps.keyOf_string_mk Tryz.underlying9 (by unfold maxLen; omega)
  have hlk := look_ok_run (h.maps _ b hb) (string_keyed Tryz.underlying9) Tryz.underlying198 zeroP rfl sLit_same hkey
  have e1 : Im.elemOf pv (.pointer none) (Bytes.B s) (part bs.length (idx bs.length (Bytes.B s)) ent) = Im.elemOf pv (.pointer none) (Bytes.B s) ent := by
    unfold Im.elemOf
    rw [getE_part]
  have e2 : has (Bytes.B s) (part bs.length (idx bs.length (Bytes.B s)) ent) = has (Bytes.B s) ent := by rw [has_getE, has_getE, getE_part]
  rw [e1, e2] at hlk
  have hbl := (h.maps _ b hb).below
  obtain ⟨q, hq⟩ : ∃ q, Im.elemOf pv (.pointer none) (Bytes.B s) ent = .pointer q := by
    unfold Im.elemOf
    split
    · exact ⟨_, rfl⟩
    · exact ⟨_, rfl⟩
  rw [hq] at hlk ⊢
  generalize has (Bytes.B s) ent = hh at *
  clear h hq e1 e2
  go_enter Tryz.func243, Tryz.ntmps243
  go_wp2_with fail
  refine hsh.mono ?_
  clear hsh
  rintro e w1 ⟨rfl, hb1⟩
  have hl1 := hlk w1 (hb1.block b hbl)
  have HB := hide hb1
  clear hlk hb1
  go_wp2_with fail
  go_ret2
  exact ⟨rfl, HB.out⟩

set_option maxHeartbeats 1000000 in
theorem put_ (M R : Nat) (bs : List Nat) (ent : List (Bs × Nat)) (s : ByteArray) (x : Nat) (hs : s.size ≤ 1000) (w : World) (h : ShAt w M R bs ent) (hu : Up sLt ent) (hk : getE (Bytes.B s) ent = none) (hl : ent.length < 1000) :
    Calls Tryz.prog 246 #[.pointer (some ⟨M, 0, none⟩), .string s, .pointer (some ⟨x, 0, none⟩)] w fun e w' => e = .returned (.tuple #[]) ∧ Off (shf M R bs) w w' ∧ ShAt w' M R bs (put sLt (Bytes.B s) x ent) := by
  obtain ⟨b, hb⟩ : ∃ b, bs[idx bs.length (Bytes.B s)]? = some b := ⟨_, List.getElem?_eq_getElem (idx_lt h.pos _)⟩
  have hsh := shardOf M R bs ent s hs w h b hb
  have hkey : keyOf Tryz.prog 9 (.string s) = some (sLit (Bytes.B s)) := Go.WideMaps.keyOf_string_mk Tryz.underlying9 (by unfold maxLen; omega)
  have hpl : (part bs.length (idx bs.length (Bytes.B s)) ent).length ≤ ent.length := List.length_filter_le _ _
  have hpk : getE (Bytes.B s) (part bs.length (idx bs.length (Bytes.B s)) ent) = none := by rw [getE_part, hk]
  have hpn := put_length_none (lt := sLt) (b' := x) hpk
  have HS := hide h
  have HBs := hide hb
  have HU := hide hu
  have HK := hide hk
  clear h hb hu hk
  go_enter Tryz.func246, Tryz.ntmps246
  go_wp2_with fail
  refine hsh.mono ?_
  clear hsh
  rintro e w1 ⟨rfl, hb1⟩
  have HS1 := hide (HS.out.keep hb1)
  have HB1 := hide hb1
  have hm1 := HS1.out.maps _ b HBs.out
  have hlen := fun ty => len_run hm1 Tryz.underlying198 ty w1 rfl
  obtain ⟨w4, hu4, ho4, hg4⟩ := upd_run (lt := sLt) hm1 (string_keyed Tryz.underlying9) Tryz.underlying198 sLit_same sLit_before (by unfold maxLen; omega) hkey x rfl
  simp only [pv] at hu4
  have HO4 := hide ho4
  have HG4 := hide hg4
  have hlen4 := fun ty => len_run ho4 Tryz.underlying198 ty w4.drew rfl
  rw [hpn] at hlen4
  have hMb : M ≠ b := map_sits hm1 HS1.out.head
  have HH4 := hide (Foot.Sits.off HS1.out.head (grown_off' (F := [b]) hg4 (by simp)) (by simpa using hMb))
  have c1 := HH4.out.cell 1 _ rfl
  have f1 := HH4.out.frozen 1
  generalize (part bs.length (idx bs.length (Bytes.B s)) ent).length = np at *
  clear hb1 hm1 ho4 hg4 hpk hpn
  go_wp2_with fail
  go_region
  all_goals
    go_wp2_with fail
    go_end0
    have hMR : R ≠ M := sits_ne HS1.out.row HS1.out.head (by decide)
    have hRb : R ≠ b := map_sits (HS1.out.maps _ b HBs.out) HS1.out.row
    have e0 : (ent.length : Int) + ((np : Int) + 1 - np) = ((put sLt (Bytes.B s) x ent).length : Int) := by
      rw [put_length_none HK.out]
      omega
    rw [e0]
    have hbm : b ∈ shf M R bs := by
      simp only [shf, List.mem_cons]
      exact Or.inr (Or.inr (List.mem_of_getElem? HBs.out))
    refine ⟨rfl, ?_, ?_⟩
    · exact (((Off.of_below HB1.out).trans (grown_off' HG4.out hbm)).set (by simp [shf]) _ _).drewN 1
    · have hW : ∀ k, k ≠ b → k ≠ M → k < w1.heap.size → (w4.setCell ⟨M, 1, none⟩ (.int .i64 ((put sLt (Bytes.B s) x ent).length : Int))).drew.heap[k]? = w1.heap[k]? := fun k h1 h2 h3 =>
        (Below.heap_setCell _ _ _ _ h2).trans (HG4.out.block k h3 (by simpa using h1))
      refine ⟨HH4.out.set 1 _, ?_, fun i b' hb' => ?_, HS1.out.nodup, HS1.out.pos, HS1.out.most⟩
      · exact (hW R hRb hMR HS1.out.row.lt).trans HS1.out.row
      · rw [part_put HU.out HK.out]
        by_cases hi : idx bs.length (Bytes.B s) = i
        · rw [if_pos hi]
          have hbb : b' = b := by
            have h1 := HBs.out
            rw [hi, hb'] at h1
            exact Option.some.inj h1
          subst hbb
          subst hi
          exact Owns.at HO4.out (Below.heap_setCell _ _ _ _ (fun e => hMb e.symm))
        · rw [if_neg hi]
          have hne : b' ≠ b := fun e => hi (by
            subst e
            exact nodup_idx HS1.out.nodup HBs.out hb')
          have hM' : M ≠ b' := map_sits (HS1.out.maps i b' hb') HS1.out.head
          exact Owns.at (HS1.out.maps i b' hb') (hW b' hne (fun e => hM' e.symm) (HS1.out.maps i b' hb').below)

end Go.Proofs.YtenegfafjjknoaaGreatDoor.Sh

namespace Go.Proofs.YtenegfafjjknoaaGreatDoor.Sh
open Go.RowKit Go.Maps Mem Foot Im Wm Hk Hb Hi Plainw Cq Hs

theorem infoMap : (Tryz.prog.info? 198).map (fun i => (i.zero, i.size, i.bytes)) = some (some (.map none), 1, 8) := by kernel_rfl

/-- Shards of which so many are made. -/
def Making (w wr : World) (R n k : Nat) : Prop := ∃ (cs : Array Value) (bs : List Nat), Sits wr R 198 cs ∧ cs.size = n ∧ bs.length = k ∧ (∀ (i b : Nat), bs[i]? = some b → cs[i]? = some (Value.map (some b)) ∧ w.heap.size + 2 ≤ b ∧ Owns Tryz.prog 9 okP sLit pv wr b ([] : List (Bs × Nat))) ∧ bs.Nodup ∧
  Sits wr (w.heap.size + 1) 201 #[.slice (some ⟨R, 0, none⟩) n n, .int .i64 0] ∧ Below w.heap.size w wr ∧ w.heap.size + 2 ≤ wr.heap.size

set_option maxRecDepth 10000 in
set_option maxHeartbeats 2000000 in
theorem new_ (n : Nat) (h1 : 1 ≤ n) (h2 : n ≤ 16) (w : World) :
    Calls Tryz.prog 140 #[.int .i64 (n : Int)] w fun e w' => ∃ bs : List Nat, e = .returned (.pointer (some ⟨w.heap.size + 1, 0, none⟩)) ∧ bs.length = n ∧ ShAt w' (w.heap.size + 1) w.heap.size bs [] ∧ (∀ x ∈ shf (w.heap.size + 1) w.heap.size bs, w.heap.size ≤ x) ∧ Below w.heap.size w w' := by
  obtain ⟨cs0, hcs0, hmk⟩ := made 199 198 _ 8 Tryz.underlying199 infoMap n (by omega) (by omega) w
  have hmm := @run_makeMap Tryz.prog
  have hmx : max (n : Int) 1 = n := by omega
  have HM0 := hide (show Making w ((w.alloc (.cells cs0 198)).alloc (.cells #[.slice (some ⟨w.heap.size, 0, none⟩) n n, .int .i64 0] 201)) w.heap.size n 0 from
    ⟨cs0, [], (Sits.new w _ _).alloc _, hcs0, rfl, by simp, List.nodup_nil, by
      have := Sits.new (w.alloc (.cells cs0 198)) 201 #[.slice (some ⟨w.heap.size, 0, none⟩) n n, .int .i64 0]
      simpa using this, (below_new _).alloc (by simp) _, by simp⟩)
  go_enter Tryz.func140, Tryz.ntmps140
  go_wp2_with fail
  generalize (w.alloc (.cells cs0 198)).alloc (.cells #[.slice (some ⟨w.heap.size, 0, none⟩) n n, .int .i64 0] 201) = w0 at *
  have c0 : w0.cell? ⟨w.heap.size + 1, 0, none⟩ = some (.slice (some ⟨w.heap.size, 0, none⟩) n n) := by
    obtain ⟨_, _, _, _, _, _, _, h, _⟩ := HM0.out
    exact h.cell 0 _ rfl
  clear hmk hmx
  go_wp2_with fail
  go_loopw [15] (fun i wr => ∃ k : Nat, i = .int .i64 (k : Int) ∧ k ≤ n ∧ Hid (Making w wr w.heap.size n k)) (fun i _ => n - (intOf i).toNat)
  case atStart => exact ⟨0, rfl, by omega, HM0.out⟩
  case round =>
    obtain ⟨k, rfl, hk, HI⟩ := hrel
    by_cases hkn : k < n
    · have hkz : (k : Int) < (n : Int) := by omega
      obtain ⟨cs, bs, hS, hsz, hbl, hbs, hnd, hM, hB, hZ⟩ := HI.out
      have d0 := hM.cell 0 _ rfl
      have hSa := hS.alloc (.map #[] 0)
      have ck := hSa.cell k (cs[k]'(by omega)) (by simp [hsz, hkn])
      have fk := hSa.frozen k
      have d1 := (hM.alloc (.map #[] 0)).cell 0 _ rfl
      have HS := hide hS
      have HBS := hide hbs
      have HND := hide hnd
      have HM := hide hM
      have HB := hide hB
      clear hS hbs hnd hM hB hSa c0
      go_wp2_with fail
      go_roundw
      case rel =>
        refine ⟨k + 1, by go_num, by omega, _, bs ++ [wr.heap.size], (HS.out.alloc _).set k _, by simp [hsz], by simp [hbl], fun i b hb => ?_, ?_, ?_, ?_, ?_⟩
        · have hRb : wr.heap.size ≠ w.heap.size := by omega
          by_cases hi : i < bs.length
          · rw [List.getElem?_append_left hi] at hb
            obtain ⟨e1, e2, e3⟩ := HBS.out i b hb
            refine ⟨?_, e2, ?_⟩
            · rw [Array.getElem?_setIfInBounds_ne (by omega)]
              exact e1
            · refine Owns.at e3 ((Below.heap_setCell _ _ _ _ (by simp; omega)).trans (Below.heap_alloc _ _ _ e3.below))
          · have hi2 : i = bs.length := by
              have := (List.getElem?_eq_some_iff.1 hb).1
              simp at this
              omega
            subst hi2
            rw [List.getElem?_append_right (Nat.le_refl _), Nat.sub_self] at hb
            cases hb
            refine ⟨by rw [hbl]; simp [hsz, hkn], hZ, ?_⟩
            exact Owns.at (made_owns wr) (Below.heap_setCell _ _ _ _ hRb)
        · rw [List.nodup_append]
          refine ⟨HND.out, by simp, fun a ha b hb => ?_⟩
          simp at hb
          subst hb
          obtain ⟨i, hi⟩ := List.getElem?_of_mem ha
          have := (HBS.out i a hi).2.2.below
          omega
        · have ho : Off [w.heap.size] (wr.alloc (.map #[] 0)) ((wr.alloc (.map #[] 0)).setCell ⟨w.heap.size, k, none⟩ (.map (some wr.heap.size))) := (Off.refl _ _).set (by simp) _ _
          exact Foot.Sits.off (HM.out.alloc _) ho (by simp)
        · exact (HB.out.alloc (by omega) _).setCell (p := ⟨w.heap.size, k, none⟩) (by simp) _
        · simp
          omega
      case measure => simp only [intOf]; omega
    · have hkz : ¬ (k : Int) < (n : Int) := by omega
      have hk2 : k = n := by omega
      subst hk2
      obtain ⟨cs, bs, hS, hsz, hbl, hbs, hnd, hM, hB, hZ⟩ := HI.out
      have d0 := hM.cell 0 _ rfl
      have HF := hide (show ShAt wr (w.heap.size + 1) w.heap.size bs [] ∧ (∀ x ∈ shf (w.heap.size + 1) w.heap.size bs, w.heap.size ≤ x) by
        refine ⟨⟨by rw [hbl]; exact hM, ?_, fun i b hb => (hbs i b hb).2.2, hnd, by omega, by omega⟩, fun x hx => ?_⟩
        · have e : cs = (bs.map fun b => Value.map (some b)).toArray := by
            apply Array.ext_getElem?
            intro i
            by_cases hi : i < bs.length
            · rw [(hbs i _ (List.getElem?_eq_getElem hi)).1]
              simp [hi]
            · rw [Array.getElem?_eq_none (by omega), List.getElem?_toArray, List.getElem?_eq_none (by simp; omega)]
          rw [← e]
          exact hS
        · simp only [shf, List.mem_cons] at hx
          rcases hx with rfl | rfl | hx
          · omega
          · omega
          · obtain ⟨i, hi⟩ := List.getElem?_of_mem hx
            have := (hbs i x hi).2.1
            omega)
      have HB := hide hB
      have HL := hide hbl
      clear hS hbs hnd hM hB hbl c0 hsz
      go_wp2_with fail
      go_ret
      exact ⟨rfl, bs, HL.out, HF.out.1, HF.out.2, HB.out⟩

end Go.Proofs.YtenegfafjjknoaaGreatDoor.Sh
