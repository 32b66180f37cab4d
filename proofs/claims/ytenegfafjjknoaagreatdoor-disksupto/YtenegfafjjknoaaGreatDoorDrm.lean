/- The document's disk in memory: three cells a segment, in one array. The document's disk: NewDisk, Sync, Read, Limit, Truncate. The document's disk: Truncate, List. The document's disk: Crash. The document's disk: Delete. -/
import Derived.Test.YtenegfafjjknoaaGreatDoorDhm
import Derived.Test.YtenegfafjjknoaaGreatDoorDmm
import Derived.Test.YtenegfafjjknoaaGreatDoorApo
import Derived.Test.YtenegfafjjknoaaGreatDoorDhn
namespace Go.Proofs.YtenegfafjjknoaaGreatDoor.Dr
open Go.RowKit Mem Foot Dm Dh

/-- The disk at block dx, its array at da. -/
structure RD (w : World) (dx : Nat) (S : Dk) (da cap : Nat) : Prop where
  head : Sits w dx 104 #[sl da S.segs.length cap, .int .i64 S.left, .int .i64 S.room]
  arr : S.segs ≠ [] → ∃ cs : Array Value, Sits w da 153 cs ∧ cs.size = cap * 3 ∧ S.segs.length ≤ cap ∧ cap ≤ maxLen ∧ cs.toList.take (S.segs.length * 3) = rows S.segs
  apart : S.segs ≠ [] → da ≠ dx

theorem at_row {cs : Array Value} {l : List Seg} (h : cs.toList.take (l.length * 3) = rows l) {j : Nat} {u : Value} (hj : (rows l)[j]? = some u) : cs[j]? = some u := by
  rw [← h, List.getElem?_take] at hj
  split at hj
  · simpa using hj
  · cases hj

theorem RD.cells {w : World} {dx da cap k : Nat} {S : Dk} {s : Seg} (h : RD w dx S da cap) (hk : S.segs[k]? = some s) :
    w.cell? ⟨da, k * 3, none⟩ = some (.int .i64 s.num) ∧ w.cell? ⟨da, k * 3 + 1, none⟩ = some (.string s.text) ∧ w.cell? ⟨da, k * 3 + 2, none⟩ = some (.int .i64 (s.syn : Int)) ∧ w.frozen? ⟨da, k * 3, none⟩ = false ∧ w.frozen? ⟨da, k * 3 + 1, none⟩ = false ∧ w.frozen? ⟨da, k * 3 + 2, none⟩ = false ∧ S.segs.length ≤ cap := by
  obtain ⟨cs, h1, h2, h3, _, h4⟩ := h.arr (fun e => by rw [e] at hk; simp at hk)
  obtain ⟨r0, r1, r2⟩ := rows_get hk
  exact ⟨h1.cell _ _ (at_row h4 r0), h1.cell _ _ (at_row h4 r1), h1.cell _ _ (at_row h4 r2), h1.frozen _, h1.frozen _, h1.frozen _, h3⟩

/-- The limits turned. -/
theorem RD.turned {w w' : World} {dx da cap : Nat} {S : Dk} {a b : Int} (h : RD w dx S da cap) (hb : But dx w w') (hs : Sits w' dx 104 #[sl da S.segs.length cap, .int .i64 a, .int .i64 b]) : RD w' dx ⟨S.segs, a, b⟩ da cap :=
  ⟨hs, fun hne => by
    obtain ⟨cs, h1, h2⟩ := h.arr hne
    exact ⟨cs, h1.but hb (h.apart hne), h2⟩, h.apart⟩

theorem take_set {cs : Array Value} {m j : Nat} {v : Value} : (cs.setIfInBounds j v).toList.take m = (cs.toList.take m).set j v := by
  rw [Array.toList_setIfInBounds, List.take_set]

/-- A segment's text turned. -/
theorem RD.set1 {w : World} {dx da cap k : Nat} {S : Dk} {s : Seg} (h : RD w dx S da cap) (hk : S.segs[k]? = some s) (t : ByteArray) : RD (w.setCell ⟨da, k * 3 + 1, none⟩ (.string t)) dx ⟨S.segs.set k { s with text := t }, S.left, S.room⟩ da cap := by
  have hne : S.segs ≠ [] := fun e => by rw [e] at hk; simp at hk
  obtain ⟨cs, h1, h2, h3, h5, h4⟩ := h.arr hne
  have hd := h.apart hne
  refine ⟨?_, fun _ => ⟨_, h1.set (k * 3 + 1) (.string t), by simpa using h2, by simpa using h3, h5, ?_⟩, fun _ => hd⟩
  · have := h.head.but ((But.refl da w).set (k * 3 + 1) (.string t)) (fun e => hd e.symm)
    simpa using this
  · show List.take ((S.segs.set k _).length * 3) _ = _
    rw [List.length_set, take_set, h4, rows_set1 t hk]

theorem RD.set2 {w : World} {dx da cap k : Nat} {S : Dk} {s : Seg} (h : RD w dx S da cap) (hk : S.segs[k]? = some s) (n : Nat) : RD (w.setCell ⟨da, k * 3 + 2, none⟩ (.int .i64 (n : Int))) dx ⟨S.segs.set k { s with syn := n }, S.left, S.room⟩ da cap := by
  have hne : S.segs ≠ [] := fun e => by rw [e] at hk; simp at hk
  obtain ⟨cs, h1, h2, h3, h5, h4⟩ := h.arr hne
  have hd := h.apart hne
  refine ⟨?_, fun _ => ⟨_, h1.set (k * 3 + 2) (.int .i64 (n : Int)), by simpa using h2, by simpa using h3, h5, ?_⟩, fun _ => hd⟩
  · have := h.head.but ((But.refl da w).set (k * 3 + 2) (.int .i64 (n : Int))) (fun e => hd e.symm)
    simpa using this
  · show List.take ((S.segs.set k _).length * 3) _ = _
    rw [List.length_set, take_set, h4, rows_set2 n hk]

theorem RD.drewN {w : World} {dx da cap : Nat} {S : Dk} (h : RD w dx S da cap) (n : Nat) : RD (w.drewN n) dx S da cap := ⟨h.head, h.arr, h.apart⟩

/-- What is new leaves the disk as it is. -/
theorem RD.keep {w w' : World} {dx da cap : Nat} {S : Dk} (h : RD w dx S da cap) (hb : Below w.heap.size w w') : RD w' dx S da cap :=
  ⟨h.head.below hb h.head.lt, fun hne => by
    obtain ⟨cs, h1, h2⟩ := h.arr hne
    exact ⟨cs, h1.below hb h1.lt, h2⟩, h.apart⟩

theorem may (dx : Nat) (S : Dk) (v : Value) (w : World) (hS : Sits w dx 104 #[v, .int .i64 S.left, .int .i64 S.room]) (hg : -1 ≤ S.left ∧ S.left ≤ 9223372036854775807) :
    Calls Tryz.prog 104 #[.pointer (some ⟨dx, 0, none⟩)] w fun e w' => e = .returned (.bool (!decide (S.left = 0))) ∧ But dx w w' ∧ Sits w' dx 104 #[v, .int .i64 (if S.left = 0 then S else op S).left, .int .i64 S.room] := by
  obtain ⟨c0, c1, c2, f0, f1, f2⟩ := head3 hS
  have HS := hide hS
  clear hS
  by_cases h0 : S.left = 0
  · have h0b : (S.left == 0) = true := by simpa using h0
    go_enter Tryz.func104, Tryz.ntmps104
    go_wp2_with fail
    go_ret
    refine ⟨by simp, But.refl _ _, ?_⟩
    have := HS.out
    rwa [h0] at this
  · have h0b : (S.left == 0) = false := by simpa using h0
    by_cases hp : 0 < S.left
    · go_enter Tryz.func104, Tryz.ntmps104
      go_wp2_with fail
      go_ret
      refine ⟨by simp, (But.refl _ _).set _ _, ?_⟩
      have := HS.out.set 1 (.int .i64 (S.left - 1))
      simpa [op, hp] using this
    · have HE := hide (show (op S).left = S.left from if_neg hp)
      go_enter Tryz.func104, Tryz.ntmps104
      go_wp2_with fail
      go_ret
      refine ⟨by simp, But.refl _ _, ?_⟩
      rw [HE.out]
      exact HS.out

/-- A place as the document tells it. -/
def told (o : Option Nat) : Int := match o with
  | none => -1
  | some k => (k : Int)

theorem where_ (dx da cap : Nat) (S : Dk) (n : Int) (w : World) (hP : RD w dx S da cap) (hl : S.segs.length ≤ 1000000000) :
    Calls Tryz.prog 105 #[.pointer (some ⟨dx, 0, none⟩), .int .i64 n] w fun e w' => w = w' ∧ e = .returned (.int .i64 (told (place n S.segs))) := by
  obtain ⟨c0, c1, c2, f0, f1, f2⟩ := head3 hP.head
  have HP := hide hP
  clear hP
  unfold sl at c0
  by_cases h0 : S.segs.length = 0
  · rw [if_pos h0] at c0
    have hsn : S.segs = [] := List.eq_nil_of_length_eq_zero h0
    have HE := hide (show told (place n S.segs) = -1 by rw [hsn]; rfl)
    clear h0 hsn
    go_enter Tryz.func105, Tryz.ntmps105
    go_wp2_with fail
    go_loopw [5] (fun s5 wr => s5 = .int .i64 0 ∧ wr = w) (fun _ _ => 0)
    case atStart => exact ⟨rfl, rfl⟩
    case round =>
      obtain ⟨rfl, rfl⟩ := hrel
      go_wp2_with fail
      go_ret
      exact ⟨rfl, congrArg (fun z => Ending.returned (.int .i64 z)) HE.out.symm⟩
  · rw [if_neg h0] at c0
    go_enter Tryz.func105, Tryz.ntmps105
    go_wp2_with fail
    go_loopw [5] (fun s5 wr => ∃ k : Nat, s5 = .int .i64 (k : Int) ∧ wr = w ∧ k ≤ S.segs.length ∧ Hid (∀ j t, j < k → S.segs[j]? = some t → t.num ≠ n)) (fun s5 _ => S.segs.length - (intOf s5).toNat)
    case atStart => exact ⟨0, rfl, rfl, by omega, fun j t h => by omega⟩
    case round =>
      obtain ⟨k, rfl, rfl, hk, HB⟩ := hrel
      by_cases hkl : k < S.segs.length
      · have hkz : (k : Int) < (S.segs.length : Int) := by omega
        obtain ⟨s, hs⟩ : ∃ s, S.segs[k]? = some s := ⟨_, List.getElem?_eq_getElem hkl⟩
        obtain ⟨b0, b1, b2, g0, g1, g2, hcap⟩ := HP.out.cells hs
        have HT := hide (show s.num = n → told (place n S.segs) = (k : Int) from fun hn => by rw [place_at HB.out hs hn]; rfl)
        have HF := hide (show ¬ s.num = n → ∀ j t, j < k + 1 → S.segs[j]? = some t → t.num ≠ n from fun hn j t hj ht => by
          by_cases e : j = k
          · subst e
            rw [hs] at ht
            cases ht
            exact hn
          · exact HB.out j t (by omega) ht)
        clear hs
        go_wp2_with fail
        · have hnb : (s.num == n) = true := by assumption
          go_ret
          exact ⟨rfl, congrArg (fun z => Ending.returned (.int .i64 z)) (HT.out (by simpa using hnb)).symm⟩
        · have hnb : (s.num == n) = false := by assumption
          go_roundw
          case rel => exact ⟨k + 1, by go_num, trivial, by omega, HF.out (by simpa using hnb)⟩
          case measure => simp [intOf]; omega
      · have hkz : ¬ (k : Int) < (S.segs.length : Int) := by omega
        have HE := hide (show told (place n S.segs) = -1 by rw [place_not (fun j t ht => HB.out j t (by have := (List.getElem?_eq_some_iff.1 ht).1; omega) ht)]; rfl)
        go_wp2_with fail
        go_ret
        exact ⟨rfl, congrArg (fun z => Ending.returned (.int .i64 z)) HE.out.symm⟩

end Go.Proofs.YtenegfafjjknoaaGreatDoor.Dr

namespace Go.Proofs.YtenegfafjjknoaaGreatDoor.Dr
open Go.RowKit Mem Foot Dm Dh

/-- The blocks of the disk. -/
def rf (dx da : Nat) : List Seg → List Nat
  | [] => [dx]
  | _ :: _ => [dx, da]

theorem rf_head (dx da : Nat) (l : List Seg) : dx ∈ rf dx da l := by
  cases l <;> simp [rf]

theorem rf_arr {dx da : Nat} {l : List Seg} (h : l ≠ []) : da ∈ rf dx da l := by
  cases l with
  | nil => exact absurd rfl h
  | cons s l => simp [rf]

theorem rf_sub {dx da g B : Nat} {l l' : List Seg} (h : g ∈ rf dx da l ∨ B ≤ g) : ∀ b ∈ rf dx g l', b ∈ rf dx da l ∨ B ≤ b := by
  intro b hb
  cases l' with
  | nil =>
    rw [rf, List.mem_singleton] at hb
    rw [hb]
    exact Or.inl (rf_head ..)
  | cons s m =>
    rw [rf, List.mem_cons, List.mem_singleton] at hb
    rcases hb with e | e
    · rw [e]
      exact Or.inl (rf_head ..)
    · rw [e]
      exact h

theorem ne_of_get {l : List Seg} {k : Nat} {s : Seg} (h : l[k]? = some s) : l ≠ [] := fun e => by rw [e] at h; simp at h

theorem new (w : World) : Calls Tryz.prog 27 #[] w fun e w' => e = .returned (.pointer (some ⟨w.heap.size, 0, none⟩)) ∧ w' = w.alloc (.cells #[.slice none 0 0, .int .i64 (-1), .int .i64 (-1)] 104) := by
  go_enter Tryz.func27, Tryz.ntmps27
  go_wp2_with fail
  go_ret
  exact ⟨rfl, rfl⟩

theorem fresh_new (w : World) : RD (w.alloc (.cells #[.slice none 0 0, .int .i64 (-1), .int .i64 (-1)] 104)) w.heap.size fresh (w.heap.size + 1) 0 :=
  ⟨Sits.new _ _ _, fun h => absurd rfl h, fun h => absurd rfl h⟩

theorem sync (dx da cap : Nat) (S : Dk) (n : Int) (w : World) (hP : RD w dx S da cap) (hG : Dm.Good S) (hl : S.segs.length ≤ 1000000000) :
    Calls Tryz.prog 51 #[.pointer (some ⟨dx, 0, none⟩), .int .i64 n] w fun e w' => e = .returned (.int .i64 (doSync S n).2) ∧ Off (rf dx da S.segs) w w' ∧ RD w' dx (doSync S n).1 da cap := by
  have HP := hide hP
  have HG := hide hG
  clear hP hG
  go_enter Tryz.func51, Tryz.ntmps51
  go_wp2_with fail
  refine (may dx S _ w HP.out.head HG.out.left).mono ?_
  rintro e w1 ⟨rfl, hb1, hs1⟩
  by_cases h0 : S.left = 0
  · have hd : decide (S.left = 0) = true := decide_eq_true h0
    have HE := hide (show doSync S n = (S, 8) from if_pos h0)
    rw [if_pos h0] at hs1
    have HQ := hide (HP.out.turned hb1 hs1)
    have HB := hide hb1
    clear hb1 hs1 h0
    rw [hd]
    go_wp2_with fail
    go_ret
    rw [HE.out]
    exact ⟨rfl, Off.of_but HB.out (rf_head ..), HQ.out⟩
  · have hd : decide (S.left = 0) = false := decide_eq_false h0
    rw [op_left h0] at hs1
    have HQ := hide (HP.out.turned hb1 hs1)
    have HB := hide hb1
    have H0 := hide h0
    clear hb1 hs1 h0
    rw [hd]
    go_wp2_with fail
    refine (where_ dx da cap (op S) n w1 HQ.out hl).mono ?_
    rintro e w2 ⟨rfl, rfl⟩
    cases hp : place n S.segs with
    | none =>
      have HE := hide (show doSync S n = (op S, 9) by rw [doSync, if_neg H0.out, hp])
      rw [show told (place n (op S).segs) = -1 from congrArg told hp]
      clear hp
      go_wp2_with fail
      go_ret
      rw [HE.out]
      exact ⟨rfl, Off.of_but HB.out (rf_head ..), HQ.out⟩
    | some k =>
      obtain ⟨s, hs, hn⟩ := place_some hp
      have HE := hide (show doSync S n = (⟨S.segs.set k { s with syn := s.text.size }, (op S).left, S.room⟩, 0) by rw [doSync, if_neg H0.out, hp, turn_set HG.out.rise hs hn]; rfl)
      rw [show told (place n (op S).segs) = (k : Int) from congrArg told hp]
      obtain ⟨b0, b1, b2, g0, g1, g2, hcap⟩ := HQ.out.cells hs
      obtain ⟨c0, c1, c2, f0, f1, f2⟩ := head3 HQ.out.head
      have hkl : k < (op S).segs.length := (List.getElem?_eq_some_iff.1 hs).1
      have hkl2 : k < S.segs.length := hkl
      rw [sl, if_neg (by show ¬ S.segs.length = 0; omega)] at c0
      have HS := hide hs
      clear hp hs hn
      go_wp2_with fail
      go_region
      all_goals
        go_wp2_with fail
        go_ret
        rw [HE.out]
        exact ⟨rfl, ((Off.of_but HB.out (rf_head ..)).drewN 1).set (rf_arr (ne_of_get HS.out)) _ _, (HQ.out.drewN 1).set2 HS.out s.text.size⟩

theorem read (dx da cap : Nat) (S : Dk) (n : Int) (w : World) (hP : RD w dx S da cap) (hl : S.segs.length ≤ 1000000000) :
    Calls Tryz.prog 49 #[.pointer (some ⟨dx, 0, none⟩), .int .i64 n] w fun e w' => e = .returned (.tuple #[.string (doRead S n).1, .int .i64 (doRead S n).2]) ∧ w = w' := by
  obtain ⟨c0, c1, c2, f0, f1, f2⟩ := head3 hP.head
  have HP := hide hP
  clear hP
  by_cases h0 : S.left = 0
  · have h0b : (S.left == 0) = true := by simpa using h0
    have HE := hide (show doRead S n = (⟨#[]⟩, 8) from if_pos h0)
    go_enter Tryz.func49, Tryz.ntmps49
    go_wp2_with fail
    go_ret2
    rw [HE.out]
    exact ⟨rfl, rfl⟩
  · have h0b : (S.left == 0) = false := by simpa using h0
    have H0 := hide h0
    clear h0
    go_enter Tryz.func49, Tryz.ntmps49
    go_wp2_with fail
    refine (where_ dx da cap S n w HP.out hl).mono ?_
    rintro e w2 ⟨rfl, rfl⟩
    cases hp : place n S.segs with
    | none =>
      have HE := hide (show doRead S n = (⟨#[]⟩, 9) by rw [doRead, if_neg H0.out, hp])
      rw [show told none = -1 from rfl]
      clear hp
      go_wp2_with fail
      go_ret2
      rw [HE.out]
      exact ⟨rfl, rfl⟩
    | some k =>
      obtain ⟨s, hs, hn⟩ := place_some hp
      have HE := hide (show doRead S n = (s.text, 0) by rw [doRead, if_neg H0.out, hp]; show (((S.segs[k]?).map (·.text)).getD ⟨#[]⟩, (0 : Int)) = _; rw [hs]; rfl)
      rw [show told (some k) = (k : Int) from rfl]
      obtain ⟨b0, b1, b2, g0, g1, g2, hcap⟩ := HP.out.cells hs
      have hkl : k < S.segs.length := (List.getElem?_eq_some_iff.1 hs).1
      rw [sl, if_neg (by omega)] at c0
      clear hp hs hn
      go_wp2_with fail
      go_ret2
      rw [HE.out]
      exact ⟨rfl, rfl⟩

theorem limit (dx da cap : Nat) (S : Dk) (a b : Int) (w : World) (hP : RD w dx S da cap) :
    Calls Tryz.prog 58 #[.pointer (some ⟨dx, 0, none⟩), .int .i64 a, .int .i64 b] w fun e w' => e = .returned (.tuple #[]) ∧ But dx w w' ∧ RD w' dx (doLimit S a b) da cap := by
  obtain ⟨c0, c1, c2, f0, f1, f2⟩ := head3 hP.head
  have HP := hide hP
  clear hP
  by_cases ha : a < 0 <;> by_cases hb : b < 0
  · have HE := hide (show doLimit S a b = ⟨S.segs, -1, -1⟩ by rw [doLimit, if_pos ha, if_pos hb])
    go_enter Tryz.func58, Tryz.ntmps58
    go_wp2_with fail
    go_end0
    rw [HE.out]
    have hB := (((But.refl dx w).set 1 (.int .i64 a)).set 1 (.int .i64 (-1))).set 2 (.int .i64 b) |>.set 2 (.int .i64 (-1))
    exact ⟨rfl, hB, HP.out.turned hB ((((HP.out.head.set 1 _).set 1 _).set 2 _).set 2 _)⟩
  · have HE := hide (show doLimit S a b = ⟨S.segs, -1, b⟩ by rw [doLimit, if_pos ha, if_neg hb])
    go_enter Tryz.func58, Tryz.ntmps58
    go_wp2_with fail
    go_end0
    rw [HE.out]
    have hB := (((But.refl dx w).set 1 (.int .i64 a)).set 1 (.int .i64 (-1))).set 2 (.int .i64 b)
    exact ⟨rfl, hB, HP.out.turned hB (((HP.out.head.set 1 _).set 1 _).set 2 _)⟩
  · have HE := hide (show doLimit S a b = ⟨S.segs, a, -1⟩ by rw [doLimit, if_neg ha, if_pos hb])
    go_enter Tryz.func58, Tryz.ntmps58
    go_wp2_with fail
    go_end0
    rw [HE.out]
    have hB := ((But.refl dx w).set 1 (.int .i64 a)).set 2 (.int .i64 b) |>.set 2 (.int .i64 (-1))
    exact ⟨rfl, hB, HP.out.turned hB (((HP.out.head.set 1 _).set 2 _).set 2 _)⟩
  · have HE := hide (show doLimit S a b = ⟨S.segs, a, b⟩ by rw [doLimit, if_neg ha, if_neg hb])
    go_enter Tryz.func58, Tryz.ntmps58
    go_wp2_with fail
    go_end0
    rw [HE.out]
    have hB := ((But.refl dx w).set 1 (.int .i64 a)).set 2 (.int .i64 b)
    exact ⟨rfl, hB, HP.out.turned hB ((HP.out.head.set 1 _).set 2 _)⟩

end Go.Proofs.YtenegfafjjknoaaGreatDoor.Dr

namespace Go.Proofs.YtenegfafjjknoaaGreatDoor.Dr
open Go.RowKit Mem Foot Dm Dh

theorem set_get {l : List Seg} {k : Nat} {s t : Seg} (h : l[k]? = some s) : (l.set k t)[k]? = some t := by
  rw [List.getElem?_set, if_pos rfl, if_pos (List.getElem?_eq_some_iff.1 h).1]

theorem truncate (dx da cap : Nat) (S : Dk) (n m : Int) (w : World) (hP : RD w dx S da cap) (hG : Dm.Good S) (hl : S.segs.length ≤ 1000000000) :
    Calls Tryz.prog 53 #[.pointer (some ⟨dx, 0, none⟩), .int .i64 n, .int .i64 m] w fun e w' => e = .returned (.int .i64 (doTrunc S n m).2) ∧ Off (rf dx da S.segs) w w' ∧ RD w' dx (doTrunc S n m).1 da cap := by
  have HP := hide hP
  have HG := hide hG
  clear hP hG
  go_enter Tryz.func53, Tryz.ntmps53
  go_wp2_with fail
  refine (may dx S _ w HP.out.head HG.out.left).mono ?_
  rintro e w1 ⟨rfl, hb1, hs1⟩
  by_cases h0 : S.left = 0
  · have hd : decide (S.left = 0) = true := decide_eq_true h0
    have HE := hide (show doTrunc S n m = (S, 8) from if_pos h0)
    rw [if_pos h0] at hs1
    have HQ := hide (HP.out.turned hb1 hs1)
    have HB := hide hb1
    clear hb1 hs1 h0
    rw [hd]
    go_wp2_with fail
    go_ret
    rw [HE.out]
    exact ⟨rfl, Off.of_but HB.out (rf_head ..), HQ.out⟩
  · have hd : decide (S.left = 0) = false := decide_eq_false h0
    rw [op_left h0] at hs1
    have HQ := hide (HP.out.turned hb1 hs1)
    have HB := hide hb1
    have H0 := hide h0
    clear hb1 hs1 h0
    rw [hd]
    go_wp2_with fail
    refine (where_ dx da cap (op S) n w1 HQ.out hl).mono ?_
    rintro e w2 ⟨rfl, rfl⟩
    cases hp : place n S.segs with
    | none =>
      have HE := hide (show doTrunc S n m = (op S, 9) by rw [doTrunc, if_neg H0.out, hp])
      rw [show told (place n (op S).segs) = -1 from congrArg told hp]
      clear hp
      go_wp2_with fail
      go_ret
      rw [HE.out]
      exact ⟨rfl, Off.of_but HB.out (rf_head ..), HQ.out⟩
    | some k =>
      obtain ⟨s, hs, hn⟩ := place_some hp
      rw [show told (place n (op S).segs) = (k : Int) from congrArg told hp]
      obtain ⟨b0, b1, b2, g0, g1, g2, hcap⟩ := HQ.out.cells hs
      obtain ⟨c0, c1, c2, f0, f1, f2⟩ := head3 HQ.out.head
      have hkl : k < (op S).segs.length := (List.getElem?_eq_some_iff.1 hs).1
      have hkl2 : k < S.segs.length := hkl
      rw [sl, if_neg (by show ¬ S.segs.length = 0; omega)] at c0
      have HS := hide hs
      have hgd : ((S.segs[k]?).map (fun s => (s.text.size : Int))).getD (-1) = (s.text.size : Int) := by rw [hs]; rfl
      have hd2 : doTrunc S n m = if 0 ≤ m ∧ m ≤ (s.text.size : Int) then (⟨S.segs.set k { s with text := s.text.extract 0 m.toNat, syn := min s.syn m.toNat }, (op S).left, S.room⟩, 0) else (op S, 9) := by
        rw [doTrunc, if_neg H0.out, hp]
        show (if 0 ≤ m ∧ m ≤ ((S.segs[k]?).map (fun s => (s.text.size : Int))).getD (-1) then _ else _) = _
        rw [hgd, turn_set HG.out.rise hs hn]
        rfl
      have HD2 := hide hd2
      clear hp hs hn hgd hd2
      by_cases h1 : m < 0
      · have HE := hide (show doTrunc S n m = (op S, 9) by rw [HD2.out, if_neg (by omega)])
        go_wp2_with fail
        go_ret
        rw [HE.out]
        exact ⟨rfl, Off.of_but HB.out (rf_head ..), HQ.out⟩
      · by_cases h2 : (s.text.size : Int) < m
        · have HE := hide (show doTrunc S n m = (op S, 9) by rw [HD2.out, if_neg (by omega)])
          go_wp2_with fail
          go_ret
          rw [HE.out]
          exact ⟨rfl, Off.of_but HB.out (rf_head ..), HQ.out⟩
        · obtain ⟨j, rfl⟩ : ∃ j : Nat, m = (j : Int) := ⟨m.toNat, by omega⟩
          have h3 : j ≤ s.text.size := by omega
          have HD := hide (show doTrunc S n (j : Int) = (⟨S.segs.set k { s with text := s.text.extract 0 j, syn := min s.syn j }, (op S).left, S.room⟩, 0) by rw [HD2.out, if_pos (by omega)]; rfl)
          clear HD2
          have HO := hide (((Off.of_but HB.out (rf_head dx da S.segs)).drewN 1).set (rf_arr (ne_of_get HS.out)) (k * 3 + 1) (.string (s.text.extract 0 j)))
          have HR := hide ((HQ.out.drewN 1).set1 HS.out (s.text.extract 0 j))
          by_cases h4 : j < s.syn
          · have h4z : (j : Int) < (s.syn : Int) := by omega
            have HE := hide (show doTrunc S n (j : Int) = (⟨S.segs.set k { s with text := s.text.extract 0 j, syn := j }, (op S).left, S.room⟩, 0) by rw [HD.out, Nat.min_eq_right (by omega)])
            go_wp2_with fail
            go_region
            all_goals
              go_wp2_with fail
              go_ret
              rw [HE.out]
              refine ⟨rfl, HO.out.set (rf_arr (ne_of_get HS.out)) _ _, ?_⟩
              have := HR.out.set2 (set_get HS.out) j
              rw [List.set_set] at this
              exact this
          · have h4z : ¬ (j : Int) < (s.syn : Int) := by omega
            have HE := hide (show doTrunc S n (j : Int) = (⟨S.segs.set k { s with text := s.text.extract 0 j, syn := s.syn }, (op S).left, S.room⟩, 0) by rw [HD.out, Nat.min_eq_left (by omega)])
            go_wp2_with fail
            go_region
            all_goals
              go_wp2_with fail
              go_ret
              rw [HE.out]
              exact ⟨rfl, HO.out, HR.out⟩

theorem list (dx da cap : Nat) (S : Dk) (w : World) (hP : RD w dx S da cap) (hl : S.segs.length ≤ 1000000000) :
    Calls Tryz.prog 107 #[.pointer (some ⟨dx, 0, none⟩)] w fun e w' => ∃ v, e = .returned (.tuple #[v, .int .i64 (doList S).2]) ∧ w'.ownsRow w.heap.size 3 1 v (doList S).1.length ((doList S).1.map (Value.int .i64)) ∧ Below w.heap.size w w' := by
  obtain ⟨c0, c1, c2, f0, f1, f2⟩ := head3 hP.head
  have HP := hide hP
  clear hP
  by_cases hd : S.left = 0
  · have hdb : (S.left == 0) = true := by simpa using hd
    have HE := hide (show doList S = ([], 8) from if_pos hd)
    go_enter Tryz.func107, Tryz.ntmps107
    go_wp2_with fail
    go_ret2
    rw [HE.out]
    exact ⟨_, rfl, World.ownsRow_nil _ _ _ _, Below.refl _ _⟩
  · have hdb : (S.left == 0) = false := by simpa using hd
    have HE := hide (show doList S = (S.segs.map (·.num), 0) from if_neg hd)
    clear hd
    obtain ⟨i0, hi, hz0, hz1, hz2⟩ := info_parts hiInt
    go_enter Tryz.func107, Tryz.ntmps107
    go_wp2_with fail
    go_loopw [4, 5] (fun s4 s5 wr => ∃ (k : Nat) (ao : Option Addr) (cv : Nat), s4 = .slice ao k cv ∧ s5 = .int .i64 (k : Int) ∧ k ≤ S.segs.length ∧ wr.ownsRow w.heap.size 3 1 (.slice ao k cv) k ((S.segs.take k).map fun s => Value.int .i64 s.num) ∧ Below w.heap.size w wr) (fun _ s5 _ => S.segs.length - (intOf s5).toNat)
    case atStart => exact ⟨0, none, 0, rfl, rfl, by omega, World.ownsRow_nil _ _ _ _, Below.refl _ _⟩
    case round =>
      clear c0 c1 c2 f0 f1 f2
      obtain ⟨k, ao, cv, rfl, rfl, hk, hown, hbel⟩ := hrel
      have hsize := hbel.size
      have hPr := HP.out.keep hbel
      obtain ⟨c0, c1, c2, f0, f1, f2⟩ := head3 hPr.head
      by_cases hkl : k < S.segs.length
      · have hkz : (k : Int) < (S.segs.length : Int) := by omega
        obtain ⟨s, hs⟩ : ∃ s, S.segs[k]? = some s := ⟨_, List.getElem?_eq_getElem hkl⟩
        obtain ⟨b0, b1, b2, g0, g1, g2, hcap⟩ := hPr.cells hs
        rw [sl, if_neg (by omega)] at c0
        have HT := hide (show (S.segs.take k).map (fun s => Value.int .i64 s.num) ++ [.int .i64 s.num] = (S.segs.take (k + 1)).map (fun s => Value.int .i64 s.num) by rw [List.take_add_one, hs, List.map_append]; rfl)
        clear hs hPr
        go_wp2_with (at_builtin; refine wpList_append_own _ rfl _ _ 48 rfl w.heap.size 3 i0 (.int .i64 0) 1 8 Tryz.underlying48 hi hz0 hz1 hz2 rfl (by decide) _ _ _ rfl (hown.alloc _) ⟨wr.heap.size, 0, none⟩ 1 1 [.int .i64 s.num] rfl rfl (cell_one_new _ _ _) (fun x hx => by simp at hx; subst hx; rfl) (by unfold maxLen; omega) (by omega) (by simp; omega) ?_; intro v2 w2 hown2 hg2 hn2)
        obtain ⟨ao2, cv2, rfl⟩ := Own.shape hown2
        go_roundw
        case rel => exact ⟨k + 1, ao2, cv2, rfl, by go_num, by omega, by rw [← HT.out]; exact hown2, Own.below_more hbel hsize hown hg2⟩
        case measure => simp [intOf]; omega
      · have hkz : ¬ (k : Int) < (S.segs.length : Int) := by omega
        obtain rfl : k = S.segs.length := by omega
        have HO := hide hown
        have HB := hide hbel
        clear hown hbel hPr
        unfold sl at c0
        by_cases hz : S.segs.length = 0
        · rw [if_pos hz] at c0
          have hzz : (S.segs.length : Int) = 0 := by omega
          go_wp2_with fail
          go_ret2
          rw [HE.out]
          refine ⟨_, rfl, ?_, HB.out⟩
          have := HO.out
          rw [List.take_length, hz] at this
          show wr.ownsRow w.heap.size 3 1 _ (S.segs.map (·.num)).length ((S.segs.map (·.num)).map (Value.int .i64))
          rw [List.map_map, List.length_map, hz]
          exact this
        · rw [if_neg hz] at c0
          go_wp2_with fail
          go_ret2
          rw [HE.out]
          refine ⟨_, rfl, ?_, HB.out⟩
          have := HO.out
          rw [List.take_length] at this
          show wr.ownsRow w.heap.size 3 1 _ (S.segs.map (·.num)).length ((S.segs.map (·.num)).map (Value.int .i64))
          rw [List.map_map, List.length_map]
          exact this

end Go.Proofs.YtenegfafjjknoaaGreatDoor.Dr

namespace Go.Proofs.YtenegfafjjknoaaGreatDoor.Dr
open Go.RowKit Mem Foot Dm Dh

theorem tornTo_length (t : Int) (k : Nat) (l : List Seg) : (tornTo t k l).length = l.length := by
  simp [tornTo]
  omega

set_option maxHeartbeats 2000000 in
theorem crash (dx da cap : Nat) (S : Dk) (t : Int) (w : World) (hP : RD w dx S da cap) (hG : Dm.Good S) (hl : S.segs.length ≤ 1000000000) (hz : ∀ s ∈ S.segs, s.text.size ≤ 1000000000000) :
    Calls Tryz.prog 60 #[.pointer (some ⟨dx, 0, none⟩), .int .i64 t] w fun e w' => e = .returned (.tuple #[]) ∧ Off (rf dx da S.segs) w w' ∧ RD w' dx (doCrash S t) da cap := by
  have HP := hide hP
  have HG := hide hG
  have HZ := hide hz
  clear hP hG hz
  obtain ⟨u, hu⟩ : ∃ u : Nat, (u : Int) = (if t < 0 then 0 else t) := ⟨(if t < 0 then 0 else t).toNat, by split <;> omega⟩
  have HE := hide (show doCrash S t = ⟨S.segs.map (torn (u : Int)), -1, -1⟩ by rw [doCrash, ← hu])
  by_cases ht0 : t < 0
  · rw [if_pos ht0] at hu
    have HU := hide hu
    clear hu
    go_enter Tryz.func60, Tryz.ntmps60
    go_wp2_with fail
    rw [← HU.out]
    go_loopw [4] (fun s4 wr => ∃ k : Nat, s4 = .int .i64 (k : Int) ∧ k ≤ S.segs.length ∧ Hid (RD wr dx ⟨tornTo (u : Int) k S.segs, S.left, S.room⟩ da cap ∧ Off (rf dx da S.segs) w wr)) (fun s4 _ => S.segs.length - (intOf s4).toNat)
    case atStart => exact ⟨0, by rw [HU.out]; rfl, by omega, HP.out, Off.refl _ _⟩
    case round =>
      obtain ⟨k, rfl, hk, HR⟩ := hrel
      obtain ⟨c0, c1, c2, f0, f1, f2⟩ := head3 HR.out.1.head
      rw [show (⟨tornTo (u : Int) k S.segs, S.left, S.room⟩ : Dk).segs.length = S.segs.length from tornTo_length _ _ _] at c0
      unfold sl at c0
      by_cases hkl : k < S.segs.length
      · have hkz : (k : Int) < (S.segs.length : Int) := by omega
        rw [if_neg (by omega)] at c0
        obtain ⟨s, hs⟩ : ∃ s, S.segs[k]? = some s := ⟨_, List.getElem?_eq_getElem hkl⟩
        obtain ⟨b0, b1, b2, g0, g1, g2, hcap⟩ := HR.out.1.cells (tornTo_get hs)
        have hcap2 : S.segs.length ≤ cap := by rw [← tornTo_length (u : Int) k S.segs]; exact hcap
        have hsy := HG.out.syn s (List.mem_of_getElem? hs)
        have hsz := HZ.out s (List.mem_of_getElem? hs)
        have HT := hide (tornTo_set (t := (u : Int)) hs)
        have HS := hide hs
        have hdx := HR.out.1.head.lt
        have hda : da < wr.heap.size := World.block_lt_of_cell? wr _ b0
        have hne : da ≠ dx := HR.out.1.apart (ne_of_get (tornTo_get hs))
        clear hs hcap
        by_cases ht : (u : Int) < (s.text.size : Int) - (s.syn : Int)
        · have HTN := hide (show torn (u : Int) s = { s with text := s.text.extract 0 (s.syn + u), syn := s.syn + u } from if_pos ht)
          go_wp2_with fail
          go_region
          all_goals go_wp2_with fail
          all_goals go_region
          all_goals go_wp2_with fail
          have hmin : min (s.syn + u) s.text.size = s.syn + u := by omega
          rw [hmin]
          have hmem := rf_arr (dx := dx) (da := da) (ne_of_get HS.out)
          refine ⟨⟨k + 1, by go_num, by omega, ?_, ((((HR.out.2.set hmem _ _).set hmem _ _).alloc _).drewN 2)⟩, by simp [intOf]; omega⟩
          have hq := (HR.out.1.set1 (tornTo_get HS.out) (s.text.extract 0 (s.syn + u))).set2 (set_get (tornTo_get HS.out)) (s.syn + u)
          rw [List.set_set] at hq
          rw [← HTN.out, HT.out] at hq
          exact (hq.keep (below_new _)).drewN 2
        · have HTN := hide (show torn (u : Int) s = { s with syn := s.text.size } from if_neg ht)
          go_wp2_with fail
          go_region
          all_goals go_wp2_with fail
          have hmem := rf_arr (dx := dx) (da := da) (ne_of_get HS.out)
          refine ⟨⟨k + 1, by go_num, by omega, ?_, (((HR.out.2.set hmem _ _).alloc _).drewN 1)⟩, by simp [intOf]; omega⟩
          have hq := HR.out.1.set2 (tornTo_get HS.out) s.text.size
          rw [← HTN.out, HT.out] at hq
          exact (hq.keep (below_new _)).drewN 1
      · have hkz : ¬ (k : Int) < (S.segs.length : Int) := by omega
        obtain rfl : k = S.segs.length := by omega
        have hR2 := HR.out.1
        rw [tornTo_all] at hR2
        have HR2 := hide hR2
        clear hR2
        have hB := ((But.refl dx wr).set 1 (.int .i64 (-1))).set 2 (.int .i64 (-1))
        have HOUT := hide (show Off (rf dx da S.segs) w _ ∧ RD _ dx ⟨S.segs.map (torn (u : Int)), -1, -1⟩ da cap from ⟨HR.out.2.trans (Off.of_but hB (rf_head ..)), HR2.out.turned hB ((HR2.out.head.set 1 _).set 2 _)⟩)
        clear hB
        by_cases hzz : S.segs.length = 0
        · rw [if_pos hzz] at c0
          have hzi : (S.segs.length : Int) = 0 := by omega
          go_wp2_with fail
          go_end0
          rw [HE.out]
          exact ⟨rfl, HOUT.out⟩
        · rw [if_neg hzz] at c0
          go_wp2_with fail
          go_end0
          rw [HE.out]
          exact ⟨rfl, HOUT.out⟩
  · rw [if_neg ht0] at hu
    subst hu
    clear ht0
    go_enter Tryz.func60, Tryz.ntmps60
    go_wp2_with fail
    go_loopw [4] (fun s4 wr => ∃ k : Nat, s4 = .int .i64 (k : Int) ∧ k ≤ S.segs.length ∧ Hid (RD wr dx ⟨tornTo (u : Int) k S.segs, S.left, S.room⟩ da cap ∧ Off (rf dx da S.segs) w wr)) (fun s4 _ => S.segs.length - (intOf s4).toNat)
    case atStart => exact ⟨0, rfl, by omega, HP.out, Off.refl _ _⟩
    case round =>
      obtain ⟨k, rfl, hk, HR⟩ := hrel
      obtain ⟨c0, c1, c2, f0, f1, f2⟩ := head3 HR.out.1.head
      rw [show (⟨tornTo (u : Int) k S.segs, S.left, S.room⟩ : Dk).segs.length = S.segs.length from tornTo_length _ _ _] at c0
      unfold sl at c0
      by_cases hkl : k < S.segs.length
      · have hkz : (k : Int) < (S.segs.length : Int) := by omega
        rw [if_neg (by omega)] at c0
        obtain ⟨s, hs⟩ : ∃ s, S.segs[k]? = some s := ⟨_, List.getElem?_eq_getElem hkl⟩
        obtain ⟨b0, b1, b2, g0, g1, g2, hcap⟩ := HR.out.1.cells (tornTo_get hs)
        have hcap2 : S.segs.length ≤ cap := by rw [← tornTo_length (u : Int) k S.segs]; exact hcap
        have hsy := HG.out.syn s (List.mem_of_getElem? hs)
        have hsz := HZ.out s (List.mem_of_getElem? hs)
        have HT := hide (tornTo_set (t := (u : Int)) hs)
        have HS := hide hs
        have hdx := HR.out.1.head.lt
        have hda : da < wr.heap.size := World.block_lt_of_cell? wr _ b0
        have hne : da ≠ dx := HR.out.1.apart (ne_of_get (tornTo_get hs))
        clear hs hcap
        by_cases ht : (u : Int) < (s.text.size : Int) - (s.syn : Int)
        · have HTN := hide (show torn (u : Int) s = { s with text := s.text.extract 0 (s.syn + u), syn := s.syn + u } from if_pos ht)
          go_wp2_with fail
          go_region
          all_goals go_wp2_with fail
          all_goals go_region
          all_goals go_wp2_with fail
          have hmin : min (s.syn + u) s.text.size = s.syn + u := by omega
          rw [hmin]
          have hmem := rf_arr (dx := dx) (da := da) (ne_of_get HS.out)
          refine ⟨⟨k + 1, by go_num, by omega, ?_, ((((HR.out.2.set hmem _ _).set hmem _ _).alloc _).drewN 2)⟩, by simp [intOf]; omega⟩
          have hq := (HR.out.1.set1 (tornTo_get HS.out) (s.text.extract 0 (s.syn + u))).set2 (set_get (tornTo_get HS.out)) (s.syn + u)
          rw [List.set_set] at hq
          rw [← HTN.out, HT.out] at hq
          exact (hq.keep (below_new _)).drewN 2
        · have HTN := hide (show torn (u : Int) s = { s with syn := s.text.size } from if_neg ht)
          go_wp2_with fail
          go_region
          all_goals go_wp2_with fail
          have hmem := rf_arr (dx := dx) (da := da) (ne_of_get HS.out)
          refine ⟨⟨k + 1, by go_num, by omega, ?_, (((HR.out.2.set hmem _ _).alloc _).drewN 1)⟩, by simp [intOf]; omega⟩
          have hq := HR.out.1.set2 (tornTo_get HS.out) s.text.size
          rw [← HTN.out, HT.out] at hq
          exact (hq.keep (below_new _)).drewN 1
      · have hkz : ¬ (k : Int) < (S.segs.length : Int) := by omega
        obtain rfl : k = S.segs.length := by omega
        have hR2 := HR.out.1
        rw [tornTo_all] at hR2
        have HR2 := hide hR2
        clear hR2
        have hB := ((But.refl dx wr).set 1 (.int .i64 (-1))).set 2 (.int .i64 (-1))
        have HOUT := hide (show Off (rf dx da S.segs) w _ ∧ RD _ dx ⟨S.segs.map (torn (u : Int)), -1, -1⟩ da cap from ⟨HR.out.2.trans (Off.of_but hB (rf_head ..)), HR2.out.turned hB ((HR2.out.head.set 1 _).set 2 _)⟩)
        clear hB
        by_cases hzz : S.segs.length = 0
        · rw [if_pos hzz] at c0
          have hzi : (S.segs.length : Int) = 0 := by omega
          go_wp2_with fail
          go_end0
          rw [HE.out]
          exact ⟨rfl, HOUT.out⟩
        · rw [if_neg hzz] at c0
          go_wp2_with fail
          go_end0
          rw [HE.out]
          exact ⟨rfl, HOUT.out⟩

end Go.Proofs.YtenegfafjjknoaaGreatDoor.Dr

namespace Go.Proofs.YtenegfafjjknoaaGreatDoor.Dr
open Go.RowKit Mem Foot Dm Dh

/-- The first k but the i-th. -/
def kept (i k : Nat) (l : List Seg) : List Seg := (l.take k).eraseIdx i

theorem kept_zero (i : Nat) (l : List Seg) : kept i 0 l = [] := by simp [kept]

theorem kept_skip {i : Nat} {l : List Seg} (h : i < l.length) : kept i (i + 1) l = kept i i l := by
  rw [kept, kept, List.eraseIdx_of_length_le (l := l.take i) (by simp; omega), List.take_add_one, List.getElem?_eq_getElem h, List.eraseIdx_append_of_length_le (by simp; omega)]
  have : i - (l.take i).length = 0 := by simp; omega
  rw [this]
  simp

theorem kept_more {i k : Nat} {l : List Seg} {s : Seg} (hs : l[k]? = some s) (hne : k ≠ i) : kept i (k + 1) l = kept i k l ++ [s] := by
  have hk := (List.getElem?_eq_some_iff.1 hs).1
  rw [kept, kept, List.take_add_one, hs]
  by_cases h : i < k
  · rw [List.eraseIdx_append_of_lt_length (by simp; omega)]
    rfl
  · rw [List.eraseIdx_of_length_le (l := l.take k) (by simp; omega), List.eraseIdx_of_length_le (by simp; omega)]
    rfl

theorem kept_all (i : Nat) (l : List Seg) : kept i l.length l = l.eraseIdx i := by rw [kept, List.take_length]

theorem kept_le (i k : Nat) (l : List Seg) : (kept i k l).length ≤ l.length := by
  refine Nat.le_trans (List.eraseIdx_sublist ..).length_le ?_
  simp
  omega

theorem hiSeg : (Tryz.prog.info? 153).map (fun i => (i.zero, i.size, i.bytes)) = some (some (.agg #[.int .i64 0, .string ByteArray.empty, .int .i64 0]), 3, 32) := by kernel_rfl

theorem cell_three_new (w : World) (x y z : Value) (t : TypeId) : ∀ (j : Nat) u, [x, y, z][j]? = some u → (w.alloc (.cells #[x, y, z] t)).cell? ((⟨w.heap.size, 0, none⟩ : Addr).add j) = some u := by
  intro j u h
  rw [Addr.add_lit, Nat.zero_add]
  exact (Sits.new w t #[x, y, z]).cell j u (by simpa using h)

/-- A new array laid into the disk. -/
theorem laid {w : World} {dx base n : Nat} {v0 v : Value} {l : List Seg} {a b : Int} (hX : Sits w dx 104 #[v0, .int .i64 a, .int .i64 b]) (ho : w.ownsRow base 153 3 v n (rows l)) (hn : n = l.length) (h0 : n = 0 → v = .slice none 0 0) (hdx : dx < base) :
    ∃ da cap, RD (w.setCell ⟨dx, 0, none⟩ v) dx ⟨l, a, b⟩ da cap ∧ base ≤ da ∧ (l ≠ [] → v = .slice (some ⟨da, 0, none⟩) n cap) := by
  subst hn
  rcases ho.2 with ⟨hv, h⟩ | ⟨g, cap, cur, hv, hb, hg, hnc, hm, hcs, htk⟩
  · have hl : l = [] := List.eq_nil_of_length_eq_zero h
    subst hl
    refine ⟨base, 0, ⟨?_, fun e => absurd rfl e, fun e => absurd rfl e⟩, Nat.le_refl _, fun e => absurd rfl e⟩
    rw [hv]
    exact hX.set 0 _
  · by_cases hz : l.length = 0
    · have := h0 hz
      rw [this] at hv
      cases hv
    · refine ⟨g, cap, ⟨?_, fun _ => ⟨cur, Sits.but (b := dx) (w := w) hg ((But.refl dx w).set _ _) (by omega), hcs, hnc, hm, htk⟩, fun _ => by omega⟩, hb, fun _ => hv⟩
      have e : sl g l.length cap = v := by rw [sl, if_neg hz, hv]
      show Sits _ dx _ #[sl g l.length cap, _, _]
      rw [e]
      exact hX.set 0 _

set_option maxRecDepth 10000 in
set_option maxHeartbeats 1000000 in
theorem delete (dx da cap : Nat) (S : Dk) (n : Int) (w : World) (hP : RD w dx S da cap) (hG : Dm.Good S) (hl : S.segs.length ≤ 1000000000) :
    Calls Tryz.prog 55 #[.pointer (some ⟨dx, 0, none⟩), .int .i64 n] w fun e w' => e = .returned (.int .i64 (doDelete S n).2) ∧ Off [dx] w w' ∧ ∃ da' cap', RD w' dx (doDelete S n).1 da' cap' ∧ ∀ b ∈ rf dx da' (doDelete S n).1.segs, b ∈ rf dx da S.segs ∨ w.heap.size ≤ b := by
  have HP := hide hP
  have HG := hide hG
  clear hP hG
  go_enter Tryz.func55, Tryz.ntmps55
  go_wp2_with fail
  refine (may dx S _ w HP.out.head HG.out.left).mono ?_
  rintro e w1 ⟨rfl, hb1, hs1⟩
  by_cases h0 : S.left = 0
  · have hd : decide (S.left = 0) = true := decide_eq_true h0
    have HE := hide (show doDelete S n = (S, 8) from if_pos h0)
    rw [if_pos h0] at hs1
    have HQ := hide (HP.out.turned hb1 hs1)
    have HB := hide hb1
    clear hb1 hs1 h0
    rw [hd]
    go_wp2_with fail
    go_ret
    rw [HE.out]
    exact ⟨rfl, Off.of_but HB.out (List.mem_cons_self ..), da, cap, HQ.out, fun _ h => Or.inl h⟩
  · have hd : decide (S.left = 0) = false := decide_eq_false h0
    rw [op_left h0] at hs1
    have HQ := hide (HP.out.turned hb1 hs1)
    have HB := hide hb1
    have H0 := hide h0
    clear hb1 hs1 h0
    rw [hd]
    go_wp2_with fail
    refine (where_ dx da cap (op S) n w1 HQ.out hl).mono ?_
    rintro e w2 ⟨rfl, rfl⟩
    cases hp : place n S.segs with
    | none =>
      have HE := hide (show doDelete S n = (op S, 9) by rw [doDelete, if_neg H0.out, hp])
      rw [show told (place n (op S).segs) = -1 from congrArg told hp]
      clear hp
      go_wp2_with fail
      go_ret
      rw [HE.out]
      exact ⟨rfl, Off.of_but HB.out (List.mem_cons_self ..), da, cap, HQ.out, fun _ h => Or.inl h⟩
    | some i =>
      obtain ⟨s0, hs0, hn0⟩ := place_some hp
      have HE := hide (show doDelete S n = (⟨S.segs.eraseIdx i, (op S).left, S.room⟩, 0) by rw [doDelete, if_neg H0.out, hp]; rfl)
      rw [show told (place n (op S).segs) = (i : Int) from congrArg told hp]
      have hil : i < S.segs.length := (List.getElem?_eq_some_iff.1 hs0).1
      clear hp hs0 hn0
      obtain ⟨i0, hi, hz0, hz1, hz2⟩ := info_parts hiSeg
      have HDX := hide HQ.out.head.lt
      go_wp2_with fail
      go_loopw [7, 8] (fun s7 s8 wr => ∃ (k m : Nat) (ao : Option Addr) (cv : Nat), s7 = .slice ao m cv ∧ s8 = .int .i64 (k : Int) ∧ k ≤ S.segs.length ∧ m ≤ S.segs.length ∧ wr.ownsRow w1.heap.size 153 3 (.slice ao m cv) m (rows (kept i k S.segs)) ∧ Below w1.heap.size w1 wr ∧ Hid (m = (kept i k S.segs).length ∧ (m = 0 → Value.slice ao m cv = .slice none 0 0))) (fun _ s8 _ => S.segs.length - (intOf s8).toNat)
      case atStart => exact ⟨0, 0, none, 0, rfl, rfl, by omega, by omega, by rw [kept_zero]; exact World.ownsRow_nil _ _ _ _, Below.refl _ _, by rw [kept_zero]; rfl, fun _ => rfl⟩
      case round =>
        obtain ⟨k, m, ao, cv, rfl, rfl, hk, hml, hown, hbel, HM⟩ := hrel
        have hsize := hbel.size
        have hPr := HQ.out.keep hbel
        obtain ⟨c0, c1, c2, f0, f1, f2⟩ := head3 hPr.head
        rw [sl, if_neg (by show ¬ S.segs.length = 0; omega)] at c0
        by_cases hkl : k < S.segs.length
        · have hkz : (k : Int) < (S.segs.length : Int) := by omega
          obtain ⟨s, hs⟩ : ∃ s, S.segs[k]? = some s := ⟨_, List.getElem?_eq_getElem hkl⟩
          obtain ⟨b0, b1, b2, g0, g1, g2, hcap⟩ := hPr.cells (S := op S) hs
          by_cases hki : k = i
          · have HKS := hide (show kept i (k + 1) S.segs = kept i k S.segs by rw [hki]; exact kept_skip hil)
            have hkib : (((k : Int) != (i : Int))) = false := by simp [hki]
            have HKI := hide hki
            clear hs hPr hki
            go_wp2_with fail
            go_roundw
            case rel => exact ⟨k + 1, m, ao, cv, rfl, by go_num, by omega, hml, by rw [HKS.out]; exact hown, hbel, by rw [HKS.out]; exact HM.out⟩
            case measure => simp [intOf]; omega
          · have HKS := hide (kept_more hs hki)
            have hkib : (((k : Int) != (i : Int))) = true := by simp; omega
            have hm1 : m + 1 ≤ S.segs.length := by
              have h1 := kept_le i (k + 1) S.segs
              rw [HKS.out, List.length_append] at h1
              have h2 := HM.out.1
              simp at h1
              omega
            clear hs hPr hki
            go_wp2_with (at_builtin; refine wpList_append_own _ rfl _ _ 102 rfl w1.heap.size 153 i0 (.agg #[.int .i64 0, .string ByteArray.empty, .int .i64 0]) 3 32 Tryz.underlying102 hi hz0 hz1 hz2 rfl (by decide) _ _ _ rfl (hown.alloc _) ⟨wr.heap.size, 0, none⟩ 1 1 [.int .i64 s.num, .string s.text, .int .i64 (s.syn : Int)] rfl rfl (cell_three_new _ _ _ _ _) (fun x hx => rows_oneCell [s] x hx) (by unfold maxLen; omega) (by omega) (by simp; omega) ?_; intro v2 w2 hown2 hg2 hn2)
            obtain ⟨ao2, cv2, rfl⟩ := Own.shape hown2
            go_roundw
            case rel => exact ⟨k + 1, m + 1, ao2, cv2, rfl, by go_num, by omega, hm1, by rw [HKS.out, rows_append]; exact hown2, Own.below_more hbel hsize hown hg2, by rw [HKS.out, List.length_append, HM.out.1]; rfl, fun h => by omega⟩
            case measure => simp [intOf]; omega
        · have hkz : ¬ (k : Int) < (S.segs.length : Int) := by omega
          obtain rfl : k = S.segs.length := by omega
          rw [kept_all] at hown HM
          have HL := hide (laid (v := .slice ao m cv) (l := S.segs.eraseIdx i) hPr.head hown HM.out.1 HM.out.2 HDX.out)
          have HOF := hide (((Off.of_but HB.out (List.mem_cons_self (l := []))).trans (Off.of_below hbel)).set (List.mem_cons_self (l := [])) 0 (.slice ao m cv))
          clear hown hbel hPr
          go_wp2_with fail
          go_ret
          rw [HE.out]
          obtain ⟨da', cap', h1, h2, _⟩ := HL.out
          exact ⟨rfl, HOF.out, da', ⟨cap', h1⟩, rf_sub (Or.inr (Nat.le_trans HB.out.size h2))⟩

end Go.Proofs.YtenegfafjjknoaaGreatDoor.Dr
