/- The program's disk in memory. The program's disk: what stays, what turns. The program's disk: Sync. The program's disk: New, Read, Limit, Truncate. The program's disk: Limit, Truncate. The program's disk: Truncate. The program's disk: Crash. The program's disk: Crash. -/
import Derived.Test.YtenegfafjjknoaaGreatDoorFoot
import Derived.Test.YtenegfafjjknoaaGreatDoorDmm
import Derived.Test.YtenegfafjjknoaaGreatDoorLeaf
import Derived.Deep.QuietTactic
import Derived.BigQuiet
import Derived.Lib.MinMax
namespace Go.Proofs.YtenegfafjjknoaaGreatDoor.Dh
open Go.RowKit Mem Foot Dm

def segCells (s : Seg) : Array Value := #[.int .i64 s.num, .string s.text, .int .i64 (s.syn : Int)]

/-- The slice of the segments: nil where there is none. -/
def sl (ba : Nat) (n cap : Nat) : Value := if n = 0 then .slice none 0 0 else .slice (some ⟨ba, 0, none⟩) n cap

/-- The disk at block bx: its array at ba, its segments at bs. -/
structure PD (w : World) (bx : Nat) (S : Dk) (ba cap : Nat) (bs : List Nat) : Prop where
  head : Sits w bx 101 #[sl ba bs.length cap, .int .i64 S.left, .int .i64 S.room]
  len : bs.length = S.segs.length
  arr : bs ≠ [] → ∃ cs : Array Value, Sits w ba 146 cs ∧ cs.size = cap ∧ bs.length ≤ cap ∧ ∀ (i b : Nat), bs[i]? = some b → cs[i]? = some (Value.pointer (some ⟨b, 0, none⟩))
  seg : ∀ (i b : Nat) (s : Seg), bs[i]? = some b → S.segs[i]? = some s → Sits w b 149 (segCells s)
  apart : (bx :: ba :: bs).Nodup
  capm : bs ≠ [] → cap ≤ maxLen

theorem head3 {w : World} {b : Nat} {t : TypeId} {v0 v1 v2 : Value} (h : Sits w b t #[v0, v1, v2]) :
    w.cell? ⟨b, 0, none⟩ = some v0 ∧ w.cell? ⟨b, 1, none⟩ = some v1 ∧ w.cell? ⟨b, 2, none⟩ = some v2 ∧ w.frozen? ⟨b, 0, none⟩ = false ∧ w.frozen? ⟨b, 1, none⟩ = false ∧ w.frozen? ⟨b, 2, none⟩ = false :=
  ⟨h.cell 0 _ rfl, h.cell 1 _ rfl, h.cell 2 _ rfl, h.frozen 0, h.frozen 1, h.frozen 2⟩

/-- One operation: the program. -/
theorem operation (bx : Nat) (S : Dk) (v : Value) (w : World) (hS : Sits w bx 101 #[v, .int .i64 S.left, .int .i64 S.room]) (hg : -1 ≤ S.left ∧ S.left ≤ 9223372036854775807) :
    Calls Tryz.prog 99 #[.pointer (some ⟨bx, 0, none⟩)] w fun e w' => e = .returned (.bool (!decide (S.left = 0))) ∧ But bx w w' ∧ Sits w' bx 101 #[v, .int .i64 (if S.left = 0 then S else op S).left, .int .i64 S.room] := by
  obtain ⟨c0, c1, c2, f0, f1, f2⟩ := head3 hS
  have HS := hide hS
  clear hS
  by_cases h0 : S.left = 0
  · have h0b : (S.left == 0) = true := by simpa using h0
    go_enter Tryz.func99, Tryz.ntmps99
    go_wp2_with fail
    go_ret
    refine ⟨by simp, But.refl _ _, ?_⟩
    have := HS.out
    rwa [h0] at this
  · have h0b : (S.left == 0) = false := by simpa using h0
    by_cases hp : 0 < S.left
    · go_enter Tryz.func99, Tryz.ntmps99
      go_wp2_with fail
      go_ret
      refine ⟨by simp, (But.refl _ _).set _ _, ?_⟩
      have := HS.out.set 1 (.int .i64 (S.left - 1))
      simpa [op, hp] using this
    · have HE := hide (show (op S).left = S.left from if_neg hp)
      go_enter Tryz.func99, Tryz.ntmps99
      go_wp2_with fail
      go_ret
      refine ⟨by simp, But.refl _ _, ?_⟩
      rw [HE.out]
      exact HS.out

/-- Where a segment of a number lies. -/
def ptr (S : Dk) (bs : List Nat) (n : Int) : Option Addr := ((place n S.segs).bind fun i => bs[i]?).map fun b => ⟨b, 0, none⟩

theorem ptr_none {S : Dk} {bs : List Nat} {n : Int} (h : place n S.segs = none) : ptr S bs n = none := by
  rw [ptr, h]
  rfl

theorem ptr_at {S : Dk} {bs : List Nat} {n : Int} {k b : Nat} (h : place n S.segs = some k) (hb : bs[k]? = some b) : ptr S bs n = some ⟨b, 0, none⟩ := by
  rw [ptr, h]
  show (bs[k]?).map _ = _
  rw [hb]
  rfl

/-- The segment of a number: its block; nil where there is none. -/
theorem find (bx ba cap : Nat) (bs : List Nat) (S : Dk) (n : Int) (w : World) (hP : PD w bx S ba cap bs) (hl : bs.length ≤ 1000000000) :
    Calls Tryz.prog 101 #[.pointer (some ⟨bx, 0, none⟩), .int .i64 n] w fun e w' => w = w' ∧ e = .returned (.pointer (ptr S bs n)) := by
  obtain ⟨c0, c1, c2, f0, f1, f2⟩ := head3 hP.head
  have HP := hide hP
  clear hP
  unfold sl at c0
  by_cases h0 : bs.length = 0
  · rw [if_pos h0] at c0
    have hsn : S.segs = [] := List.eq_nil_of_length_eq_zero (HP.out.len ▸ h0)
    have HE := hide (show ptr S bs n = none from ptr_none (by rw [hsn]; rfl))
    clear h0 hsn
    go_enter Tryz.func101, Tryz.ntmps101
    go_wp2_with fail
    go_loopw [12] (fun s12 wr => s12 = .int .i64 0 ∧ wr = w) (fun _ _ => 0)
    case atStart => exact ⟨rfl, rfl⟩
    case round =>
      obtain ⟨rfl, rfl⟩ := hrel
      go_wp2_with fail
      go_ret
      exact ⟨rfl, congrArg (fun z => Ending.returned (.pointer z)) HE.out.symm⟩
  · rw [if_neg h0] at c0
    obtain ⟨cs, hA, hcs, hcap, hptr⟩ := HP.out.arr (fun e => h0 (by rw [e]; rfl))
    have HA := hide hA
    have HPT := hide hptr
    clear hA hptr hcs
    go_enter Tryz.func101, Tryz.ntmps101
    go_wp2_with fail
    go_loopw [12] (fun s12 wr => ∃ k : Nat, s12 = .int .i64 (k : Int) ∧ wr = w ∧ k ≤ bs.length ∧ Hid (∀ j t, j < k → S.segs[j]? = some t → t.num ≠ n)) (fun s12 _ => bs.length - (intOf s12).toNat)
    case atStart => exact ⟨0, rfl, rfl, by omega, fun j t h => by omega⟩
    case round =>
      obtain ⟨k, rfl, rfl, hk, HB⟩ := hrel
      by_cases hkl : k < bs.length
      · have hkz : (k : Int) < (bs.length : Int) := by omega
        obtain ⟨b, hb⟩ : ∃ b, bs[k]? = some b := ⟨_, List.getElem?_eq_getElem hkl⟩
        obtain ⟨s, hs⟩ : ∃ s, S.segs[k]? = some s := ⟨_, List.getElem?_eq_getElem (by rw [← HP.out.len]; exact hkl)⟩
        have a0 := HA.out.cell k _ (HPT.out k b hb)
        obtain ⟨b0, b1, b2, g0, g1, g2⟩ := head3 (HP.out.seg k b s hb hs)
        have HT := hide (show s.num = n → ptr S bs n = some ⟨b, 0, none⟩ from fun hn => ptr_at (place_at HB.out hs hn) hb)
        have HF := hide (show ¬ s.num = n → ∀ j t, j < k + 1 → S.segs[j]? = some t → t.num ≠ n from fun hn j t hj ht => by
          by_cases e : j = k
          · subst e
            rw [hs] at ht
            cases ht
            exact hn
          · exact HB.out j t (by omega) ht)
        clear hb hs
        go_wp2_with fail
        · have hnb : (s.num == n) = true := by assumption
          go_ret
          exact ⟨rfl, congrArg (fun z => Ending.returned (.pointer z)) (HT.out (by simpa using hnb)).symm⟩
        · have hnb : (s.num == n) = false := by assumption
          go_roundw
          case rel => exact ⟨k + 1, by go_num, trivial, by omega, HF.out (by simpa using hnb)⟩
          case measure => simp [intOf]; omega
      · have hkz : ¬ (k : Int) < (bs.length : Int) := by omega
        have HE := hide (show ptr S bs n = none from ptr_none (place_not (fun j t ht => HB.out j t (by have := (List.getElem?_eq_some_iff.1 ht).1; have := HP.out.len; omega) ht)))
        go_wp2_with fail
        go_ret
        exact ⟨rfl, congrArg (fun z => Ending.returned (.pointer z)) HE.out.symm⟩

end Go.Proofs.YtenegfafjjknoaaGreatDoor.Dh

namespace Go.Proofs.YtenegfafjjknoaaGreatDoor.Dh
open Go.RowKit Mem Foot Dm

theorem PD.ne_arr {w : World} {bx ba cap : Nat} {bs : List Nat} {S : Dk} (h : PD w bx S ba cap bs) : ba ≠ bx := by
  have := h.apart
  rw [List.nodup_cons] at this
  exact fun e => this.1 (e ▸ List.mem_cons_self ..)

theorem PD.ne_seg {w : World} {bx ba cap : Nat} {bs : List Nat} {S : Dk} (h : PD w bx S ba cap bs) {b : Nat} (hb : b ∈ bs) : b ≠ bx ∧ b ≠ ba := by
  have := h.apart
  rw [List.nodup_cons, List.nodup_cons] at this
  exact ⟨fun e => this.1 (e ▸ List.mem_cons_of_mem _ hb), fun e => this.2.1 (e ▸ hb)⟩

/-- The limits turned. -/
theorem PD.turned {w w' : World} {bx ba cap : Nat} {bs : List Nat} {S : Dk} {a b : Int} (h : PD w bx S ba cap bs) (hb : But bx w w') (hs : Sits w' bx 101 #[sl ba bs.length cap, .int .i64 a, .int .i64 b]) : PD w' bx ⟨S.segs, a, b⟩ ba cap bs :=
  ⟨hs, h.len, fun hne => by
    obtain ⟨cs, h1, h2, h3, h4⟩ := h.arr hne
    exact ⟨cs, h1.but hb h.ne_arr, h2, h3, h4⟩, fun i c s hi hS => (h.seg i c s hi hS).but hb (h.ne_seg (List.mem_of_getElem? hi)).1, h.apart, h.capm⟩

/-- A segment turned. -/
theorem PD.seg_turned {w w' : World} {bx ba cap : Nat} {bs : List Nat} {S : Dk} {k c : Nat} {s' : Seg} (h : PD w bx S ba cap bs) (hk : bs[k]? = some c) (hb : But c w w') (hs : Sits w' c 149 (segCells s')) : PD w' bx ⟨S.segs.set k s', S.left, S.room⟩ ba cap bs := by
  have hc := h.ne_seg (List.mem_of_getElem? hk)
  refine ⟨h.head.but hb (fun e => hc.1 e.symm), by rw [List.length_set]; exact h.len, fun hne => ?_, fun i d s hi hS => ?_, h.apart, h.capm⟩
  · obtain ⟨cs, h1, h2, h3, h4⟩ := h.arr hne
    exact ⟨cs, h1.but hb (fun e => hc.2 e.symm), h2, h3, h4⟩
  · rw [List.getElem?_set] at hS
    by_cases e : k = i
    · subst e
      rw [hk] at hi
      cases hi
      rw [if_pos rfl] at hS
      split at hS
      · cases hS
        exact hs
      · cases hS
    · rw [if_neg e] at hS
      have hne : d ≠ c := by
        intro hd
        subst hd
        have hn := h.apart
        rw [List.nodup_cons, List.nodup_cons] at hn
        have h1 := (List.getElem?_eq_some_iff.1 hk)
        have h2 := (List.getElem?_eq_some_iff.1 hi)
        obtain ⟨h1l, h1e⟩ := h1
        obtain ⟨h2l, h2e⟩ := h2
        have hp := List.pairwise_iff_getElem.1 hn.2.2
        rcases Nat.lt_trichotomy k i with q | q | q
        · exact hp k i h1l h2l q (h1e.trans h2e.symm)
        · exact e q
        · exact hp i k h2l h1l q (h2e.trans h1e.symm)
      exact (h.seg i d s hi hS).but hb hne

end Go.Proofs.YtenegfafjjknoaaGreatDoor.Dh

namespace Go.Proofs.YtenegfafjjknoaaGreatDoor.Dh
open Go.RowKit Mem Foot Dm

theorem op_left {S : Dk} (h : ¬ S.left = 0) : (if S.left = 0 then S else op S) = op S := if_neg h

theorem sync (bx ba cap : Nat) (bs : List Nat) (S : Dk) (n : Int) (w : World) (hP : PD w bx S ba cap bs) (hG : Dm.Good S) (hl : bs.length ≤ 1000000000) :
    Calls Tryz.prog 50 #[.pointer (some ⟨bx, 0, none⟩), .int .i64 n] w fun e w' => e = .returned (.int .i64 (doSync S n).2) ∧ Off (bx :: bs) w w' ∧ PD w' bx (doSync S n).1 ba cap bs := by
  have HP := hide hP
  have HG := hide hG
  clear hP hG
  go_enter Tryz.func50, Tryz.ntmps50
  go_wp2_with fail
  refine (operation bx S _ w HP.out.head HG.out.left).mono ?_
  rintro e w1 ⟨rfl, hb1, hs1⟩
  by_cases h0 : S.left = 0
  · have hd : decide (S.left = 0) = true := decide_eq_true h0
    have HE := hide (show doSync S n = (S, 8) from if_pos h0)
    rw [if_pos h0] at hs1
    have HQ := hide (HP.out.turned hb1 hs1)
    have HB := hide hb1
    clear hb1 hs1 h0
    rw [hd]
    go_wp2_with fail
    go_ret
    rw [HE.out]
    exact ⟨rfl, Off.of_but HB.out (List.mem_cons_self ..), HQ.out⟩
  · have hd : decide (S.left = 0) = false := decide_eq_false h0
    rw [op_left h0] at hs1
    have HQ := hide (HP.out.turned hb1 hs1)
    have HB := hide hb1
    have H0 := hide h0
    clear hb1 hs1 h0
    rw [hd]
    go_wp2_with fail
    refine (find bx ba cap bs (op S) n w1 HQ.out hl).mono ?_
    rintro e w2 ⟨rfl, rfl⟩
    cases hp : place n S.segs with
    | none =>
      have HE := hide (show doSync S n = (op S, 9) by rw [doSync, if_neg H0.out, hp])
      rw [ptr_none (S := op S) hp]
      clear hp
      go_wp2_with fail
      go_ret
      rw [HE.out]
      exact ⟨rfl, Off.of_but HB.out (List.mem_cons_self ..), HQ.out⟩
    | some k =>
      obtain ⟨s, hs, hn⟩ := place_some hp
      obtain ⟨b, hb⟩ : ∃ b, bs[k]? = some b := ⟨_, List.getElem?_eq_getElem (by rw [HP.out.len]; exact (List.getElem?_eq_some_iff.1 hs).1)⟩
      have HE := hide (show doSync S n = (⟨S.segs.set k { s with syn := s.text.size }, (op S).left, S.room⟩, 0) by rw [doSync, if_neg H0.out, hp, turn_set HG.out.rise hs hn]; rfl)
      rw [ptr_at (S := op S) hp hb]
      have hS := HQ.out.seg k b s hb hs
      obtain ⟨b0, b1, b2, g0, g1, g2⟩ := head3 hS
      have HS := hide hS
      have HK := hide hb
      clear hp hs hn hb hS
      go_wp2_with fail
      go_ret
      rw [HE.out]
      have hmem : b ∈ bx :: bs := List.mem_cons_of_mem _ (List.mem_of_getElem? HK.out)
      exact ⟨rfl, (Off.of_but HB.out (List.mem_cons_self ..)).set hmem _ _, HQ.out.seg_turned HK.out ((But.refl _ _).set _ _) (HS.out.set 2 _)⟩

end Go.Proofs.YtenegfafjjknoaaGreatDoor.Dh

namespace Go.Proofs.YtenegfafjjknoaaGreatDoor.Dh
open Go.RowKit Mem Foot Dm

theorem new (w : World) : Calls Tryz.prog 26 #[] w fun e w' => e = .returned (.pointer (some ⟨w.heap.size, 0, none⟩)) ∧ w' = w.alloc (.cells #[.slice none 0 0, .int .i64 (-1), .int .i64 (-1)] 101) := by
  go_enter Tryz.func26, Tryz.ntmps26
  go_wp2_with fail
  go_ret
  exact ⟨rfl, rfl⟩

theorem fresh_new (w : World) : PD (w.alloc (.cells #[.slice none 0 0, .int .i64 (-1), .int .i64 (-1)] 101)) w.heap.size fresh (w.heap.size + 1) 0 [] :=
  ⟨Sits.new _ _ _, rfl, fun h => absurd rfl h, fun i b s h => by simp at h, by simp, fun h => absurd rfl h⟩

theorem read (bx ba cap : Nat) (bs : List Nat) (S : Dk) (n : Int) (w : World) (hP : PD w bx S ba cap bs) (hl : bs.length ≤ 1000000000) :
    Calls Tryz.prog 48 #[.pointer (some ⟨bx, 0, none⟩), .int .i64 n] w fun e w' => e = .returned (.tuple #[.string (doRead S n).1, .int .i64 (doRead S n).2]) ∧ w = w' := by
  obtain ⟨c0, c1, c2, f0, f1, f2⟩ := head3 hP.head
  have HP := hide hP
  clear hP
  by_cases h0 : S.left = 0
  · have h0b : (S.left == 0) = true := by simpa using h0
    have HE := hide (show doRead S n = (⟨#[]⟩, 8) from if_pos h0)
    go_enter Tryz.func48, Tryz.ntmps48
    go_wp2_with fail
    go_ret2
    rw [HE.out]
    exact ⟨rfl, rfl⟩
  · have h0b : (S.left == 0) = false := by simpa using h0
    have H0 := hide h0
    clear h0
    go_enter Tryz.func48, Tryz.ntmps48
    go_wp2_with fail
    refine (find bx ba cap bs S n w HP.out hl).mono ?_
    rintro e w2 ⟨rfl, rfl⟩
    cases hp : place n S.segs with
    | none =>
      have HE := hide (show doRead S n = (⟨#[]⟩, 9) by rw [doRead, if_neg H0.out, hp])
      rw [ptr_none (S := S) hp]
      clear hp
      go_wp2_with fail
      go_ret2
      rw [HE.out]
      exact ⟨rfl, rfl⟩
    | some k =>
      obtain ⟨s, hs, hn⟩ := place_some hp
      obtain ⟨b, hb⟩ : ∃ b, bs[k]? = some b := ⟨_, List.getElem?_eq_getElem (by rw [HP.out.len]; exact (List.getElem?_eq_some_iff.1 hs).1)⟩
      have HE := hide (show doRead S n = (s.text, 0) by rw [doRead, if_neg H0.out, hp]; show (((S.segs[k]?).map (·.text)).getD ⟨#[]⟩, (0 : Int)) = _; rw [hs]; rfl)
      rw [ptr_at (S := S) hp hb]
      obtain ⟨b0, b1, b2, g0, g1, g2⟩ := head3 (HP.out.seg k b s hb hs)
      clear hp hs hn hb
      go_wp2_with fail
      go_ret2
      rw [HE.out]
      exact ⟨rfl, rfl⟩

end Go.Proofs.YtenegfafjjknoaaGreatDoor.Dh

namespace Go.Proofs.YtenegfafjjknoaaGreatDoor.Dh
open Go.RowKit Mem Foot Dm

theorem limit (bx ba cap : Nat) (bs : List Nat) (S : Dk) (a b : Int) (w : World) (hP : PD w bx S ba cap bs) :
    Calls Tryz.prog 57 #[.pointer (some ⟨bx, 0, none⟩), .int .i64 a, .int .i64 b] w fun e w' => e = .returned (.tuple #[]) ∧ But bx w w' ∧ PD w' bx (doLimit S a b) ba cap bs := by
  obtain ⟨c0, c1, c2, f0, f1, f2⟩ := head3 hP.head
  have HP := hide hP
  clear hP
  have ha : (if a < 0 then -1 else a) = max a (-1) := by omega
  have hb : (if b < 0 then -1 else b) = max b (-1) := by omega
  have HE := hide (show doLimit S a b = ⟨S.segs, max a (-1), max b (-1)⟩ by rw [doLimit, ha, hb])
  clear ha hb
  go_enter Tryz.func57, Tryz.ntmps57
  go_wp2_with fail
  go_end0
  rw [HE.out]
  have hB := ((But.refl bx w).set 1 (.int .i64 (max a (-1)))).set 2 (.int .i64 (max b (-1)))
  exact ⟨rfl, hB, HP.out.turned hB ((HP.out.head.set 1 _).set 2 _)⟩

end Go.Proofs.YtenegfafjjknoaaGreatDoor.Dh

namespace Go.Proofs.YtenegfafjjknoaaGreatDoor.Dh
open Go.RowKit Mem Foot Dm

theorem truncate (bx ba cap : Nat) (bs : List Nat) (S : Dk) (n m : Int) (w : World) (hP : PD w bx S ba cap bs) (hG : Dm.Good S) (hl : bs.length ≤ 1000000000) :
    Calls Tryz.prog 52 #[.pointer (some ⟨bx, 0, none⟩), .int .i64 n, .int .i64 m] w fun e w' => e = .returned (.int .i64 (doTrunc S n m).2) ∧ Off (bx :: bs) w w' ∧ PD w' bx (doTrunc S n m).1 ba cap bs := by
  have HP := hide hP
  have HG := hide hG
  clear hP hG
  go_enter Tryz.func52, Tryz.ntmps52
  go_wp2_with fail
  refine (operation bx S _ w HP.out.head HG.out.left).mono ?_
  rintro e w1 ⟨rfl, hb1, hs1⟩
  by_cases h0 : S.left = 0
  · have hd : decide (S.left = 0) = true := decide_eq_true h0
    have HE := hide (show doTrunc S n m = (S, 8) from if_pos h0)
    rw [if_pos h0] at hs1
    have HQ := hide (HP.out.turned hb1 hs1)
    have HB := hide hb1
    clear hb1 hs1 h0
    rw [hd]
    go_wp2_with fail
    go_ret
    rw [HE.out]
    exact ⟨rfl, Off.of_but HB.out (List.mem_cons_self ..), HQ.out⟩
  · have hd : decide (S.left = 0) = false := decide_eq_false h0
    rw [op_left h0] at hs1
    have HQ := hide (HP.out.turned hb1 hs1)
    have HB := hide hb1
    have H0 := hide h0
    clear hb1 hs1 h0
    rw [hd]
    go_wp2_with fail
    refine (find bx ba cap bs (op S) n w1 HQ.out hl).mono ?_
    rintro e w2 ⟨rfl, rfl⟩
    cases hp : place n S.segs with
    | none =>
      have HE := hide (show doTrunc S n m = (op S, 9) by rw [doTrunc, if_neg H0.out, hp])
      rw [ptr_none (S := op S) hp]
      clear hp
      go_wp2_with fail
      go_ret
      rw [HE.out]
      exact ⟨rfl, Off.of_but HB.out (List.mem_cons_self ..), HQ.out⟩
    | some k =>
      obtain ⟨s, hs, hn⟩ := place_some hp
      obtain ⟨b, hb⟩ : ∃ b, bs[k]? = some b := ⟨_, List.getElem?_eq_getElem (by rw [HP.out.len]; exact (List.getElem?_eq_some_iff.1 hs).1)⟩
      rw [ptr_at (S := op S) hp hb]
      have hS := HQ.out.seg k b s hb hs
      obtain ⟨b0, b1, b2, g0, g1, g2⟩ := head3 hS
      have HS := hide hS
      have HK := hide hb
      have hgd : ((S.segs[k]?).map (fun s => (s.text.size : Int))).getD (-1) = (s.text.size : Int) := by rw [hs]; rfl
      have hd2 : doTrunc S n m = if 0 ≤ m ∧ m ≤ (s.text.size : Int) then (⟨S.segs.set k { s with text := s.text.extract 0 m.toNat, syn := min s.syn m.toNat }, (op S).left, S.room⟩, 0) else (op S, 9) := by
        rw [doTrunc, if_neg H0.out, hp]
        show (if 0 ≤ m ∧ m ≤ ((S.segs[k]?).map (fun s => (s.text.size : Int))).getD (-1) then _ else _) = _
        rw [hgd, turn_set HG.out.rise hs hn]
        rfl
      have HD2 := hide hd2
      have hsyn : ((min s.syn m.toNat : Nat) : Int) = min (s.syn : Int) (m.toNat : Int) := by omega
      clear hp hs hn hb hS hgd hd2
      by_cases h1 : m < 0
      · have HE := hide (show doTrunc S n m = (op S, 9) by rw [HD2.out, if_neg (by omega)])
        go_wp2_with fail
        go_ret
        rw [HE.out]
        exact ⟨rfl, Off.of_but HB.out (List.mem_cons_self ..), HQ.out⟩
      · by_cases h2 : (s.text.size : Int) < m
        · have HE := hide (show doTrunc S n m = (op S, 9) by rw [HD2.out, if_neg (by omega)])
          go_wp2_with fail
          go_ret
          rw [HE.out]
          exact ⟨rfl, Off.of_but HB.out (List.mem_cons_self ..), HQ.out⟩
        · obtain ⟨j, rfl⟩ : ∃ j : Nat, m = (j : Int) := ⟨m.toNat, by omega⟩
          have h3 : j ≤ s.text.size := by omega
          have HE := hide (show doTrunc S n (j : Int) = (⟨S.segs.set k { s with text := s.text.extract 0 j, syn := min s.syn j }, (op S).left, S.room⟩, 0) by rw [HD2.out, if_pos (by omega)]; rfl)
          have HSY := hide (show ((min s.syn j : Nat) : Int) = min (s.syn : Int) (j : Int) by omega)
          clear hsyn HD2
          go_wp2_with fail
          go_ret
          rw [HE.out]
          have hmem : b ∈ bx :: bs := List.mem_cons_of_mem _ (List.mem_of_getElem? HK.out)
          refine ⟨rfl, ((Off.of_but HB.out (List.mem_cons_self ..)).set hmem _ _).set hmem _ _, HQ.out.seg_turned HK.out (((But.refl _ _).set _ _).set _ _) ?_⟩
          have := (HS.out.set 1 (.string (s.text.extract 0 j))).set 2 (.int .i64 (min (s.syn : Int) (j : Int)))
          rw [← HSY.out] at this ⊢
          exact this

end Go.Proofs.YtenegfafjjknoaaGreatDoor.Dh

namespace Go.Proofs.YtenegfafjjknoaaGreatDoor.Dh
open Go.RowKit Mem Foot Dm

/-- The first k segments torn. -/
def tornTo (t : Int) (k : Nat) (l : List Seg) : List Seg := (l.take k).map (torn t) ++ l.drop k

theorem tornTo_zero (t : Int) (l : List Seg) : tornTo t 0 l = l := rfl

theorem tornTo_all (t : Int) (l : List Seg) : tornTo t l.length l = l.map (torn t) := by
  simp [tornTo]

theorem tornTo_get {t : Int} {k : Nat} {l : List Seg} {s : Seg} (h : l[k]? = some s) : (tornTo t k l)[k]? = some s := by
  have hk := (List.getElem?_eq_some_iff.1 h).1
  rw [tornTo, List.getElem?_append_right (by simp; omega)]
  have e : k - ((l.take k).map (torn t)).length = 0 := by simp; omega
  rw [e, List.getElem?_drop, Nat.add_zero, h]

theorem tornTo_set {t : Int} {k : Nat} {l : List Seg} {s : Seg} (h : l[k]? = some s) : (tornTo t k l).set k (torn t s) = tornTo t (k + 1) l := by
  have hk := (List.getElem?_eq_some_iff.1 h).1
  have e : k - ((l.take k).map (torn t)).length = 0 := by simp; omega
  rw [tornTo, List.set_append_right _ _ (by simp; omega), e, tornTo, List.take_add_one, h, List.map_append, List.append_assoc]
  have hd : l.drop k = s :: l.drop (k + 1) := by
    obtain ⟨_, e⟩ := List.getElem?_eq_some_iff.1 h
    rw [← e]
    exact List.drop_eq_getElem_cons hk
  rw [hd]
  rfl

end Go.Proofs.YtenegfafjjknoaaGreatDoor.Dh

namespace Go.Proofs.YtenegfafjjknoaaGreatDoor.Dh
open Go.RowKit Mem Foot Dm

theorem crash (bx ba cap : Nat) (bs : List Nat) (S : Dk) (t : Int) (w : World) (hP : PD w bx S ba cap bs) (hG : Dm.Good S) (hl : bs.length ≤ 1000000000) (hz : ∀ s ∈ S.segs, s.text.size ≤ 1000000000000) :
    Calls Tryz.prog 59 #[.pointer (some ⟨bx, 0, none⟩), .int .i64 t] w fun e w' => e = .returned (.tuple #[]) ∧ Off (bx :: bs) w w' ∧ PD w' bx (doCrash S t) ba cap bs := by
  obtain ⟨c0, c1, c2, f0, f1, f2⟩ := head3 hP.head
  have HP := hide hP
  have HG := hide hG
  have HZ := hide hz
  clear hP hG hz
  unfold sl at c0
  obtain ⟨u, hu⟩ : ∃ u : Nat, (u : Int) = max t 0 := ⟨(max t 0).toNat, by omega⟩
  have HE := hide (show doCrash S t = ⟨S.segs.map (torn (u : Int)), -1, -1⟩ by
    have : (if t < 0 then 0 else t) = (u : Int) := by omega
    rw [doCrash, this])
  by_cases h0 : bs.length = 0
  · rw [if_pos h0] at c0
    have hsn : S.segs = [] := List.eq_nil_of_length_eq_zero (HP.out.len ▸ h0)
    have HSN := hide hsn
    clear hsn hu
    go_enter Tryz.func59, Tryz.ntmps59
    go_wp2_with fail
    go_loopw [13] (fun s13 wr => s13 = .int .i64 0 ∧ wr = w) (fun _ _ => 0)
    case atStart => exact ⟨rfl, rfl⟩
    case round =>
      obtain ⟨rfl, rfl⟩ := hrel
      go_wp2_with fail
      go_end0
      rw [HE.out]
      have hB := ((But.refl bx wr).set 1 (.int .i64 (-1))).set 2 (.int .i64 (-1))
      have hT := HP.out.turned hB ((HP.out.head.set 1 _).set 2 _)
      rw [HSN.out] at hT ⊢
      exact ⟨rfl, Off.of_but hB (List.mem_cons_self ..), hT⟩
  · rw [if_neg h0] at c0
    have HU := hide hu
    clear hu
    go_enter Tryz.func59, Tryz.ntmps59
    go_wp2_with fail
    rw [← HU.out]
    go_loopw [13] (fun s13 wr => ∃ k : Nat, s13 = .int .i64 (k : Int) ∧ k ≤ bs.length ∧ Hid (PD wr bx ⟨tornTo (u : Int) k S.segs, S.left, S.room⟩ ba cap bs ∧ Off (bx :: bs) w wr)) (fun s13 _ => bs.length - (intOf s13).toNat)
    case atStart => exact ⟨0, rfl, by omega, HP.out, Off.refl _ _⟩
    case round =>
      clear c0 c1 c2 f0 f1 f2
      obtain ⟨k, rfl, hk, HR⟩ := hrel
      obtain ⟨c0, c1, c2, f0, f1, f2⟩ := head3 HR.out.1.head
      by_cases hkl : k < bs.length
      · have hkz : (k : Int) < (bs.length : Int) := by omega
        obtain ⟨b, hb⟩ : ∃ b, bs[k]? = some b := ⟨_, List.getElem?_eq_getElem hkl⟩
        obtain ⟨s, hs⟩ : ∃ s, S.segs[k]? = some s := ⟨_, List.getElem?_eq_getElem (by rw [← HP.out.len]; exact hkl)⟩
        obtain ⟨cs, hA, hcs, hcap, hptr⟩ := HR.out.1.arr (fun e => h0 (by rw [e]; rfl))
        have a0 := hA.cell k _ (hptr k b hb)
        have hS := HR.out.1.seg k b s hb (tornTo_get hs)
        obtain ⟨b0, b1, b2, g0, g1, g2⟩ := head3 hS
        have HS := hide hS
        have hsy := HG.out.syn s (List.mem_of_getElem? hs)
        have hsz := HZ.out s (List.mem_of_getElem? hs)
        have HT := hide (tornTo_set (t := (u : Int)) hs)
        have HK := hide hb
        clear hb hs hA hptr hS hcs
        by_cases ht : (u : Int) < (s.text.size : Int) - (s.syn : Int)
        · have HTN := hide (show torn (u : Int) s = { s with text := s.text.extract 0 (s.syn + u), syn := s.syn + u } from if_pos ht)
          go_wp2_with fail
          go_quiet (fail)
          go_wp2_with fail
          go_region
          go_wp2_with fail
          have hmin : min (s.syn + u) s.text.size = s.syn + u := by omega
          rw [hmin]
          have hB : But b wr (((wr.drewN (nq + 1)).setCell ⟨b, 1, none⟩ (.string (s.text.extract 0 (s.syn + u)))).setCell ⟨b, 2, none⟩ (.int .i64 ((s.syn + u : Nat) : Int))) := ((((But.refl b wr).drewN _).set _ _).set _ _)
          refine ⟨⟨k + 1, by go_num, by omega, ?_, HR.out.2.trans (Off.of_but hB (List.mem_cons_of_mem _ (List.mem_of_getElem? HK.out)))⟩, by simp [intOf]; omega⟩
          have hq := HR.out.1.seg_turned (s' := torn (u : Int) s) HK.out hB (by rw [HTN.out]; exact ((HS.out.drewN (nq + 1)).set 1 _).set 2 _)
          rw [HT.out] at hq
          exact hq
        · have HTN := hide (show torn (u : Int) s = { s with syn := s.text.size } from if_neg ht)
          go_wp2_with fail
          go_quiet (fail)
          go_wp2_with fail
          have hB : But b wr ((wr.drewN nq).setCell ⟨b, 2, none⟩ (.int .i64 (s.text.size : Int))) := (((But.refl b wr).drewN _).set _ _)
          refine ⟨⟨k + 1, by go_num, by omega, ?_, HR.out.2.trans (Off.of_but hB (List.mem_cons_of_mem _ (List.mem_of_getElem? HK.out)))⟩, by simp [intOf]; omega⟩
          have hq := HR.out.1.seg_turned (s' := torn (u : Int) s) HK.out hB (by rw [HTN.out]; exact (HS.out.drewN nq).set 2 _)
          rw [HT.out] at hq
          exact hq
      · have hkz : ¬ (k : Int) < (bs.length : Int) := by omega
        obtain rfl : k = S.segs.length := by have := HP.out.len; omega
        have HR2 := HR
        rw [tornTo_all] at HR2
        go_wp2_with fail
        go_end0
        rw [HE.out]
        have hB := ((But.refl bx wr).set 1 (.int .i64 (-1))).set 2 (.int .i64 (-1))
        exact ⟨rfl, HR2.out.2.trans (Off.of_but hB (List.mem_cons_self ..)), HR2.out.1.turned hB ((HR2.out.1.head.set 1 _).set 2 _)⟩

end Go.Proofs.YtenegfafjjknoaaGreatDoor.Dh
