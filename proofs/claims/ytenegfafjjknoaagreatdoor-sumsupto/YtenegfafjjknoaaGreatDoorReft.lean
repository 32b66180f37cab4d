/- The walks of the document's types and tags. -/
import Derived.Test.YtenegfafjjknoaaGreatDoorRefe
import Derived.Test.YtenegfafjjknoaaGreatDoorImx
namespace Go.Proofs.YtenegfafjjknoaaGreatDoor.Reft
open Go.RowKit Bytes Numw Mem Plain Tagw Bounds

/-- A type, as it is written. -/
def ty (K : Int) : ByteArray := if K = 99 then ⟨#[99]⟩ else if K = 115 then ⟨#[115]⟩ else if K = 109 then ⟨#[109, 115]⟩ else ⟨#[103]⟩

theorem ty_size (K : Int) : (ty K).size ≤ 2 := by
  unfold ty
  split
  · decide
  · split
    · decide
    · split <;> decide

theorem typeOf (nb wb : ByteArray) (K v r : Int) (sa : Option Addr) (sl sc : Nat) (w : World) :
    Calls Tryz.prog 86 #[.agg #[.string nb, .int .u8 K, .int .i64 v, .string wb, .int .i64 r, .slice sa sl sc]] w fun e w' => e = .returned (.string (ty K)) ∧ Below w.heap.size w w' := by
  by_cases h1 : K = 99
  · subst h1
    go_enter Tryz.func86, Tryz.ntmps86
    go_wp2_with fail
    go_ret
    exact ⟨rfl, below_new _⟩
  · have k1 : (K == 99) = false := by simpa using h1
    by_cases h2 : K = 115
    · subst h2
      go_enter Tryz.func86, Tryz.ntmps86
      go_wp2_with fail
      go_ret
      exact ⟨rfl, below_new _⟩
    · have k2 : (K == 115) = false := by simpa using h2
      by_cases h3 : K = 109
      · subst h3
        go_enter Tryz.func86, Tryz.ntmps86
        go_wp2_with fail
        go_ret
        exact ⟨rfl, below_new _⟩
      · have k3 : (K == 109) = false := by simpa using h3
        have e : ty K = ⟨#[103]⟩ := by
          unfold ty
          rw [if_neg h1, if_neg h2, if_neg h3]
        have HE := hide e
        clear e h1 h2 h3
        go_enter Tryz.func86, Tryz.ntmps86
        go_wp2_with fail
        go_ret
        exact ⟨by rw [HE.out]; rfl, below_new _⟩

/-! ### Tags behind a text -/
theorem join_snoc (l : List (List UInt8)) (x : List UInt8) (h : l ≠ []) : Lib.join (l ++ [x]) [44] = Lib.join l [44] ++ [44] ++ x := by
  induction l with
  | nil => exact absurd rfl h
  | cons y l ih =>
    cases l with
    | nil => simp [Lib.join, List.intercalate, List.intersperse]
    | cons z l =>
      have e : ∀ (a b : List UInt8) (m : List (List UInt8)), Lib.join (a :: b :: m) [44] = a ++ [44] ++ Lib.join (b :: m) [44] := by
        intro a b m
        simp [Lib.join, List.intercalate, List.intersperse]
      have ih' := ih (by simp)
      simp only [List.cons_append] at ih' ⊢
      rw [e, e, ih']
      simp only [List.append_assoc]

theorem pt_first (x : List UInt8) : pt [x] = [124, 35] ++ x := by
  rw [pt, if_neg (by simp)]
  simp [Lib.join, List.intercalate]

theorem pt_snoc (l : List (List UInt8)) (x : List UInt8) (h : l ≠ []) : pt (l ++ [x]) = pt l ++ [44] ++ x := by
  rw [pt, if_neg (by simp), pt, if_neg h, join_snoc l x h]
  simp

theorem pt_len (l : List (List UInt8)) (h : ∀ x ∈ l, x.length ≤ 8) : (pt l).length ≤ 2 + 9 * l.length := by
  unfold pt
  split
  · simp
  · have := join_len l h
    simp only [List.length_cons]
    omega

theorem take_pt_zero {ls : List (List UInt8)} {x : List UInt8} (h : ls[0]? = some x) : pt (ls.take 1) = pt (ls.take 0) ++ [124, 35] ++ x := by
  rw [List.take_add_one, h]
  show pt [x] = pt [] ++ [124, 35] ++ x
  rw [pt_first]
  rfl

theorem take_pt {ls : List (List UInt8)} {k : Nat} {x : List UInt8} (h : ls[k]? = some x) (hk : k ≠ 0) : pt (ls.take (k + 1)) = pt (ls.take k) ++ [44] ++ x := by
  rw [List.take_add_one, h, Option.toList_some, pt_snoc]
  intro hn
  have := (List.getElem?_eq_some_iff.1 h).1
  have hl : (ls.take k).length = 0 := by rw [hn]; rfl
  rw [List.length_take] at hl
  omega

set_option maxHeartbeats 1000000 in
theorem tagged_some (G cap : Nat) (ls : List (List UInt8)) (s : ByteArray) (w : World) (hs : s.size ≤ 1000) (hn : ls.length ≤ 4) (h8 : ∀ x ∈ ls, x.length ≤ 8) (hcell : ∀ j x, ls[j]? = some x → w.cell? ⟨G, j, none⟩ = some (.string ⟨x.toArray⟩)) :
    Calls Tryz.prog 87 #[.string s, .slice (some ⟨G, 0, none⟩) ls.length cap] w fun e w' => (∃ z, e = .returned (.string z) ∧ B z = B s ++ pt ls) ∧ w = w' := by
  have HC := hide hcell
  have H8 := hide h8
  clear hcell h8
  go_enter Tryz.func87, Tryz.ntmps87
  go_wp2_with fail
  go_loop [0, 5] (fun s0 s5 => ∃ (k : Nat) (u : ByteArray), s0 = .string u ∧ s5 = .int .i64 k ∧ k ≤ ls.length ∧ u.size ≤ 1000 + 11 * k ∧ Hid (B u = B s ++ pt (ls.take k)))
    (fun _ s5 => ls.length - (intOf s5).toNat)
  case atStart => exact ⟨0, s, rfl, rfl, Nat.zero_le _, by omega, hide (by show B s = B s ++ []; rw [List.append_nil])⟩
  case round =>
    obtain ⟨k, u, rfl, rfl, hk, hu, HU⟩ := hrel
    by_cases hlt : k < ls.length
    · have hltz : (k : Int) < (ls.length : Int) := by omega
      obtain ⟨x, hx⟩ : ∃ x, ls[k]? = some x := ⟨_, List.getElem?_eq_getElem hlt⟩
      obtain ⟨xb, hxb⟩ : ∃ xb : ByteArray, (⟨x.toArray⟩ : ByteArray) = xb := ⟨_, rfl⟩
      have hBx : B xb = x := by
        rw [← hxb]
        rfl
      have hcx : w.cell? ⟨G, k, none⟩ = some (.string xb) := by
        rw [HC.out k x hx, hxb]
      have hxz : xb.size ≤ 8 := by
        rw [size_B, hBx]
        exact H8.out x (List.mem_of_getElem? hx)
      have HX := hide hx
      have HBX := hide hBx
      clear hx hxb hBx
      by_cases hk0 : k = 0
      · subst hk0
        go_wp2_with fail
        go_round
        case rel =>
          refine ⟨1, _, rfl, by go_num, by omega, ?_, hide ?_⟩
          · rw [size_B]
            refine Nat.le_trans (Nat.le_of_eq (congrArg List.length ((B_append _ _).trans (congrArg (· ++ B xb) (B_append _ _))))) ?_
            simp only [List.length_append, ← size_B]
            show u.size + 2 + xb.size ≤ _
            omega
          · rw [take_pt_zero HX.out, ← HBX.out]
            refine ((B_append _ _).trans (congrArg (· ++ B xb) (B_append _ _))).trans ?_
            rw [HU.out]
            simp only [List.append_assoc]
            rfl
        case measure => simp [intOf]; omega
      · have hkz : ((k : Int) == 0) = false := by
          simp only [beq_eq_false_iff_ne]
          omega
        go_wp2_with fail
        go_round
        case rel =>
          refine ⟨k + 1, _, rfl, by go_num, by omega, ?_, hide ?_⟩
          · rw [size_B]
            refine Nat.le_trans (Nat.le_of_eq (congrArg List.length ((B_append _ _).trans (congrArg (· ++ B xb) (B_append _ _))))) ?_
            simp only [List.length_append, ← size_B]
            show u.size + 1 + xb.size ≤ _
            omega
          · rw [take_pt HX.out hk0, ← HBX.out]
            refine ((B_append _ _).trans (congrArg (· ++ B xb) (B_append _ _))).trans ?_
            rw [HU.out]
            simp only [List.append_assoc]
            rfl
        case measure => simp [intOf]; omega
    · have hltz : ¬ (k : Int) < (ls.length : Int) := by omega
      have hkk : k = ls.length := by omega
      subst hkk
      go_wp2_with fail
      go_ret
      refine ⟨⟨_, rfl, ?_⟩, rfl⟩
      have := HU.out
      rwa [List.take_length] at this

theorem tagged_nil (s : ByteArray) (w : World) :
    Calls Tryz.prog 87 #[.string s, .slice none 0 0] w fun e w' => e = .returned (.string s) ∧ w = w' := by
  go_enter Tryz.func87, Tryz.ntmps87
  go_wp2_with fail
  go_rounds 1
  go_ret
  exact ⟨rfl, rfl⟩

theorem tagged (lo : Nat) (lv : Value) (ls : List (List UInt8)) (s : ByteArray) (w : World) (hst : Strs lo w lv ls) (hs : s.size ≤ 1000) (hn : ls.length ≤ 4) (h8 : ∀ x ∈ ls, x.length ≤ 8) :
    Calls Tryz.prog 87 #[.string s, lv] w fun e w' => (∃ z, e = .returned (.string z) ∧ B z = B s ++ pt ls) ∧ w = w' := by
  rcases hst with ⟨rfl, rfl⟩ | ⟨g, cap, rfl, h1, h2, h3, h4⟩
  · refine (tagged_nil s w).mono fun e w' h => ?_
    obtain ⟨he, hw⟩ := h
    exact ⟨⟨s, he, by show B s = B s ++ []; rw [List.append_nil]⟩, hw⟩
  · exact tagged_some g cap ls s w hs hn h8 h4

end Go.Proofs.YtenegfafjjknoaaGreatDoor.Reft
