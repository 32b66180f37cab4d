/- The program's Parse: what it says of every text. The two plain forms are the same. No Go in sight. -/
import Derived.Test.YtenegfafjjknoaaGreatDoorPlainp
import Derived.Test.YtenegfafjjknoaaGreatDoorImx
import Derived.Test.YtenegfafjjknoaaGreatDoorSamex
import Derived.Test.YtenegfafjjknoaaGreatDoorRefp
namespace Go.Proofs.YtenegfafjjknoaaGreatDoor.Parsew
open Go.RowKit Bytes Nums Numw Mem Tags Tagw Opts Plain Readw Plainw Plainv Plainp Bounds

/-- A sample's plain form. -/
def plainOf (m : Smp) : List UInt8 := pform m.name m.kind m.signed m.value m.word m.rate m.tags

/-- What Parse says: the plain form and 0, or nothing and 2. -/
def parsed (l : List UInt8) : List UInt8 × Int := match rd l with
  | none => ([], 2)
  | some m => (plainOf m, 0)

theorem parsed_none {l : List UInt8} (h : rd l = none) : parsed l = ([], 2) := by
  rw [parsed, h]

theorem parsed_some {l : List UInt8} {m : Smp} (h : rd l = some m) : parsed l = (plainOf m, 0) := by
  rw [parsed, h]

theorem parse (s : ByteArray) (hs : s.size ≤ 140737488355328) (w : World) (ht : Tab w) :
    Calls Tryz.prog 13 #[.string s] w fun e w' => (∃ z, e = .returned (.tuple #[.string z, .int .i64 (parsed (B s)).2]) ∧ B z = (parsed (B s)).1) ∧ Below w.heap.size w w' := by
  have HT := hide ht
  clear ht
  go_enter Tryz.func13, Tryz.ntmps13
  go_wp2_with fail
  refine (read s hs w).mono ?_
  rintro e w1 ⟨hb1, ⟨hr, rfl⟩ | ⟨m, nb, kb, wb, tv, hr, hn, hk, hw, hst, rfl⟩⟩
  · have HR := hide (parsed_none hr)
    have HB1 := hide hb1
    clear hb1 hr
    unfold nothing
    go_wp2_with fail
    go_ret2
    refine ⟨⟨⟨#[]⟩, congrArg (fun x : Int => Ending.returned (.tuple #[.string ⟨#[]⟩, .int .i64 x])) (by rw [HR.out]), by rw [HR.out]; rfl⟩, HB1.out.trans ((below_new _).mono HB1.out.size)⟩
  · have HR := hide (parsed_some hr)
    obtain ⟨b1, b2, b3, b4, b5, b6, b7⟩ := rd_short hr
    have hjl := join_len _ b7
    obtain ⟨sa, sl, sc, rfl⟩ := hst.shape
    have hpf := fun (W : World) (hb : Below w1.heap.size w1 W) => plainForm nb kb wb m.signed m.value m.rate w.heap.size m.tags sa sl sc W (hst.below hb) ((HT.out.below hb1).below hb) (by rw [size_B, hn]; exact b1) (by rw [size_B, hk]; exact b2) (by rw [size_B, hw]; exact b3) (by omega) b6 b4.1 b4.2 b5.1 b5.2
    have HPF := hide hpf
    have HB1 := hide hb1
    have HM := hide (And.intro hn (And.intro hk hw))
    have he : pform (B nb) (B kb) m.signed m.value (B wb) m.rate m.tags = plainOf m := by
      rw [hn, hk, hw]
      rfl
    have HE := hide he
    clear hpf hb1 hn hk hw he hst b1 b2 b3 b4 b5 b6 b7 hjl hr
    unfold smp
    go_wp2_with (go_at_call 37; refine (HPF.out _ (below_new _)).mono ?_; rintro e w2 ⟨⟨z, rfl, hz⟩, hb2⟩)
    go_ret2
    refine ⟨⟨z, congrArg (fun x : Int => Ending.returned (.tuple #[.string z, .int .i64 x])) (by rw [HR.out]), ?_⟩, HB1.out.trans (((below_new _).trans (hb2.mono (by simp))).mono HB1.out.size)⟩
    rw [hz, HR.out]
    exact HE.out

end Go.Proofs.YtenegfafjjknoaaGreatDoor.Parsew

namespace Go.Proofs.YtenegfafjjknoaaGreatDoor.Same
open Bytes Nums Refs Refl Vals Opts Tags Spl Sorts Bounds

theorem rv_made {k l : List UInt8} {x : List UInt8 × Bool × Int × List UInt8} (h : rv k l = some x) :
    (x.1 = [99] ∧ x.2.1 = false) ∨ x.1 = [103] ∨ (x.1 = [115] ∧ x.2.1 = false) ∨ (x.1 = [109, 115] ∧ x.2.1 = false) := by
  unfold rv at h
  split at h
  · split at h
    · cases h
      exact Or.inr (Or.inr (Or.inl ⟨rfl, rfl⟩))
    · cases h
  · split at h
    · rw [Option.map_eq_some_iff] at h
      obtain ⟨y, _, rfl⟩ := h
      exact Or.inl ⟨rfl, rfl⟩
    · split at h
      · rw [Option.map_eq_some_iff] at h
        obtain ⟨y, _, rfl⟩ := h
        exact Or.inr (Or.inl rfl)
      · split at h
        · rw [Option.map_eq_some_iff] at h
          obtain ⟨y, _, rfl⟩ := h
          exact Or.inr (Or.inr (Or.inr ⟨rfl, rfl⟩))
        · cases h

theorem rd_made {l : List UInt8} {m : Smp} (h : rd l = some m) :
    (m.kind = [99] ∧ m.signed = false) ∨ m.kind = [103] ∨ (m.kind = [115] ∧ m.signed = false) ∨ (m.kind = [109, 115] ∧ m.signed = false) := by
  unfold rd rdBehind at h
  split at h
  · split at h
    · split at h
      · rw [Option.bind_eq_some_iff] at h
        obtain ⟨x, hx, h⟩ := h
        have hm := rv_made hx
        split at h
        · rw [Option.map_eq_some_iff] at h
          obtain ⟨o, _, rfl⟩ := h
          exact hm
        · cases h
          exact hm
      · cases h
    · cases h
  · cases h

theorem pv_same (k : List UInt8) (g : Bool) (v : Int) (x : List UInt8) (h : (k = [99] ∧ g = false) ∨ k = [103] ∨ (k = [115] ∧ g = false) ∨ (k = [109, 115] ∧ g = false)) :
    Refp.pvr (kb k g) v x = Plainv.pvf k g v x ∧ B (Reft.ty (kb k g)) = k := by
  have hw : ∀ v : Int, (if v < 0 then [45] else []) ++ Plain.wnAbs v.natAbs = Plain.wn v := fun v => rfl
  rcases h with ⟨rfl, rfl⟩ | rfl | ⟨rfl, rfl⟩ | ⟨rfl, rfl⟩
  · exact ⟨by show (if v < 0 then [45] else []) ++ Plain.wnAbs v.natAbs = Plainv.pvf [99] false v x; rw [hw, Plainv.pvf, if_neg (by decide), Plainv.pn_false], rfl⟩
  · cases g with
    | true =>
      refine ⟨?_, rfl⟩
      show (if v < 0 then [45] else [43]) ++ Plain.wnAbs v.natAbs = Plainv.pvf [103] true v x
      rw [show Plainv.pvf [103] true v x = Plainv.pn true v from rfl]
      by_cases hv : v < 0
      · rw [if_pos hv, Plainv.pn, if_neg (fun h => by omega), Plain.wn, if_pos hv]
      · rw [if_neg hv, Plainv.pn_plus (by omega), Plain.wn, if_neg hv]
        rfl
    | false =>
      refine ⟨?_, rfl⟩
      show (if v < 0 then [45] else []) ++ Plain.wnAbs v.natAbs = Plainv.pvf [103] false v x
      rw [hw, Plainv.pvf, if_neg (by decide), Plainv.pn_false]
  · exact ⟨rfl, rfl⟩
  · exact ⟨by show (if v < 0 then [45] else []) ++ Plain.wnAbs v.natAbs = Plainv.pvf [109, 115] false v x; rw [hw, Plainv.pvf, if_neg (by decide), Plainv.pn_false], rfl⟩

/-- THE PLAIN FORMS are the same. -/
theorem pf_same {l : List UInt8} {m : Smp} (h : rd l = some m) : Refp.pfr (cv m).name (cv m).kind (cv m).value (cv m).word (cv m).rate (cv m).tags = Parsew.plainOf m := by
  have hk := rd_made h
  have hs := rd_short h
  obtain ⟨e1, e2⟩ := pv_same m.kind m.signed m.value m.word hk
  show Refp.pfr m.name (kb m.kind m.signed) m.value m.word m.rate m.tags = Plainp.pform m.name m.kind m.signed m.value m.word m.rate m.tags
  have er : Plain.wnAbs m.rate.toNat = Plain.wn m.rate := by
    have := hs.2.2.2.2.1
    rw [Plain.wn, if_neg (by omega), List.nil_append]
    congr 1
    omega
  rw [Refp.pfr, Plainp.pform, e1, e2, er]

/-- What the document's Parse says. -/
def refParsed (l : List UInt8) : List UInt8 × Int := match refRd l with
  | none => ([], 2)
  | some m => (Refp.pfr m.name m.kind m.value m.word m.rate m.tags, 0)

theorem rp_none {l : List UInt8} (h : refRd l = none) : refParsed l = ([], 2) := by
  rw [refParsed, h]

theorem rp_some {l : List UInt8} {m : Rs} (h : refRd l = some m) : refParsed l = (Refp.pfr m.name m.kind m.value m.word m.rate m.tags, 0) := by
  rw [refParsed, h]

/-- What is read is short. -/
def Short (m : Rs) : Prop := m.name.length ≤ 16 ∧ m.word.length ≤ 16 ∧ (-999999999 ≤ m.value ∧ m.value ≤ 999999999) ∧ (1 ≤ m.rate ∧ m.rate ≤ 1000) ∧ m.tags.length ≤ 4 ∧ ∀ x ∈ m.tags, x.length ≤ 8

theorem short_of {l : List UInt8} {m : Rs} (h : refRd l = some m) : Short m := by
  rw [refRd_eq, Option.map_eq_some_iff] at h
  obtain ⟨n, hn, rfl⟩ := h
  obtain ⟨h1, h2, h3, h4, h5, h6, h7⟩ := rd_short hn
  exact ⟨h1, h3, h4, h5, h6, h7⟩

/-- THE ANSWERS are the same. -/
theorem refParsed_eq (l : List UInt8) : refParsed l = Parsew.parsed l := by
  cases h : rd l with
  | none =>
    rw [rp_none (by rw [refRd_eq, h]; rfl), Parsew.parsed_none h]
  | some m =>
    rw [rp_some (m := cv m) (by rw [refRd_eq, h]; rfl), Parsew.parsed_some h, pf_same h]

/-- The document's line: a.b:012.50|c|@0.10|#z,b,z -/
theorem lit_said : Parsew.parsed [97, 46, 98, 58, 48, 49, 50, 46, 53, 48, 124, 99, 124, 64, 48, 46, 49, 48, 124, 35, 122, 44, 98, 44, 122] = ([97, 46, 98, 58, 49, 50, 46, 53, 124, 99, 124, 64, 48, 46, 49, 124, 35, 98, 44, 122], 0) := by
  rw [← refParsed_eq]
  decide +kernel

end Go.Proofs.YtenegfafjjknoaaGreatDoor.Same
