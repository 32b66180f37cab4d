/- The program's Parse: what it says of every text. -/
import Derived.Test.YtenegfafjjknoaaGreatDoorPlainp
import Derived.Test.YtenegfafjjknoaaGreatDoorImx
namespace Go.Proofs.YtenegfafjjknoaaGreatDoor.Parsew
open Go.RowKit Bytes Nums Numw Mem Tags Tagw Opts Plain Readw Plainw Plainv Plainp Bounds

/-- A sample's plain form. -/
def plainOf (m : Smp) : List UInt8 := pform m.name m.kind m.signed m.value m.word m.rate m.tags

/-- What Parse says: the plain form and 0, or nothing and 2. -/
def parsed (l : List UInt8) : List UInt8 × Int := match rd l with
  | none => ([], 2)
  | some m => (plainOf m, 0)

theorem parsed_none {l : List UInt8} (h : rd l = none) : parsed l = ([], 2) := by
  rw [parsed, h]

theorem parsed_some {l : List UInt8} {m : Smp} (h : rd l = some m) : parsed l = (plainOf m, 0) := by
  rw [parsed, h]

theorem parse (s : ByteArray) (hs : s.size ≤ 140737488355328) (w : World) (ht : Tab w) :
    Calls Tryz.prog 13 #[.string s] w fun e w' => (∃ z, e = .returned (.tuple #[.string z, .int .i64 (parsed (B s)).2]) ∧ B z = (parsed (B s)).1) ∧ Below w.heap.size w w' := by
  have HT := hide ht
  clear ht
  go_enter Tryz.func13, Tryz.ntmps13
  go_wp2_with fail
  refine (read s hs w).mono ?_
  rintro e w1 ⟨hb1, ⟨hr, rfl⟩ | ⟨m, nb, kb, wb, tv, hr, hn, hk, hw, hst, rfl⟩⟩
  · have HR := hide (parsed_none hr)
    have HB1 := hide hb1
    clear hb1 hr
    unfold nothing
    go_wp2_with fail
    go_ret2
    refine ⟨⟨⟨#[]⟩, congrArg (fun x : Int => Ending.returned (.tuple #[.string ⟨#[]⟩, .int .i64 x])) (by rw [HR.out]), by rw [HR.out]; rfl⟩, HB1.out.trans ((below_new _).mono HB1.out.size)⟩
  · have HR := hide (parsed_some hr)
    obtain ⟨b1, b2, b3, b4, b5, b6, b7⟩ := rd_short hr
    have hjl := join_len _ b7
    obtain ⟨sa, sl, sc, rfl⟩ := hst.shape
    have hpf := fun (W : World) (hb : Below w1.heap.size w1 W) => plainForm nb kb wb m.signed m.value m.rate w.heap.size m.tags sa sl sc W (hst.below hb) ((HT.out.below hb1).below hb) (by rw [size_B, hn]; exact b1) (by rw [size_B, hk]; exact b2) (by rw [size_B, hw]; exact b3) (by omega) b6 b4.1 b4.2 b5.1 b5.2
    have HPF := hide hpf
    have HB1 := hide hb1
    have HM := hide (And.intro hn (And.intro hk hw))
    have he : pform (B nb) (B kb) m.signed m.value (B wb) m.rate m.tags = plainOf m := by
      rw [hn, hk, hw]
      rfl
    have HE := hide he
    clear hpf hb1 hn hk hw he hst b1 b2 b3 b4 b5 b6 b7 hjl hr
    unfold smp
    go_wp2_with (go_at_call 37; refine (HPF.out _ (below_new _)).mono ?_; rintro e w2 ⟨⟨z, rfl, hz⟩, hb2⟩)
    go_ret2
    refine ⟨⟨z, congrArg (fun x : Int => Ending.returned (.tuple #[.string z, .int .i64 x])) (by rw [HR.out]), ?_⟩, HB1.out.trans (((below_new _).trans (hb2.mono (by simp))).mono HB1.out.size)⟩
    rw [hz, HR.out]
    exact HE.out

end Go.Proofs.YtenegfafjjknoaaGreatDoor.Parsew
