/- The document's Parse: what it says of every text. -/
import Derived.Test.YtenegfafjjknoaaGreatDoorRefr
import Derived.Test.YtenegfafjjknoaaGreatDoorRefp
import Derived.Test.YtenegfafjjknoaaGreatDoorSame4
namespace Go.Proofs.YtenegfafjjknoaaGreatDoor.Refpa
open Go.RowKit Bytes Nums Refs Numw Mem Refl Refr Refp Tagw Same

theorem refParse (s : ByteArray) (hs : s.size ≤ 140737488355328) (w : World) :
    Calls Tryz.prog 14 #[.string s] w fun e w' => (∃ z, e = .returned (.tuple #[.string z, .int .i64 (refParsed (B s)).2]) ∧ B z = (refParsed (B s)).1) ∧ Below w.heap.size w w' := by
  go_enter Tryz.func14, Tryz.ntmps14
  go_wp2_with fail
  refine (Refr.read s hs w).mono ?_
  rintro e w1 ⟨hb1, ⟨hr, nb, K, v, wb, r, sa, sl, sc, rfl⟩ | ⟨m, nb, wb, tv, hr, hn, hw, hst, rfl⟩⟩
  · have HR := hide (rp_none hr)
    have HB1 := hide hb1
    clear hb1 hr
    unfold rsm
    go_wp2_with fail
    go_ret2
    refine ⟨⟨⟨#[]⟩, congrArg (fun x : Int => Ending.returned (.tuple #[.string ⟨#[]⟩, .int .i64 x])) (by rw [HR.out]), by rw [HR.out]; rfl⟩, HB1.out.trans ((below_new _).mono HB1.out.size)⟩
  · have HR := hide (rp_some hr)
    obtain ⟨b1, b2, b3, b4, b5, b6⟩ := short_of hr
    obtain ⟨sa, sl, sc, rfl⟩ := hst.shape
    have hpf := fun (W : World) (hb : Below w1.heap.size w1 W) => refPlain nb wb m.kind m.value m.rate w.heap.size m.tags sa sl sc W (hst.below hb) (by rw [size_B, hn]; exact b1) (by rw [size_B, hw]; exact b2) b5 b6 b3.1 b3.2 b4.1 b4.2
    have HPF := hide hpf
    have HB1 := hide hb1
    have he : pfr (B nb) m.kind m.value (B wb) m.rate m.tags = pfr m.name m.kind m.value m.word m.rate m.tags := by
      rw [hn, hw]
    have HE := hide he
    clear hpf hb1 hn hw he hst b1 b2 b3 b4 b5 b6 hr
    unfold rsm
    go_wp2_with (go_at_call 39; refine (HPF.out _ (below_new _)).mono ?_; rintro e w2 ⟨⟨z, rfl, hz⟩, hb2⟩)
    go_ret2
    refine ⟨⟨z, congrArg (fun x : Int => Ending.returned (.tuple #[.string z, .int .i64 x])) (by rw [HR.out]), ?_⟩, HB1.out.trans (((below_new _).trans (hb2.mono (by simp))).mono HB1.out.size)⟩
    rw [hz, HR.out]
    exact HE.out

end Go.Proofs.YtenegfafjjknoaaGreatDoor.Refpa
