/- The walk of what stands behind a line's type. -/
import Derived.Test.YtenegfafjjknoaaGreatDoorTagw
import Derived.Test.YtenegfafjjknoaaGreatDoorValj
import Derived.Test.YtenegfafjjknoaaGreatDoorOpts
namespace Go.Proofs.YtenegfafjjknoaaGreatDoor.Optw
open Go.RowKit Bytes Nums Numw Mem Tags Tagw Opts

theorem cutF (s : ByteArray) (c : UInt8) (hs : s.size ≤ 9223372036854775807) (f : Bool) (hf : has c (B s) = f) (w : World) :
    Calls Tryz.prog 73 #[.string s, .string ⟨#[c]⟩] w fun e w' => (∃ a b, e = .returned (.tuple #[.string a, .string b, .bool f]) ∧ B a = fore c (B s) ∧ B b = aft c (B s) ∧ a.size ≤ s.size ∧ b.size ≤ s.size) ∧ ∃ n, w' = w.drewN n := by
  rw [← hf]
  exact Texts.cut1 s c hs w

/-- What readOptions says and leaves. -/
def Opted (b : Nat) (k l : List UInt8) (nm kb g v wb : Value) (w : World) (e : Ending) (w' : World) : Prop :=
  But b w w' ∧ ((opts k l = none ∧ e = .returned (.bool false)) ∨ (∃ r ls tv, opts k l = some (r, ls) ∧ e = .returned (.bool true) ∧ Strs w.heap.size w' tv ls ∧ Sits w' b 80 #[nm, kb, g, v, wb, .int .i64 r, tv]))

theorem opt_tags (b : Nat) (s kb : ByteArray) (hs : s.size ≤ 140737488355328) (w : World) (nm g v wb : Value) (hf : Lib.hasPrefix s.data.toList [64] = false)
    (hS : Sits w b 80 #[nm, .string kb, g, v, wb, .int .i64 1000, .slice none 0 0]) :
    Calls Tryz.prog 76 #[.pointer (some ⟨b, 0, none⟩), .string s] w fun e w' => Opted b (B kb) (B s) nm (.string kb) g v wb w e w' := by
  have HP := hide hf
  have HS := hide hS
  clear hf hS
  go_enter Tryz.func76, Tryz.ntmps76
  go_wp2_with (first
    | (go_at_call 133; refine (cutPreF s ⟨#[64]⟩ HP.out _).mono ?_; rintro e w' ⟨⟨a, rfl, hsa⟩, rfl⟩)
    | (go_at_call 134; refine (readTags b s hs _ _ _ _ _ _ _ _ HS.out).mono ?_; rintro e w' ⟨hb, ⟨ht, rfl⟩ | ⟨ls, tv, ht, rfl, hst, hs'⟩⟩))
  · go_ret
    exact ⟨hb, Or.inl ⟨by rw [opts_tags (l := B s) HP.out, ht]; rfl, rfl⟩⟩
  · go_ret
    exact ⟨hb, Or.inr ⟨1000, ls, tv, by rw [opts_tags (l := B s) HP.out, ht]; rfl, rfl, hst, hs'⟩⟩

theorem opt_bar (b : Nat) (s kb : ByteArray) (w : World) (nm g v wb : Value) (hf : Lib.hasPrefix s.data.toList [64] = true) (hk : B kb = [103] ∨ B kb = [115])
    (hS : Sits w b 80 #[nm, .string kb, g, v, wb, .int .i64 1000, .slice none 0 0]) :
    Calls Tryz.prog 76 #[.pointer (some ⟨b, 0, none⟩), .string s] w fun e w' => Opted b (B kb) (B s) nm (.string kb) g v wb w e w' := by
  have HP := hide hf
  have c1 := hS.cell 1 _ rfl
  have HK := hide hk
  have hk' : kb = ⟨#[103]⟩ ∨ kb = ⟨#[115]⟩ := hk.imp (fun h => B_inj h) (fun h => B_inj h)
  clear hf hk hS
  rcases hk' with rfl | rfl
  all_goals
    go_enter Tryz.func76, Tryz.ntmps76
    go_wp2_with (go_at_call 133; refine (cutPreT s ⟨#[64]⟩ 1 rfl HP.out _).mono ?_; rintro e w' ⟨⟨a, rfl, ha, hsa⟩, rfl⟩)
    go_ret
    exact ⟨But.refl _ _, Or.inl ⟨opts_bar (l := B s) HP.out HK.out, rfl⟩⟩

theorem opt_rate (b : Nat) (s kb : ByteArray) (hs : s.size ≤ 140737488355328) (w : World) (nm g v wb : Value) (hf : Lib.hasPrefix s.data.toList [64] = true) (hk : ¬ (B kb = [103] ∨ B kb = [115])) (f : Bool) (hh : has 124 ((B s).drop 1) = f)
    (hS : Sits w b 80 #[nm, .string kb, g, v, wb, .int .i64 1000, .slice none 0 0]) :
    Calls Tryz.prog 76 #[.pointer (some ⟨b, 0, none⟩), .string s] w fun e w' => Opted b (B kb) (B s) nm (.string kb) g v wb w e w' := by
  have HP := hide hf
  have HS := hide hS
  have c1 := hS.cell 1 _ rfl
  have HK := hide hk
  have HH := hide hh
  have k1 : (kb.toList == [103]) = false := Vals.ne_list (fun h => hk (Or.inl h))
  have k2 : (kb.toList == [115]) = false := Vals.ne_list (fun h => hk (Or.inr h))
  clear hf hk hS hh
  go_enter Tryz.func76, Tryz.ntmps76
  go_wp2_with (go_at_call 133; refine (cutPreT s ⟨#[64]⟩ 1 rfl HP.out _).mono ?_; rintro e w' ⟨⟨a, rfl, ha, hsa⟩, rfl⟩)
  refine (cutF a 124 (by omega) f (by rw [ha]; exact HH.out) _).mono ?_
  rintro e w' ⟨⟨r, t, rfl, hr, ht, hsr, hst⟩, n, rfl⟩
  go_wp2_with fail
  refine (readRate r (by omega) _).mono ?_
  rw [ha] at hr ht
  have hO := opts_rate (k := B kb) (l := B s) HP.out HK.out
  rw [HH.out] at hO
  have HO := hide hO
  clear hO
  rintro e w2 ⟨⟨q, hq, rfl⟩ | ⟨hq, rfl⟩, hbw⟩
  · rw [hr] at hq
    have hbw' : Below w.heap.size w w2 := below_back hbw
    have hS2 := HS.out.below hbw' HS.out.lt
    have f5 := hS2.frozen 5
    have c5 := hS2.cell 5 _ rfl
    have HS2 := hide hS2
    have HW := hide hbw'
    have HQ := hide hq
    clear hS2 hbw hbw' hq
    cases f with
    | false =>
      go_wp2_with fail
      go_ret
      refine ⟨(But.of_below HW.out).set 5 _, Or.inr ⟨q, [], _, ?_, rfl, Or.inl ⟨rfl, rfl⟩, HS2.out.set 5 _⟩⟩
      rw [HO.out, HQ.out]
      rfl
    | true =>
      go_wp2_with fail
      have hS3 := HS2.out.set 5 (.int .i64 q)
      refine (readTags b t (by omega) _ _ _ _ _ _ _ _ hS3).mono ?_
      rintro e w3 ⟨hb3, ⟨h3, rfl⟩ | ⟨ls, tv, h3, rfl, hst3, hs3⟩⟩
      · have HB := hide hb3
        rw [ht] at h3
        have H3 := hide h3
        clear hb3 h3 hS3
        go_wp2_with fail
        go_ret
        refine ⟨((But.of_below HW.out).set 5 _).trans HB.out, Or.inl ⟨?_, rfl⟩⟩
        rw [HO.out, HQ.out]
        show ((tagsOf (aft 124 ((B s).drop 1))).map fun t => (q, t)) = none
        rw [H3.out]
        rfl
      · have HB := hide hb3
        rw [ht] at h3
        have H3 := hide h3
        have HT := hide hst3
        have HZ := hide hs3
        clear hb3 h3 hS3 hst3 hs3
        go_wp2_with fail
        go_ret
        refine ⟨((But.of_below HW.out).set 5 _).trans HB.out, Or.inr ⟨q, ls, tv, ?_, rfl, HT.out.mono (by simpa using HW.out.size), HZ.out⟩⟩
        rw [HO.out, HQ.out]
        show ((tagsOf (aft 124 ((B s).drop 1))).map fun t => (q, t)) = some (q, ls)
        rw [H3.out]
        rfl
  · rw [hr] at hq
    have hbw' : Below w.heap.size w w2 := below_back hbw
    have hS2 := HS.out.below hbw' HS.out.lt
    have f5 := hS2.frozen 5
    have c5 := hS2.cell 5 _ rfl
    have HW := hide hbw'
    have HQ := hide hq
    clear hS2 hbw hbw' hq
    go_wp2_with fail
    go_ret
    refine ⟨(But.of_below HW.out).set 5 _, Or.inl ⟨?_, rfl⟩⟩
    rw [HO.out, HQ.out]
    rfl

theorem readOptions (b : Nat) (s kb : ByteArray) (hs : s.size ≤ 140737488355328) (w : World) (nm g v wb : Value)
    (hS : Sits w b 80 #[nm, .string kb, g, v, wb, .int .i64 1000, .slice none 0 0]) :
    Calls Tryz.prog 76 #[.pointer (some ⟨b, 0, none⟩), .string s] w fun e w' => Opted b (B kb) (B s) nm (.string kb) g v wb w e w' := by
  cases hf : Lib.hasPrefix s.data.toList [64] with
  | false => exact opt_tags b s kb hs w nm g v wb hf hS
  | true =>
    by_cases hk : B kb = [103] ∨ B kb = [115]
    · exact opt_bar b s kb w nm g v wb hf hk hS
    · exact opt_rate b s kb hs w nm g v wb hf hk _ rfl hS

end Go.Proofs.YtenegfafjjknoaaGreatDoor.Optw
