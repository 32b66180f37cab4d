/- The program's shards in memory: the hash of a key. -/
import Derived.Test.YtenegfafjjknoaaGreatDoorHb
namespace Go.Proofs.YtenegfafjjknoaaGreatDoor.Hs
open Go.RowKit Go.Maps Mem Foot Im Wm Hk Hb

def hst (x : Int) (c : UInt8) : Int := bits .xor .u32 x ((c.toNat : Int) % 4294967296) * 16777619 % 4294967296
def hsh (l : Bs) : Int := l.foldl hst 2166136261

theorem hsh_range (l : Bs) : 0 ≤ hsh l ∧ hsh l ≤ 4294967295 := by
  unfold hsh
  rcases List.eq_nil_or_concat l with rfl | ⟨r, c, rfl⟩
  · decide
  · rw [List.concat_eq_append, List.foldl_append]
    simp only [List.foldl_cons, List.foldl_nil, hst]
    omega

theorem hashW (s : ByteArray) (hs : s.size ≤ 1000) (w : World) : Calls Tryz.prog 325 #[.string s] w fun e w' => e = .returned (.int .u32 (hsh (Bytes.B s))) ∧ w' = w := by
  go_enter Tryz.func325, Tryz.ntmps325
  go_wp2
  go_loop [3, 7] (fun h i => ∃ (x : Int) (k : Nat), h = .int .u32 x ∧ i = .int .i64 k ∧ k ≤ s.size ∧ 0 ≤ x ∧ x ≤ 4294967295 ∧ Hid (x = hsh ((Bytes.B s).take k))) (fun _ i => s.size - (intOf i).toNat)
  case atStart => exact ⟨2166136261, 0, rfl, rfl, by omega, by omega, by omega, rfl⟩
  case round =>
    obtain ⟨x, k, rfl, rfl, hk, h0, h1, HX⟩ := hrel
    by_cases hkl : k < s.size
    · have hkz : (k : Int) < (s.size : Int) := by omega
      have e : hsh ((Bytes.B s).take (k + 1)) = hst x s[k] := by
        rw [HX.out, List.take_add_one, Bytes.B_get hkl]
        unfold hsh
        rw [Option.toList_some, List.foldl_append]
        rfl
      have HE := hide e
      have hr := hsh_range ((Bytes.B s).take (k + 1))
      rw [e] at hr
      have HR := hide hr
      clear e hr
      go_wp2
      refine ⟨⟨hst x s[k], k + 1, rfl, by go_num, by omega, HR.out.1, HR.out.2, HE.out.symm⟩, ?_⟩
      simp only [intOf]
      omega
    · have hkz : ¬ (k : Int) < (s.size : Int) := by omega
      have hk2 : k = s.size := by omega
      have HE := hide (show x = hsh (Bytes.B s) by rw [HX.out, hk2, Bytes.size_B, List.take_length])
      clear hk2
      go_wp2
      go_ret
      exact ⟨by rw [← HE.out]; rfl, rfl⟩

end Go.Proofs.YtenegfafjjknoaaGreatDoor.Hs
