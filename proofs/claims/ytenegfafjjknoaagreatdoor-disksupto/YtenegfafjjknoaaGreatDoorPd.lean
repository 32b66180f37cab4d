/- deed, whatever its kind. -/
import Derived.Test.YtenegfafjjknoaaGreatDoorPd1
import Derived.Test.YtenegfafjjknoaaGreatDoorPd2
import Derived.Test.YtenegfafjjknoaaGreatDoorPd3
import Derived.Test.YtenegfafjjknoaaGreatDoorPd4
import Derived.Test.YtenegfafjjknoaaGreatDoorPd5
import Derived.Test.YtenegfafjjknoaaGreatDoorPd7
import Derived.Test.YtenegfafjjknoaaGreatDoorPd8
import Derived.Test.YtenegfafjjknoaaGreatDoorPz
namespace Go.Proofs.YtenegfafjjknoaaGreatDoor.Pp
open Go.RowKit Mem Foot Dm Dh Dr

theorem deed (px : Nat) (S : Dk) (p : PI) (d : Dd) (w : World) {K U : Nat} (hP : Pr w px S p) (hf : Fit S K U) (hK : K ≤ 100000000) (hU : U + d.t.size ≤ 1000000000000) (hv : p.vs.length ≤ 100000000) (hd : d.ok) :
    Calls Tryz.prog 29 #[.pointer (some ⟨px, 0, none⟩), .agg #[.int .i64 d.c, .int .i64 d.k, .int .i64 d.a, .int .i64 d.b, .string d.t]] w fun e w' => e = .returned (.bool true) ∧ Off (foot px S p) w w' ∧ ∃ S' p', Pr w' px S' p' ∧ Fit S' (K + 1) (U + d.t.size) ∧ p'.vs.length ≤ p.vs.length + 1 ∧ ∀ k ∈ foot px S' p', k ∈ foot px S p ∨ w.heap.size ≤ k := by
  obtain ⟨c, k, a, b, t⟩ := d
  obtain ⟨_, ha, hb⟩ := hd
  show Calls Tryz.prog _ #[_, .agg #[.int .i64 c, .int .i64 k, .int .i64 a, .int .i64 b, .string t]] w _
  by_cases h1 : k = 1
  · subst h1
    exact deed_append px S p c a b t w hP hf hK hU ha
  by_cases h2 : k = 2
  · subst h2
    exact deed_read px S p c a b t w hP hf hK hU
  by_cases h3 : k = 3
  · subst h3
    exact deed_sync px S p c a b t w hP hf hK hU
  by_cases h4 : k = 4
  · subst h4
    exact deed_trunc px S p c a b t w hP hf hK hU
  by_cases h5 : k = 5
  · subst h5
    exact deed_delete px S p c a b t w hP hf hK hU
  by_cases h6 : k = 6
  · subst h6
    exact deed_list px S p c a b t w hP hf hK hU hv
  by_cases h7 : k = 7
  · subst h7
    exact deed_limit px S p c a b t w hP hf hK hU ha hb
  by_cases h8 : k = 8
  · subst h8
    exact deed_crash px S p c a b t w hP hf hK hU
  exact deed_none px S p c a b t w hP hf hK hU k h1 h2 h3 h4 h5 h6 h7 h8

end Go.Proofs.YtenegfafjjknoaaGreatDoor.Pp
