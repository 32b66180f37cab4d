/- Proved: at every number v the law Near returns true: for x from 0 to 1000000000 (out of v) the bucket of x is from 0 to x, 50 times the difference of x and what its bucket stands for is at most x and 50, and the bucket of x + 1 is the same or the next one, which stands for more; v reads afterwards as it did. No condition. -/
import Derived.Test.YtenegfafjjknoaaRows
import Derived.WalkKit
import Derived.ProofKit
import Derived.OpenShut
import Derived.Test.YtenegfafjjknoaaWalks
namespace Go.Proofs.Ytenegfafjjknoaa.near
open Go.ChangeShapes Go.WideShapes Go.ChangeAt Go.RowKit
set_option linter.unusedVariables false      -- a walk need not use every 'w<i>' (that an integer argument fits its kind)

theorem own : ownKnob Try.prog.godebug = none := by kernel_rfl

theorem pick (c : Int) (h1 : -9223372036854775808 ≤ c) (h2 : c ≤ 9223372036854775807) (w : World) :
    Calls Try.prog 8 #[.int .i64 c, .int .i64 1000000001] w fun e w' => (∃ x, e = .returned (.int .i64 x) ∧ 0 ≤ x ∧ x ≤ 1000000000) ∧ w = w' := by
  go_enter Try.func8, Try.ntmps8
  go_wp2
  · have t1 : c < 0 := by assumption
    have e : -((c + 1).tmod 1000000001) = (-(c + 1)) % 1000000001 := by
      rw [← Int.neg_tmod, Int.tmod_eq_emod_of_nonneg (by omega)]
    go_ret
    exact ⟨⟨_, rfl, by rw [e]; omega, by rw [e]; omega⟩, rfl⟩
  · go_ret
    exact ⟨⟨_, rfl, by omega, by omega⟩, rfl⟩

/-! ### STEP 1: THE WALK: the Go text returns true. 'Grown w w'': the world has at most new blocks (Derived/RowKit3.lean). Part the cases AHEAD of 'go_enter' where a test parts the walk; take each callee by a contract of your own. -/
theorem walk (a0 : Int) (w0 : (Lit.int .i64 a0).wf = true) (w : World) :
    Calls Try.prog 4 #[.int .i64 a0] w fun e w' => e = .returned (.bool true) ∧ Grown w w' := by
  obtain ⟨b1, b2⟩ := bounds_i64 w0
  clear w0
  go_enter Try.func4, Try.ntmps4
  go_wp2_with (go_at_call 8; refine (pick a0 b1 b2 _).mono ?_; rintro e w' ⟨⟨x, rfl, x1, x2⟩, rfl⟩)
  go_at_call 6
  refine (Walks.bucket x _).mono ?_
  rintro e w' ⟨⟨n, s, rfl, hb⟩, rfl⟩
  obtain ⟨n1, n2, n3, n4, n5, n6⟩ := Bnd.near hb x1 x2
  go_wp2_with fail
  · have t1 : (x == 1000000000) = true := by assumption
    have t2 : x = 1000000000 := by simpa using t1
    have t3 : 100 < n := Bnd.near_top (e := s) (by rw [← t2]; exact hb)
    have t4 : decide (100 < n) = true := decide_eq_true t3
    go_ret
    exact ⟨congrArg (fun z => Ending.returned (.bool z)) t4, Grown.refl _⟩
  · have t1 : (x == 1000000000) = false := by assumption
    have t2 : x < 1000000000 := by
      have : ¬ x = 1000000000 := by simpa using t1
      omega
    refine (Walks.bucket (x + 1) _).mono ?_
    rintro e w' ⟨⟨m, f, rfl, hc⟩, rfl⟩
    rcases Bnd.near_next hb hc x1 t2 with ⟨rfl, rfl⟩ | ⟨rfl, hlt⟩
    · go_wp2_with fail
      go_ret
      exact ⟨rfl, Grown.refl _⟩
    · go_wp2_with fail
      go_ret
      exact ⟨rfl, Grown.refl _⟩
  · have t1 : (x == 1000000000) = true := by assumption
    have t2 : x = 1000000000 := by simpa using t1
    have t3 : 100 < n := Bnd.near_top (e := s) (by rw [← t2]; exact hb)
    have t4 : decide (100 < n) = true := decide_eq_true t3
    go_ret
    exact ⟨congrArg (fun z => Ending.returned (.bool z)) t4, Grown.refl _⟩
  · have t1 : (x == 1000000000) = false := by assumption
    have t2 : x < 1000000000 := by
      have : ¬ x = 1000000000 := by simpa using t1
      omega
    refine (Walks.bucket (x + 1) _).mono ?_
    rintro e w' ⟨⟨m, f, rfl, hc⟩, rfl⟩
    rcases Bnd.near_next hb hc x1 t2 with ⟨rfl, rfl⟩ | ⟨rfl, hlt⟩
    · go_wp2_with fail
      go_ret
      exact ⟨rfl, Grown.refl _⟩
    · go_wp2_with fail
      go_ret
      exact ⟨rfl, Grown.refl _⟩

/-! ### THE ROW's STEP: WRITTEN OUT: LEAVE IT -/
set_option maxRecDepth 100000 in
theorem lifted (os : Os) (started : os.Started) (H : Type) (enc : TypeId × Value → H) :
    ReturnsInHanded {} Try.checked os 4 .any (Rows.nearSpec.pre6 enc Try.prog Try.f4 Rows.nearRow.domain false) (Rows.nearSpec.post enc Try.prog Try.f4 false true false false) := by
  refine returnsInHanded_of_change (C := Try.checked) own started (by kernel_rfl) Try.func4
    (ChangeSpec.witness6 (enc := enc) (C := Try.checked) false ⟨#[], #[.int .i64 0], []⟩ 8 (by kernel_rfl) (by kernel_rfl) (by kernel_rfl) (by kernel_rfl)) ?_
  intro W base args ds gs before hval0 hW hcnd _
  have hval : ∀ (j : Nat) t v, Try.f4.params[j]? = some t → args[j]? = some v → Value.okWide Try.prog W .any base t v := hval0
  have hW' := hW
  obtain ⟨p, q, hA0, hV, rfl, hfz, hnd⟩ := hW
  have hA : DataW.TrodAll enc Try.prog W 0 (fun _ => true) true Try.f4.params.toList args.toList ds p := hA0
  rw [Try.params4] at hA hval
  obtain ⟨v0, vs0, d0, ds0, p0, q0, hargs, rfl, rfl, h0, r0⟩ := trodAll_cons hA
  obtain ⟨rfl, rfl, rfl⟩ := trodAll_nil r0
  obtain rfl : args = #[v0] := by cases args; simp_all
  obtain ⟨rfl, rfl⟩ := trodVars_none hV
  obtain ⟨a0, rfl, rfl, rfl, w0⟩ := open_int Try.underlying3 (hval 0 3 v0 rfl rfl) h0
  clear hA0 hval0
  simp only [List.append_nil] at hW'
  refine (walk a0 w0 W).mono fun e W' ⟨he, hg⟩ => ?_
  subst he
  exact ⟨_, rfl, post_of_same (pa := []) (pv := []) hW' (fun _ _ _ => (trodAll_cons_mk (shut_bool Try.underlying4 _) trodAll_mk0)) (fun sp _ => (trodAll_cons_mk (shut_int Try.underlying3 w0) trodAll_mk0)) (fun _ _ => rfl) rfl
    (hg.frame _) hg.2.1 (ok_one (by kernel_rfl) rfl (okWide_bool_mk Try.underlying4 _))⟩

theorem over : Rows.nearRow.holds Try.pinned (OpenSpec.ofChange Rows.nearSpec) :=
  OpenClaim.holds_of_wide 4 Try.f4 rfl rfl rfl rfl rfl rfl rfl ⟨rfl, rfl, rfl, rfl, rfl⟩ rfl rfl rfl rfl rfl (by kernel_rfl) Try.func4 (by kernel_rfl)
    (of_decide_eq_true (by kernel_rfl)) (by unfold Func.isWrapper; first | (rw [if_pos (by decide +kernel)]; kernel_rfl) | (rw [if_neg (by decide +kernel)]; exact ⟨rfl, rfl⟩))
    (fun os started H enc _ => lifted os started H enc)

/-- ████ THE STATEMENT ████ -/
theorem proved : Rows.NearSaid :=
  over
end Go.Proofs.Ytenegfafjjknoaa.near
namespace Go.Proofs.Ytenegfafjjknoaa
theorem near_holds : Rows.NearSaid := near.proved
end Go.Proofs.Ytenegfafjjknoaa
