/- Parses, walked: with the document's Parse as a hypothesis. -/
import Derived.Test.YtenegfafjjknoaaGreatDoorExam
import Derived.Test.YtenegfafjjknoaaGreatDoorCheck
namespace Go.Proofs.YtenegfafjjknoaaGreatDoor.Lawp
open Go.RowKit Bytes Nums Numw Mem Tags Tagw Opts Plain Readw Plainw Plainv Plainp Bounds Parsew Same Exam

/-- What the document's Parse says, at every world. -/
def Ref (s : ByteArray) : Prop := ∀ w : World, Calls Tryz.prog 14 #[.string s] w fun e w' => (∃ z, e = .returned (.tuple #[.string z, .int .i64 (refParsed (B s)).2]) ∧ B z = (refParsed (B s)).1) ∧ Below w.heap.size w w'

/-- What stays, from call to call. -/
structure Stay (w W : World) (cs : Array Value) : Prop where
  below : Below w.heap.size w W
  tab : Tab W
  sits : Sits W w.heap.size 23 cs

theorem Stay.on {w W W' : World} {cs : Array Value} (h : Stay w W cs) (hb : Below W.heap.size W W') : Stay w W' cs :=
  ⟨h.below.trans (hb.mono h.below.size), h.tab.below hb, h.sits.below hb h.sits.lt⟩

theorem Stay.begin {w : World} (h : Tab w) (cs : Array Value) : Stay w (w.alloc (.cells cs 23)) cs :=
  ⟨below_new _, h.below (below_new _), Sits.new _ _ _⟩

theorem cells6 {w : World} {b : Nat} {t : TypeId} {v0 v1 v2 v3 v4 v5 : Value} (h : Sits w b t #[v0, v1, v2, v3, v4, v5]) :
    w.cell? ⟨b, 0, none⟩ = some v0 ∧ w.cell? ⟨b, 1, none⟩ = some v1 ∧ w.cell? ⟨b, 2, none⟩ = some v2 ∧ w.cell? ⟨b, 3, none⟩ = some v3 ∧ w.cell? ⟨b, 4, none⟩ = some v4 ∧ w.cell? ⟨b, 5, none⟩ = some v5 :=
  ⟨h.cell 0 _ rfl, h.cell 1 _ rfl, h.cell 2 _ rfl, h.cell 3 _ rfl, h.cell 4 _ rfl, h.cell 5 _ rfl⟩

theorem parses (s : ByteArray) (a b c d e f : Int) (hs : s.size ≤ 140737488355328) (w : World) (ht : Tab w) (hr : Ref s) :
    Calls Tryz.prog 3 #[.string s, .agg #[.int .i64 a, .int .i64 b, .int .i64 c, .int .i64 d, .int .i64 e, .int .i64 f]] w fun r w' => r = .returned (.bool true) ∧ Below w.heap.size w w' := by
  have HS0 := Numw.hide (Stay.begin ht #[.int .i64 a, .int .i64 b, .int .i64 c, .int .i64 d, .int .i64 e, .int .i64 f])
  have HRF := Numw.hide hr
  clear ht hr
  go_enter Tryz.func3, Tryz.ntmps3
  go_wp2_with fail
  refine (example_ _ HS0.out.tab).mono ?_
  rintro r w1 ⟨rfl, hb1⟩
  have HS1 := Numw.hide (HS0.out.on hb1)
  clear hb1 HS0
  go_wp2_with fail
  refine (parse s hs _ HS1.out.tab).mono ?_
  rintro r w2 ⟨⟨z, rfl, hz⟩, hb2⟩
  have HS2 := Numw.hide (HS1.out.on hb2)
  have HZ := Numw.hide hz
  clear hb2 HS1 hz
  go_wp2_with fail
  refine (HRF.out _).mono ?_
  rintro r w3 ⟨⟨z', rfl, hz'⟩, hb3⟩
  have HS3 := Numw.hide (HS2.out.on hb3)
  rw [refParsed_eq] at hz' ⊢
  obtain rfl : z' = z := B_inj (hz'.trans HZ.out.symm)
  obtain ⟨n, hn⟩ : ∃ n : Int, n = (parsed (B s)).2 := ⟨_, rfl⟩
  rw [← hn]
  clear hb3 HS2 hz' HZ HRF hn
  obtain ⟨c0, c1, c2, c3, c4, c5⟩ := cells6 HS3.out.sits
  go_wp2_with fail
  refine (Check.conf a b c d e f _).mono ?_
  rintro r w4 ⟨rfl, hb4⟩
  have HS4 := Numw.hide (HS3.out.on hb4)
  clear hb4 HS3 c0 c1 c2 c3 c4 c5
  go_wp2_with fail
  refine (Check.check a b c d e f _).mono ?_
  rintro r w5 ⟨rfl, hb5⟩
  have HS5 := Numw.hide (HS4.out.on hb5)
  clear hb5 HS4
  obtain ⟨c0, c1, c2, c3, c4, c5⟩ := cells6 HS5.out.sits
  cases hg : Check.good a b c d e f with
  | true =>
    rw [if_pos rfl]
    go_wp2_with fail
    refine (Check.refGood a b c d e f _).mono ?_
    rintro r w6 ⟨rfl, hb6⟩
    rw [hg]
    have HS6 := Numw.hide (HS5.out.on hb6)
    clear hb6 HS5 c0 c1 c2 c3 c4 c5 hg
    go_wp2_with (go_at_call 18; refine (Check.num _ _).mono ?_; rintro e w' ⟨rfl, rfl⟩)
    all_goals go_ret
    exact ⟨rfl, HS6.out.below⟩
  | false =>
    rw [if_neg (by simp)]
    go_wp2_with fail
    refine (Check.refGood a b c d e f _).mono ?_
    rintro r w6 ⟨rfl, hb6⟩
    rw [hg]
    have HS6 := Numw.hide (HS5.out.on hb6)
    clear hb6 HS5 c0 c1 c2 c3 c4 c5 hg
    go_wp2_with (go_at_call 18; refine (Check.num _ _).mono ?_; rintro e w' ⟨rfl, rfl⟩)
    all_goals go_ret
    exact ⟨rfl, HS6.out.below⟩

end Go.Proofs.YtenegfafjjknoaaGreatDoor.Lawp
