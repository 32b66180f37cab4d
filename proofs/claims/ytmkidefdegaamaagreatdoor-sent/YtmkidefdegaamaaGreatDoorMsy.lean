/- Taken. -/
import Derived.Shelf.SlSortCmp.NoneTotal
import Derived.Test.YtmkidefdegaamaaGreatDoorMsty
namespace Go.Proofs.YtmkidefdegaamaaGreatDoor.Sk
open Go.RowKit Go.Maps Go.Shelf Mem Foot Im Go.Sort
theorem values (mb : Option Nat) (w : World) : Calls Tryz.prog 68 #[.map mb] w fun e w' => e = .returned (.func (.func 96) #[] #[.pointer (some ⟨w.heap.size, 0, none⟩)]) ∧ w' = w.alloc (.cells #[.map mb] 67) := by
  go_enter Tryz.func68, Tryz.ntmps68
  go_wp2_with fail
  go_ret
  exact ⟨rfl, rfl⟩
theorem collectW (Bm : Nat) (mb : Option Nat) (ms : List Ms) (hms : (ms.map (·.k)).Nodup) (w : World) (hBm : Bm < w.heap.size) (hm : w.cell? ⟨Bm, 0, none⟩ = some (.map mb)) (hown : Mapped w mb ms) (hN : ms.length ≤ maxLen) (hNb : ms.length * 24 ≤ 140737488355328) :
    Calls Tryz.prog 94 #[.func (.func 96) #[] #[.pointer (some ⟨Bm, 0, none⟩)]] w fun e w' => ∃ (v : Value) (xs : List Ms), e = .returned v ∧ xs.Perm ms ∧
      w'.ownsRow w.heap.size 44 2 v xs.length (mcells xs) ∧ (v = .slice none 0 0 ↔ xs = []) ∧ Below w.heap.size w w' :=
  (callsIn_wide (n := 3)).1 (collect Fence.wide 3 trivial trivial rfl (Nat.le_refl _) _ _ trivial (enters_of Tryz.func96 (by kernel_rfl) rfl) ms hN hNb w (values_stops Fence.wide 1 trivial rfl (Nat.le_refl _) Bm mb ms hms w hBm hm hown))
theorem own_sits {w : World} {base n cap g : Nat} {xs : List Value} {e : TypeId} (h : w.ownsRow base e 2 (.slice (some ⟨g, 0, none⟩) n cap) n xs) : base ≤ g ∧ ∃ cur, Sits w g e cur ∧ n ≤ cap ∧ cap ≤ maxLen ∧ cur.size = cap * 2 ∧ cur.toList.take (n * 2) = xs := by
  rcases h.2 with ⟨h1, _⟩ | ⟨g', cap', cur, h1, h2, h3, h4, h5, h6, h7⟩
  · cases h1
  · injection h1 with h1 h8 h9
    injection h1 with h1
    injection h1 with h1
    subst h1
    subst h9
    exact ⟨h2, cur, h3, h4, h5, h6, h7⟩
theorem own_shape2 {w : World} {base n : Nat} {v : Value} {xs : List Value} {e : TypeId} (h : w.ownsRow base e 2 v n xs) : (v = .slice none 0 0 ∧ n = 0) ∨ ∃ g cap, v = .slice (some ⟨g, 0, none⟩) n cap := by
  rcases h.2 with h1 | ⟨g', cap', cur, h1, _⟩
  · exact Or.inl h1
  · exact Or.inr ⟨g', cap', h1⟩
set_option maxHeartbeats 1000000 in
theorem sortedFunc (Bm : Nat) (mb : Option Nat) (ms : List Ms) (hr : Rise ms) (w : World) (hBm : Bm < w.heap.size) (hm : w.cell? ⟨Bm, 0, none⟩ = some (.map mb)) (hown : Mapped w mb ms) (hN : ms.length ≤ 4000000000000) :
    Calls Tryz.prog 67 #[.func (.func 96) #[] #[.pointer (some ⟨Bm, 0, none⟩)], .func (.func 69) #[] #[]] w fun e w' => ∃ v : Value, e = .returned v ∧
      w'.ownsRow w.heap.size 44 2 v ms.length (mcells ms) ∧ Below w.heap.size w w' := by
  have hc := collectW Bm mb ms hr.nodup w hBm hm hown (by unfold maxLen; omega) (by omega)
  clear hm hown
  go_enter Tryz.func67, Tryz.ntmps67
  go_wp2_with fail
  refine hc.mono ?_
  clear hc
  rintro e w1 ⟨v, xs, rfl, hp, hrow, hnil, hb⟩
  have HL := hide hp.length_eq
  rcases own_shape2 hrow with ⟨rfl, h0⟩ | ⟨g, cap, rfl⟩
  · have h1 : xs = [] := List.eq_nil_of_length_eq_zero h0
    subst h1
    have h2 : ms = [] := List.eq_nil_of_length_eq_zero (by simpa using HL.out.symm)
    subst h2
    have hnone : Calls Tryz.prog 95 #[.slice none 0 0, .func (.func 69) #[] #[]] w1 fun e w' => e = .returned (.tuple #[]) ∧ w' = w1 := AnyF.slices_SortFunc_none Tryz.sortM none 0 _ w1
    have HR := hide hrow
    have HB := hide hb
    clear hrow hb hnil hp h0
    go_wp2_with fail
    refine hnone.mono ?_
    clear hnone
    rintro e w2 ⟨rfl, rfl⟩
    go_wp2_with fail
    go_ret
    exact ⟨_, rfl, HR.out, HB.out⟩
  · obtain ⟨hbg, cur, hs, h1, h2, h3, h4⟩ := own_sits hrow
    haveI : Inhabited Ms := ⟨⟨0, ⟨#[]⟩⟩⟩
    have hlen := HL.out
    have hsort := sortMs g cap xs ms hp hr w1 cur hs (by omega) h4 (by omega)
    have HB := hide hb
    have HS := hide (show ms.length ≤ cap ∧ cap ≤ maxLen ∧ cur.size = cap * 2 ∧ w.heap.size ≤ g by omega)
    clear hrow hnil hlen h1 h2 h3 h4 hs hbg hb hp
    go_wp2_with fail
    refine hsort.mono ?_
    clear hsort
    rintro e w2 ⟨rfl, hbut, cur', hs', hz, ht⟩
    have HF := hide (show But g w1 w2 ∧ Sits w2 g 44 cur' ∧ cur'.size = cur.size ∧ cur'.toList.take (ms.length * 2) = mcells ms from ⟨hbut, hs', hz, ht⟩)
    clear hbut hs' hz ht
    go_wp2_with fail
    go_ret
    obtain ⟨hbut, hs', hz, ht⟩ := HF.out
    obtain ⟨h1, h2, h3, hbg⟩ := HS.out
    refine ⟨.slice (some ⟨g, 0, none⟩) xs.length cap, rfl, ⟨by rw [mcells_length], Or.inr ⟨g, cap, cur', congrArg (fun n => Value.slice (some ⟨g, 0, none⟩) n cap) HL.out, hbg, hs', h1, h2, by omega, ht⟩⟩, ?_⟩
    exact HB.out.trans (hbut.below hbg HB.out.size)
set_option maxHeartbeats 1000000 in
/-- The messages of a map by rising windows, in memory of its own. -/
theorem rising (mb : Option Nat) (ms : List Ms) (hr : Rise ms) (w : World) (h : Mapped w mb ms) (hN : ms.length ≤ 4000000000000) :
    Calls Tryz.prog 38 #[.map mb] w fun e w' => ∃ v : Value, e = .returned v ∧
      w'.ownsRow w.heap.size 44 2 v ms.length (mcells ms) ∧ Below w.heap.size w w' := by
  have hs := sortedFunc w.heap.size mb ms hr (w.alloc (.cells #[.map mb] 67)) (by simp) ((Sits.new w 67 #[.map mb]).cell 0 _ rfl) (h.off (F := []) (Off.of_below (below_new _)) (fun _ _ => by simp)) hN
  go_enter Tryz.func38, Tryz.ntmps38
  go_wp2_with (go_at_call 68; refine (values _ _).mono ?_; rintro e w' ⟨rfl, rfl⟩)
  refine hs.mono ?_
  clear hs
  rintro e w1 ⟨v, rfl, hrow, hb⟩
  have HR := hide hrow
  have HB := hide hb
  clear hrow hb
  go_wp2_with fail
  go_ret
  refine ⟨_, rfl, ⟨HR.out.1, ?_⟩, (below_new _).trans (HB.out.mono (by simp))⟩
  rcases HR.out.2 with h1 | ⟨g, cap, cur, h1, h2, h3⟩
  · exact Or.inl h1
  · exact Or.inr ⟨g, cap, cur, h1, by simp at h2; omega, h3⟩
end Go.Proofs.YtmkidefdegaamaaGreatDoor.Sk
