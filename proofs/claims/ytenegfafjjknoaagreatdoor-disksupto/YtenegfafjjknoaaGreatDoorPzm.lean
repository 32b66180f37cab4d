/- Disks, walked. Disks, walked. -/
import Derived.Test.YtenegfafjjknoaaGreatDoorPd
import Derived.Test.YtenegfafjjknoaaGreatDoorExd
import Derived.Deep.DeepCutAuto
namespace Go.Proofs.YtenegfafjjknoaaGreatDoor.Pp
open Go.RowKit Mem Foot Dm Dh Dr

theorem hiPair : (Tryz.prog.info? 54).map (fun i => (i.zero, i.size, i.bytes)) = some (some (.pointer none), 1, 8) := by kernel_rfl
theorem hiDeed : (Tryz.prog.info? 61).map (fun i => (i.zero, i.size, i.bytes)) = some (some (.agg #[.int .i64 0, .int .i64 0, .int .i64 0, .int .i64 0, .string ByteArray.empty]), 5, 48) := by kernel_rfl

theorem src_keep {w w' : World} {size m : Nat} {ao : Option Addr} {news : List Value} (h : Apn.Src w size ao m news) (hb : Below w.heap.size w w') : Apn.Src w' size ao m news := by
  obtain ⟨h1, h2, h3⟩ := h
  refine ⟨h1, h2, h3.imp id fun ⟨ad, e, hc⟩ => ⟨ad, e, fun j u hu => ?_⟩⟩
  have := hc j u hu
  rw [hb.cell (World.block_lt_of_cell? w _ this)]
  exact this

/-- A pair under the growth of a row that is no pair's own. -/
theorem One.row {w0 w w' : World} {x : En} {K U base n size : Nat} {e : TypeId} {v : Value} {xs : List Value} (h : One w0 w x K U) (hr : w.ownsRow base e size v n xs) (he : e = 61 ∨ e = 54) (ho : Off v.ownBlock.toList w w') : One w0 w' x K U := by
  refine ⟨h.pr.off ho (fun k hk hv => ?_) (fun k cs hs hv => ?_), h.fit, h.vs, h.far⟩
  · obtain ⟨cs, s1⟩ := sits_row hr hv
    obtain ⟨t, cs', s2, n1, n2⟩ := h.pr.typed2 k hk
    rcases he with rfl | rfl
    · exact sits_ne s2 s1 n1 rfl
    · exact sits_ne s2 s1 n2 rfl
  · obtain ⟨cs', s1⟩ := sits_row hr hv
    rcases he with rfl | rfl
    · exact sits_ne s1 hs (by decide) rfl
    · exact sits_ne s1 hs (by decide) rfl

def eptrs (l : List En) : List Value := l.map fun x => Value.pointer (some ⟨x.px, 0, none⟩)

/-- The pairs that have been made. -/
structure Ls (w0 w : World) (v : Value) (l : List En) : Prop where
  row : w.ownsRow w0.heap.size 54 1 v l.length (eptrs l)
  below : Below w0.heap.size w0 w
  ones : ∀ x ∈ l, One w0 w x 0 0
  apart : l.Pairwise fun x y => ∀ k ∈ x.foot, k ∉ y.foot

theorem Ls.more {w0 w w2 : World} {v v2 : Value} {l : List En} {o : Obj} (h : Ls w0 w v l) (hw : w0.heap.size ≤ w.heap.size)
    (o2 : w2.ownsRow w0.heap.size 54 1 v2 (l.length + 1) (eptrs l ++ [.pointer (some ⟨w.heap.size + 2, 0, none⟩)]))
    (g2 : ((((w.alloc (.cells #[.slice none 0 0, .int .i64 (-1), .int .i64 (-1)] 101)).alloc (.cells #[.slice none 0 0, .int .i64 (-1), .int .i64 (-1)] 104)).alloc (.cells #[.pointer (some ⟨w.heap.size, 0, none⟩), .pointer (some ⟨w.heap.size + 1, 0, none⟩), .slice none 0 0, .slice none 0 0] 59)).alloc o).grownBy w2 v.ownBlock) : ∃ x : En, Ls w0 w2 v2 (l ++ [x]) := by
  obtain ⟨x, hx, hfar, hone⟩ := fresh_one hw
  have ho := grown_off g2
  have b3 : Below w.heap.size w (((w.alloc (.cells #[.slice none 0 0, .int .i64 (-1), .int .i64 (-1)] 101)).alloc (.cells #[.slice none 0 0, .int .i64 (-1), .int .i64 (-1)] 104)).alloc (.cells #[.pointer (some ⟨w.heap.size, 0, none⟩), .pointer (some ⟨w.heap.size + 1, 0, none⟩), .slice none 0 0, .slice none 0 0] 59)) :=
    (((Below.refl _ _).alloc (Nat.le_refl _) _).alloc (by simp) _).alloc (by simp; omega) _
  have hr3 := own_keep h.row b3
  refine ⟨x, ⟨?_, ?_, fun y hy => ?_, ?_⟩⟩
  · rw [List.length_append, eptrs, List.map_append]
    show w2.ownsRow _ _ 1 v2 (l.length + 1) (eptrs l ++ [.pointer (some ⟨x.px, 0, none⟩)])
    rw [hx]
    exact o2
  · exact (h.below.trans (b3.mono hw)).trans (ho.below (fun k hk => (own_lt hr3 hk).1) (Nat.le_trans hw b3.size))
  · rcases List.mem_append.1 hy with e | e
    · exact ((h.ones y e).keep b3).row hr3 (Or.inr rfl) ho
    · rw [List.mem_singleton] at e
      rw [e]
      exact hone.row hr3 (Or.inr rfl) ho
  · rw [List.pairwise_append]
    refine ⟨h.apart, List.pairwise_singleton .., fun a ha b hb k hk hkb => ?_⟩
    rw [List.mem_singleton] at hb
    rw [hb] at hkb
    have h1 := (h.ones a ha).pr.lt k hk
    have h2 := hfar k hkb
    omega

/-- The three deeds ahead of the script. -/
def three : List Dd := [⟨0, 1, 3, 0, ⟨#[116, 101, 120, 116]⟩⟩, ⟨0, 2, 3, 0, ⟨#[]⟩⟩, ⟨0, 6, 0, 0, ⟨#[]⟩⟩]

theorem own_three {w0 w : World} (hw : w0.heap.size ≤ w.heap.size) : (w.alloc (.cells #[.int .i64 0, .int .i64 1, .int .i64 3, .int .i64 0, .string ⟨#[116, 101, 120, 116]⟩, .int .i64 0, .int .i64 2, .int .i64 3, .int .i64 0, .string ⟨#[]⟩, .int .i64 0, .int .i64 6, .int .i64 0, .int .i64 0, .string ⟨#[]⟩] 61)).ownsRow w0.heap.size 61 5 (.slice (some ⟨w.heap.size, 0, none⟩) 3 3) 3 (drows three) :=
  World.ownsRow_lit w _ 3 hw (by decide) rfl

/-- From deed to deed. -/
structure Run (w0 w : World) (lv sv : Value) (px py : Nat) (l : List Dd) (x y : En) (i : Nat) : Prop where
  two : Two w0 w x y i (letters l i)
  hx : x.px = px
  hy : y.px = py
  pairs : w.ownsRow w0.heap.size 54 1 lv 2 [.pointer (some ⟨px, 0, none⟩), .pointer (some ⟨py, 0, none⟩)]
  deeds : w.ownsRow w0.heap.size 61 5 sv l.length (drows l)
  below : Below w0.heap.size w0 w

/-- The script laid: the first deed may come. -/
theorem run_start {w0 w w2 : World} {a : Option Addr} {c c2 : Nat} {a2 : Option Addr} {x y : En} {ds : List Dd} {o : Obj} (h : Ls w0 w (.slice a [x, y].length c) [x, y]) (hw : w0.heap.size ≤ w.heap.size)
    (o2 : w2.ownsRow w0.heap.size 61 5 (.slice a2 (3 + ds.length) c2) (3 + ds.length) (drows three ++ drows ds)) (g2 : (w.alloc o).grownBy w2 (Value.slice (some ⟨w.heap.size, 0, none⟩) 3 3).ownBlock) : Run w0 w2 (.slice a [x, y].length c) (.slice a2 (3 + ds.length) c2) x.px y.px (three ++ ds) x y 0 := by
  have hb : Below w.heap.size w w2 := ⟨g2.os, g2.tape, g2.output, by have := g2.size; simp at this; omega, fun k hk => by
    rw [g2.block k (by simp; omega) (fun e => by simp [Value.ownBlock] at e; omega), Below.heap_alloc _ _ _ hk]⟩
  have hap := h.apart
  rw [List.pairwise_cons] at hap
  have e0 : letters (three ++ ds) 0 = 0 := rfl
  refine ⟨⟨?_, ?_, hap.1 y (by simp)⟩, rfl, rfl, own_keep h.row hb, ?_, h.below.trans (hb.mono hw)⟩
  · rw [e0]
    exact (h.ones x (by simp)).keep hb
  · rw [e0]
    exact (h.ones y (by simp)).keep hb
  · rw [drows_append, List.length_append]
    exact o2

theorem Run.drewN {w0 w : World} {lv sv : Value} {px py : Nat} {l : List Dd} {x y : En} {i : Nat} (h : Run w0 w lv sv px py l x y i) (n : Nat) : Run w0 (w.drewN n) lv sv px py l x y i :=
  ⟨h.two.keep (below_drewN' (Below.refl _ _)), h.hx, h.hy, h.pairs, h.deeds, below_drewN' h.below⟩

theorem Run.next {w0 w w' : World} {lv sv : Value} {px py : Nat} {l : List Dd} {x y : En} {i : Nat} {d : Dd} (h : Run w0 w lv sv px py l x y i) (hd : l[i]? = some d) (hx : Dx x i (letters l (i + 1)) w w') : ∃ x', Run w0 w' lv sv px py l x' y (i + 1) := by
  obtain ⟨x', h1, h2, h3⟩ := h.two.step (by rw [letters_next hd]; omega) h.below.size hx
  exact ⟨x', h2, h1.trans h.hx, h.hy, row_stays h.two.one.pr hx (Or.inr rfl) h.pairs, row_stays h.two.one.pr hx (Or.inl rfl) h.deeds, h.below.trans h3⟩

theorem Run.next2 {w0 w w' : World} {lv sv : Value} {px py : Nat} {l : List Dd} {x y : En} {i : Nat} {d : Dd} (h : Run w0 w lv sv px py l x y i) (hd : l[i]? = some d) (hx : Dx y i (letters l (i + 1)) w w') : ∃ y', Run w0 w' lv sv px py l x y' (i + 1) := by
  obtain ⟨y', h1, h2, h3⟩ := h.two.swap.step (by rw [letters_next hd]; omega) h.below.size hx
  exact ⟨y', h2.swap, h.hx, h1.trans h.hy, row_stays h.two.two.pr hx (Or.inr rfl) h.pairs, row_stays h.two.two.pr hx (Or.inl rfl) h.deeds, h.below.trans h3⟩

/-- The deed of the script that is done to a pair. -/
theorem run_deed {w0 w : World} {x : En} {K U : Nat} {d : Dd} (h : One w0 w x K U) (hK : K ≤ 100000000) (hU : U + d.t.size ≤ 1000000000000) (hd : d.ok) :
    Calls Tryz.prog 29 #[.pointer (some ⟨x.px, 0, none⟩), .agg #[.int .i64 d.c, .int .i64 d.k, .int .i64 d.a, .int .i64 d.b, .string d.t]] w fun e w' => e = .returned (.bool true) ∧ Dx x K (U + d.t.size) w w' :=
  (deed x.px x.S x.p d w h.pr h.fit hK hU (Nat.le_trans h.vs hK) hd).mono fun _ _ ⟨he, ho, S', p', h1, h2, h3, h4⟩ => ⟨he, ho, S', p', h1, h2, h3, h4⟩

end Go.Proofs.YtenegfafjjknoaaGreatDoor.Pp

namespace Go.Proofs.YtenegfafjjknoaaGreatDoor.Pp
open Go.RowKit Mem Foot Dm Dh Dr

set_option maxRecDepth 10000 in
set_option maxHeartbeats 8000000 in
theorem disks (ao : Option Addr) (cap : Nat) (ds : List Dd) (w : World) (hT : Plainw.Tab w) (hsrc : Apn.Src w 5 ao ds.length (drows ds)) (hn : ds.length ≤ 2000000) (hs : letters (three ++ ds) (three ++ ds).length ≤ 200000000) (hok : ∀ d ∈ ds, d.ok) :
    Calls Tryz.prog 9 #[.slice ao ds.length cap] w fun e w' => e = .returned (.bool true) ∧ Below w.heap.size w w' := by
  have HSRC := hide hsrc
  have HT := hide hT
  have HS := hide hs
  have HOK := hide hok
  clear hsrc hT hs hok
  go_enter Tryz.func9, Tryz.ntmps9
  go_wp2_with fail
  refine (Examd.example_ _ HT.out).mono ?_
  rintro e w1 ⟨rfl, hb1⟩
  have HB1 := hide hb1
  clear hb1
  obtain ⟨i0, hi, hz0, hz1, hz2⟩ := info_parts hiPair
  obtain ⟨j0, hj, hy0, hy1, hy2⟩ := info_parts hiDeed
  go_wp2_with fail
  go_loopw [4, 5] (fun s4 s5 wr => ∃ (l : List En) (a : Option Addr) (c : Nat), s4 = .slice a l.length c ∧ s5 = .int .i64 (l.length : Int) ∧ l.length ≤ 2 ∧ Hid (Ls w wr (.slice a l.length c) l)) (fun _ s5 _ => 2 - (intOf s5).toNat)
  case atStart => exact ⟨[], none, 0, rfl, rfl, by simp, ⟨World.ownsRow_nil _ _ _ _, HB1.out, fun x hx => (by cases hx), List.Pairwise.nil⟩⟩
  case round =>
    obtain ⟨l, a, c, rfl, rfl, hl, HL⟩ := hrel
    have hsize := HL.out.below.size
    by_cases hll : l.length < 2
    · have hlz : (l.length : Int) < 2 := by omega
      have hrow := HL.out.row
      go_wp2_with (first | (go_at_call 26; refine (Dh.new _).mono ?_; rintro e w' ⟨rfl, rfl⟩) | (go_at_call 27; refine (Dr.new _).mono ?_; rintro e w' ⟨rfl, rfl⟩) | (at_builtin; refine Apn.wpList_own _ rfl _ _ 51 rfl w.heap.size 54 i0 (.pointer none) 1 8 Tryz.underlying51 hi hz0 hz1 hz2 rfl (by decide) _ _ (eptrs l) rfl ((((hrow.alloc _).alloc _).alloc _).alloc _) _ 1 1 [.pointer (some ⟨wr.heap.size + 2, 0, none⟩)] rfl (src_one _ _ _ _ (by simp)) (by unfold maxLen; omega) (by omega) (by simp; omega) ?_; intro v2 w2 o2 g2 n2))
      obtain ⟨x, hx⟩ := HL.out.more hsize o2 g2
      obtain ⟨a2, c2, rfl⟩ := Own.shape o2
      exact ⟨⟨l ++ [x], a2, c2, by rw [List.length_append]; rfl, by rw [List.length_append]; rfl, by rw [List.length_append]; show l.length + 1 ≤ 2; omega, by rw [List.length_append]; exact hx⟩, by simp [intOf]; omega⟩
    · have hlz : ¬ (l.length : Int) < 2 := by omega
      obtain ⟨x, y, rfl⟩ : ∃ x y, l = [x, y] := by
        match l, hl, hll with
        | [x, y], _, _ => exact ⟨x, y, rfl⟩
        | [], _, h => exact absurd (by decide) h
        | [x], _, h => exact absurd (by simp) h
        | x :: y :: z :: m, h, _ => simp at h
      have hbel := HL.out.below
      go_wp2_with (at_builtin; refine Apn.wpList_own _ rfl (.tmp 30) (.tmp 31) 50 rfl w.heap.size 61 j0 (.agg #[.int .i64 0, .int .i64 0, .int .i64 0, .int .i64 0, .string ByteArray.empty]) 5 48 Tryz.underlying50 hj hy0 hy1 hy2 rfl (by decide) _ 3 (drows three) rfl (own_three hsize) _ _ _ (drows ds) rfl (src_keep HSRC.out (hbel.alloc hsize _)) (by unfold maxLen; omega) (by omega) (by simp; omega) ?_; intro v2 w2 o2 g2 n2; obtain ⟨a2, c2, rfl⟩ := Own.shape o2; have HRUN := hide (run_start HL.out hsize o2 g2); clear o2 g2 n2)
      go_loopw [7] (fun s7 wr => ∃ (i : Nat) (x' y' : En), s7 = .int .i64 (i : Int) ∧ i ≤ 3 + ds.length ∧ Hid (Run w wr (.slice a [x, y].length c) (.slice a2 (3 + ds.length) c2) x.px y.px (three ++ ds) x' y' i)) (fun s7 _ => 3 + ds.length - (intOf s7).toNat)
      case atStart => exact ⟨0, x, y, rfl, by omega, HRUN.out⟩
      case round =>
        clear HRUN hbel HL
        obtain ⟨i, x', y', rfl, hi, HR⟩ := hrel
        by_cases hil : i < 3 + ds.length
        · have hiz : (i : Int) < ((3 + ds.length : Nat) : Int) := by omega
          have hizb : (i : Int) < 3 + (ds.length : Int) := by omega
          obtain ⟨d, hd⟩ : ∃ d, (three ++ ds)[i]? = some d := ⟨_, List.getElem?_eq_getElem (by rw [List.length_append]; exact hil)⟩
          have HD := hide hd
          have HDOK := hide (show d.ok by
            rcases List.mem_append.1 (List.mem_of_getElem? hd) with e | e
            · simp only [three, List.mem_cons, List.mem_nil_iff, or_false] at e
              rcases e with rfl | rfl | rfl <;> exact ⟨by decide, by decide, by decide⟩
            · exact HOK.out d e)
          have HU := hide (show letters (three ++ ds) i + d.t.size ≤ 200000000 by rw [← letters_next hd]; exact Nat.le_trans (letters_le _ _) HS.out)
          obtain ⟨sb, scap, hse, hscap, k0, k1, k2, k3, k4⟩ := drow_at HR.out.deeds hd
          injection hse with e1 em e2
          clear em
          subst e1
          subst e2
          have hscap2 : 3 + ds.length ≤ c2 := by rw [List.length_append] at hscap; exact hscap
          clear hd hscap
          obtain ⟨lb, lcap, hle, hlcap, _, _, hlc⟩ := row_from HR.out.pairs (i := 0) (by omega)
          injection hle with e1 em e2
          clear em
          subst e1
          subst e2
          have p0 := (hlc 0 _ rfl).1
          have p1 := (hlc 1 _ rfl).1
          clear hlc
          have hpk2 : pk d.c = 0 ∨ pk d.c = 1 := by have := pk_lt d.c; omega
          rcases hpk2 with hpk | hpk
          · have HPK := hide (show ∀ W, Calls Tryz.prog 28 #[.int .i64 d.c, .int .i64 2] W fun e w' => e = .returned (.int .i64 0) ∧ w' = W from fun W => (pick d.c HDOK.out.1 W).mono fun e w' ⟨h1, h2⟩ => ⟨by rw [h1, hpk]; rfl, h2⟩)
            have HDC := hide (show Calls Tryz.prog 29 #[.pointer (some ⟨x.px, 0, none⟩), .agg #[.int .i64 d.c, .int .i64 d.k, .int .i64 d.a, .int .i64 d.b, .string d.t]] (wr.drewN 1) fun e w' => e = .returned (.bool true) ∧ Dx x' i (letters (three ++ ds) i + d.t.size) (wr.drewN 1) w' from by rw [← HR.out.hx]; exact run_deed (HR.out.drewN 1).two.one (by omega) (by have := HU.out; omega) HDOK.out)
            clear hpk
            go_upto_region 16 with fail
            go_cut [8] (fun s8 wx => s8 = .bool true ∧ Hid (Dx x' i (letters (three ++ ds) i + d.t.size) (wr.drewN 1) wx))
            case first =>
              go_region_with (first | (go_at_call 28; refine (HPK.out _).mono ?_; rintro e w' ⟨rfl, rfl⟩) | (go_at_call 29; refine HDC.out.mono ?_; rintro e w3 ⟨rfl, hdx⟩))
              all_goals
                go_wp2_with fail
                go_meet
                exact ⟨rfl, hdx⟩
            case rest =>
            obtain ⟨rfl, HDX⟩ := hcut
            obtain ⟨x2, hrun2⟩ := (HR.out.drewN 1).next HD.out (by rw [letters_next HD.out]; exact HDX.out)
            have HR2 := hide hrun2
            clear hrun2 p0 p1 k0 k1 k2 k3 k4 HPK HDC HDX
            obtain ⟨lb2, lcap2, hle2, hlcap2, _, _, hlc2⟩ := row_from HR2.out.pairs (i := 0) (by omega)
            injection hle2 with e1 em e2
            clear em
            injection e1 with e1
            injection e1 with e1
            subst e1
            subst e2
            have p0 := (hlc2 0 _ rfl).1
            have p1 := (hlc2 1 _ rfl).1
            clear hlc2
            have HW0 := hide (show Calls Tryz.prog 30 #[.pointer (some ⟨x.px, 0, none⟩)] wc fun e w' => w' = wc ∧ e = .returned (.bool true) from by rw [← HR2.out.hx]; exact whole _ _ _ wc HR2.out.two.one.pr (by rw [HR2.out.two.one.pr.len]; have := HR2.out.two.one.vs; omega))
            have HW1 := hide (show Calls Tryz.prog 30 #[.pointer (some ⟨y.px, 0, none⟩)] wc fun e w' => w' = wc ∧ e = .returned (.bool true) from by rw [← HR2.out.hy]; exact whole _ _ _ wc HR2.out.two.two.pr (by rw [HR2.out.two.two.pr.len]; have := HR2.out.two.two.vs; omega))
            go_wp2_with fail
            go_loopw [9] (fun s9 wq => ∃ k : Nat, s9 = .int .i64 (k : Int) ∧ wq = wc ∧ k ≤ 2) (fun s9 _ => 2 - (intOf s9).toNat)
            case atStart => exact ⟨0, rfl, rfl, by omega⟩
            case round =>
              obtain ⟨k, rfl, hwr, hk⟩ := hrel
              subst wr
              by_cases hk2 : k < 2
              · have hkc : k = 0 ∨ k = 1 := by omega
                rcases hkc with rfl | rfl
                · go_wp2_with (go_at_call 30; refine HW0.out.mono ?_; rintro e w' ⟨rfl, rfl⟩)
                  go_roundw
                  case rel => exact ⟨1, rfl, trivial, by omega⟩
                  case measure => simp [intOf]
                · go_wp2_with (go_at_call 30; refine HW1.out.mono ?_; rintro e w' ⟨rfl, rfl⟩)
                  go_roundw
                  case rel => exact ⟨2, rfl, trivial, by omega⟩
                  case measure => simp [intOf]
              · have hkz : ¬ (k : Int) < 2 := by omega
                go_wp2_with fail
                exact ⟨⟨i + 1, x2, y', by go_num, by omega, HR2.out⟩, by simp [intOf]; omega⟩
          · have HPK := hide (show ∀ W, Calls Tryz.prog 28 #[.int .i64 d.c, .int .i64 2] W fun e w' => e = .returned (.int .i64 1) ∧ w' = W from fun W => (pick d.c HDOK.out.1 W).mono fun e w' ⟨h1, h2⟩ => ⟨by rw [h1, hpk]; rfl, h2⟩)
            have HDC := hide (show Calls Tryz.prog 29 #[.pointer (some ⟨y.px, 0, none⟩), .agg #[.int .i64 d.c, .int .i64 d.k, .int .i64 d.a, .int .i64 d.b, .string d.t]] (wr.drewN 1) fun e w' => e = .returned (.bool true) ∧ Dx y' i (letters (three ++ ds) i + d.t.size) (wr.drewN 1) w' from by rw [← HR.out.hy]; exact run_deed (HR.out.drewN 1).two.two (by omega) (by have := HU.out; omega) HDOK.out)
            clear hpk
            go_upto_region 16 with fail
            go_cut [8] (fun s8 wx => s8 = .bool true ∧ Hid (Dx y' i (letters (three ++ ds) i + d.t.size) (wr.drewN 1) wx))
            case first =>
              go_region_with (first | (go_at_call 28; refine (HPK.out _).mono ?_; rintro e w' ⟨rfl, rfl⟩) | (go_at_call 29; refine HDC.out.mono ?_; rintro e w3 ⟨rfl, hdx⟩))
              all_goals
                go_wp2_with fail
                go_meet
                exact ⟨rfl, hdx⟩
            case rest =>
            obtain ⟨rfl, HDX⟩ := hcut
            obtain ⟨x2, hrun2⟩ := (HR.out.drewN 1).next2 HD.out (by rw [letters_next HD.out]; exact HDX.out)
            have HR2 := hide hrun2
            clear hrun2 p0 p1 k0 k1 k2 k3 k4 HPK HDC HDX
            obtain ⟨lb2, lcap2, hle2, hlcap2, _, _, hlc2⟩ := row_from HR2.out.pairs (i := 0) (by omega)
            injection hle2 with e1 em e2
            clear em
            injection e1 with e1
            injection e1 with e1
            subst e1
            subst e2
            have p0 := (hlc2 0 _ rfl).1
            have p1 := (hlc2 1 _ rfl).1
            clear hlc2
            have HW0 := hide (show Calls Tryz.prog 30 #[.pointer (some ⟨x.px, 0, none⟩)] wc fun e w' => w' = wc ∧ e = .returned (.bool true) from by rw [← HR2.out.hx]; exact whole _ _ _ wc HR2.out.two.one.pr (by rw [HR2.out.two.one.pr.len]; have := HR2.out.two.one.vs; omega))
            have HW1 := hide (show Calls Tryz.prog 30 #[.pointer (some ⟨y.px, 0, none⟩)] wc fun e w' => w' = wc ∧ e = .returned (.bool true) from by rw [← HR2.out.hy]; exact whole _ _ _ wc HR2.out.two.two.pr (by rw [HR2.out.two.two.pr.len]; have := HR2.out.two.two.vs; omega))
            go_wp2_with fail
            go_loopw [9] (fun s9 wq => ∃ k : Nat, s9 = .int .i64 (k : Int) ∧ wq = wc ∧ k ≤ 2) (fun s9 _ => 2 - (intOf s9).toNat)
            case atStart => exact ⟨0, rfl, rfl, by omega⟩
            case round =>
              obtain ⟨k, rfl, hwr, hk⟩ := hrel
              subst wr
              by_cases hk2 : k < 2
              · have hkc : k = 0 ∨ k = 1 := by omega
                rcases hkc with rfl | rfl
                · go_wp2_with (go_at_call 30; refine HW0.out.mono ?_; rintro e w' ⟨rfl, rfl⟩)
                  go_roundw
                  case rel => exact ⟨1, rfl, trivial, by omega⟩
                  case measure => simp [intOf]
                · go_wp2_with (go_at_call 30; refine HW1.out.mono ?_; rintro e w' ⟨rfl, rfl⟩)
                  go_roundw
                  case rel => exact ⟨2, rfl, trivial, by omega⟩
                  case measure => simp [intOf]
              · have hkz : ¬ (k : Int) < 2 := by omega
                go_wp2_with fail
                exact ⟨⟨i + 1, x', x2, by go_num, by omega, HR2.out⟩, by simp [intOf]; omega⟩
        · have hiz : ¬ (i : Int) < ((3 + ds.length : Nat) : Int) := by omega
          have hizb : ¬ (i : Int) < 3 + (ds.length : Int) := by omega
          go_wp2_with fail
          go_ret
          exact ⟨rfl, HR.out.below⟩

end Go.Proofs.YtenegfafjjknoaaGreatDoor.Pp
