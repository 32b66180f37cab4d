/- Sinks, walked. -/
import Derived.Test.YtenegfafjjknoaaSz
import Derived.Deep.Cut
namespace Go.Proofs.Ytenegfafjjknoaa.Sk
open Go.RowKit Go.Maps Go.Shelf Mem Foot Im

/-- Which of two. -/
def pk (c : Int) : Nat := ((if c < 0 then -(c + 1) else c) % 2).toNat

theorem pk_lt (c : Int) : pk c < 2 := by
  unfold pk
  omega

theorem pick (c : Int) (hc : -9223372036854775808 ≤ c ∧ c ≤ 9223372036854775807) (w : World) :
    Calls Try.prog 10 #[.int .i64 c, .int .i64 2] w fun e w' => e = .returned (.int .i64 (pk c : Int)) ∧ w' = w := by
  by_cases h : c < 0
  · obtain ⟨d, hd⟩ : ∃ d : Nat, -(c + 1) = (d : Int) := ⟨(-(c + 1)).toNat, by omega⟩
    have hw1 : IntKind.i64.wrap (c + 1) = c + 1 := IntWalk.i64_in _ (by omega)
    have hw2 : IntKind.i64.wrap (-(c + 1)) = (d : Int) := by rw [IntWalk.i64_in _ (by omega)]; exact hd
    have HE := hide (show (pk c : Int) = (d : Int) % 2 by rw [pk, if_pos h, hd]; omega)
    clear hd
    go_enter Try.func10, Try.ntmps10
    go_wp2_with fail
    go_ret
    rw [HE.out]
    exact ⟨rfl, rfl⟩
  · obtain ⟨d, rfl⟩ : ∃ d : Nat, c = (d : Int) := ⟨c.toNat, by omega⟩
    have HE := hide (show (pk (d : Int) : Int) = (d : Int) % 2 by rw [pk, if_neg h]; omega)
    go_enter Try.func10, Try.ntmps10
    go_wp2_with fail
    go_ret
    rw [HE.out]
    exact ⟨rfl, rfl⟩

theorem hiParcel : (Try.prog.info? 38).map (fun i => (i.zero, i.size, i.bytes)) = some (some (.agg #[.int .i64 0, .bool false, .int .i64 0, .string ByteArray.empty]), 4, 40) := by kernel_rfl

theorem src_keep {w w' : World} {size m : Nat} {ao : Option Addr} {news : List Value} (h : Apn.Src w size ao m news) (hb : Below w.heap.size w w') : Apn.Src w' size ao m news := by
  obtain ⟨h1, h2, h3⟩ := h
  refine ⟨h1, h2, h3.imp id fun ⟨ad, e, hc⟩ => ⟨ad, e, fun j u hu => ?_⟩⟩
  have := hc j u hu
  rw [hb.cell (World.block_lt_of_cell? w _ this)]
  exact this

/-- Two new sinks and their row. -/
theorem run_made (w : World) : ∃ x y : En, x.S = w.heap.size + 1 ∧ y.S = w.heap.size + 3 ∧
    Two w ((((w.alloc (.cells #[.map none] 44)).alloc (.cells #[.pointer (some ⟨w.heap.size, 0, none⟩), .slice none 0 0, .slice none 0 0, .slice none 0 0] 33)).alloc (.cells #[.map none] 44)).alloc (.cells #[.pointer (some ⟨w.heap.size + 2, 0, none⟩), .slice none 0 0, .slice none 0 0, .slice none 0 0] 33)) x y 0 := by
  obtain ⟨x, h1, h2, h3⟩ := fresh_one (w0 := w) (w := w) (Nat.le_refl _)
  have hsz : ((w.alloc (.cells #[.map none] 44)).alloc (.cells #[.pointer (some ⟨w.heap.size, 0, none⟩), .slice none 0 0, .slice none 0 0, .slice none 0 0] 33)).heap.size = w.heap.size + 2 := by simp
  generalize (w.alloc (.cells #[.map none] 44)).alloc (.cells #[.pointer (some ⟨w.heap.size, 0, none⟩), .slice none 0 0, .slice none 0 0, .slice none 0 0] 33) = u at *
  obtain ⟨y, k1, k2, k3⟩ := fresh_one (w0 := w) (w := u) (by omega)
  rw [hsz] at k1 k3
  have hb : Below u.heap.size u ((u.alloc (.cells #[.map none] 44)).alloc (.cells #[.pointer (some ⟨w.heap.size + 2, 0, none⟩), .slice none 0 0, .slice none 0 0, .slice none 0 0] 33)) :=
    ((Below.refl _ _).alloc (Nat.le_refl _) _).alloc (by simp) _
  refine ⟨x, y, h1, k1, h3.keep hb, k3, fun k hk hy => ?_⟩
  have h4 := h3.sn.lt k hk
  have h5 := k2 k hy
  omega

/-- The script laid: the first parcel may come. -/
theorem run_start {w0 w w2 : World} {lv : Value} {c2 : Nat} {a2 : Option Addr} {x y : En} {ds : List Pc} {o : Obj} (h : Two w0 w x y 0) (hp : w.ownsRow w0.heap.size 27 1 lv 2 [.pointer (some ⟨x.S, 0, none⟩), .pointer (some ⟨y.S, 0, none⟩)]) (hbw : Below w0.heap.size w0 w)
    (o2 : w2.ownsRow w0.heap.size 38 4 (.slice a2 (4 + ds.length) c2) (4 + ds.length) (prow four ++ prow ds)) (g2 : (w.alloc o).grownBy w2 (Value.slice (some ⟨w.heap.size, 0, none⟩) 4 4).ownBlock) : Run w0 w2 lv (.slice a2 (4 + ds.length) c2) x.S y.S (four ++ ds) x y 0 := by
  have hb : Below w.heap.size w w2 := ⟨g2.os, g2.tape, g2.output, by have := g2.size; simp at this; omega, fun k hk => by
    rw [g2.block k (by simp; omega) (fun e => by simp [Value.ownBlock] at e; omega), Below.heap_alloc _ _ _ hk]⟩
  refine ⟨h.keep hb, rfl, rfl, own_keep hp hb, ?_, hbw.trans (hb.mono hbw.size)⟩
  rw [prow_append, List.length_append]
  exact o2

set_option maxRecDepth 10000 in
set_option maxHeartbeats 8000000 in
theorem sinks (ao : Option Addr) (cap : Nat) (ds : List Pc) (w : World) (hsrc : Apn.Src w 4 ao ds.length (prow ds)) (hn : ds.length ≤ 3518437208780) (hok : ∀ d ∈ ds, d.ok) :
    Calls Try.prog 5 #[.slice ao ds.length cap] w fun e w' => e = .returned (.bool true) ∧ Below w.heap.size w w' := by
  have HSRC := hide hsrc
  have HOK := hide hok
  clear hsrc hok
  obtain ⟨x, y, hx, hy, h2⟩ := run_made w
  have hb2 : Below w.heap.size w ((((w.alloc (.cells #[.map none] 44)).alloc (.cells #[.pointer (some ⟨w.heap.size, 0, none⟩), .slice none 0 0, .slice none 0 0, .slice none 0 0] 33)).alloc (.cells #[.map none] 44)).alloc (.cells #[.pointer (some ⟨w.heap.size + 2, 0, none⟩), .slice none 0 0, .slice none 0 0, .slice none 0 0] 33)) :=
    ((((Below.refl _ _).alloc (Nat.le_refl _) _).alloc (by simp) _).alloc (by simp; omega) _).alloc (by simp; omega) _
  have hsz : ((((w.alloc (.cells #[.map none] 44)).alloc (.cells #[.pointer (some ⟨w.heap.size, 0, none⟩), .slice none 0 0, .slice none 0 0, .slice none 0 0] 33)).alloc (.cells #[.map none] 44)).alloc (.cells #[.pointer (some ⟨w.heap.size + 2, 0, none⟩), .slice none 0 0, .slice none 0 0, .slice none 0 0] 33)).heap.size = w.heap.size + 4 := by simp
  have H2 := hide h2
  have HB2 := hide hb2
  have HX := hide hx
  have HY := hide hy
  have HSZ := hide hsz
  clear h2 hb2 hx hy hsz
  obtain ⟨j0, hj, hy0, hy1, hy2⟩ := info_parts hiParcel
  go_enter Try.func5, Try.ntmps5
  go_upto_region 2 with (go_at_call 9; refine (newSink _).mono ?_; rintro e w' ⟨rfl, rfl⟩)
  have H4 := hide (show Two w ((((w.alloc (.cells #[.map none] 44)).alloc (.cells #[.pointer (some ⟨w.heap.size, 0, none⟩), .slice none 0 0, .slice none 0 0, .slice none 0 0] 33)).alloc (.cells #[.map none] 44)).alloc (.cells #[.pointer (some ⟨w.heap.size + 1 + 1, 0, none⟩), .slice none 0 0, .slice none 0 0, .slice none 0 0] 33)) x y 0 from H2.out)
  have HB4 := hide (show Below w.heap.size w ((((w.alloc (.cells #[.map none] 44)).alloc (.cells #[.pointer (some ⟨w.heap.size, 0, none⟩), .slice none 0 0, .slice none 0 0, .slice none 0 0] 33)).alloc (.cells #[.map none] 44)).alloc (.cells #[.pointer (some ⟨w.heap.size + 1 + 1, 0, none⟩), .slice none 0 0, .slice none 0 0, .slice none 0 0] 33)) from HB2.out)
  have HZ4 := hide (show ((((w.alloc (.cells #[.map none] 44)).alloc (.cells #[.pointer (some ⟨w.heap.size, 0, none⟩), .slice none 0 0, .slice none 0 0, .slice none 0 0] 33)).alloc (.cells #[.map none] 44)).alloc (.cells #[.pointer (some ⟨w.heap.size + 1 + 1, 0, none⟩), .slice none 0 0, .slice none 0 0, .slice none 0 0] 33)).heap.size = w.heap.size + 1 + 1 + 1 + 1 from HSZ.out)
  clear H2 HB2 HSZ
  generalize (((w.alloc (.cells #[.map none] 44)).alloc (.cells #[.pointer (some ⟨w.heap.size, 0, none⟩), .slice none 0 0, .slice none 0 0, .slice none 0 0] 33)).alloc (.cells #[.map none] 44)).alloc (.cells #[.pointer (some ⟨w.heap.size + 1 + 1, 0, none⟩), .slice none 0 0, .slice none 0 0, .slice none 0 0] 33) = W4 at *
  obtain ⟨N, hN⟩ : ∃ N, w.heap.size = N := ⟨_, rfl⟩
  rw [hN] at HZ4 HX HY
  rw [hN]
  have HP5 := hide (show (W4.alloc (.cells #[.pointer (some ⟨N + 1, 0, none⟩), .pointer (some ⟨N + 1 + 1 + 1, 0, none⟩)] 27)).ownsRow w.heap.size 27 1 (.slice (some ⟨N + 1 + 1 + 1 + 1, 0, none⟩) 2 2) 2 [.pointer (some ⟨x.S, 0, none⟩), .pointer (some ⟨y.S, 0, none⟩)] by
    have := World.ownsRow_lit (base := w.heap.size) (e := 27) (size := 1) W4 #[.pointer (some ⟨N + 1, 0, none⟩), .pointer (some ⟨N + 1 + 1 + 1, 0, none⟩)] 2 HB4.out.size (by decide) rfl
    rw [HZ4.out] at this
    rw [HX.out, HY.out]
    exact this)
  have H5 := hide (H4.out.keep (below_new (w := W4) (.cells #[.pointer (some ⟨N + 1, 0, none⟩), .pointer (some ⟨N + 1 + 1 + 1, 0, none⟩)] 27)))
  have HB5 := hide (HB4.out.alloc HB4.out.size (.cells #[.pointer (some ⟨N + 1, 0, none⟩), .pointer (some ⟨N + 1 + 1 + 1, 0, none⟩)] 27))
  clear H4 HB4 HZ4
  generalize W4.alloc (.cells #[.pointer (some ⟨N + 1, 0, none⟩), .pointer (some ⟨N + 1 + 1 + 1, 0, none⟩)] 27) = W5 at *
  clear hN
  generalize N + 1 + 1 + 1 + 1 = LB at *
  obtain ⟨lb, lcap, hle, hlcap, _, hll, hlc⟩ := row_from HP5.out (i := 0) (by omega)
  injection hle with e1 em e2
  injection e1 with e1
  injection e1 with e1
  clear em
  subst e1
  subst e2
  have p0 := (hlc 0 _ rfl).1
  have p1 := (hlc 1 _ rfl).1
  have c0 := (head4 H5.out.one.sn.head).1
  have d0 := (head4 H5.out.two.sn.head).1
  clear hlc
  go_upto_region 4 with fail
  clear c0 d0 p0 p1 hll hlcap
  go_upto_region 5 with (at_builtin; refine Apn.wpList_own _ rfl (.tmp 38) (.tmp 39) 26 rfl w.heap.size 38 j0 (.agg #[.int .i64 0, .bool false, .int .i64 0, .string ByteArray.empty]) 4 40 Try.underlying26 hj hy0 hy1 hy2 rfl (by decide) _ 4 (prow four) rfl (own_four HB5.out.size) _ _ _ (prow ds) rfl (src_keep HSRC.out (HB5.out.alloc HB5.out.size _)) (by unfold maxLen; omega) (by omega) (by have := HB5.out.size; simp; omega) ?_; intro v2 w2 o2 g2 n2; obtain ⟨a2, c2, rfl⟩ := Own.shape o2; have HRUN := hide (run_start H5.out HP5.out HB5.out o2 g2); clear o2 g2 n2)
  go_wp2_with fail
  go_loopw [4] (fun s4 wr => ∃ (i : Nat) (x' y' : En), s4 = .int .i64 (i : Int) ∧ i ≤ 4 + ds.length ∧ Hid (Run w wr (.slice (some ⟨LB, 0, none⟩) 2 2) (.slice a2 (4 + ds.length) c2) x.S y.S (four ++ ds) x' y' i)) (fun s4 _ => 4 + ds.length - (intOf s4).toNat)
  case atStart => exact ⟨0, x, y, rfl, by omega, HRUN.out⟩
  case round =>
    clear HRUN
    obtain ⟨i, x', y', rfl, hi, HR⟩ := hrel
    by_cases hil : i < 4 + ds.length
    · have hiz : (i : Int) < ((4 + ds.length : Nat) : Int) := by omega
      have hizb : (i : Int) < 4 + (ds.length : Int) := by omega
      obtain ⟨d, hd⟩ : ∃ d, (four ++ ds)[i]? = some d := ⟨_, List.getElem?_eq_getElem (by rw [List.length_append]; exact hil)⟩
      have HDOK := hide (show d.ok by
        rcases List.mem_append.1 (List.mem_of_getElem? hd) with e | e
        · simp only [four, List.mem_cons, List.mem_nil_iff, or_false] at e
          rcases e with rfl | rfl | rfl | rfl <;> exact ⟨by decide, by decide⟩
        · exact HOK.out d e)
      obtain ⟨sb, scap, hse, hscap, k0, k1, k2, k3⟩ := prow_at HR.out.script hd
      injection hse with e1 em e2
      clear em
      subst e1
      subst e2
      have hscap2 : 4 + ds.length ≤ c2 := by rw [List.length_append] at hscap; exact hscap
      clear hd hscap
      obtain ⟨lb2, lcap2, hle2, hlcap2, _, _, hlc2⟩ := row_from HR.out.pairs (i := 0) (by omega)
      injection hle2 with e1 em e2
      injection e1 with e1
      injection e1 with e1
      clear em
      subst e1
      subst e2
      have p0 := (hlc2 0 _ rfl).1
      have p1 := (hlc2 1 _ rfl).1
      clear hlc2
      have hpk2 : pk d.c = 0 ∨ pk d.c = 1 := by have := pk_lt d.c; omega
      rcases hpk2 with hpk | hpk
      · have hpc := pick d.c HDOK.out.1 wr
        rw [hpk] at hpc
        clear hpk
        go_wp2_with fail
        refine hpc.mono ?_
        clear hpc
        rintro e w' ⟨rfl, hw⟩
        subst w'
        cases hlk : d.look with
        | true =>
          rw [hlk] at k1
          have hlo := run_looks HR.out.two.one (by omega)
          rw [HR.out.hx] at hlo
          go_wp2_with fail
          refine hlo.mono ?_
          clear hlo
          rintro e w3 ⟨rfl, hdx⟩
          obtain ⟨x2, hrun2⟩ := HR.out.next hdx
          have HR2 := hide hrun2
          clear hrun2 hdx p0 p1 k0 k1 k2 k3
          obtain ⟨lb3, lcap3, hle3, hlcap3, _, _, hlc3⟩ := row_from HR2.out.pairs (i := 0) (by omega)
          injection hle3 with e1 em e2
          injection e1 with e1
          injection e1 with e1
          clear em
          subst e1
          subst e2
          have p0 := (hlc3 0 _ rfl).1
          have p1 := (hlc3 1 _ rfl).1
          clear hlc3 hlcap3
          have hw0 := run_whole HR2.out.two.one (by omega)
          rw [HR2.out.hx] at hw0
          go_wp2_with fail
          refine hw0.mono ?_
          clear hw0 p0 p1
          rintro e w4 ⟨rfl, hb4⟩
          have HR3 := hide (HR2.out.keep hb4)
          clear hb4 HR2
          obtain ⟨lb4, lcap4, hle4, hlcap4, _, _, hlc4⟩ := row_from HR3.out.pairs (i := 0) (by omega)
          injection hle4 with e1 em e2
          injection e1 with e1
          injection e1 with e1
          clear em
          subst e1
          subst e2
          have p0 := (hlc4 0 _ rfl).1
          have p1 := (hlc4 1 _ rfl).1
          clear hlc4 hlcap4
          have hw1 := run_whole HR3.out.two.two (by omega)
          rw [HR3.out.hy] at hw1
          go_wp2_with fail
          refine hw1.mono ?_
          clear hw1 p0 p1
          rintro e w5 ⟨rfl, hb5⟩
          have HR4 := hide (HR3.out.keep hb5)
          clear hb5 HR3
          go_wp2_with fail
          go_roundw
          case rel => exact ⟨i + 1, x2, y', by go_num, by omega, HR4.out⟩
          case measure => simp [intOf]; omega
        | false =>
          rw [hlk] at k1
          have hlo := run_takes d.m HDOK.out.2 HR.out.two.one (by omega)
          rw [HR.out.hx] at hlo
          go_wp2_with fail
          refine hlo.mono ?_
          clear hlo
          rintro e w3 ⟨rfl, hdx⟩
          obtain ⟨x2, hrun2⟩ := HR.out.next hdx
          have HR2 := hide hrun2
          clear hrun2 hdx p0 p1 k0 k1 k2 k3
          obtain ⟨lb3, lcap3, hle3, hlcap3, _, _, hlc3⟩ := row_from HR2.out.pairs (i := 0) (by omega)
          injection hle3 with e1 em e2
          injection e1 with e1
          injection e1 with e1
          clear em
          subst e1
          subst e2
          have p0 := (hlc3 0 _ rfl).1
          have p1 := (hlc3 1 _ rfl).1
          clear hlc3 hlcap3
          have hw0 := run_whole HR2.out.two.one (by omega)
          rw [HR2.out.hx] at hw0
          go_wp2_with fail
          refine hw0.mono ?_
          clear hw0 p0 p1
          rintro e w4 ⟨rfl, hb4⟩
          have HR3 := hide (HR2.out.keep hb4)
          clear hb4 HR2
          obtain ⟨lb4, lcap4, hle4, hlcap4, _, _, hlc4⟩ := row_from HR3.out.pairs (i := 0) (by omega)
          injection hle4 with e1 em e2
          injection e1 with e1
          injection e1 with e1
          clear em
          subst e1
          subst e2
          have p0 := (hlc4 0 _ rfl).1
          have p1 := (hlc4 1 _ rfl).1
          clear hlc4 hlcap4
          have hw1 := run_whole HR3.out.two.two (by omega)
          rw [HR3.out.hy] at hw1
          go_wp2_with fail
          refine hw1.mono ?_
          clear hw1 p0 p1
          rintro e w5 ⟨rfl, hb5⟩
          have HR4 := hide (HR3.out.keep hb5)
          clear hb5 HR3
          go_wp2_with fail
          go_roundw
          case rel => exact ⟨i + 1, x2, y', by go_num, by omega, HR4.out⟩
          case measure => simp [intOf]; omega
      · have hpc := pick d.c HDOK.out.1 wr
        rw [hpk] at hpc
        clear hpk
        go_wp2_with fail
        refine hpc.mono ?_
        clear hpc
        rintro e w' ⟨rfl, hw⟩
        subst w'
        cases hlk : d.look with
        | true =>
          rw [hlk] at k1
          have hlo := run_looks HR.out.two.two (by omega)
          rw [HR.out.hy] at hlo
          go_wp2_with fail
          refine hlo.mono ?_
          clear hlo
          rintro e w3 ⟨rfl, hdx⟩
          obtain ⟨x2, hrun2⟩ := HR.out.next2 hdx
          have HR2 := hide hrun2
          clear hrun2 hdx p0 p1 k0 k1 k2 k3
          obtain ⟨lb3, lcap3, hle3, hlcap3, _, _, hlc3⟩ := row_from HR2.out.pairs (i := 0) (by omega)
          injection hle3 with e1 em e2
          injection e1 with e1
          injection e1 with e1
          clear em
          subst e1
          subst e2
          have p0 := (hlc3 0 _ rfl).1
          have p1 := (hlc3 1 _ rfl).1
          clear hlc3 hlcap3
          have hw0 := run_whole HR2.out.two.one (by omega)
          rw [HR2.out.hx] at hw0
          go_wp2_with fail
          refine hw0.mono ?_
          clear hw0 p0 p1
          rintro e w4 ⟨rfl, hb4⟩
          have HR3 := hide (HR2.out.keep hb4)
          clear hb4 HR2
          obtain ⟨lb4, lcap4, hle4, hlcap4, _, _, hlc4⟩ := row_from HR3.out.pairs (i := 0) (by omega)
          injection hle4 with e1 em e2
          injection e1 with e1
          injection e1 with e1
          clear em
          subst e1
          subst e2
          have p0 := (hlc4 0 _ rfl).1
          have p1 := (hlc4 1 _ rfl).1
          clear hlc4 hlcap4
          have hw1 := run_whole HR3.out.two.two (by omega)
          rw [HR3.out.hy] at hw1
          go_wp2_with fail
          refine hw1.mono ?_
          clear hw1 p0 p1
          rintro e w5 ⟨rfl, hb5⟩
          have HR4 := hide (HR3.out.keep hb5)
          clear hb5 HR3
          go_wp2_with fail
          go_roundw
          case rel => exact ⟨i + 1, x', x2, by go_num, by omega, HR4.out⟩
          case measure => simp [intOf]; omega
        | false =>
          rw [hlk] at k1
          have hlo := run_takes d.m HDOK.out.2 HR.out.two.two (by omega)
          rw [HR.out.hy] at hlo
          go_wp2_with fail
          refine hlo.mono ?_
          clear hlo
          rintro e w3 ⟨rfl, hdx⟩
          obtain ⟨x2, hrun2⟩ := HR.out.next2 hdx
          have HR2 := hide hrun2
          clear hrun2 hdx p0 p1 k0 k1 k2 k3
          obtain ⟨lb3, lcap3, hle3, hlcap3, _, _, hlc3⟩ := row_from HR2.out.pairs (i := 0) (by omega)
          injection hle3 with e1 em e2
          injection e1 with e1
          injection e1 with e1
          clear em
          subst e1
          subst e2
          have p0 := (hlc3 0 _ rfl).1
          have p1 := (hlc3 1 _ rfl).1
          clear hlc3 hlcap3
          have hw0 := run_whole HR2.out.two.one (by omega)
          rw [HR2.out.hx] at hw0
          go_wp2_with fail
          refine hw0.mono ?_
          clear hw0 p0 p1
          rintro e w4 ⟨rfl, hb4⟩
          have HR3 := hide (HR2.out.keep hb4)
          clear hb4 HR2
          obtain ⟨lb4, lcap4, hle4, hlcap4, _, _, hlc4⟩ := row_from HR3.out.pairs (i := 0) (by omega)
          injection hle4 with e1 em e2
          injection e1 with e1
          injection e1 with e1
          clear em
          subst e1
          subst e2
          have p0 := (hlc4 0 _ rfl).1
          have p1 := (hlc4 1 _ rfl).1
          clear hlc4 hlcap4
          have hw1 := run_whole HR3.out.two.two (by omega)
          rw [HR3.out.hy] at hw1
          go_wp2_with fail
          refine hw1.mono ?_
          clear hw1 p0 p1
          rintro e w5 ⟨rfl, hb5⟩
          have HR4 := hide (HR3.out.keep hb5)
          clear hb5 HR3
          go_wp2_with fail
          go_roundw
          case rel => exact ⟨i + 1, x', x2, by go_num, by omega, HR4.out⟩
          case measure => simp [intOf]; omega
    · have hiz : ¬ (i : Int) < ((4 + ds.length : Nat) : Int) := by omega
      have hizb : ¬ (i : Int) < 4 + (ds.length : Int) := by omega
      go_wp2_with fail
      go_ret
      exact ⟨rfl, HR.out.below⟩

end Go.Proofs.Ytenegfafjjknoaa.Sk
