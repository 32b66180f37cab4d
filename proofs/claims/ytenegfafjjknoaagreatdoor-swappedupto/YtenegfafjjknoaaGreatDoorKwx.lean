/- P5: counters and timers do not ask which came first: the law, walked over the contracts of what it calls. P5: counters and timers do not ask which came first: the law at every input. -/
import Derived.Test.YtenegfafjjknoaaGreatDoorMqx
import Derived.Test.YtenegfafjjknoaaGreatDoorLeaf
import Derived.Test.YtenegfafjjknoaaGreatDoorPlain
import Derived.Lib.ItoaNum
import Derived.Deep.Cut
import Derived.Maps.AppendAt
import Derived.Test.YtenegfafjjknoaaGreatDoorKg
import Derived.Test.YtenegfafjjknoaaGreatDoorKd
namespace Go.Proofs.YtenegfafjjknoaaGreatDoor.Kf
open Go.RowKit Mem Foot

theorem infoStrW : (Tryz.prog.info? 9).map (fun i => (i.zero, i.size, i.bytes)) = some (some (.string ⟨#[]⟩), 1, 16) := by kernel_rfl

theorem own_sliceW {w : World} {base n : Nat} {e : TypeId} {v : Value} {xs : List Value} (h : w.ownsRow base e 1 v n xs) : ∃ a l c, v = .slice a l c := by
  rcases h.2 with ⟨rfl, _⟩ | ⟨g, cap, cur, rfl, _⟩
  · exact ⟨_, _, _, rfl⟩
  · exact ⟨_, _, _, rfl⟩

theorem own_lenW {w : World} {base n : Nat} {e : TypeId} {a : Option Addr} {l c : Nat} {xs : List Value} (h : w.ownsRow base e 1 (.slice a l c) n xs) : l = n := by
  rcases h.2 with ⟨h1, h2⟩ | ⟨g, cap, cur, h1, _⟩
  · cases h1
    exact h2.symm
  · cases h1
    rfl

theorem own_growsW {w wr w2 : World} {base : Nat} {v : Value} {n : Nat} {e : TypeId} {xs : List Value} {o : Obj} (hB : Below base w wr) (hbs : base ≤ wr.heap.size) (hr : wr.ownsRow base e 1 v n xs) (hg : (wr.alloc o).grownBy w2 v.ownBlock) : Below base w w2 :=
  (hB.alloc hbs _).grown hg (by simp; omega) (fun k hk => (hr.lt k hk).1)

/-- The text of a line of the law. -/
def swLine (pk : Int → Int → Int) (x : Int) : List UInt8 := if x.tmod 2 = 0 then [116, 58] ++ Lib.decDigits (pk x 30).toNat ++ [124, 109, 115] else [99, 58] ++ Lib.decDigits (pk x 1000).toNat ++ [124, 99]

def strs (l : List (List UInt8)) : List Value := l.map fun x => .string ⟨x.toArray⟩

theorem add_blockW (a : Addr) (i : Nat) : (a.add i).block = a.block := by
  unfold Addr.add
  split <;> rfl

theorem own_belowW {w w' : World} {base n : Nat} {e : TypeId} {v : Value} {xs : List Value} (h : w.ownsRow base e 1 v n xs) (hb : Below w.heap.size w w') : w'.ownsRow base e 1 v n xs := by
  refine ⟨h.1, ?_⟩
  rcases h.2 with h1 | ⟨g, cap, cur, h1, h2, h3, h4⟩
  · exact Or.inl h1
  · refine Or.inr ⟨g, cap, cur, h1, h2, ?_, h4⟩
    have hg : g < w.heap.size := by
      rcases Nat.lt_or_ge g w.heap.size with h | h
      · exact h
      · rw [Array.getElem?_eq_none h] at h3
        cases h3
    rw [hb.block g hg]
    exact h3

theorem strs_next {l : List Int} {k : Nat} {x : Int} (pk : Int → Int → Int) (hx : l[k]? = some x) {z : ByteArray} (hz : Bytes.B z = swLine pk x) : strs ((l.take (k + 1)).map (swLine pk)) = strs ((l.take k).map (swLine pk)) ++ [.string z] := by
  have hz2 : z = ⟨(swLine pk x).toArray⟩ := Bytes.B_inj (by rw [hz]; rfl)
  rw [List.take_add_one, hx]
  simp [strs, hz2]

theorem cells6W {w : World} {b : Nat} {t : TypeId} {v0 v1 v2 v3 v4 v5 : Value} (h : Sits w b t #[v0, v1, v2, v3, v4, v5]) :
    w.cell? ⟨b, 0, none⟩ = some v0 ∧ w.cell? ⟨b, 1, none⟩ = some v1 ∧ w.cell? ⟨b, 2, none⟩ = some v2 ∧ w.cell? ⟨b, 3, none⟩ = some v3 ∧ w.cell? ⟨b, 4, none⟩ = some v4 ∧ w.cell? ⟨b, 5, none⟩ = some v5 :=
  ⟨h.cell 0 _ rfl, h.cell 1 _ rfl, h.cell 2 _ rfl, h.cell 3 _ rfl, h.cell 4 _ rfl, h.cell 5 _ rfl⟩

def RowS (w : World) (v : Value) (ds : List (List UInt8)) : Prop := ∃ a cap, v = .slice a ds.length cap ∧ ds.length ≤ cap ∧ ∀ (j : Nat) x, ds[j]? = some x → ∃ g off, a = some ⟨g, off, none⟩ ∧ g < w.heap.size ∧ w.cell? ⟨g, off + j, none⟩ = some (.string ⟨x.toArray⟩)

theorem own_setW {w : World} {base n P i : Nat} {e : TypeId} {v x : Value} {xs : List Value} (h : w.ownsRow base e 1 v n xs) (hP : P < base) : (w.setCell ⟨P, i, none⟩ x).ownsRow base e 1 v n xs := by
  refine ⟨h.1, ?_⟩
  rcases h.2 with h1 | ⟨g, cap, cur, h1, h2, h3, h4⟩
  · exact Or.inl h1
  · exact Or.inr ⟨g, cap, cur, h1, h2, (Below.heap_setCell _ _ _ _ (show g ≠ P by omega)).trans h3, h4⟩

theorem add_plainW (g o j : Nat) : (⟨g, o, none⟩ : Addr).add j = ⟨g, o + j, none⟩ := by
  unfold Addr.add
  split <;> simp_all

theorem strs_get {ds : List (List UInt8)} {j : Nat} {u : Value} (h : (strs ds)[j]? = some u) : ∃ x, ds[j]? = some x ∧ u = .string ⟨x.toArray⟩ := by
  simp only [strs, List.getElem?_map, Option.map_eq_some_iff] at h
  obtain ⟨x, h1, h2⟩ := h
  exact ⟨x, h1, h2.symm⟩

theorem rowS_of {w : World} {base m : Nat} {v : Value} {ds : List (List UInt8)} (h : w.ownsRow base 9 1 v m (strs ds)) : RowS w v ds := by
  have hm : ds.length = m := by
    have := h.1
    simpa [strs] using this
  subst hm
  have h' := h
  rcases h.2 with ⟨rfl, h0⟩ | ⟨g, cap, cur, rfl, h2, h3, h4, _⟩
  · have : ds = [] := List.eq_nil_of_length_eq_zero h0
    subst this
    exact ⟨none, 0, rfl, Nat.le_refl _, fun j x hx => by simp at hx⟩
  · refine ⟨_, cap, rfl, h4, fun j x hx => ⟨g, 0, rfl, ?_, ?_⟩⟩
    · rcases Nat.lt_or_ge g w.heap.size with hl | hl
      · exact hl
      · rw [Array.getElem?_eq_none hl] at h3
        cases h3
    · have := h'.cells (g := g) rfl j (.string ⟨x.toArray⟩) (by simp [strs, hx])
      rw [add_plainW] at this
      exact this

theorem RowS.below {w w' : World} {v : Value} {ds : List (List UInt8)} (h : RowS w v ds) (hb : Below w.heap.size w w') : RowS w' v ds := by
  obtain ⟨a, cap, h1, h2, h3⟩ := h
  refine ⟨a, cap, h1, h2, fun j x hx => ?_⟩
  obtain ⟨g, off, e1, e2, e3⟩ := h3 j x hx
  exact ⟨g, off, e1, Nat.lt_of_lt_of_le e2 hb.size, by rw [hb.cell (p := ⟨g, off + j, none⟩) e2]; exact e3⟩

theorem strs_len (ds : List (List UInt8)) : (strs ds).length = ds.length := by simp [strs]

theorem one_strs (ds : List (List UInt8)) : ∀ u ∈ strs ds, u.oneCell' = true := by
  intro u hu
  simp only [strs, List.mem_map] at hu
  obtain ⟨x, _, rfl⟩ := hu
  rfl

/-- A part of a row that is held, as a source. -/
theorem part_get {w : World} {base n g cap o : Nat} {A : List (List UInt8)} {B : List (List UInt8)} (h : w.ownsRow base 9 1 (.slice (some ⟨g, 0, none⟩) n cap) n (strs A)) (hB : ∀ j x, B[j]? = some x → A[o + j]? = some x) : ∀ j u, (strs B)[j]? = some u → w.cell? ((⟨g, o, none⟩ : Addr).add j) = some u := by
  intro j u hu
  obtain ⟨x, hx, rfl⟩ := strs_get hu
  have := h.cells (g := g) rfl (o + j) (.string ⟨x.toArray⟩) (by simp [strs, hB j x hx])
  rw [add_plainW] at this ⊢
  rw [Nat.zero_add] at this
  exact this

set_option maxRecDepth 100000 in
set_option maxHeartbeats 8000000 in
theorem swapped_walk (c p : Fin 6 → Int) (l : List Int) (hl : l.length ≤ 1048576) (hlr : ∀ x ∈ l, -9223372036854775808 ≤ x ∧ x ≤ 9223372036854775807) (ao : Option Addr) (cap : Nat) (at_ : Int) (ha0 : -9223372036854775808 ≤ at_) (ha1 : at_ ≤ 9223372036854775807) (w : World)
    (hsrc : ∀ (i : Nat) x, l[i]? = some x → ∃ a, ao = some a ∧ a.block < w.heap.size ∧ w.cell? (a.add i) = some (.int .i64 x))
    (T : World → Prop) (hTT : ∀ w w' : World, T w → Below w.heap.size w w' → T w') (ht : T w) (pk : Int → Int → Int) (hpr : ∀ c n : Int, 0 < n → 0 ≤ pk c n ∧ pk c n < n)
    (hpick : ∀ c n : Int, -9223372036854775808 ≤ c → c ≤ 9223372036854775807 → 0 < n → n ≤ 1000000000000 → ∀ w : World, Calls Tryz.prog 23 #[.int .i64 c, .int .i64 n] w fun e w' => e = .returned (.int .i64 (pk c n)) ∧ w' = w)
    (hdig : ∀ v : Nat, v ≤ 999999999999 → ∀ w : World, Calls Tryz.prog 24 #[.int .i64 (v : Int)] w fun e w' => (∃ z, e = .returned (.string z) ∧ z.size ≤ 19 ∧ Bytes.B z = Lib.decDigits v) ∧ Below w.heap.size w w')
    (hfit : ∀ w : World, Calls Tryz.prog 25 #[.agg #[.int .i64 (c 0), .int .i64 (c 1), .int .i64 (c 2), .int .i64 (c 3), .int .i64 (c 4), .int .i64 (c 5)]] w fun e w' => e = .returned (.agg #[.int .i64 (p 0), .int .i64 (p 1), .int .i64 (p 2), .int .i64 (p 3), .int .i64 (p 4), .int .i64 (p 5)]) ∧ Below w.heap.size w w')
    (TX : List (List UInt8) → List UInt8)
    (hsum : ∀ (v : Value) (ds : List (List UInt8)) (w : World), T w → RowS w v ds → ds.length ≤ 1048577 → (∀ d ∈ ds, d.length ≤ 24 ∧ (10 : UInt8) ∉ d) → Calls Tryz.prog 20 #[.agg #[.int .i64 (p 0), .int .i64 32, .int .i64 (p 2), .int .i64 64, .int .i64 (p 4), .int .i64 (p 5)], .int .i64 0, v] w fun e w' => (∃ z, e = .returned (.tuple #[.string z, .int .i64 0]) ∧ Bytes.B z = TX ds) ∧ Below w.heap.size w w')
    (hsame : ∀ k, TX ((l.map (swLine pk) ++ [[99, 58, 49, 124, 99]]).drop k ++ (l.map (swLine pk) ++ [[99, 58, 49, 124, 99]]).take k) = TX (l.map (swLine pk) ++ [[99, 58, 49, 124, 99]]))
    (hall : ∀ d ∈ l.map (swLine pk) ++ [[99, 58, 49, 124, 99]], d.length ≤ 24 ∧ (10 : UInt8) ∉ d)
    (hlong : 28 < (TX (l.map (swLine pk) ++ [[99, 58, 49, 124, 99]])).length) :
    Calls Tryz.prog 8 #[.agg #[.int .i64 (c 0), .int .i64 (c 1), .int .i64 (c 2), .int .i64 (c 3), .int .i64 (c 4), .int .i64 (c 5)], .slice ao l.length cap, .int .i64 at_] w fun e w' => e = .returned (.bool true) ∧ Below w.heap.size w w' := by
  obtain ⟨i0, hi, hz0, hz1, hz2⟩ := info_parts infoStrW
  have HT := hide ht
  have HTT := hide hTT
  have HPR := hide hpr
  have HPK := hide hpick
  have HDG := hide hdig
  have HF := hide hfit
  have HS := hide hsum
  have HSM := hide hsame
  have HLG := hide hlong
  have HALL := hide hall
  have HSR := hide hsrc
  have HLR := hide hlr
  clear ht hTT hpr hpick hdig hfit hsum hsame hlong hall hsrc hlr
  have hS0 := Sits.new w 31 #[.int .i64 (c 0), .int .i64 (c 1), .int .i64 (c 2), .int .i64 (c 3), .int .i64 (c 4), .int .i64 (c 5)]
  have HB0 := hide (below_new (w := w) (.cells #[.int .i64 (c 0), .int .i64 (c 1), .int .i64 (c 2), .int .i64 (c 3), .int .i64 (c 4), .int .i64 (c 5)] 31))
  go_enter Tryz.func8, Tryz.ntmps8
  go_upto_region 1 with fail
  obtain ⟨B, hBe⟩ : ∃ B, w.heap.size = B := ⟨_, rfl⟩
  rw [hBe] at hS0 ⊢
  generalize w.alloc (.cells #[.int .i64 (c 0), .int .i64 (c 1), .int .i64 (c 2), .int .i64 (c 3), .int .i64 (c 4), .int .i64 (c 5)] 31) = w0 at *
  obtain ⟨c0, c1, c2, c3, c4, c5⟩ := cells6W hS0
  go_wp2_with fail
  refine (HF.out w0).mono ?_
  rintro e w1 ⟨rfl, hb1⟩
  have HB1 := hide (HB0.out.trans (hb1.mono HB0.out.size))
  have HP2 := hide (Sits.new w1 31 #[.int .i64 (p 0), .int .i64 (p 1), .int .i64 (p 2), .int .i64 (p 3), .int .i64 (p 4), .int .i64 (p 5)])
  have HB2 := hide (HB1.out.alloc HB1.out.size (.cells #[.int .i64 (p 0), .int .i64 (p 1), .int .i64 (p 2), .int .i64 (p 3), .int .i64 (p 4), .int .i64 (p 5)] 31))
  have HPL := hide (show w.heap.size ≤ w1.heap.size from HB1.out.size)
  obtain ⟨P, hP⟩ : ∃ P, w1.heap.size = P := ⟨_, rfl⟩
  rw [hP] at HP2 HPL
  clear c0 c1 c2 c3 c4 c5 hb1 hS0 hBe
  go_upto_region 2 with fail
  generalize w1.alloc (.cells #[.int .i64 (p 0), .int .i64 (p 1), .int .i64 (p 2), .int .i64 (p 3), .int .i64 (p 4), .int .i64 (p 5)] 31) = w2 at *
  clear hP
  have f1 := HP2.out.frozen 1
  have b1 : w2.cell? ⟨P, 1, none⟩ = some (.int .i64 (p 1)) := HP2.out.cell 1 _ rfl
  have HP3 := hide (show Sits (w2.setCell ⟨P, 1, none⟩ (.int .i64 32)) P 31 #[.int .i64 (p 0), .int .i64 32, .int .i64 (p 2), .int .i64 (p 3), .int .i64 (p 4), .int .i64 (p 5)] from HP2.out.set 1 (.int .i64 32))
  have HB3 := hide (HB2.out.setCell (p := ⟨P, 1, none⟩) HPL.out (.int .i64 32))
  go_upto_region 3 with fail
  clear f1 b1
  generalize w2.setCell ⟨P, 1, none⟩ (.int .i64 32) = w3 at *
  have HS3 := hide (show ∀ (i : Nat) x, l[i]? = some x → ∃ a, ao = some a ∧ a.block < w3.heap.size ∧ w3.cell? (a.add i) = some (.int .i64 x) from fun i x hx => by
    obtain ⟨a, h1, h2, h3⟩ := HSR.out i x hx
    exact ⟨a, h1, Nat.lt_of_lt_of_le h2 HB3.out.size, by rw [HB3.out.cell (p := a.add i) (by rw [add_blockW]; exact h2)]; exact h3⟩)
  go_wp2_with fail
  go_loopw [8, 9] (fun v i wr => ∃ k : Nat, i = .int .i64 (k : Int) ∧ k ≤ l.length ∧ (∃ a n c, v = .slice a n c) ∧ Hid (wr.ownsRow w3.heap.size 9 1 v k (strs ((l.take k).map (swLine pk)))) ∧ Hid (Below w3.heap.size w3 wr)) (fun _ i _ => l.length - (intOf i).toNat)
  case atStart => exact ⟨0, rfl, by omega, ⟨_, _, _, rfl⟩, by simp [strs, Hid, World.ownsRow_nil], Below.refl _ _⟩
  case round =>
    obtain ⟨k, rfl, hk, ⟨va, vn, vc, rfl⟩, HR, HB⟩ := hrel
    by_cases hkl : k < l.length
    · have hkz : (k : Int) < (l.length : Int) := by omega
      obtain ⟨x, hx⟩ : ∃ x, l[k]? = some x := ⟨l[k], List.getElem?_eq_getElem hkl⟩
      obtain ⟨a, rfl, hab, hac⟩ := HS3.out k x hx
      have hcell : wr.cell? (a.add k) = some (.int .i64 x) := by rw [HB.out.cell (p := a.add k) (by rw [add_blockW]; exact hab)]; exact hac
      have hxr := HLR.out x (List.mem_of_getElem? hx)
      have hp1 := HPK.out x 1000 hxr.1 hxr.2 (by omega) (by omega)
      have hq1 := HPR.out x 1000 (by omega)
      obtain ⟨y, hy⟩ : ∃ y : Nat, pk x 1000 = (y : Int) := ⟨(pk x 1000).toNat, by omega⟩
      rw [hy] at hp1 hq1
      have HP1 := hide hp1
      have HX := hide hx
      have HY := hide hy
      have HAB := hide hab
      have HAC := hide hac
      clear hp1 hx hac hab hy
      have hxr0 := hxr.1
      have hxr1 := hxr.2
      by_cases hev : x.tmod 2 = 0
      · have hp2 := HPK.out x 30 hxr.1 hxr.2 (by omega) (by omega)
        have hq2 := HPR.out x 30 (by omega)
        obtain ⟨y2, hy2⟩ : ∃ y : Nat, pk x 30 = (y : Int) := ⟨(pk x 30).toNat, by omega⟩
        rw [hy2] at hp2 hq2
        have HP2' := hide hp2
        have HY2 := hide hy2
        clear hp2 hy2 hxr
        go_wp2_with fail
        refine (HP1.out wr).mono ?_
        rintro e w' ⟨rfl, hw⟩
        subst w'
        go_wp2_with fail
        refine (HDG.out y (by omega) wr).mono ?_
        rintro e wa ⟨⟨d1, rfl, hd1s, hd1⟩, hb4⟩
        have HBa := hide (HB.out.trans (hb4.mono HB.out.size))
        have HRa := hide (own_belowW HR.out hb4)
        have hcell2 : wa.cell? (a.add k) = some (.int .i64 x) := by rw [HBa.out.cell (p := a.add k) (by rw [add_blockW]; exact HAB.out)]; exact HAC.out
        clear hcell hb4 hd1
        go_wp2_with fail
        refine (HP2'.out wa).mono ?_
        rintro e w' ⟨rfl, hw⟩
        subst w'
        go_wp2_with fail
        refine (HDG.out y2 (by omega) wa).mono ?_
        rintro e wb ⟨⟨d2, rfl, hd2s, hd2⟩, hb5⟩
        have HBb := hide (HBa.out.trans (hb5.mono HBa.out.size))
        have HRb := hide (own_belowW HRa.out hb5)
        have HD2 := hide hd2
        clear hcell2 hb5 hd2
        go_wp2_with (at_builtin; refine wpList_append_own _ rfl _ _ 36 rfl w3.heap.size 9 i0 (.string ⟨#[]⟩) 1 16 Tryz.underlying36 hi hz0 hz1 hz2 rfl (by decide) _ _ _ rfl (HRb.out.alloc _) ⟨wb.heap.size, 0, none⟩ 1 1 [_] rfl rfl (cell_one_new _ _ _) (fun x hx => by simp at hx; subst hx; rfl) (by unfold maxLen; omega) (by omega) (by have := HBb.out.size; simp; omega) ?_; intro v2 w5 hown2 hg2 hn2)
        refine ⟨⟨k + 1, by go_num, by omega, own_sliceW hown2, ?_, own_growsW HBb.out HBb.out.size HRb.out hg2⟩, by simp only [intOf]; omega⟩
        show World.ownsRow _ _ _ _ _ _ _
        rw [strs_next pk HX.out (z := ⟨#[116, 58]⟩ ++ d2 ++ ⟨#[124, 109, 115]⟩) (by
          rw [swLine, if_pos hev, HY2.out]
          simp only [Bytes.B_append, HD2.out, Int.toNat_natCast]
          rfl)]
        exact hown2
      · clear hxr
        go_wp2_with fail
        refine (HP1.out wr).mono ?_
        rintro e w' ⟨rfl, hw⟩
        subst w'
        go_wp2_with fail
        refine (HDG.out y (by omega) wr).mono ?_
        rintro e wa ⟨⟨d1, rfl, hd1s, hd1⟩, hb4⟩
        have HBa := hide (HB.out.trans (hb4.mono HB.out.size))
        have HRa := hide (own_belowW HR.out hb4)
        have HD1 := hide hd1
        have hcell2 : wa.cell? (a.add k) = some (.int .i64 x) := by rw [HBa.out.cell (p := a.add k) (by rw [add_blockW]; exact HAB.out)]; exact HAC.out
        clear hcell hb4 hd1
        go_wp2_with (at_builtin; refine wpList_append_own _ rfl _ _ 36 rfl w3.heap.size 9 i0 (.string ⟨#[]⟩) 1 16 Tryz.underlying36 hi hz0 hz1 hz2 rfl (by decide) _ _ _ rfl (HRa.out.alloc _) ⟨wa.heap.size, 0, none⟩ 1 1 [_] rfl rfl (cell_one_new _ _ _) (fun x hx => by simp at hx; subst hx; rfl) (by unfold maxLen; omega) (by omega) (by have := HBa.out.size; simp; omega) ?_; intro v2 w5 hown2 hg2 hn2)
        refine ⟨⟨k + 1, by go_num, by omega, own_sliceW hown2, ?_, own_growsW HBa.out HBa.out.size HRa.out hg2⟩, by simp only [intOf]; omega⟩
        show World.ownsRow _ _ _ _ _ _ _
        rw [strs_next pk HX.out (z := ⟨#[99, 58]⟩ ++ d1 ++ ⟨#[124, 99]⟩) (by
          rw [swLine, if_neg hev, HY.out]
          simp only [Bytes.B_append, HD1.out, Int.toNat_natCast]
          rfl)]
        exact hown2
    · have hkz : ¬ (k : Int) < (l.length : Int) := by omega
      have hk2 : k = l.length := by omega
      subst hk2
      have HR0 := hide (show wr.ownsRow w3.heap.size 9 1 (.slice va vn vc) l.length (strs (l.map (swLine pk))) by
        have := HR.out
        rw [List.take_length] at this
        exact this)
      clear HR
      go_upto_region 12 with (at_builtin; refine wpList_append_own _ rfl _ _ 36 rfl w3.heap.size 9 i0 (.string ⟨#[]⟩) 1 16 Tryz.underlying36 hi hz0 hz1 hz2 rfl (by decide) _ _ _ rfl (HR0.out.alloc _) ⟨wr.heap.size, 0, none⟩ 1 1 [_] rfl rfl (cell_one_new _ _ _) (fun x hx => by simp at hx; subst hx; rfl) (by unfold maxLen; omega) (by omega) (by have := HB.out.size; simp; omega) ?_; intro v2 w5 hown2 hg2 hn2)
      have HB5 := hide (own_growsW HB.out HB.out.size HR0.out hg2)
      have HA5 := hide (show w5.ownsRow w3.heap.size 9 1 v2 (l.length + 1) (strs (l.map (swLine pk) ++ [[99, 58, 49, 124, 99]])) by
        rw [show strs (l.map (swLine pk) ++ [[99, 58, 49, 124, 99]]) = strs (l.map (swLine pk)) ++ [.string ⟨#[99, 58, 49, 124, 99]⟩] by simp [strs]]
        exact hown2)
      clear hown2 hg2 hn2 HR0 HB
      obtain ⟨A, hA⟩ : ∃ A, l.map (swLine pk) ++ [[99, 58, 49, 124, 99]] = A := ⟨_, rfl⟩
      obtain ⟨n, hn⟩ : ∃ n, l.length + 1 = n := ⟨_, rfl⟩
      have hAn : A.length = n := by rw [← hA, ← hn]; simp
      rw [hA, hn] at HA5
      rw [hA] at HSM HLG
      have HAL := hide (show ∀ d ∈ A, d.length ≤ 24 ∧ (10 : UInt8) ∉ d by rw [← hA]; exact HALL.out)
      have hn1 : 1 ≤ n := by omega
      have hn2 : n ≤ 1048577 := by omega
      clear hA
      rcases HA5.out.2 with ⟨rfl, h0⟩ | ⟨g, cap5, cur, rfl, hgb, hgh, hnc, hcm, _, _⟩
      · omega
      have hpk := HPK.out at_ (n : Int) ha0 ha1 (by omega) (by omega)
      have hpr := HPR.out at_ (n : Int) (by omega)
      obtain ⟨q, hq⟩ : ∃ q : Nat, pk at_ (n : Int) = (q : Int) := ⟨(pk at_ (n : Int)).toNat, by omega⟩
      rw [hq] at hpk hpr
      have hqn : q < n := by omega
      have HPK5 := hide hpk
      have HGB := hide hgb
      have HGH := hide hgh
      clear hpk hq hgb hgh hpr
      go_wp2_with fail
      refine (HPK5.out w5).mono ?_
      rintro e w' ⟨rfl, hw⟩
      subst w'
      go_upto_region 14 with fail
      have hl1 : (strs (A.drop q)).length = (n - q) * 1 := by rw [strs_len, List.length_drop, hAn, Nat.mul_one]
      have hl2 : (strs (A.take q)).length = q * 1 := by rw [strs_len, List.length_take, hAn, Nat.mul_one]; omega
      have HG1 := hide (part_get (o := q) (B := A.drop q) HA5.out fun j x hx => by rw [List.getElem?_drop] at hx; exact hx)
      have HL1 := hide hl1
      have HL2 := hide hl2
      clear hl1 hl2
      go_upto_region 15 with (at_builtin; refine wpList_append_own _ rfl _ _ 36 rfl w5.heap.size 9 i0 (.string ⟨#[]⟩) 1 16 Tryz.underlying36 hi hz0 hz1 hz2 rfl (by decide) (.slice none 0 0) 0 [] rfl (World.ownsRow_nil _ _ _ _) ⟨g, q, none⟩ (n - q) (cap5 - q) (strs (A.drop q)) rfl HL1.out HG1.out (one_strs _) (by unfold maxLen; omega) (by omega) (Nat.le_refl _) ?_; intro v6 w6 hown6 hg6 hn6)
      rw [Nat.zero_add, List.nil_append] at hown6
      have HB6 := hide (show Below w5.heap.size w5 w6 from (Below.refl _ _).grown hg6 (Nat.le_refl _) (fun k hk => by cases hk))
      have HA6 := hide (own_belowW HA5.out HB6.out)
      have HO6 := hide hown6
      have HG2 := hide (part_get (o := 0) (B := A.take q) HA6.out fun j x hx => by
        rw [Nat.zero_add]
        rw [List.getElem?_take] at hx
        split at hx
        · exact hx
        · cases hx)
      have HSZ6 := hide HB6.out.size
      clear hown6 hg6 hn6 HG1
      go_upto_region 16 with (at_builtin; refine wpList_append_own _ rfl _ _ 36 rfl w5.heap.size 9 i0 (.string ⟨#[]⟩) 1 16 Tryz.underlying36 hi hz0 hz1 hz2 rfl (by decide) v6 (n - q) (strs (A.drop q)) rfl HO6.out ⟨g, 0, none⟩ q cap5 (strs (A.take q)) rfl HL2.out HG2.out (one_strs _) (by unfold maxLen; omega) (by omega) HSZ6.out ?_; intro v7 w7 hown7 hg7 hn7)
      have HB7 := hide (show Below w5.heap.size w5 w7 from HB6.out.grown hg7 HSZ6.out (fun k hk => (HO6.out.lt k hk).1))
      have HA7 := hide (own_belowW HA5.out HB7.out)
      have HO7 := hide (show w7.ownsRow w5.heap.size 9 1 v7 (n - q + q) (strs (A.drop q ++ A.take q)) by
        rw [show strs (A.drop q ++ A.take q) = strs (A.drop q) ++ strs (A.take q) by simp [strs]]
        exact hown7)
      have HB37 := hide (HB5.out.trans (HB7.out.mono HB5.out.size))
      have HP7 := hide (HP3.out.below HB37.out HP3.out.lt)
      have HPB := hide HP3.out.lt
      have HB8 := hide (((HB3.out.trans (HB37.out.mono HB3.out.size))).setCell (p := ⟨P, 3, none⟩) HPL.out (.int .i64 64))
      have HA8 := hide (rowS_of (own_setW (i := 3) (x := .int .i64 64) HA7.out HPB.out))
      have HO8 := hide (rowS_of (own_setW (i := 3) (x := .int .i64 64) HO7.out (Nat.lt_of_lt_of_le HPB.out HB5.out.size)))
      have HP8 := hide (show Sits (w7.setCell ⟨P, 3, none⟩ (.int .i64 64)) P 31 #[.int .i64 (p 0), .int .i64 32, .int .i64 (p 2), .int .i64 64, .int .i64 (p 4), .int .i64 (p 5)] from HP7.out.set 3 (.int .i64 64))
      have f3 := HP7.out.frozen 3
      have b3 : w7.cell? ⟨P, 3, none⟩ = some (.int .i64 (p 3)) := HP7.out.cell 3 _ rfl
      clear hown7 hg7 hn7
      go_upto_region 17 with fail
      clear f3 b3
      generalize w7.setCell ⟨P, 3, none⟩ (.int .i64 64) = w8 at *
      have hs1 := HS.out _ A w8 (HTT.out _ _ HT.out HB8.out) HA8.out (by omega) HAL.out
      obtain ⟨p0, p1, p2, p3, p4, p5⟩ := cells6W HP8.out
      go_wp2_with fail
      refine hs1.mono ?_
      clear hs1 p0 p1 p2 p3 p4 p5
      rintro e w9 ⟨⟨z, rfl, hz⟩, hb9⟩
      have HB9 := hide (HB8.out.trans (hb9.mono HB8.out.size))
      have HP9 := hide (HP8.out.below hb9 HP8.out.lt)
      have hs2 := HS.out _ (A.drop q ++ A.take q) w9 (HTT.out _ _ HT.out HB9.out) (HO8.out.below hb9) (by rw [List.length_append, List.length_drop, List.length_take]; omega) (fun d hd => HAL.out d (by
        rcases List.mem_append.1 hd with h | h
        · exact List.mem_of_mem_drop h
        · exact List.mem_of_mem_take h))
      have hzl : 28 < z.size := by rw [Bytes.size_B, hz]; exact HLG.out
      have hzz : (28 : Int) < (z.size : Int) := by omega
      have HZ := hide hz
      obtain ⟨p0, p1, p2, p3, p4, p5⟩ := cells6W HP9.out
      clear hz hb9
      go_wp2_with fail
      refine hs2.mono ?_
      clear hs2 p0 p1 p2 p3 p4 p5
      rintro e w10 ⟨⟨z2, rfl, hz2⟩, hb10⟩
      have HB10 := hide (HB9.out.trans (hb10.mono HB9.out.size))
      have hze : z2 = z := Bytes.B_inj (by rw [hz2, HZ.out, HSM.out q])
      subst z2
      clear hz2 hb10
      go_wp2_with fail
      go_ret
      exact ⟨rfl, HB10.out⟩

end Go.Proofs.YtenegfafjjknoaaGreatDoor.Kf

namespace Go.Proofs.YtenegfafjjknoaaGreatDoor.Kf
open Go.RowKit Mem Foot Wi Wm Kr Opts Plainw Hn Cq Parsew

theorem digits_of (v : Nat) (h : v ≤ 999999999999) (w : World) : Calls Tryz.prog 24 #[.int .i64 (v : Int)] w fun e w' => (∃ z, e = .returned (.string z) ∧ z.size ≤ 19 ∧ Bytes.B z = Lib.decDigits v) ∧ Below w.heap.size w w' :=
  (digits v h w).mono fun e w' ⟨⟨z, h1, h2⟩, hb⟩ => ⟨⟨z, h1, by rw [Bytes.size_B, h2]; exact Hi.dd_len20 (by omega), h2⟩, hb⟩

def sw (p : Fin 6 → Int) : Fin 6 → Int
  | 0 => p 0
  | 1 => 32
  | 2 => p 2
  | 3 => 64
  | 4 => p 4
  | 5 => p 5

theorem sw_ok {p : Fin 6 → Int} (h : COk p) : COk (sw p) :=
  ⟨h.w, ⟨by show (1 : Int) ≤ 32; decide, by show (32 : Int) ≤ 32; decide⟩, h.t, ⟨by show (2 : Int) ≤ 64; decide, by show (64 : Int) ≤ 64; decide⟩, h.n, h.g⟩

theorem sw_lim (p : Fin 6 → Int) : limOf (sw p) = L32 (p 2).toNat := rfl

/-- A number's line, by kind and value. -/
def swp (x : Int) : Bool × Nat := if x.tmod 2 = 0 then (true, (pk x 30).toNat) else (false, (pk x 1000).toNat)

theorem sw_line (x : Int) : swLine pk x = lineOf (swp x) := by
  unfold swLine swp
  split
  · rfl
  · rfl

theorem sw_last : ([99, 58, 49, 124, 99] : List UInt8) = lineOf (false, 1) := by
  show _ = [99, 58] ++ Lib.decDigits 1 ++ [124, 99]
  rw [Lib.decDigits_one (by decide)]
  rfl

theorem sw_all (l : List Int) : l.map (swLine pk) ++ [[99, 58, 49, 124, 99]] = (l.map swp ++ [(false, 1)]).map lineOf := by
  rw [sw_last, List.map_append, List.map_map]
  congr 1
  exact List.map_congr_left fun x _ => sw_line x

theorem swp_small (l : List Int) : ∀ p ∈ l.map swp ++ [(false, 1)], p.2 ≤ 999 ∧ (p.1 = true → p.2 < 30) := by
  intro p hp
  rcases List.mem_append.1 hp with h | h
  · obtain ⟨x, _, rfl⟩ := List.mem_map.1 h
    have h1 := pk_range (c := x) (n := 30) (by omega)
    have h2 := pk_range (c := x) (n := 1000) (by omega)
    unfold swp
    split
    · exact ⟨by simp only; omega, fun _ => by simp only; omega⟩
    · exact ⟨by simp only; omega, fun h => by cases h⟩
  · simp only [List.mem_singleton] at h
    subst h
    exact ⟨by decide, fun h => by cases h⟩

theorem line_short {p : Bool × Nat} (h : p.2 ≤ 999) : (lineOf p).length ≤ 24 ∧ (10 : UInt8) ∉ lineOf p := by
  obtain ⟨b, x⟩ := p
  have h1 := Hi.dd_len20 (u := x) (by simp only at h; omega)
  have h2 := dd_no_nl x
  cases b
  · exact ⟨by simp [lineOf, cLine]; omega, by simp [lineOf, cLine, h2]⟩
  · exact ⟨by simp [lineOf, tLine]; omega, by simp [lineOf, tLine, h2]⟩

theorem nls_zero {ds : List (List UInt8)} (h : ∀ d ∈ ds, (10 : UInt8) ∉ d) : nls ds ≤ ds.length := by
  induction ds with
  | nil => simp [nls]
  | cons d r ih =>
    have h1 := ih fun x hx => h x (List.mem_cons_of_mem _ hx)
    have h2 : Lib.countByte d 10 = 0 := List.count_eq_zero.2 (h d (List.mem_cons_self ..))
    simp only [nls, List.length_cons] at h1 ⊢
    omega

theorem swapped (c : Fin 6 → Int) (hc : ∀ i, -9223372036854775808 ≤ c i ∧ c i ≤ 9223372036854775807) (l : List Int) (hl : l.length ≤ 1048576) (hlr : ∀ x ∈ l, -9223372036854775808 ≤ x ∧ x ≤ 9223372036854775807) (ao : Option Addr) (cap : Nat) (at_ : Int) (ha0 : -9223372036854775808 ≤ at_) (ha1 : at_ ≤ 9223372036854775807) (w : World)
    (hsrc : ∀ (i : Nat) x, l[i]? = some x → ∃ a, ao = some a ∧ a.block < w.heap.size ∧ w.cell? (a.add i) = some (.int .i64 x)) (ht : Tab w) :
    Calls Tryz.prog 8 #[cfg c, .slice ao l.length cap, .int .i64 at_] w fun e w' => e = .returned (.bool true) ∧ Below w.heap.size w w' := by
  have hok := sw_ok (fit_ok c)
  refine swapped_walk c (fitc c) l hl hlr ao cap at_ ha0 ha1 w hsrc Tab (fun _ _ h hb => h.below hb) ht pk (fun c n h => pk_range h) pickW digits_of (fitW c hc) (fun ds => wtext 0 (wsum (limOf (sw (fitc c))) ds)) ?_ ?_ ?_ ?_
  · intro v ds w hT hr hlen hd
    exact sumW (sw (fitc c)) hok 0 v ds w hr hT (fun d h => by have := (hd d h).1; omega) (by have := nls_zero fun d h => (hd d h).2; omega) (by omega) (by omega) (by omega)
  · intro k
    rw [sw_all, sw_lim, ← List.map_drop, ← List.map_take, ← List.map_append]
    congr 1
    refine (swapped_same ?_ (swp_small l)).symm
    generalize l.map swp ++ [(false, 1)] = r
    have := (List.perm_append_comm (l₁ := r.take k) (l₂ := r.drop k))
    rw [List.take_append_drop] at this
    exact this
  · intro d hd
    rw [sw_all] at hd
    obtain ⟨p, hp, rfl⟩ := List.mem_map.1 hd
    exact line_short (swp_small l p hp).1
  · rw [sw_all]
    refine wtext_len ?_
    rw [wsum_lines _ fun p hp => by have := (swp_small l p hp).1; omega]
    exact foldl_ser_ne (by show 1 ≤ (32 : Int).toNat; decide) _ _ (Or.inr (by simp))

end Go.Proofs.YtenegfafjjknoaaGreatDoor.Kf
