/- The walk of a line's reading. -/
import Derived.Test.YtenegfafjjknoaaGreatDoorOptw
namespace Go.Proofs.YtenegfafjjknoaaGreatDoor.Readw
open Go.RowKit Bytes Nums Numw Mem Tags Tagw Opts Optw

/-- A sample as a value. -/
def smp (nb kb : ByteArray) (g : Bool) (v : Int) (wb : ByteArray) (r : Int) (tv : Value) : Value :=
  .agg #[.string nb, .string kb, .bool g, .int .i64 v, .string wb, .int .i64 r, tv]

def nothing : Value := .agg #[.string ⟨#[]⟩, .string ⟨#[]⟩, .bool false, .int .i64 0, .string ⟨#[]⟩, .int .i64 0, .slice none 0 0]

/-- What Read says and leaves. -/
def Reads (l : List UInt8) (w : World) (e : Ending) (w' : World) : Prop :=
  Below w.heap.size w w' ∧ ((rd l = none ∧ e = .returned (.tuple #[nothing, .bool false])) ∨
    (∃ (m : Smp) (nb kb wb : ByteArray) (tv : Value), rd l = some m ∧ B nb = m.name ∧ B kb = m.kind ∧ B wb = m.word ∧ Strs w.heap.size w' tv m.tags ∧ e = .returned (.tuple #[smp nb kb m.signed m.value wb m.rate tv, .bool true])))

theorem cells7 {w : World} {b : Nat} {t : TypeId} {v0 v1 v2 v3 v4 v5 v6 : Value} (h : Sits w b t #[v0, v1, v2, v3, v4, v5, v6]) :
    w.cell? ⟨b, 0, none⟩ = some v0 ∧ w.cell? ⟨b, 1, none⟩ = some v1 ∧ w.cell? ⟨b, 2, none⟩ = some v2 ∧ w.cell? ⟨b, 3, none⟩ = some v3 ∧ w.cell? ⟨b, 4, none⟩ = some v4 ∧ w.cell? ⟨b, 5, none⟩ = some v5 ∧ w.cell? ⟨b, 6, none⟩ = some v6 :=
  ⟨h.cell 0 _ rfl, h.cell 1 _ rfl, h.cell 2 _ rfl, h.cell 3 _ rfl, h.cell 4 _ rfl, h.cell 5 _ rfl, h.cell 6 _ rfl⟩

theorem frozen7 {w : World} {b : Nat} {t : TypeId} {cs : Array Value} (h : Sits w b t cs) :
    w.frozen? ⟨b, 0, none⟩ = false ∧ w.frozen? ⟨b, 1, none⟩ = false ∧ w.frozen? ⟨b, 2, none⟩ = false ∧ w.frozen? ⟨b, 3, none⟩ = false ∧ w.frozen? ⟨b, 4, none⟩ = false ∧ w.frozen? ⟨b, 5, none⟩ = false ∧ w.frozen? ⟨b, 6, none⟩ = false :=
  ⟨h.frozen 0, h.frozen 1, h.frozen 2, h.frozen 3, h.frozen 4, h.frozen 5, h.frozen 6⟩

/-- The zero sample's cells. -/
def zeros : Array Value := #[.string ⟨#[]⟩, .string ⟨#[]⟩, .bool false, .int .i64 0, .string ⟨#[]⟩, .int .i64 0, .slice none 0 0]

theorem rd_behind {l : List UInt8} (h : has 58 l = true) (hm : made nam 16 (fore 58 l) = true) (h2 : has 124 (aft 58 l) = true) : rd l = (Vals.rv (fore 124 (aft 124 (aft 58 l))) (fore 124 (aft 58 l))).bind fun x =>
      if has 124 (aft 124 (aft 58 l)) then (opts x.1 (aft 124 (aft 124 (aft 58 l)))).map fun o => ⟨fore 58 l, x.1, x.2.1, x.2.2.1, x.2.2.2, o.1, o.2⟩
      else some ⟨fore 58 l, x.1, x.2.1, x.2.2.1, x.2.2.2, 1000, []⟩ := by
  rw [rd, if_pos h, if_pos hm, rdBehind, if_pos h2]

theorem read_nocolon (s : ByteArray) (hs : s.size ≤ 140737488355328) (w : World) (h : has 58 (B s) = false) :
    Calls Tryz.prog 36 #[.string s] w fun e w' => Reads (B s) w e w' := by
  have H := hide h
  clear h
  go_enter Tryz.func36, Tryz.ntmps36
  go_wp2_with (go_at_call 73; refine (cutF s 58 (by omega) false H.out _).mono ?_; rintro e w' ⟨⟨nb, r1, rfl, hn, hr1, hsn, hsr1⟩, n1, rfl⟩)
  go_returns
  exact ⟨below7 (below_drewN' (below_new _)) (Nat.le_refl _) _ _ _ _ _ _ _, Or.inl ⟨by simp [rd, H.out], rfl⟩⟩

theorem read_noname (s : ByteArray) (hs : s.size ≤ 140737488355328) (w : World) (h : has 58 (B s) = true) (hm : made nam 16 (fore 58 (B s)) = false) :
    Calls Tryz.prog 36 #[.string s] w fun e w' => Reads (B s) w e w' := by
  have H := hide h
  have HM := hide hm
  clear h hm
  go_enter Tryz.func36, Tryz.ntmps36
  go_wp2_with (first
    | (go_at_call 73; refine (cutF s 58 (by omega) true H.out _).mono ?_; rintro e w' ⟨⟨nb, r1, rfl, hn, hr1, hsn, hsr1⟩, n1, rfl⟩)
    | (go_at_call 74; refine (Leaf.isName nb (by omega) _).mono ?_; rintro e w' ⟨rfl, rfl⟩; rw [hn, HM.out]))
  go_returns
  exact ⟨below7 (below_drewN' (below_new _)) (Nat.le_refl _) _ _ _ _ _ _ _, Or.inl ⟨by simp [rd, H.out, HM.out], rfl⟩⟩

theorem read_nobar (s : ByteArray) (hs : s.size ≤ 140737488355328) (w : World) (h : has 58 (B s) = true) (hm : made nam 16 (fore 58 (B s)) = true) (h2 : has 124 (aft 58 (B s)) = false) :
    Calls Tryz.prog 36 #[.string s] w fun e w' => Reads (B s) w e w' := by
  have H := hide h
  have HM := hide hm
  have H2 := hide h2
  clear h hm h2
  go_enter Tryz.func36, Tryz.ntmps36
  go_wp2_with (go_at_call 73; refine (cutF s 58 (by omega) true H.out _).mono ?_; rintro e w' ⟨⟨nb, r1, rfl, hn, hr1, hsn, hsr1⟩, n1, rfl⟩)
  refine (Leaf.isName nb (by omega) _).mono ?_
  rintro e w' ⟨rfl, rfl⟩
  rw [hn, HM.out]
  go_wp2_with fail
  refine (cutF r1 124 (by omega) false (by rw [hr1]; exact H2.out) _).mono ?_
  rintro e w' ⟨⟨vb, r2, rfl, hv, hr2, hsv, hsr2⟩, n2, rfl⟩
  go_wp2_with fail
  go_returns
  refine ⟨below7 (below_drewN' (below_new _)) (Nat.le_refl _) _ _ _ _ _ _ _, Or.inl ⟨?_, rfl⟩⟩
  simp [rd, H.out, HM.out, rdBehind, H2.out]

theorem read_behind (s : ByteArray) (hs : s.size ≤ 140737488355328) (w : World) (h : has 58 (B s) = true) (hm : made nam 16 (fore 58 (B s)) = true) (h2 : has 124 (aft 58 (B s)) = true) (f : Bool) (h3 : has 124 (aft 124 (aft 58 (B s))) = f) :
    Calls Tryz.prog 36 #[.string s] w fun e w' => Reads (B s) w e w' := by
  have H := hide h
  have HM := hide hm
  have H2 := hide h2
  have H3 := hide h3
  clear h hm h2 h3
  go_enter Tryz.func36, Tryz.ntmps36
  go_wp2_with (go_at_call 73; refine (cutF s 58 (by omega) true H.out _).mono ?_; rintro e w' ⟨⟨nb, r1, rfl, hn, hr1, hsn, hsr1⟩, n1, rfl⟩)
  refine (Leaf.isName nb (by omega) _).mono ?_
  rintro e w' ⟨rfl, rfl⟩
  rw [hn, HM.out]
  go_wp2_with fail
  refine (cutF r1 124 (by omega) true (by rw [hr1]; exact H2.out) _).mono ?_
  rintro e w' ⟨⟨vb, r2, rfl, hv, hr2, hsv, hsr2⟩, n2, rfl⟩
  rw [hr1] at hv hr2
  go_wp2_with fail
  refine (cutF r2 124 (by omega) f (by rw [hr2]; exact H3.out) _).mono ?_
  rintro e w' ⟨⟨kd, r3, rfl, hk, hr3, hsk, hsr3⟩, n3, rfl⟩
  rw [hr2] at hk hr3
  go_wp2_with fail
  obtain ⟨W, hW⟩ : ∃ W, W = (((w.alloc (.cells zeros 80)).drewN (n1 + n2 + n3)).alloc (.cells #[.string nb, .string ⟨#[]⟩, .bool false, .int .i64 0, .string ⟨#[]⟩, .int .i64 1000, .slice none 0 0] 80)) := ⟨_, rfl⟩
  have hS1 : Sits W (w.heap.size + 1) 80 #[.string nb, .string ⟨#[]⟩, .bool false, .int .i64 0, .string ⟨#[]⟩, .int .i64 1000, .slice none 0 0] := by
    have e : w.heap.size + 1 = ((w.alloc (.cells zeros 80)).drewN (n1 + n2 + n3)).heap.size := by simp
    rw [hW, e]
    exact Sits.new _ _ _
  have hR1 : Sits W w.heap.size 80 zeros := by
    rw [hW]
    exact ((Sits.new w _ _).drewN _).alloc _
  have hB1 : Below w.heap.size w W := by
    rw [hW]
    exact (below_drewN' (below_new _)).alloc (by simp) _
  have hrd := rd_behind H.out HM.out H2.out
  rw [H3.out] at hrd
  refine Eq.mp (congrArg (fun X => Calls Tryz.prog 75 #[.pointer (some ⟨w.heap.size + 1, 0, none⟩), .string kd, .string vb] X _) hW) ?_
  have HRD := hide hrd
  have HR1 := hide hR1
  have HB1 := hide hB1
  clear hW hrd hR1 hB1
  refine (Valw.readValue (w.heap.size + 1) kd vb (by omega) (.string nb) (.int .i64 1000) (.slice none 0 0) W hS1).mono ?_
  rintro e w2 ⟨hb2, ⟨hx, rfl⟩ | ⟨k', g, v, x, hx, rfl, kb, wb, hkb, hwb, hS2⟩⟩
  · rw [hk, hv] at hx
    have hR2 := HR1.out.but hb2 (by omega)
    have hB2 := HB1.out.trans (hb2.below (by omega) HB1.out.size)
    obtain ⟨a0, a1, a2, a3, a4, a5, a6⟩ := cells7 hR2
    obtain ⟨z0, z1, z2, z3, z4, z5, z6⟩ := frozen7 hR2
    have HX := hide hx
    have HB2 := hide hB2
    clear hx hR2 hB2 hb2 hS1
    go_wp2_with fail
    refine bodyPost_ret (v := .tuple #[nothing, .bool false]) (by simp [results, Tryz.results36, go_sem, a0, a1, a2, a3, a4, a5, a6]; rfl) rfl ?_
    refine ⟨below7 HB2.out (Nat.le_refl _) _ _ _ _ _ _ _, Or.inl ⟨?_, rfl⟩⟩
    rw [HRD.out, HX.out]
    rfl
  · rw [hk, hv] at hx
    have HX := hide hx
    have HKB := hide hkb
    have HWB := hide hwb
    clear hx hkb hwb hS1
    cases f with
    | false =>
      have hR2 := HR1.out.but hb2 (by omega)
      have hB2 := HB1.out.trans (hb2.below (by omega) HB1.out.size)
      obtain ⟨a0, a1, a2, a3, a4, a5, a6⟩ := cells7 hR2
      obtain ⟨z0, z1, z2, z3, z4, z5, z6⟩ := frozen7 hR2
      obtain ⟨c0, c1, c2, c3, c4, c5, c6⟩ := cells7 hS2
      have HB2 := hide hB2
      clear hR2 hB2 hb2 hS2
      go_wp2_with fail
      refine bodyPost_ret (v := .tuple #[smp nb kb g v wb 1000 (.slice none 0 0), .bool true]) (by simp [results, Tryz.results36, go_sem, a0, a1, a2, a3, a4, a5, a6]; rfl) rfl ?_
      refine ⟨below7 HB2.out (Nat.le_refl _) _ _ _ _ _ _ _, Or.inr ⟨⟨fore 58 (B s), k', g, v, x, 1000, []⟩, nb, kb, wb, .slice none 0 0, ?_, hn, HKB.out, HWB.out, Or.inl ⟨rfl, rfl⟩, rfl⟩⟩
      rw [HRD.out, HX.out]
      rfl
    | true =>
      go_wp2_with fail
      refine (readOptions (w.heap.size + 1) r3 kb (by omega) w2 (.string nb) (.bool g) (.int .i64 v) (.string wb) hS2).mono ?_
      rintro e w3 ⟨hb3, ⟨ho, rfl⟩ | ⟨r, ls, tv, ho, rfl, hst, hS3⟩⟩
      · have hR3 := (HR1.out.but hb2 (by omega)).but hb3 (by omega)
        have hB3 := HB1.out.trans ((hb2.trans hb3).below (by omega) HB1.out.size)
        obtain ⟨a0, a1, a2, a3, a4, a5, a6⟩ := cells7 hR3
        obtain ⟨z0, z1, z2, z3, z4, z5, z6⟩ := frozen7 hR3
        rw [HKB.out, hr3] at ho
        have HO := hide ho
        have HB3 := hide hB3
        clear hR3 hB3 hb2 hb3 hS2 ho
        go_wp2_with fail
        refine bodyPost_ret (v := .tuple #[nothing, .bool false]) (by simp [results, Tryz.results36, go_sem, a0, a1, a2, a3, a4, a5, a6]; rfl) rfl ?_
        refine ⟨below7 HB3.out (Nat.le_refl _) _ _ _ _ _ _ _, Or.inl ⟨?_, rfl⟩⟩
        rw [HRD.out, HX.out]
        show ((opts k' (aft 124 (aft 124 (aft 58 (B s))))).map _) = none
        rw [HO.out]
        rfl
      · have hR3 := (HR1.out.but hb2 (by omega)).but hb3 (by omega)
        have hB3 := HB1.out.trans ((hb2.trans hb3).below (by omega) HB1.out.size)
        obtain ⟨a0, a1, a2, a3, a4, a5, a6⟩ := cells7 hR3
        obtain ⟨z0, z1, z2, z3, z4, z5, z6⟩ := frozen7 hR3
        obtain ⟨c0, c1, c2, c3, c4, c5, c6⟩ := cells7 hS3
        rw [HKB.out, hr3] at ho
        have HO := hide ho
        have HB3 := hide hB3
        have hlt : w.heap.size < w2.heap.size := by
          have e1 := HR1.out.lt
          have e2 := hb2.size
          omega
        have HLT := hide hlt
        obtain ⟨sa, sl, sc, rfl⟩ := hst.shape
        have HST := hide hst
        clear hR3 hB3 hb2 hb3 hS2 hS3 ho hst hlt
        go_wp2_with fail
        refine bodyPost_ret (v := .tuple #[smp nb kb g v wb r (.slice sa sl sc), .bool true]) (by simp [results, Tryz.results36, go_sem, a0, a1, a2, a3, a4, a5, a6]; rfl) rfl ?_
        refine ⟨below7 HB3.out (Nat.le_refl _) _ _ _ _ _ _ _, Or.inr ⟨⟨fore 58 (B s), k', g, v, x, r, ls⟩, nb, kb, wb, .slice sa sl sc, ?_, hn, HKB.out, HWB.out, ?_, rfl⟩⟩
        · rw [HRD.out, HX.out]
          show ((opts k' (aft 124 (aft 124 (aft 58 (B s))))).map _) = some _
          rw [HO.out]
          rfl
        · exact (((((((HST.out.set HLT.out 0 _).set HLT.out 1 _).set HLT.out 2 _).set HLT.out 3 _).set HLT.out 4 _).set HLT.out 5 _).set HLT.out 6 _).mono (Nat.le_of_lt HLT.out)

theorem read (s : ByteArray) (hs : s.size ≤ 140737488355328) (w : World) :
    Calls Tryz.prog 36 #[.string s] w fun e w' => Reads (B s) w e w' := by
  cases h : has 58 (B s) with
  | false => exact read_nocolon s hs w h
  | true =>
    cases hm : made nam 16 (fore 58 (B s)) with
    | false => exact read_noname s hs w h hm
    | true =>
      cases h2 : has 124 (aft 58 (B s)) with
      | false => exact read_nobar s hs w h hm h2
      | true => exact read_behind s hs w h hm h2 _ rfl

end Go.Proofs.YtenegfafjjknoaaGreatDoor.Readw
