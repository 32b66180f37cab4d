/- A window takes a line. -/
import Derived.Test.YtmkidefdegaamaaGreatDoorHny
import Derived.Lib.SplitLaws
import Derived.Deep.RegionWith
import Derived.Shelf.Abstract
import Derived.OwnWalkIn
import Derived.TacticsInMore
import Derived.Maps.OwnIn
import Derived.Sort.KeysCollected
namespace Go.Proofs.YtmkidefdegaamaaGreatDoor.Wi
open Go.RowKit Go.Maps Mem Foot Im Wm Hk Hb Hi Hn Plainw Cq Hs Sh Readw
def winOf (rj dr : Nat) (E : List Ent) : Win := ⟨rj, dr, serOf E⟩
/-- What a line leaves. -/
def Took (w w' : World) (p : WI) (L : Lim) (rj dr : Nat) (E : List Ent) (l : Bs) : Prop :=
  ∃ rj' dr' E', WiAt w' p L rj' dr' E' ∧ winOf rj' dr' E' = wline L (winOf rj dr E) l ∧ Off (wfoot p E) w w' ∧ ∀ x, x ∈ wfoot p E' → x ∈ wfoot p E ∨ w.heap.size ≤ x
theorem WiAt.set {w : World} {p : WI} {L : Lim} {rj dr : Nat} {E : List Ent} (h : WiAt w p L rj dr E) (j : Nat) (v : Value) {rj' dr' : Nat} (hh : (#[Value.int .i64 (p.c 0), .int .i64 (p.c 1), .int .i64 (p.c 2), .int .i64 (p.c 3), .int .i64 (p.c 4), .int .i64 (p.c 5), .pointer (some ⟨p.M, 0, none⟩), .int .i64 (rj : Int), .int .i64 (dr : Int)] : Array Value).setIfInBounds j v = #[.int .i64 (p.c 0), .int .i64 (p.c 1), .int .i64 (p.c 2), .int .i64 (p.c 3), .int .i64 (p.c 4), .int .i64 (p.c 5), .pointer (some ⟨p.M, 0, none⟩), .int .i64 (rj' : Int), .int .i64 (dr' : Int)]) :
    WiAt (w.setCell ⟨p.P, j, none⟩ v) p L rj' dr' E ∧ Off (wfoot p E) w (w.setCell ⟨p.P, j, none⟩ v) := by
  have ho : Off [p.P] w (w.setCell ⟨p.P, j, none⟩ v) := (Off.refl _ _).set (by simp) _ _
  have hnd := h.apart
  rw [wfoot, List.nodup_append] at hnd
  obtain ⟨n1, _, n3⟩ := hnd
  refine ⟨⟨by rw [← hh]; exact h.head.set j v, h.sh.off ho fun x hx hx' => ?_, fun x hx => (h.ser x hx).off ho fun y hy hy' => ?_, h.apart, h.c1, h.c2, h.c3⟩, ho.mono fun x _ hx => ?_⟩
  · rw [List.mem_singleton] at hx'
    subst hx'
    exact (List.nodup_cons.1 n1).1 hx
  · rw [List.mem_singleton] at hy'
    subst hy'
    exact n3 p.P (List.mem_cons_self ..) p.P (List.mem_flatMap.2 ⟨x, hx, hy⟩) rfl
  · rw [List.mem_singleton] at hx
    subst hx
    simp [wfoot]
/-- Onto a window that was kept. -/
theorem Took.ahead {w w1 w' : World} {p : WI} {L : Lim} {rj dr : Nat} {E : List Ent} {l : Bs} (hb : Below w.heap.size w w1) (h : Took w1 w' p L rj dr E l) : Took w w' p L rj dr E l := by
  obtain ⟨rj', dr', E', h1, h2, h3, h4⟩ := h
  refine ⟨rj', dr', E', h1, h2, (Off.of_below hb).trans h3, fun x hx => (h4 x hx).imp id fun h => ?_⟩
  have := hb.size
  omega
theorem took_reject {w : World} {p : WI} {L : Lim} {rj dr : Nat} {E : List Ent} {l : Bs} (h : WiAt w p L rj dr E) (hl : l ≠ []) (hr : Opts.rd l = none) : Took w (w.setCell ⟨p.P, 7, none⟩ (.int .i64 ((rj : Int) + 1))) p L rj dr E l := by
  obtain ⟨h1, h2⟩ := h.set 7 (.int .i64 ((rj : Int) + 1)) (rj' := rj + 1) (dr' := dr) rfl
  refine ⟨rj + 1, dr, E, h1, ?_, h2, fun x hx => Or.inl hx⟩
  rw [wline, if_neg hl, hr]
  rfl
theorem wtake_some {L : Lim} {rj dr : Nat} {E : List Ent} {m : Opts.Smp} {g : Gh} {s : Ser} (hk : getE (key m) E = some (g, s)) : wtake L (winOf rj dr E) m = ⟨rj, if (stake L m s).2 then dr else dr + 1, put sLt (key m) (stake L m s).1 (serOf E)⟩ := by
  unfold wtake winOf
  simp only
  rw [get_ser, hk]
  rfl
theorem wtake_full {L : Lim} {rj dr : Nat} {E : List Ent} {m : Opts.Smp} (hk : getE (key m) E = none) (hl : L.series ≤ E.length) : wtake L (winOf rj dr E) m = ⟨rj, dr + 1, serOf E⟩ := by
  unfold wtake winOf
  simp only
  rw [get_ser, hk]
  simp only [Option.map_none]
  rw [if_pos (by rw [ser_length]; exact hl)]
theorem put_put {κ β : Type} [DecidableEq κ] {lt : κ → κ → Bool} (htr : ∀ a b c, lt a b = true → lt b c = true → lt a c = true) (hto : ∀ a b, a ≠ b → lt a b = false → lt b a = true) (hir : ∀ a, lt a a = false) {l : List (κ × β)} (hu : Up lt l) (k : κ) (a b : β) : put lt k b (put lt k a l) = put lt k b l := by
  refine up_ext htr hir ((hu.put htr hto _ _).put htr hto _ _) (hu.put htr hto _ _) fun k' => ?_
  rw [getE_put, getE_put, getE_put]
  by_cases e : k' = k <;> simp [e]
theorem wtake_new {L : Lim} {rj dr : Nat} {E : List Ent} {m : Opts.Smp} {g : Gh} (hu : Up sLt E) (hk : getE (key m) E = none) (hl : E.length < L.series) : wtake L (winOf rj dr E) m = ⟨rj, if (stake L m (ser0 m.kind)).2 then dr else dr + 1, put sLt (key m) (stake L m (ser0 m.kind)).1 (serOf (put sLt (key m) (g, ser0 m.kind) E))⟩ := by
  rw [put_ser, put_put sLt_trans sLt_total sLt_irr (up_ser.2 hu)]
  unfold wtake winOf
  simp only
  rw [get_ser, hk]
  simp only [Option.map_none]
  rw [if_neg (by rw [ser_length]; omega)]
end Go.Proofs.YtmkidefdegaamaaGreatDoor.Wi
namespace Go.Proofs.YtmkidefdegaamaaGreatDoor.Wi
open Go.RowKit Go.Maps Mem Foot Im Wm Hk Hb Hi Hn Plainw Cq Hs Sh Readw
/-- The limits are a configuration's. -/
structure LOk (L : Lim) : Prop where
  s : L.series ≤ 32
  t : L.sets ≤ 16
  b0 : 2 ≤ L.buckets
  b1 : L.buckets ≤ 64
/-- Where the sample was taken. -/
theorem took_yes {w w' : World} {p : WI} {L : Lim} {rj dr : Nat} {E E' : List Ent} {l : Bs} {m : Opts.Smp} (hl : l ≠ []) (hr : Opts.rd l = some m) (h : WiAt w' p L rj dr E') (he : wtake L (winOf rj dr E) m = ⟨rj, dr, serOf E'⟩) (ho : Off (wfoot p E) w w') (hx : ∀ x, x ∈ wfoot p E' → x ∈ wfoot p E ∨ w.heap.size ≤ x) : Took w w' p L rj dr E l := by
  refine ⟨rj, dr, E', h, ?_, ho, hx⟩
  rw [wline, if_neg hl, hr]
  exact he.symm
/-- Where it was dropped. -/
theorem took_no {w w' : World} {p : WI} {L : Lim} {rj dr : Nat} {E E' : List Ent} {l : Bs} {m : Opts.Smp} (hl : l ≠ []) (hr : Opts.rd l = some m) (h : WiAt w' p L rj dr E') (he : wtake L (winOf rj dr E) m = ⟨rj, dr + 1, serOf E'⟩) (ho : Off (wfoot p E) w w') (hx : ∀ x, x ∈ wfoot p E' → x ∈ wfoot p E ∨ w.heap.size ≤ x) : Took w (w'.setCell ⟨p.P, 8, none⟩ (.int .i64 ((dr : Int) + 1))) p L rj dr E l := by
  obtain ⟨h1, _⟩ := h.set 8 (.int .i64 ((dr : Int) + 1)) (rj' := rj) (dr' := dr + 1) rfl
  refine ⟨rj, dr + 1, E', h1, ?_, ho.set (by simp [wfoot]) _ _, hx⟩
  rw [wline, if_neg hl, hr]
  exact he.symm
/-- The sample's series takes it: what the window is then. -/
theorem take_in {w w' : World} {p : WI} {L : Lim} {rj dr : Nat} {E : List Ent} {m : Opts.Smp} {g : Gh} {s : Ser} (h : WiAt w p L rj dr E) (hu : Up sLt E) (hk : getE (key m) E = some (g, s)) (ho : Off (gf g s) w w') (hs : SeAt w' L (key m) g (stake L m s).1) :
    WiAt w' p L rj dr (put sLt (key m) (g, (stake L m s).1) E) ∧ serOf (put sLt (key m) (g, (stake L m s).1) E) = put sLt (key m) (stake L m s).1 (serOf E) ∧ Off (wfoot p E) w w' ∧ ∀ x, x ∈ wfoot p (put sLt (key m) (g, (stake L m s).1) E) ↔ x ∈ wfoot p E := by
  obtain ⟨h1, h2, h3⟩ := h.turned hu hk ho hs (gf_stake L m g s)
  exact ⟨h1, put_ser _ _ _, h2, h3⟩
theorem sfit_of {L : Lim} {n rj dr : Nat} {E : List Ent} {k : Bs} {g : Gh} {s : Ser} (h : WFit L n (winOf rj dr E)) (hk : getE k E = some (g, s)) : SFit L n k s :=
  h.ser (k, s) (List.mem_map.2 ⟨(k, (g, s)), getE_mem hk, rfl⟩)
set_option maxRecDepth 10000 in
set_option maxHeartbeats 4000000 in
theorem takeLine (p : WI) (L : Lim) (n rj dr : Nat) (E : List Ent) (s : ByteArray) (w : World) (h : WiAt w p L rj dr E) (hf : WFit L n (winOf rj dr E)) (hn : n ≤ 1000000000000) (hL : LOk L) (hs : s.size ≤ 140737488355328) (hne : Bytes.B s ≠ []) :
    Calls Tryz.prog 57 #[.pointer (some ⟨p.P, 0, none⟩), .string s] w fun e w' => e = .returned (.tuple #[]) ∧ Took w w' p L rj dr E (Bytes.B s) := by
  have HW := hide h
  have HF := hide hf
  have HNE := hide hne
  have hcnt : rj + dr ≤ n := hf.cnt
  clear h hf hne
  go_enter Tryz.func57, Tryz.ntmps57
  go_wp2_with fail
  refine (read s hs w).mono ?_
  rintro e w1 ⟨hb1, ⟨hr, rfl⟩ | ⟨m, nb, kb, wb, tv, hr, hnm, hk, hw, hst, rfl⟩⟩
  · have HR := hide hr
    have HB1 := hide (hb1.trans ((below_new (w := w1) (.cells zeros 172)).mono hb1.size))
    have HW1 := hide (HW.out.keep HB1.out)
    unfold zeros at HB1 HW1
    obtain ⟨c0, c1, c2, c3, c4, c5, c6, c7, c8⟩ := cells9 HW1.out.head
    have f7 := HW1.out.head.frozen 7
    clear hb1 hr c0 c1 c2 c3 c4 c5 c6 c8
    unfold nothing
    go_wp2_with fail
    refine bodyPost_ret (results_none rfl _ _ _) rfl ?_
    exact ⟨rfl, (took_reject HW1.out HNE.out HR.out).ahead HB1.out⟩
  · obtain ⟨sa, sl, sc, rfl⟩ := hst.shape
    have HD1 := hide (show Held w1 (Bytes.B s) m w.heap.size nb kb wb sa sl sc from ⟨hr, hnm, hk, hw, hst⟩)
    have HB2 := hide (hb1.trans ((below_new (w := w1) (.cells #[.string nb, .string kb, .bool m.signed, .int .i64 m.value, .string wb, .int .i64 m.rate, .slice sa sl sc] 172)).mono hb1.size))
    have HN2 := hide (Sits.new w1 172 #[.string nb, .string kb, .bool m.signed, .int .i64 m.value, .string wb, .int .i64 m.rate, .slice sa sl sc])
    have HD2 := hide (HD1.out.keep (below_new (.cells #[.string nb, .string kb, .bool m.signed, .int .i64 m.value, .string wb, .int .i64 m.rate, .slice sa sl sc] 172)))
    have HW2 := hide (HW.out.keep HB2.out)
    have HU := hide (up_ser.1 HF.out.up)
    have hE : E.length ≤ 32 := by
      have h1 := HF.out.len
      have h2 : (winOf rj dr E).ser.length = E.length := ser_length E
      have h3 := hL.s
      omega
    have HB1 := hide hb1
    clear hb1 hr hnm hk hw hst HD1
    unfold smp
    go_wp2_with fail
    have hso := seriesOf p L rj dr E (Bytes.B s) m w.heap.size nb kb wb sa sl sc _ HW2.out HU.out hE HD2.out
    unfold smp at hso
    generalize w1.alloc (.cells #[.string nb, .string kb, .bool m.signed, .int .i64 m.value, .string wb, .int .i64 m.rate, .slice sa sl sc] 172) = w2 at *
    refine hso.mono ?_
    clear hso
    rintro e w3 (⟨g, sr, hk, rfl, hb3⟩ | ⟨hk, hfull, rfl, hb3⟩ | ⟨hk, hlt, g, rfl, hw3, ho3, hf3⟩)
    · have HK := hide hk
      have HB3 := hide (HB2.out.trans (hb3.mono HB2.out.size))
      have HW3 := hide (HW.out.keep HB3.out)
      have HN3 := hide (HN2.out.below hb3 HN2.out.lt)
      have htk := seTake L n (key m) (Bytes.B s) g sr m nb kb wb sa sl sc w3 (HW3.out.ser _ (getE_mem hk)) (sfit_of HF.out hk) HD2.out.rd (kindOf_key HD2.out.rd) HD2.out.kind HD2.out.word (by omega) hL.b0 hL.b1 (by have := hL.t; omega)
      unfold smp at htk
      obtain ⟨k0, k1, k2, k3, k4, k5, k6⟩ := cells7 HN3.out
      clear hk hb3
      go_wp2_with fail
      refine htk.mono ?_
      clear htk k0 k1 k2 k3 k4 k5 k6
      rintro e w4 ⟨rfl, ho4, hs4⟩
      have HT := hide (take_in HW3.out HU.out HK.out ho4 hs4)
      clear ho4 hs4
      obtain ⟨c0, c1, c2, c3, c4, c5, c6, c7, c8⟩ := cells9 HT.out.1.head
      have f8 := HT.out.1.head.frozen 8
      have HE := hide (wtake_some (L := L) (rj := rj) (dr := dr) HK.out)
      clear c0 c1 c2 c3 c4 c5 c6 c7
      cases hb : (stake L m sr).2 with
      | true =>
        rw [hb] at HE
        clear hb
        go_wp2_with fail
        go_end0
        obtain ⟨t1, t2, t3, t4⟩ := HT.out
        exact ⟨rfl, took_yes HNE.out HD2.out.rd t1 (by rw [HE.out, t2]; rfl) ((Off.of_below HB3.out).trans t3) fun x hx => Or.inl ((t4 x).1 hx)⟩
      | false =>
        rw [hb] at HE
        clear hb
        go_wp2_with fail
        go_end0
        obtain ⟨t1, t2, t3, t4⟩ := HT.out
        exact ⟨rfl, took_no HNE.out HD2.out.rd t1 (by rw [HE.out, t2]; rfl) ((Off.of_below HB3.out).trans t3) fun x hx => Or.inl ((t4 x).1 hx)⟩
    · have HB3 := hide (HB2.out.trans (hb3.mono HB2.out.size))
      have HW3 := hide (HW.out.keep HB3.out)
      have HE := hide (wtake_full (rj := rj) (dr := dr) hk hfull)
      obtain ⟨c0, c1, c2, c3, c4, c5, c6, c7, c8⟩ := cells9 HW3.out.head
      have f8 := HW3.out.head.frozen 8
      clear hk hfull hb3 c0 c1 c2 c3 c4 c5 c6 c7
      go_wp2_with fail
      go_end0
      exact ⟨rfl, took_no HNE.out HD2.out.rd HW3.out HE.out (Off.of_below HB3.out) fun x hx => Or.inl hx⟩
    · have HK := hide hk
      have HW3 := hide hw3
      have HO3 := hide ((Off.of_below HB2.out).trans ho3)
      have HF3 := hide hf3
      have hNn : w1.heap.size ∉ wfoot p E := fun hx => by
        have h1 := HW.out.lt _ hx
        have h2 := HB1.out.size
        omega
      have HN3 := hide (Foot.Sits.off HN2.out ho3 hNn)
      have hg3 : getE (key m) (put sLt (key m) (g, ser0 m.kind) E) = some (g, ser0 m.kind) := by rw [getE_put, if_pos rfl]
      have HG3 := hide hg3
      have HU3 := hide (HU.out.put sLt_trans sLt_total (key m) (g, ser0 m.kind))
      have htk := seTake L n (key m) (Bytes.B s) g (ser0 m.kind) m nb kb wb sa sl sc w3 (HW3.out.ser _ (getE_mem hg3)) (SFit.zero HD2.out.rd) HD2.out.rd (kindOf_key HD2.out.rd) HD2.out.kind HD2.out.word (by omega) hL.b0 hL.b1 (by have := hL.t; omega)
      unfold smp at htk
      obtain ⟨k0, k1, k2, k3, k4, k5, k6⟩ := cells7 HN3.out
      have HE := hide (wtake_new (L := L) (rj := rj) (dr := dr) (g := g) HU.out hk hlt)
      clear hk hw3 ho3 hf3 hg3 hlt hNn
      go_wp2_with fail
      refine htk.mono ?_
      clear htk k0 k1 k2 k3 k4 k5 k6
      rintro e w4 ⟨rfl, ho4, hs4⟩
      have HT := hide (take_in HW3.out HU3.out HG3.out ho4 hs4)
      clear ho4 hs4
      obtain ⟨c0, c1, c2, c3, c4, c5, c6, c7, c8⟩ := cells9 HT.out.1.head
      have f8 := HT.out.1.head.frozen 8
      have HX := hide (show (Off (wfoot p E) w w4) ∧ ∀ x, x ∈ wfoot p (put sLt (key m) (g, (stake L m (ser0 m.kind)).1) (put sLt (key m) (g, ser0 m.kind) E)) → x ∈ wfoot p E ∨ w.heap.size ≤ x from by
        obtain ⟨_, _, t3, t4⟩ := HT.out
        have hsz2 := HB2.out.size
        refine ⟨⟨t3.os.trans HO3.out.os, t3.tape.trans HO3.out.tape, t3.output.trans HO3.out.output, Nat.le_trans HO3.out.size t3.size, fun x hx hxn => ?_⟩, fun x hx => (HF3.out x ((t4 x).1 hx)).imp id fun h => by omega⟩
        refine (t3.block x (Nat.lt_of_lt_of_le hx HO3.out.size) fun hx' => ?_).trans (HO3.out.block x hx hxn)
        rcases HF3.out x hx' with h | h
        · exact hxn h
        · omega)
      clear c0 c1 c2 c3 c4 c5 c6 c7
      cases hb : (stake L m (ser0 m.kind)).2 with
      | true =>
        rw [hb] at HE
        clear hb
        go_wp2_with fail
        go_end0
        obtain ⟨t1, t2, t3, t4⟩ := HT.out
        exact ⟨rfl, took_yes HNE.out HD2.out.rd t1 (by rw [HE.out, t2]; rfl) HX.out.1 HX.out.2⟩
      | false =>
        rw [hb] at HE
        clear hb
        go_wp2_with fail
        go_end0
        obtain ⟨t1, t2, t3, t4⟩ := HT.out
        exact ⟨rfl, took_no HNE.out HD2.out.rd t1 (by rw [HE.out, t2]; rfl) HX.out.1 HX.out.2⟩
end Go.Proofs.YtmkidefdegaamaaGreatDoor.Wi
namespace Go.Proofs.YtmkidefdegaamaaGreatDoor.Spn
open Go.RowKit Bytes Go.Lib Split
set_option maxHeartbeats 4000000 in
set_option maxRecDepth 1000000 in
theorem genSplit10 (s : ByteArray) (N : Nat) (w : World) (hs : s.size ≤ 140737488355328) (hN : N = Lib.countByte s.data.toList 10 + 1) (hNb : N ≤ 1000000000000) :
    Calls Tryz.prog 88 #[.string s, .string ⟨#[10]⟩, .int .i64 0, .int .i64 (-1)] w fun e w' =>
      e = .returned (.slice (some ⟨w.heap.size, 0, none⟩) (Lib.splitB ⟨#[10]⟩ 0 (N - 1) s).length N) ∧ w' = w.alloc (.cells (Lib.cellsOf (Lib.splitB ⟨#[10]⟩ 0 (N - 1) s) N) 9) := by
  have hI : ∀ (x : ByteArray) (w : World), Calls Tryz.prog 113 #[.string x, .string ⟨#[10]⟩] w fun e w' => e = .returned (.int .i64 (Lib.indexB x ⟨#[10]⟩)) ∧ w' = w := fun x w =>
    (Tryz.strings_Index_one x 10 w).mono fun e w' ⟨he, hw⟩ => ⟨by rw [he, ← Lib.index_one], hw⟩
  have hcz : Lib.countByte s.data.toList 10 ≤ s.size := by
    rw [size_B]
    exact List.count_le_length
  have hCt := Tryz.strings_Count_one s 10 w
  have eC : ((Lib.countByte s.data.toList 10 : Nat) : Int) = (N : Int) - 1 := by omega
  rw [eC] at hCt
  have HCt := hide hCt
  have eN' : min (N : Int) ((s.size : Int) + 1) = (N : Int) := by omega
  have hN1 : (1 : Int) ≤ (N : Int) := by omega
  have eN2 : (N : Int) - 1 + 1 = (N : Int) := by omega
  clear hN hCt eC
  have hmk := run_make_row' (P := Tryz.prog) 24 9 (.string ByteArray.empty) 16 Tryz.underlying24 hi9 rfl .i64 .i64 N (by omega) (by omega)
  have HI := hide hI
  clear hI
  go_enter Tryz.func88, Tryz.ntmps88
  go_wp2_with (go_at_call 112; refine HCt.out.mono ?_; rintro e w' ⟨rfl, hw⟩; rw [hw])
  clear hmk
  go_loopg [0, 10] (N - 1) (fun g s0 s10 wr => ∃ (done : List ByteArray) (rest : ByteArray), s0 = .string rest ∧ s10 = .int .i64 done.length ∧ done.length ≤ N - 1 ∧ g = N - 1 - done.length ∧ rest.size ≤ s.size ∧
    wr = w.alloc (.cells (Lib.cellsOf done N) 9) ∧ done ++ Lib.splitB ⟨#[10]⟩ 0 (N - 1 - done.length) rest = Lib.splitB ⟨#[10]⟩ 0 (N - 1) s)
  case atStart => exact ⟨[], s, rfl, rfl, Nat.zero_le _, rfl, Nat.le_refl _, by rw [Lib.cellsOf_nil], rfl⟩
  case round =>
    obtain ⟨done, rest, rfl, rfl, hd, rfl, hrs, rfl, hsp⟩ := hrel
    have hnext : (Lib.cellsOf done N)[done.length]? = some (.string ByteArray.empty) := Lib.cellsOf_next (by omega)
    have HS := hide hsp
    clear hsp
    have fin : Lib.splitB ⟨#[10]⟩ 0 (N - 1 - done.length) rest = [rest] → (Lib.splitB ⟨#[10]⟩ 0 (N - 1) s).length = done.length + 1 ∧ (Lib.cellsOf done N).setIfInBounds done.length (.string rest) = Lib.cellsOf (Lib.splitB ⟨#[10]⟩ 0 (N - 1) s) N := fun h => by
      have e := HS.out
      rw [h] at e
      rw [← e]
      exact ⟨by simp, Lib.cellsOf_set (by omega) rest⟩
    have FIN := hide fin
    clear fin
    by_cases hlt : done.length < N - 1
    · have hltz : ((done.length : Nat) : Int) < (N : Int) - 1 := by omega
      rcases Lib.indexB_cases rest ⟨#[10]⟩ with hix | ⟨i, hix, hroom⟩
      · have HX := hide hix
        clear hix
        go_wp2_with (go_at_call 113; refine (HI.out rest _).mono ?_; rintro e w' ⟨rfl, hw⟩; rw [hw, HX.out])
        go_ret
        obtain ⟨f1, f2⟩ := FIN.out (Lib.splitB_miss _ 0 _ rest HX.out)
        rw [f1, ← f2]
        exact ⟨by first | rfl | (congr 2 <;> omega), rfl⟩
      · have hroom1 : i + 1 ≤ rest.size := hroom
        have HX := hide hix
        clear hix hroom
        go_wp2_with (go_at_call 113; refine (HI.out rest _).mono ?_; rintro e w' ⟨rfl, hw⟩; rw [hw, HX.out])
        go_roundg (N - 1 - (done.length + 1))
        case measure => omega
        case rel =>
          refine ⟨done ++ [rest.extract 0 i], rest.extract (i + 1) rest.size, rfl, by simp, by simp; omega, by simp, by rw [ByteArray.size_extract]; omega, by rw [← Lib.cellsOf_set (by omega)], ?_⟩
          rw [← HS.out, show N - 1 - done.length = (N - 1 - (done.length + 1)) + 1 by omega, Lib.splitB_hit _ 0 _ rest i HX.out]
          simp
          rfl
    · have hltz : ¬ (((done.length : Nat) : Int) < (N : Int) - 1) := by omega
      go_wp2_with fail
      go_ret
      obtain ⟨f1, f2⟩ := FIN.out (by rw [show N - 1 - done.length = 0 by omega]; rfl)
      rw [f1, ← f2]
      exact ⟨by first | rfl | (congr 2 <;> omega), rfl⟩
open Wm in
theorem lines_miss {l : List UInt8} (h : has 10 l = false) : lines l = [l] := lines_one (by
  unfold has at h
  simpa using h)
theorem fore_not (c : UInt8) (l : List UInt8) : c ∉ fore c l := by
  induction l with
  | nil => simp [fore]
  | cons b r ih =>
    unfold fore at ih ⊢
    by_cases h : b = c
    · subst h
      simp
    · rw [List.takeWhile_cons_of_pos (by simpa using h)]
      simp only [List.mem_cons, not_or]
      exact ⟨fun e => h e.symm, ih⟩
theorem cut_at {c : UInt8} {l : List UInt8} (h : has c l = true) : l = fore c l ++ c :: aft c l := by
  induction l with
  | nil => simp [has] at h
  | cons b r ih =>
    by_cases hb : b = c
    · subst hb
      simp [fore, aft]
    · have h2 : has c r = true := by
        unfold has at h ⊢
        simp only [List.contains_cons, Bool.or_eq_true, beq_iff_eq] at h
        exact h.resolve_left (fun e => hb e.symm)
      have h3 := ih h2
      have e1 : fore c (b :: r) = b :: fore c r := by
        unfold fore
        rw [List.takeWhile_cons_of_pos (by simpa using hb)]
      have e2 : aft c (b :: r) = aft c r := by
        unfold aft
        rw [List.dropWhile_cons_of_pos (by simpa using hb)]
      rw [e1, e2, List.cons_append, ← h3]
theorem split_lines (k : Nat) : ∀ s : ByteArray, Lib.countByte (B s) 10 = k → (Lib.splitB ⟨#[10]⟩ 0 k s).map B = Wm.lines (B s) := by
  induction k with
  | zero =>
    intro s hc
    have : has 10 (B s) = false := by
      unfold has
      simp only [Lib.countByte, List.count_eq_zero] at hc
      simpa using hc
    rw [lines_miss this]
    rfl
  | succ k ih =>
    intro s hc
    have e : Lib.indexB s ⟨#[10]⟩ = Lib.indexByte (B s) 10 := Lib.index_one _ _
    rcases idx_cases (B s) 10 with ⟨h1, h2, _⟩ | ⟨o, h1, h0, h2, h3, h4⟩
    · exfalso
      unfold has at h2
      have : (10 : UInt8) ∉ B s := by simpa using h2
      rw [Lib.countByte, List.count_eq_zero.2 this] at hc
      omega
    · have hj := cut_at h2
      have hcc : Lib.countByte (aft 10 (B s)) 10 = k := by
        have h5 : (10 : UInt8) ∉ fore 10 (B s) := fore_not 10 (B s)
        have h6 : Lib.countByte (B s) 10 = Lib.countByte (fore 10 (B s) ++ 10 :: aft 10 (B s)) 10 := congrArg (fun l => Lib.countByte l 10) hj
        rw [hc] at h6
        simp only [Lib.countByte, List.count_append, List.count_eq_zero.2 h5, List.count_cons_self] at h6
        simp only [Lib.countByte]
        omega
      have e2 : B (s.extract (o + 1) s.size) = aft 10 (B s) := by
        rw [B_extract, h4, List.take_of_length_le]
        rw [List.length_drop, size_B]
        exact Nat.le_refl _
      rw [Lib.splitB_hit _ _ _ _ o (by rw [e, h1]), List.map_cons]
      have ih2 := ih (s.extract (o + 1) s.size) (by rw [e2]; exact hcc)
      show B (s.extract 0 (o + 0)) :: (Lib.splitB ⟨#[10]⟩ 0 k (s.extract (o + 1) s.size)).map B = _
      rw [ih2, e2, B_extract, List.drop_zero, Nat.add_zero, Nat.sub_zero, ← h3]
      have := Wm.lines_join (fore 10 (B s)) (aft 10 (B s))
      rw [← hj] at this
      have h7 : Wm.lines (fore 10 (B s)) = [fore 10 (B s)] := Wm.lines_one (fore_not 10 (B s))
      rw [this, h7]
      rfl
theorem split_size (k : Nat) : ∀ (s : ByteArray) (x : ByteArray), x ∈ Lib.splitB ⟨#[10]⟩ 0 k s → x.size ≤ s.size := by
  induction k with
  | zero =>
    intro s x hx
    rw [Lib.splitB_zero, List.mem_singleton] at hx
    rw [hx]
    exact Nat.le_refl _
  | succ k ih =>
    intro s x hx
    have e : Lib.indexB s ⟨#[10]⟩ = Lib.indexByte (B s) 10 := Lib.index_one _ _
    rcases idx_cases (B s) 10 with ⟨h1, h2, _⟩ | ⟨o, h1, h0, h2, h3, h4⟩
    · rw [Lib.splitB_miss _ _ _ _ (by rw [e, h1]), List.mem_singleton] at hx
      rw [hx]
      exact Nat.le_refl _
    · rw [Lib.splitB_hit _ _ _ _ o (by rw [e, h1])] at hx
      rcases List.mem_cons.1 hx with rfl | hx
      · rw [ByteArray.size_extract]
        omega
      · have := ih _ x hx
        rw [ByteArray.size_extract] at this
        omega
/-- The lines of a text. -/
theorem split10 (s : ByteArray) (hs : s.size ≤ 140737488355328) (hc : Lib.countByte (B s) 10 + 1 ≤ 1000000000000) (w : World) :
    Calls Tryz.prog 56 #[.string s, .string ⟨#[10]⟩] w fun e w' => ∃ ps : List ByteArray, ps.map B = Wm.lines (B s) ∧ (∀ x ∈ ps, x.size ≤ s.size) ∧ e = .returned (.slice (some ⟨w.heap.size, 0, none⟩) ps.length (Lib.countByte (B s) 10 + 1)) ∧ ps.length = Lib.countByte (B s) 10 + 1 ∧ w' = w.alloc (.cells (Lib.cellsOf ps (Lib.countByte (B s) 10 + 1)) 9) := by
  have hc' := genSplit10 s (Lib.countByte (B s) 10 + 1) w hs rfl hc
  have HC := hide hc'
  clear hc'
  go_enter Tryz.func56, Tryz.ntmps56
  go_wp2_with (go_at_call 88; refine HC.out.mono ?_; rintro e w' ⟨rfl, hw⟩; rw [hw])
  go_ret
  refine ⟨_, split_lines _ s rfl, fun x hx => split_size _ _ _ hx, rfl, ?_, rfl⟩
  have h1 := congrArg List.length (split_lines _ s rfl)
  rw [List.length_map] at h1
  have h2 : (Wm.lines (B s)).length = Lib.countByte (B s) 10 + 1 := by
    generalize B s = l
    induction l with
    | nil => rfl
    | cons c r ih =>
      rw [Wm.lines]
      by_cases hcc : c = 10
      · subst hcc
        simp only [if_true, List.length_cons, ih, Lib.countByte, List.count_cons_self]
      · rw [if_neg hcc]
        have h3 : Lib.countByte (c :: r) 10 = Lib.countByte r 10 := by simp [Lib.countByte, hcc]
        rw [h3]
        cases hr : Wm.lines r with
        | nil => exact absurd hr (Wm.lines_ne r)
        | cons x y =>
          rw [hr] at ih
          simpa using ih
  exact h1.trans h2
end Go.Proofs.YtmkidefdegaamaaGreatDoor.Spn
namespace Go.Proofs.YtmkidefdegaamaaGreatDoor.Wi
open Go.RowKit Go.Maps Mem Foot Im Wm Hk Hb Hi Hn Plainw Cq Hs Sh Readw
/-- A window that has grown into this. -/
def Grew (w w' : World) (p : WI) (L : Lim) (E : List Ent) (W : Win) : Prop :=
  ∃ rj' dr' E', WiAt w' p L rj' dr' E' ∧ winOf rj' dr' E' = W ∧ Off (wfoot p E) w w' ∧ ∀ x, x ∈ wfoot p E' → x ∈ wfoot p E ∨ w.heap.size ≤ x
theorem off_grow {F G : List Nat} {w w1 w2 : World} (h : Off F w w1) (k : Off G w1 w2) (hG : ∀ x ∈ G, x ∈ F ∨ w.heap.size ≤ x) : Off F w w2 :=
  ⟨k.os.trans h.os, k.tape.trans h.tape, k.output.trans h.output, Nat.le_trans h.size k.size, fun i hi hF => (k.block i (Nat.lt_of_lt_of_le hi h.size) (fun e => by
    rcases hG i e with e | e
    · exact hF e
    · omega)).trans (h.block i hi hF)⟩
theorem Grew.refl {w : World} {p : WI} {L : Lim} {rj dr : Nat} {E : List Ent} (h : WiAt w p L rj dr E) : Grew w w p L E (winOf rj dr E) :=
  ⟨rj, dr, E, h, rfl, Off.refl _ _, fun _ hx => Or.inl hx⟩
theorem Grew.ahead {w w1 w' : World} {p : WI} {L : Lim} {E : List Ent} {W : Win} (hb : Below w.heap.size w w1) (h : Grew w1 w' p L E W) : Grew w w' p L E W := by
  obtain ⟨rj', dr', E', h1, h2, h3, h4⟩ := h
  refine ⟨rj', dr', E', h1, h2, (Off.of_below hb).trans h3, fun x hx => (h4 x hx).imp id fun h => ?_⟩
  have := hb.size
  omega
/-- On from a window that has grown: a line more. -/
theorem Grew.then {w w1 w2 : World} {p : WI} {L : Lim} {E : List Ent} {W W' : Win} (h : Grew w w1 p L E W) (k : ∀ rj dr E1, WiAt w1 p L rj dr E1 → winOf rj dr E1 = W → Grew w1 w2 p L E1 W') : Grew w w2 p L E W' := by
  obtain ⟨rj', dr', E', h1, h2, h3, h4⟩ := h
  obtain ⟨rj2, dr2, E2, k1, k2, k3, k4⟩ := k rj' dr' E' h1 h2
  refine ⟨rj2, dr2, E2, k1, k2, off_grow h3 k3 h4, fun x hx => ?_⟩
  rcases k4 x hx with h | h
  · exact h4 x h
  · have := h3.size
    exact Or.inr (by omega)
theorem fold_fit {L : Lim} (hL : 2 ≤ L.buckets) : ∀ (ls : List Bs) (n : Nat) (W : Win), WFit L n W → WFit L (n + ls.length) (ls.foldl (wline L) W) := by
  intro ls
  induction ls with
  | nil => intro n W h; exact h
  | cons l r ih =>
    intro n W h
    have := ih (n + 1) _ (h.line hL l)
    rw [List.foldl_cons, List.length_cons]
    rw [show n + (r.length + 1) = n + 1 + r.length by omega]
    exact this
/-- A window that has grown does not hold what lay beside it. -/
theorem Grew.sits {w w1 : World} {p : WI} {L : Lim} {E : List Ent} {W : Win} {G : Nat} {t : TypeId} {cs : Array Value} (h : Grew w w1 p L E W) (hs : Sits w G t cs) (hG : G ∉ wfoot p E) : Sits w1 G t cs := by
  obtain ⟨_, _, _, _, _, h3, _⟩ := h
  exact Foot.Sits.off hs h3 hG
set_option maxRecDepth 10000 in
set_option maxHeartbeats 4000000 in
theorem takeGram (p : WI) (L : Lim) (n rj dr : Nat) (E : List Ent) (s : ByteArray) (w : World) (h : WiAt w p L rj dr E) (hf : WFit L n (winOf rj dr E)) (hL : LOk L) (hs : s.size ≤ 140737488355328) (hn : n + (Lib.countByte (Bytes.B s) 10 + 1) ≤ 1000000000000) :
    Calls Tryz.prog 29 #[.pointer (some ⟨p.P, 0, none⟩), .string s] w fun e w' => e = .returned (.tuple #[]) ∧ Grew w w' p L E (wgram L (winOf rj dr E) (Bytes.B s)) ∧ WFit L (n + (Lib.countByte (Bytes.B s) 10 + 1)) (wgram L (winOf rj dr E) (Bytes.B s)) := by
  have hsp := Spn.split10 s hs (by omega) w
  have HW := hide h
  have HF := hide hf
  clear h hf
  go_enter Tryz.func29, Tryz.ntmps29
  go_wp2_with fail
  refine hsp.mono ?_
  clear hsp
  rintro e w1 ⟨ps, hps, hsz, rfl, hlen, hw1⟩
  have hG := Sits.new w 9 (Lib.cellsOf ps (Lib.countByte (Bytes.B s) 10 + 1))
  have hB := below_new (w := w) (.cells (Lib.cellsOf ps (Lib.countByte (Bytes.B s) 10 + 1)) 9)
  rw [← hw1] at hG hB
  have HLn := hide (show (lines (Bytes.B s)).length = ps.length by rw [← hps]; simp)
  rw [← hlen] at hG ⊢ hn
  have HGn := hide (show w.heap.size ∉ wfoot p E from fun hx => by have := HW.out.lt _ hx; omega)
  obtain ⟨G, hGe⟩ : ∃ G, w.heap.size = G := ⟨_, rfl⟩
  rw [hGe] at HGn hG ⊢
  have HB := hide hB
  have HG := hide hG
  have HPS := hide hps
  have HSZ := hide hsz
  have HW1 := hide (HW.out.keep hB)
  have HGE := hide hGe
  have HLE := hide hlen
  clear hps hsz hw1 hB hG hGe hlen
  have HC := hide (fun (j : Nat) (x : ByteArray) (hx : ps[j]? = some x) => show (Lib.cellsOf ps ps.length)[j]? = some (Value.string x) from by
    rw [Lib.cellsOf_full]
    simp [hx])
  go_wp2_with fail
  go_loopw [9] (fun i wr => ∃ k : Nat, i = .int .i64 (k : Int) ∧ k ≤ ps.length ∧ Hid (Grew w1 wr p L E (((lines (Bytes.B s)).take k).foldl (wline L) (winOf rj dr E)))) (fun i _ => ps.length - (intOf i).toNat)
  case atStart => exact ⟨0, rfl, by omega, Grew.refl HW1.out⟩
  case round =>
    obtain ⟨k, rfl, hk, HI⟩ := hrel
    by_cases hkl : k < ps.length
    · have hkz : (k : Int) < (ps.length : Int) := by omega
      obtain ⟨x, hx⟩ : ∃ x, ps[k]? = some x := ⟨_, List.getElem?_eq_getElem hkl⟩
      have HGr := hide (HI.out.sits HG.out HGn.out)
      have g0 := HGr.out.cell k _ (HC.out k x hx)
      have HX := hide (show (lines (Bytes.B s))[k]? = some (Bytes.B x) by rw [← HPS.out, List.getElem?_map, hx]; rfl)
      have HTK := hide (show (lines (Bytes.B s)).take (k + 1) = (lines (Bytes.B s)).take k ++ [Bytes.B x] by rw [List.take_add_one, HX.out]; rfl)
      have hxs : x.size ≤ s.size := HSZ.out x (List.mem_of_getElem? hx)
      clear hx
      by_cases hxe : Bytes.B x = []
      · have hxe' : x = ⟨#[]⟩ := Bytes.B_inj hxe
        subst hxe'
        have HN := hide (show ((lines (Bytes.B s)).take (k + 1)).foldl (wline L) (winOf rj dr E) = ((lines (Bytes.B s)).take k).foldl (wline L) (winOf rj dr E) by
          rw [HTK.out, List.foldl_append]
          exact wline_nil L _)
        clear hxe
        go_wp2_with fail
        go_roundw
        case rel =>
          refine ⟨k + 1, by go_num, by omega, ?_⟩
          rw [HN.out]
          exact HI
        case measure => simp only [intOf]; omega
      · have hxz : (x.toList == []) = false := Vals.ne_list hxe
        have HXE := hide hxe
        clear hxe
        obtain ⟨rj', dr', E', k1, k2, k3, k4⟩ := HI.out
        have hfk := fold_fit hL.b0 ((lines (Bytes.B s)).take k) n _ HF.out
        have hlk : ((lines (Bytes.B s)).take k).length = k := by
          rw [List.length_take, HLn.out]
          omega
        rw [hlk, ← k2] at hfk
        have htl := takeLine p L (n + k) rj' dr' E' x wr k1 hfk (by omega) hL (by omega) HXE.out
        have HK := hide (And.intro k2 (And.intro k3 k4))
        clear hfk k1 k2 k3 k4 hlk
        go_wp2_with fail
        refine htl.mono ?_
        clear htl
        rintro e w3 ⟨rfl, htk⟩
        have HTo := hide htk
        clear htk g0
        go_wp2_with fail
        go_roundw
        case rel =>
          refine ⟨k + 1, by go_num, by omega, ?_⟩
          obtain ⟨k2, k3, k4⟩ := HK.out
          obtain ⟨rj2, dr2, E2, m1, m2, m3, m4⟩ := HTo.out
          refine ⟨rj2, dr2, E2, m1, ?_, off_grow k3 m3 k4, fun y hy => ?_⟩
          · rw [HTK.out, List.foldl_append, m2, k2]
            rfl
          · rcases m4 y hy with h | h
            · exact k4 y h
            · have := k3.size
              exact Or.inr (by omega)
        case measure => simp only [intOf]; omega
    · have hkz : ¬ (k : Int) < (ps.length : Int) := by omega
      have hk2 : k = ps.length := by omega
      subst hk2
      have HE := hide (show (lines (Bytes.B s)).take ps.length = lines (Bytes.B s) by rw [← HLn.out, List.take_length])
      go_wp2_with fail
      go_end0
      have hg := HI.out
      rw [HE.out] at hg
      have hff := fold_fit hL.b0 (lines (Bytes.B s)) n _ HF.out
      rw [HLn.out, HLE.out] at hff
      exact ⟨rfl, hg.ahead HB.out, hff⟩
end Go.Proofs.YtmkidefdegaamaaGreatDoor.Wi
namespace Go.Proofs.YtmkidefdegaamaaGreatDoor.Wi
open Go.RowKit Go.Maps Mem Foot Im Wm Hk Hb Hi Hn Plainw Cq Hs Sh Readw
def limOf (c : Fin 6 → Int) : Lim := ⟨(c 1).toNat, (c 2).toNat, (c 3).toNat⟩
/-- A configuration. -/
structure COk (c : Fin 6 → Int) : Prop where
  w : 1 ≤ c 0 ∧ c 0 ≤ 1000
  s : 1 ≤ c 1 ∧ c 1 ≤ 32
  t : 1 ≤ c 2 ∧ c 2 ≤ 16
  b : 2 ≤ c 3 ∧ c 3 ≤ 64
  n : 1 ≤ c 4 ∧ c 4 ≤ 16
  g : 64 ≤ c 5 ∧ c 5 ≤ 4096
theorem COk.lim {c : Fin 6 → Int} (h : COk c) : LOk (limOf c) := by
  have h1 := h.s
  have h2 := h.t
  have h3 := h.b
  exact ⟨by simp only [limOf]; omega, by simp only [limOf]; omega, by simp only [limOf]; omega, by simp only [limOf]; omega⟩
theorem cells6 {w : World} {b : Nat} {t : TypeId} {v0 v1 v2 v3 v4 v5 : Value} (h : Sits w b t #[v0, v1, v2, v3, v4, v5]) :
    w.cell? ⟨b, 0, none⟩ = some v0 ∧ w.cell? ⟨b, 1, none⟩ = some v1 ∧ w.cell? ⟨b, 2, none⟩ = some v2 ∧ w.cell? ⟨b, 3, none⟩ = some v3 ∧ w.cell? ⟨b, 4, none⟩ = some v4 ∧ w.cell? ⟨b, 5, none⟩ = some v5 :=
  ⟨h.cell 0 _ rfl, h.cell 1 _ rfl, h.cell 2 _ rfl, h.cell 3 _ rfl, h.cell 4 _ rfl, h.cell 5 _ rfl⟩
theorem made_at {w w1 : World} {M R : Nat} {bs : List Nat} {c : Fin 6 → Int} (hc : COk c) (hb : Below w.heap.size w w1) (hs : ShAt w1 M R bs []) (hf : ∀ x ∈ shf M R bs, w.heap.size ≤ x) (hnd : (shf M R bs).Nodup) :
    WiAt (w1.alloc (.cells #[.int .i64 (c 0), .int .i64 (c 1), .int .i64 (c 2), .int .i64 (c 3), .int .i64 (c 4), .int .i64 (c 5), .pointer (some ⟨M, 0, none⟩), .int .i64 0, .int .i64 0] 113)) ⟨w1.heap.size, M, R, bs, c⟩ (limOf c) 0 0 [] ∧
    (∀ x ∈ wfoot ⟨w1.heap.size, M, R, bs, c⟩ [], w.heap.size ≤ x) ∧ Below w.heap.size w (w1.alloc (.cells #[.int .i64 (c 0), .int .i64 (c 1), .int .i64 (c 2), .int .i64 (c 3), .int .i64 (c 4), .int .i64 (c 5), .pointer (some ⟨M, 0, none⟩), .int .i64 0, .int .i64 0] 113)) := by
  have h1 := hc.s
  have h2 := hc.t
  have h3 := hc.b
  have hz := hb.size
  refine ⟨⟨Sits.new _ _ _, hs.keep (below_new _), by simp, ?_, by simp only [limOf]; omega, by simp only [limOf]; omega, by simp only [limOf]; omega⟩, fun x hx => ?_, hb.alloc hb.size _⟩
  · simp only [wfoot, efoot, List.flatMap_nil, List.append_nil, List.nodup_cons]
    refine ⟨fun hx => ?_, hnd⟩
    have := hs.lt _ hx
    omega
  · simp only [wfoot, efoot, List.flatMap_nil, List.append_nil, List.mem_cons] at hx
    rcases hx with rfl | hx
    · exact hz
    · exact hf x hx
theorem sh_nodup {w : World} {M R : Nat} {bs : List Nat} {ent : List (Bs × Nat)} (h : ShAt w M R bs ent) : (shf M R bs).Nodup := by
  simp only [shf, List.nodup_cons, List.mem_cons, not_or]
  refine ⟨⟨sits_ne h.head h.row (by decide), fun hm => ?_⟩, fun hm => ?_, h.nodup⟩
  · obtain ⟨i, hi⟩ := List.getElem?_of_mem hm
    exact map_sits (h.maps i M hi) h.head rfl
  · obtain ⟨i, hi⟩ := List.getElem?_of_mem hm
    exact map_sits (h.maps i R hi) h.row rfl
set_option maxRecDepth 10000 in
set_option maxHeartbeats 1000000 in
theorem newW (c : Fin 6 → Int) (hc : COk c) (w : World) :
    Calls Tryz.prog 44 #[cfg c] w fun e w' => ∃ p : WI, e = .returned (.pointer (some ⟨p.P, 0, none⟩)) ∧ p.c = c ∧ WiAt w' p (limOf c) 0 0 [] ∧ (∀ x ∈ wfoot p [], w.heap.size ≤ x) ∧ Below w.heap.size w w' := by
  have hN := Sits.new w 23 #[.int .i64 (c 0), .int .i64 (c 1), .int .i64 (c 2), .int .i64 (c 3), .int .i64 (c 4), .int .i64 (c 5)]
  have hB := below_new (w := w) (.cells #[.int .i64 (c 0), .int .i64 (c 1), .int .i64 (c 2), .int .i64 (c 3), .int .i64 (c 4), .int .i64 (c 5)] 23)
  have hn := hc.n
  obtain ⟨n, hcn⟩ : ∃ n : Nat, c 4 = (n : Int) := ⟨(c 4).toNat, by omega⟩
  have HCN := hide hcn
  have hn1 : 1 ≤ n := by omega
  have hn2 : n ≤ 16 := by omega
  have HC := hide hc
  unfold cfg
  go_enter Tryz.func44, Tryz.ntmps44
  clear hcn hn hc
  go_wp2_with fail
  generalize w.alloc (.cells #[.int .i64 (c 0), .int .i64 (c 1), .int .i64 (c 2), .int .i64 (c 3), .int .i64 (c 4), .int .i64 (c 5)] 23) = w1 at *
  obtain ⟨B, hBe⟩ : ∃ B, w.heap.size = B := ⟨_, rfl⟩
  have HB := hide hB
  rw [hBe] at hN
  rw [hBe]
  have HN := hide hN
  obtain ⟨c0, c1, c2, c3, c4, c5⟩ := cells6 hN
  have hnew := Sh.new_ n hn1 hn2 w1.drew
  rw [← HCN.out] at hnew
  have HNE := hide hnew
  clear hB hN hBe hnew
  go_region_with (go_at_call 78; refine HNE.out.mono ?_; rintro e w3 ⟨bs, rfl, hbl, hsh, hft, hb3⟩; have hN3 := HN.out.below (show Below w1.heap.size w1 w3 from ((Below.refl w1.heap.size w1).drew).trans hb3) HN.out.lt; obtain ⟨d0, d1, d2, d3, d4, d5⟩ := cells6 hN3)
  all_goals
    have HSH := hide hsh
    have HFT := hide hft
    have HB3 := hide hb3
    clear hsh hft hb3
    go_wp2_with fail
    go_ret
    have hb' : Below w.heap.size w w3 := HB.out.trans ((show Below w1.heap.size w1 w3 from ((Below.refl w1.heap.size w1).drew).trans HB3.out).mono HB.out.size)
    refine ⟨⟨w3.heap.size, w1.heap.size + 1, w1.heap.size, bs, c⟩, rfl, rfl, made_at HC.out hb' HSH.out (fun x hx => ?_) (sh_nodup HSH.out)⟩
    have h1 := HFT.out x hx
    have h2 := HB.out.size
    have h3 : w1.drew.heap.size = w1.heap.size := rfl
    omega
end Go.Proofs.YtmkidefdegaamaaGreatDoor.Wi
namespace Go.Proofs.YtmkidefdegaamaaGreatDoor.Kr
open Go.RowKit Go.Maps Mem Foot Im Wm Hk Hb Hi Hn Plainw Cq Hs Sh Readw Wi Go.Sort Go.Shelf
theorem sortsS (m : Nat) : AnyZ.SortsIn Tryz.prog Tryz.sortedS_ren Fence.wide m :=
  ⟨fun blk off cap ss W hH hblk hsz => callsIn_wide.2 (AnyM.slices_Sort_string Tryz.sortS blk off cap ss W hH hblk hsz),
   fun p cap W => callsIn_wide.2 (AnyM.slices_Sort_string_none Tryz.sortS p cap W)⟩
theorem keys_words {α : Type} (f : α → Value) (l : List (Bs × α)) : strKeys (mp sLit f l) = l.map (·.1) := by
  unfold mp
  simp [strKeys, sLit, strOf, Function.comp_def]
theorem sorted_words {α : Type} {l : List (Bs × α)} (h : Up sLt l) {ss : List Bs} (hp : ss.Perm (l.map (·.1))) : ss.mergeSort (fun x y => decide (x ≤ y)) = l.map (·.1) := by
  refine List.Perm.eq_of_pairwise (le := fun a b : Bs => a ≤ b) (fun a b _ _ h1 h2 => List.le_antisymm h1 h2) ?_ ?_ ((List.mergeSort_perm _ _).trans hp)
  · have := List.pairwise_mergeSort (le := fun x y : Bs => decide (x ≤ y)) (fun a b c h1 h2 => by simp only [decide_eq_true_eq] at *; exact List.le_trans h1 h2) (fun a b => by
      rcases List.le_total a b with h | h
      · simp [h]
      · simp [h]) ss
    exact this.imp fun {a b} h => by simpa using h
  · rw [List.pairwise_map]
    exact h.imp fun {a b} h => by
      simp only [sLt, decide_eq_true_eq] at h
      exact List.le_of_lt h
theorem keysC (mb : Option Nat) (W : World) : Calls Tryz.prog 107 #[.map mb] W fun e w' => e = .returned (.func (.func 149) #[] #[.pointer (some ⟨W.heap.size, 0, none⟩)]) ∧ w' = W.alloc (.cells #[.map mb] 156) :=
  (callsIn_wide (n := 5)).1 (AnyZ.keys_in Tryz.keysS Fence.wide 5 trivial rfl mb W)
theorem sortedC (w : World) (b : Nat) (l : List (Bs × Nat)) (h : Owns Tryz.prog 9 okP sLit pv w b l) (hup : Up sLt l) (hl : l.length ≤ 1000) :
    Calls Tryz.prog 106 #[.func (.func 149) #[] #[.pointer (some ⟨w.heap.size, 0, none⟩)]] (w.alloc (.cells #[.map (some b)] 156)) fun e w' => ∃ v : Value, e = .returned v ∧ w'.ownsRow w.heap.size 9 1 v l.length (l.map fun c => .string ⟨c.1.toArray⟩) ∧ Below w.heap.size w w' := by
  have hown : w.ownsMap Tryz.prog 9 (exE okP) b l.length (mp sLit pv l) := h
  have hbl := hown.lt
  have hmax : Maps.size (mp sLit pv l) ≤ maxLen := by rw [mp_size]; unfold maxLen; omega
  have hbytes : Maps.size (mp sLit pv l) * 16 ≤ 140737488355328 := by rw [mp_size]; omega
  have hseq : SeqGives Fence.wide 2 Tryz.prog 149 #[.pointer (some ⟨w.heap.size, 0, none⟩)] encStr (fun ss => ss.Perm (strKeys (mp sLit pv l))) (Maps.size (mp sLit pv l)) (w.alloc (.cells #[.map (some b)] 156)) :=
    AnyZ.keys_gives (ρ := Tryz.keysS_ren) { Tryz.keysS with } Fence.wide _ trivial rfl (by omega) w.heap.size b l.length (mp sLit pv l) _ (by simp) (by simp) (by
      obtain ⟨es, clock, hb, Ft, hs, hD⟩ := hown
      exact ⟨es, clock, (Below.heap_alloc _ _ b hbl).trans hb, Ft, hs, hD⟩)
  have cS := AnyZ.sorted_in Tryz.sortedS Fence.wide 5 trivial trivial trivial trivial rfl (by omega) (sortsS _) (enters_of Tryz.func148 (by kernel_rfl) rfl) 149 #[.pointer (some ⟨w.heap.size, 0, none⟩)] trivial (enters_of Tryz.func149 (by kernel_rfl) rfl) _ _ hmax hbytes _ hseq
  change CallsIn _ _ Tryz.prog 106 _ _ _ at cS
  refine ((callsIn_wide (n := 5)).1 cS).mono ?_
  rintro e w' ⟨v, ss, rfl, hS, hrow, hnil, hb⟩
  rw [keys_words] at hS
  rw [sorted_words hup hS, hS.length_eq] at hrow
  simp only [List.length_map, List.map_map] at hrow
  exact ⟨v, rfl, ownsRow_base_a hrow (by simp), ((Below.refl _ w).alloc (Nat.le_refl _) _).trans (hb.mono (by simp))⟩
/-! ### Lists of keys -/
def Srow (w : World) (v : Value) (ks : List Bs) : Prop :=
  ∃ a cap, v = .slice a ks.length cap ∧ ks.length ≤ cap ∧ (ks ≠ [] → ∃ g off cs, a = some ⟨g, off, none⟩ ∧ Sits w g 9 cs ∧ ∀ (j : Nat) x, ks[j]? = some x → cs[off + j]? = some (.string ⟨x.toArray⟩))
/-- Blocks of a kind stay. -/
def Calm (o : Obj) : Bool :=
  match o with
  | .cells _ t _ => t != 5 && t != 108
  | .map _ _ => true
  | _ => false
def Kp (W W' : World) : Prop := W.heap.size ≤ W'.heap.size ∧ ∀ (k : Nat) (o : Obj), W.heap[k]? = some o → Calm o = true → W'.heap[k]? = some o
theorem Kp.trans {A B C : World} (h : Kp A B) (k : Kp B C) : Kp A C := ⟨Nat.le_trans h.1 k.1, fun i o hi ho => k.2 i o (h.2 i o hi ho) ho⟩
theorem Kp.of_below {A B : World} (h : Below A.heap.size A B) : Kp A B := ⟨h.size, fun i _ hi _ => (h.block i (Array.getElem?_eq_some_iff.1 hi).1).trans hi⟩
theorem Kp.sits {A B : World} (h : Kp A B) {b : Nat} {t : TypeId} {cs : Array Value} (hs : Sits A b t cs) (ht : (t != 5 && t != 108) = true) : Sits B b t cs := h.2 b _ hs ht
theorem Srow.kp {A B : World} {v : Value} {ks : List Bs} (h : Srow A v ks) (k : Kp A B) : Srow B v ks := by
  obtain ⟨a, cap, e, hc, h⟩ := h
  refine ⟨a, cap, e, hc, fun hn => ?_⟩
  obtain ⟨g, off, cs, e1, e2, e3⟩ := h hn
  exact ⟨g, off, cs, e1, k.sits e2 (by decide), e3⟩
theorem Srow.set {w : World} {v u : Value} {ks : List Bs} {R i : Nat} {cs : Array Value} (h : Srow w v ks) (hR : Sits w R 24 cs) : Srow (w.setCell ⟨R, i, none⟩ u) v ks := by
  obtain ⟨a, cap, e, hc, h⟩ := h
  refine ⟨a, cap, e, hc, fun hn => ?_⟩
  obtain ⟨g, off, cs, e1, e2, e3⟩ := h hn
  have hne : g ≠ R := sits_ne e2 hR (by decide)
  exact ⟨g, off, cs, e1, (Below.heap_setCell _ _ _ _ hne).trans e2, e3⟩
theorem Srow.of_row {w : World} {base : Nat} {v : Value} {ks : List Bs} (h : w.ownsRow base 9 1 v ks.length (ks.map fun c => .string ⟨c.toArray⟩)) : Srow w v ks := by
  rcases h.2 with ⟨e, h0⟩ | ⟨g, cap, cur, rfl, hb, hg, hn, _, _, ht⟩
  · exact ⟨none, 0, by rw [e, h0], by omega, fun hn => absurd (List.eq_nil_of_length_eq_zero h0) hn⟩
  · refine ⟨_, cap, rfl, hn, fun _ => ⟨g, 0, cur, rfl, hg, fun j x hx => ?_⟩⟩
    have h2 : (ks.map fun c => Value.string ⟨c.toArray⟩)[j]? = some (.string ⟨x.toArray⟩) := by simp [hx]
    rw [← ht, List.getElem?_take] at h2
    split at h2
    · simpa using h2
    · cases h2
/-- The first is gone. -/
theorem Srow.tail {w : World} {a : Option Addr} {g off cap : Nat} {x : Bs} {ks : List Bs} (h : Srow w (.slice (some ⟨g, off, none⟩) (ks.length + 1) cap) (x :: ks)) (ha : ks ≠ [] → a = some ⟨g, off + 1, none⟩) : Srow w (.slice a ks.length (cap - 1)) ks := by
  obtain ⟨a', cap', e, hc, h⟩ := h
  injection e with e1 e2 e3
  subst e3
  refine ⟨a, cap - 1, rfl, by simp at hc; omega, fun hn => ?_⟩
  obtain ⟨g', off', cs, e4, e5, e6⟩ := h (by simp)
  rw [← e1] at e4
  injection e4 with e4
  injection e4 with e4 e7
  subst e4
  subst e7
  refine ⟨g, off + 1, cs, ha hn, e5, fun j y hy => ?_⟩
  have := e6 (j + 1) y (by simpa using hy)
  rwa [show off + 1 + j = off + (j + 1) by omega]
/-- What is left of each shard's keys. -/
def Rests (w : World) (R n : Nat) (r : List (Bs × Nat)) : Prop :=
  ∃ cs : Array Value, Sits w R 24 cs ∧ cs.size = n ∧ ∀ i, i < n → ∃ v, cs[i]? = some v ∧ Srow w v ((Sh.part n i r).map (·.1))
theorem Rests.kp {A B : World} {R n : Nat} {r : List (Bs × Nat)} (h : Rests A R n r) (k : Kp A B) : Rests B R n r := by
  obtain ⟨cs, h1, h2, h3⟩ := h
  exact ⟨cs, k.sits h1 (by decide), h2, fun i hi => by
    obtain ⟨v, e1, e2⟩ := h3 i hi
    exact ⟨v, e1, e2.kp k⟩⟩
def leastOf (n : Nat) : List (Bs × Nat) → Int
  | [] => -1
  | x :: _ => idx n x.1
theorem part_cons (n i : Nat) (x : Bs × Nat) (r : List (Bs × Nat)) : Sh.part n i (x :: r) = if idx n x.1 = i then x :: Sh.part n i r else Sh.part n i r := by
  unfold Sh.part
  rw [List.filter_cons]
  simp
/-- What the search has found among so many lists. -/
def Found (n : Nat) (r : List (Bs × Nat)) (k : Nat) (at_ : Int) : Prop :=
  (at_ = -1 ∧ ∀ i, i < k → Sh.part n i r = []) ∨ ∃ j : Nat, j < k ∧ at_ = (j : Int) ∧ Sh.part n j r ≠ [] ∧ ∀ x t, r = x :: t → idx n x.1 < k → j = idx n x.1
theorem Found.done {n : Nat} {r : List (Bs × Nat)} {a : Int} (h : Found n r n a) (hn : 0 < n) : a = leastOf n r := by
  cases r with
  | nil =>
    rcases h with ⟨h, _⟩ | ⟨j, _, _, h, _⟩
    · exact h
    · exact absurd rfl h
  | cons x t =>
    have hi := idx_lt hn x.1
    rcases h with ⟨_, h⟩ | ⟨j, _, e, _, h⟩
    · have := h _ hi
      rw [part_cons, if_pos rfl] at this
      cases this
    · rw [e, h x t rfl hi]
      rfl
theorem Found.skip {n : Nat} {r : List (Bs × Nat)} {k : Nat} {a : Int} (h : Found n r k a) (hp : Sh.part n k r = []) : Found n r (k + 1) a := by
  rcases h with ⟨e, h⟩ | ⟨j, h1, h2, h3, h4⟩
  · refine Or.inl ⟨e, fun i hi => ?_⟩
    by_cases e : i = k
    · rw [e]; exact hp
    · exact h i (by omega)
  · refine Or.inr ⟨j, by omega, h2, h3, fun x t e hx => ?_⟩
    by_cases e2 : idx n x.1 = k
    · exfalso
      rw [e, ← e2, part_cons, if_pos rfl] at hp
      cases hp
    · exact h4 x t e (by omega)
theorem Found.first {n : Nat} {r : List (Bs × Nat)} {k : Nat} (h : Found n r k (-1)) (hp : Sh.part n k r ≠ []) : Found n r (k + 1) (k : Int) := by
  rcases h with ⟨_, h⟩ | ⟨j, h1, h2, h3, h4⟩
  · refine Or.inr ⟨k, by omega, rfl, hp, fun x t e hx => ?_⟩
    by_cases e2 : idx n x.1 = k
    · exact e2.symm
    · have := h _ (show idx n x.1 < k by omega)
      rw [e, part_cons, if_pos rfl] at this
      cases this
  · omega
theorem part_head_le {n i : Nat} {x y : Bs × Nat} {t p : List (Bs × Nat)} (hu : Up sLt (x :: t)) (h : Sh.part n i (x :: t) = y :: p) : sLt y.1 x.1 = false ∧ (idx n x.1 ≠ i → sLt x.1 y.1 = true) ∧ (idx n x.1 = i → y = x) := by
  rw [part_cons] at h
  by_cases e : idx n x.1 = i
  · rw [if_pos e] at h
    injection h with h1 h2
    subst h1
    exact ⟨sLt_irr _, fun h => absurd e h, fun _ => rfl⟩
  · rw [if_neg e] at h
    have hy : y ∈ t := by
      have : y ∈ Sh.part n i t := by rw [h]; exact List.mem_cons_self ..
      exact (List.mem_filter.1 this).1
    have hlt : sLt x.1 y.1 = true := (List.pairwise_cons.1 hu).1 y hy
    refine ⟨?_, fun _ => hlt, fun h => absurd h e⟩
    cases hc : sLt y.1 x.1 with
    | false => rfl
    | true =>
      have := sLt_trans _ _ _ hlt hc
      rw [sLt_irr] at this
      cases this
/-- The new list's head is less. -/
theorem Found.less {n : Nat} {r : List (Bs × Nat)} {k j : Nat} {y z : Bs × Nat} {p q : List (Bs × Nat)} (hu : Up sLt r) (h : Found n r k (j : Int)) (hp : Sh.part n k r = y :: p) (hq : Sh.part n j r = z :: q) (hl : sLt y.1 z.1 = true) : Found n r (k + 1) (k : Int) := by
  refine Or.inr ⟨k, by omega, rfl, by rw [hp]; simp, fun x t e hx => ?_⟩
  rcases h with ⟨h1, _⟩ | ⟨j', h1, h2, h3, h4⟩
  · omega
  · have hj : j' = j := by omega
    subst hj
    by_cases e2 : idx n x.1 = k
    · exact e2.symm
    · exfalso
      have h5 := h4 x t e (by omega)
      subst e
      have h6 := (part_head_le hu hq).2.2 h5.symm
      subst h6
      have h7 := (part_head_le hu hp).1
      rw [h7] at hl
      cases hl
theorem Found.more {n : Nat} {r : List (Bs × Nat)} {k j : Nat} {y z : Bs × Nat} {p q : List (Bs × Nat)} (hu : Up sLt r) (h : Found n r k (j : Int)) (hp : Sh.part n k r = y :: p) (hq : Sh.part n j r = z :: q) (hl : sLt y.1 z.1 = false) : Found n r (k + 1) (j : Int) := by
  rcases h with ⟨h1, _⟩ | ⟨j', h1, h2, h3, h4⟩
  · omega
  · have hj : j' = j := by omega
    subst hj
    refine Or.inr ⟨j', by omega, rfl, h3, fun x t e hx => ?_⟩
    by_cases e2 : idx n x.1 = k
    · exfalso
      subst e
      have h5 := (part_head_le hu hp).2.2 e2
      subst h5
      by_cases e3 : idx n y.1 = j'
      · omega
      · have := (part_head_le hu hq).2.1 e3
        rw [this] at hl
        cases hl
    · exact h4 x t e (by omega)
end Go.Proofs.YtmkidefdegaamaaGreatDoor.Kr
namespace Go.Proofs.YtmkidefdegaamaaGreatDoor.Kr
open Go.RowKit Go.Maps Mem Foot Im Wm Hk Hb Hi Hn Plainw Cq Hs Sh Readw Wi Go.Sort Go.Shelf
theorem Srow.head {w : World} {v : Value} {x : Bs} {ks : List Bs} (h : Srow w v (x :: ks)) : ∃ g off cap, v = .slice (some ⟨g, off, none⟩) (ks.length + 1) cap ∧ ks.length + 1 ≤ cap ∧ w.cell? ⟨g, off, none⟩ = some (.string ⟨x.toArray⟩) := by
  obtain ⟨a, cap, e, hc, h⟩ := h
  obtain ⟨g, off, cs, e4, e5, e6⟩ := h (by simp)
  subst e4
  exact ⟨g, off, cap, e, hc, e5.cell off _ (e6 0 x rfl)⟩
theorem Srow.nil_ {w : World} {v : Value} (h : Srow w v []) : ∃ a cap, v = .slice a 0 cap := by
  obtain ⟨a, cap, e, _, _⟩ := h
  exact ⟨a, cap, e⟩
set_option maxRecDepth 10000 in
set_option maxHeartbeats 2000000 in
theorem leastHead (R n : Nat) (r : List (Bs × Nat)) (w : World) (h : Rests w R n r) (hu : Up sLt r) (hn0 : 0 < n) (hn : n ≤ 16) (hr : r.length ≤ 1000) :
    Calls Tryz.prog 83 #[.slice (some ⟨R, 0, none⟩) n n] w fun e w' => e = .returned (.int .i64 (leastOf n r)) ∧ Below w.heap.size w w' := by
  have HR := hide h
  have HU := hide hu
  clear h hu
  go_enter Tryz.func83, Tryz.ntmps83
  go_wp2_with fail
  go_loopw [3, 8] (fun a i wr => ∃ (k : Nat) (at_ : Int), a = .int .i64 at_ ∧ i = .int .i64 (k : Int) ∧ k ≤ n ∧ Hid (Found n r k at_) ∧ Hid (Below w.heap.size w wr)) (fun _ i _ => n - (intOf i).toNat)
  case atStart => exact ⟨0, -1, rfl, rfl, by omega, Or.inl ⟨rfl, by omega⟩, Below.refl _ _⟩
  case round =>
    obtain ⟨k, a, rfl, rfl, hk, HF, HB⟩ := hrel
    by_cases hkn : k < n
    · have hkz : (k : Int) < (n : Int) := by omega
      obtain ⟨cs, h1, h2, h3⟩ := HR.out.kp (Kp.of_below HB.out)
      obtain ⟨v, e1, e2⟩ := h3 k hkn
      have ck := h1.cell k _ e1
      cases hp : Sh.part n k r with
      | nil =>
        rw [hp] at e2
        obtain ⟨a', cap, rfl⟩ := e2.nil_
        have HP := hide hp
        have HS := hide (And.intro h1 (And.intro h2 h3))
        clear hp e2 h1 h2 h3 e1
        go_wp2_with fail
        go_quiet (fail)
        go_wp2_with fail
        exact ⟨⟨k + 1, a, rfl, by go_num, by omega, HF.out.skip HP.out, below_drewN' HB.out⟩, by simp only [intOf]; omega⟩
      | cons y p =>
        rw [hp] at e2
        simp only [List.map_cons] at e2
        obtain ⟨g, off, cap, rfl, hcap, cg⟩ := e2.head
        have HP := hide hp
        rw [List.length_map] at ck hcap e2 e1
        have hpl : p.length ≤ 1000 := by
          have : (Sh.part n k r).length ≤ r.length := List.length_filter_le _ _
          rw [hp] at this
          simp at this
          omega
        have hz1 : (0 : Int) < (p.length : Int) + 1 := by omega
        have hz2 : 0 < p.length + 1 := by omega
        by_cases ha : a = -1
        · subst ha
          clear hp e2 h1 h2 h3 e1
          go_wp2_with fail
          go_quiet (fail)
          go_wp2_with fail
          exact ⟨⟨k + 1, k, rfl, by go_num, by omega, HF.out.first (by rw [HP.out]; simp), below_drewN' HB.out⟩, by simp only [intOf]; omega⟩
        · obtain ⟨j, rfl, hjk, z, q, hq⟩ : ∃ j : Nat, a = (j : Int) ∧ j < k ∧ ∃ z q, Sh.part n j r = z :: q := by
            rcases HF.out with ⟨h, _⟩ | ⟨j, h1, h2, h3, _⟩
            · exact absurd h ha
            · obtain ⟨z, q, hq⟩ := List.exists_cons_of_ne_nil h3
              exact ⟨j, h2, h1, z, q, hq⟩
          obtain ⟨v', e1', e2'⟩ := h3 j (by omega)
          have cj := h1.cell j _ e1'
          rw [hq] at e2'
          simp only [List.map_cons] at e2'
          obtain ⟨g', off', cap', rfl, hcap', cg'⟩ := e2'.head
          rw [List.length_map] at cj hcap' e2' e1'
          have HQ := hide hq
          have hjn : (j : Int) < (n : Int) := by omega
          have hj0 : ¬ (j : Int) < 0 := by omega
          have hql : q.length ≤ 1000 := by
            have : (Sh.part n j r).length ≤ r.length := List.length_filter_le _ _
            rw [hq] at this
            simp at this
            omega
          have hz3 : 0 < q.length + 1 := by omega
          have hz4 : (0 : Int) < (q.length : Int) + 1 := by omega
          clear hp hq e2 e2' h1 h2 h3 e1 e1' ha
          have HLS := hide (bytesLess_eq y.1 z.1)
          go_wp2_with fail
          go_quiet (fail)
          all_goals go_wp2_with fail
          · rename_i hc
            have hl : sLt y.1 z.1 = true := by
              rw [sLt, ← HLS.out]
              rcases hc with hc | hc
              · omega
              · exact hc
            exact ⟨⟨k + 1, k, rfl, by go_num, by omega, HF.out.less HU.out HP.out HQ.out hl, below_drewN' HB.out⟩, by simp only [intOf]; omega⟩
          · rename_i hc
            have hl : sLt y.1 z.1 = false := by rw [sLt, ← HLS.out]; exact hc.2
            exact ⟨⟨k + 1, j, rfl, by go_num, by omega, HF.out.more HU.out HP.out HQ.out hl, below_drewN' HB.out⟩, by simp only [intOf]; omega⟩
    · have hkz : ¬ (k : Int) < (n : Int) := by omega
      have hk2 : k = n := by omega
      subst hk2
      have HE := hide (HF.out.done hn0)
      go_wp2_with fail
      go_ret
      rw [HE.out]
      exact ⟨rfl, HB.out⟩
theorem infoKeys : (Tryz.prog.info? 24).map (fun i => (i.zero, i.size, i.bytes)) = some (some (.slice none 0 0), 1, 24) := by kernel_rfl
/-- Lists of which so many are made. -/
def Listing (w wr : World) (R n k : Nat) (ent : List (Bs × Nat)) : Prop :=
  ∃ cs : Array Value, Sits wr R 24 cs ∧ cs.size = n ∧ (∀ i, i < k → ∃ v, cs[i]? = some v ∧ Srow wr v ((Sh.part n i ent).map (·.1))) ∧ Below w.heap.size w wr
set_option maxRecDepth 10000 in
set_option maxHeartbeats 4000000 in
theorem sortedKeys (M R : Nat) (bs : List Nat) (ent : List (Bs × Nat)) (w : World) (h : ShAt w M R bs ent) (hu : Up sLt ent) (hl : ent.length ≤ 1000) :
    Calls Tryz.prog 82 #[.pointer (some ⟨M, 0, none⟩)] w fun e w' => e = .returned (.slice (some ⟨w.heap.size, 0, none⟩) bs.length bs.length) ∧ Rests w' w.heap.size bs.length ent ∧ Below w.heap.size w w' := by
  have c0 := h.head.cell 0 _ rfl
  have hm := h.most
  obtain ⟨cs0, hcs0, hmk⟩ := made 153 24 _ 24 Tryz.underlying153 infoKeys bs.length (by omega) (by omega) w
  have HL0 := hide (show Listing w (w.alloc (.cells cs0 24)) w.heap.size bs.length 0 ent from ⟨cs0, Sits.new _ _ _, hcs0, by omega, below_new _⟩)
  have d0 := (h.head.alloc (.cells cs0 24)).cell 0 _ rfl
  have HS := hide h
  have HU := hide hu
  clear h hu
  go_enter Tryz.func82, Tryz.ntmps82
  go_wp2_with fail
  generalize w.alloc (.cells cs0 24) = w0 at *
  clear hmk c0 d0
  go_loopw [17] (fun i wr => ∃ k : Nat, i = .int .i64 (k : Int) ∧ k ≤ bs.length ∧ Hid (Listing w wr w.heap.size bs.length k ent)) (fun i _ => bs.length - (intOf i).toNat)
  case atStart => exact ⟨0, rfl, by omega, HL0.out⟩
  case round =>
    obtain ⟨k, rfl, hk, HI⟩ := hrel
    by_cases hkn : k < bs.length
    · have hkz : (k : Int) < (bs.length : Int) := by omega
      obtain ⟨cs, hS, hsz, hbs, hB⟩ := HI.out
      have HS1 := hide (HS.out.keep hB)
      obtain ⟨b, hb⟩ : ∃ b, bs[k]? = some b := ⟨_, List.getElem?_eq_getElem hkn⟩
      have ck := HS1.out.cell hb
      have HBB := hide hb
      have HS2 := hide hS
      have HBS := hide hbs
      have HB := hide hB
      clear hb hS hbs hB
      have HC := hide (sortedC wr b _ (HS1.out.maps k b HBB.out) (HU.out.filter _) (Nat.le_trans (List.length_filter_le _ _) hl))
      go_wp2_with fail
      refine (keysC _ _).mono ?_
      rintro e w3 ⟨rfl, rfl⟩
      go_wp2_with fail
      refine HC.out.mono ?_
      rintro e w3 ⟨v, rfl, hrow, hb3⟩
      have HS3 := hide (HS2.out.below hb3 HS2.out.lt)
      have c3 := HS3.out.cell k (cs[k]'(by omega)) (by simp [hsz, hkn])
      have f3 := HS3.out.frozen k
      have HRW := hide (Srow.of_row (ks := (Sh.part bs.length k ent).map (·.1)) (by simpa [Function.comp_def] using hrow))
      obtain ⟨a3, n3, cap3, rfl⟩ : ∃ a3 n3 cap3, v = .slice a3 n3 cap3 := by
        obtain ⟨a, cap, e, _⟩ := HRW.out
        exact ⟨_, _, _, e⟩
      have HB3 := hide hb3
      clear hrow hb3 ck
      go_wp2_with fail
      go_roundw
      case rel =>
        refine ⟨k + 1, by go_num, by omega, _, HS3.out.set k _, by simp [hsz], fun i hi => ?_, (HB.out.trans (HB3.out.mono HB.out.size)).setCell (p := ⟨w.heap.size, k, none⟩) (Nat.le_refl _) _⟩
        by_cases e : i = k
        · subst e
          exact ⟨_, by simp [hsz, hkn], HRW.out.set HS3.out⟩
        · obtain ⟨v, e1, e2⟩ := HBS.out i (by omega)
          refine ⟨v, ?_, (e2.kp (Kp.of_below HB3.out)).set HS3.out⟩
          rw [Array.getElem?_setIfInBounds_ne (fun h => e h.symm)]
          exact e1
      case measure => simp only [intOf]; omega
    · have hkz : ¬ (k : Int) < (bs.length : Int) := by omega
      have hk2 : k = bs.length := by omega
      subst hk2
      go_wp2_with fail
      go_ret
      obtain ⟨cs, h1, h2, h3, h4⟩ := HI.out
      exact ⟨rfl, ⟨cs, h1, h2, h3⟩, h4⟩
end Go.Proofs.YtmkidefdegaamaaGreatDoor.Kr
