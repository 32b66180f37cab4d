/- A window takes a datagram. -/
import Derived.Test.YtenegfafjjknoaaGreatDoorSpn
import Derived.Lib.SplitLaws
namespace Go.Proofs.YtenegfafjjknoaaGreatDoor.Wi
open Go.RowKit Go.Maps Mem Foot Im Wm Hk Hb Hi Hn Plainw Cq Hs Sh Readw

/-- A window that has grown into this. -/
def Grew (w w' : World) (p : WI) (L : Lim) (E : List Ent) (W : Win) : Prop :=
  ∃ rj' dr' E', WiAt w' p L rj' dr' E' ∧ winOf rj' dr' E' = W ∧ Off (wfoot p E) w w' ∧ ∀ x, x ∈ wfoot p E' → x ∈ wfoot p E ∨ w.heap.size ≤ x

theorem Took.grew {w w' : World} {p : WI} {L : Lim} {rj dr : Nat} {E : List Ent} {l : Bs} (h : Took w w' p L rj dr E l) : Grew w w' p L E (wline L (winOf rj dr E) l) := h

theorem off_grow {F G : List Nat} {w w1 w2 : World} (h : Off F w w1) (k : Off G w1 w2) (hG : ∀ x ∈ G, x ∈ F ∨ w.heap.size ≤ x) : Off F w w2 :=
  ⟨k.os.trans h.os, k.tape.trans h.tape, k.output.trans h.output, Nat.le_trans h.size k.size, fun i hi hF => (k.block i (Nat.lt_of_lt_of_le hi h.size) (fun e => by
    rcases hG i e with e | e
    · exact hF e
    · omega)).trans (h.block i hi hF)⟩

theorem Grew.refl {w : World} {p : WI} {L : Lim} {rj dr : Nat} {E : List Ent} (h : WiAt w p L rj dr E) : Grew w w p L E (winOf rj dr E) :=
  ⟨rj, dr, E, h, rfl, Off.refl _ _, fun _ hx => Or.inl hx⟩

theorem Grew.keep {w w1 w' : World} {p : WI} {L : Lim} {E : List Ent} {W : Win} (h : Grew w w1 p L E W) (hb : Below w1.heap.size w1 w') : Grew w w' p L E W := by
  obtain ⟨rj', dr', E', h1, h2, h3, h4⟩ := h
  exact ⟨rj', dr', E', h1.keep hb, h2, h3.trans (Off.of_below hb), h4⟩

theorem Grew.ahead {w w1 w' : World} {p : WI} {L : Lim} {E : List Ent} {W : Win} (hb : Below w.heap.size w w1) (h : Grew w1 w' p L E W) : Grew w w' p L E W := by
  obtain ⟨rj', dr', E', h1, h2, h3, h4⟩ := h
  refine ⟨rj', dr', E', h1, h2, (Off.of_below hb).trans h3, fun x hx => (h4 x hx).imp id fun h => ?_⟩
  have := hb.size
  omega

/-- On from a window that has grown: a line more. -/
theorem Grew.then {w w1 w2 : World} {p : WI} {L : Lim} {E : List Ent} {W W' : Win} (h : Grew w w1 p L E W) (k : ∀ rj dr E1, WiAt w1 p L rj dr E1 → winOf rj dr E1 = W → Grew w1 w2 p L E1 W') : Grew w w2 p L E W' := by
  obtain ⟨rj', dr', E', h1, h2, h3, h4⟩ := h
  obtain ⟨rj2, dr2, E2, k1, k2, k3, k4⟩ := k rj' dr' E' h1 h2
  refine ⟨rj2, dr2, E2, k1, k2, off_grow h3 k3 h4, fun x hx => ?_⟩
  rcases k4 x hx with h | h
  · exact h4 x h
  · have := h3.size
    exact Or.inr (by omega)

theorem fold_fit {L : Lim} (hL : 2 ≤ L.buckets) : ∀ (ls : List Bs) (n : Nat) (W : Win), WFit L n W → WFit L (n + ls.length) (ls.foldl (wline L) W) := by
  intro ls
  induction ls with
  | nil => intro n W h; exact h
  | cons l r ih =>
    intro n W h
    have := ih (n + 1) _ (h.line hL l)
    rw [List.foldl_cons, List.length_cons]
    rw [show n + (r.length + 1) = n + 1 + r.length by omega]
    exact this

/-- A window that has grown does not hold what lay beside it. -/
theorem Grew.sits {w w1 : World} {p : WI} {L : Lim} {E : List Ent} {W : Win} {G : Nat} {t : TypeId} {cs : Array Value} (h : Grew w w1 p L E W) (hs : Sits w G t cs) (hG : G ∉ wfoot p E) : Sits w1 G t cs := by
  obtain ⟨_, _, _, _, _, h3, _⟩ := h
  exact Foot.Sits.off hs h3 hG

set_option maxRecDepth 10000 in
set_option maxHeartbeats 4000000 in
theorem takeGram (p : WI) (L : Lim) (n rj dr : Nat) (E : List Ent) (s : ByteArray) (w : World) (h : WiAt w p L rj dr E) (hf : WFit L n (winOf rj dr E)) (hL : LOk L) (hs : s.size ≤ 140737488355328) (hn : n + (Lib.countByte (Bytes.B s) 10 + 1) ≤ 1000000000000) :
    Calls Tryz.prog 89 #[.pointer (some ⟨p.P, 0, none⟩), .string s] w fun e w' => e = .returned (.tuple #[]) ∧ Grew w w' p L E (wgram L (winOf rj dr E) (Bytes.B s)) ∧ WFit L (n + (Lib.countByte (Bytes.B s) 10 + 1)) (wgram L (winOf rj dr E) (Bytes.B s)) := by
  have hsp := Spn.split10 s hs (by omega) w
  have HW := hide h
  have HF := hide hf
  clear h hf
  go_enter Tryz.func89, Tryz.ntmps89
  go_wp2_with fail
  refine hsp.mono ?_
  clear hsp
  rintro e w1 ⟨ps, hps, hsz, rfl, hlen, hw1⟩
  have hG := Sits.new w 9 (Lib.cellsOf ps (Lib.countByte (Bytes.B s) 10 + 1))
  have hB := below_new (w := w) (.cells (Lib.cellsOf ps (Lib.countByte (Bytes.B s) 10 + 1)) 9)
  rw [← hw1] at hG hB
  have HLn := hide (show (lines (Bytes.B s)).length = ps.length by rw [← hps]; simp)
  rw [← hlen] at hG ⊢ hn
  have HGn := hide (show w.heap.size ∉ wfoot p E from fun hx => by have := HW.out.lt _ hx; omega)
  obtain ⟨G, hGe⟩ : ∃ G, w.heap.size = G := ⟨_, rfl⟩
  rw [hGe] at HGn hG ⊢
  have HB := hide hB
  have HG := hide hG
  have HPS := hide hps
  have HSZ := hide hsz
  have HW1 := hide (HW.out.keep hB)
  have HGE := hide hGe
  have HLE := hide hlen
  clear hps hsz hw1 hB hG hGe hlen
  have HC := hide (fun (j : Nat) (x : ByteArray) (hx : ps[j]? = some x) => show (Lib.cellsOf ps ps.length)[j]? = some (Value.string x) from by
    rw [Lib.cellsOf_full]
    simp [hx])
  go_wp2_with fail
  go_loopw [9] (fun i wr => ∃ k : Nat, i = .int .i64 (k : Int) ∧ k ≤ ps.length ∧ Hid (Grew w1 wr p L E (((lines (Bytes.B s)).take k).foldl (wline L) (winOf rj dr E)))) (fun i _ => ps.length - (intOf i).toNat)
  case atStart => exact ⟨0, rfl, by omega, Grew.refl HW1.out⟩
  case round =>
    obtain ⟨k, rfl, hk, HI⟩ := hrel
    by_cases hkl : k < ps.length
    · have hkz : (k : Int) < (ps.length : Int) := by omega
      obtain ⟨x, hx⟩ : ∃ x, ps[k]? = some x := ⟨_, List.getElem?_eq_getElem hkl⟩
      have HGr := hide (HI.out.sits HG.out HGn.out)
      have g0 := HGr.out.cell k _ (HC.out k x hx)
      have HX := hide (show (lines (Bytes.B s))[k]? = some (Bytes.B x) by rw [← HPS.out, List.getElem?_map, hx]; rfl)
      have HTK := hide (show (lines (Bytes.B s)).take (k + 1) = (lines (Bytes.B s)).take k ++ [Bytes.B x] by rw [List.take_add_one, HX.out]; rfl)
      have hxs : x.size ≤ s.size := HSZ.out x (List.mem_of_getElem? hx)
      clear hx
      by_cases hxe : Bytes.B x = []
      · have hxe' : x = ⟨#[]⟩ := Bytes.B_inj hxe
        subst hxe'
        have HN := hide (show ((lines (Bytes.B s)).take (k + 1)).foldl (wline L) (winOf rj dr E) = ((lines (Bytes.B s)).take k).foldl (wline L) (winOf rj dr E) by
          rw [HTK.out, List.foldl_append]
          exact wline_nil L _)
        clear hxe
        go_wp2_with fail
        go_roundw
        case rel =>
          refine ⟨k + 1, by go_num, by omega, ?_⟩
          rw [HN.out]
          exact HI
        case measure => simp only [intOf]; omega
      · have hxz : (x.toList == []) = false := Vals.ne_list hxe
        have HXE := hide hxe
        clear hxe
        obtain ⟨rj', dr', E', k1, k2, k3, k4⟩ := HI.out
        have hfk := fold_fit hL.b0 ((lines (Bytes.B s)).take k) n _ HF.out
        have hlk : ((lines (Bytes.B s)).take k).length = k := by
          rw [List.length_take, HLn.out]
          omega
        rw [hlk, ← k2] at hfk
        have htl := takeLine p L (n + k) rj' dr' E' x wr k1 hfk (by omega) hL (by omega) HXE.out
        have HK := hide (And.intro k2 (And.intro k3 k4))
        clear hfk k1 k2 k3 k4 hlk
        go_wp2_with fail
        refine htl.mono ?_
        clear htl
        rintro e w3 ⟨rfl, htk⟩
        have HTo := hide htk
        clear htk g0
        go_wp2_with fail
        go_roundw
        case rel =>
          refine ⟨k + 1, by go_num, by omega, ?_⟩
          obtain ⟨k2, k3, k4⟩ := HK.out
          obtain ⟨rj2, dr2, E2, m1, m2, m3, m4⟩ := HTo.out
          refine ⟨rj2, dr2, E2, m1, ?_, off_grow k3 m3 k4, fun y hy => ?_⟩
          · rw [HTK.out, List.foldl_append, m2, k2]
            rfl
          · rcases m4 y hy with h | h
            · exact k4 y h
            · have := k3.size
              exact Or.inr (by omega)
        case measure => simp only [intOf]; omega
    · have hkz : ¬ (k : Int) < (ps.length : Int) := by omega
      have hk2 : k = ps.length := by omega
      subst hk2
      have HE := hide (show (lines (Bytes.B s)).take ps.length = lines (Bytes.B s) by rw [← HLn.out, List.take_length])
      go_wp2_with fail
      go_end0
      have hg := HI.out
      rw [HE.out] at hg
      have hff := fold_fit hL.b0 (lines (Bytes.B s)) n _ HF.out
      rw [HLn.out, HLE.out] at hff
      exact ⟨rfl, hg.ahead HB.out, hff⟩

end Go.Proofs.YtenegfafjjknoaaGreatDoor.Wi
