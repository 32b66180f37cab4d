/- Numbers written; a timer's text. -/
import Derived.Test.YtmkidefdegaamaaGreatDoorHby
import Derived.Test.YtmkidefdegaamaaGreatDoorPlainw
import Derived.Laws.MakeOwn
import Derived.Deep.RegionWith
import Derived.Deep.QuietTactic
import Derived.BigQuiet
namespace Go.Proofs.YtmkidefdegaamaaGreatDoor.Hi
open Go.RowKit Go.Maps Mem Foot Im Wm Hk Hb Plainw
theorem dd_len20 {u : Nat} (h : u < 10 ^ 19) : (Lib.decDigits u).length ≤ 19 := by
  rw [Lib.decDigits_length]
  exact Plain.nd_le 18 _ h
theorem itoa_len {n : Int} (h0 : -9223372036854775808 ≤ n) (h1 : n ≤ 9223372036854775807) : (Lib.itoa n).length ≤ 20 := by
  unfold Lib.itoa
  split
  · have := dd_len20 (u := n.natAbs) (by omega)
    simp only [List.length_cons]
    omega
  · have := dd_len20 (u := n.toNat) (by omega)
    omega
/-- strconv.Itoa at every number. -/
theorem itoaG (n : Int) (h0 : -9223372036854775808 ≤ n) (h1 : n ≤ 9223372036854775807) (w : World) (ht : Tab w) :
    Calls Tryz.prog 46 #[.int .i64 n] w fun e w' => (∃ z, e = .returned (.string z) ∧ Bytes.B z = Lib.itoa n ∧ z.size ≤ 20) ∧ Below w.heap.size w w' := by
  refine (Tryz.strconv_Itoa n h0 h1 w ht).mono fun e w' h => ?_
  obtain ⟨he, k, os, hw⟩ := h
  subst hw
  refine ⟨⟨_, he, rfl, ?_⟩, below_grow _ _ _⟩
  rw [Bytes.size_B]
  exact itoa_len h0 h1
theorem joinBlanks (G cap : Nat) (ls : List (List UInt8)) (w : World) (hG1 : G < w.heap.size) (hG2 : ls.length ≤ cap) (hG3 : ∀ j x, ls[j]? = some x → w.cell? ⟨G, j, none⟩ = some (.string ⟨x.toArray⟩)) (hl : ls.length ≤ 140737488355328) (hz : (Lib.join ls [32]).length ≤ 140737488355328) :
    Calls Tryz.prog 150 #[.slice (some ⟨G, 0, none⟩) ls.length cap, .string ⟨#[32]⟩] w fun e w' => (∃ z, e = .returned (.string z) ∧ Bytes.B z = Lib.join ls [32]) ∧ Below w.heap.size w w' := by
  have em : (ls.map fun x => (⟨x.toArray⟩ : ByteArray)).map (fun x => x.data.toList) = ls := by
    rw [List.map_map]
    exact List.map_id ls
  have hj := Tryz.strings_Join G 0 cap (ls.map fun x => ⟨x.toArray⟩) ⟨#[32]⟩ w (fun j x hx => by
      rw [List.getElem?_map, Option.map_eq_some_iff] at hx
      obtain ⟨y, hy, rfl⟩ := hx
      rw [Nat.zero_add]
      exact hG3 j y hy) hG1 (by rw [List.length_map]; exact hl) (by rw [List.length_map]; exact hG2) (by rw [em]; exact hz)
  rw [List.length_map, em] at hj
  refine hj.mono fun e w' h => ?_
  obtain ⟨he, hb⟩ := h
  exact ⟨⟨_, he, rfl⟩, hb⟩
/-- A new row of so many elements of one cell. -/
theorem made (t e : TypeId) (z : Value) (by_ : Nat) (ht : Tryz.prog.underlying t = some (.slice e)) (hi : (Tryz.prog.info? e).map (fun i => (i.zero, i.size, i.bytes)) = some (some z, 1, by_)) (n : Nat) (hb : by_ * n ≤ 281474976710656) (hn : n ≤ 281474976710656) (w : World) :
    ∃ cs : Array Value, cs.size = n ∧ (Instr.makeSlice t (.int .i64 (n : Int)) (.int .i64 (n : Int))).run Tryz.prog w = .ok (.slice (some ⟨w.heap.size, 0, none⟩) n n) (w.alloc (.cells cs e)) := by
  obtain ⟨i, hi, hz0, hz1, hz2⟩ := info_parts hi
  have h := run_make (P := Tryz.prog) w t e i z ht hi hz0 .i64 .i64 (n : Int) (n : Int) (by omega) (Int.le_refl _) (by
    rw [hz2]
    have h1 : ((by_ * n : Nat) : Int) ≤ 281474976710656 := by omega
    rwa [Int.natCast_mul] at h1) (by omega)
  rw [hz1, Nat.mul_one, Int.toNat_natCast] at h
  exact ⟨_, size_madeCells _ _, h⟩
theorem infoS : (Tryz.prog.info? 9).map (fun i => (i.zero, i.size, i.bytes)) = some (some (.string ⟨#[]⟩), 1, 16) := by kernel_rfl
set_option maxRecDepth 10000 in
set_option maxHeartbeats 4000000 in
theorem joined (g cap : Nat) (xs : List Int) (w : World) (ht : Tab w) (hg : g < w.heap.size) (hcap : xs.length ≤ cap) (hx : ∀ (j : Nat) x, xs[j]? = some x → w.cell? ⟨g, j, none⟩ = some (.int .i64 x)) (hr : ∀ x ∈ xs, -9223372036854775808 ≤ x ∧ x ≤ 9223372036854775807) (hn : xs.length = 8) :
    Calls Tryz.prog 109 #[.slice (some ⟨g, 0, none⟩) 8 cap] w fun e w' => (∃ z, e = .returned (.string z) ∧ Bytes.B z = Lib.join (xs.map Lib.itoa) [32]) ∧ Below w.heap.size w w' := by
  have HT := hide ht
  have HX := hide hx
  have HR := hide hr
  clear ht hx hr
  obtain ⟨cs0, hcs0, hmk⟩ := made 24 9 _ 16 Tryz.underlying24 infoS 8 (by omega) (by omega) w
  obtain ⟨G, hG⟩ : ∃ G, w.heap.size = G := ⟨_, rfl⟩
  have HS0 := hide (Sits.new w 9 cs0)
  have HB0 := hide (below_new (w := w) (.cells cs0 9))
  have HGE := hide hG
  rw [hG] at hmk HS0
  have hmk' : (Instr.makeSlice 24 (.int .i64 8) (.int .i64 8)).run Tryz.prog w = .ok (.slice (some ⟨G, 0, none⟩) 8 8) (w.alloc (.cells cs0 9)) := hmk
  clear hmk hG
  generalize w.alloc (.cells cs0 9) = w0 at *
  go_enter Tryz.func109, Tryz.ntmps109
  go_wp2_with fail
  go_loopw [11] (fun i wr => ∃ k : Nat, i = .int .i64 (k : Int) ∧ k ≤ 8 ∧ Hid (∃ cs : Array Value, Sits wr G 9 cs ∧ cs.size = 8 ∧ (∀ (j : Nat) x, j < k → xs[j]? = some x → cs[j]? = some (.string ⟨(Lib.itoa x).toArray⟩)) ∧ Below w.heap.size w wr)) (fun i _ => 8 - (intOf i).toNat)
  case atStart => exact ⟨0, rfl, by omega, cs0, HS0.out, hcs0, fun j x h => by omega, HB0.out⟩
  case round =>
    obtain ⟨k, rfl, hk, HI⟩ := hrel
    by_cases hk8 : k < 8
    · have hkz : (k : Int) < 8 := by omega
      obtain ⟨cs, hS, hsz, hdone, hB⟩ := HI.out
      obtain ⟨x, hxk⟩ : ∃ x, xs[k]? = some x := ⟨_, List.getElem?_eq_getElem (by omega)⟩
      have gc : wr.cell? ⟨g, k, none⟩ = some (.int .i64 x) := (hB.cell (p := ⟨g, k, none⟩) hg).trans (HX.out k x hxk)
      obtain ⟨r0, r1⟩ := HR.out x (List.mem_of_getElem? hxk)
      have htab : Tab wr := HT.out.below hB
      have hit := itoaG x r0 r1 wr htab
      have HS := hide hS
      have HDn := hide hdone
      have HB := hide hB
      have HXK := hide hxk
      have hcapk : k < cap := by omega
      clear hS hdone hB hxk htab r0 r1
      go_wp2_with fail
      refine hit.mono ?_
      clear hit
      rintro e w2 ⟨⟨z, rfl, hz, hzs⟩, hb2⟩
      have HZ := hide hz
      have HS2 := hide (HS.out.below hb2 HS.out.lt)
      have HB2 := hide (HB.out.trans (hb2.mono HB.out.size))
      have c0 := HS2.out.cell k (cs[k]'(by omega)) (by simp [hsz, hk8])
      have f0 := HS2.out.frozen k
      clear hz hb2 gc
      go_wp2_with fail
      go_roundw
      case rel =>
        refine ⟨k + 1, by go_num, by omega, _, HS2.out.set k _, by simp [hsz], fun j y hj hy => ?_, ?_⟩
        · by_cases e : j = k
          · subst e
            rw [HXK.out] at hy
            cases hy
            have : z = ⟨(Lib.itoa x).toArray⟩ := Bytes.B_inj (by rw [HZ.out]; rfl)
            rw [this]
            simp [hsz, hk8]
          · rw [Array.getElem?_setIfInBounds_ne (fun h => e h.symm)]
            exact HDn.out j y (by omega) hy
        · exact HB2.out.setCell (p := ⟨G, k, none⟩) (by have := HGE.out; simp; omega) _
      case measure => simp only [intOf]; omega
    · have hkz : ¬ (k : Int) < 8 := by omega
      have hk2 : k = 8 := by omega
      subst hk2
      obtain ⟨cs, hS, hsz, hdone, hB⟩ := HI.out
      have hlen : (xs.map Lib.itoa).length = 8 := by simpa using hn
      have hjn := joinBlanks G 8 (xs.map Lib.itoa) wr hS.lt (by omega) (fun j x hx => by
        rw [List.getElem?_map, Option.map_eq_some_iff] at hx
        obtain ⟨y, hy, rfl⟩ := hx
        have hj : j < xs.length := (List.getElem?_eq_some_iff.1 hy).1
        exact hS.cell j _ (hdone j y (by omega) hy)) (by omega) (by
        have : ∀ ls : List (List UInt8), (∀ x ∈ ls, x.length ≤ 20) → (Lib.join ls [32]).length ≤ 21 * ls.length := by
          intro ls
          induction ls with
          | nil => intro _; simp [Lib.join_nil]
          | cons x r ih =>
            intro hx
            have h1 := hx x (List.mem_cons_self ..)
            have h2 := ih fun y hy => hx y (List.mem_cons_of_mem _ hy)
            cases r with
            | nil =>
              rw [Lib.join_one]
              simp
              omega
            | cons y r =>
              have e : Lib.join (x :: y :: r) [32] = x ++ 32 :: Lib.join (y :: r) [32] := by simp [Lib.join]
              rw [e]
              simp only [List.length_append, List.length_cons] at h2 ⊢
              omega
        have := this (xs.map Lib.itoa) fun y hy => by
          obtain ⟨x, hx, rfl⟩ := List.mem_map.1 hy
          obtain ⟨r0, r1⟩ := HR.out x hx
          exact itoa_len r0 r1
        omega)
      rw [hlen] at hjn
      have HB := hide hB
      clear hS hdone hB hlen
      go_wp2_with fail
      refine hjn.mono ?_
      clear hjn
      rintro e w2 ⟨⟨z, rfl, hz⟩, hb2⟩
      have HZ := hide hz
      have HB2 := hide (HB.out.trans (hb2.mono HB.out.size))
      clear hz hb2
      go_wp2_with fail
      go_ret
      exact ⟨⟨z, rfl, HZ.out⟩, HB2.out⟩
end Go.Proofs.YtmkidefdegaamaaGreatDoor.Hi
namespace Go.Proofs.YtmkidefdegaamaaGreatDoor.Jr
open Go.RowKit Mem Foot Bytes Im Wm Hi Plainw Cq
/-- A record as it is written. -/
def wrec (k : List UInt8) (n : Int) (t : List UInt8) : List UInt8 := k ++ Lib.itoa n ++ [58] ++ Lib.itoa t.length ++ [58] ++ t ++ [10]
theorem itoa_len {v : Int} (h0 : -9223372036854775808 ≤ v) (h1 : v ≤ 9223372036854775807) : (Lib.itoa v).length ≤ 20 := by
  unfold Lib.itoa
  split
  · have := Plain.nd_le 18 v.natAbs (by omega)
    rw [List.length_cons, Lib.decDigits_length]
    omega
  · have := Plain.nd_le 18 v.toNat (by omega)
    rw [Lib.decDigits_length]
    omega
set_option maxRecDepth 10000 in
set_option maxHeartbeats 2000000 in
theorem written (kb : ByteArray) (n : Int) (tb : ByteArray) (w : World) (hT : Tab w) (hk : kb.size ≤ 1000) (hn0 : -9223372036854775808 ≤ n) (hn1 : n ≤ 9223372036854775807) (ht : tb.size ≤ 140737488355328) :
    Calls Tryz.prog 52 #[.agg #[.string kb, .int .i64 n, .string tb]] w fun e w' => (∃ z, e = .returned (.string z) ∧ B z = wrec (B kb) n (B tb)) ∧ Below w.heap.size w w' := by
  have HT := hide hT
  have HS1 := hide (Sits.new w 121 #[.string kb, .int .i64 n, .string tb])
  have HB1 := hide (below_new (w := w) (.cells #[.string kb, .int .i64 n, .string tb] 121))
  clear hT
  go_enter Tryz.func52, Tryz.ntmps52
  go_upto_region 1 with fail
  obtain ⟨X, hX⟩ : ∃ X, w.heap.size = X := ⟨_, rfl⟩
  rw [hX] at HS1 ⊢
  clear hX
  generalize w.alloc (.cells #[.string kb, .int .i64 n, .string tb] 121) = w1 at *
  obtain ⟨d1, hd1⟩ : ∃ d1 : ByteArray, B d1 = Lib.itoa n := ⟨⟨(Lib.itoa n).toArray⟩, rfl⟩
  obtain ⟨d2, hd2⟩ : ∃ d2 : ByteArray, B d2 = Lib.itoa (tb.size : Int) := ⟨⟨(Lib.itoa (tb.size : Int)).toArray⟩, rfl⟩
  have it : ∀ (v : Int) (d : ByteArray), B d = Lib.itoa v → -9223372036854775808 ≤ v → v ≤ 9223372036854775807 → ∀ W : World, Tab W → Calls Tryz.prog 46 #[.int .i64 v] W fun e w' => e = .returned (.string d) ∧ Below W.heap.size W w' := fun v d hd h0 h1 W hW =>
    (itoaG v h0 h1 W hW).mono fun e w' ⟨⟨z, e1, e2, _⟩, e3⟩ => ⟨by
      have e4 : z = d := Bytes.B_inj (by rw [e2, hd])
      rw [e1, e4], e3⟩
  have s1 : d1.size ≤ 20 := by
    rw [Bytes.size_B, hd1]
    exact itoa_len hn0 hn1
  have s2 : d2.size ≤ 20 := by
    rw [Bytes.size_B, hd2]
    exact itoa_len (by omega) (by omega)
  have HA1 := hide (fun q : Bw w1 => call_cls (it n d1 hd1 hn0 hn1 q.val ((HT.out.below HB1.out).below q.is)))
  have HA2 := hide (fun q : Bw w1 => call_cls (it (tb.size : Int) d2 hd2 (by omega) (by omega) q.val ((HT.out.below HB1.out).below q.is)))
  have D : ∀ q : Bw w1, Sits q.val X 121 _ := fun q => Mem.Sits.below HS1.out q.is HS1.out.lt
  have C0 : ∀ q : Bw w1, q.val.cell? ⟨X, 0, none⟩ = some (.string kb) := fun q => (D q).cell 0 _ rfl
  have C1 : ∀ q : Bw w1, q.val.cell? ⟨X, 1, none⟩ = some (.int .i64 n) := fun q => (D q).cell 1 _ rfl
  have C2 : ∀ q : Bw w1, q.val.cell? ⟨X, 2, none⟩ = some (.string tb) := fun q => (D q).cell 2 _ rfl
  have HD1 := hide hd1
  have HD2 := hide hd2
  clear D it hd1 hd2
  refine region_cls (by kernel_rfl) (by kernel_rfl) ?_
  repeat (first
    | go_big_quiet_skip
    | (go_big_quiet_want; go_big_quiet_op; first | go_big_quiet_on | (apply Exists.intro; refine ⟨fun _ => ?_, ?_⟩; (go_at_call 46; first | exact HA1.out _ | exact HA2.out _); go_big_quiet_on)))
  refine wpQuiet_nil ?_
  rintro _ ⟨q, rfl⟩
  have HBn := hide (HB1.out.trans (q.is.mono HB1.out.size))
  clear C0 C1 C2
  go_wp2_with fail
  go_ret
  refine ⟨⟨_, rfl, ?_⟩, HBn.out⟩
  unfold wrec
  rw [← Bytes.size_B tb]
  simp only [Bytes.B_append, HD1.out, HD2.out, List.append_assoc]
  rfl
end Go.Proofs.YtmkidefdegaamaaGreatDoor.Jr
namespace Go.Proofs.YtmkidefdegaamaaGreatDoor.Jr
open Go.RowKit Mem Foot Bytes Im Wm Hi Plainw Cq
/-- An error of the journal's: nil, or a failure with the disk's number. -/
def ErrV (w : World) (v : Value) (n : Int) : Prop := (n = 0 ∧ v = .nilIface) ∨ (n ≠ 0 ∧ ∃ b z, v = .iface 178 (.pointer (some ⟨b, 0, none⟩)) ∧ Sits w b 180 #[.string z, .iface 29 (.int .i64 n)])
theorem during (z : ByteArray) (n : Int) (w : World) : Calls Tryz.prog 60 #[.string z, .int .i64 n] w fun e w' => (∃ v, e = .returned v ∧ ErrV w' v n) ∧ Below w.heap.size w w' := by
  by_cases hn : n = 0
  · subst hn
    go_enter Tryz.func60, Tryz.ntmps60
    go_wp2_with fail
    go_ret
    exact ⟨⟨_, rfl, Or.inl ⟨rfl, rfl⟩⟩, Below.refl _ _⟩
  · have HN := hide hn
    go_enter Tryz.func60, Tryz.ntmps60
    go_wp2_with fail
    go_ret
    exact ⟨⟨_, rfl, Or.inr ⟨HN.out, _, z, rfl, Sits.new w _ _⟩⟩, below_new _⟩
/-- What a journal keeps. -/
structure Jn where
  most : Int
  sealed : List (Int × List Int)
  opn : List Int
  synced : Nat
  uns : ByteArray
  next : Int
  greatest : Int
/-- The journal in memory, but for its sealed windows. -/
structure JA (w : World) (jb bx : Nat) (J : Jn) (mv ov : Value) : Prop where
  head : Sits w jb 103 #[.pointer (some ⟨bx, 0, none⟩), .int .i64 J.most, mv, ov, .int .i64 (J.synced : Int), .string J.uns, .int .i64 J.next, .int .i64 J.greatest]
  opn : w.ownsRow 0 3 1 ov J.opn.length (J.opn.map (Value.int .i64))
theorem cells8 {w : World} {b : Nat} {t : TypeId} {v0 v1 v2 v3 v4 v5 v6 v7 : Value} (h : Sits w b t #[v0, v1, v2, v3, v4, v5, v6, v7]) :
    w.cell? ⟨b, 0, none⟩ = some v0 ∧ w.cell? ⟨b, 1, none⟩ = some v1 ∧ w.cell? ⟨b, 2, none⟩ = some v2 ∧ w.cell? ⟨b, 3, none⟩ = some v3 ∧ w.cell? ⟨b, 4, none⟩ = some v4 ∧ w.cell? ⟨b, 5, none⟩ = some v5 ∧ w.cell? ⟨b, 6, none⟩ = some v6 ∧ w.cell? ⟨b, 7, none⟩ = some v7 :=
  ⟨h.cell 0 _ rfl, h.cell 1 _ rfl, h.cell 2 _ rfl, h.cell 3 _ rfl, h.cell 4 _ rfl, h.cell 5 _ rfl, h.cell 6 _ rfl, h.cell 7 _ rfl⟩
theorem row_ints {w : World} {base : Nat} {v : Value} {l : List Int} (h : w.ownsRow base 3 1 v l.length (l.map (Value.int .i64))) {i : Nat} {x : Int} (hi : l[i]? = some x) : ∃ g cap, v = .slice (some ⟨g, 0, none⟩) l.length cap ∧ l.length ≤ cap ∧ g < w.heap.size ∧ w.cell? ⟨g, i, none⟩ = some (.int .i64 x) := by
  have hl := (List.getElem?_eq_some_iff.1 hi).1
  rcases h.2 with ⟨_, h0⟩ | ⟨g, cap, cur, rfl, hb, hg, hn, _, _, ht⟩
  · omega
  · have hs : Sits w g 3 cur := hg
    have hu : (l.map (Value.int .i64))[i]? = some (.int .i64 x) := by rw [List.getElem?_map, hi]; rfl
    rw [← ht, List.getElem?_take] at hu
    split at hu
    · exact ⟨g, cap, rfl, hn, hs.lt, hs.cell i _ (by simpa using hu)⟩
    · cases hu
set_option maxHeartbeats 1000000 in
theorem last (w : World) (jb bx : Nat) (J : Jn) (mv ov : Value) (h : JA w jb bx J mv ov) (l : List Int) (x : Int) (hl : J.opn = l ++ [x]) (hb : J.opn.length ≤ 1000000000) :
    Calls Tryz.prog 59 #[.pointer (some ⟨jb, 0, none⟩)] w fun e w' => e = .returned (.int .i64 x) ∧ ∃ n, w' = w.drewN n := by
  have hlen : J.opn.length = l.length + 1 := by rw [hl]; simp
  have hi : J.opn[l.length]? = some x := by rw [hl]; exact List.getElem?_concat_length
  obtain ⟨g, cap, rfl, hcap, hg, hcell⟩ := row_ints h.opn hi
  obtain ⟨c0, c1, c2, c3, c4, c5, c6, c7⟩ := cells8 h.head
  rw [hlen] at c3 hcap
  have hlb : l.length ≤ 1000000000 := by omega
  have hwr : IntKind.i64.wrap (l.length : Int) = (l.length : Int) := IntWalk.i64_in _ (by omega)
  clear hl hi h hlen
  go_enter Tryz.func59, Tryz.ntmps59
  go_wp2_with fail
  go_quiet (fail)
  go_wp2_with fail
  go_ret
  exact ⟨rfl, _, rfl⟩
/-- What the first segment behind a seal begins with. -/
def jhead (J : Jn) : List UInt8 := if J.greatest = -1 then [] else wrec [98] J.greatest []
set_option maxHeartbeats 1000000 in
theorem head (w : World) (jb bx : Nat) (J : Jn) (mv ov : Value) (h : JA w jb bx J mv ov) (hT : Tab w) (h0 : -9223372036854775808 ≤ J.greatest) (h1 : J.greatest ≤ 9223372036854775807) :
    Calls Tryz.prog 54 #[.pointer (some ⟨jb, 0, none⟩)] w fun e w' => (∃ z, e = .returned (.string z) ∧ B z = jhead J) ∧ Below w.heap.size w w' := by
  obtain ⟨c0, c1, c2, c3, c4, c5, c6, c7⟩ := cells8 h.head
  have hw := written ⟨#[98]⟩ J.greatest ⟨#[]⟩ w hT (by decide) h0 h1 (by decide)
  by_cases hg : J.greatest = -1
  · have HJ := hide (show jhead J = [] by unfold jhead; rw [if_pos hg])
    rw [hg] at c7
    clear hw hg h
    go_enter Tryz.func54, Tryz.ntmps54
    go_wp2_with fail
    go_ret
    exact ⟨⟨_, rfl, by rw [HJ.out]; rfl⟩, Below.refl _ _⟩
  · have HJ := hide (show jhead J = wrec [98] J.greatest [] by unfold jhead; rw [if_neg hg])
    clear h
    go_enter Tryz.func54, Tryz.ntmps54
    go_wp2_with fail
    refine hw.mono ?_
    clear hw
    rintro e w1 ⟨⟨z, rfl, hz⟩, hb⟩
    have HZ := hide hz
    have HB := hide hb
    clear hz hb c0 c1 c2 c3 c4 c5 c6 c7
    go_wp2_with fail
    go_ret
    exact ⟨⟨_, rfl, by rw [HJ.out, HZ.out]; rfl⟩, HB.out⟩
/-- What is said of a failure. -/
def aboutB (z : ByteArray) (n : Int) : ByteArray := z ++ ⟨#[32, 115, 101, 103, 109, 101, 110, 116, 32]⟩ ++ ⟨(Lib.itoa n).toArray⟩
set_option maxHeartbeats 1000000 in
theorem about (z : ByteArray) (hz : z.size ≤ 1000) (n : Int) (hn0 : -9223372036854775808 ≤ n) (hn1 : n ≤ 9223372036854775807) (w : World) (hT : Tab w) :
    Calls Tryz.prog 61 #[.string z, .int .i64 n] w fun e w' => e = .returned (.string (aboutB z n)) ∧ Below w.heap.size w w' := by
  have hit := itoaG n hn0 hn1 w hT
  go_enter Tryz.func61, Tryz.ntmps61
  go_wp2_with fail
  refine hit.mono ?_
  clear hit
  rintro e w1 ⟨⟨y, rfl, hy2, hy⟩, hb⟩
  have HB := hide hb
  have HY := hide (show y = ⟨(Lib.itoa n).toArray⟩ from Bytes.B_inj (by rw [hy2]; rfl))
  clear hb hy2
  go_wp2_with fail
  go_ret
  refine ⟨?_, HB.out⟩
  unfold aboutB
  rw [← HY.out]
  rfl
end Go.Proofs.YtmkidefdegaamaaGreatDoor.Jr
