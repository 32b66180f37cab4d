/- whole; same. -/
import Derived.Test.YtenegfafjjknoaaSp
import Derived.Laws.StructEq
namespace Go.Proofs.Ytenegfafjjknoaa.Sk
open Go.RowKit Go.Maps Go.Shelf Mem Foot Im

theorem row_from {w : World} {base : Nat} {e : TypeId} {v : Value} {n i : Nat} {xs : List Value} (h : w.ownsRow base e 1 v n xs) (hi : i < n) : ∃ g cap, v = .slice (some ⟨g, 0, none⟩) n cap ∧ n ≤ cap ∧ base ≤ g ∧ g < w.heap.size ∧ ∀ (j : Nat) u, xs[j]? = some u → w.cell? ⟨g, j, none⟩ = some u ∧ w.frozen? ⟨g, j, none⟩ = false := by
  rcases h.2 with ⟨_, h0⟩ | ⟨g, cap, cur, rfl, hb, hg, hn, _, _, ht⟩
  · omega
  · refine ⟨g, cap, rfl, hn, hb, (Array.getElem?_eq_some_iff.1 hg).1, fun j u hu => ?_⟩
    have hs : Sits w g e cur := hg
    rw [← ht, List.getElem?_take] at hu
    split at hu
    · exact ⟨hs.cell j u (by simpa using hu), hs.frozen j⟩
    · cases hu

theorem marks_at {w : World} {v : Value} {n k : Nat} {z : Ms} (h : Marks w v n z) (hk : k < n) : ∃ b cv, v = .slice (some ⟨b, 0, none⟩) n cv ∧ n ≤ cv ∧ b < w.heap.size ∧ ∀ j : Nat, j < n → w.cell? ⟨b, j * 2, none⟩ = some (.int .i64 z.k) ∧ w.cell? ⟨b, j * 2 + 1, none⟩ = some (.string z.t) := by
  obtain ⟨ao, cv, h1, h2⟩ := h
  obtain ⟨b, cs, rfl, h4, h5, h6⟩ := h2 (by omega)
  exact ⟨b, cv, h1, h4, h5.lt, fun j hj => ⟨h5.cell _ _ (h6 j hj).1, h5.cell _ _ (h6 j hj).2⟩⟩

set_option maxRecDepth 100000 in
/-- A message is itself. -/
theorem msg_ne (a : Int) (s : ByteArray) (w : World) : (binOp .neq 36 (.agg #[.int .i64 a, .string s]) (.agg #[.int .i64 a, .string s])).run Try.prog w = .ok (.bool false) w := by
  have h1 : Try.prog.underlying 36 = some (.struct (Try.prog.fieldsOf 36)) := by kernel_rfl
  have h2 : Try.prog.stoodInHeld 36 = false := by kernel_rfl
  have h3 : (Try.prog.fieldsOf 36).toList.map (fun f => (f.name, f.type, f.offset)) = [("Window", 3, 0), ("Text", 9, 1)] := by kernel_rfl
  rw [run_neq_struct, run_equalIn_agg w 9999 _ _ _ h1 h2]
  generalize (Try.prog.fieldsOf 36).toList = fs at h3
  clear h1 h2
  rcases fs with _ | ⟨f, _ | ⟨g, _ | ⟨x, r⟩⟩⟩
  · simp at h3
  · simp at h3
  · simp only [List.map_cons, List.map_nil, List.cons.injEq, Prod.mk.injEq, and_true] at h3
    obtain ⟨⟨h1, h2, h4⟩, h5, h6, h7⟩ := h3
    simp only [Op.eqFields, h1, h2, h4, h5, h6, h7]
    go_simp
  · simp at h3

set_option maxRecDepth 10000 in
set_option maxHeartbeats 1000000 in
theorem same (b1 b2 : Nat) (v u : Value) (l : List Ms) (w : World) (h1 : w.ownsRow b1 36 2 v l.length (mcells l)) (h2 : w.ownsRow b2 36 2 u l.length (mcells l)) (hl : l.length ≤ 4000000000000) :
    Calls Try.prog 16 #[v, u] w fun e w' => e = .returned (.bool true) ∧ ∃ q, w' = w.drewN q := by
  have hq := msg_ne
  obtain ⟨vao, vcv, rfl⟩ := Own.shape h1
  obtain ⟨uao, ucv, rfl⟩ := Own.shape h2
  have H1 := hide h1
  have H2 := hide h2
  clear h1 h2
  go_enter Try.func16, Try.ntmps16
  go_wp2_with fail
  go_loopw [5] (fun s5 wr => ∃ k q : Nat, s5 = .int .i64 (k : Int) ∧ wr = w.drewN q ∧ k ≤ l.length) (fun s5 _ => l.length - (intOf s5).toNat)
  case atStart => exact ⟨0, 0, rfl, rfl, by omega⟩
  case round =>
    obtain ⟨k, q, rfl, rfl, hk⟩ := hrel
    by_cases hkl : k < l.length
    · have hkz : (k : Int) < (l.length : Int) := by omega
      obtain ⟨x, hx⟩ : ∃ x, l[k]? = some x := ⟨_, List.getElem?_eq_getElem hkl⟩
      obtain ⟨g, cap, e1, hcap, _, hgl, x0, x1, _, _⟩ := msg_at H1.out hx
      obtain ⟨g2, cap2, e2, hcap2, _, hgl2, y0, y1, _, _⟩ := msg_at H2.out hx
      injection e1 with e1 _ e3
      injection e2 with e2 _ e4
      subst e1
      subst e2
      subst e3
      subst e4
      clear hx
      go_wp2_with fail
      go_quiet (fail)
      go_wp2_with fail
      go_roundw
      case rel => exact ⟨k + 1, q + nq, by go_num, rfl, by omega⟩
      case measure => simp [intOf]; omega
    · have hkz : ¬ (k : Int) < (l.length : Int) := by omega
      go_wp2_with fail
      go_ret
      exact ⟨rfl, q, rfl⟩

theorem mark_ne (i : Nat) (w : World) : (binOp .neq 36 (.agg #[.int .i64 (i : Int), .string (mark i).t]) (.agg #[.int .i64 (i : Int), .string (mark i).t])).run Try.prog w = .ok (.bool false) w := msg_ne _ _ _

set_option maxRecDepth 10000 in
set_option maxHeartbeats 2000000 in
theorem whole (S : Nat) (ms : List Ms) (p : LI) (w : World) (hP : Sn w S ms p) (hl : p.gs.length ≤ 4000000000000) :
    Calls Try.prog 13 #[.pointer (some ⟨S, 0, none⟩)] w fun e w' => e = .returned (.bool true) ∧ Below w.heap.size w w' := by
  have hq := msg_ne
  have HP := hide hP
  clear hP
  obtain ⟨gao, gcv, hgs⟩ := Own.shape HP.out.grown
  obtain ⟨lao, lcv, hls⟩ := Own.shape HP.out.lists
  have HGS := hide hgs
  have HLS := hide hls
  clear hgs hls
  go_enter Try.func13, Try.ntmps13
  go_wp2_with fail
  go_loopw [3] (fun s3 wr => ∃ i : Nat, s3 = .int .i64 (i : Int) ∧ i ≤ p.gs.length ∧ Hid (Below w.heap.size w wr)) (fun s3 _ => p.gs.length - (intOf s3).toNat)
  case atStart => exact ⟨0, rfl, by omega, Below.refl _ _⟩
  case round =>
    obtain ⟨i, rfl, hi, HB⟩ := hrel
    have HPr := hide (HP.out.keep HB.out)
    obtain ⟨c0, c1, c2, c3, f0, f1, f2, f3⟩ := head4 HPr.out.head
    rw [HGS.out] at c3
    rw [HLS.out] at c2
    by_cases hil : i < p.gs.length
    · have hiz : (i : Int) < (p.gs.length : Int) := by omega
      go_wp2_with fail
      have HBn := hide (HB.out.alloc HB.out.size (.cells #[.int .i64 (i : Int), .string ⟨#[116, 104, 101, 32, 99, 97, 108, 108, 101, 114, 39, 115]⟩] 36))
      have HSn := hide (Sits.new wr 36 #[.int .i64 (i : Int), .string ⟨#[116, 104, 101, 32, 99, 97, 108, 108, 101, 114, 39, 115]⟩])
      clear c0 c1 c2 c3 f0 f1 f2 f3
      obtain ⟨B, hB⟩ : ∃ B, wr.heap.size = B := ⟨_, rfl⟩
      rw [hB] at HSn
      rw [hB]
      generalize wr.alloc (.cells #[.int .i64 (i : Int), .string ⟨#[116, 104, 101, 32, 99, 97, 108, 108, 101, 114, 39, 115]⟩] 36) = wn at *
      clear hB HB HPr
      have HPn := hide (HP.out.keep HBn.out)
      have hivl : i < p.vs.length := by rw [← HP.out.len]; exact hil
      obtain ⟨v, hv⟩ : ∃ v, p.vs[i]? = some v := ⟨_, List.getElem?_eq_getElem hivl⟩
      obtain ⟨g, hg⟩ : ∃ g, p.gs[i]? = some g := ⟨_, List.getElem?_eq_getElem hil⟩
      obtain ⟨n, hn0, hov, hog⟩ := HPn.out.ent i v g hv hg
      obtain ⟨gb, gcap, hgv, hgcap, _, _, hgc⟩ := row_from HPn.out.grown hil
      obtain ⟨lb, lcap, hlv, hlcap, _, _, hlc⟩ := row_from HPn.out.lists hivl
      rw [HGS.out] at hgv
      rw [HLS.out] at hlv
      injection hgv with e1 _ e2
      injection hlv with e3 _ e4
      subst e1
      subst e2
      subst e3
      subst e4
      obtain ⟨vao, vcv, rfl, hov2⟩ := hov
      obtain ⟨gb2, gcap2, rfl, hgcap2, _, hgc2⟩ := marks_at hog (k := 0) (by omega)
      have q1 := (hgc i _ hg).1
      have q2 := (hlc i _ hv).1
      have HGC2 := hide hgc2
      have HOV := hide hov2
      have hlenvs : p.vs.length = p.gs.length := HP.out.len.symm
      obtain ⟨c0, c1, c2, c3, f0, f1, f2, f3⟩ := head4 HPn.out.head
      rw [HGS.out] at c3
      rw [HLS.out] at c2
      have k0 := HSn.out.cell 0 _ rfl
      have k1 := HSn.out.cell 1 _ rfl
      clear hgc hlc hov2 hog hv hg hgc2
      go_loopw [5] (fun s5 wr => ∃ k q : Nat, s5 = .int .i64 (k : Int) ∧ wr = wn.drewN q ∧ k ≤ n + 3) (fun s5 _ => n + 3 - (intOf s5).toNat)
      case atStart => exact ⟨0, 0, rfl, rfl, by omega⟩
      case round =>
        obtain ⟨k, q, rfl, rfl, hk⟩ := hrel
        by_cases hkl : k < n + 3
        · have hkz : (k : Int) < ((n + 3 : Nat) : Int) := by omega
          obtain ⟨kc, kd⟩ := HGC2.out k hkl
          simp only [mark] at kc kd
          by_cases hkn : k < n
          · have hknz : (k : Int) < (n : Int) := by omega
            obtain ⟨vb, vcs, rfl, hvcap, hvc, hvm⟩ := HOV.out (by omega)
            have kv := hvc.cell _ _ (hvm k hkn).1
            have kw := hvc.cell _ _ (hvm k hkn).2
            simp only [mark] at kv kw
            clear hvc hvm
            go_wp2_with fail
            go_quiet (fail)
            go_wp2_with fail
            go_roundw
            case rel => exact ⟨k + 1, q + nq, by go_num, rfl, by omega⟩
            case measure => simp [intOf]; omega
          · have hknz : ¬ (k : Int) < (n : Int) := by omega
            go_wp2_with fail
            go_quiet (fail)
            go_wp2_with fail
            go_roundw
            case rel => exact ⟨k + 1, q + nq, by go_num, rfl, by omega⟩
            case measure => simp [intOf]; omega
        · have hkz : ¬ (k : Int) < ((n + 3 : Nat) : Int) := by omega
          go_wp2_with fail
          exact ⟨⟨i + 1, by go_num, by omega, below_drewN' HBn.out⟩, by simp [intOf]; omega⟩
    · have hiz : ¬ (i : Int) < (p.gs.length : Int) := by omega
      go_wp2_with fail
      go_ret
      exact ⟨rfl, HB.out⟩

end Go.Proofs.Ytenegfafjjknoaa.Sk
