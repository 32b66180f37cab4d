/- The twelve operations of a pair in one form. -/
import Derived.Test.YtenegfafjjknoaaGreatDoorPl
namespace Go.Proofs.YtenegfafjjknoaaGreatDoor.Pp
open Go.RowKit Mem Foot Dm Dh Dr

/-- What an operation of the program's disk leaves. -/
def PX (p : PI) (S' : Dk) (w w' : World) : Prop := Off (pf p.bx p.ba p.bs) w w' ∧ ∃ ba' cap' bs', PD w' p.bx S' ba' cap' bs' ∧ ∀ b ∈ pf p.bx ba' bs', b ∈ pf p.bx p.ba p.bs ∨ w.heap.size ≤ b

/-- What an operation of the document's disk leaves. -/
def RX (p : PI) (S S' : Dk) (w w' : World) : Prop := Off (rf p.dx p.da S.segs) w w' ∧ ∃ da' dcap', RD w' p.dx S' da' dcap' ∧ ∀ b ∈ rf p.dx da' S'.segs, b ∈ rf p.dx p.da S.segs ∨ w.heap.size ≤ b

section
variable {p : PI} {S : Dk} {w : World} {K U : Nat}

theorem pfs {w w' : World} (h : Off (p.bx :: p.bs) w w') : Off (pf p.bx p.ba p.bs) w w' := h.mono fun k _ hk => by
  rcases List.mem_cons.1 hk with e | e
  · rw [e]
    exact pf_head ..
  · exact pf_seg e

theorem px_append (hp : PD w p.bx S p.ba p.cap p.bs) (hf : Fit S K U) (hK : K ≤ 1000000000) (n : Int) (t : ByteArray) (hU : U + t.size ≤ 1000000000000) : Calls Tryz.prog 46 #[.pointer (some ⟨p.bx, 0, none⟩), .int .i64 n, .string t] w fun e w' => e = .returned (.int .i64 (doAppend S n t).2) ∧ PX p (doAppend S n t).1 w w' :=
  (Dh.append p.bx p.ba p.cap p.bs S n t w hp hf.good (by rw [hp.len]; exact Nat.le_trans hf.len hK) (Nat.le_trans (Nat.add_le_add_right hf.use _) hU)).mono fun _ _ ⟨he, ho, ba', cap', bs', h1, h2⟩ => ⟨he, ho, ba', cap', bs', h1, h2⟩

theorem px_sync (hp : PD w p.bx S p.ba p.cap p.bs) (hf : Fit S K U) (hK : K ≤ 1000000000) (n : Int) : Calls Tryz.prog 50 #[.pointer (some ⟨p.bx, 0, none⟩), .int .i64 n] w fun e w' => e = .returned (.int .i64 (doSync S n).2) ∧ PX p (doSync S n).1 w w' :=
  (Dh.sync p.bx p.ba p.cap p.bs S n w hp hf.good (by rw [hp.len]; exact Nat.le_trans hf.len hK)).mono fun _ _ ⟨he, ho, h1⟩ => ⟨he, pfs ho, _, _, _, h1, fun _ h => Or.inl h⟩

theorem px_trunc (hp : PD w p.bx S p.ba p.cap p.bs) (hf : Fit S K U) (hK : K ≤ 1000000000) (n m : Int) : Calls Tryz.prog 52 #[.pointer (some ⟨p.bx, 0, none⟩), .int .i64 n, .int .i64 m] w fun e w' => e = .returned (.int .i64 (doTrunc S n m).2) ∧ PX p (doTrunc S n m).1 w w' :=
  (Dh.truncate p.bx p.ba p.cap p.bs S n m w hp hf.good (by rw [hp.len]; exact Nat.le_trans hf.len hK)).mono fun _ _ ⟨he, ho, h1⟩ => ⟨he, pfs ho, _, _, _, h1, fun _ h => Or.inl h⟩

theorem px_delete (hp : PD w p.bx S p.ba p.cap p.bs) (hf : Fit S K U) (hK : K ≤ 1000000000) (n : Int) : Calls Tryz.prog 54 #[.pointer (some ⟨p.bx, 0, none⟩), .int .i64 n] w fun e w' => e = .returned (.int .i64 (doDelete S n).2) ∧ PX p (doDelete S n).1 w w' :=
  (Dh.delete p.bx p.ba p.cap p.bs S n w hp hf.good (by rw [hp.len]; exact Nat.le_trans hf.len hK)).mono fun _ _ ⟨he, ho, ba', cap', bs', h1, h2, h3⟩ => ⟨he, ho.mono (fun k _ hk => by rw [List.mem_singleton] at hk; rw [hk]; exact pf_head ..), ba', cap', bs', h1, by
    by_cases hz : bs' = []
    · rw [hz]
      intro b hb
      rw [pf, List.mem_singleton] at hb
      rw [hb]
      exact Or.inl (pf_head ..)
    · refine pf_sub ?_ fun b hb => Or.inl (pf_seg (h2 b hb))
      rcases h3 with e | e
      · rw [e]
        refine Or.inl (pf_arr fun e2 => ?_)
        obtain ⟨b, hb⟩ := List.exists_mem_of_ne_nil _ hz
        have := h2 b hb
        rw [e2] at this
        cases this
      · exact Or.inr e⟩

theorem px_limit (hp : PD w p.bx S p.ba p.cap p.bs) (a b : Int) : Calls Tryz.prog 57 #[.pointer (some ⟨p.bx, 0, none⟩), .int .i64 a, .int .i64 b] w fun e w' => e = .returned (.tuple #[]) ∧ PX p (doLimit S a b) w w' :=
  (Dh.limit p.bx p.ba p.cap p.bs S a b w hp).mono fun _ _ ⟨he, ho, h1⟩ => ⟨he, Off.of_but ho (pf_head ..), _, _, _, h1, fun _ h => Or.inl h⟩

theorem px_crash (hp : PD w p.bx S p.ba p.cap p.bs) (hf : Fit S K U) (hK : K ≤ 1000000000) (hU : U ≤ 1000000000000) (t : Int) : Calls Tryz.prog 59 #[.pointer (some ⟨p.bx, 0, none⟩), .int .i64 t] w fun e w' => e = .returned (.tuple #[]) ∧ PX p (doCrash S t) w w' :=
  (Dh.crash p.bx p.ba p.cap p.bs S t w hp hf.good (by rw [hp.len]; exact Nat.le_trans hf.len hK) (fun _ hs => Nat.le_trans (used_mem hs) (Nat.le_trans hf.use hU))).mono fun _ _ ⟨he, ho, h1⟩ => ⟨he, pfs ho, _, _, _, h1, fun _ h => Or.inl h⟩

theorem same_rf {l l' : List Seg} (h : l'.length = l.length) (dx da B : Nat) : ∀ b ∈ rf dx da l', b ∈ rf dx da l ∨ B ≤ b := by
  intro b hb
  cases l with
  | nil =>
    cases l' with
    | nil => exact Or.inl hb
    | cons => simp at h
  | cons _ _ =>
    cases l' with
    | nil => simp at h
    | cons => exact Or.inl hb

theorem sync_len (S : Dk) (n : Int) : (doSync S n).1.segs.length = S.segs.length := by
  rw [doSync]
  split
  · rfl
  · split
    · rfl
    · exact turn_length ..

theorem trunc_len (S : Dk) (n m : Int) : (doTrunc S n m).1.segs.length = S.segs.length := by
  rw [doTrunc]
  split
  · rfl
  · split
    · rfl
    · split
      · exact turn_length ..
      · rfl

theorem rx_append (hp : RD w p.dx S p.da p.dcap) (hf : Fit S K U) (hK : K ≤ 1000000000) (n : Int) (t : ByteArray) (hU : U + t.size ≤ 1000000000000) : Calls Tryz.prog 47 #[.pointer (some ⟨p.dx, 0, none⟩), .int .i64 n, .string t] w fun e w' => e = .returned (.int .i64 (doAppend S n t).2) ∧ RX p S (doAppend S n t).1 w w' :=
  (Dr.append p.dx p.da p.dcap S n t w hp hf.good (Nat.le_trans hf.len hK) (Nat.le_trans (Nat.add_le_add_right hf.use _) hU)).mono fun _ _ ⟨he, ho, da', cap', h1, h2⟩ => ⟨he, ho, da', cap', h1, h2⟩

theorem rx_sync (hp : RD w p.dx S p.da p.dcap) (hf : Fit S K U) (hK : K ≤ 1000000000) (n : Int) : Calls Tryz.prog 51 #[.pointer (some ⟨p.dx, 0, none⟩), .int .i64 n] w fun e w' => e = .returned (.int .i64 (doSync S n).2) ∧ RX p S (doSync S n).1 w w' :=
  (Dr.sync p.dx p.da p.dcap S n w hp hf.good (Nat.le_trans hf.len hK)).mono fun _ _ ⟨he, ho, h1⟩ => ⟨he, ho, _, _, h1, same_rf (sync_len S n) _ _ _⟩

theorem rx_trunc (hp : RD w p.dx S p.da p.dcap) (hf : Fit S K U) (hK : K ≤ 1000000000) (n m : Int) : Calls Tryz.prog 53 #[.pointer (some ⟨p.dx, 0, none⟩), .int .i64 n, .int .i64 m] w fun e w' => e = .returned (.int .i64 (doTrunc S n m).2) ∧ RX p S (doTrunc S n m).1 w w' :=
  (Dr.truncate p.dx p.da p.dcap S n m w hp hf.good (Nat.le_trans hf.len hK)).mono fun _ _ ⟨he, ho, h1⟩ => ⟨he, ho, _, _, h1, same_rf (trunc_len S n m) _ _ _⟩

theorem rx_delete (hp : RD w p.dx S p.da p.dcap) (hf : Fit S K U) (hK : K ≤ 1000000000) (n : Int) : Calls Tryz.prog 55 #[.pointer (some ⟨p.dx, 0, none⟩), .int .i64 n] w fun e w' => e = .returned (.int .i64 (doDelete S n).2) ∧ RX p S (doDelete S n).1 w w' :=
  (Dr.delete p.dx p.da p.dcap S n w hp hf.good (Nat.le_trans hf.len hK)).mono fun _ _ ⟨he, ho, da', cap', h1, h2⟩ => ⟨he, ho.mono (fun k _ hk => by rw [List.mem_singleton] at hk; rw [hk]; exact rf_head ..), da', cap', h1, h2⟩

theorem rx_limit (hp : RD w p.dx S p.da p.dcap) (a b : Int) : Calls Tryz.prog 58 #[.pointer (some ⟨p.dx, 0, none⟩), .int .i64 a, .int .i64 b] w fun e w' => e = .returned (.tuple #[]) ∧ RX p S (doLimit S a b) w w' :=
  (Dr.limit p.dx p.da p.dcap S a b w hp).mono fun _ _ ⟨he, ho, h1⟩ => ⟨he, Off.of_but ho (rf_head ..), _, _, h1, fun _ h => Or.inl h⟩

theorem rx_crash (hp : RD w p.dx S p.da p.dcap) (hf : Fit S K U) (hK : K ≤ 1000000000) (hU : U ≤ 1000000000000) (t : Int) : Calls Tryz.prog 60 #[.pointer (some ⟨p.dx, 0, none⟩), .int .i64 t] w fun e w' => e = .returned (.tuple #[]) ∧ RX p S (doCrash S t) w w' :=
  (Dr.crash p.dx p.da p.dcap S t w hp hf.good (Nat.le_trans hf.len hK) (fun _ hs => Nat.le_trans (used_mem hs) (Nat.le_trans hf.use hU))).mono fun _ _ ⟨he, ho, h1⟩ => ⟨he, ho, _, _, h1, same_rf (List.length_map ..) _ _ _⟩

end

theorem head5 {w : World} {b : Nat} {t : TypeId} {v0 v1 v2 v3 v4 : Value} (h : Sits w b t #[v0, v1, v2, v3, v4]) :
    w.cell? ⟨b, 0, none⟩ = some v0 ∧ w.cell? ⟨b, 1, none⟩ = some v1 ∧ w.cell? ⟨b, 2, none⟩ = some v2 ∧ w.cell? ⟨b, 3, none⟩ = some v3 ∧ w.cell? ⟨b, 4, none⟩ = some v4 :=
  ⟨h.cell 0 _ rfl, h.cell 1 _ rfl, h.cell 2 _ rfl, h.cell 3 _ rfl, h.cell 4 _ rfl⟩

/-- Behind the program's operation: the document's disk, the pair, the deed's box. -/
theorem Pr.behind {w w1 : World} {px bo : Nat} {S S' : Dk} {p : PI} {cs : Array Value} (h : Pr w px S p) (hx : PX p S' w w1) (hb : Sits w bo 61 cs) :
    RD w1 p.dx S p.da p.dcap ∧ Sits w1 px 59 #[.pointer (some ⟨p.bx, 0, none⟩), .pointer (some ⟨p.dx, 0, none⟩), p.lv, p.gv] ∧ Sits w1 bo 61 cs := by
  obtain ⟨h1, h2, _⟩ := h.mid hx.1
  refine ⟨h1, h2, so hb hx.1 fun hm => ?_⟩
  obtain ⟨t, cs', s1, s2⟩ := pf_typed h.pd bo hm
  rcases s2 with e | e | e <;> exact sits_ne hb (e ▸ s1) (by decide) rfl

/-- Behind both operations. -/
theorem Pr.after {w0 w w1 w2 : World} {px : Nat} {S S' : Dk} {p : PI} (h0 : Pr w0 px S p) (hb : Below w0.heap.size w0 w) (hx : PX p S' w w1) (n : Nat) (hr : RX p S S' (w1.drewN n) w2) :
    Off (foot px S p) w0 w2 ∧ ∃ p', Pr w2 px S' p' ∧ p'.vs = p.vs ∧ ∀ k ∈ foot px S' p', k ∈ foot px S p ∨ w0.heap.size ≤ k := by
  obtain ⟨ho, ba', cap', bs', h1, h2⟩ := hx
  obtain ⟨ho2, da', dcap', h3, h4⟩ := hr
  have hs := hb.size
  have ho2' : Off (rf p.dx p.da S.segs) w1 w2 := ⟨ho2.os, ho2.tape, ho2.output, ho2.size, ho2.block⟩
  obtain ⟨p', a, b, c, d⟩ := (h0.keep hb).both ho h1 h2 ho2' h3 (fun b hb' => (h4 b hb').imp id (Nat.le_trans ho.size))
  exact ⟨off_more (Off.of_below hb) c fun k hk => Or.inl hk, p', a, b, fun k hk => (d k hk).imp id (Nat.le_trans hs)⟩

end Go.Proofs.YtenegfafjjknoaaGreatDoor.Pp
