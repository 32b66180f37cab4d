/- A daemon in memory: where all of it lies, and what stays. -/
import Derived.Test.YtmkidefdegaamaaGreatDoorJoy
import Derived.Test.YtmkidefdegaamaaGreatDoorWzy
import Derived.Test.YtmkidefdegaamaaGreatDoorMsy
namespace Go.Proofs.YtmkidefdegaamaaGreatDoor.Dd
open Go.RowKit Go.Maps Mem Foot Bytes Im Wm Hi Plainw Cq Dm Dh Jr Wi Sk Hn
/-- What a daemon keeps. -/
structure Dn where
  c : Fin 6 → Int
  J : Jn
  S : Dk
  clock : Int
  num : Int
  count : Nat
  W : Win
  due : List Ms
  spent : Bool
/-- Where it lies. -/
structure Pl where
  jb : Nat
  bx : Nat
  mb : Nat
  sv : Srs
  ov : Value
  ba : Nat
  cap : Nat
  bs : List Nat
  p : WI
  rj : Nat
  dr : Nat
  E : List Ent
  db : Nat
def Pl.kf (q : Pl) : List Nat := Jr.kf q.jb q.bx q.mb q.sv q.ov q.ba q.bs
def Pl.wf (q : Pl) : List Nat := wfoot q.p q.E
/-- All blocks of a daemon. -/
def df (X : Nat) (q : Pl) : List Nat := X :: q.db :: (q.kf ++ q.wf)
structure DA (w : World) (X : Nat) (D : Dn) (q : Pl) : Prop where
  head : Sits w X 72 #[.int .i64 (D.c 0), .int .i64 (D.c 1), .int .i64 (D.c 2), .int .i64 (D.c 3), .int .i64 (D.c 4), .int .i64 (D.c 5), .pointer (some ⟨q.jb, 0, none⟩), .int .i64 D.clock, .int .i64 D.num, .int .i64 (D.count : Int), .pointer (some ⟨q.p.P, 0, none⟩), .map (some q.db), .bool D.spent]
  jw : JW w q.jb q.bx q.mb D.J q.sv q.ov
  pd : PD w q.bx D.S q.ba q.cap q.bs
  wi : WiAt w q.p (limOf D.c) q.rj q.dr q.E
  win : winOf q.rj q.dr q.E = D.W
  due : Mapped w (some q.db) D.due
  rise : Rise D.due
  a1 : ∀ k ∈ q.kf, k ∉ q.wf
  aX : X ∉ q.kf ∧ X ∉ q.wf ∧ X ≠ q.db
  aD : q.db ∉ q.kf ∧ q.db ∉ q.wf
theorem mapped_lt {w : World} {b : Nat} {ms : List Ms} (h : Mapped w (some b) ms) : b < w.heap.size := by
  obtain ⟨n, h⟩ := h
  exact h.lt
theorem kf_lt {w : World} {jb bx mb : Nat} {J : Jn} {sv : Srs} {ov : Value} {S : Dk} {ba cap : Nat} {bs : List Nat} (h : JW w jb bx mb J sv ov) (hP : PD w bx S ba cap bs) : ∀ k ∈ Jr.kf jb bx mb sv ov ba bs, k < w.heap.size := by
  intro k hk
  rcases List.mem_cons.1 hk with e | e
  · exact e ▸ h.sm.own.lt
  · rcases List.mem_append.1 e with e | e
    · exact sblocks_lt h.sm e
    · obtain ⟨t, cs, hs⟩ := jf_cells h.ja hP e
      exact hs.lt
theorem DA.lt {w : World} {X : Nat} {D : Dn} {q : Pl} (h : DA w X D q) : ∀ k ∈ df X q, k < w.heap.size := by
  intro k hk
  rcases List.mem_cons.1 hk with e | e
  · exact e ▸ h.head.lt
  · rcases List.mem_cons.1 e with e | e
    · exact e ▸ mapped_lt h.due
    · rcases List.mem_append.1 e with e | e
      · exact kf_lt h.jw h.pd k e
      · exact h.wi.lt k e
theorem DA.off {F : List Nat} {w w' : World} {X : Nat} {D : Dn} {q : Pl} (h : DA w X D q) (ho : Off F w w') (hF : ∀ k ∈ df X q, k ∉ F) : DA w' X D q := by
  have hk : ∀ k ∈ q.kf, k ∉ F := fun k hk => hF k (List.mem_cons_of_mem _ (List.mem_cons_of_mem _ (List.mem_append_left _ hk)))
  have hw : ∀ k ∈ q.wf, k ∉ F := fun k hk => hF k (List.mem_cons_of_mem _ (List.mem_cons_of_mem _ (List.mem_append_right _ hk)))
  exact ⟨Foot.Sits.off h.head ho (hF X (List.mem_cons_self ..)), h.jw.off (ba := q.ba) (bs := q.bs) ho hk, pd_off h.pd ho fun k hm => hk k (kf_pd hm), h.wi.off ho hw, h.win,
    h.due.off ho (fun b e => by cases e; exact hF _ (List.mem_cons_of_mem _ (List.mem_cons_self ..))), h.rise, h.a1, h.aX, h.aD⟩
theorem DA.keep {w w' : World} {X : Nat} {D : Dn} {q : Pl} (h : DA w X D q) (hb : Below w.heap.size w w') : DA w' X D q :=
  h.off (F := []) (Off.of_below hb) (fun _ _ => by simp)
/-- What a call upon a daemon leaves. -/
structure Dq (w w' : World) (X : Nat) (D : Dn) (F : List Nat) (B : Nat) : Prop where
  ex : ∃ q, DA w' X D q ∧ q.bx = B ∧ ∀ b ∈ df X q, b ∈ F ∨ w.heap.size ≤ b
  off : Off F w w'
theorem Dq.of {w : World} {X : Nat} {D : Dn} {q : Pl} (h : DA w X D q) {w' : World} (hb : Below w.heap.size w w') : Dq w w' X D (df X q) q.bx :=
  ⟨⟨q, h.keep hb, rfl, fun _ hb => Or.inl hb⟩, Off.of_below hb⟩
theorem Dq.trans {w w1 w2 : World} {X B : Nat} {D : Dn} {F G : List Nat} (ho : Off F w w1) (hf : ∀ b ∈ G, b ∈ F ∨ w.heap.size ≤ b) (h : Dq w1 w2 X D G B) : Dq w w2 X D F B := by
  obtain ⟨q, h1, h0, h2⟩ := h.ex
  refine ⟨⟨q, h1, h0, fun b hb => ?_⟩, off_trans ho hf h.off⟩
  rcases h2 b hb with e | e
  · exact hf b e
  · exact Or.inr (Nat.le_trans ho.size e)
/-- A call upon its journal. -/
theorem DA.jour {w w' : World} {X : Nat} {D : Dn} {q : Pl} (h : DA w X D q) {J' : Jn} {S' : Dk} (hk : Kq w w' q.jb q.bx q.mb J' S' q.kf) :
    ∃ q' : Pl, DA w' X { D with J := J', S := S' } q' ∧ (∀ b ∈ df X q', b ∈ df X q ∨ w.heap.size ≤ b) ∧ Off (df X q) w w' ∧ q'.p = q.p ∧ q'.E = q.E ∧ q'.rj = q.rj ∧ q'.dr = q.dr ∧ q'.db = q.db ∧ q'.jb = q.jb ∧ q'.bx = q.bx ∧ q'.mb = q.mb := by
  obtain ⟨sv, ov, ba, cap, bs, h1, h2, h3⟩ := hk.ex
  have hwl := h.wi.lt
  have hkf : ∀ k ∈ Jr.kf q.jb q.bx q.mb sv ov ba bs, k ∈ q.kf ∨ w.heap.size ≤ k := h3
  refine ⟨{ q with sv := sv, ov := ov, ba := ba, cap := cap, bs := bs }, ⟨Foot.Sits.off h.head hk.off h.aX.1, h1, h2, h.wi.off hk.off (fun k hw hm => h.a1 k hm hw), h.win, h.due.off hk.off (fun b e => by cases e; exact h.aD.1), h.rise, fun k hk hw => ?_, ⟨fun hm => ?_, h.aX.2⟩, ⟨fun hm => ?_, h.aD.2⟩⟩, fun b hb => ?_, hk.off.mono fun k _ hk => List.mem_cons_of_mem _ (List.mem_cons_of_mem _ (List.mem_append_left _ hk)), rfl, rfl, rfl, rfl, rfl, rfl, rfl, rfl⟩
  · rcases hkf k hk with e | e
    · exact h.a1 k e hw
    · have := hwl k hw
      omega
  · rcases hkf X hm with e | e
    · exact h.aX.1 e
    · have := h.head.lt
      omega
  · rcases hkf q.db hm with e | e
    · exact h.aD.1 e
    · have := mapped_lt h.due
      omega
  · rcases List.mem_cons.1 hb with e | e
    · exact Or.inl (e ▸ List.mem_cons_self ..)
    · rcases List.mem_cons.1 e with e | e
      · exact Or.inl (e ▸ List.mem_cons_of_mem _ (List.mem_cons_self ..))
      · rcases List.mem_append.1 e with e | e
        · exact (hkf b e).imp (fun h => List.mem_cons_of_mem _ (List.mem_cons_of_mem _ (List.mem_append_left _ h))) id
        · exact Or.inl (List.mem_cons_of_mem _ (List.mem_cons_of_mem _ (List.mem_append_right _ e)))
/-- A call upon its window. -/
theorem DA.grew {w w' : World} {X : Nat} {D : Dn} {q : Pl} (h : DA w X D q) {W' : Win} (hg : Grew w w' q.p (limOf D.c) q.E W') :
    ∃ q' : Pl, DA w' X { D with W := W' } q' ∧ (∀ b ∈ df X q', b ∈ df X q ∨ w.heap.size ≤ b) ∧ Off (df X q) w w' ∧ q'.jb = q.jb ∧ q'.db = q.db ∧ q'.bx = q.bx := by
  obtain ⟨rj, dr, E, h1, h2, h3, h4⟩ := hg
  have hkl := kf_lt h.jw h.pd
  refine ⟨{ q with rj := rj, dr := dr, E := E }, ⟨Foot.Sits.off h.head h3 h.aX.2.1, h.jw.off (ba := q.ba) (bs := q.bs) h3 (fun k hk hw => h.a1 k hk hw), pd_off h.pd h3 (fun k hk hw => h.a1 k (kf_pd hk) hw), h1, h2, h.due.off h3 (fun b e => by cases e; exact h.aD.2), h.rise, fun k hk hw => ?_, ⟨h.aX.1, fun hm => ?_, h.aX.2.2⟩, ⟨h.aD.1, fun hm => ?_⟩⟩, fun b hb => ?_, h3.mono fun k _ hk => List.mem_cons_of_mem _ (List.mem_cons_of_mem _ (List.mem_append_right _ hk)), rfl, rfl, rfl⟩
  · rcases h4 k hw with e | e
    · exact h.a1 k hk e
    · have := hkl k hk
      omega
  · rcases h4 X hm with e | e
    · exact h.aX.2.1 e
    · have := h.head.lt
      omega
  · rcases h4 q.db hm with e | e
    · exact h.aD.2 e
    · have := mapped_lt h.due
      omega
  · rcases List.mem_cons.1 hb with e | e
    · exact Or.inl (e ▸ List.mem_cons_self ..)
    · rcases List.mem_cons.1 e with e | e
      · exact Or.inl (e ▸ List.mem_cons_of_mem _ (List.mem_cons_self ..))
      · rcases List.mem_append.1 e with e | e
        · exact Or.inl (List.mem_cons_of_mem _ (List.mem_cons_of_mem _ (List.mem_append_left _ e)))
        · exact (h4 b e).imp (fun h => List.mem_cons_of_mem _ (List.mem_cons_of_mem _ (List.mem_append_right _ h))) id
/-- Stores into the daemon's own cells. -/
theorem DA.put {w w' : World} {X : Nat} {D D' : Dn} {q : Pl} (h : DA w X D q) (ho : Off [X] w w') (hh : Sits w' X 72 #[.int .i64 (D'.c 0), .int .i64 (D'.c 1), .int .i64 (D'.c 2), .int .i64 (D'.c 3), .int .i64 (D'.c 4), .int .i64 (D'.c 5), .pointer (some ⟨q.jb, 0, none⟩), .int .i64 D'.clock, .int .i64 D'.num, .int .i64 (D'.count : Int), .pointer (some ⟨q.p.P, 0, none⟩), .map (some q.db), .bool D'.spent])
    (hJ : D'.J = D.J) (hS : D'.S = D.S) (hW : D'.W = D.W) (hd : D'.due = D.due) (hc : D'.c = D.c) : DA w' X D' q := by
  have hk : ∀ k ∈ q.kf, k ∉ [X] := fun k hk e => h.aX.1 (List.mem_singleton.1 e ▸ hk)
  have hw : ∀ k ∈ q.wf, k ∉ [X] := fun k hk e => h.aX.2.1 (List.mem_singleton.1 e ▸ hk)
  refine ⟨hh, ?_, ?_, ?_, ?_, ?_, ?_, h.a1, h.aX, h.aD⟩
  · rw [hJ]; exact h.jw.off (ba := q.ba) (bs := q.bs) ho hk
  · rw [hS]; exact pd_off h.pd ho fun k hm => hk k (kf_pd hm)
  · rw [hc]; exact h.wi.off ho hw
  · rw [hW]; exact h.win
  · rw [hd]; exact h.due.off ho (fun b e => by cases e; exact fun e => h.aX.2.2 (List.mem_singleton.1 e).symm)
  · rw [hd]; exact h.rise
end Go.Proofs.YtmkidefdegaamaaGreatDoor.Dd
namespace Go.Proofs.YtmkidefdegaamaaGreatDoor.Dd
open Go.RowKit Go.Maps Mem Foot Bytes Im Wm Hi Plainw Cq Dm Dh Jr Wi Sk Hn Kr
theorem segs0 (bx ba cap : Nat) (bs : List Nat) (S : Dk) (w : World) (hP : PD w bx S ba cap bs) (hl : S.left = -1) (hs : S.segs = []) :
    Calls Tryz.prog 41 #[.pointer (some ⟨bx, 0, none⟩)] w fun e w' => e = .returned (.tuple #[.slice none 0 0, .nilIface]) ∧ Below w.heap.size w w' := by
  have hlen := hP.len
  rw [hs] at hlen
  have hli := list bx ba cap bs S w hP (by simp at hlen; simp [hlen])
  have hd : doList S = ([], 0) := by unfold doList; rw [if_neg (by rw [hl]; decide), hs]; rfl
  rw [hd] at hli
  clear hP hl hs hlen hd
  go_enter Tryz.func41, Tryz.ntmps41
  go_wp2_with fail
  refine hli.mono ?_
  clear hli
  rintro e w1 ⟨v, rfl, hv, hb⟩
  obtain ⟨a, c, rfl⟩ := own_shapeJ hv
  have HB := hide hb
  clear hv hb
  simp only [List.length_nil]
  go_wp2_with fail
  go_loopw [6, 22] (fun r s wr => r = .slice none 0 0 ∧ s = .int .i64 0 ∧ wr = w1) (fun _ _ _ => 0)
  case atStart => exact ⟨rfl, rfl, rfl⟩
  case round =>
    obtain ⟨rfl, rfl, rfl⟩ := hrel
    go_wp2_with fail
    refine bodyPost_ret (results_tmp2 rfl _ _ _) rfl ?_
    exact ⟨rfl, HB.out⟩
theorem recF (a : Option Addr) (n c : Nat) (w : World) : Calls Tryz.prog 73 #[.slice a n c] w fun e w' => e = .returned (.func (.func 99) #[] #[.pointer (some ⟨w.heap.size, 0, none⟩)]) ∧ w' = w.alloc (.cells #[.slice a n c] 91) := by
  go_enter Tryz.func73, Tryz.ntmps73
  go_wp2_with fail
  go_ret
  exact ⟨rfl, rfl⟩
set_option maxRecDepth 10000 in
set_option maxHeartbeats 1000000 in
theorem rec0 (m : Nat) (Bx : Nat) (w : World) (hbox : Sits w Bx 91 #[.slice none 0 0]) :
    SeqStopsK Fence.wide m Tryz.prog 99 #[.pointer (some ⟨Bx, 0, none⟩)] (fun x : Empty => nomatch x) (fun _ _ => True) (fun xs => xs = []) (fun _ => False) 0 w := by
  intro lp J Jx W hb hJ hJx hY h0
  have HBX := hide (Mem.Sits.below hbox hb hbox.lt)
  have H0 := hide h0
  have c0 := HBX.out.cell 0 _ rfl
  clear hbox hY h0 hb hJ hJx
  refine callsIn_of_wp Tryz.func99 rfl trivial ?_ rfl
  simp only [Tryz.ntmps99, List.size_toArray, List.length_cons, List.length_nil, Nat.reduceAdd, Nat.reduceSub, Array.replicate_succ, Array.replicate_zero, List.push_toArray, List.append_toArray, List.nil_append, List.cons_append]
  gi_wp2_with fail
  gi_loopw [10] (fun s wr => s = .int .i64 0 ∧ wr = W) (fun _ _ => 0)
  case atStart => exact ⟨rfl, rfl⟩
  case round =>
    obtain ⟨rfl, rfl⟩ := hrel
    gi_wp2_with fail
    go_end0
    exact ⟨⟨_, rfl⟩, .inl ⟨[], rfl, H0.out⟩⟩
/-- A history's cells where nothing was found. -/
def hz (n : Int) : Array Value := #[.slice none 0 0, .int .i64 n, .slice none 0 0, .slice none 0 0, .int .i64 (-1), .int .i64 (-1), .int .i64 0]
def Ih (w : World) (hb cb : Nat) (pre : List Empty) (W : World) : Prop := pre = [] ∧ Sits W hb 101 (hz 0) ∧ Sits W cb 94 #[.pointer (some ⟨hb, 0, none⟩)] ∧ Below w.heap.size w W
theorem ih_own (w : World) (hb cb B : Nat) (hB : w.heap.size ≤ B) : OwnFrom B (Ih w hb cb) := by
  intro pre W W' row ⟨h1, h2, h3, h4⟩ hg hr
  have ho := row_off hg
  exact ⟨h1, Foot.Sits.off h2 ho (row_not hr h2), Foot.Sits.off h3 ho (row_not hr h3), h4.trans (ho.below (fun b hb => Nat.le_trans hB (hr b (by simpa using hb)).1) h4.size)⟩
attribute [local go_sem] Oper.semAt_some
set_option maxRecDepth 20000 in
set_option maxHeartbeats 2000000 in
theorem hist0 (w : World) :
    Calls Tryz.prog 42 #[.slice none 0 0] w fun e w' => ∃ hb, e = .returned (.pointer (some ⟨hb, 0, none⟩)) ∧ Sits w' hb 101 (hz 0) ∧ w.heap.size ≤ hb ∧ Below w.heap.size w w' := by
  refine (callsIn_wide (n := 12)).1 ?_
  refine callsIn_of_wp_marks Tryz.func42 rfl trivial ?_ rfl
  simp only [Tryz.ntmps42, List.size_toArray, List.length_cons, List.length_nil, Nat.reduceAdd, Nat.reduceSub, Array.replicate_succ, Array.replicate_zero, List.push_toArray, List.append_toArray, List.nil_append, List.cons_append]
  have hs1 := Sits.new w 101 (hz 0)
  have hb1 := below_new (w := w) (.cells (hz 0) 101)
  have hs2 := Sits.new (w.alloc (.cells (hz 0) 101)) 94 #[.pointer (some ⟨w.heap.size, 0, none⟩)]
  have hb2 := below_new (w := w.alloc (.cells (hz 0) 101)) (.cells #[.pointer (some ⟨w.heap.size, 0, none⟩)] 94)
  have HS1 := hide (Mem.Sits.below hs1 hb2 hs1.lt)
  rw [World.size_alloc] at hs2
  have HS2 := hide hs2
  have HB2 := hide (hb1.trans (hb2.mono hb1.size))
  have HZ := hide (show ((w.alloc (.cells (hz 0) 101)).alloc (.cells #[.pointer (some ⟨w.heap.size, 0, none⟩)] 94)).heap.size = w.heap.size + 2 by simp)
  clear hs1 hb1 hs2 hb2
  unfold hz at HS1 HS2 HB2 HZ
  gi_wp2_with fail
  obtain ⟨hb, hhb⟩ : ∃ hb, w.heap.size = hb := ⟨_, rfl⟩
  rw [hhb] at HS1 HS2 HB2 HZ ⊢
  have HHB := hide hhb
  clear hhb
  generalize (w.alloc (.cells #[.slice none 0 0, .int .i64 0, .slice none 0 0, .slice none 0 0, .int .i64 (-1), .int .i64 (-1), .int .i64 0] 101)).alloc (.cells #[.pointer (some ⟨hb, 0, none⟩)] 94) = w2 at *
  refine ⟨trivial, (callsIn_wide.2 (recF none 0 0 w2)).mono ?_⟩
  rintro e w3 ⟨rfl, rfl⟩
  have hbx := Sits.new w2 91 #[.slice none 0 0]
  have hb3 := below_new (w := w2) (.cells #[.slice none 0 0] 91)
  have HI3 := hide (show Ih w hb (hb + 1) [] (w2.alloc (.cells #[.slice none 0 0] 91)) from ⟨rfl, Mem.Sits.below HS1.out hb3 HS1.out.lt, Mem.Sits.below HS2.out hb3 HS2.out.lt, by rw [HHB.out]; exact HB2.out.trans (hb3.mono (by have := HZ.out; omega))⟩)
  have HBX := hide hbx
  have HSZ := hide (show hb ≤ (w2.alloc (.cells #[.slice none 0 0] 91)).heap.size by simp; have := HZ.out; omega)
  clear hbx hb3
  gi_wp2_with fail
  generalize w2.alloc (.cells #[.slice none 0 0] 91) = w3 at *
  apply wpIn_rangeFunc_ownF (F := Fence.wide) (n := 12) rfl (by decide) (gf := 99) (lb := #[.pointer (some ⟨w2.heap.size, 0, none⟩)]) rfl trivial (enters_of Tryz.func99 (by kernel_rfl) rfl)
    (rec0 11 w2.heap.size w3 HBX.out) (fun _ _ => trivial) (fun _ _ _ _ _ _ _ _ => trivial) (Below.refl _ _) (fun x => nomatch x) (Ih w hb (hb + 1)) (fun _ _ _ => False)
    (ih_own w hb (hb + 1) _ (by rw [HHB.out]; exact HSZ.out)) (fun _ _ _ _ _ h _ _ => h) HI3.out (fun x => nomatch x)
  case hassign => intro lp x; exact nomatch x
  case hbody => intro lp pre x; exact nomatch x
  case hstop => intro D c pre W hD hSp; exact hSp.elim
  case hdone =>
    intro D xs W hD hS hI hK
    obtain ⟨_, h1, h2, h3⟩ := hI
    have HI1 := hide h1
    have HI2 := hide h2
    have HI4 := hide h3
    have HKD := hide hK
    have hc := h2.cell 0 _ rfl
    unfold hz at h1
    have hd := h1.cell 2 _ rfl
    clear h1 h2 h3 hK hS
    gi_wp2_with fail
    rename_i hKc
    have HKK := hide hKc
    have C0 : ∀ s : Bw W, s.val.cell? ⟨hb + 1, 0, none⟩ = some (.pointer (some ⟨hb, 0, none⟩)) := fun s => (Mem.Sits.below HI2.out s.is HI2.out.lt).cell 0 _ rfl
    have C4 : ∀ s : Bw W, s.val.cell? ⟨hb, 4, none⟩ = some (.int .i64 (-1)) := fun s => (Mem.Sits.below HI1.out s.is HI1.out.lt).cell 4 _ rfl
    clear hKc hc hd
    refine wpIn_wide.2 (region_pre 10 (by kernel_rfl) (by kernel_rfl) ?_)
    simp only [List.take_succ_cons, List.take_zero, List.drop_succ_cons, List.drop_zero]
    repeat (first
      | go_big_quiet_skip
      | (go_big_quiet_want; go_big_quiet_op; go_big_quiet_on))
    refine wpQuiet_nil ?_
    intro s
    have HB5 := hide s.is
    have HJ1 := hide (Mem.Sits.below HI1.out s.is HI1.out.lt)
    have HJ2 := hide (Mem.Sits.below HI2.out s.is HI2.out.lt)
    have HJD := hide (show s.val.heap[D]? = some (.deferred (some [])) from (s.is.block D (Array.getElem?_eq_some_iff.1 HKD.out).1).trans HKD.out)
    clear C0 C4
    generalize s.val = W2 at *
    have d1 := HJ1.out.cell 1 _ rfl
    have f1 := HJ1.out.frozen 1
    go_wp2_with fail
    refine HKK.out _ _ ?_
    have hso : Off [hb] W2 (W2.setCell ⟨hb, 1, none⟩ (.int .i64 0)) := (Off.refl _ _).set (List.mem_singleton.2 rfl) _ _
    have h1s := HJ1.out.set 1 (.int .i64 0)
    have h2s := Foot.Sits.off HJ2.out hso (by simp)
    have hDb : D ∉ [hb] := fun e => by
      have h1 := HJ1.out
      unfold Sits at h1
      rw [← List.mem_singleton.1 e, HJD.out] at h1
      cases h1
    have hD3 := (hso.block D (Array.getElem?_eq_some_iff.1 HJD.out).1 hDb).trans HJD.out
    have HB6 := hide (HI4.out.trans ((HB5.out.mono HI4.out.size).trans (hso.below (fun b hm => by rw [List.mem_singleton.1 hm, HHB.out]; exact Nat.le_refl _) (Nat.le_trans HI4.out.size HB5.out.size))))
    have HT1 := hide h1s
    have HD3 := hide hD3
    have cc := h2s.cell 0 _ rfl
    clear hso h1s h2s hDb hD3 d1 f1
    generalize W2.setCell ⟨hb, 1, none⟩ (.int .i64 0) = W3 at *
    gi_wp2_with fail
    have hsd : Off [D] W3 (W3.putObj D (.deferred none)) := row_off (grownBy_putObj' W3 D _)
    refine ⟨by simp, .inl ⟨_, _, rfl, run_takeDeferred HD3.out, ?_⟩⟩
    refine ⟨_, results_tmp rfl _ _ _, hb, rfl, Foot.Sits.off HT1.out hsd ?_, by rw [HHB.out]; exact Nat.le_refl _, HB6.out.trans (hsd.below (fun b hm => by rw [List.mem_singleton.1 hm]; have := HSZ.out; have := HHB.out; omega) HB6.out.size)⟩
    intro e
    have h1 := HT1.out
    unfold Sits at h1
    rw [List.mem_singleton.1 e, HD3.out] at h1
    cases h1
end Go.Proofs.YtmkidefdegaamaaGreatDoor.Dd
namespace Go.Proofs.YtmkidefdegaamaaGreatDoor.Jr
open Bytes Im Dm
/-- A journal on a disk that does not fail. -/
structure Jcalm (J : Jn) (S : Dk) : Prop where
  left : S.left = -1
  room : S.room = -1
  good : Dm.Good S
  perm : (S.segs.map (·.num)).Perm (J.sealed.flatMap (·.2) ++ J.opn)
  below : ∀ n ∈ S.segs.map (·.num), n < J.next
  next0 : 0 ≤ J.next
  last : J.opn ≠ [] → ∃ s ∈ S.segs, s.num = jlast J ∧ s.text.size = J.synced + J.uns.size
theorem op_calm {S : Dk} (h : S.left = -1) : Dm.op S = S := by
  cases S
  simp only at h
  subst h
  rfl
theorem place_mem {l : List Seg} (hr : l.Pairwise fun a b => a.num < b.num) {s : Seg} (hs : s ∈ l) : ∃ i, place s.num l = some i ∧ l[i]? = some s := by
  obtain ⟨i, hi⟩ := List.getElem?_of_mem hs
  refine ⟨i, place_at (fun j t hj ht e => ?_) hi rfl, hi⟩
  have := rise_once hr ht hi e
  omega
theorem read_calm {S : Dk} (hl : S.left = -1) (hg : Dm.Good S) {s : Seg} (hs : s ∈ S.segs) : doRead S s.num = (s.text, 0) := by
  obtain ⟨i, h1, h2⟩ := place_mem hg.rise hs
  unfold doRead
  rw [if_neg (by rw [hl]; decide), h1]
  simp [h2]
theorem append_calm {S : Dk} (hl : S.left = -1) (hr : S.room = -1) {n : Int} (hn : 0 ≤ n) (t : ByteArray) : doAppend S n t = ({ S with segs := turn n (fun s => { s with text := s.text ++ t }) (ensure n S.segs) }, 0) := by
  unfold doAppend
  rw [if_neg (by rw [hl]; decide), if_neg (by omega), if_neg (by rw [hr]; simp), op_calm hl]
theorem dsync_calm {S : Dk} (hl : S.left = -1) (hg : Dm.Good S) {s : Seg} (hs : s ∈ S.segs) : doSync S s.num = ({ S with segs := turn s.num (fun s => { s with syn := s.text.size }) S.segs }, 0) := by
  obtain ⟨i, h1, h2⟩ := place_mem hg.rise hs
  unfold doSync
  rw [if_neg (by rw [hl]; decide), h1, op_calm hl]
theorem ddel_calm {S : Dk} (hl : S.left = -1) (hg : Dm.Good S) {s : Seg} (hs : s ∈ S.segs) : ∃ i, S.segs[i]? = some s ∧ doDelete S s.num = ({ S with segs := S.segs.eraseIdx i }, 0) := by
  obtain ⟨i, h1, h2⟩ := place_mem hg.rise hs
  refine ⟨i, h2, ?_⟩
  unfold doDelete
  rw [if_neg (by rw [hl]; decide), h1, op_calm hl]
theorem turn_nums (n : Int) {f : Seg → Seg} (hf : ∀ s, (f s).num = s.num) (l : List Seg) : (turn n f l).map (·.num) = l.map (·.num) := by
  unfold turn
  rw [List.map_map]
  apply List.map_congr_left
  intro s _
  show (if s.num = n then f s else s).num = s.num
  split
  · exact hf s
  · rfl
theorem turn_numsT (n : Int) (t : ByteArray) (l : List Seg) : (turn n (fun s => { s with text := s.text ++ t }) l).map (·.num) = l.map (·.num) := turn_nums n (f := fun s => { s with text := s.text ++ t }) (fun _ => rfl) l
theorem turn_numsS (n : Int) (l : List Seg) : (turn n (fun s => { s with syn := s.text.size }) l).map (·.num) = l.map (·.num) := turn_nums n (f := fun s => { s with syn := s.text.size }) (fun _ => rfl) l
theorem used_set : ∀ {l : List Seg} {i : Nat} {s : Seg} (s' : Seg), l[i]? = some s → used (l.set i s') + s.text.size = used l + s'.text.size := by
  intro l
  induction l with
  | nil => intro i s s' h; simp at h
  | cons x l ih =>
    intro i s s' h
    cases i with
    | zero =>
      simp at h
      subst h
      rw [List.set_cons_zero, used_cons, used_cons]
      omega
    | succ i =>
      rw [List.getElem?_cons_succ] at h
      have := ih s' h
      rw [List.set_cons_succ, used_cons, used_cons]
      omega
theorem used_more {l : List Seg} (hr : l.Pairwise fun a b => a.num < b.num) {s : Seg} (hs : s ∈ l) (t : ByteArray) : used (turn s.num (fun s => { s with text := s.text ++ t }) l) = used l + t.size := by
  obtain ⟨i, hi⟩ := List.getElem?_of_mem hs
  rw [turn_set hr hi rfl]
  have := used_set (l := l) { s with text := s.text ++ t } hi
  have h2 : (s.text ++ t).size = s.text.size + t.size := ByteArray.size_append
  simp only [h2] at this
  omega
theorem used_same (n : Int) {f : Seg → Seg} (hf : ∀ s, (f s).text = s.text) (l : List Seg) : used (turn n f l) = used l := by
  unfold used turn
  rw [List.map_map]
  congr 1
  apply List.map_congr_left
  intro s _
  show (if s.num = n then f s else s).text.size = s.text.size
  split
  · rw [hf s]
  · rfl
theorem turn_in {n : Int} {f : Seg → Seg} {l : List Seg} {s : Seg} (hs : s ∈ l) (hn : s.num = n) : f s ∈ turn n f l :=
  List.mem_map.2 ⟨s, hs, by rw [if_pos hn]⟩
theorem ensure_perm {n : Int} : ∀ {l : List Seg}, (∀ s ∈ l, s.num ≠ n) → (ensure n l).Perm (⟨n, ⟨#[]⟩, 0⟩ :: l) := by
  intro l
  induction l with
  | nil => intro _; exact List.Perm.refl _
  | cons s l ih =>
    intro h
    rw [ensure, if_neg (h s (List.mem_cons_self ..))]
    split
    · exact List.Perm.refl _
    · exact ((ih fun x hx => h x (List.mem_cons_of_mem _ hx)).cons s).trans (List.Perm.swap ..)
theorem ensure_calm {l : List Seg} (hr : l.Pairwise fun a b => a.num < b.num) {s : Seg} (hs : s ∈ l) : ensure s.num l = l := by
  obtain ⟨i, hi⟩ := List.getElem?_of_mem hs
  exact ensure_there hr hi rfl
theorem fit_of {S : Dk} (h : Dm.Good S) : Fit S S.segs.length (used S.segs) := ⟨h, Nat.le_refl _, Nat.le_refl _⟩
theorem jlast_mem {J : Jn} (h : J.opn ≠ []) : jlast J ∈ J.opn := by
  unfold jlast
  rw [List.getLast?_eq_some_getLast h]
  exact List.getLast_mem h
theorem jlast_snoc {J : Jn} {l : List Int} {x : Int} (h : J.opn = l ++ [x]) : jlast J = x := by
  unfold jlast
  rw [h]
  simp
theorem Jcalm.sum_le {J : Jn} {S : Dk} (h : Jcalm J S) (hne : J.opn ≠ []) : J.synced + J.uns.size ≤ used S.segs := by
  obtain ⟨s, hs, _, h2⟩ := h.last hne
  rw [← h2]
  exact used_mem hs
theorem Jcalm.num {J : Jn} {S : Dk} (h : Jcalm J S) {x : Int} (hx : x ∈ J.sealed.flatMap (·.2) ++ J.opn) : 0 ≤ x ∧ x ≤ 9223372036854775807 := by
  obtain ⟨s, hs, e⟩ := List.mem_map.1 (h.perm.mem_iff.2 hx)
  rw [← e]
  exact h.good.num s hs
theorem Jcalm.lasts {J : Jn} {S : Dk} (h : Jcalm J S) : 0 ≤ jlast J ∧ jlast J ≤ 9223372036854775807 := by
  by_cases hne : J.opn = []
  · unfold jlast
    rw [hne]
    simp
  · exact h.num (List.mem_append_right _ (jlast_mem hne))
theorem Jcalm.len {J : Jn} {S : Dk} (h : Jcalm J S) : J.opn.length ≤ S.segs.length := by
  have := h.perm.length_eq
  rw [List.length_map, List.length_append] at this
  omega
theorem Jcalm.rows {J : Jn} {S : Dk} (h : Jcalm J S) : ∀ p ∈ J.sealed, p.2.length ≤ S.segs.length ∧ ∀ x ∈ p.2, 0 ≤ x ∧ x ≤ 9223372036854775807 := by
  intro p hp
  refine ⟨?_, fun x hx => h.num (List.mem_append_left _ (List.mem_flatMap.2 ⟨p, hp, hx⟩))⟩
  have h1 := h.perm.length_eq
  rw [List.length_map, List.length_append] at h1
  have h2 : p.2.length ≤ (J.sealed.flatMap (·.2)).length := by
    obtain ⟨a, b, e⟩ := List.append_of_mem hp
    rw [e, List.flatMap_append, List.flatMap_cons]
    simp only [List.length_append]
    omega
  omega
theorem Jcalm.mend {J : Jn} {S : Dk} (h : Jcalm J S) (hne : J.opn ≠ []) : jmend J S = (S, 0) := by
  obtain ⟨s, hs, h1, h2⟩ := h.last hne
  have hr := read_calm h.left h.good hs
  rw [h1] at hr
  unfold jmend
  rw [hr, if_neg (by simp), if_pos]
  unfold jleft
  rw [hr]
  show min (s.text.size - J.synced) J.uns.size = J.uns.size
  omega
theorem Jcalm.add {J : Jn} {S : Dk} (h : Jcalm J S) (hne : J.opn ≠ []) (t : ByteArray) :
    ∃ S', jadd J S t = ({ J with uns := J.uns ++ t }, S', 0) ∧ Jcalm { J with uns := J.uns ++ t } S' ∧ used S'.segs = used S.segs + t.size ∧ S'.segs.length = S.segs.length := by
  obtain ⟨s, hs, h1, h2⟩ := h.last hne
  have hn0 : 0 ≤ jlast J := by rw [← h1]; exact (h.good.num s hs).1
  have hn1 : jlast J ≤ 9223372036854775807 := by rw [← h1]; exact (h.good.num s hs).2
  have ha := append_calm h.left h.room hn0 t
  have hgd := (fit_append (fit_of h.good) (jlast J) t hn1).good
  rw [ha] at hgd
  rw [← h1, ensure_calm h.good.rise hs, h1] at ha hgd
  refine ⟨{ S with segs := turn (jlast J) (fun s => { s with text := s.text ++ t }) S.segs }, ?_, ⟨h.left, h.room, hgd, ?_, ?_, h.next0, fun _ => ?_⟩, ?_, turn_length ..⟩
  · unfold jadd
    rw [h.mend hne, if_neg (by simp), ha, if_neg (by simp)]
  · show ((turn (jlast J) _ S.segs).map (·.num)).Perm _
    rw [turn_numsT]
    exact h.perm
  · show ∀ n ∈ (turn (jlast J) _ S.segs).map (·.num), n < J.next
    rw [turn_numsT]
    exact h.below
  · refine ⟨_, turn_in hs h1, h1, ?_⟩
    show (s.text ++ t).size = J.synced + (J.uns ++ t).size
    rw [ByteArray.size_append, ByteArray.size_append, h2]
    omega
  · show used (turn (jlast J) _ S.segs) = _
    rw [← h1]
    exact used_more h.good.rise hs t
theorem Jcalm.sync {J : Jn} {S : Dk} (h : Jcalm J S) :
    ∃ J' S', jsync J S = (J', S', 0) ∧ Jcalm J' S' ∧ used S'.segs = used S.segs ∧ J'.opn = J.opn ∧ J'.sealed = J.sealed ∧ J'.next = J.next ∧ J'.greatest = J.greatest ∧ J'.most = J.most ∧ J'.synced + J'.uns.size = J.synced + J.uns.size ∧ J'.uns.size ≤ J.uns.size ∧ S'.segs.length = S.segs.length := by
  by_cases hne : J.opn = []
  · refine ⟨J, S, ?_, h, rfl, rfl, rfl, rfl, rfl, rfl, rfl, Nat.le_refl _, rfl⟩
    unfold jsync
    rw [if_pos hne]
  · obtain ⟨s, hs, h1, h2⟩ := h.last hne
    have ha := dsync_calm h.left h.good hs
    have hgd := (fit_sync (fit_of h.good) s.num).good
    rw [ha] at hgd
    rw [h1] at ha hgd
    refine ⟨{ J with synced := J.synced + J.uns.size, uns := ⟨#[]⟩ }, { S with segs := turn (jlast J) (fun s => { s with syn := s.text.size }) S.segs }, ?_, ⟨h.left, h.room, hgd, ?_, ?_, h.next0, fun _ => ?_⟩, ?_, rfl, rfl, rfl, rfl, rfl, ?_, Nat.zero_le _, ?_⟩
    · unfold jsync
      rw [if_neg hne, h.mend hne, if_neg (by simp), ha, if_neg (by simp)]
    · show ((turn (jlast J) _ S.segs).map (·.num)).Perm _
      rw [turn_numsS]
      exact h.perm
    · show ∀ n ∈ (turn (jlast J) _ S.segs).map (·.num), n < J.next
      rw [turn_numsS]
      exact h.below
    · exact ⟨_, turn_in hs h1, h1, h2⟩
    · exact used_same _ (f := fun s => { s with syn := s.text.size }) (fun _ => rfl) _
    · rfl
    · exact turn_length ..
theorem Jcalm.begin {J : Jn} {S : Dk} (h : Jcalm J S) (hx : J.next ≤ 9223372036854775807) (t : ByteArray) :
    ∃ S', jbegin J S t = ({ J with opn := J.opn ++ [J.next], next := J.next + 1, synced := 0, uns := t }, S', 0) ∧ Jcalm { J with opn := J.opn ++ [J.next], next := J.next + 1, synced := 0, uns := t } S' ∧ used S'.segs = used S.segs + t.size ∧ S'.segs.length = S.segs.length + 1 := by
  have ha := append_calm h.left h.room h.next0 t
  have hgd := (fit_append (fit_of h.good) J.next t hx).good
  rw [ha] at hgd
  have hno : ∀ s ∈ S.segs, s.num ≠ J.next := fun s hs e => by
    have := h.below s.num (List.mem_map.2 ⟨s, hs, rfl⟩)
    omega
  have hp := ensure_perm hno
  have hin : (⟨J.next, ⟨#[]⟩, 0⟩ : Seg) ∈ ensure J.next S.segs := hp.mem_iff.2 (List.mem_cons_self ..)
  have hnm : (turn J.next (fun s => { s with text := s.text ++ t }) (ensure J.next S.segs)).map (·.num) = (ensure J.next S.segs).map (·.num) := turn_numsT ..
  have hp2 : ((ensure J.next S.segs).map (·.num)).Perm (J.next :: S.segs.map (·.num)) := hp.map _
  refine ⟨{ S with segs := turn J.next (fun s => { s with text := s.text ++ t }) (ensure J.next S.segs) }, ?_, ⟨h.left, h.room, hgd, ?_, ?_, ?_, fun _ => ?_⟩, ?_, ?_⟩
  · unfold jbegin
    rw [ha, if_neg (by simp)]
  · show ((turn J.next _ (ensure J.next S.segs)).map (·.num)).Perm (J.sealed.flatMap (·.2) ++ (J.opn ++ [J.next]))
    rw [hnm]
    refine hp2.trans ((h.perm.cons _).trans ?_)
    rw [← List.append_assoc]
    exact (List.perm_append_singleton _ _).symm
  · show ∀ n ∈ (turn J.next _ (ensure J.next S.segs)).map (·.num), n < J.next + 1
    rw [hnm]
    intro n hn
    rcases List.mem_cons.1 (hp2.mem_iff.1 hn) with e | e
    · omega
    · have := h.below n e
      omega
  · have := h.next0
    show 0 ≤ J.next + 1
    omega
  · refine ⟨_, turn_in hin rfl, (jlast_snoc rfl).symm, ?_⟩
    show ((⟨#[]⟩ : ByteArray) ++ t).size = 0 + t.size
    rw [ByteArray.size_append]
    rfl
  · show used (turn J.next _ (ensure J.next S.segs)) = _
    have := used_more (ensure_rise h.good.rise) hin t
    rw [used_ensure] at this
    exact this
  · show (turn J.next _ (ensure J.next S.segs)).length = _
    rw [turn_length, hp.length_eq]
    rfl
theorem jdels_calm : ∀ {l : List Int} {S : Dk} {rest : List Int}, S.left = -1 → Dm.Good S → (S.segs.map (·.num)).Perm (l ++ rest) →
    (jdels S l).2 = 0 ∧ (jdels S l).1.left = -1 ∧ (jdels S l).1.room = S.room ∧ Dm.Good (jdels S l).1 ∧ ((jdels S l).1.segs.map (·.num)).Perm rest ∧ used (jdels S l).1.segs ≤ used S.segs ∧ (∀ s ∈ S.segs, s.num ∈ rest → s ∈ (jdels S l).1.segs) ∧ (jdels S l).1.segs.length ≤ S.segs.length := by
  intro l
  induction l with
  | nil => intro S rest hl hg hp; exact ⟨rfl, hl, rfl, hg, hp, Nat.le_refl _, fun s hs _ => hs, Nat.le_refl _⟩
  | cons n l ih =>
    intro S rest hl hg hp
    have hnd : (S.segs.map (·.num)).Nodup := by
      rw [List.nodup_iff_pairwise_ne, List.pairwise_map]
      exact hg.rise.imp fun {a b} hab e => by omega
    have hnd2 := hp.nodup_iff.1 hnd
    obtain ⟨s, hs, hsn⟩ := List.mem_map.1 (hp.mem_iff.2 (List.mem_append_left _ (List.mem_cons_self (a := n) (l := l))))
    obtain ⟨i, hi, hd⟩ := ddel_calm hl hg hs
    have hgd := (fit_delete (fit_of hg) s.num).good
    rw [hd] at hgd
    simp only [hsn] at hd hgd
    have hil := (List.getElem?_eq_some_iff.1 hi).1
    have hpe : S.segs.Perm (s :: S.segs.eraseIdx i) := by
      have e := (List.getElem?_eq_some_iff.1 hi).2
      have e0 : S.segs = S.segs.take i ++ s :: S.segs.drop (i + 1) := by rw [← e, ← List.drop_eq_getElem_cons hil, List.take_append_drop]
      rw [erase_at]
      exact (List.Perm.of_eq e0).trans List.perm_middle
    have hpn : ((S.segs.eraseIdx i).map (·.num)).Perm (l ++ rest) := by
      have h1 : (S.segs.map (·.num)).Perm (n :: (S.segs.eraseIdx i).map (·.num)) := by
        have := hpe.map (·.num)
        rw [List.map_cons, hsn] at this
        exact this
      exact List.Perm.cons_inv (h1.symm.trans hp)
    have e : jdels S (n :: l) = jdels { S with segs := S.segs.eraseIdx i } l := by
      show (if (doDelete S n).2 ≠ 0 then doDelete S n else jdels (doDelete S n).1 l) = _
      rw [hd, if_neg (by simp)]
    obtain ⟨h1, h2, h3, h4, h5, h6, h7, h8⟩ := ih (S := { S with segs := S.segs.eraseIdx i }) hl hgd hpn
    rw [e]
    refine ⟨h1, h2, h3, h4, h5, Nat.le_trans h6 (used_erase ..), fun x hx hxr => h7 x ?_ hxr, Nat.le_trans h8 (by rw [List.length_eraseIdx]; split <;> omega)⟩
    rcases List.mem_cons.1 (hpe.mem_iff.1 hx) with e2 | e2
    · subst e2
      have h9 := (List.nodup_cons.1 hnd2).1
      rw [hsn] at hxr
      exact absurd (List.mem_append_right _ hxr) h9
    · exact e2
theorem perm_get {k : Int} {b : List Int} : ∀ {l : List (Int × List Int)}, (l.map (·.1)).Nodup → getE k l = some b → l.Perm ((k, b) :: del k l) := by
  intro l
  induction l with
  | nil => intro _ h; simp [getE] at h
  | cons p l ih =>
    intro hn h
    rw [List.map_cons, List.nodup_cons] at hn
    by_cases hk : p.1 = k
    · have h1 : p.2 = b := by simpa [getE, hk] using h
      have h2 : has k l = false := (has_false k l).2 (hk ▸ hn.1)
      have h3 : del k (p :: l) = l := by
        have := del_of_not k l h2
        unfold del at this ⊢
        rw [List.filter_cons_of_neg (by simp [hk])]
        exact this
      rw [h3, ← h1, ← hk]
    · have h1 : getE k l = some b := by simpa [getE, hk] using h
      have h3 : del k (p :: l) = p :: del k l := by
        unfold del
        rw [List.filter_cons_of_pos (by simp [hk])]
      rw [h3]
      exact ((ih hn.2 h1).cons p).trans (List.Perm.swap ..)
theorem Jcalm.fin {J : Jn} {S : Dk} (h : Jcalm J S) (hn : (J.sealed.map (·.1)).Nodup) {win : Int} {r : List Int} (hw : getE win J.sealed = some r) :
    ∃ S', jfin J S win = ({ J with sealed := del win J.sealed }, S', 0) ∧ Jcalm { J with sealed := del win J.sealed } S' ∧ used S'.segs ≤ used S.segs ∧ S'.segs.length ≤ S.segs.length := by
  have hp := perm_get hn hw
  have hp2 : (S.segs.map (·.num)).Perm (r.reverse ++ ((del win J.sealed).flatMap (·.2) ++ J.opn)) := by
    refine h.perm.trans ?_
    rw [← List.append_assoc]
    refine List.Perm.append_right _ ((hp.flatMap_right _).trans ?_)
    rw [List.flatMap_cons]
    exact List.Perm.append_right _ (List.reverse_perm _).symm
  obtain ⟨h1, h2, h3, h4, h5, h6, h7, h8⟩ := jdels_calm h.left h.good hp2
  refine ⟨(jdels S r.reverse).1, ?_, ⟨h2, h3.trans h.room, h4, h5, fun n hm => h.below n (hp2.mem_iff.2 (List.mem_append_right _ (h5.mem_iff.1 hm))), h.next0, fun hne => ?_⟩, h6, h8⟩
  · unfold jfin
    rw [hw]
    show (if (jdels S r.reverse).2 ≠ 0 then _ else _) = _
    rw [if_neg (by simpa using h1)]
    rfl
  · obtain ⟨s, hs, e1, e2⟩ := h.last hne
    exact ⟨s, h7 s hs (List.mem_append_right _ (e1 ▸ jlast_mem hne)), e1, e2⟩
theorem bytes_size (l : List UInt8) : (bytesOf l).size = l.length := by
  show l.toArray.size = _
  rw [List.size_toArray]
theorem Jcalm.write {J : Jn} {S : Dk} (h : Jcalm J S) (hx : J.next ≤ 9223372036854775807) (win : Int) (t : ByteArray) :
    ∃ J' S', jwrite J S win t = (J', S', 0) ∧ Jcalm J' S' ∧ used S'.segs ≤ used S.segs + (jhead J).length + (wrec [100] win (B t)).length ∧ J'.sealed = J.sealed ∧ J'.opn ≠ [] ∧ J'.greatest = J.greatest ∧ J'.most = J.most ∧ J'.next ≤ J.next + 1 ∧ J.next ≤ J'.next ∧ S'.segs.length ≤ S.segs.length + 1 := by
  unfold jwrite
  by_cases hne : J.opn = []
  · obtain ⟨S', h1, h2, h3, h4⟩ := h.begin hx (bytesOf (jhead J) ++ bytesOf (wrec [100] win (B t)))
    rw [if_pos hne, h1]
    rw [ByteArray.size_append, bytes_size, bytes_size] at h3
    exact ⟨_, _, rfl, h2, by omega, rfl, by simp, rfl, rfl, Int.le_refl _, by show J.next ≤ J.next + 1; omega, by omega⟩
  · rw [if_neg hne]
    split
    · obtain ⟨S', h1, h2, h3, h4⟩ := h.add hne (bytesOf (wrec [100] win (B t)))
      rw [h1]
      rw [bytes_size] at h3
      exact ⟨_, _, rfl, h2, by omega, rfl, hne, rfl, rfl, by show J.next ≤ J.next + 1; omega, Int.le_refl _, by omega⟩
    · obtain ⟨J1, S1, h1, h2, h3, h4, h5, h6, h7, h8, h9, h10, h11⟩ := h.sync
      obtain ⟨S', k1, k2, k3, k4⟩ := h2.begin (by rw [h6]; exact hx) (bytesOf (wrec [100] win (B t)))
      rw [h1, if_neg (by simp), k1]
      rw [bytes_size] at k3
      exact ⟨_, _, rfl, k2, by omega, h5, by simp, h7, h8, by show J1.next + 1 ≤ _; omega, by show _ ≤ J1.next + 1; omega, by omega⟩
theorem Jcalm.seal {J : Jn} {S : Dk} (h : Jcalm J S) (hne : J.opn ≠ []) {win : Int} (hw : win ∉ J.sealed.map (·.1)) :
    ∃ J' S', jseal J S win = (J', S', 0) ∧ Jcalm J' S' ∧ used S'.segs = used S.segs + (wrec [115] win []).length ∧ J'.sealed = put iLt win J.opn J.sealed ∧ J'.opn = [] ∧ J'.greatest = win ∧ J'.most = J.most ∧ J'.next = J.next ∧ S'.segs.length = S.segs.length ∧ J'.synced + J'.uns.size ≤ used S'.segs := by
  obtain ⟨S1, h1, h2, h3, h4⟩ := h.add hne (bytesOf (wrec [115] win []))
  obtain ⟨J2, S2, k1, k2, k3, k4, k5, k6, k7, k8, k9, k10, k11⟩ := h2.sync
  rw [bytes_size] at h3
  unfold jseal
  rw [h1, if_neg (by simp), k1, if_neg (by simp)]
  refine ⟨_, _, rfl, ⟨k2.left, k2.room, k2.good, ?_, k2.below, k2.next0, fun he => absurd rfl he⟩, by show used S2.segs = _; omega, rfl, rfl, rfl, k8, k6, by show S2.segs.length = _; omega, k2.sum_le (by rw [k4]; exact hne)⟩
  show (S2.segs.map (·.num)).Perm ((put iLt win J.opn J.sealed).flatMap (·.2) ++ [])
  rw [List.append_nil]
  refine k2.perm.trans ?_
  rw [k4, k5]
  show (J.sealed.flatMap (·.2) ++ J.opn).Perm _
  unfold put
  rw [del_of_not _ _ ((has_false win J.sealed).2 hw)]
  refine List.perm_append_comm.trans ?_
  have := ((ins_perm (lt := iLt) (win, J.opn) J.sealed).flatMap_right (·.2)).symm
  rw [List.flatMap_cons] at this
  exact this
theorem Jcalm.keep {J : Jn} {S : Dk} (h : Jcalm J S) (hx : J.next ≤ 9223372036854775807) :
    ∃ J' S', jkeep J S = (J', S', 0) ∧ Jcalm J' S' ∧ used S'.segs ≤ used S.segs + (jhead J).length ∧ J'.sealed = J.sealed ∧ J'.greatest = J.greatest ∧ J'.most = J.most ∧ J'.next ≤ J.next + 1 ∧ J.next ≤ J'.next ∧ S'.segs.length ≤ S.segs.length + 1 ∧
      ((J'.opn = J.opn ∧ J'.synced + J'.uns.size = J.synced + J.uns.size) ∨ (J.opn = [] ∧ J'.opn = [J.next] ∧ J'.synced + J'.uns.size = (jhead J).length)) := by
  unfold jkeep
  by_cases hne : J.opn = []
  · obtain ⟨S1, h1, h2, h3, h4⟩ := h.begin hx (bytesOf (jhead J))
    obtain ⟨J2, S2, k1, k2, k3, k4, k5, k6, k7, k8, k9, k10, k11⟩ := h2.sync
    rw [bytes_size] at h3
    rw [if_pos hne, h1, if_neg (by simp), k1]
    refine ⟨_, _, rfl, k2, by omega, k5, k7, k8, by rw [k6]; exact Int.le_refl _, by rw [k6]; show J.next ≤ J.next + 1; omega, by omega, Or.inr ⟨hne, by rw [k4, hne]; rfl, ?_⟩⟩
    rw [k9]
    show 0 + (bytesOf (jhead J)).size = _
    rw [bytes_size]
    omega
  · obtain ⟨J2, S2, k1, k2, k3, k4, k5, k6, k7, k8, k9, k10, k11⟩ := h.sync
    rw [if_neg hne, k1]
    exact ⟨_, _, rfl, k2, by omega, k5, k7, k8, by omega, by omega, by omega, Or.inl ⟨k4, k9⟩⟩
theorem Jcalm.forget {J : Jn} {S : Dk} (h : Jcalm J S) (hx : J.next ≤ 9223372036854775807) (hn : (J.sealed.map (·.1)).Nodup) {win : Int} {r : List Int} (hw : getE win J.sealed = some r) :
    ∃ J' S', jforget J S win = (J', S', 0) ∧ Jcalm J' S' ∧ used S'.segs ≤ used S.segs + (jhead J).length ∧ J'.sealed = del win J.sealed ∧ J'.greatest = J.greatest ∧ J'.most = J.most ∧ J'.next ≤ J.next + 1 ∧ J.next ≤ J'.next ∧ S'.segs.length ≤ S.segs.length + 1 ∧
      ((J'.opn = J.opn ∧ J'.synced + J'.uns.size = J.synced + J.uns.size) ∨ (J.opn = [] ∧ J'.opn = [J.next] ∧ J'.synced + J'.uns.size = (jhead J).length)) := by
  unfold jforget
  split
  · obtain ⟨J1, S1, k1, k2, k3, k4, k5, k6, k7, k8, k9, k10⟩ := h.keep hx
    obtain ⟨S2, f1, f2, f3, f4⟩ := k2.fin (by rw [k4]; exact hn) (by rw [k4]; exact hw)
    rw [k1, if_neg (by simp), f1]
    exact ⟨_, _, rfl, f2, by omega, by rw [k4], k5, k6, k7, k8, by omega, k10⟩
  · obtain ⟨S2, f1, f2, f3, f4⟩ := h.fin hn hw
    rw [f1]
    exact ⟨_, _, rfl, f2, by omega, rfl, rfl, rfl, by show J.next ≤ J.next + 1; omega, Int.le_refl _, by omega, Or.inl ⟨rfl, rfl⟩⟩
end Go.Proofs.YtmkidefdegaamaaGreatDoor.Jr
namespace Go.Proofs.YtmkidefdegaamaaGreatDoor.Dd
open Go.RowKit Go.Maps Mem Foot Bytes Im Wm Hi Plainw Cq Dm Dh Jr Wi Sk Hn Kr
theorem used0 (w : World) (hb : Nat) (h : Sits w hb 101 (hz 0)) :
    Calls Tryz.prog 76 #[.pointer (some ⟨hb, 0, none⟩)] w fun e w' => e = .returned (.slice none 0 0) ∧ Below w.heap.size w w' := by
  unfold hz at h
  have c0 := h.cell 0 _ rfl
  have c3 := h.cell 3 _ rfl
  clear h
  go_enter Tryz.func76, Tryz.ntmps76
  go_wp2_with fail
  go_loopw [3, 12] (fun r s wr => r = .slice none 0 0 ∧ s = .int .i64 0 ∧ wr = w) (fun _ _ _ => 0)
  case atStart => exact ⟨rfl, rfl, rfl⟩
  case round =>
    obtain ⟨rfl, rfl, rfl⟩ := hrel
    go_wp2_with fail
    go_ret
    exact ⟨rfl, Below.refl _ _⟩
theorem tidy0 (w : World) (bx hb : Nat) (h : Sits w hb 101 (hz 0)) :
    Calls Tryz.prog 43 #[.pointer (some ⟨bx, 0, none⟩), .slice none 0 0, .pointer (some ⟨hb, 0, none⟩)] w fun e w' => e = .returned .nilIface ∧ Below w.heap.size w w' := by
  have hu := used0 w hb h
  clear h
  go_enter Tryz.func43, Tryz.ntmps43
  go_wp2_with fail
  refine hu.mono ?_
  clear hu
  rintro e w1 ⟨rfl, hb1⟩
  have HB := hide hb1
  clear hb1
  go_wp2_with fail
  go_loopw [16] (fun s wr => s = .int .i64 0 ∧ wr = w1) (fun _ _ => 0)
  case atStart => exact ⟨rfl, rfl⟩
  case round =>
    obtain ⟨rfl, rfl⟩ := hrel
    go_wp2_with fail
    go_ret
    exact ⟨rfl, HB.out⟩
theorem made_map (w : World) : (w.alloc (.map #[] 0)).ownsMap Tryz.prog 3 (exE okS) w.heap.size 0 (sD []) := World.ownsMap_made w Tryz.prog 3 (exE okS)
theorem results_tct {P : Program} {fn : Func} {t p u : Tmp} {ty : TypeId} (h : fn.results = #[.tmp t, .cell p ty, .tmp u]) (tmps : Array Value) (w : World) (a : Addr) (v : Value) (hp : tmps.getD p undef = .pointer (some a)) (hl : (loadVar ty a).run P w = .ok v w) : (results fn tmps).run P w = .ok (.tuple #[tmps.getD t undef, v, tmps.getD u undef]) w := by
  have hp' : tmps[p]?.getD undef = .pointer (some a) := by simpa using hp
  simp [results, h, hp', asAddr, hl]
def J0 (most : Int) : Jn := ⟨most, [], [], 0, ⟨#[]⟩, 0, -1⟩
def found0 : Array Value := #[.slice none 0 0, .int .i64 0, .slice none 0 0, .slice none 0 0]
set_option maxRecDepth 20000 in
set_option maxHeartbeats 2000000 in
theorem open0 (bx ba cap : Nat) (bs : List Nat) (S : Dk) (w : World) (hP : PD w bx S ba cap bs) (hl : S.left = -1) (hs : S.segs = []) (most : Int) :
    Calls Tryz.prog 23 #[.pointer (some ⟨bx, 0, none⟩), .int .i64 most] w fun e w' => ∃ jb mb, e = .returned (.tuple #[.pointer (some ⟨jb, 0, none⟩), .agg found0, .nilIface]) ∧ JW w' jb bx mb (J0 most) [] (.slice none 0 0) ∧ w.heap.size ≤ jb ∧ w.heap.size ≤ mb ∧ Below w.heap.size w w' := by
  have hb1 := below_new (w := w) (.cells found0 62)
  have hf1 := Sits.new w 62 found0
  have hrs := segs0 bx ba cap bs S (w.alloc (.cells found0 62)) (hP.keep hb1) hl hs
  have HB1 := hide hb1
  have HF1 := hide hf1
  clear hb1 hf1 hP hl hs
  unfold found0 at *
  go_enter Tryz.func23, Tryz.ntmps23
  go_wp2_with fail
  generalize w.alloc (.cells #[.slice none 0 0, .int .i64 0, .slice none 0 0, .slice none 0 0] 62) = w1 at *
  obtain ⟨fb, hfb⟩ : ∃ fb, w.heap.size = fb := ⟨_, rfl⟩
  rw [hfb] at HF1 HB1 ⊢
  have HFB := hide hfb
  clear hfb
  refine hrs.mono ?_
  clear hrs
  rintro e w2 ⟨rfl, hb2⟩
  have HB2 := hide (HB1.out.trans (hb2.mono (by have := HF1.out.lt; omega)))
  have HF2 := hide (Mem.Sits.below HF1.out hb2 HF1.out.lt)
  clear hb2
  go_wp2_with fail
  refine (hist0 w2).mono ?_
  rintro e w3 ⟨hb, rfl, hh, hle, hb3⟩
  have HH3 := hide hh
  have HF3 := hide (Mem.Sits.below HF2.out hb3 HF2.out.lt)
  have HB3 := hide (HB2.out.trans (hb3.mono (by have := HF2.out.lt; omega)))
  have hle3 : fb < hb := by have := HF2.out.lt; omega
  clear hh hb3 hle
  go_wp2_with fail
  refine (tidy0 w3 bx hb HH3.out).mono ?_
  rintro e w4 ⟨rfl, hb4⟩
  have HH4 := hide (Mem.Sits.below HH3.out hb4 HH3.out.lt)
  have HF4 := hide (Mem.Sits.below HF3.out hb4 HF3.out.lt)
  have HB4 := hide (HB3.out.trans (hb4.mono (by have := HF3.out.lt; omega)))
  clear hb4
  have hmm := @run_makeMap Tryz.prog
  have hh4 := HH4.out
  have hh5 := hh4.alloc (.map #[] 0)
  unfold hz at hh4 hh5
  have c3 := hh4.cell 3 _ rfl
  have c4 := hh4.cell 4 _ rfl
  have c5 := hh4.cell 5 _ rfl
  have c6 := hh4.cell 6 _ rfl
  have d3 := hh5.cell 3 _ rfl
  have d4 := hh5.cell 4 _ rfl
  have d5 := hh5.cell 5 _ rfl
  have d6 := hh5.cell 6 _ rfl
  clear hh4 hh5
  go_wp2_with fail
  go_region
  clear c3 c4 c5 c6 d3 d4 d5 d6 hmm
  have hb5 : Below w4.heap.size w4 ((w4.alloc (.map #[] 0)).alloc (.cells #[.pointer (some ⟨bx, 0, none⟩), .int .i64 most, .map (some w4.heap.size), .slice none 0 0, .int .i64 0, .string ⟨#[]⟩, .int .i64 0, .int .i64 (-1)] 103)).drew := below_drewN' (n := 1) ((below_new _).alloc (by simp) _)
  have hj5 := Sits.new (w4.alloc (.map #[] 0)) 103 #[.pointer (some ⟨bx, 0, none⟩), .int .i64 most, .map (some w4.heap.size), .slice none 0 0, .int .i64 0, .string ⟨#[]⟩, .int .i64 0, .int .i64 (-1)]
  rw [World.size_alloc] at hj5
  have HJ5 := hide (show Sits ((w4.alloc (.map #[] 0)).alloc (.cells #[.pointer (some ⟨bx, 0, none⟩), .int .i64 most, .map (some w4.heap.size), .slice none 0 0, .int .i64 0, .string ⟨#[]⟩, .int .i64 0, .int .i64 (-1)] 103)).drew (w4.heap.size + 1) _ _ from hj5)
  have HM5 := hide (show ((w4.alloc (.map #[] 0)).alloc (.cells #[.pointer (some ⟨bx, 0, none⟩), .int .i64 most, .map (some w4.heap.size), .slice none 0 0, .int .i64 0, .string ⟨#[]⟩, .int .i64 0, .int .i64 (-1)] 103)).drew.ownsMap Tryz.prog 3 (exE okS) w4.heap.size 0 (sD []) from
    own_at (made_map w4) (Below.heap_alloc _ _ _ (by simp)))
  have HB5 := hide hb5
  have HH5 := hide (Mem.Sits.below HH4.out hb5 HH4.out.lt)
  have HF5 := hide (Mem.Sits.below HF4.out hb5 HF4.out.lt)
  clear hj5 hb5
  generalize ((w4.alloc (.map #[] 0)).alloc (.cells #[.pointer (some ⟨bx, 0, none⟩), .int .i64 most, .map (some w4.heap.size), .slice none 0 0, .int .i64 0, .string ⟨#[]⟩, .int .i64 0, .int .i64 (-1)] 103)).drew = w5 at *
  obtain ⟨mb, hmb⟩ : ∃ mb, w4.heap.size = mb := ⟨_, rfl⟩
  rw [hmb] at HJ5 HM5 ⊢
  have HMB := hide hmb
  clear hmb
  have hh5 := HH5.out
  unfold hz at hh5
  have c0 := hh5.cell 0 _ rfl
  have C : ∀ s : Bw w5, s.val.cell? ⟨hb, 0, none⟩ = some (.slice none 0 0) ∧ s.val.cell? ⟨hb, 1, none⟩ = some (.int .i64 0) ∧ s.val.cell? ⟨hb, 2, none⟩ = some (.slice none 0 0) ∧ s.val.cell? ⟨hb, 3, none⟩ = some (.slice none 0 0) := fun s => by
    have h := Mem.Sits.below HH5.out s.is HH5.out.lt
    unfold hz at h
    exact ⟨h.cell 0 _ rfl, h.cell 1 _ rfl, h.cell 2 _ rfl, h.cell 3 _ rfl⟩
  have C0 := fun s => (C s).1
  have C1 := fun s => (C s).2.1
  have C2 := fun s => (C s).2.2.1
  have C3 := fun s => (C s).2.2.2
  clear C hh5
  go_wp2_with fail
  go_loopw [65] (fun s wr => s = .int .i64 0 ∧ wr = w5) (fun _ _ => 0)
  case atStart => exact ⟨rfl, rfl⟩
  case round =>
    obtain ⟨rfl, rfl⟩ := hrel
    go_wp2_with fail
    refine region_pre 6 (by kernel_rfl) (by kernel_rfl) ?_
    simp only [List.take_succ_cons, List.take_zero, List.drop_succ_cons, List.drop_zero]
    repeat (first
      | go_big_quiet_skip
      | (go_big_quiet_want; go_big_quiet_op; go_big_quiet_on))
    refine wpQuiet_nil ?_
    intro s
    have HB6 := hide s.is
    have HF6 := hide (Mem.Sits.below HF5.out s.is HF5.out.lt)
    have HJ6 := hide (Mem.Sits.below HJ5.out s.is HJ5.out.lt)
    have HM6 := hide (map_off HM5.out (Off.of_below (F := []) s.is) (by simp))
    clear C0 C1 C2 C3 c0
    generalize s.val = w6 at *
    have h0 := HF6.out
    have d0 := h0.cell 0 _ rfl
    have f0 := h0.frozen 0
    have h1 := h0.set 0 (.slice none 0 0)
    have d1 := h1.cell 1 _ rfl
    have f1 := h1.frozen 1
    have h2 := h1.set 1 (.int .i64 0)
    have d2 := h2.cell 2 _ rfl
    have f2 := h2.frozen 2
    have h3 := h2.set 2 (.slice none 0 0)
    have d3 := h3.cell 3 _ rfl
    have f3 := h3.frozen 3
    have HF7 := hide (h3.set 3 (.slice none 0 0))
    clear h0 h1 h2 h3
    go_wp2_with fail
    have hso : Off [fb] w6 ((((w6.setCell ⟨fb, 0, none⟩ (.slice none 0 0)).setCell ⟨fb, 1, none⟩ (.int .i64 0)).setCell ⟨fb, 2, none⟩ (.slice none 0 0)).setCell ⟨fb, 3, none⟩ (.slice none 0 0)) := ((((Off.refl _ _).set (List.mem_singleton.2 rfl) _ _).set (List.mem_singleton.2 rfl) _ _).set (List.mem_singleton.2 rfl) _ _).set (List.mem_singleton.2 rfl) _ _
    have hf7 := HF7.out
    clear HF7 d0 d1 d2 d3 f0 f1 f2 f3
    generalize (((w6.setCell ⟨fb, 0, none⟩ (.slice none 0 0)).setCell ⟨fb, 1, none⟩ (.int .i64 0)).setCell ⟨fb, 2, none⟩ (.slice none 0 0)).setCell ⟨fb, 3, none⟩ (.slice none 0 0) = w7 at *
    have hz1 := HB5.out.size
    have hz2 := HB4.out.size
    have hz3 := HF4.out.lt
    have hz4 := HMB.out
    have hz5 := HFB.out
    have hjn := Foot.Sits.off HJ6.out hso (by simp; omega)
    have hmn := map_off HM6.out hso (by simp; omega)
    have hb7 : Below fb w w7 := by
      have b5 : Below fb w wr := HB4.out.trans (HB5.out.mono (by omega))
      have b6 : Below fb w w6 := b5.trans (HB6.out.mono (by rw [← hz5]; exact b5.size))
      exact b6.trans (hso.below (fun b hb => by rw [List.mem_singleton.1 hb]; exact Nat.le_refl _) (by rw [← hz5]; exact b6.size))
    refine bodyPost_ret (results_tct rfl _ _ ⟨fb, 0, none⟩ (.agg found0) rfl (run_loadVar_row w7 fb 62 62 _ (0, 0) _ hf7 Tryz.underlying62 rfl (by kernel_rfl))) rfl ?_
    refine ⟨mb + 1, mb, rfl, ⟨⟨hjn, ⟨rfl, Or.inl ⟨rfl, rfl⟩⟩⟩, ⟨hmn, List.Pairwise.nil, fun p hp => by cases hp⟩, rfl, fun k hk => by cases hk⟩, by omega, by omega, by rw [HFB.out]; exact hb7⟩
end Go.Proofs.YtmkidefdegaamaaGreatDoor.Dd
namespace Go.Proofs.YtmkidefdegaamaaGreatDoor.Dd
open Go.RowKit Bytes Im Wm Dm Jr Sk Mem Foot Wi Kr
theorem dig {v : Int} (h0 : 0 ≤ v) (k : Nat) (h1 : v.toNat < 10 ^ (k + 1)) : (Lib.itoa v).length ≤ k + 1 := by
  unfold Lib.itoa
  rw [if_neg (by omega), Lib.decDigits_length]
  exact Plain.nd_le k v.toNat h1
theorem rec_len (k : List UInt8) {win : Int} (h0 : 0 ≤ win) (h1 : win ≤ 1000000000) {t : List UInt8} (ht : t.length ≤ 256) : (wrec k win t).length ≤ k.length + t.length + 16 := by
  have e1 := dig h0 9 (by omega)
  have e2 := dig (v := (t.length : Int)) (by omega) 2 (by omega)
  unfold wrec
  simp only [List.length_append, List.length_singleton]
  omega
theorem rec_len0 (k : List UInt8) {win : Int} (h0 : 0 ≤ win) (h1 : win ≤ 1000000000) : (wrec k win []).length ≤ k.length + 14 := by
  have e1 := dig h0 9 (by omega)
  have e2 := dig (v := 0) (by omega) 0 (by decide)
  unfold wrec
  simp only [List.length_append, List.length_singleton, List.length_nil]
  have e3 : ((0 : Nat) : Int) = 0 := rfl
  rw [e3]
  omega
theorem head_len {J : Jn} (h0 : -1 ≤ J.greatest) (h1 : J.greatest ≤ 1000000000) : (jhead J).length ≤ 15 := by
  unfold jhead
  split
  · exact Nat.zero_le _
  · exact rec_len0 [98] (by omega) h1
noncomputable def dtext (D : Dn) : ByteArray := ⟨(wtext D.num D.W).toArray⟩
/-- The clock's window opened in place of one that is over. -/
noncomputable def dturn (D : Dn) : Dn :=
  if D.clock / D.c 0 ≤ D.num then D
  else if 0 < D.count then { D with J := (jseal D.J D.S D.num).1, S := (jseal D.J D.S D.num).2.1, due := insM ⟨D.num, dtext D⟩ D.due, num := D.clock / D.c 0, count := 0, W := win0 }
  else { D with num := D.clock / D.c 0, count := 0, W := win0 }
noncomputable def dwrite (D : Dn) (s : ByteArray) : Dn :=
  { D with J := (jwrite D.J D.S D.num s).1, S := (jwrite D.J D.S D.num s).2.1, W := wgram (limOf D.c) D.W (B s), count := D.count + 1 }
noncomputable def dpacket (D : Dn) (s : ByteArray) : Dn := dwrite (dturn D) s
noncomputable def dclock (D : Dn) (t : Int) : Dn := dturn { D with clock := t }
def dack (D : Dn) (win : Int) : Dn := { D with J := (jforget D.J D.S win).1, S := (jforget D.J D.S win).2.1, due := D.due.filter fun m => !decide (m.k = win) }
/-- A daemon on a disk that does not fail, with these datagrams in its open window, behind n calls. -/
structure DOk (D : Dn) (ds : List Bs) (n : Nat) : Prop where
  cok : COk D.c
  calm : Jcalm D.J D.S
  clk : 0 ≤ D.clock ∧ D.clock ≤ 1000000000
  num : 0 ≤ D.num ∧ D.num ≤ 1000000000
  cnt : D.count = ds.length
  win : D.W = ds.foldl (wgram (limOf D.c)) win0
  keys : D.J.sealed.map (·.1) = D.due.map (·.k)
  lt : ∀ m ∈ D.due, m.k < D.num
  low : ∀ m ∈ D.due, 0 ≤ m.k
  rise : Rise D.due
  great : -1 ≤ D.J.greatest ∧ D.J.greatest < D.num
  opn : 0 < D.count → D.J.opn ≠ []
  free : D.count = 0 → D.J.opn = [] ∨ ∃ x, D.J.opn = [x] ∧ D.J.synced + D.J.uns.size ≤ 64
  spent : D.spent = false
  next : D.J.next ≤ n
  segs : D.S.segs.length ≤ n
  used : Dm.used D.S.segs ≤ 500 * n
  dues : D.due.length ≤ n
  sz : D.J.synced + D.J.uns.size ≤ 500 * n
  len : ds.length ≤ n
  lines : nls ds ≤ n
  short : ∀ d ∈ ds, d.length ≤ 256
theorem COk.pos {c : Fin 6 → Int} (h : COk c) : 0 < c 0 := by have := h.w; omega
theorem DOk.mono {D : Dn} {ds : List Bs} {n m : Nat} (h : DOk D ds n) (hm : n ≤ m) : DOk D ds m :=
  { h with next := by have := h.next; omega, segs := by have := h.segs; omega, used := by have := h.used; omega, dues := by have := h.dues; omega, sz := by have := h.sz; omega, len := by have := h.len; omega, lines := by have := h.lines; omega }
theorem DOk.nodup {D : Dn} {ds : List Bs} {n : Nat} (h : DOk D ds n) : (D.J.sealed.map (·.1)).Nodup := by
  rw [h.keys]
  exact h.rise.nodup
theorem put_keys {k : Int} {b : List Int} {l : List (Int × List Int)} {m : Ms} (hm : m.k = k) {due : List Ms} (he : l.map (·.1) = due.map (·.k)) (hn : k ∉ l.map (·.1)) : (put iLt k b l).map (·.1) = (insM m due).map (·.k) := by
  unfold put
  rw [del_of_not _ _ ((has_false k l).2 hn)]
  clear hn
  induction l generalizing due with
  | nil =>
    cases due with
    | nil => simp [ins, insM, hm]
    | cons a r => simp at he
  | cons p l ih =>
    cases due with
    | nil => simp at he
    | cons a r =>
      simp only [List.map_cons, List.cons.injEq] at he
      rw [ins, insM]
      have h1 : iLt k p.1 = decide (k < p.1) := rfl
      by_cases hk : k < p.1
      · rw [if_pos (by rw [h1]; simpa using hk), if_pos (by omega)]
        simp [he, hm]
      · rw [if_neg (by rw [h1]; simpa using hk), if_neg (by omega)]
        simp only [List.map_cons]
        rw [ih he.2, he.1]
theorem mem_insM {m x : Ms} {l : List Ms} (h : x ∈ insM m l) : x = m ∨ x ∈ l := by
  induction l with
  | nil => simpa [insM] using h
  | cons a l ih =>
    rw [insM] at h
    split at h
    · rcases List.mem_cons.1 h with e | e
      · exact Or.inl e
      · exact Or.inr e
    · rcases List.mem_cons.1 h with e | e
      · exact Or.inr (e ▸ List.mem_cons_self ..)
      · exact (ih e).imp id (List.mem_cons_of_mem _)
/-- The clock's window, where nothing fails. -/
theorem DOk.turn {D : Dn} {ds : List Bs} {n : Nat} (h : DOk D ds n) :
    DOk (dturn D) (if D.clock / D.c 0 ≤ D.num then ds else []) (n + 1) ∧ Dm.used (dturn D).S.segs ≤ Dm.used D.S.segs + (if D.num < D.clock / D.c 0 ∧ 0 < D.count then 15 else 0) ∧
      (0 < D.count → (jseal D.J D.S D.num).2.2 = 0) ∧ (dturn D).clock = D.clock ∧ (dturn D).c = D.c ∧ D.clock / D.c 0 ≤ (dturn D).num := by
  have hc0 := COk.pos h.cok
  have hq0 : 0 ≤ D.clock / D.c 0 := Int.ediv_nonneg h.clk.1 (by omega)
  have hq1 : D.clock / D.c 0 ≤ 1000000000 := Int.le_trans (Int.ediv_le_self _ h.clk.1) h.clk.2
  have hnk : D.num ∉ D.J.sealed.map (·.1) := by
    rw [h.keys]
    intro hm
    obtain ⟨m, hm, e⟩ := List.mem_map.1 hm
    have := h.lt m hm
    omega
  have hseal : 0 < D.count → (jseal D.J D.S D.num).2.2 = 0 := fun hp => by
    obtain ⟨J', S', e, _⟩ := h.calm.seal (h.opn hp) hnk
    rw [e]
  unfold dturn
  by_cases hle : D.clock / D.c 0 ≤ D.num
  · rw [if_pos hle, if_pos hle]
    exact ⟨h.mono (Nat.le_succ _), Nat.le_add_right _ _, hseal, rfl, rfl, hle⟩
  · rw [if_neg hle, if_neg hle]
    by_cases hp : 0 < D.count
    · rw [if_pos hp, if_pos ⟨by omega, hp⟩]
      obtain ⟨J', S', e, k1, k2, k3, k4, k5, k6, k7, k8, k9⟩ := h.calm.seal (h.opn hp) hnk
      have hrl := rec_len0 [115] h.num.1 h.num.2
      rw [e]
      refine ⟨⟨h.cok, k1, h.clk, ⟨hq0, hq1⟩, rfl, rfl, ?_, ?_, ?_, ?_, ?_, fun h => absurd h (by simp), fun _ => Or.inl k4, h.spent, ?_, ?_, ?_, ?_, ?_, Nat.zero_le _, Nat.zero_le _, by simp⟩, ?_, fun _ => rfl, rfl, rfl, Int.le_refl _⟩
      · show J'.sealed.map (·.1) = (insM ⟨D.num, dtext D⟩ D.due).map (·.k)
        rw [k3]
        exact put_keys (k := D.num) (m := ⟨D.num, dtext D⟩) rfl h.keys hnk
      · intro m hm
        rcases mem_insM hm with rfl | hm
        · show D.num < D.clock / D.c 0
          omega
        · have := h.lt m hm
          show m.k < D.clock / D.c 0
          omega
      · intro m hm
        rcases mem_insM hm with rfl | hm
        · exact h.num.1
        · exact h.low m hm
      · exact h.rise.ins (by rw [← h.keys]; exact hnk)
      · show -1 ≤ J'.greatest ∧ J'.greatest < D.clock / D.c 0
        rw [k5]
        have := h.num.1
        omega
      · show J'.next ≤ _
        rw [k7]
        have := h.next
        omega
      · show S'.segs.length ≤ _
        rw [k8]
        exact Nat.le_succ_of_le h.segs
      · show Dm.used S'.segs ≤ _
        rw [k2]
        have := h.used
        simp only [List.length_singleton] at hrl
        omega
      · show (insM _ D.due).length ≤ _
        rw [insM_length]
        have := h.dues
        omega
      · show J'.synced + J'.uns.size ≤ _
        have := h.used
        simp only [List.length_singleton] at hrl
        omega
      · show Dm.used S'.segs ≤ _
        rw [k2]
        simp only [List.length_singleton] at hrl
        omega
    · rw [if_neg hp, if_neg (fun e => hp e.2)]
      have hc : D.count = 0 := by omega
      refine ⟨⟨h.cok, h.calm, h.clk, ⟨hq0, hq1⟩, rfl, rfl, h.keys, fun m hm => ?_, h.low, h.rise, ⟨h.great.1, ?_⟩, fun h => absurd h (by simp), fun _ => h.free hc, h.spent, ?_, Nat.le_succ_of_le h.segs, ?_, Nat.le_succ_of_le h.dues, ?_, Nat.zero_le _, Nat.zero_le _, by simp⟩, Nat.le_refl _, hseal, rfl, rfl, Int.le_refl _⟩
      · have := h.lt m hm
        show m.k < D.clock / D.c 0
        omega
      · have := h.great.2
        show D.J.greatest < D.clock / D.c 0
        omega
      · have := h.next
        show D.J.next ≤ ((n + 1 : Nat) : Int)
        omega
      · have := h.used
        show Dm.used D.S.segs ≤ _
        omega
      · have := h.sz
        show D.J.synced + D.J.uns.size ≤ _
        omega
theorem nls_snoc (ds : List Bs) (d : Bs) : nls (ds ++ [d]) = nls ds + nls [d] := nls_append ..
theorem nls_one (d : Bs) : nls [d] ≤ d.length + 1 := by
  have h1 : nls [d] = Lib.countByte d 10 + 1 + 0 := rfl
  have h2 : Lib.countByte d 10 ≤ d.length := List.countP_le_length
  omega
theorem DOk.write {D : Dn} {ds : List Bs} {n : Nat} (h : DOk D ds n) (hn : n ≤ 100000000) {s : ByteArray} (hs : s.size ≤ 256) :
    DOk (dwrite D s) (ds ++ [B s]) (n + s.size + 1) ∧ Dm.used (dwrite D s).S.segs ≤ Dm.used D.S.segs + s.size + 32 ∧ (jwrite D.J D.S D.num s).2.2 = 0 := by
  have hnx : D.J.next ≤ 9223372036854775807 := by have := h.next; omega
  have hbs : (B s).length = s.size := (Bytes.size_B s).symm
  obtain ⟨J', S', e, k1, k2, k3, k4, k5, k6, k7, k8, k9⟩ := h.calm.write hnx D.num s
  have hrl := rec_len [100] h.num.1 h.num.2 (t := B s) (by omega)
  have hhl := head_len h.great.1 (by have := h.great.2; have := h.num.2; omega)
  have hused : Dm.used S'.segs ≤ Dm.used D.S.segs + s.size + 32 := by
    simp only [List.length_singleton] at hrl
    omega
  unfold dwrite
  rw [e]
  have hn1 := nls_one (B s)
  refine ⟨⟨h.cok, k1, h.clk, h.num, ?_, ?_, ?_, h.lt, h.low, h.rise, ?_, fun _ => k4, fun h => absurd h (by simp), h.spent, ?_, ?_, ?_, Nat.le_trans h.dues (by omega), ?_, ?_, ?_, ?_⟩, hused, rfl⟩
  · show D.count + 1 = _
    rw [h.cnt]
    simp
  · show wgram (limOf D.c) D.W (B s) = _
    rw [h.win, List.foldl_append]
    rfl
  · show J'.sealed.map (·.1) = _
    rw [k3]
    exact h.keys
  · show -1 ≤ J'.greatest ∧ J'.greatest < D.num
    rw [k5]
    exact h.great
  · have := h.next
    show J'.next ≤ ((n + s.size + 1 : Nat) : Int)
    omega
  · have := h.segs
    show S'.segs.length ≤ n + s.size + 1
    omega
  · have := h.used
    show Dm.used S'.segs ≤ _
    omega
  · have := k1.sum_le k4
    have := h.used
    show J'.synced + J'.uns.size ≤ _
    omega
  · have := h.len
    simp
    omega
  · rw [nls_snoc]
    have := h.lines
    omega
  · intro d hd
    rcases List.mem_append.1 hd with hd | hd
    · exact h.short d hd
    · rw [List.mem_singleton] at hd
      subst hd
      omega
theorem del_keys {k : Int} {l : List (Int × List Int)} {due : List Ms} (he : l.map (·.1) = due.map (·.k)) : (del k l).map (·.1) = (due.filter fun m => !decide (m.k = k)).map (·.k) := by
  unfold del
  induction l generalizing due with
  | nil =>
    cases due with
    | nil => rfl
    | cons a r => simp at he
  | cons p l ih =>
    cases due with
    | nil => simp at he
    | cons a r =>
      simp only [List.map_cons, List.cons.injEq] at he
      rw [List.filter_cons, List.filter_cons]
      by_cases hk : p.1 = k
      · rw [if_neg (by simp [hk]), if_neg (by simp [← he.1, hk])]
        exact ih he.2
      · rw [if_pos (by simp [hk]), if_pos (by simp [← he.1, hk]), List.map_cons, List.map_cons, ih he.2, he.1]
theorem get_some {k : Int} {l : List (Int × List Int)} (h : k ∈ l.map (·.1)) : ∃ r, getE k l = some r := by
  have h1 := (has_iff k l).2 h
  rw [has_getE] at h1
  exact Option.isSome_iff_exists.1 h1
theorem DOk.ack {D : Dn} {ds : List Bs} {n : Nat} (h : DOk D ds n) (hn : n ≤ 100000000) {win : Int} (hw : win ∈ D.due.map (·.k)) :
    DOk (dack D win) ds (n + 1) ∧ Dm.used (dack D win).S.segs ≤ Dm.used D.S.segs + 15 ∧ (jforget D.J D.S win).2.2 = 0 := by
  have hnx : D.J.next ≤ 9223372036854775807 := by have := h.next; omega
  obtain ⟨r, hr⟩ := get_some (l := D.J.sealed) (k := win) (by rw [h.keys]; exact hw)
  obtain ⟨J', S', e, k1, k2, k3, k4, k5, k6, k7, k8, k9⟩ := h.calm.forget hnx h.nodup hr
  have hhl := head_len h.great.1 (by have := h.great.2; have := h.num.2; omega)
  unfold dack
  rw [e]
  refine ⟨⟨h.cok, k1, h.clk, h.num, h.cnt, h.win, ?_, fun m hm => h.lt m (List.mem_filter.1 hm).1, fun m hm => h.low m (List.mem_filter.1 hm).1, List.Pairwise.filter _ h.rise, ?_, ?_, ?_, h.spent, ?_, ?_, ?_, ?_, ?_, Nat.le_succ_of_le h.len, ?_, h.short⟩, ?_, rfl⟩
  · show J'.sealed.map (·.1) = _
    rw [k3]
    exact del_keys h.keys
  · show -1 ≤ J'.greatest ∧ J'.greatest < D.num
    rw [k4]
    exact h.great
  · intro hp
    show J'.opn ≠ []
    rcases k9 with ⟨e1, _⟩ | ⟨e1, e2, _⟩
    · rw [e1]
      exact h.opn hp
    · rw [e2]
      simp
  · intro hp
    show J'.opn = [] ∨ ∃ x, J'.opn = [x] ∧ J'.synced + J'.uns.size ≤ 64
    rcases k9 with ⟨e1, e2⟩ | ⟨e1, e2, e3⟩
    · rw [e1, e2]
      exact h.free hp
    · exact Or.inr ⟨_, e2, by omega⟩
  · have := h.next
    show J'.next ≤ ((n + 1 : Nat) : Int)
    omega
  · have := h.segs
    show S'.segs.length ≤ n + 1
    omega
  · have := h.used
    show Dm.used S'.segs ≤ _
    omega
  · exact Nat.le_trans (List.length_filter_le ..) (Nat.le_succ_of_le h.dues)
  · have := h.sz
    show J'.synced + J'.uns.size ≤ _
    rcases k9 with ⟨_, e2⟩ | ⟨_, _, e3⟩ <;> omega
  · have := h.lines
    omega
  · show Dm.used S'.segs ≤ _
    omega
theorem DOk.fit {D : Dn} {ds : List Bs} {n : Nat} (h : DOk D ds n) : WFit (limOf D.c) (nls ds) D.W := by
  have := wfit_grams h.cok.lim.b0 ds (WFit.zero (limOf D.c))
  rw [Nat.zero_add] at this
  rw [h.win]
  exact this
end Go.Proofs.YtmkidefdegaamaaGreatDoor.Dd
namespace Go.Proofs.YtmkidefdegaamaaGreatDoor.Dd
open Go.RowKit Go.Maps Mem Foot Bytes Im Wm Hi Plainw Cq Dm Dh Jr Wi Sk Hn Kr
theorem win_zero : winOf 0 0 [] = win0 := rfl
/-- A new window in place of the old one. -/
theorem DA.fresh {w w1 w2 : World} {X : Nat} {D : Dn} {q : Pl} (h : DA w X D q) (hb : Below w.heap.size w w1) {p' : WI} (hp : WiAt w1 p' (limOf D.c) 0 0 []) (hfr : ∀ x ∈ wfoot p' [], w.heap.size ≤ x) (ho : Off [X] w1 w2) {num : Int}
    (hh : Sits w2 X 72 #[.int .i64 (D.c 0), .int .i64 (D.c 1), .int .i64 (D.c 2), .int .i64 (D.c 3), .int .i64 (D.c 4), .int .i64 (D.c 5), .pointer (some ⟨q.jb, 0, none⟩), .int .i64 D.clock, .int .i64 num, .int .i64 0, .pointer (some ⟨p'.P, 0, none⟩), .map (some q.db), .bool D.spent]) :
    Dq w w2 X { D with num := num, count := 0, W := win0 } (df X q) q.bx := by
  have hX := h.head.lt
  have hkl := kf_lt h.jw h.pd
  have h1 := h.keep hb
  have hk : ∀ k ∈ q.kf, k ∉ [X] := fun k hk e => h.aX.1 (List.mem_singleton.1 e ▸ hk)
  refine ⟨⟨{ q with p := p', rj := 0, dr := 0, E := [] }, ⟨hh, h1.jw.off (ba := q.ba) (bs := q.bs) ho hk, pd_off h1.pd ho fun k hm => hk k (kf_pd hm), hp.off ho (fun x hx e => ?_), win_zero, h1.due.off ho (fun b e => by cases e; exact fun e => h.aX.2.2 (List.mem_singleton.1 e).symm), h.rise, fun k hk hw => ?_, ⟨h.aX.1, fun hm => ?_, h.aX.2.2⟩, ⟨h.aD.1, fun hm => ?_⟩⟩, rfl, fun b hb => ?_⟩, (Off.of_below hb).trans (ho.mono fun k _ hk => List.mem_singleton.1 hk ▸ List.mem_cons_self ..)⟩
  · have := hfr x hx
    rw [List.mem_singleton] at e
    omega
  · have := hfr k hw
    have := hkl k hk
    omega
  · have := hfr X hm
    omega
  · have h1 : w.heap.size ≤ q.db := hfr _ hm
    have := mapped_lt h.due
    omega
  · rcases List.mem_cons.1 hb with e | e
    · exact Or.inl (e ▸ List.mem_cons_self ..)
    · rcases List.mem_cons.1 e with e | e
      · exact Or.inl (e ▸ List.mem_cons_of_mem _ (List.mem_cons_self ..))
      · rcases List.mem_append.1 e with e | e
        · exact Or.inl (List.mem_cons_of_mem _ (List.mem_cons_of_mem _ (List.mem_append_left _ e)))
        · exact Or.inr (hfr b e)
/-- One more window that is due. -/
theorem DA.more {w w1 : World} {X : Nat} {D : Dn} {q : Pl} (h : DA w X D q) {m : Ms} {n : Nat} (hm : w1.ownsMap Tryz.prog 3 (exE okM) q.db n (Sk.D (insM m D.due))) (hg : w.grownBy w1 (some q.db)) (hk : m.k ∉ D.due.map (·.k)) :
    DA w1 X { D with due := insM m D.due } q ∧ Off (df X q) w w1 := by
  have ho : Off [q.db] w w1 := grown_off' hg (List.mem_singleton.2 rfl)
  have hkd : ∀ k ∈ q.kf, k ∉ [q.db] := fun k hk e => h.aD.1 (List.mem_singleton.1 e ▸ hk)
  exact ⟨⟨Foot.Sits.off h.head ho (fun e => h.aX.2.2 (List.mem_singleton.1 e)), h.jw.off (ba := q.ba) (bs := q.bs) ho hkd, pd_off h.pd ho fun k hm => hkd k (kf_pd hm), h.wi.off ho (fun k hk e => h.aD.2 (List.mem_singleton.1 e ▸ hk)), h.win, ⟨_, hm⟩, h.rise.ins hk, h.a1, h.aX, h.aD⟩,
    ho.mono fun k _ hk => List.mem_singleton.1 hk ▸ List.mem_cons_of_mem _ (List.mem_cons_self ..)⟩
/-- One less. -/
theorem DA.less {w w1 : World} {X : Nat} {D : Dn} {q : Pl} (h : DA w X D q) {k : Int} {n : Nat} (hm : w1.ownsMap Tryz.prog 3 (exE okM) q.db n (Sk.D (D.due.filter fun m => !decide (m.k = k)))) (hg : w.grownBy w1 (some q.db)) :
    DA w1 X { D with due := D.due.filter fun m => !decide (m.k = k) } q ∧ Off (df X q) w w1 := by
  have ho : Off [q.db] w w1 := grown_off' hg (List.mem_singleton.2 rfl)
  have hkd : ∀ k ∈ q.kf, k ∉ [q.db] := fun k hk e => h.aD.1 (List.mem_singleton.1 e ▸ hk)
  exact ⟨⟨Foot.Sits.off h.head ho (fun e => h.aX.2.2 (List.mem_singleton.1 e)), h.jw.off (ba := q.ba) (bs := q.bs) ho hkd, pd_off h.pd ho fun k hm => hkd k (kf_pd hm), h.wi.off ho (fun k hk e => h.aD.2 (List.mem_singleton.1 e ▸ hk)), h.win, ⟨_, hm⟩, List.Pairwise.filter _ h.rise, h.a1, h.aX, h.aD⟩,
    ho.mono fun k _ hk => List.mem_singleton.1 hk ▸ List.mem_cons_of_mem _ (List.mem_cons_self ..)⟩
theorem D_del (k : Int) (l : List Ms) : (Sk.D l).del (.int .i64 k) = Sk.D (l.filter fun m => !decide (m.k = k)) := by
  unfold Sk.D
  rw [show Lit.int .i64 k = iLit k from rfl, mp_del iLit_same]
  congr 1
  unfold del ents
  rw [List.filter_map]
  rfl
theorem cells13 {w : World} {b : Nat} {t : TypeId} {v0 v1 v2 v3 v4 v5 v6 v7 v8 v9 v10 v11 v12 : Value} (h : Sits w b t #[v0, v1, v2, v3, v4, v5, v6, v7, v8, v9, v10, v11, v12]) :
    w.cell? ⟨b, 0, none⟩ = some v0 ∧ w.cell? ⟨b, 1, none⟩ = some v1 ∧ w.cell? ⟨b, 2, none⟩ = some v2 ∧ w.cell? ⟨b, 3, none⟩ = some v3 ∧ w.cell? ⟨b, 4, none⟩ = some v4 ∧ w.cell? ⟨b, 5, none⟩ = some v5 ∧ w.cell? ⟨b, 6, none⟩ = some v6 ∧ w.cell? ⟨b, 7, none⟩ = some v7 ∧ w.cell? ⟨b, 8, none⟩ = some v8 ∧ w.cell? ⟨b, 9, none⟩ = some v9 ∧ w.cell? ⟨b, 10, none⟩ = some v10 ∧ w.cell? ⟨b, 11, none⟩ = some v11 ∧ w.cell? ⟨b, 12, none⟩ = some v12 :=
  ⟨h.cell 0 _ rfl, h.cell 1 _ rfl, h.cell 2 _ rfl, h.cell 3 _ rfl, h.cell 4 _ rfl, h.cell 5 _ rfl, h.cell 6 _ rfl, h.cell 7 _ rfl, h.cell 8 _ rfl, h.cell 9 _ rfl, h.cell 10 _ rfl, h.cell 11 _ rfl, h.cell 12 _ rfl⟩
end Go.Proofs.YtmkidefdegaamaaGreatDoor.Dd
namespace Go.Proofs.YtmkidefdegaamaaGreatDoor.Dd
open Go.RowKit Go.Maps Mem Foot Bytes Im Wm Hi Plainw Cq Dm Dh Jr Wi Sk Hn Kr
set_option maxRecDepth 10000 in
set_option maxHeartbeats 1000000 in
theorem textO (num cnt : Int) (p : WI) (L : Lim) (n rj dr : Nat) (E : List Ent) (w : World) (h : WiAt w p L rj dr E) (hf : WFit L n (winOf rj dr E)) (hL : LOk L) (hlv : Live (winOf rj dr E)) (ht : Tab w) (hn : n ≤ 1000000000000000) (hn0 : -9223372036854775808 ≤ num) (hn1 : num ≤ 9223372036854775807) :
    Calls Tryz.prog 37 #[.agg #[.int .i64 num, .int .i64 cnt, .pointer (some ⟨p.P, 0, none⟩)]] w fun e w' => e = .returned (.string ⟨(wtext num (winOf rj dr E)).toArray⟩) ∧ Below w.heap.size w w' := by
  have HS1 := hide (Sits.new w 70 #[.int .i64 num, .int .i64 cnt, .pointer (some ⟨p.P, 0, none⟩)])
  have HB1 := hide (below_new (w := w) (.cells #[.int .i64 num, .int .i64 cnt, .pointer (some ⟨p.P, 0, none⟩)] 70))
  have HC := hide (fun w1 (hb : Below w.heap.size w w1) => textW num p L n rj dr E w1 (h.keep hb) hf hL hlv (ht.below hb) hn hn0 hn1)
  clear h hf hlv ht
  go_enter Tryz.func37, Tryz.ntmps37
  go_upto_region 1 with fail
  obtain ⟨X, hX⟩ : ∃ X, w.heap.size = X := ⟨_, rfl⟩
  rw [hX] at HS1 ⊢
  clear hX
  generalize w.alloc (.cells #[.int .i64 num, .int .i64 cnt, .pointer (some ⟨p.P, 0, none⟩)] 70) = w1 at *
  have c0 := HS1.out.cell 0 _ rfl
  have c2 := HS1.out.cell 2 _ rfl
  go_wp2_with fail
  refine (HC.out w1 HB1.out).mono ?_
  rintro e w2 ⟨⟨z, rfl, hz⟩, hb⟩
  have HB2 := hide (HB1.out.trans (hb.mono HB1.out.size))
  have HZ := hide (show z = ⟨(wtext num (winOf rj dr E)).toArray⟩ from Bytes.B_inj (by rw [hz]; rfl))
  clear hz hb c0 c2
  go_wp2_with fail
  go_ret
  exact ⟨by rw [← HZ.out]; rfl, HB2.out⟩
theorem live_of {D : Dn} {ds : List Bs} {n : Nat} (h : DOk D ds n) : Live D.W := by
  rw [h.win]
  exact live_grams ds live0
theorem dtext_call2 {w : World} {X : Nat} {D : Dn} {q : Pl} {m : Nat} (h : DA w X D q) (hf : WFit (limOf D.c) m D.W) (hl : Live D.W) (hc : COk D.c) (hm : m ≤ 1000000000000000) (hnm : 0 ≤ D.num ∧ D.num ≤ 1000000000) (ht : Tab w) :
    Calls Tryz.prog 37 #[.agg #[.int .i64 D.num, .int .i64 (D.count : Int), .pointer (some ⟨q.p.P, 0, none⟩)]] w fun e w' => e = .returned (.string (dtext D)) ∧ Below w.heap.size w w' := by
  rw [← h.win] at hf hl
  have := textO D.num (D.count : Int) q.p (limOf D.c) m q.rj q.dr q.E w h.wi hf hc.lim hl ht hm (by omega) (by omega)
  rw [h.win] at this
  exact this
set_option maxHeartbeats 1000000 in
theorem dueD (w : World) (X : Nat) (D : Dn) (q : Pl) (h : DA w X D q) (hN : D.due.length ≤ 4000000000000) :
    Calls Tryz.prog 15 #[.pointer (some ⟨X, 0, none⟩)] w fun e w' => ∃ v, e = .returned v ∧ w'.ownsRow w.heap.size 44 2 v D.due.length (mcells D.due) ∧ Below w.heap.size w w' := by
  have hr := rising (some q.db) D.due h.rise w h.due hN
  have c11 := h.head.cell 11 _ rfl
  clear h
  go_enter Tryz.func15, Tryz.ntmps15
  go_wp2_with fail
  refine hr.mono ?_
  clear hr c11
  rintro e w1 ⟨v, rfl, h1, h2⟩
  have H1 := hide h1
  have H2 := hide h2
  clear h1 h2
  go_wp2_with fail
  go_ret
  exact ⟨v, rfl, H1.out, H2.out⟩
end Go.Proofs.YtmkidefdegaamaaGreatDoor.Dd
