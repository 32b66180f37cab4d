/- The history that all segments tell. -/
import Derived.Test.YtmkidefdegaamaaGreatDoorOj
import Derived.Test.YtmkidefdegaamaaGreatDoorEay
import Derived.RangeFuncNested
namespace Go.Proofs.YtmkidefdegaamaaGreatDoor.Jr
open Go.RowKit Go.Maps Mem Foot Bytes Im Wm Hi Plainw Cq Dd
theorem HA.cells {w : World} {H : Hs} {p : Hp} (h : HA w H p) {k : Nat} (hk : k ∈ p.blocks) : ∃ t cs, Sits w k t cs ∧ (t = 101 ∨ t = 60 ∨ t = 9 ∨ t = 3) :=
  Hp.of_in hk (fun e => ⟨_, _, e ▸ h.head, Or.inl rfl⟩) (fun e => by
    obtain ⟨cs, hs⟩ := sits_row h.sv e
    exact ⟨_, cs, hs, Or.inr (Or.inl rfl)⟩) (fun e => by
    obtain ⟨cs, hs⟩ := sits_row h.dv e
    exact ⟨_, cs, hs, Or.inr (Or.inr (Or.inl rfl))⟩) (fun e => by
    obtain ⟨cs, hs⟩ := sits_row h.sg e
    exact ⟨_, cs, hs, Or.inr (Or.inr (Or.inr rfl))⟩) (fun e => by
    rcases wn_sits h.ws e with ⟨cs, hs⟩ | ⟨cs, hs⟩
    · exact ⟨_, cs, hs, Or.inr (Or.inr (Or.inl rfl))⟩
    · exact ⟨_, cs, hs, Or.inr (Or.inr (Or.inr rfl))⟩)
theorem HA.not {w : World} {H : Hs} {p : Hp} (h : HA w H p) {k : Nat} {t : TypeId} {cs : Array Value} (hs : Sits w k t cs) (ht : t ≠ 101 ∧ t ≠ 60 ∧ t ≠ 9 ∧ t ≠ 3) : k ∉ p.blocks := fun hk => by
  obtain ⟨t', cs', hs', h'⟩ := h.cells hk
  have he : t = t' := by
    unfold Sits at hs hs'
    rw [hs] at hs'
    injection hs' with h1
    injection h1
  subst he
  rcases h' with e | e | e | e
  · exact ht.1 e
  · exact ht.2.1 e
  · exact ht.2.2.1 e
  · exact ht.2.2.2 e
theorem HA.sk {n0 : Nat} {w w' : World} {H : Hs} {p : Hp} (h : HA w H p) (ho : Off p.blocks w w') (hn : ∀ b ∈ p.blocks, n0 ≤ b) (hz : n0 ≤ w.heap.size) : Sk0 n0 w w' :=
  ⟨ho.below hn hz, fun k cs t hs ht => Foot.Sits.off hs ho (h.not hs (by rcases ht with rfl | rfl <;> decide))⟩
theorem KeepsOthers.of_foot {F : List Nat} {W W' : World} (h : Off F W W') (hF : ∀ k ∈ F, ∃ t cs, Sits W k t cs) : KeepsOthers W W' :=
  ⟨h.size, fun k o hk hc => (h.block k (Array.getElem?_eq_some_iff.1 hk).1 (fun e => by
    obtain ⟨t, cs, hs⟩ := hF k e
    unfold Sits at hs
    rw [hs] at hk
    cases hk
    cases hc)).trans hk⟩
/-- What holds between two records. -/
def Ir (w : World) (hb cb : Nat) (pre : List Yr) (W : World) : Prop :=
  (∃ p, HA W (hfold hs0 (unY pre)) p ∧ p.hb = hb ∧ ∀ b ∈ p.blocks, w.heap.size ≤ b) ∧ Sits W cb 94 #[.pointer (some ⟨hb, 0, none⟩)] ∧ Below w.heap.size w W
theorem ir_own (w : World) (hb cb B : Nat) (hB : w.heap.size ≤ B) : OwnFrom B (Ir w hb cb) := by
  intro pre W W' row ⟨⟨p, h1, h1a, h1b⟩, h3, h4⟩ hg hr
  have ho := row_off hg
  refine ⟨⟨p, h1.off ho fun k hk => ?_, h1a, h1b⟩, Foot.Sits.off h3 ho (row_not hr h3), h4.trans (ho.below (fun b hb => Nat.le_trans hB (hr b (by simpa using hb)).1) h4.size)⟩
  obtain ⟨t, cs, hs, _⟩ := h1.cells hk
  exact row_not hr hs
theorem hlen (pre : List Et) : ∀ h : Hs, (hfold h pre).sealed.length ≤ h.sealed.length + pre.length ∧ (hfold h pre).odgs.length ≤ h.odgs.length + pre.length ∧ (hfold h pre).osegs.length ≤ h.osegs.length + pre.length + 1 := by
  induction pre with
  | nil => intro h; exact ⟨Nat.le_refl _, Nat.le_refl _, Nat.le_succ _⟩
  | cons x pre ih =>
    intro h
    obtain ⟨h1, h2, h3⟩ := ih (hnext h x)
    have hh : (hent x.1.1 h.osegs).length ≤ h.osegs.length + 1 := by
      unfold hent
      split <;> simp
    have e : hfold h (x :: pre) = hfold (hnext h x) pre := rfl
    have s1 : (hnext h x).sealed.length ≤ h.sealed.length + 1 ∧ (hnext h x).odgs.length ≤ h.odgs.length + 1 ∧ (hnext h x).osegs.length ≤ h.osegs.length + 1 := by
      unfold hnext htk
      split
      · simp
      · split
        · simp
        · simp
          exact hh
    rw [e, List.length_cons]
    omega
def hend (H : Hs) : Hs := if H.odgs = [] then { H with onum := H.g + 1 } else H
/-- A round's frame: where the place and the record lie. -/
def actR (sa : Option Addr) (n sc hb bx : Nat) (u v : Value) (ab rb : Nat) : Act :=
  ⟨#[.slice sa n sc, undef, .pointer none, .pointer (some ⟨hb + 1, 0, none⟩), .pointer (some ⟨ab, 0, none⟩), .pointer (some ⟨rb, 0, none⟩), .agg #[.int .i64 (-1), .int .i64 0], .agg #[.slice none 0 0, .int .i64 0, .slice none 0 0, .slice none 0 0, .int .i64 (-1), .int .i64 (-1), .int .i64 0], .pointer (some ⟨hb, 0, none⟩), .slice sa n sc, .func (.func 99) #[] #[.pointer (some ⟨bx, 0, none⟩)], u, v, undef, undef, undef, undef, undef, undef, undef, undef, undef, undef, undef, undef, undef, undef, undef, undef, undef, undef, undef, undef, undef, undef, undef, undef, undef, undef, undef, undef, undef, undef, undef, undef], []⟩
def Axr (sa : Option Addr) (n sc hb bx : Nat) (x : Yr) (a : Act) (W : World) : Prop :=
  ∃ ab rb, a = actR sa n sc hb bx (.agg #[.int .i64 x.1.1.1, .int .i64 (x.1.1.2 : Int)]) x.1.2.val ab rb ∧ Sits W ab 99 #[.int .i64 x.1.1.1, .int .i64 (x.1.1.2 : Int)] ∧ Sits W rb 121 #[.string ⟨#[x.1.2.k]⟩, .int .i64 x.1.2.n, .string x.1.2.t]
theorem axr_own (sa : Option Addr) (n sc hb bx : Nat) (x : Yr) (a : Act) (B : Nat) : OwnFrom B (fun (_ : Unit) W => Axr sa n sc hb bx x a W) := by
  intro _ W W' row ⟨ab, rb, h1, h2, h3⟩ hg hr
  have ho := row_off hg
  exact ⟨ab, rb, h1, Foot.Sits.off h2 ho (row_not hr h2), Foot.Sits.off h3 ho (row_not hr h3)⟩
theorem Ir.keep {w : World} {hb cb : Nat} {pre : List Yr} {W W' : World} (h : Ir w hb cb pre W) (hb' : Below W.heap.size W W') : Ir w hb cb pre W' := by
  obtain ⟨⟨p, h1, h1a, h1b⟩, h3, h4⟩ := h
  exact ⟨⟨p, h1.keep hb', h1a, h1b⟩, Mem.Sits.below h3 hb' h3.lt, h4.trans (hb'.mono h4.size)⟩
attribute [local go_sem] Oper.semAt_some
set_option maxRecDepth 20000 in
set_option maxHeartbeats 4000000 in
theorem histR (w : World) (hT : Tab w) (hE : Ers w) (sa : Option Addr) (sc : Nat) (l : List (Int × ByteArray)) (ss : List (Int × List Rc)) (hrow : w.ownsRow 0 143 2 (.slice sa l.length sc) l.length (l.flatMap scells)) (ht : Told l ss) (hl : l.length ≤ 1000000000) (hfit : AllFit hs0 (ents ss)) (hN : (ents ss).length ≤ 900000000) (hg : (hfold hs0 (ents ss)).g ≤ 1000000000 ∧ -1 ≤ (hfold hs0 (ents ss)).g) :
    Calls Tryz.prog 42 #[.slice sa l.length sc] w fun e w' => ∃ p, e = .returned (.pointer (some ⟨p.hb, 0, none⟩)) ∧ HA w' (hend (hfold hs0 (ents ss))) p ∧ (∀ b ∈ p.blocks, w.heap.size ≤ b) ∧ Below w.heap.size w w' := by
  refine (callsIn_wide (n := 12)).1 ?_
  refine callsIn_of_wp_marks Tryz.func42 rfl trivial ?_ rfl
  simp only [Tryz.ntmps42, List.size_toArray, List.length_cons, List.length_nil, Nat.reduceAdd, Nat.reduceSub, Array.replicate_succ, Array.replicate_zero, List.push_toArray, List.append_toArray, List.nil_append, List.cons_append]
  have HT := hide hT
  have HE := hide hE
  have HRW := hide hrow
  have HTO := hide ht
  have HFT := hide hfit
  have HG := hide hg
  have hs1 := Sits.new w 101 (hz 0)
  have hb1 := below_new (w := w) (.cells (hz 0) 101)
  have hs2 := Sits.new (w.alloc (.cells (hz 0) 101)) 94 #[.pointer (some ⟨w.heap.size, 0, none⟩)]
  have hb2 := below_new (w := w.alloc (.cells (hz 0) 101)) (.cells #[.pointer (some ⟨w.heap.size, 0, none⟩)] 94)
  have HS1 := hide (Mem.Sits.below hs1 hb2 hs1.lt)
  rw [World.size_alloc] at hs2
  have HS2 := hide hs2
  have HB2 := hide (hb1.trans (hb2.mono hb1.size))
  have HZ := hide (show ((w.alloc (.cells (hz 0) 101)).alloc (.cells #[.pointer (some ⟨w.heap.size, 0, none⟩)] 94)).heap.size = w.heap.size + 2 by simp)
  clear hs1 hb1 hs2 hb2 hT hE hrow ht hfit hg
  unfold hz at HS1 HS2 HB2 HZ
  gi_wp2_with fail
  obtain ⟨hb, hhb⟩ : ∃ hb, w.heap.size = hb := ⟨_, rfl⟩
  rw [hhb] at HS1 HS2 HB2 HZ ⊢
  have HHB := hide hhb
  clear hhb
  generalize (w.alloc (.cells #[.slice none 0 0, .int .i64 0, .slice none 0 0, .slice none 0 0, .int .i64 (-1), .int .i64 (-1), .int .i64 0] 101)).alloc (.cells #[.pointer (some ⟨hb, 0, none⟩)] 94) = w2 at *
  refine ⟨trivial, (callsIn_wide.2 (recF sa l.length sc w2)).mono ?_⟩
  rintro e w3 ⟨rfl, rfl⟩
  have hbx := Sits.new w2 91 #[.slice sa l.length sc]
  have hb3 := below_new (w := w2) (.cells #[.slice sa l.length sc] 91)
  have HB3 := hide (show Below w.heap.size w (w2.alloc (.cells #[.slice sa l.length sc] 91)) by rw [HHB.out]; exact HB2.out.trans (hb3.mono (by have := HZ.out; omega)))
  have HI3 := hide (show Ir w hb (hb + 1) [] (w2.alloc (.cells #[.slice sa l.length sc] 91)) from ⟨⟨⟨hb, .slice none 0 0, [], .slice none 0 0, .slice none 0 0⟩, ⟨Mem.Sits.below HS1.out hb3 HS1.out.lt, World.ownsRow_nil _ _ _ _, rfl, fun x hx => by simp at hx, World.ownsRow_nil _ _ _ _, World.ownsRow_nil _ _ _ _, fun k hk => by simp [Value.ownBlock] at hk⟩, rfl, fun b hb' => by
    simp [Hp.blocks, Value.ownBlock, wblocks] at hb'
    rw [hb', HHB.out]
    exact Nat.le_refl _⟩, Mem.Sits.below HS2.out hb3 HS2.out.lt, HB3.out⟩)
  have HBX := hide hbx
  have HSZ := hide (show hb + 2 < (w2.alloc (.cells #[.slice sa l.length sc] 91)).heap.size by simp; have := HZ.out; omega)
  clear hbx hb3
  gi_wp2_with fail
  generalize w2.alloc (.cells #[.slice sa l.length sc] 91) = w3 at *
  apply wpIn_rangeFunc_ownH (F := Fence.wide) (n := 12) rfl (by decide) (gf := 99) (lb := #[.pointer (some ⟨w2.heap.size, 0, none⟩)]) rfl trivial (enters_of Tryz.func99 (by kernel_rfl) rfl)
    (recSeq w w3 HT.out HE.out HB3.out 11 (by decide) w2.heap.size (.slice sa l.length sc) l ss HBX.out (own_keep HRW.out HB3.out) HTO.out hl) (fun h k => Sk0.trans h k)
    (fun W lp o o' h1 h2 h3 _ => by
      refine ⟨(row_off (grownBy_putObj' W lp o')).below (fun b hb' => ?_) ?_, fun k cs t hs _ => (World.putObj_heap_other (fun e => ?_)).trans hs⟩
      · have e : b = lp := by simpa using hb'
        rw [e]
        exact Nat.le_trans HB3.out.size h1
      · exact Nat.le_trans HB3.out.size (Nat.le_trans h1 (Nat.le_of_lt (Array.getElem?_eq_some_iff.1 h2).1))
      · subst e
        have hs' : W.heap[k]? = _ := hs
        rw [hs'] at h2
        cases h2
        cases h3)
    (Below.refl _ _) (fun _ => rfl) (Ir w hb (hb + 1)) (fun _ pre _ => ¬ AllFit hs0 (unY pre))
    (ir_own w hb (hb + 1) _ HB3.out.size) (fun _ _ _ _ _ h _ _ => h) HI3.out
    (Axr sa l.length sc hb w2.heap.size) (fun x a' => axr_own _ _ _ _ _ _ _ _)
  case hassign =>
    intro lp pre x W K hI hK
    obtain ⟨⟨⟨num, z⟩, ⟨rk, rn, rt⟩⟩, hok⟩ := x
    have hs1 := Sits.new W 99 #[.int .i64 num, .int .i64 (z : Int)]
    have hb1 := below_new (w := W) (.cells #[.int .i64 num, .int .i64 (z : Int)] 99)
    have hs2 := Sits.new (W.alloc (.cells #[.int .i64 num, .int .i64 (z : Int)] 99)) 121 #[.string ⟨#[rk]⟩, .int .i64 rn, .string rt]
    have hb2 := below_new (w := W.alloc (.cells #[.int .i64 num, .int .i64 (z : Int)] 99)) (.cells #[.string ⟨#[rk]⟩, .int .i64 rn, .string rt] 121)
    rw [World.size_alloc] at hs2
    have HF := hide (hK _ _ ((KeepsOthers.of_off (hb1.trans (hb2.mono hb1.size))).from _) (Sk0.of_below (hb1.trans (hb2.mono hb1.size)) hI.2.2.size) (hI.keep (hb1.trans (hb2.mono hb1.size))) ⟨_, _, rfl, Mem.Sits.below hs1 hb2 hs1.lt, hs2⟩)
    clear hK hs1 hs2 hb1 hb2 hI
    simp only [encY, Rc.val]
    gi_wp2_with fail
    exact HF.out
  case hbody =>
    intro lp pre x a' W hle hrec hI hAx hlt
    obtain ⟨⟨⟨num, z⟩, ⟨rk, rn, rt⟩⟩, hok⟩ := x
    obtain ⟨ab, rb, rfl, hsa, hsr⟩ := hAx
    obtain ⟨⟨⟨hb', sv, ws, dv, sg⟩, hA, hphb, hnew⟩, hcb, hbel⟩ := hI
    simp only at hphb
    subst hphb
    simp only at hsa hsr
    obtain ⟨L1, L2, L3⟩ := hlen (unY pre) hs0
    have hpl : (unY pre).length = pre.length := List.length_map ..
    simp only [hs0, List.length_nil, Nat.zero_add] at L1 L2 L3
    have HAF := hide (show AllFit hs0 (unY (pre ++ [(⟨((num, z), ⟨rk, rn, rt⟩), hok⟩ : Yr)])) → hfit (hfold hs0 (unY pre)) ⟨rk, rn, rt⟩ = true from fun h => by
      rw [unY_append, allFit_append] at h
      exact h.2.1)
    have HNX := hide (show hfold hs0 (unY (pre ++ [(⟨((num, z), ⟨rk, rn, rt⟩), hok⟩ : Yr)])) = hnext (hfold hs0 (unY pre)) ((num, z), ⟨rk, rn, rt⟩) by
      rw [unY_append, hfold_append]
      rfl)
    have hd : (hfold hs0 (unY pre)).odgs.length ≤ 1000000000 := by
      unfold hs0
      omega
    have hv : (hfold hs0 (unY pre)).sealed.length ≤ 1000000000 := by
      unfold hs0
      omega
    have hl : (hfold hs0 (unY pre)).osegs.length ≤ 1000000000 := by
      unfold hs0
      omega
    clear L1 L2 L3
    generalize hfold hs0 (unY pre) = H at *
    have hfi := fitsR H ⟨hb', sv, ws, dv, sg⟩ ⟨rk, rn, rt⟩ hok.k W hA
    simp only [Rc.val] at hfi
    have HA0 := hide hA
    have HSA := hide hsa
    have HSR := hide hsr
    have HCB := hide hcb
    have HBE := hide hbel
    have HNE := hide hnew
    have HOKR := hide hok
    have c3 := hcb.cell 0 _ rfl
    have r0 := hsr.cell 0 _ rfl
    have r1 := hsr.cell 1 _ rfl
    have r2 := hsr.cell 2 _ rfl
    clear hA hsa hsr hcb hbel hnew
    simp only [actR, Rc.val]
    gi_wp2_with fail
    refine ⟨trivial, (CallsIn.inRound lp (callsIn_wide.2 hfi)).mono ?_⟩
    clear hfi c3 r0 r1 r2
    rintro e W2 ⟨rfl, hb2⟩
    have HBF := hide hb2
    have HA2 := hide (HA0.out.keep hb2)
    have HSA2 := hide (Mem.Sits.below HSA.out hb2 HSA.out.lt)
    have HSR2 := hide (Mem.Sits.below HSR.out hb2 HSR.out.lt)
    have HCB2 := hide (Mem.Sits.below HCB.out hb2 HCB.out.lt)
    clear hb2
    by_cases hfx : hfit H ⟨rk, rn, rt⟩ = true
    · rw [hfx]
      have htk := takeR H ⟨hb', sv, ws, dv, sg⟩ num ⟨rk, rn, rt⟩ HOKR.out.k W2 HA2.out hd hv hl
      simp only [Rc.val] at htk
      have c3 := HCB2.out.cell 0 _ rfl
      have r0 := HSR2.out.cell 0 _ rfl
      have r1 := HSR2.out.cell 1 _ rfl
      have r2 := HSR2.out.cell 2 _ rfl
      have a0 := HSA2.out.cell 0 _ rfl
      have a1 := HSA2.out.cell 1 _ rfl
      gi_wp2_with fail
      refine ⟨trivial, (CallsIn.inRound lp (callsIn_wide.2 htk)).mono ?_⟩
      clear htk c3 r0 r1 r2 a0 a1
      rintro e W3 ⟨rfl, hq⟩
      obtain ⟨⟨⟨hb3, sv3, ws3, dv3, sg3⟩, hA3, hphb, hn3⟩, ho3⟩ := hq
      simp only at hphb
      subst hphb
      have HA3 := hide hA3
      have HN3 := hide hn3
      have HO3 := hide ho3
      have HSA3 := hide (Foot.Sits.off HSA2.out ho3 (HA2.out.not HSA2.out (by decide)))
      have HCB3 := hide (Foot.Sits.off HCB2.out ho3 (HA2.out.not HCB2.out (by decide)))
      have c3 := HCB3.out.cell 0 _ rfl
      have a0 := HSA3.out.cell 0 _ rfl
      have a1 := HSA3.out.cell 1 _ rfl
      have d5 := hA3.head.cell 5 _ rfl
      have f5 := hA3.head.frozen 5
      have d6 := (hA3.head.set 5 (.int .i64 num)).cell 6 _ rfl
      have f6 := (hA3.head.set 5 (.int .i64 num)).frozen 6
      clear hA3 hn3 ho3
      gi_wp2_with fail
      have hso : Off [hb3] W3 ((W3.setCell ⟨hb3, 5, none⟩ (.int .i64 num)).setCell ⟨hb3, 6, none⟩ (.int .i64 (z : Int))) := ((Off.refl _ _).set (List.mem_singleton.2 rfl) _ _).set (List.mem_singleton.2 rfl) _ _
      have hA4 := HA3.out.num hso (o := (Jr.htk H num ⟨rk, rn, rt⟩).onum) (g := (Jr.htk H num ⟨rk, rn, rt⟩).g) (es := num) (ez := (z : Int)) ((HA3.out.head.set 5 _).set 6 _)
      have hof : Off (Hp.blocks ⟨hb3, sv, ws, dv, sg⟩) W ((W3.setCell ⟨hb3, 5, none⟩ (.int .i64 num)).setCell ⟨hb3, 6, none⟩ (.int .i64 (z : Int))) := ((Off.of_below HBF.out).trans HO3.out).trans (hso.mono fun k _ hk => List.mem_singleton.1 hk ▸ Hp.hb_in _)
      have hzz := HBE.out.size
      refine ⟨(KeepsOthers.of_foot hof (fun k hk => ?_)).from _, HA0.out.sk hof HNE.out hzz, ⟨_, by rw [HNX.out]; exact hA4, rfl, fun b hb => (HN3.out b hb).elim (HNE.out b) fun e => Nat.le_trans hzz (Nat.le_trans HBF.out.size e)⟩, Foot.Sits.off HCB.out hof (HA0.out.not HCB.out (by decide)), HBE.out.trans (hof.below HNE.out hzz)⟩
      obtain ⟨t, cs, hs, _⟩ := HA0.out.cells hk
      exact ⟨t, cs, hs⟩
    · have hfx' : hfit H ⟨rk, rn, rt⟩ = false := by simpa using hfx
      rw [hfx']
      have HFX := hide hfx
      clear hfx
      gi_wp2_with fail
      exact ⟨(KeepsOthers.of_off HBF.out).from _, fun h => HFX.out (HAF.out h)⟩
  case hstop => intro D c pre W hD hSp hIx _; obtain ⟨post, hp⟩ := hSp; exact absurd ((allFit_append hs0 _ post).1 (hp ▸ HFT.out)).1 hIx
  case hdone =>
    intro D xs W hD hS hI hK
    obtain ⟨⟨⟨hb', sv, ws, dv, sg⟩, hA, hphb, hnew⟩, hcb, hbel⟩ := hI
    simp only at hphb
    subst hphb
    rw [hS] at hA
    have HI1 := hide hA
    have HI2 := hide hcb
    have HI4 := hide hbel
    have HNE := hide hnew
    have HKD := hide hK
    have hgr := HG.out
    have HDH := hide hD
    clear hA hcb hbel hnew hS hD HFT HG
    obtain ⟨H, hH⟩ : ∃ H, hfold hs0 (ents ss) = H := ⟨_, rfl⟩
    rw [hH] at HI1 hgr
    have HHX := hide hH
    clear hH
    obtain ⟨da, dc, hdv⟩ := own_shapeJ HI1.out.dv
    simp only at hdv
    subst hdv
    have hc := HI2.out.cell 0 _ rfl
    have hd := HI1.out.head.cell 2 _ rfl
    have HDW := hide (show D ∉ [hb'] from fun e => by
      have h1 := HI1.out.head
      unfold Sits at h1
      rw [← List.mem_singleton.1 e, HKD.out] at h1
      cases h1)
    have hzz : w.heap.size ≤ D := Nat.le_trans HB3.out.size HDH.out
    by_cases hod : H.odgs = []
    · have HHE := hide (show hend H = { H with onum := H.g + 1 } by unfold hend; rw [if_pos hod])
      have hol : H.odgs.length = 0 := by rw [hod]; rfl
      rw [hol] at hd
      clear hod
      gi_wp2_with fail
      rename_i hKc
      have HKK := hide hKc
      have C0 : ∀ s : Bw W, s.val.cell? ⟨hb' + 1, 0, none⟩ = some (.pointer (some ⟨hb', 0, none⟩)) := fun s => (Mem.Sits.below HI2.out s.is HI2.out.lt).cell 0 _ rfl
      have C4 : ∀ s : Bw W, s.val.cell? ⟨hb', 4, none⟩ = some (.int .i64 H.g) := fun s => (HI1.out.keep s.is).head.cell 4 _ rfl
      have hwr : IntKind.i64.wrap (H.g + 1) = H.g + 1 := IntWalk.i64_in _ (by omega)
      clear hKc hc hd
      refine wpIn_wide.2 (region_pre 10 (by kernel_rfl) (by kernel_rfl) ?_)
      simp only [List.take_succ_cons, List.take_zero, List.drop_succ_cons, List.drop_zero]
      repeat (first
        | go_big_quiet_skip
        | (go_big_quiet_want; go_big_quiet_op; go_big_quiet_on))
      refine wpQuiet_nil ?_
      intro s
      have HB5 := hide s.is
      have HJ1 := hide (HI1.out.keep s.is)
      have HJ2 := hide (Mem.Sits.below HI2.out s.is HI2.out.lt)
      have HJD := hide (show s.val.heap[D]? = some (.deferred (some [])) from (s.is.block D (Array.getElem?_eq_some_iff.1 HKD.out).1).trans HKD.out)
      clear C0 C4
      generalize s.val = W2 at *
      have d1 := HJ1.out.head.cell 1 _ rfl
      have f1 := HJ1.out.head.frozen 1
      go_wp2_with fail
      refine HKK.out _ _ ?_
      have hso : Off [hb'] W2 (W2.setCell ⟨hb', 1, none⟩ (.int .i64 (H.g + 1))) := (Off.refl _ _).set (List.mem_singleton.2 rfl) _ _
      have h1s := HJ1.out.num hso (o := H.g + 1) (g := H.g) (es := H.es) (ez := H.ez) (HJ1.out.head.set 1 _)
      have h2s := Foot.Sits.off HJ2.out hso (by simp)
      have hD3 := (hso.block D (Array.getElem?_eq_some_iff.1 HJD.out).1 HDW.out).trans HJD.out
      have HB6 := hide (HI4.out.trans ((HB5.out.mono HI4.out.size).trans (hso.below (fun b hm => by rw [List.mem_singleton.1 hm]; exact HNE.out _ (Hp.hb_in _)) (Nat.le_trans HI4.out.size HB5.out.size))))
      have HT1 := hide h1s
      have HD3 := hide hD3
      have cc := h2s.cell 0 _ rfl
      clear hso h1s h2s hD3 d1 f1
      generalize W2.setCell ⟨hb', 1, none⟩ (.int .i64 (H.g + 1)) = W3 at *
      gi_wp2_with fail
      have hsd : Off [D] W3 (W3.putObj D (.deferred none)) := row_off (grownBy_putObj' W3 D _)
      refine ⟨by simp, .inl ⟨_, _, rfl, run_takeDeferred HD3.out, ?_⟩⟩
      refine ⟨_, results_tmp rfl _ _ _, ⟨hb', sv, ws, .slice da H.odgs.length dc, sg⟩, rfl, ?_, HNE.out, HB6.out.trans (hsd.below (fun b hm => by rw [List.mem_singleton.1 hm]; exact hzz) HB6.out.size)⟩
      rw [HHX.out, HHE.out]
      refine HT1.out.off hsd fun k hk e => ?_
      obtain ⟨t, cs, hs, _⟩ := HT1.out.cells hk
      unfold Sits at hs
      rw [List.mem_singleton.1 e, HD3.out] at hs
      cases hs
    · have HHE := hide (show hend H = H by unfold hend; rw [if_neg hod])
      have hol : ¬ (H.odgs.length : Int) = 0 := fun e => hod (List.length_eq_zero_iff.1 (by omega))
      clear hod
      gi_wp2_with fail
      have hsd : Off [D] W (W.putObj D (.deferred none)) := row_off (grownBy_putObj' W D _)
      refine ⟨by simp, .inl ⟨_, _, rfl, run_takeDeferred HKD.out, ?_⟩⟩
      refine ⟨_, results_tmp rfl _ _ _, ⟨hb', sv, ws, .slice da H.odgs.length dc, sg⟩, rfl, ?_, HNE.out, HI4.out.trans (hsd.below (fun b hm => by rw [List.mem_singleton.1 hm]; exact hzz) HI4.out.size)⟩
      rw [HHX.out, HHE.out]
      refine HI1.out.off hsd fun k hk e => ?_
      obtain ⟨t, cs, hs, _⟩ := HI1.out.cells hk
      unfold Sits at hs
      rw [List.mem_singleton.1 e, HKD.out] at hs
      cases hs
end Go.Proofs.YtmkidefdegaamaaGreatDoor.Jr
namespace Go.Proofs.YtmkidefdegaamaaGreatDoor.Jr
open Go.RowKit Go.Maps Mem Foot Bytes Im Wm Hi Plainw Cq Dm Dh Dd
theorem infoSeg : (Tryz.prog.info? 143).map (fun i => (i.zero, i.size, i.bytes)) = some (some (.agg #[.int .i64 0, .string ⟨#[]⟩]), 2, 24) := by kernel_rfl
theorem src_two (w : World) (x y : Value) (t : TypeId) (hx : x.oneCell' = true) (hy : y.oneCell' = true) : Apn.Src (w.alloc (.cells #[x, y] t)) 2 (some ⟨w.heap.size, 0, none⟩) 1 [x, y] := by
  refine ⟨rfl, fun u hu => ?_, Or.inr ⟨_, rfl, fun j u hj => ?_⟩⟩
  · simp at hu
    rcases hu with rfl | rfl
    · exact hx
    · exact hy
  · have hs := Sits.new w t #[x, y]
    have : (⟨w.heap.size, 0, none⟩ : Addr).add j = ⟨w.heap.size, j, none⟩ := by simp [Addr.add]; intro h; exact h.symm
    rw [this]
    exact hs.cell j u (by simpa using hj)
theorem own_base {w : World} {a c size n : Nat} {e : TypeId} {v : Value} {xs : List Value} (h : w.ownsRow a e size v n xs) (hc : c ≤ a) : w.ownsRow c e size v n xs := by
  refine ⟨h.1, ?_⟩
  rcases h.2 with h0 | ⟨g, cap, cur, rfl, h1, h2⟩
  · exact Or.inl h0
  · exact Or.inr ⟨g, cap, cur, rfl, Nat.le_trans hc h1, h2⟩
/-- A disk's segments: number and text. -/
def sgs (S : Dk) : List (Int × ByteArray) := S.segs.map fun s => (s.num, s.text)
set_option maxRecDepth 10000 in
set_option maxHeartbeats 2000000 in
theorem segsR (bx ba cap : Nat) (bs : List Nat) (S : Dk) (w : World) (hP : PD w bx S ba cap bs) (hl : S.left = -1) (hg : Dm.Good S) (hn : S.segs.length ≤ 1000000000) :
    Calls Tryz.prog 41 #[.pointer (some ⟨bx, 0, none⟩)] w fun e w' => ∃ sa sc, e = .returned (.tuple #[.slice sa (sgs S).length sc, .nilIface]) ∧ w'.ownsRow w.heap.size 143 2 (.slice sa (sgs S).length sc) (sgs S).length ((sgs S).flatMap scells) ∧ Below w.heap.size w w' := by
  have hlen := hP.len
  have hbl : bs.length ≤ 1000000000 := by omega
  have hli := list bx ba cap bs S w hP hbl
  have hd : doList S = (S.segs.map (·.num), 0) := by unfold doList; rw [if_neg (by rw [hl]; decide)]
  rw [hd] at hli
  obtain ⟨i0, hi, hz0, hz1, hz2⟩ := info_parts infoSeg
  have HP := hide hP
  have HL := hide hl
  have HG := hide hg
  have hsl : (sgs S).length = S.segs.length := by simp [sgs]
  clear hP hl hlen hd hg
  go_enter Tryz.func41, Tryz.ntmps41
  go_wp2_with fail
  refine hli.mono ?_
  clear hli
  rintro e w1 ⟨v, rfl, hv, hb⟩
  obtain ⟨a, c, rfl⟩ := own_shapeJ hv
  have HB := hide hb
  have HV := hide hv
  clear hv hb
  simp only [List.length_map] at HV ⊢
  go_wp2_with fail
  go_loopw [6, 22] (fun r s wr => ∃ (k : Nat) (ao : Option Addr) (cv : Nat), r = .slice ao k cv ∧ s = .int .i64 (k : Int) ∧ k ≤ S.segs.length ∧ Hid (wr.ownsRow w1.heap.size 143 2 (.slice ao k cv) k (((sgs S).take k).flatMap scells)) ∧ Hid (Below w1.heap.size w1 wr)) (fun _ s _ => S.segs.length - (intOf s).toNat)
  case atStart => exact ⟨0, none, 0, rfl, rfl, Nat.zero_le _, World.ownsRow_nil _ _ _ _, Below.refl _ _⟩
  case round =>
    obtain ⟨k, ao, cv, rfl, rfl, hk, HO, HBL⟩ := hrel
    have HBW := hide (HB.out.trans (HBL.out.mono HB.out.size))
    by_cases hkl : k < S.segs.length
    · have hkz : (k : Int) < (S.segs.length : Int) := by omega
      obtain ⟨s, hs⟩ : ∃ s, S.segs[k]? = some s := ⟨_, List.getElem?_eq_getElem hkl⟩
      have hnum : (S.segs.map (·.num))[k]? = some s.num := by rw [List.getElem?_map, hs]; rfl
      obtain ⟨g, cap', hv, hcap, hgl, hcell⟩ := row_ints (l := S.segs.map (·.num)) (w := wr) (base := w.heap.size) (v := .slice a S.segs.length c) (by rw [List.length_map]; exact own_keep HV.out HBL.out) hnum
      rw [List.length_map] at hv hcap
      injection hv with e1 _ e3
      subst e1
      subst e3
      have hrd := read bx ba cap bs S s.num wr (HP.out.keep HBW.out) hbl
      rw [read_calm HL.out HG.out (List.mem_of_getElem? hs)] at hrd
      have HTK := hide (show ((sgs S).take k).flatMap scells ++ [.int .i64 s.num, .string s.text] = ((sgs S).take (k + 1)).flatMap scells by
        have h1 : (sgs S)[k]? = some (s.num, s.text) := by unfold sgs; rw [List.getElem?_map, hs]; rfl
        rw [List.take_add_one, h1, List.flatMap_append]
        rfl)
      clear hs hnum
      go_wp2_with fail
      refine hrd.mono ?_
      clear hrd
      rintro e wx ⟨rfl, rfl⟩
      have HSC := hide (src_two wr (.int .i64 s.num) (.string s.text) 143 rfl rfl)
      have HOA := hide (HO.out.alloc (.cells #[.int .i64 s.num, .string s.text] 143))
      have hzz := HBL.out.size
      go_wp2_with (at_builtin; refine Apn.wpList_own _ rfl _ _ 91 rfl w1.heap.size 143 i0 (.agg #[.int .i64 0, .string ⟨#[]⟩]) 2 24 Tryz.underlying91 hi hz0 hz1 hz2 rfl (by decide) _ _ _ rfl HOA.out _ 1 1 [.int .i64 s.num, .string s.text] rfl HSC.out (by unfold maxLen; omega) (by omega) (by simp; omega) ?_; intro v2 w2 hown2 hg2 hn2; obtain ⟨ao2, cv2, rfl⟩ := Own.shape hown2; have HW2 := hide hown2; have HG2 := hide hg2; clear hown2 hg2 hn2)
      go_roundw
      case rel => exact ⟨k + 1, ao2, cv2, rfl, by go_num, by omega, by rw [← HTK.out]; exact HW2.out, Own.below_more HBL.out HBL.out.size HO.out HG2.out⟩
      case measure => simp only [intOf]; omega
    · have hkz : ¬ (k : Int) < (S.segs.length : Int) := by omega
      obtain rfl : k = S.segs.length := by omega
      go_wp2_with fail
      refine bodyPost_ret (results_tmp2 rfl _ _ _) rfl ?_
      refine ⟨ao, cv, rfl, ?_, HBW.out⟩
      have := HO.out
      rw [List.take_of_length_le (by omega)] at this
      exact own_base this HB.out.size
/-- The segments in which something stands that counts. -/
def husd (H : Hs) : List Int := H.sealed.flatMap (·.2.2) ++ H.osegs
theorem wcells_at : ∀ {l : List Wn} {i : Nat} {x : Wn}, l[i]? = some x → (l.flatMap Wn.cells)[i * 3]? = some (.int .i64 x.num) ∧ (l.flatMap Wn.cells)[i * 3 + 1]? = some x.dv ∧ (l.flatMap Wn.cells)[i * 3 + 2]? = some x.sg := by
  intro l
  induction l with
  | nil => intro i x h; cases h
  | cons y l ih =>
    intro i x h
    cases i with
    | zero =>
      simp only [List.getElem?_cons_zero, Option.some.injEq] at h
      subst h
      exact ⟨rfl, rfl, rfl⟩
    | succ i =>
      have h1 := ih (by simpa using h)
      have h0 : ∀ j, ((y :: l).flatMap Wn.cells)[(i + 1) * 3 + j]? = (l.flatMap Wn.cells)[i * 3 + j]? := fun j => by
        rw [List.flatMap_cons, show (i + 1) * 3 + j = i * 3 + j + 1 + 1 + 1 by omega]
        rfl
      exact ⟨(h0 0).trans h1.1, (h0 1).trans h1.2.1, (h0 2).trans h1.2.2⟩
theorem src_ints {w : World} {v : Value} {l : List Int} (h : w.ownsRow 0 3 1 v l.length (l.map (Value.int .i64))) : ∃ a c, v = .slice a l.length c ∧ Apn.Src w 1 a l.length (l.map (Value.int .i64)) := by
  have h1 := h.1
  rcases h.2 with ⟨e, h0⟩ | ⟨g, cap, cur, rfl, _, hg, _, _, _, ht⟩
  · refine ⟨none, 0, by rw [e, h0], h1, fun u hu => ?_, Or.inl h0⟩
    obtain ⟨x, _, rfl⟩ := List.mem_map.1 hu
    rfl
  · refine ⟨_, _, rfl, h1, fun u hu => ?_, Or.inr ⟨⟨g, 0, none⟩, rfl, fun j u hj => ?_⟩⟩
    · obtain ⟨x, _, rfl⟩ := List.mem_map.1 hu
      rfl
    · have hs : Sits w g 3 cur := hg
      rw [← ht, List.getElem?_take] at hj
      split at hj
      · have : (⟨g, 0, none⟩ : Addr).add j = ⟨g, j, none⟩ := by simp [Addr.add]; intro h; exact h.symm
        rw [this]
        exact hs.cell j u (by simpa using hj)
      · cases hj
/-- The segments of these windows. -/
def wsegs (l : List Wn) : List Int := l.flatMap (·.ss)
theorem sum_take (l : List Wn) (k : Nat) : (wsegs (l.take k)).length ≤ (wsegs l).length := by
  unfold wsegs
  conv => rhs; rw [← List.take_append_drop k l, List.flatMap_append, List.length_append]
  omega
theorem wsegs_next {l : List Wn} {k : Nat} {x : Wn} (h : l[k]? = some x) : wsegs (l.take (k + 1)) = wsegs (l.take k) ++ x.ss := by
  unfold wsegs
  rw [List.take_add_one, h, List.flatMap_append]
  simp
set_option maxRecDepth 10000 in
set_option maxHeartbeats 2000000 in
theorem usedR (H : Hs) (p : Hp) (w : World) (h : HA w H p) (hn : H.sealed.length ≤ 1000000000) (hu : (husd H).length ≤ 1000000000) :
    Calls Tryz.prog 76 #[.pointer (some ⟨p.hb, 0, none⟩)] w fun e w' => ∃ ua uc, e = .returned (.slice ua (husd H).length uc) ∧ w'.ownsRow w.heap.size 3 1 (.slice ua (husd H).length uc) (husd H).length ((husd H).map (Value.int .i64)) ∧ Below w.heap.size w w' := by
  have hws : p.ws.length = H.sealed.length := by rw [← h.is, List.length_map]
  obtain ⟨us, hus⟩ : ∃ us, husd H = us := ⟨_, rfl⟩
  have hus2 : us = wsegs p.ws ++ H.osegs := by
    rw [← hus]
    unfold husd wsegs
    rw [← h.is, List.flatMap_map]
    rfl
  rw [hus] at hu ⊢
  have hul : us.length = (wsegs p.ws).length + H.osegs.length := by rw [hus2, List.length_append]
  have HUS := hide hus2
  clear hus hus2
  obtain ⟨hb, sv, ws, dv, sg⟩ := p
  simp only at hws hul HUS ⊢
  obtain ⟨va, vc, hsv⟩ := own_shapeJ h.sv
  simp only at hsv
  subst hsv
  have HA0 := hide h
  have HUL := hide hul
  have hwl : (wsegs ws).length + H.osegs.length ≤ 1000000000 := by omega
  obtain ⟨i0, hi, hz0, hz1, hz2⟩ := info_parts infoI
  have c0 : w.cell? ⟨hb, 0, none⟩ = some (.slice va H.sealed.length vc) := h.head.cell 0 _ rfl
  have HWS := hide hws
  clear h hul hu hws
  go_enter Tryz.func76, Tryz.ntmps76
  go_wp2_with fail
  clear c0
  go_loopw [3, 12] (fun r s wr => ∃ (k : Nat) (ao : Option Addr) (cv : Nat), r = .slice ao (wsegs (ws.take k)).length cv ∧ s = .int .i64 (k : Int) ∧ k ≤ H.sealed.length ∧ Hid (wr.ownsRow w.heap.size 3 1 (.slice ao (wsegs (ws.take k)).length cv) (wsegs (ws.take k)).length ((wsegs (ws.take k)).map (Value.int .i64))) ∧ Hid (Below w.heap.size w wr)) (fun _ s _ => H.sealed.length - (intOf s).toNat)
  case atStart => exact ⟨0, none, 0, rfl, rfl, Nat.zero_le _, World.ownsRow_nil _ _ _ _, Below.refl _ _⟩
  case round =>
    obtain ⟨k, ao, cv, rfl, rfl, hk, HO, HBL⟩ := hrel
    have HH := hide (HA0.out.keep HBL.out)
    have hst := sum_take ws k
    by_cases hkl : k < H.sealed.length
    · have hkz : (k : Int) < (H.sealed.length : Int) := by omega
      obtain ⟨x, hx⟩ : ∃ x, ws[k]? = some x := ⟨_, List.getElem?_eq_getElem (by rw [HWS.out]; exact hkl)⟩
      obtain ⟨r0, r1, r2⟩ := wcells_at hx
      obtain ⟨g, cap', hv, hcap, ⟨cs, hsg⟩, d0⟩ := row_cell HH.out.sv r0
      obtain ⟨g1, cap1, hv1, _, _, d1⟩ := row_cell HH.out.sv r1
      obtain ⟨g2, cap2, hv2, _, _, d2⟩ := row_cell HH.out.sv r2
      simp only at hv hv1 hv2
      rw [hv1] at hv2
      rw [hv] at hv1
      injection hv with e1 _ e3
      injection hv1 with e4 _ _
      injection hv2 with e5 _ _
      have eg1 : g = g1 := by injection e4 with e; injection e
      have eg2 : g1 = g2 := by injection e5 with e; injection e
      subst eg2
      subst eg1
      subst e1
      subst e3
      clear e4 e5
      have hxm := List.mem_of_getElem? hx
      obtain ⟨da, dc, hdv⟩ := own_shapeJ (HA0.out.ws x hxm).d
      obtain ⟨xa, xc, hxs, hxsrc⟩ := src_ints (HA0.out.ws x hxm).s
      rw [hdv] at d1
      rw [hxs] at d2
      have hst2 := sum_take ws (k + 1)
      rw [wsegs_next hx, List.length_append] at hst2
      have HTK := hide (wsegs_next hx)
      have HXS := hide (show Apn.Src (wr.alloc (.cells #[.int .i64 x.num, .slice da x.ds.length dc, .slice xa x.ss.length xc] 60)) 1 xa x.ss.length (x.ss.map (Value.int .i64)) by
        obtain ⟨a', c', e, hs⟩ := src_ints (own_keep (own_keep (HA0.out.ws x hxm).s HBL.out) (below_new (.cells #[.int .i64 x.num, .slice da x.ds.length dc, .slice xa x.ss.length xc] 60)))
        rw [hxs] at e
        injection e with e _ _
        rw [← e] at hs
        exact hs)
      have HOA := hide (HO.out.alloc (.cells #[.int .i64 x.num, .slice da x.ds.length dc, .slice xa x.ss.length xc] 60))
      have hzz := HBL.out.size
      clear hx r0 r1 r2 hxsrc hsg hxs hdv
      obtain ⟨n1, hn1⟩ : ∃ n1, (wsegs (ws.take k)).length = n1 := ⟨_, rfl⟩
      rw [hn1] at hst hst2 HO HOA ⊢
      have HN1 := hide hn1
      clear hn1
      go_wp2_with (at_builtin; refine Apn.wpList_own _ rfl _ _ 46 rfl w.heap.size 3 i0 (.int .i64 0) 1 8 Tryz.underlying46 hi hz0 hz1 hz2 rfl (by decide) _ _ _ rfl HOA.out xa x.ss.length xc (x.ss.map (Value.int .i64)) rfl HXS.out (by unfold maxLen; omega) (by omega) (by simp; omega) ?_; intro v2 w2 hown2 hg2 hn2; obtain ⟨ao2, cv2, rfl⟩ := Own.shape hown2; have HW2 := hide hown2; have HG2 := hide hg2; clear hown2 hg2 hn2)
      go_roundw
      case rel =>
        have hln : (wsegs (ws.take (k + 1))).length = n1 + x.ss.length := by rw [HTK.out, List.length_append, HN1.out]
        refine ⟨_, _, _, ⟨k + 1, ao2, cv2, ?_, by go_num, by omega, ?_, Own.below_more HBL.out HBL.out.size HO.out HG2.out⟩, rfl, rfl, rfl⟩
        · rw [hln]
        · rw [hln, HTK.out, List.map_append]
          exact HW2.out
      case measure => simp only [intOf]; omega
    · have hkz : ¬ (k : Int) < (H.sealed.length : Int) := by omega
      obtain rfl : k = H.sealed.length := by omega
      have htk : ws.take H.sealed.length = ws := List.take_of_length_le (by rw [HWS.out]; exact Nat.le_refl _)
      rw [htk] at HO ⊢
      obtain ⟨xa, xc, hxs, hxsrc⟩ := src_ints HH.out.sg
      simp only at hxs
      subst hxs
      have c3 : wr.cell? ⟨hb, 3, none⟩ = some (.slice xa H.osegs.length xc) := HH.out.head.cell 3 _ rfl
      have HXS := hide hxsrc
      have hzz := HBL.out.size
      clear hxsrc htk hst
      obtain ⟨n1, hn1⟩ : ∃ n1, (wsegs ws).length = n1 := ⟨_, rfl⟩
      rw [hn1] at HO HUL hwl ⊢
      clear hn1
      go_wp2_with (at_builtin; refine Apn.wpList_own _ rfl _ _ 46 rfl w.heap.size 3 i0 (.int .i64 0) 1 8 Tryz.underlying46 hi hz0 hz1 hz2 rfl (by decide) _ _ _ rfl HO.out xa H.osegs.length xc (H.osegs.map (Value.int .i64)) rfl HXS.out (by unfold maxLen; omega) (by omega) (by omega) ?_; intro v2 w2 hown2 hg2 hn2; obtain ⟨ao2, cv2, rfl⟩ := Own.shape hown2; have HW2 := hide hown2; have HG2 := hide hg2; clear hown2 hg2 hn2)
      go_ret
      refine ⟨ao2, cv2, by rw [HUL.out]; rfl, ?_, Own.below_grown HBL.out HBL.out.size HO.out HG2.out⟩
      rw [HUL.out, HUS.out, List.map_append]
      exact HW2.out
end Go.Proofs.YtmkidefdegaamaaGreatDoor.Jr
namespace Go.Proofs.YtmkidefdegaamaaGreatDoor.Jr
open Bytes
/-- A record that the journal writes there. -/
structure Cl (h : Hs) (x : Et) : Prop where
  fit : hfit h x.2 = true
  ok : x.2.Ok
  base : x.2.k = 98 → h.osegs = []
  own : x.1.1 ∉ h.sealed.flatMap (·.2.2)
  head : h.osegs = [] → h.g ≠ -1 → x.2.k = 98 ∧ x.2.n = h.g
def AllCl : Hs → List Et → Prop
  | _, [] => True
  | h, x :: l => Cl h x ∧ AllCl (hnext h x) l
theorem allCl_append (h : Hs) (a b : List Et) : AllCl h (a ++ b) ↔ AllCl h a ∧ AllCl (hfold h a) b := by
  induction a generalizing h with
  | nil => simp [AllCl, hfold]
  | cons x a ih =>
    show (_ ∧ AllCl _ (a ++ b)) ↔ (_ ∧ _) ∧ _
    rw [ih]
    exact and_assoc.symm
theorem AllCl.fits {h : Hs} {l : List Et} (hc : AllCl h l) : AllFit h l := by
  induction l generalizing h with
  | nil => trivial
  | cons x l ih => exact ⟨hc.1.fit, ih hc.2⟩
theorem hent_new {seg : Int} {l : List Int} (h : seg ∉ l) : hent seg l = l ++ [seg] := by
  unfold hent
  rw [if_neg]
  intro e
  exact h (List.mem_of_getLast? e)
theorem hent_last {seg : Int} {l : List Int} (h : l.getLast? = some seg) : hent seg l = l := by
  unfold hent
  rw [if_pos h]
theorem hnext_parts (h : Hs) (x : Et) : (hnext h x).sealed = (htk h x.1.1 x.2).sealed ∧ (hnext h x).osegs = (htk h x.1.1 x.2).osegs := ⟨rfl, rfl⟩
/-- The first record of a segment. -/
theorem husd_new {h : Hs} {x : Et} (hc : Cl h x) (hn : x.1.1 ∉ husd h) : husd (hnext h x) = husd h ++ [x.1.1] := by
  have hn2 : x.1.1 ∉ h.osegs := fun e => hn (List.mem_append_right _ e)
  unfold husd
  rw [(hnext_parts h x).1, (hnext_parts h x).2]
  unfold htk
  split
  · rename_i hk
    rw [hc.base hk, List.append_nil]
  · split
    · simp only [List.flatMap_append, List.flatMap_cons, List.flatMap_nil, List.append_nil]
      rw [hent_new hn2, List.append_assoc]
    · simp only
      rw [hent_new hn2, List.append_assoc]
/-- A further record of a segment. -/
theorem husd_same {h : Hs} {x : Et} {A : List Int} (hc : Cl h x) (hn : husd h = A ++ [x.1.1]) : husd (hnext h x) = husd h := by
  have ho : h.osegs.getLast? = some x.1.1 := by
    rcases List.eq_nil_or_concat h.osegs with e | ⟨o, y, e⟩
    · exfalso
      unfold husd at hn
      rw [e, List.append_nil] at hn
      exact hc.own (by rw [hn]; simp)
    · rw [List.concat_eq_append] at e
      unfold husd at hn
      rw [e, ← List.append_assoc] at hn
      have := (List.append_inj' hn rfl).2
      rw [e]
      simp at this
      simp [this]
  unfold husd
  rw [(hnext_parts h x).1, (hnext_parts h x).2]
  unfold htk
  split
  · rename_i hk
    rw [hc.base hk] at ho
    cases ho
  · split
    · simp only [List.flatMap_append, List.flatMap_cons, List.flatMap_nil, List.append_nil]
      rw [hent_last ho]
    · simp only
      rw [hent_last ho]
theorem husd_rest {n : Int} {A : List Int} : ∀ (rs : List Rc) (z : Nat) (h : Hs), AllCl h (ents1 n z rs) → husd h = A ++ [n] → husd (hfold h (ents1 n z rs)) = A ++ [n]
  | [], _, _, _, hh => hh
  | r :: rs, z, h, hc, hh => by
    have h1 := husd_same (h := h) (x := ((n, z + r.tx.length), r)) hc.1 hh
    exact husd_rest rs _ _ hc.2 (h1.trans hh)
theorem husd_seg {n : Int} {rs : List Rc} {h : Hs} (hne : rs ≠ []) (hc : AllCl h (ents1 n 0 rs)) (hn : n ∉ husd h) : husd (hfold h (ents1 n 0 rs)) = husd h ++ [n] := by
  cases rs with
  | nil => exact absurd rfl hne
  | cons r rs => exact husd_rest rs _ _ hc.2 (husd_new (x := ((n, 0 + r.tx.length), r)) hc.1 hn)
theorem husd_all : ∀ (R : List (Int × List Rc)) (h : Hs), (∀ p ∈ R, p.2 ≠ []) → AllCl h (ents R) → R.Pairwise (fun p q => p.1 < q.1) → (∀ p ∈ R, ∀ y ∈ husd h, y < p.1) → husd (hfold h (ents R)) = husd h ++ R.map (·.1)
  | [], h, _, _, _, _ => by simp [ents, hfold]
  | p :: R, h, hne, hc, hp, hl => by
    have he : ents (p :: R) = ents1 p.1 0 p.2 ++ ents R := rfl
    rw [he] at hc ⊢
    rw [allCl_append] at hc
    rw [List.pairwise_cons] at hp
    have h1 := husd_seg (n := p.1) (hne p (List.mem_cons_self ..)) hc.1 (fun e => by
      have := hl p (List.mem_cons_self ..) _ e
      omega)
    rw [hfold_append, husd_all R _ (fun q hq => hne q (List.mem_cons_of_mem _ hq)) hc.2 hp.2 (fun q hq y hy => by
      rw [h1] at hy
      rcases List.mem_append.1 hy with hy | hy
      · exact hl q (List.mem_cons_of_mem _ hq) y hy
      · rw [List.mem_singleton.1 hy]
        exact hp.1 q hq), h1]
    simp
end Go.Proofs.YtmkidefdegaamaaGreatDoor.Jr
namespace Go.Proofs.YtmkidefdegaamaaGreatDoor.Jr
open Bytes Im Dm
def view (s : Seg) : Int × Bs := (s.num, B s.text)
theorem view_turn {l : List Seg} {V : List (Int × Bs)} {n : Int} {v : Bs} (t : ByteArray) (hv : l.map view = V ++ [(n, v)]) (hr : l.Pairwise fun a b => a.num < b.num) : (turn n (fun s => { s with text := s.text ++ t }) l).map view = V ++ [(n, v ++ B t)] := by
  obtain ⟨l0, l1, rfl, h0, h1⟩ := List.map_eq_append_iff.1 hv
  obtain ⟨s, rfl, hs⟩ := List.map_eq_singleton_iff.1 h1
  unfold view at hs
  injection hs with e1 e2
  rw [List.pairwise_append] at hr
  unfold turn
  rw [List.map_append, List.map_append]
  congr 1
  · rw [← h0, List.map_map]
    refine List.map_congr_left fun q hq => ?_
    have := hr.2.2 q hq s (List.mem_singleton.2 rfl)
    show view (if q.num = n then _ else q) = view q
    rw [if_neg (by omega)]
  · show [view (if s.num = n then _ else s)] = _
    rw [if_pos e1]
    show [(s.num, B (s.text ++ t))] = _
    rw [B_append, e1, e2]
theorem view_same (n : Int) (l : List Seg) : (turn n (fun s => { s with syn := s.text.size }) l).map view = l.map view := by
  unfold turn
  rw [List.map_map]
  refine List.map_congr_left fun q _ => ?_
  show view (if q.num = n then _ else q) = view q
  split <;> rfl
theorem ensure_end {n : Int} : ∀ {l : List Seg}, (∀ s ∈ l, s.num < n) → ensure n l = l ++ [⟨n, ⟨#[]⟩, 0⟩]
  | [], _ => rfl
  | s :: l, h => by
    have hs := h s (List.mem_cons_self ..)
    rw [ensure, if_neg (by omega), if_neg (by omega), ensure_end fun q hq => h q (List.mem_cons_of_mem _ hq)]
    rfl
/-- R: all records by segments; the last ones of the last one, b, are not synced. -/
structure Kseg (J : Jn) (S : Dk) (R : List (Int × List Rc)) (b : List Rc) : Prop where
  calm : Jcalm J S
  segs : S.segs.map view = R.map fun p => (p.1, stx p.2)
  syn : ∀ s ∈ S.segs, J.opn = [] ∨ s.num ≠ jlast J → s.syn = s.text.size
  last : J.opn ≠ [] → ∃ R0 a, R = R0 ++ [(jlast J, a ++ b)] ∧ J.synced = (stx a).length ∧ B J.uns = stx b
  lsyn : J.opn ≠ [] → ∀ s ∈ S.segs, s.num = jlast J → s.syn = J.synced
  nob : J.opn = [] → b = []
theorem Kseg.nums {J : Jn} {S : Dk} {R : List (Int × List Rc)} {b : List Rc} (h : Kseg J S R b) : S.segs.map (·.num) = R.map (·.1) := by
  have h1 := congrArg (List.map Prod.fst) h.segs
  rw [List.map_map, List.map_map] at h1
  exact h1
theorem Kseg.rise {J : Jn} {S : Dk} {R : List (Int × List Rc)} {b : List Rc} (h : Kseg J S R b) : R.Pairwise fun p q => p.1 < q.1 := by
  have h1 := List.pairwise_map.2 h.calm.good.rise
  rw [h.nums, List.pairwise_map] at h1
  exact h1
theorem bytes_B (l : Bs) : B (bytesOf l) = l := by simp [bytesOf, B]
/-- A record more in the last segment. -/
theorem Kseg.add {J : Jn} {S : Dk} {R : List (Int × List Rc)} {b : List Rc} (h : Kseg J S R b) (hne : J.opn ≠ []) (r : Rc) :
    ∃ S' R0 rs, R = R0 ++ [(jlast J, rs)] ∧ jadd J S (bytesOf r.tx) = ({ J with uns := J.uns ++ bytesOf r.tx }, S', 0) ∧ Kseg { J with uns := J.uns ++ bytesOf r.tx } S' (R0 ++ [(jlast J, rs ++ [r])]) (b ++ [r]) := by
  obtain ⟨R0, a, hR, hsy, hun⟩ := h.last hne
  obtain ⟨s, hs, h1, h2⟩ := h.calm.last hne
  obtain ⟨S', hj, hc, _, _⟩ := h.calm.add hne (bytesOf r.tx)
  have hn0 : 0 ≤ jlast J := by rw [← h1]; exact (h.calm.good.num s hs).1
  have ha := append_calm h.calm.left h.calm.room hn0 (bytesOf r.tx)
  rw [← h1, ensure_calm h.calm.good.rise hs, h1] at ha
  have hS : S' = { S with segs := turn (jlast J) (fun s => { s with text := s.text ++ bytesOf r.tx }) S.segs } := by
    unfold jadd at hj
    rw [h.calm.mend hne, if_neg (by simp), ha, if_neg (by simp)] at hj
    injection hj with _ hj
    injection hj with hj _
    exact hj.symm
  have hlast : jlast { J with uns := J.uns ++ bytesOf r.tx } = jlast J := rfl
  refine ⟨S', R0, a ++ b, hR, hj, hc, ?_, ?_, fun _ => ⟨R0, a, by rw [hlast, List.append_assoc], hsy, ?_⟩, ?_, fun e => absurd e hne⟩
  · rw [hS]
    show (turn (jlast J) _ S.segs).map view = _
    have hv := h.segs
    rw [hR, List.map_append] at hv
    rw [view_turn (bytesOf r.tx) hv h.calm.good.rise, bytes_B, List.map_append]
    show _ = _ ++ [(jlast J, stx (a ++ b ++ [r]))]
    rw [stx_snoc]
  · intro q hq ho
    rw [hS] at hq
    obtain ⟨q0, hq0, rfl⟩ := List.mem_map.1 hq
    simp only at ho ⊢
    split at ho
    · rename_i e
      rcases ho with ho | ho
      · exact absurd ho hne
      · exact absurd e ho
    · rename_i e
      rw [if_neg e]
      exact h.syn q0 hq0 (Or.inr e)
  · show B (J.uns ++ bytesOf r.tx) = _
    rw [B_append, hun, bytes_B, stx_snoc]
  · intro _ q hq ho
    rw [hS] at hq
    obtain ⟨q0, hq0, rfl⟩ := List.mem_map.1 hq
    have hn : q0.num = jlast J := by
      rw [hlast] at ho
      by_cases e : q0.num = jlast J
      · exact e
      · rw [if_neg e] at ho
        exact ho
    rw [if_pos hn]
    exact h.lsyn hne q0 hq0 hn
/-- All of it synced. -/
theorem Kseg.sync {J : Jn} {S : Dk} {R : List (Int × List Rc)} {b : List Rc} (h : Kseg J S R b) :
    ∃ J' S', jsync J S = (J', S', 0) ∧ Kseg J' S' R [] ∧ J'.opn = J.opn ∧ J'.sealed = J.sealed ∧ J'.greatest = J.greatest ∧ J'.most = J.most ∧ J'.next = J.next := by
  by_cases hne : J.opn = []
  · refine ⟨J, S, by unfold jsync; rw [if_pos hne], ?_, rfl, rfl, rfl, rfl, rfl⟩
    have hb := h.nob hne
    rw [hb] at h
    exact h
  · obtain ⟨R0, a, hR, hsy, hun⟩ := h.last hne
    obtain ⟨s, hs, h1, h2⟩ := h.calm.last hne
    have ha := dsync_calm h.calm.left h.calm.good hs
    rw [h1] at ha
    obtain ⟨J', S', hj, hc, _⟩ := h.calm.sync
    have hj2 : jsync J S = ({ J with synced := J.synced + J.uns.size, uns := ⟨#[]⟩ }, { S with segs := turn (jlast J) (fun s => { s with syn := s.text.size }) S.segs }, 0) := by
      unfold jsync
      rw [if_neg hne, h.calm.mend hne, if_neg (by simp), ha, if_neg (by simp)]
    rw [hj2] at hj
    injection hj with e1 e2
    injection e2 with e2 _
    subst e1
    subst e2
    have hall : ∀ q ∈ turn (jlast J) (fun s => { s with syn := s.text.size }) S.segs, q.syn = q.text.size := fun q hq => by
      obtain ⟨q0, hq0, rfl⟩ := List.mem_map.1 hq
      by_cases e : q0.num = jlast J
      · rw [if_pos e]
      · rw [if_neg e]
        exact h.syn q0 hq0 (Or.inr e)
    have hlast : jlast { J with synced := J.synced + J.uns.size, uns := ⟨#[]⟩ } = jlast J := rfl
    refine ⟨_, _, hj2, ⟨hc, ?_, fun q hq _ => hall q hq, fun _ => ⟨R0, a ++ b, by rw [hlast, List.append_nil]; exact hR, ?_, rfl⟩, fun _ q hq hn => ?_, fun e => absurd e hne⟩, rfl, rfl, rfl, rfl, rfl⟩
    · show (turn (jlast J) _ S.segs).map view = _
      rw [view_same]
      exact h.segs
    · show J.synced + J.uns.size = _
      rw [hsy, size_B, hun, stx_append, List.length_append]
    · have hq1 := hall q hq
      obtain ⟨q0, hq0, rfl⟩ := List.mem_map.1 hq
      have hn0 : q0.num = jlast J := by
        rw [hlast] at hn
        by_cases e : q0.num = jlast J
        · exact e
        · rw [if_neg e] at hn
          exact hn
      rw [hq1, if_pos hn0]
      have hqs : q0 = s := by
        obtain ⟨i, hi⟩ := List.getElem?_of_mem hq0
        obtain ⟨j, hj⟩ := List.getElem?_of_mem hs
        have hij := rise_once h.calm.good.rise hi hj (by rw [hn0, h1])
        rw [hij, hj] at hi
        exact (Option.some.inj hi).symm
      show q0.text.size = J.synced + J.uns.size
      rw [hqs, h2]
end Go.Proofs.YtmkidefdegaamaaGreatDoor.Jr
