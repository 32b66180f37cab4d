/- What the records tell: a window enters a segment. -/
import Derived.Test.YtmkidefdegaamaaGreatDoorOay
import Derived.Test.YtmkidefdegaamaaGreatDoorJgy
import Derived.Test.YtmkidefdegaamaaGreatDoorJky
namespace Go.Proofs.YtmkidefdegaamaaGreatDoor.Jr
open Go.RowKit Go.Maps Mem Foot Bytes Im Wm Hi Plainw Cq
theorem same_new {w : World} {v v' : Value} {o : Obj} (h : Apn.Same (w.alloc o) v v') : ∀ k ∈ v'.ownBlock.toList, k ∈ v.ownBlock.toList ∨ w.heap.size ≤ k := fun k hk => by
  rcases h with h | ⟨g, h1, h2⟩
  · exact Or.inl (h ▸ hk)
  · rw [h1] at hk
    simp at hk h2
    exact Or.inr (by omega)
/-- A window's segments, with one more if it does not stand last. -/
def hent (seg : Int) (l : List Int) : List Int := if l.getLast? = some seg then l else l ++ [seg]
set_option maxRecDepth 10000 in
set_option maxHeartbeats 2000000 in
theorem enterJ (hb : Nat) (v0 v1 v2 sv v4 v5 v6 : Value) (l : List Int) (seg : Int) (w : World) (hs : Sits w hb 101 #[v0, v1, v2, sv, v4, v5, v6]) (hr : w.ownsRow 0 3 1 sv l.length (l.map (Value.int .i64))) (hl : l.length ≤ 1000000000) :
    Calls Tryz.prog 101 #[.pointer (some ⟨hb, 1, none⟩), .int .i64 seg] w fun e w' => e = .returned (.tuple #[]) ∧ ∃ sv', Sits w' hb 101 #[v0, v1, v2, sv', v4, v5, v6] ∧ w'.ownsRow 0 3 1 sv' (hent seg l).length ((hent seg l).map (Value.int .i64)) ∧ (∀ k ∈ sv'.ownBlock.toList, k ∈ sv.ownBlock.toList ∨ w.heap.size ≤ k) ∧ Off (hb :: sv.ownBlock.toList) w w' := by
  obtain ⟨sa, sc, rfl⟩ := own_shapeJ hr
  have HS := hide hs
  have HR := hide hr
  have c3 : w.cell? ⟨hb, 3, none⟩ = some (.slice sa l.length sc) := hs.cell 3 _ rfl
  have f3 := hs.frozen 3
  obtain ⟨i0, hi, hz0, hz1, hz2⟩ := info_parts infoI
  have HNB := hide (show hb ∉ (Value.slice sa l.length sc).ownBlock.toList from fun e => by
    obtain ⟨cs, h1⟩ := sits_row hr e
    exact sits_neJ h1 hs (by decide) rfl)
  have FIN := hide (show ∀ (u : Value) (W : World), hent seg l = l ++ [seg] → Sits W hb 101 #[v0, v1, v2, .slice sa l.length sc, v4, v5, v6] → W.ownsRow 0 3 1 u (l.length + 1) (l.map (Value.int .i64) ++ [.int .i64 seg]) → (∀ k ∈ u.ownBlock.toList, k ∈ (Value.slice sa l.length sc).ownBlock.toList ∨ w.heap.size ≤ k) → Off (Value.slice sa l.length sc).ownBlock.toList w W → ∃ sv', Sits (W.setCell ⟨hb, 3, none⟩ u) hb 101 #[v0, v1, v2, sv', v4, v5, v6] ∧ (W.setCell ⟨hb, 3, none⟩ u).ownsRow 0 3 1 sv' (hent seg l).length ((hent seg l).map (Value.int .i64)) ∧ (∀ k ∈ sv'.ownBlock.toList, k ∈ (Value.slice sa l.length sc).ownBlock.toList ∨ w.heap.size ≤ k) ∧ Off (hb :: (Value.slice sa l.length sc).ownBlock.toList) w (W.setCell ⟨hb, 3, none⟩ u) from fun u W he h1 h2 h3 h4 => by
    have hso : Off [hb] W (W.setCell ⟨hb, 3, none⟩ u) := (Off.refl _ _).set (List.mem_singleton.2 rfl) _ _
    refine ⟨u, h1.set 3 u, ?_, h3, (h4.mono fun k _ hk => List.mem_cons_of_mem _ hk).trans (hso.mono fun k _ hk => List.mem_singleton.1 hk ▸ List.mem_cons_self ..)⟩
    rw [he, List.length_append, List.map_append]
    refine own_off h2 hso fun k hk e => ?_
    obtain ⟨cs, h5⟩ := sits_row h2 hk
    exact sits_neJ h5 h1 (by decide) (List.mem_singleton.1 e))
  clear hs hr
  rcases List.eq_nil_or_concat l with rfl | ⟨m, x, hmx⟩
  · have HE := hide (show hent seg [] = [] ++ [seg] from rfl)
    go_enter Tryz.func101, Tryz.ntmps101
    go_wp2_with (at_builtin; refine Apn.wpList_any _ rfl _ _ 46 rfl 3 i0 (.int .i64 0) 1 8 Tryz.underlying46 hi hz0 hz1 hz2 rfl (by decide) (.slice sa ([] : List Int).length sc) _ (([] : List Int).map (Value.int .i64)) rfl (HR.out.alloc _) _ 1 1 [.int .i64 seg] rfl (src_val w _ _ _ rfl rfl) (by unfold maxLen; omega) (by omega) ?_; intro u2 w2 o2 g2 m2 n2; obtain ⟨va2, vc2, rfl⟩ := Own.shape o2; have ho2 := grown_offJ g2; have hs2 := Foot.Sits.off HS.out ho2 HNB.out; have d3 : w2.cell? ⟨hb, 3, none⟩ = some (.slice sa ([] : List Int).length sc) := hs2.cell 3 _ rfl; have g3 := hs2.frozen 3; have HS2 := hide hs2; have HO2 := hide ho2; have HW2 := hide o2; have HM2 := hide m2; clear hs2 ho2 o2 g2 m2 n2)
    go_end0
    exact ⟨rfl, FIN.out _ _ HE.out HS2.out HW2.out (same_new HM2.out) HO2.out⟩
  · rw [List.concat_eq_append] at hmx
    subst hmx
    have hlen : (m ++ [x]).length = m.length + 1 := by simp
    obtain ⟨g, cap, hv, hcp, _, hcell⟩ := row_ints HR.out (i := m.length) (x := x) List.getElem?_concat_length
    injection hv with hv1 hv2 hv3
    subst hv1
    subst hv3
    rw [hlen] at c3 hcp HS HR HNB FIN
    clear hv2
    have hmb : m.length ≤ 1000000000 := by omega
    have hwr : IntKind.i64.wrap (m.length : Int) = (m.length : Int) := IntWalk.i64_in _ (by omega)
    have hLB : (m ++ [x]).getLast? = some x := by simp
    by_cases hx : x = seg
    · subst hx
      have HE := hide (show hent x (m ++ [x]) = m ++ [x] by unfold hent; rw [if_pos hLB])
      clear hLB
      go_enter Tryz.func101, Tryz.ntmps101
      go_wp2_with fail
      go_end0
      refine ⟨rfl, _, HS.out, ?_, fun k hk => Or.inl hk, Off.refl _ _⟩
      rw [HE.out, hlen]
      exact HR.out
    · have hxb : (x != seg) = true := by simpa using hx
      have HE := hide (show hent seg (m ++ [x]) = m ++ [x] ++ [seg] by unfold hent; rw [hLB, if_neg (fun e => hx (Option.some.inj e))])
      clear hLB
      go_enter Tryz.func101, Tryz.ntmps101
      go_wp2_with (at_builtin; refine Apn.wpList_any _ rfl _ _ 46 rfl 3 i0 (.int .i64 0) 1 8 Tryz.underlying46 hi hz0 hz1 hz2 rfl (by decide) (.slice (some ⟨g, 0, none⟩) (m.length + 1) sc) _ ((m ++ [x]).map (Value.int .i64)) rfl (HR.out.alloc _) _ 1 1 [.int .i64 seg] rfl (src_val w _ _ _ rfl rfl) (by unfold maxLen; omega) (by omega) ?_; intro u2 w2 o2 g2 m2 n2; obtain ⟨va2, vc2, rfl⟩ := Own.shape o2; have ho2 := grown_offJ g2; have hs2 := Foot.Sits.off HS.out ho2 HNB.out; have d3 : w2.cell? ⟨hb, 3, none⟩ = some (.slice (some ⟨g, 0, none⟩) (m.length + 1) sc) := hs2.cell 3 _ rfl; have g3 := hs2.frozen 3; have HS2 := hide hs2; have HO2 := hide ho2; have HW2 := hide o2; have HM2 := hide m2; clear hs2 ho2 o2 g2 m2 n2)
      go_end0
      exact ⟨rfl, FIN.out _ _ HE.out HS2.out HW2.out (same_new HM2.out) HO2.out⟩
end Go.Proofs.YtmkidefdegaamaaGreatDoor.Jr
namespace Go.Proofs.YtmkidefdegaamaaGreatDoor.Jr
open Go.RowKit Go.Maps Mem Foot Bytes Im Wm Hi Plainw Cq
set_option maxRecDepth 10000 in
set_option maxHeartbeats 2000000 in
theorem take_base (hb : Nat) (sv dv sg : Value) (onum g es ez seg win : Int) (tb : ByteArray) (w : World) (hs : Sits w hb 101 #[sv, .int .i64 onum, dv, sg, .int .i64 g, .int .i64 es, .int .i64 ez]) :
    Calls Tryz.prog 75 #[.pointer (some ⟨hb, 0, none⟩), .int .i64 seg, .agg #[.string ⟨#[98]⟩, .int .i64 win, .string tb]] w fun e w' => e = .returned (.tuple #[]) ∧ ∃ sg', Sits w' hb 101 #[sv, .int .i64 0, .slice none 0 0, sg', .int .i64 win, .int .i64 es, .int .i64 ez] ∧ w'.ownsRow 0 3 1 sg' 1 [.int .i64 seg] ∧ (∀ k ∈ sg'.ownBlock.toList, w.heap.size ≤ k) ∧ Off [hb] w w' := by
  have hs1 := Sits.new w 121 #[.string ⟨#[98]⟩, .int .i64 win, .string tb]
  have hb1 := below_new (w := w) (.cells #[.string ⟨#[98]⟩, .int .i64 win, .string tb] 121)
  have HH1 := hide (Mem.Sits.below hs hb1 hs.lt)
  have HX := hide hs1
  have HB1 := hide hb1
  have HLT := hide hs.lt
  clear hs hs1 hb1
  go_enter Tryz.func75, Tryz.ntmps75
  go_upto_region 1 with fail
  generalize w.alloc (.cells #[.string ⟨#[98]⟩, .int .i64 win, .string tb] 121) = w1 at *
  obtain ⟨ab, hab⟩ : ∃ ab, w.heap.size = ab := ⟨_, rfl⟩
  rw [hab] at HX
  rw [hab]
  have HAB := hide hab
  clear hab
  have x0 : w1.cell? ⟨ab, 0, none⟩ = some (.string ⟨#[98]⟩) := HX.out.cell 0 _ rfl
  have c1 : w1.cell? ⟨hb, 1, none⟩ = some (.int .i64 onum) := HH1.out.cell 1 _ rfl
  have c2 : w1.cell? ⟨hb, 2, none⟩ = some dv := HH1.out.cell 2 _ rfl
  have c3 : w1.cell? ⟨hb, 3, none⟩ = some sg := HH1.out.cell 3 _ rfl
  have f1 := HH1.out.frozen 1
  have f2 := HH1.out.frozen 2
  have f3 := HH1.out.frozen 3
  have HH2 := hide (((HH1.out.set 1 (.int .i64 0)).set 2 (.slice none 0 0)).set 3 (.slice none 0 0))
  have HO2 := hide (show Off [hb] w1 (((w1.setCell ⟨hb, 1, none⟩ (.int .i64 0)).setCell ⟨hb, 2, none⟩ (.slice none 0 0)).setCell ⟨hb, 3, none⟩ (.slice none 0 0)) from (((Off.refl _ _).set (List.mem_singleton.2 rfl) _ _).set (List.mem_singleton.2 rfl) _ _).set (List.mem_singleton.2 rfl) _ _)
  have HX2 := hide (Foot.Sits.off HX.out HO2.out (fun e => by
    have h1 := HLT.out
    have h2 := HAB.out
    rw [List.mem_singleton] at e
    omega))
  go_wp2_with fail
  clear x0 c1 c2 c3 f1 f2 f3
  generalize ((w1.setCell ⟨hb, 1, none⟩ (.int .i64 0)).setCell ⟨hb, 2, none⟩ (.slice none 0 0)).setCell ⟨hb, 3, none⟩ (.slice none 0 0) = w2 at *
  refine (enterJ hb sv (.int .i64 0) (.slice none 0 0) (.slice none 0 0) (.int .i64 g) (.int .i64 es) (.int .i64 ez) [] seg w2 HH2.out (World.ownsRow_nil _ _ _ _) (by simp)).mono ?_
  rintro e w3 ⟨rfl, sg', h1, h2, h3, h4⟩
  have hz : w.heap.size ≤ w2.heap.size := Nat.le_trans HB1.out.size HO2.out.size
  have HX3 := hide (Foot.Sits.off HX2.out h4 (fun e => by
    have h5 := HLT.out
    have h6 := HAB.out
    simp [Value.ownBlock] at e
    omega))
  have x0 : w3.cell? ⟨ab, 0, none⟩ = some (.string ⟨#[98]⟩) := HX3.out.cell 0 _ rfl
  have x1 : w3.cell? ⟨ab, 1, none⟩ = some (.int .i64 win) := HX3.out.cell 1 _ rfl
  have c4 : w3.cell? ⟨hb, 4, none⟩ = some (.int .i64 g) := h1.cell 4 _ rfl
  have f4 := h1.frozen 4
  have hso : Off [hb] w3 (w3.setCell ⟨hb, 4, none⟩ (.int .i64 win)) := (Off.refl _ _).set (List.mem_singleton.2 rfl) _ _
  have HF := hide (show ∃ sg', Sits (w3.setCell ⟨hb, 4, none⟩ (.int .i64 win)) hb 101 #[sv, .int .i64 0, .slice none 0 0, sg', .int .i64 win, .int .i64 es, .int .i64 ez] ∧ (w3.setCell ⟨hb, 4, none⟩ (.int .i64 win)).ownsRow 0 3 1 sg' 1 [.int .i64 seg] ∧ (∀ k ∈ sg'.ownBlock.toList, w.heap.size ≤ k) ∧ Off [hb] w (w3.setCell ⟨hb, 4, none⟩ (.int .i64 win)) from by
    refine ⟨sg', h1.set 4 _, own_off h2 hso (fun k hk e => ?_), fun k hk => ?_, ?_⟩
    · obtain ⟨cs, h5⟩ := sits_row h2 hk
      exact sits_neJ h5 h1 (by decide) (List.mem_singleton.1 e)
    · rcases h3 k hk with h | h
      · simp [Value.ownBlock] at h
      · exact Nat.le_trans hz h
    · exact (((Off.of_below HB1.out).trans HO2.out).trans (h4.mono fun k _ hk => by simpa [Value.ownBlock] using hk)).trans hso)
  clear h1 h2 h3 h4 hso
  go_wp2_with fail
  go_end0
  exact ⟨rfl, HF.out⟩
end Go.Proofs.YtmkidefdegaamaaGreatDoor.Jr
namespace Go.Proofs.YtmkidefdegaamaaGreatDoor.Jr
open Go.RowKit Go.Maps Mem Foot Bytes Im Wm Hi Plainw Cq
/-- A record. -/
structure Rc where
  k : UInt8
  n : Int
  t : ByteArray
def Rc.tx (r : Rc) : Bs := wrec [r.k] r.n (B r.t)
structure Rc.Ok (r : Rc) : Prop where
  k : r.k = 100 ∨ r.k = 115 ∨ r.k = 98
  n0 : 0 ≤ r.n
  n1 : r.n ≤ 1000000000
  t : r.t.size ≤ 1000000
def Rc.val (r : Rc) : Value := .agg #[.string ⟨#[r.k]⟩, .int .i64 r.n, .string r.t]
/-- A segment's text. -/
def stx (rs : List Rc) : Bs := rs.flatMap Rc.tx
/-- A record with the place where it ends. -/
abbrev Et := (Int × Nat) × Rc
def ents1 (num : Int) : Nat → List Rc → List Et
  | _, [] => []
  | z, r :: l => ((num, z + r.tx.length), r) :: ents1 num (z + r.tx.length) l
def ents (l : List (Int × List Rc)) : List Et := l.flatMap fun p => ents1 p.1 0 p.2
/-- What the records tell. -/
structure Hs where
  sealed : List (Int × List ByteArray × List Int)
  onum : Int
  odgs : List ByteArray
  osegs : List Int
  g : Int
  es : Int
  ez : Int
def hs0 : Hs := ⟨[], 0, [], [], -1, -1, 0⟩
/-- A record of this segment is taken. -/
def htk (h : Hs) (seg : Int) (r : Rc) : Hs :=
  if r.k = 98 then { h with onum := 0, odgs := [], osegs := [seg], g := r.n }
  else if r.k = 115 then { h with sealed := h.sealed ++ [(h.onum, h.odgs, hent seg h.osegs)], onum := 0, odgs := [], osegs := [], g := r.n }
  else { h with onum := r.n, odgs := h.odgs ++ [r.t], osegs := hent seg h.osegs }
def hnext (h : Hs) (x : Et) : Hs := { htk h x.1.1 x.2 with es := x.1.1, ez := (x.1.2 : Int) }
def hfit (h : Hs) (r : Rc) : Bool := hfits ⟨#[r.k]⟩ r.n (decide (0 < h.odgs.length)) h.onum h.g
def AllFit : Hs → List Et → Prop
  | _, [] => True
  | h, x :: l => hfit h x.2 = true ∧ AllFit (hnext h x) l
def hfold (h : Hs) (l : List Et) : Hs := l.foldl hnext h
theorem allFit_append (h : Hs) (a b : List Et) : AllFit h (a ++ b) ↔ AllFit h a ∧ AllFit (hfold h a) b := by
  induction a generalizing h with
  | nil => simp [AllFit, hfold]
  | cons x a ih =>
    show (_ ∧ AllFit _ (a ++ b)) ↔ (_ ∧ _) ∧ _
    rw [ih]
    exact and_assoc.symm
theorem hfold_append (h : Hs) (a b : List Et) : hfold h (a ++ b) = hfold (hfold h a) b := List.foldl_append
/-- A window in memory. -/
structure Wn where
  num : Int
  dv : Value
  ds : List ByteArray
  sg : Value
  ss : List Int
def Wn.cells (x : Wn) : List Value := [.int .i64 x.num, x.dv, x.sg]
def Wn.blocks (x : Wn) : List Nat := x.dv.ownBlock.toList ++ x.sg.ownBlock.toList
def Wn.is (x : Wn) : Int × List ByteArray × List Int := (x.num, x.ds, x.ss)
structure Wn.At (w : World) (x : Wn) : Prop where
  d : w.ownsRow 0 9 1 x.dv x.ds.length (x.ds.map Value.string)
  s : w.ownsRow 0 3 1 x.sg x.ss.length (x.ss.map (Value.int .i64))
theorem Wn.At.off {F : List Nat} {w w' : World} {x : Wn} (h : Wn.At w x) (ho : Off F w w') (hF : ∀ k ∈ x.blocks, k ∉ F) : Wn.At w' x :=
  ⟨own_off h.d ho fun k hk => hF k (List.mem_append_left _ hk), own_off h.s ho fun k hk => hF k (List.mem_append_right _ hk)⟩
theorem Wn.At.lt {w : World} {x : Wn} (h : Wn.At w x) : ∀ k ∈ x.blocks, k < w.heap.size := fun k hk => by
  rcases List.mem_append.1 hk with hk | hk
  · obtain ⟨cs, hs⟩ := sits_row h.d hk
    exact hs.lt
  · obtain ⟨cs, hs⟩ := sits_row h.s hk
    exact hs.lt
def wblocks (ws : List Wn) : List Nat := ws.flatMap Wn.blocks
/-- Where a history lies. -/
structure Hp where
  hb : Nat
  sv : Value
  ws : List Wn
  dv : Value
  sg : Value
def Hp.blocks (p : Hp) : List Nat := p.hb :: (p.sv.ownBlock.toList ++ (p.dv.ownBlock.toList ++ (p.sg.ownBlock.toList ++ wblocks p.ws)))
/-- A history in memory. -/
structure HA (w : World) (H : Hs) (p : Hp) : Prop where
  head : Sits w p.hb 101 #[p.sv, .int .i64 H.onum, p.dv, p.sg, .int .i64 H.g, .int .i64 H.es, .int .i64 H.ez]
  sv : w.ownsRow 0 60 3 p.sv H.sealed.length (p.ws.flatMap Wn.cells)
  is : p.ws.map Wn.is = H.sealed
  ws : ∀ x ∈ p.ws, Wn.At w x
  dv : w.ownsRow 0 9 1 p.dv H.odgs.length (H.odgs.map Value.string)
  sg : w.ownsRow 0 3 1 p.sg H.osegs.length (H.osegs.map (Value.int .i64))
  apart : ∀ k ∈ p.dv.ownBlock.toList ++ p.sg.ownBlock.toList, k ∉ wblocks p.ws
theorem HA.lt {w : World} {H : Hs} {p : Hp} (h : HA w H p) : ∀ k ∈ p.blocks, k < w.heap.size := fun k hk => by
  have row : ∀ {v : Value} {e : TypeId} {size n : Nat} {xs : List Value}, w.ownsRow 0 e size v n xs → k ∈ v.ownBlock.toList → k < w.heap.size := fun {v e size n xs} hr hk => by
    obtain ⟨cs, hs⟩ := sits_row hr hk
    exact hs.lt
  rcases List.mem_cons.1 hk with e | hk
  · rw [e]
    exact h.head.lt
  · rcases List.mem_append.1 hk with hk | hk
    · exact row h.sv hk
    · rcases List.mem_append.1 hk with hk | hk
      · exact row h.dv hk
      · rcases List.mem_append.1 hk with hk | hk
        · exact row h.sg hk
        · obtain ⟨x, hx, hk⟩ := List.mem_flatMap.1 hk
          exact (h.ws x hx).lt k hk
theorem HA.off {F : List Nat} {w w' : World} {H : Hs} {p : Hp} (h : HA w H p) (ho : Off F w w') (hF : ∀ k ∈ p.blocks, k ∉ F) : HA w' H p := by
  have i1 : ∀ k ∈ p.sv.ownBlock.toList, k ∈ p.blocks := fun k hk => List.mem_cons_of_mem _ (List.mem_append_left _ hk)
  have i2 : ∀ k ∈ p.dv.ownBlock.toList, k ∈ p.blocks := fun k hk => List.mem_cons_of_mem _ (List.mem_append_right _ (List.mem_append_left _ hk))
  have i3 : ∀ k ∈ p.sg.ownBlock.toList, k ∈ p.blocks := fun k hk => List.mem_cons_of_mem _ (List.mem_append_right _ (List.mem_append_right _ (List.mem_append_left _ hk)))
  have i4 : ∀ k ∈ wblocks p.ws, k ∈ p.blocks := fun k hk => List.mem_cons_of_mem _ (List.mem_append_right _ (List.mem_append_right _ (List.mem_append_right _ hk)))
  exact ⟨Foot.Sits.off h.head ho (hF _ (List.mem_cons_self ..)), own_off h.sv ho fun k hk => hF k (i1 k hk), h.is, fun x hx => (h.ws x hx).off ho fun k hk => hF k (i4 k (List.mem_flatMap.2 ⟨x, hx, hk⟩)), own_off h.dv ho fun k hk => hF k (i2 k hk), own_off h.sg ho fun k hk => hF k (i3 k hk), h.apart⟩
theorem HA.keep {w w' : World} {H : Hs} {p : Hp} (h : HA w H p) (hb : Below w.heap.size w w') : HA w' H p :=
  h.off (F := []) (Off.of_below hb) fun _ _ => by simp
/-- What a record's taking may change. -/
structure Hq (w w' : World) (H : Hs) (F : List Nat) (hb : Nat) : Prop where
  ex : ∃ p', HA w' H p' ∧ p'.hb = hb ∧ ∀ b ∈ p'.blocks, b ∈ F ∨ w.heap.size ≤ b
  off : Off F w w'
theorem ents1_append (num : Int) (z : Nat) (a b : List Rc) : ents1 num z (a ++ b) = ents1 num z a ++ ents1 num (z + (stx a).length) b := by
  induction a generalizing z with
  | nil => simp [ents1, stx]
  | cons r a ih =>
    show _ :: ents1 num _ (a ++ b) = _ :: (_ ++ _)
    rw [ih]
    congr 3
    simp [stx, Nat.add_assoc]
theorem stx_append (a b : List Rc) : stx (a ++ b) = stx a ++ stx b := List.flatMap_append
theorem ents_append (a b : List (Int × List Rc)) : ents (a ++ b) = ents a ++ ents b := List.flatMap_append
end Go.Proofs.YtmkidefdegaamaaGreatDoor.Jr
namespace Go.Proofs.YtmkidefdegaamaaGreatDoor.Jr
open Go.RowKit Go.Maps Mem Foot Bytes Im Wm Hi Plainw Cq
theorem wn_sits {w : World} {ws : List Wn} (h : ∀ x ∈ ws, Wn.At w x) {k : Nat} (hk : k ∈ wblocks ws) : (∃ cs, Sits w k 9 cs) ∨ ∃ cs, Sits w k 3 cs := by
  obtain ⟨x, hx, hk⟩ := List.mem_flatMap.1 hk
  rcases List.mem_append.1 hk with hk | hk
  · exact Or.inl (sits_row (h x hx).d hk)
  · exact Or.inr (sits_row (h x hx).s hk)
theorem HA.w_ne {w : World} {H : Hs} {p : Hp} (h : HA w H p) {k : Nat} (hk : k ∈ wblocks p.ws) : k ≠ p.hb ∧ k ∉ p.sv.ownBlock.toList := by
  rcases wn_sits h.ws hk with ⟨cs, hs⟩ | ⟨cs, hs⟩
  · refine ⟨sits_neJ hs h.head (by decide), fun hm => ?_⟩
    obtain ⟨cs', hs'⟩ := sits_row h.sv hm
    exact sits_neJ hs hs' (by decide) rfl
  · refine ⟨sits_neJ hs h.head (by decide), fun hm => ?_⟩
    obtain ⟨cs', hs'⟩ := sits_row h.sv hm
    exact sits_neJ hs hs' (by decide) rfl
theorem HA.d_ne {w : World} {H : Hs} {p : Hp} (h : HA w H p) {k : Nat} (hk : k ∈ p.dv.ownBlock.toList) : k ≠ p.hb ∧ k ∉ p.sv.ownBlock.toList ∧ k ∉ p.sg.ownBlock.toList := by
  obtain ⟨cs, hs⟩ := sits_row h.dv hk
  refine ⟨sits_neJ hs h.head (by decide), fun hm => ?_, fun hm => ?_⟩
  · obtain ⟨cs', hs'⟩ := sits_row h.sv hm
    exact sits_neJ hs hs' (by decide) rfl
  · obtain ⟨cs', hs'⟩ := sits_row h.sg hm
    exact sits_neJ hs hs' (by decide) rfl
theorem HA.s_ne {w : World} {H : Hs} {p : Hp} (h : HA w H p) {k : Nat} (hk : k ∈ p.sg.ownBlock.toList) : k ≠ p.hb ∧ k ∉ p.sv.ownBlock.toList ∧ k ∉ p.dv.ownBlock.toList := by
  obtain ⟨cs, hs⟩ := sits_row h.sg hk
  refine ⟨sits_neJ hs h.head (by decide), fun hm => ?_, fun hm => ?_⟩
  · obtain ⟨cs', hs'⟩ := sits_row h.sv hm
    exact sits_neJ hs hs' (by decide) rfl
  · obtain ⟨cs', hs'⟩ := sits_row h.dv hm
    exact sits_neJ hs hs' (by decide) rfl
theorem HA.v_ne {w : World} {H : Hs} {p : Hp} (h : HA w H p) {k : Nat} (hk : k ∈ p.sv.ownBlock.toList) : k ≠ p.hb := by
  obtain ⟨cs, hs⟩ := sits_row h.sv hk
  exact sits_neJ hs h.head (by decide)
/-- Numbers alone were written. -/
theorem HA.num {w w' : World} {H : Hs} {p : Hp} (h : HA w H p) (ho : Off [p.hb] w w') {o g es ez : Int} (hs : Sits w' p.hb 101 #[p.sv, .int .i64 o, p.dv, p.sg, .int .i64 g, .int .i64 es, .int .i64 ez]) : HA w' { H with onum := o, g := g, es := es, ez := ez } p :=
  ⟨hs, own_off h.sv ho fun _ hk e => h.v_ne hk (List.mem_singleton.1 e), h.is, fun x hx => (h.ws x hx).off ho fun _ hk e => (h.w_ne (List.mem_flatMap.2 ⟨x, hx, hk⟩)).1 (List.mem_singleton.1 e), own_off h.dv ho fun _ hk e => (h.d_ne hk).1 (List.mem_singleton.1 e), own_off h.sg ho fun _ hk e => (h.s_ne hk).1 (List.mem_singleton.1 e), h.apart⟩
/-- The open window has other segments. -/
theorem HA.segs {w w' : World} {H : Hs} {p : Hp} (h : HA w H p) (ho : Off (p.hb :: p.sg.ownBlock.toList) w w') {sg' : Value} {l : List Int} (hs : Sits w' p.hb 101 #[p.sv, .int .i64 H.onum, p.dv, sg', .int .i64 H.g, .int .i64 H.es, .int .i64 H.ez]) (hr : w'.ownsRow 0 3 1 sg' l.length (l.map (Value.int .i64))) (hn : ∀ k ∈ sg'.ownBlock.toList, k ∈ p.sg.ownBlock.toList ∨ w.heap.size ≤ k) : HA w' { H with osegs := l } { p with sg := sg' } := by
  have f : ∀ {k : Nat}, k ≠ p.hb → k ∉ p.sg.ownBlock.toList → k ∉ p.hb :: p.sg.ownBlock.toList := fun h1 h2 e => (List.mem_cons.1 e).elim h1 h2
  refine ⟨hs, own_off h.sv ho fun k hk => f (h.v_ne hk) fun e => (h.s_ne e).2.1 hk, h.is, fun x hx => (h.ws x hx).off ho fun k hk => ?_, own_off h.dv ho fun k hk => f (h.d_ne hk).1 (h.d_ne hk).2.2, hr, fun k hk e => ?_⟩
  · have hk' : k ∈ wblocks p.ws := List.mem_flatMap.2 ⟨x, hx, hk⟩
    exact f (h.w_ne hk').1 fun e => h.apart k (List.mem_append_right _ e) hk'
  · rcases List.mem_append.1 hk with hk | hk
    · exact h.apart k (List.mem_append_left _ hk) e
    · rcases hn k hk with hk | hk
      · exact h.apart k (List.mem_append_right _ hk) e
      · have := h.lt k (List.mem_cons_of_mem _ (List.mem_append_right _ (List.mem_append_right _ (List.mem_append_right _ e))))
        omega
/-- The open window has other datagrams. -/
theorem HA.dgs {w w' : World} {H : Hs} {p : Hp} (h : HA w H p) (ho : Off (p.hb :: p.dv.ownBlock.toList) w w') {dv' : Value} {l : List ByteArray} (hs : Sits w' p.hb 101 #[p.sv, .int .i64 H.onum, dv', p.sg, .int .i64 H.g, .int .i64 H.es, .int .i64 H.ez]) (hr : w'.ownsRow 0 9 1 dv' l.length (l.map Value.string)) (hn : ∀ k ∈ dv'.ownBlock.toList, k ∈ p.dv.ownBlock.toList ∨ w.heap.size ≤ k) : HA w' { H with odgs := l } { p with dv := dv' } := by
  have f : ∀ {k : Nat}, k ≠ p.hb → k ∉ p.dv.ownBlock.toList → k ∉ p.hb :: p.dv.ownBlock.toList := fun h1 h2 e => (List.mem_cons.1 e).elim h1 h2
  refine ⟨hs, own_off h.sv ho fun k hk => f (h.v_ne hk) fun e => (h.d_ne e).2.1 hk, h.is, fun x hx => (h.ws x hx).off ho fun k hk => ?_, hr, own_off h.sg ho fun k hk => f (h.s_ne hk).1 (h.s_ne hk).2.2, fun k hk e => ?_⟩
  · have hk' : k ∈ wblocks p.ws := List.mem_flatMap.2 ⟨x, hx, hk⟩
    exact f (h.w_ne hk').1 fun e => h.apart k (List.mem_append_left _ e) hk'
  · rcases List.mem_append.1 hk with hk | hk
    · rcases hn k hk with hk | hk
      · exact h.apart k (List.mem_append_left _ hk) e
      · have := h.lt k (List.mem_cons_of_mem _ (List.mem_append_right _ (List.mem_append_right _ (List.mem_append_right _ e))))
        omega
    · exact h.apart k (List.mem_append_right _ hk) e
/-- The open window is kept among the sealed ones. -/
theorem HA.more {w w' : World} {H : Hs} {p : Hp} (h : HA w H p) (ho : Off (p.hb :: p.sv.ownBlock.toList) w w') {sv' : Value} {g : Int} (hs : Sits w' p.hb 101 #[sv', .int .i64 0, .slice none 0 0, .slice none 0 0, .int .i64 g, .int .i64 H.es, .int .i64 H.ez]) (hr : w'.ownsRow 0 60 3 sv' (H.sealed.length + 1) (p.ws.flatMap Wn.cells ++ [.int .i64 H.onum, p.dv, p.sg])) : HA w' { H with sealed := H.sealed ++ [(H.onum, H.odgs, H.osegs)], onum := 0, odgs := [], osegs := [], g := g } { p with sv := sv', ws := p.ws ++ [⟨H.onum, p.dv, H.odgs, p.sg, H.osegs⟩], dv := .slice none 0 0, sg := .slice none 0 0 } := by
  have f : ∀ {k : Nat}, k ≠ p.hb → k ∉ p.sv.ownBlock.toList → k ∉ p.hb :: p.sv.ownBlock.toList := fun h1 h2 e => (List.mem_cons.1 e).elim h1 h2
  refine ⟨hs, ?_, ?_, fun x hx => ?_, World.ownsRow_nil _ _ _ _, World.ownsRow_nil _ _ _ _, fun k hk => by simp [Value.ownBlock] at hk⟩
  · rw [List.flatMap_append, List.length_append]
    exact hr
  · rw [List.map_append, h.is]
    rfl
  · rcases List.mem_append.1 hx with hx | hx
    · exact (h.ws x hx).off ho fun k hk => f (h.w_ne (List.mem_flatMap.2 ⟨x, hx, hk⟩)).1 (h.w_ne (List.mem_flatMap.2 ⟨x, hx, hk⟩)).2
    · rw [List.mem_singleton.1 hx]
      exact ⟨own_off h.dv ho fun k hk => f (h.d_ne hk).1 (h.d_ne hk).2.1, own_off h.sg ho fun k hk => f (h.s_ne hk).1 (h.s_ne hk).2.1⟩
theorem row_offA {W W' : World} {row : Option Nat} (h : W.grownBy W' row) : Off row.toList W W' :=
  ⟨h.os, h.tape, h.output, h.size, fun k hk hF => h.block k hk (fun e => hF (by simp [← e]))⟩
theorem Hp.hb_in (p : Hp) : p.hb ∈ p.blocks := List.mem_cons_self ..
theorem Hp.sv_in (p : Hp) {k : Nat} (h : k ∈ p.sv.ownBlock.toList) : k ∈ p.blocks := List.mem_cons_of_mem _ (List.mem_append_left _ h)
theorem Hp.dv_in (p : Hp) {k : Nat} (h : k ∈ p.dv.ownBlock.toList) : k ∈ p.blocks := List.mem_cons_of_mem _ (List.mem_append_right _ (List.mem_append_left _ h))
theorem Hp.sg_in (p : Hp) {k : Nat} (h : k ∈ p.sg.ownBlock.toList) : k ∈ p.blocks := List.mem_cons_of_mem _ (List.mem_append_right _ (List.mem_append_right _ (List.mem_append_left _ h)))
theorem Hp.ws_in (p : Hp) {k : Nat} (h : k ∈ wblocks p.ws) : k ∈ p.blocks := List.mem_cons_of_mem _ (List.mem_append_right _ (List.mem_append_right _ (List.mem_append_right _ h)))
theorem Hp.of_in {p : Hp} {k : Nat} {Q : Prop} (h : k ∈ p.blocks) (h1 : k = p.hb → Q) (h2 : k ∈ p.sv.ownBlock.toList → Q) (h3 : k ∈ p.dv.ownBlock.toList → Q) (h4 : k ∈ p.sg.ownBlock.toList → Q) (h5 : k ∈ wblocks p.ws → Q) : Q := by
  rcases List.mem_cons.1 h with h | h
  · exact h1 h
  · rcases List.mem_append.1 h with h | h
    · exact h2 h
    · rcases List.mem_append.1 h with h | h
      · exact h3 h
      · exact (List.mem_append.1 h).elim h4 h5
end Go.Proofs.YtmkidefdegaamaaGreatDoor.Jr
namespace Go.Proofs.YtmkidefdegaamaaGreatDoor.Jr
open Go.RowKit Go.Maps Mem Foot Bytes Im Wm Hi Plainw Cq
theorem infoStr : (Tryz.prog.info? 9).map (fun i => (i.zero, i.size, i.bytes)) = some (some (.string ⟨#[]⟩), 1, 16) := by kernel_rfl
set_option maxRecDepth 10000 in
set_option maxHeartbeats 2000000 in
theorem takeD (H : Hs) (p : Hp) (seg win : Int) (tb : ByteArray) (w : World) (h : HA w H p) (hd : H.odgs.length ≤ 1000000000) (hl : H.osegs.length ≤ 1000000000) :
    Calls Tryz.prog 75 #[.pointer (some ⟨p.hb, 0, none⟩), .int .i64 seg, .agg #[.string ⟨#[100]⟩, .int .i64 win, .string tb]] w fun e w' => e = .returned (.tuple #[]) ∧ Hq w w' (htk H seg ⟨100, win, tb⟩) p.blocks p.hb := by
  have HE := hide (show htk H seg ⟨100, win, tb⟩ = { H with onum := win, odgs := H.odgs ++ [tb], osegs := hent seg H.osegs } by unfold htk; rw [if_neg (show ¬ (100 : UInt8) = 98 by decide), if_neg (show ¬ (100 : UInt8) = 115 by decide)])
  obtain ⟨hb, sv, ws, dv, sg⟩ := p
  obtain ⟨da, dc, hdv⟩ := own_shapeJ h.dv
  simp only at hdv
  subst hdv
  have hs1 := Sits.new w 121 #[.string ⟨#[100]⟩, .int .i64 win, .string tb]
  have hb1 := below_new (w := w) (.cells #[.string ⟨#[100]⟩, .int .i64 win, .string tb] 121)
  have HH1 := hide (h.keep hb1)
  have HX := hide hs1
  have HB1 := hide hb1
  have HLT := hide h.lt
  obtain ⟨i0, hi, hz0, hz1, hz2⟩ := info_parts infoStr
  clear h hs1 hb1
  go_enter Tryz.func75, Tryz.ntmps75
  go_upto_region 1 with fail
  generalize w.alloc (.cells #[.string ⟨#[100]⟩, .int .i64 win, .string tb] 121) = w1 at *
  obtain ⟨ab, hab⟩ : ∃ ab, w.heap.size = ab := ⟨_, rfl⟩
  rw [hab] at HX
  rw [hab]
  have HAB := hide hab
  clear hab
  have x0 : w1.cell? ⟨ab, 0, none⟩ = some (.string ⟨#[100]⟩) := HX.out.cell 0 _ rfl
  go_wp2_with fail
  clear x0
  refine (enterJ hb sv (.int .i64 H.onum) (.slice da H.odgs.length dc) sg (.int .i64 H.g) (.int .i64 H.es) (.int .i64 H.ez) H.osegs seg w1 HH1.out.head HH1.out.sg hl).mono ?_
  rintro e w3 ⟨rfl, sg', h1, h2, h3, h4⟩
  have HH3 := hide (HH1.out.segs h4 h1 h2 h3)
  have HX3 := hide (Foot.Sits.off HX.out h4 (fun e => by
    have h6 := HAB.out
    rcases List.mem_cons.1 e with e | e
    · have := HLT.out hb (Hp.hb_in _)
      omega
    · have := HLT.out ab (Hp.sg_in ⟨hb, sv, ws, .slice da H.odgs.length dc, sg⟩ e)
      omega))
  have HO3 := hide (show Off (Hp.blocks ⟨hb, sv, ws, .slice da H.odgs.length dc, sg⟩) w w3 from (Off.of_below HB1.out).trans (h4.mono fun k _ hk => by
    rcases List.mem_cons.1 hk with e | e
    · exact e ▸ Hp.hb_in _
    · exact Hp.sg_in ⟨hb, sv, ws, .slice da H.odgs.length dc, sg⟩ e))
  have HN3 := hide (show ∀ b ∈ Hp.blocks ⟨hb, sv, ws, .slice da H.odgs.length dc, sg'⟩, b ∈ Hp.blocks ⟨hb, sv, ws, .slice da H.odgs.length dc, sg⟩ ∨ w.heap.size ≤ b from fun b hb' => Hp.of_in hb' (fun e => Or.inl (e ▸ Hp.hb_in _)) (fun e => Or.inl (Hp.sv_in ⟨hb, sv, ws, .slice da H.odgs.length dc, sg⟩ e)) (fun e => Or.inl (Hp.dv_in ⟨hb, sv, ws, .slice da H.odgs.length dc, sg⟩ e)) (fun e => (h3 b e).elim (fun e => Or.inl (Hp.sg_in ⟨hb, sv, ws, .slice da H.odgs.length dc, sg⟩ e)) fun e => Or.inr (Nat.le_trans HB1.out.size e)) (fun e => Or.inl (Hp.ws_in ⟨hb, sv, ws, .slice da H.odgs.length dc, sg⟩ e)))
  clear h1 h2 h3 h4
  have x0 : w3.cell? ⟨ab, 0, none⟩ = some (.string ⟨#[100]⟩) := HX3.out.cell 0 _ rfl
  have x1 : w3.cell? ⟨ab, 1, none⟩ = some (.int .i64 win) := HX3.out.cell 1 _ rfl
  have c1 : w3.cell? ⟨hb, 1, none⟩ = some (.int .i64 H.onum) := HH3.out.head.cell 1 _ rfl
  have f1 := HH3.out.head.frozen 1
  go_upto_region 9 with fail
  have hso : Off [hb] w3 (w3.setCell ⟨hb, 1, none⟩ (.int .i64 win)) := (Off.refl _ _).set (List.mem_singleton.2 rfl) _ _
  have HH4 := hide (HH3.out.num hso (o := win) (g := H.g) (es := H.es) (ez := H.ez) (HH3.out.head.set 1 (.int .i64 win)))
  have HX4 := hide (Foot.Sits.off HX3.out hso (fun e => by
    have h6 := HAB.out
    have := HLT.out hb (Hp.hb_in _)
    rw [List.mem_singleton] at e
    omega))
  have HO4 := hide (HO3.out.trans (hso.mono fun k _ hk => List.mem_singleton.1 hk ▸ Hp.hb_in _))
  clear hso x0 x1 c1 f1 HH3 HX3 HO3 HH1 HX
  generalize w3.setCell ⟨hb, 1, none⟩ (.int .i64 win) = w4 at *
  refine region_D (fun W => Sits W hb 101 #[sv, .int .i64 win, .slice da H.odgs.length dc, sg', .int .i64 H.g, .int .i64 H.es, .int .i64 H.ez] ∧ Sits W ab 121 #[.string ⟨#[100]⟩, .int .i64 win, .string tb]) 11 (by kernel_rfl) ?_
  have hdr : Below w4.heap.size w4 w4.drew := (Below.refl _ _).drew
  have HH5 := hide (HH4.out.keep hdr)
  have HCW := hide (show (fun W => Sits W hb 101 #[sv, .int .i64 win, .slice da H.odgs.length dc, sg', .int .i64 H.g, .int .i64 H.es, .int .i64 H.ez] ∧ Sits W ab 121 #[.string ⟨#[100]⟩, .int .i64 win, .string tb]) w4.drew from ⟨HH4.out.head, HX4.out⟩)
  have HO5 := hide (HO4.out.trans (Off.of_below hdr))
  clear hdr HH4 HX4 HO4
  generalize w4.drew = wd at *
  refine take_C (i := 0) (v := .pointer (some ⟨hb, 0, none⟩)) rfl (by decide) (by kernel_rfl) (by kernel_rfl) (by kernel_rfl) (by kernel_rfl) (fun _ _ _ h => h) (Or.inl ⟨by rfl, by intro W hW; have k1 := hW.1.cell 2 _ rfl; have k2 := hW.2.cell 2 _ rfl; go_simp⟩) HCW.out ?_
  refine take_C (i := 1) (v := .pointer (some ⟨hb, 0, none⟩)) rfl (by decide) (by kernel_rfl) (by kernel_rfl) (by kernel_rfl) (by kernel_rfl) (fun _ _ _ h => h) (Or.inl ⟨by rfl, by intro W hW; have k1 := hW.1.cell 2 _ rfl; have k2 := hW.2.cell 2 _ rfl; go_simp⟩) HCW.out ?_
  refine take_C (i := 2) (v := .pointer (some ⟨hb, 0, none⟩)) rfl (by decide) (by kernel_rfl) (by kernel_rfl) (by kernel_rfl) (by kernel_rfl) (fun _ _ _ h => h) (Or.inl ⟨by rfl, by intro W hW; have k1 := hW.1.cell 2 _ rfl; have k2 := hW.2.cell 2 _ rfl; go_simp⟩) HCW.out ?_
  refine take_C (i := 3) (v := .pointer (some ⟨hb, 0, none⟩)) rfl (by decide) (by kernel_rfl) (by kernel_rfl) (by kernel_rfl) (by kernel_rfl) (fun _ _ _ h => h) (Or.inl ⟨by rfl, by intro W hW; have k1 := hW.1.cell 2 _ rfl; have k2 := hW.2.cell 2 _ rfl; go_simp⟩) HCW.out ?_
  refine take_C (i := 4) (v := .pointer (some ⟨hb, 1, none⟩)) rfl (by decide) (by kernel_rfl) (by kernel_rfl) (by kernel_rfl) (by kernel_rfl) (fun _ _ _ h => h) (Or.inl ⟨by rfl, by intro W hW; have k1 := hW.1.cell 2 _ rfl; have k2 := hW.2.cell 2 _ rfl; go_simp⟩) HCW.out ?_
  refine take_C (i := 5) (v := .pointer (some ⟨hb, 2, none⟩)) rfl (by decide) (by kernel_rfl) (by kernel_rfl) (by kernel_rfl) (by kernel_rfl) (fun _ _ _ h => h) (Or.inl ⟨by rfl, by intro W hW; have k1 := hW.1.cell 2 _ rfl; have k2 := hW.2.cell 2 _ rfl; go_simp⟩) HCW.out ?_
  refine take_C (i := 6) (v := .slice da H.odgs.length dc) rfl (by decide) (by kernel_rfl) (by kernel_rfl) (by kernel_rfl) (by kernel_rfl) (fun _ _ _ h => h) (Or.inl ⟨by rfl, by intro W hW; have k1 := hW.1.cell 2 _ rfl; have k2 := hW.2.cell 2 _ rfl; go_simp⟩) HCW.out ?_
  refine take_C (i := 7) (v := .pointer (some ⟨ab, 2, none⟩)) rfl (by decide) (by kernel_rfl) (by kernel_rfl) (by kernel_rfl) (by kernel_rfl) (fun _ _ _ h => h) (Or.inl ⟨by rfl, by intro W hW; have k1 := hW.1.cell 2 _ rfl; have k2 := hW.2.cell 2 _ rfl; go_simp⟩) HCW.out ?_
  refine take_C (i := 8) (v := .string tb) rfl (by decide) (by kernel_rfl) (by kernel_rfl) (by kernel_rfl) (by kernel_rfl) (fun _ _ _ h => h) (Or.inl ⟨by rfl, by intro W hW; have k1 := hW.1.cell 2 _ rfl; have k2 := hW.2.cell 2 _ rfl; go_simp⟩) HCW.out ?_
  refine one_C (j := 9) (by kernel_rfl) rfl (fun K hK => ?_)
  go_simp
  have hb7 := below_new (w := wd) (.cells #[.string tb] 9)
  refine hK _ _ (fun _ => ⟨Mem.Sits.below HCW.out.1 hb7 HCW.out.1.lt, Mem.Sits.below HCW.out.2 hb7 HCW.out.2.lt⟩) ?_
  clear hK K
  have HH7 := hide (HH5.out.keep hb7)
  have HX7 := hide (Mem.Sits.below HCW.out.2 hb7 HCW.out.2.lt)
  have HSC := hide (src_val wd (.string tb) 9 _ rfl rfl)
  have HO7 := hide (HO5.out.trans (Off.of_below hb7))
  clear hb7 HH5
  generalize wd.alloc (.cells #[.string tb] 9) = w7 at *
  refine one_C (j := 10) (by kernel_rfl) rfl (fun K hK => ?_)
  refine Apn.step_any2 rfl (.tmp 41) (.tmp 44) 24 rfl 9 i0 (.string ⟨#[]⟩) 1 16 Tryz.underlying24 hi hz0 hz1 hz2 rfl (by decide) (.slice da H.odgs.length dc) H.odgs.length (H.odgs.map Value.string) rfl HH7.out.dv _ 1 1 [.string tb] rfl HSC.out (by unfold maxLen; omega) (by omega) ?_
  intro v8 w8 ow8 gr8 sm8 _
  obtain ⟨va8, vc8, rfl⟩ := own_shapeJ ow8
  have ho8 := row_offA gr8
  have HS8 := hide (Foot.Sits.off HH7.out.head ho8 (fun e => (HH7.out.d_ne e).1 rfl))
  have HX8 := hide (Foot.Sits.off HX7.out ho8 (fun e => by
    obtain ⟨cs, h5⟩ := sits_row HH7.out.dv e
    exact sits_neJ h5 HX7.out (by decide) rfl))
  have HO8 := hide ho8
  have HW8 := hide ow8
  have HM8 := hide sm8
  refine hK _ _ (fun _ => ⟨HS8.out, HX8.out⟩) ?_
  clear hK K ow8 gr8 sm8 ho8
  have e2 : w8.cell? ⟨hb, 2, none⟩ = some (.slice da H.odgs.length dc) := HS8.out.cell 2 _ rfl
  have f2 := HS8.out.frozen 2
  go_simp
  refine one_C (j := 11) (by kernel_rfl) rfl (fun K hK => ?_)
  go_simp
  refine hK _ _ (fun h => absurd h (by decide)) ?_
  clear hK K
  refine one_C (j := 12) (by kernel_rfl) rfl (fun K hK => ?_)
  go_simp
  refine hK _ _ (fun h => absurd h (by decide)) ?_
  clear hK K
  refine one_C (j := 13) (by kernel_rfl) rfl (fun K hK => ?_)
  go_simp
  refine hK _ _ (fun h => absurd h (by decide)) ?_
  clear hK K
  refine one_C (j := 14) (by kernel_rfl) rfl (fun K hK => ?_)
  go_simp
  refine hK _ _ (fun h => absurd h (by decide)) ?_
  clear hK K
  refine one_C (j := 15) (by kernel_rfl) rfl (fun K hK => ?_)
  go_simp
  refine hK _ _ (fun h => absurd h (by decide)) ?_
  clear hK K
  refine done_C (by kernel_rfl) ?_ _
  clear e2 f2
  have hso : Off [hb] w8 (w8.setCell ⟨hb, 2, none⟩ (.slice va8 (H.odgs.length + 1) vc8)) := (Off.refl _ _).set (List.mem_singleton.2 rfl) _ _
  have ho9 : Off (hb :: (Value.slice da H.odgs.length dc).ownBlock.toList) w7 (w8.setCell ⟨hb, 2, none⟩ (.slice va8 (H.odgs.length + 1) vc8)) := (HO8.out.mono fun k _ hk => List.mem_cons_of_mem _ hk).trans (hso.mono fun k _ hk => List.mem_singleton.1 hk ▸ List.mem_cons_self ..)
  have hr9 : (w8.setCell ⟨hb, 2, none⟩ (.slice va8 (H.odgs.length + 1) vc8)).ownsRow 0 9 1 (.slice va8 (H.odgs.length + 1) vc8) (H.odgs ++ [tb]).length ((H.odgs ++ [tb]).map Value.string) := by
    rw [List.length_append, List.map_append]
    refine own_off HW8.out hso fun k hk e => ?_
    obtain ⟨cs, h5⟩ := sits_row HW8.out hk
    exact sits_neJ h5 HS8.out (by decide) (List.mem_singleton.1 e)
  have hn9 : ∀ k ∈ (Value.slice va8 (H.odgs.length + 1) vc8).ownBlock.toList, k ∈ (Value.slice da H.odgs.length dc).ownBlock.toList ∨ w7.heap.size ≤ k := fun k hk => by
    rcases HM8.out with e | ⟨g, e, hg⟩
    · exact Or.inl (e ▸ hk)
    · rw [e] at hk
      have : k = g := by simpa using hk
      exact Or.inr (this ▸ hg)
  have HF := hide (HH7.out.dgs ho9 (HS8.out.set 2 _) hr9 hn9)
  have HQ := hide (show Hq w (w8.setCell ⟨hb, 2, none⟩ (.slice va8 (H.odgs.length + 1) vc8)) { H with onum := win, odgs := H.odgs ++ [tb], osegs := hent seg H.osegs } (Hp.blocks ⟨hb, sv, ws, .slice da H.odgs.length dc, sg⟩) hb from
    ⟨⟨_, HF.out, rfl, fun b hb' => Hp.of_in hb' (fun e => HN3.out b (e ▸ Hp.hb_in _)) (fun e => HN3.out b (Hp.sv_in ⟨hb, sv, ws, .slice da H.odgs.length dc, sg'⟩ e)) (fun e => (hn9 b e).elim (fun e => HN3.out b (Hp.dv_in ⟨hb, sv, ws, .slice da H.odgs.length dc, sg'⟩ e)) fun e => Or.inr (Nat.le_trans HO7.out.size e)) (fun e => HN3.out b (Hp.sg_in ⟨hb, sv, ws, .slice da H.odgs.length dc, sg'⟩ e)) (fun e => HN3.out b (Hp.ws_in ⟨hb, sv, ws, .slice da H.odgs.length dc, sg'⟩ e))⟩,
      HO7.out.trans (ho9.mono fun k _ hk => by
        rcases List.mem_cons.1 hk with e | e
        · exact e ▸ Hp.hb_in _
        · exact Hp.dv_in ⟨hb, sv, ws, .slice da H.odgs.length dc, sg⟩ e)⟩)
  clear hso ho9 hr9 hn9
  generalize w8.setCell ⟨hb, 2, none⟩ (.slice va8 (H.odgs.length + 1) vc8) = w9 at *
  go_wp2_with fail
  go_end0
  exact ⟨rfl, by rw [HE.out]; exact HQ.out⟩
end Go.Proofs.YtmkidefdegaamaaGreatDoor.Jr
namespace Go.Proofs.YtmkidefdegaamaaGreatDoor.Jr
open Go.RowKit Go.Maps Mem Foot Bytes Im Wm Hi Plainw Cq
theorem infoWin : (Tryz.prog.info? 60).map (fun i => (i.zero, i.size, i.bytes)) = some (some (.agg #[.int .i64 0, .slice none 0 0, .slice none 0 0]), 3, 56) := by kernel_rfl
theorem src_three (w : World) (x y z : Value) (t : TypeId) (hx : x.oneCell' = true) (hy : y.oneCell' = true) (hz : z.oneCell' = true) : Apn.Src (w.alloc (.cells #[x, y, z] t)) 3 (some ⟨w.heap.size, 0, none⟩) 1 [x, y, z] := by
  refine ⟨rfl, fun u hu => ?_, Or.inr ⟨_, rfl, fun j u hj => ?_⟩⟩
  · simp at hu
    rcases hu with rfl | rfl | rfl
    · exact hx
    · exact hy
    · exact hz
  · have hs := Sits.new w t #[x, y, z]
    have : (⟨w.heap.size, 0, none⟩ : Addr).add j = ⟨w.heap.size, j, none⟩ := by simp [Addr.add]; intro h; exact h.symm
    rw [this]
    exact hs.cell j u (by simpa using hj)
set_option maxRecDepth 10000 in
set_option maxHeartbeats 2000000 in
theorem takeS (H : Hs) (p : Hp) (seg win : Int) (tb : ByteArray) (w : World) (h : HA w H p) (hd : H.sealed.length ≤ 1000000000) (hl : H.osegs.length ≤ 1000000000) :
    Calls Tryz.prog 75 #[.pointer (some ⟨p.hb, 0, none⟩), .int .i64 seg, .agg #[.string ⟨#[115]⟩, .int .i64 win, .string tb]] w fun e w' => e = .returned (.tuple #[]) ∧ Hq w w' (htk H seg ⟨115, win, tb⟩) p.blocks p.hb := by
  have HE := hide (show htk H seg ⟨115, win, tb⟩ = { H with sealed := H.sealed ++ [(H.onum, H.odgs, hent seg H.osegs)], onum := 0, odgs := [], osegs := [], g := win } by unfold htk; rw [if_neg (show ¬ (115 : UInt8) = 98 by decide), if_pos rfl])
  obtain ⟨hb, sv, ws, dv, sg⟩ := p
  obtain ⟨va, vc, hsv⟩ := own_shapeJ h.sv
  obtain ⟨da, dc, hdv⟩ := own_shapeJ h.dv
  simp only at hdv hsv
  subst hsv
  have HDV := hide hdv
  clear hdv
  have hs1 := Sits.new w 121 #[.string ⟨#[115]⟩, .int .i64 win, .string tb]
  have hb1 := below_new (w := w) (.cells #[.string ⟨#[115]⟩, .int .i64 win, .string tb] 121)
  have HH1 := hide (h.keep hb1)
  have HX := hide hs1
  have HB1 := hide hb1
  have HLT := hide h.lt
  obtain ⟨i0, hi, hz0, hz1, hz2⟩ := info_parts infoWin
  clear h hs1 hb1
  go_enter Tryz.func75, Tryz.ntmps75
  go_upto_region 1 with fail
  generalize w.alloc (.cells #[.string ⟨#[115]⟩, .int .i64 win, .string tb] 121) = w1 at *
  obtain ⟨ab, hab⟩ : ∃ ab, w.heap.size = ab := ⟨_, rfl⟩
  rw [hab] at HX
  rw [hab]
  have HAB := hide hab
  clear hab
  have x0 : w1.cell? ⟨ab, 0, none⟩ = some (.string ⟨#[115]⟩) := HX.out.cell 0 _ rfl
  go_wp2_with fail
  clear x0
  refine (enterJ hb (.slice va H.sealed.length vc) (.int .i64 H.onum) dv sg (.int .i64 H.g) (.int .i64 H.es) (.int .i64 H.ez) H.osegs seg w1 HH1.out.head HH1.out.sg hl).mono ?_
  rintro e w3 ⟨rfl, sg', h1, h2, h3, h4⟩
  obtain ⟨ga, gc, hsg⟩ := own_shapeJ h2
  subst hsg
  have HH3 := hide (HH1.out.segs h4 h1 h2 h3)
  have HX3 := hide (Foot.Sits.off HX.out h4 (fun e => by
    have h6 := HAB.out
    rcases List.mem_cons.1 e with e | e
    · have := HLT.out hb (Hp.hb_in _)
      omega
    · have := HLT.out ab (Hp.sg_in ⟨hb, .slice va H.sealed.length vc, ws, dv, sg⟩ e)
      omega))
  have HO3 := hide (show Off (Hp.blocks ⟨hb, .slice va H.sealed.length vc, ws, dv, sg⟩) w w3 from (Off.of_below HB1.out).trans (h4.mono fun k _ hk => by
    rcases List.mem_cons.1 hk with e | e
    · exact e ▸ Hp.hb_in _
    · exact Hp.sg_in ⟨hb, .slice va H.sealed.length vc, ws, dv, sg⟩ e))
  have HN3 := hide (show ∀ b ∈ (Value.slice ga (hent seg H.osegs).length gc).ownBlock.toList, b ∈ sg.ownBlock.toList ∨ w.heap.size ≤ b from fun b hb' => (h3 b hb').imp id fun e => Nat.le_trans HB1.out.size e)
  clear h1 h2 h3 h4
  have hdv := HDV.out
  subst hdv
  have x0 : w3.cell? ⟨ab, 0, none⟩ = some (.string ⟨#[115]⟩) := HX3.out.cell 0 _ rfl
  go_upto_region 10 with fail
  clear x0 HH1 HX HDV
  generalize (hent seg H.osegs).length = gl at *
  refine region_D (fun W => Sits W hb 101 #[.slice va H.sealed.length vc, .int .i64 H.onum, .slice da H.odgs.length dc, .slice ga gl gc, .int .i64 H.g, .int .i64 H.es, .int .i64 H.ez]) 13 (by kernel_rfl) ?_
  have hdr : Below w3.heap.size w3 w3.drew := (Below.refl _ _).drew
  have HH5 := hide (HH3.out.keep hdr)
  have HX5 := hide (Mem.Sits.below HX3.out hdr HX3.out.lt)
  have HCW := hide (show (fun W => Sits W hb 101 #[.slice va H.sealed.length vc, .int .i64 H.onum, .slice da H.odgs.length dc, .slice ga gl gc, .int .i64 H.g, .int .i64 H.es, .int .i64 H.ez]) w3.drew from HH3.out.head)
  have HO5 := hide (HO3.out.trans (Off.of_below hdr))
  clear hdr HH3 HO3 HX3
  generalize w3.drew = wd at *
  refine take_C (i := 0) (v := .pointer (some ⟨hb, 0, none⟩)) rfl (by decide) (by kernel_rfl) (by kernel_rfl) (by kernel_rfl) (by kernel_rfl) (fun _ _ _ h => h) (Or.inl ⟨by rfl, by intro W hW; have k0 := hW.cell 0 _ rfl; have k1 := hW.cell 1 _ rfl; have k2 := hW.cell 2 _ rfl; have k3 := hW.cell 3 _ rfl; go_simp⟩) HCW.out ?_
  refine take_C (i := 1) (v := .pointer (some ⟨hb, 0, none⟩)) rfl (by decide) (by kernel_rfl) (by kernel_rfl) (by kernel_rfl) (by kernel_rfl) (fun _ _ _ h => h) (Or.inl ⟨by rfl, by intro W hW; have k0 := hW.cell 0 _ rfl; have k1 := hW.cell 1 _ rfl; have k2 := hW.cell 2 _ rfl; have k3 := hW.cell 3 _ rfl; go_simp⟩) HCW.out ?_
  refine take_C (i := 2) (v := .pointer (some ⟨hb, 0, none⟩)) rfl (by decide) (by kernel_rfl) (by kernel_rfl) (by kernel_rfl) (by kernel_rfl) (fun _ _ _ h => h) (Or.inl ⟨by rfl, by intro W hW; have k0 := hW.cell 0 _ rfl; have k1 := hW.cell 1 _ rfl; have k2 := hW.cell 2 _ rfl; have k3 := hW.cell 3 _ rfl; go_simp⟩) HCW.out ?_
  refine take_C (i := 3) (v := .pointer (some ⟨hb, 0, none⟩)) rfl (by decide) (by kernel_rfl) (by kernel_rfl) (by kernel_rfl) (by kernel_rfl) (fun _ _ _ h => h) (Or.inl ⟨by rfl, by intro W hW; have k0 := hW.cell 0 _ rfl; have k1 := hW.cell 1 _ rfl; have k2 := hW.cell 2 _ rfl; have k3 := hW.cell 3 _ rfl; go_simp⟩) HCW.out ?_
  refine take_C (i := 4) (v := .pointer (some ⟨hb, 0, none⟩)) rfl (by decide) (by kernel_rfl) (by kernel_rfl) (by kernel_rfl) (by kernel_rfl) (fun _ _ _ h => h) (Or.inl ⟨by rfl, by intro W hW; have k0 := hW.cell 0 _ rfl; have k1 := hW.cell 1 _ rfl; have k2 := hW.cell 2 _ rfl; have k3 := hW.cell 3 _ rfl; go_simp⟩) HCW.out ?_
  refine take_C (i := 5) (v := .slice va H.sealed.length vc) rfl (by decide) (by kernel_rfl) (by kernel_rfl) (by kernel_rfl) (by kernel_rfl) (fun _ _ _ h => h) (Or.inl ⟨by rfl, by intro W hW; have k0 := hW.cell 0 _ rfl; have k1 := hW.cell 1 _ rfl; have k2 := hW.cell 2 _ rfl; have k3 := hW.cell 3 _ rfl; go_simp⟩) HCW.out ?_
  refine take_C (i := 6) (v := .pointer (some ⟨hb, 0, none⟩)) rfl (by decide) (by kernel_rfl) (by kernel_rfl) (by kernel_rfl) (by kernel_rfl) (fun _ _ _ h => h) (Or.inl ⟨by rfl, by intro W hW; have k0 := hW.cell 0 _ rfl; have k1 := hW.cell 1 _ rfl; have k2 := hW.cell 2 _ rfl; have k3 := hW.cell 3 _ rfl; go_simp⟩) HCW.out ?_
  refine take_C (i := 7) (v := .pointer (some ⟨hb, 0, none⟩)) rfl (by decide) (by kernel_rfl) (by kernel_rfl) (by kernel_rfl) (by kernel_rfl) (fun _ _ _ h => h) (Or.inl ⟨by rfl, by intro W hW; have k0 := hW.cell 0 _ rfl; have k1 := hW.cell 1 _ rfl; have k2 := hW.cell 2 _ rfl; have k3 := hW.cell 3 _ rfl; go_simp⟩) HCW.out ?_
  refine take_C (i := 8) (v := .pointer (some ⟨hb, 0, none⟩)) rfl (by decide) (by kernel_rfl) (by kernel_rfl) (by kernel_rfl) (by kernel_rfl) (fun _ _ _ h => h) (Or.inl ⟨by rfl, by intro W hW; have k0 := hW.cell 0 _ rfl; have k1 := hW.cell 1 _ rfl; have k2 := hW.cell 2 _ rfl; have k3 := hW.cell 3 _ rfl; go_simp⟩) HCW.out ?_
  refine take_C (i := 9) (v := .pointer (some ⟨hb, 1, none⟩)) rfl (by decide) (by kernel_rfl) (by kernel_rfl) (by kernel_rfl) (by kernel_rfl) (fun _ _ _ h => h) (Or.inl ⟨by rfl, by intro W hW; have k0 := hW.cell 0 _ rfl; have k1 := hW.cell 1 _ rfl; have k2 := hW.cell 2 _ rfl; have k3 := hW.cell 3 _ rfl; go_simp⟩) HCW.out ?_
  refine take_C (i := 10) (v := .agg #[.int .i64 H.onum, .slice da H.odgs.length dc, .slice ga gl gc]) rfl (by decide) (by kernel_rfl) (by kernel_rfl) (by kernel_rfl) (by kernel_rfl) (fun _ _ _ h => h) (Or.inl ⟨by rfl, by intro W hW; have k0 := hW.cell 0 _ rfl; have k1 := hW.cell 1 _ rfl; have k2 := hW.cell 2 _ rfl; have k3 := hW.cell 3 _ rfl; go_simp⟩) HCW.out ?_
  refine one_C (j := 11) (by kernel_rfl) rfl (fun K hK => ?_)
  go_simp
  have hb7 := below_new (w := wd) (.cells #[.int .i64 H.onum, .slice da H.odgs.length dc, .slice ga gl gc] 60)
  refine hK _ _ (fun _ => Mem.Sits.below HCW.out hb7 HCW.out.lt) ?_
  clear hK K
  have HH7 := hide (HH5.out.keep hb7)
  have HX7 := hide (Mem.Sits.below HX5.out hb7 HX5.out.lt)
  have HSC := hide (src_three wd (.int .i64 H.onum) (.slice da H.odgs.length dc) (.slice ga gl gc) 60 rfl rfl rfl)
  have HO7 := hide (HO5.out.trans (Off.of_below hb7))
  clear hb7 HH5 HX5
  generalize wd.alloc (.cells #[.int .i64 H.onum, .slice da H.odgs.length dc, .slice ga gl gc] 60) = w7 at *
  refine one_C (j := 12) (by kernel_rfl) rfl (fun K hK => ?_)
  refine Apn.step_any2 rfl (.tmp 55) (.tmp 61) 58 rfl 60 i0 (.agg #[.int .i64 0, .slice none 0 0, .slice none 0 0]) 3 56 Tryz.underlying58 hi hz0 hz1 hz2 rfl (by decide) (.slice va H.sealed.length vc) H.sealed.length (ws.flatMap Wn.cells) rfl HH7.out.sv _ 1 1 [.int .i64 H.onum, .slice da H.odgs.length dc, .slice ga gl gc] rfl HSC.out (by unfold maxLen; omega) (by omega) ?_
  intro v8 w8 ow8 gr8 sm8 _
  obtain ⟨va8, vc8, rfl⟩ := own_shapeJ ow8
  have ho8 := row_offA gr8
  have HS8 := hide (Foot.Sits.off HH7.out.head ho8 (fun e => HH7.out.v_ne e rfl))
  have HX8 := hide (Foot.Sits.off HX7.out ho8 (fun e => by
    obtain ⟨cs, h5⟩ := sits_row HH7.out.sv e
    exact sits_neJ h5 HX7.out (by decide) rfl))
  have HO8 := hide ho8
  have HW8 := hide ow8
  have HM8 := hide sm8
  refine hK _ _ (fun _ => HS8.out) ?_
  clear hK K ow8 gr8 sm8 ho8
  have e0 : w8.cell? ⟨hb, 0, none⟩ = some (.slice va H.sealed.length vc) := HS8.out.cell 0 _ rfl
  have f0 := HS8.out.frozen 0
  go_simp
  refine one_C (j := 13) (by kernel_rfl) rfl (fun K hK => ?_)
  go_simp
  refine hK _ _ (fun h => absurd h (by decide)) ?_
  clear hK K
  refine one_C (j := 14) (by kernel_rfl) rfl (fun K hK => ?_)
  go_simp
  refine hK _ _ (fun h => absurd h (by decide)) ?_
  clear hK K
  refine one_C (j := 15) (by kernel_rfl) rfl (fun K hK => ?_)
  go_simp
  refine hK _ _ (fun h => absurd h (by decide)) ?_
  clear hK K
  refine one_C (j := 16) (by kernel_rfl) rfl (fun K hK => ?_)
  go_simp
  refine hK _ _ (fun h => absurd h (by decide)) ?_
  clear hK K
  refine done_C (by kernel_rfl) ?_ _
  clear e0 f0
  have hs9 := HS8.out.set 0 (.slice va8 (H.sealed.length + 1) vc8)
  have ho9 : Off [hb] w8 (w8.setCell ⟨hb, 0, none⟩ (.slice va8 (H.sealed.length + 1) vc8)) := (Off.refl _ _).set (List.mem_singleton.2 rfl) _ _
  have HX9 := hide (Foot.Sits.off HX8.out ho9 (fun e => sits_neJ HX8.out HS8.out (by decide) (List.mem_singleton.1 e)))
  have HO9 := hide ho9
  clear ho9
  generalize w8.setCell ⟨hb, 0, none⟩ (.slice va8 (H.sealed.length + 1) vc8) = w9 at *
  have c1 : w9.cell? ⟨hb, 1, none⟩ = some (.int .i64 H.onum) := hs9.cell 1 _ rfl
  have c2 : w9.cell? ⟨hb, 2, none⟩ = some (.slice da H.odgs.length dc) := hs9.cell 2 _ rfl
  have c3 : w9.cell? ⟨hb, 3, none⟩ = some (.slice ga gl gc) := hs9.cell 3 _ rfl
  have f1 := hs9.frozen 1
  have f2 := hs9.frozen 2
  have f3 := hs9.frozen 3
  have HS10 := hide (((hs9.set 1 (.int .i64 0)).set 2 (.slice none 0 0)).set 3 (.slice none 0 0))
  have ho10 : Off [hb] w9 (((w9.setCell ⟨hb, 1, none⟩ (.int .i64 0)).setCell ⟨hb, 2, none⟩ (.slice none 0 0)).setCell ⟨hb, 3, none⟩ (.slice none 0 0)) := (((Off.refl _ _).set (List.mem_singleton.2 rfl) _ _).set (List.mem_singleton.2 rfl) _ _).set (List.mem_singleton.2 rfl) _ _
  have HX10 := hide (Foot.Sits.off HX9.out ho10 (fun e => sits_neJ HX9.out hs9 (by decide) (List.mem_singleton.1 e)))
  have HO10 := hide (HO9.out.trans ho10)
  clear hs9 ho10
  go_upto_region 12 with fail
  clear c1 c2 c3 f1 f2 f3
  generalize ((w9.setCell ⟨hb, 1, none⟩ (.int .i64 0)).setCell ⟨hb, 2, none⟩ (.slice none 0 0)).setCell ⟨hb, 3, none⟩ (.slice none 0 0) = w10 at *
  have x1 : w10.cell? ⟨ab, 1, none⟩ = some (.int .i64 win) := HX10.out.cell 1 _ rfl
  have c4 : w10.cell? ⟨hb, 4, none⟩ = some (.int .i64 H.g) := HS10.out.cell 4 _ rfl
  have f4 := HS10.out.frozen 4
  have ho11 : Off [hb] w10 (w10.setCell ⟨hb, 4, none⟩ (.int .i64 win)) := (Off.refl _ _).set (List.mem_singleton.2 rfl) _ _
  have ho12 : Off (hb :: (Value.slice va H.sealed.length vc).ownBlock.toList) w7 (w10.setCell ⟨hb, 4, none⟩ (.int .i64 win)) := (HO8.out.mono fun k _ hk => List.mem_cons_of_mem _ hk).trans ((HO10.out.trans ho11).mono fun k _ hk => List.mem_singleton.1 hk ▸ List.mem_cons_self ..)
  have hr12 : (w10.setCell ⟨hb, 4, none⟩ (.int .i64 win)).ownsRow 0 60 3 (.slice va8 (H.sealed.length + 1) vc8) (H.sealed.length + 1) (ws.flatMap Wn.cells ++ [.int .i64 H.onum, .slice da H.odgs.length dc, .slice ga gl gc]) := own_off HW8.out (HO10.out.trans ho11) fun k hk e => by
    obtain ⟨cs, h5⟩ := sits_row HW8.out hk
    exact sits_neJ h5 HS8.out (by decide) (List.mem_singleton.1 e)
  have HF := hide (HH7.out.more ho12 (HS10.out.set 4 (.int .i64 win)) hr12)
  have HQ := hide (show Hq w (w10.setCell ⟨hb, 4, none⟩ (.int .i64 win)) { H with sealed := H.sealed ++ [(H.onum, H.odgs, hent seg H.osegs)], onum := 0, odgs := [], osegs := [], g := win } (Hp.blocks ⟨hb, .slice va H.sealed.length vc, ws, .slice da H.odgs.length dc, sg⟩) hb from
    ⟨⟨_, HF.out, rfl, fun b hb' => Hp.of_in hb' (fun e => Or.inl (e ▸ Hp.hb_in _)) (fun e => by
        rcases HM8.out with e1 | ⟨g, e1, hg⟩
        · exact Or.inl (Hp.sv_in ⟨hb, .slice va H.sealed.length vc, ws, .slice da H.odgs.length dc, sg⟩ (e1 ▸ e))
        · refine Or.inr (Nat.le_trans HO7.out.size ?_)
          simp only at e
          rw [e1] at e
          have : b = g := by simpa using e
          exact this ▸ hg) (fun e => by simp [Value.ownBlock] at e) (fun e => by simp [Value.ownBlock] at e) (fun e => by
        obtain ⟨x, hx, hk⟩ := List.mem_flatMap.1 e
        rcases List.mem_append.1 hx with hx | hx
        · exact Or.inl (Hp.ws_in ⟨hb, .slice va H.sealed.length vc, ws, .slice da H.odgs.length dc, sg⟩ (List.mem_flatMap.2 ⟨x, hx, hk⟩))
        · rw [List.mem_singleton.1 hx] at hk
          rcases List.mem_append.1 hk with hk | hk
          · exact Or.inl (Hp.dv_in ⟨hb, .slice va H.sealed.length vc, ws, .slice da H.odgs.length dc, sg⟩ hk)
          · exact (HN3.out b hk).imp (fun e => Hp.sg_in ⟨hb, .slice va H.sealed.length vc, ws, .slice da H.odgs.length dc, sg⟩ e) id)⟩,
      HO7.out.trans (ho12.mono fun k _ hk => by
        rcases List.mem_cons.1 hk with e | e
        · exact e ▸ Hp.hb_in _
        · exact Hp.sv_in ⟨hb, .slice va H.sealed.length vc, ws, .slice da H.odgs.length dc, sg⟩ e)⟩)
  clear ho11 ho12 hr12
  go_wp2_with fail
  go_end0
  exact ⟨rfl, by rw [HE.out]; exact HQ.out⟩
theorem takeB (H : Hs) (p : Hp) (seg win : Int) (tb : ByteArray) (w : World) (h : HA w H p) :
    Calls Tryz.prog 75 #[.pointer (some ⟨p.hb, 0, none⟩), .int .i64 seg, .agg #[.string ⟨#[98]⟩, .int .i64 win, .string tb]] w fun e w' => e = .returned (.tuple #[]) ∧ Hq w w' (htk H seg ⟨98, win, tb⟩) p.blocks p.hb := by
  refine (take_base p.hb p.sv p.dv p.sg H.onum H.g H.es H.ez seg win tb w h.head).mono ?_
  rintro e w' ⟨rfl, sg', h1, h2, h3, h4⟩
  refine ⟨rfl, ?_⟩
  have hE : htk H seg ⟨98, win, tb⟩ = { H with onum := 0, odgs := [], osegs := [seg], g := win } := by unfold htk; rw [if_pos rfl]
  rw [hE]
  refine ⟨⟨⟨p.hb, p.sv, p.ws, .slice none 0 0, sg'⟩, ⟨h1, own_off h.sv h4 fun k hk e => h.v_ne hk (List.mem_singleton.1 e), h.is, fun x hx => (h.ws x hx).off h4 fun k hk e => (h.w_ne (List.mem_flatMap.2 ⟨x, hx, hk⟩)).1 (List.mem_singleton.1 e), World.ownsRow_nil _ _ _ _, h2, fun k hk e => ?_⟩, rfl, fun b hb => Hp.of_in hb (fun e => Or.inl (e ▸ Hp.hb_in _)) (fun e => Or.inl (p.sv_in e)) (fun e => by simp [Value.ownBlock] at e) (fun e => Or.inr (h3 b e)) (fun e => Or.inl (p.ws_in e))⟩, h4.mono fun k _ hk => List.mem_singleton.1 hk ▸ p.hb_in⟩
  rcases List.mem_append.1 hk with hk | hk
  · simp [Value.ownBlock] at hk
  · have h5 := h3 k hk
    have h6 := h.lt k (p.ws_in e)
    omega
/-- A record is taken. -/
theorem takeR (H : Hs) (p : Hp) (seg : Int) (r : Rc) (hk : r.k = 100 ∨ r.k = 115 ∨ r.k = 98) (w : World) (h : HA w H p) (hd : H.odgs.length ≤ 1000000000) (hv : H.sealed.length ≤ 1000000000) (hl : H.osegs.length ≤ 1000000000) :
    Calls Tryz.prog 75 #[.pointer (some ⟨p.hb, 0, none⟩), .int .i64 seg, r.val] w fun e w' => e = .returned (.tuple #[]) ∧ Hq w w' (htk H seg r) p.blocks p.hb := by
  obtain ⟨k, n, t⟩ := r
  simp only at hk
  rcases hk with rfl | rfl | rfl
  · exact takeD H p seg n t w h hd hl
  · exact takeS H p seg n t w h hv hl
  · exact takeB H p seg n t w h
/-- Whether it fits. -/
theorem fitsR (H : Hs) (p : Hp) (r : Rc) (hk : r.k = 100 ∨ r.k = 115 ∨ r.k = 98) (w : World) (h : HA w H p) :
    Calls Tryz.prog 74 #[.pointer (some ⟨p.hb, 0, none⟩), r.val] w fun e w' => e = .returned (.bool (hfit H r)) ∧ Below w.heap.size w w' := by
  obtain ⟨k, n, t⟩ := r
  obtain ⟨hb, sv, ws, dv, sg⟩ := p
  obtain ⟨da, dc, hdv⟩ := own_shapeJ h.dv
  simp only at hk hdv
  subst hdv
  rcases hk with rfl | rfl | rfl
  · exact fits_datagram w hb sv sg H.onum H.g H.es H.ez da H.odgs.length dc n t h.head
  · exact fits_seal w hb sv sg H.onum H.g H.es H.ez da H.odgs.length dc n t h.head
  · exact fits_base w hb sv sg H.onum H.g H.es H.ez da H.odgs.length dc n t h.head
end Go.Proofs.YtmkidefdegaamaaGreatDoor.Jr
