/- A daemon started again, and what its disk's records tell: no Go in sight. -/
import Derived.Test.YtmkidefdegaamaaGreatDoorQey
import Derived.Test.YtmkidefdegaamaaGreatDoorKf
namespace Go.Proofs.YtmkidefdegaamaaGreatDoor.Dd
open Go.RowKit Bytes Im Wm Dm Jr Sk Mem Foot Wi Kr
theorem calm0 (m : Int) : Jcalm (J0 m) Dm.fresh := by
  exact ⟨rfl, rfl, good_fresh, List.Perm.refl _, fun n hn => (by cases hn), Int.le_refl _, fun h => absurd rfl h⟩
theorem dok0 (c : Fin 6 → Int) (hc : COk c) : DOk (D0 c Dm.fresh) [] 0 where
  cok := hc
  calm := calm0 _
  clk := ⟨Int.le_refl _, by show (0 : Int) ≤ 1000000000; omega⟩
  num := ⟨Int.le_refl _, by show (0 : Int) ≤ 1000000000; omega⟩
  cnt := rfl
  win := rfl
  keys := rfl
  lt := fun m hm => by cases hm
  low := fun m hm => by cases hm
  rise := List.Pairwise.nil
  great := ⟨Int.le_refl _, by show (-1 : Int) < 0; omega⟩
  opn := fun h => absurd h (by show ¬ (0 : Nat) < 0; omega)
  free := fun _ => Or.inl rfl
  spent := rfl
  next := Int.le_refl _
  segs := Nat.le_refl _
  used := Nat.le_refl _
  dues := Nat.le_refl _
  sz := Nat.le_refl _
  len := Nat.le_refl _
  lines := Nat.le_refl _
  short := fun d hd => by cases hd
/-- A daemon that has just begun. -/
theorem dk0 (c : Fin 6 → Int) (hc : COk c) : DK (D0 c Dm.fresh) [] [] hs0 0 :=
  ⟨dok0 c hc, Kd.new (calm0 _) rfl rfl rfl rfl, fun e => absurd rfl e, rfl, fun s hs => (by cases hs), rfl⟩
theorem due_keys (c : Fin 6 → Int) (l : List (Int × List ByteArray × List Int)) : (dueOf c l).map (·.k) = l.map (·.1) := by
  unfold dueOf
  rw [List.map_map]
  rfl
/-- Bounds of what was found. -/
structure Sm (R : List (Int × List Rc)) (H : Hs) (n : Nat) : Prop where
  es : -1 ≤ H.es ∧ H.es + 1 ≤ n
  ez : 0 ≤ H.ez ∧ H.ez ≤ 500 * n
  segs : R.length ≤ n
  tsz : Jr.tsz R ≤ 500 * n
  dues : H.sealed.length ≤ n
  len : H.odgs.length ≤ n
  lines : nls (H.odgs.map B) ≤ n
  short : ∀ d ∈ H.odgs, d.size ≤ 256
  free : H.odgs = [] → H.osegs = []
  top : H.odgs = [] → H.g < 1000000000
theorem Sm.hbd {R : List (Int × List Rc)} {H : Hs} {n : Nat} (h : Sm R H n) (hb : Bnd H) (hn : n ≤ 100000000) : HBd H := by
  have h1 := h.es
  have h2 := h.ez
  have h3 := hb.g
  exact ⟨⟨h3.2, h3.1⟩, ⟨by omega, by omega⟩, ⟨h2.1, by omega⟩, hb.up, fun s hs => ⟨(hb.sn s hs).1, Int.le_trans (hb.sn s hs).2 h3.2⟩⟩
theorem hend_num {H : Hs} (hb : Bnd H) (ht : H.odgs = [] → H.g < 1000000000) : H.g < (hend H).onum ∧ (hend H).onum ≤ 1000000000 ∧ (H.odgs ≠ [] → (hend H).onum = H.onum) ∧ (H.odgs = [] → (hend H).onum = H.g + 1) := by
  have hg := hb.g
  by_cases e : H.odgs = []
  · have h1 : (hend H).onum = H.g + 1 := by unfold hend; rw [if_pos e]
    have := ht e
    exact ⟨by omega, by omega, fun h => absurd e h, fun _ => h1⟩
  · have h1 : (hend H).onum = H.onum := by unfold hend; rw [if_neg e]
    have := hb.opn e
    exact ⟨by omega, by omega, fun _ => h1, fun h => absurd h e⟩
theorem dk_of {c : Fin 6 → Int} {S S' : Dk} {R : List (Int × List Rc)} {H : Hs} {n : Nat} (hc : COk c) (kd : Kd (Jof (c 5) H) S' R [] H) (hS : tidE (husd H) H.es H.ez (sgs S) S = S') (sm : Sm R H n) (hdg : ∀ s ∈ H.sealed, DgOk s.2.1) : DK (Dof c S H) R [] H n := by
  have hb : Bnd H := by
    have h1 := bnd0.all kd.cl
    rw [kd.is] at h1
    exact h1
  have hon := hend_num hb sm.top
  have hg := hb.g
  have hop : H.odgs ≠ [] → H.osegs ≠ [] := by
    have h1 := opened (h := hs0) (l := ents R) (fun e => absurd rfl e)
    rw [kd.is] at h1
    exact h1
  have h0 : 0 ≤ (hend H).onum := by omega
  refine ⟨⟨hc, ?_, ⟨Int.le_refl _, by show (0 : Int) ≤ 1000000000; omega⟩, ⟨h0, hon.2.1⟩, ?_, rfl, ?_, fun m hm => ?_, fun m hm => ?_, ?_, ⟨hg.1, hon.1⟩, fun hp => ?_, fun hp => ?_, rfl, sm.es.2, ?_, ?_, ?_, ?_, ?_, sm.lines, fun d hd => ?_⟩, ?_, fun e => (hon.2.2.1 e).symm, rfl, hdg, rfl⟩
  · show Jcalm (Jof (c 5) H) (tidE (husd H) H.es H.ez (sgs S) S)
    rw [hS]
    exact kd.seg.calm
  · show H.odgs.length = _
    rw [List.length_map]
  · show (H.sealed.map fun s => (s.1, s.2.2)).map (·.1) = (dueOf c H.sealed).map (·.k)
    rw [due_keys, List.map_map]
    rfl
  · have h1 : m.k ∈ (dueOf c H.sealed).map (·.k) := List.mem_map_of_mem hm
    rw [due_keys] at h1
    obtain ⟨s, hs, e⟩ := List.mem_map.1 h1
    have h2 := hb.sn s hs
    have h3 := hon.1
    show m.k < (hend H).onum
    omega
  · have h1 : m.k ∈ (dueOf c H.sealed).map (·.k) := List.mem_map_of_mem hm
    rw [due_keys] at h1
    obtain ⟨s, hs, e⟩ := List.mem_map.1 h1
    have h2 := hb.sn s hs
    omega
  · show (dueOf c H.sealed).Pairwise fun a b => a.k < b.k
    have h1 := hb.up
    rw [← due_keys c, List.pairwise_map] at h1
    exact h1
  · have hp' : 0 < H.odgs.length := hp
    exact hop (List.length_pos_iff.1 hp')
  · have hp' : H.odgs.length = 0 := hp
    exact Or.inl (sm.free (List.length_eq_zero_iff.1 hp'))
  · show (tidE (husd H) H.es H.ez (sgs S) S).segs.length ≤ n
    rw [hS]
    have h1 := congrArg List.length kd.seg.segs
    rw [List.length_map, List.length_map] at h1
    rw [h1]
    exact sm.segs
  · show Dm.used (tidE (husd H) H.es H.ez (sgs S) S).segs ≤ 500 * n
    rw [hS, used_txs kd.seg.segs]
    exact sm.tsz
  · show (dueOf c H.sealed).length ≤ n
    unfold dueOf
    rw [List.length_map]
    exact sm.dues
  · show H.ez.toNat + 0 ≤ 500 * n
    have := sm.ez
    omega
  · rw [List.length_map]
    exact sm.len
  · obtain ⟨s, hs, rfl⟩ := List.mem_map.1 hd
    rw [← size_B]
    exact sm.short s hs
  · show Kd (Jof (c 5) H) (tidE (husd H) H.es H.ez (sgs S) S) R [] H
    rw [hS]
    exact kd
theorem DK.ends {D : Dn} {R : List (Int × List Rc)} {b : List Rc} {H : Hs} {n : Nat} (h : DK D R b H n) : ∀ p ∈ R, 0 ≤ p.1 ∧ p.1 < D.J.next ∧ (stx p.2).length ≤ 500 * n := fun p hp => by
  have h1 : p.1 ∈ D.S.segs.map (·.num) := by
    rw [h.kd.seg.nums]
    exact List.mem_map_of_mem hp
  have h2 := h.kd.seg.calm.below p.1 h1
  obtain ⟨s, hs, e⟩ := List.mem_map.1 h1
  have h3 := (h.kd.seg.calm.good.num s hs).1
  have h4 := tsz_mem hp
  rw [← h.tsz] at h4
  have h5 := h.ok.used
  exact ⟨by omega, h2, by omega⟩
theorem DK.len {D : Dn} {R : List (Int × List Rc)} {b : List Rc} {H : Hs} {n : Nat} (h : DK D R b H n) : R.length = D.S.segs.length := by
  have h1 := congrArg List.length h.kd.seg.segs
  rw [List.length_map, List.length_map] at h1
  exact h1.symm
theorem DK.small {D : Dn} {R : List (Int × List Rc)} {b : List Rc} {H : Hs} {n : Nat} (h : DK D R b H n) (hfr : H.odgs = [] → H.osegs = []) (hg : H.odgs = [] → H.g < 1000000000) : Sm R H n := by
  have he := end_in h.kd.ne
  rw [h.kd.is] at he
  have hnx := h.ok.next
  have h0 := h.kd.seg.calm.next0
  have hl := h.ok.len
  rw [List.length_map] at hl
  refine ⟨?_, ?_, by rw [h.len]; exact h.ok.segs, by rw [← h.tsz]; exact h.ok.used, ?_, hl, h.ok.lines, fun d hd => ?_, hfr, hg⟩
  · rcases he with ⟨e, _⟩ | ⟨p, hp, e, _⟩
    · omega
    · have := h.ends p hp
      omega
  · rcases he with ⟨_, e⟩ | ⟨p, hp, _, e⟩
    · omega
    · have := h.ends p hp
      omega
  · have h1 := h.ok.dues
    rw [h.due] at h1
    unfold dueOf at h1
    rw [List.length_map] at h1
    exact h1
  · have h1 := h.ok.short (B d) (List.mem_map_of_mem hd)
    rw [← size_B] at h1
    exact h1
theorem DK.text {D : Dn} {R : List (Int × List Rc)} {b : List Rc} {H : Hs} {n : Nat} (h : DK D R b H n) (hn : n ≤ 100000000) : ∀ s ∈ D.S.segs, s.text.size ≤ 140737488355328 := fun s hs => by
  have h1 := used_mem hs
  have h2 := h.ok.used
  omega
/-- The power fails where all is synced, and a daemon is started. -/
theorem DK.whole {D : Dn} {R : List (Int × List Rc)} {H : Hs} {n : Nat} (h : DK D R [] H n) (hn : n ≤ 1500000) (hfr : H.odgs = [] → H.osegs = []) (hg : H.odgs = [] → H.g < 1000000000) (t : Int) :
    doCrash D.S t = D.S ∧ OpenOk D.S R H ∧ DK (Dof D.c D.S H) R [] H n := by
  have sm := h.small hfr hg
  have hcl := h.kd.cl
  have his := h.kd.is
  obtain ⟨hcr, htd⟩ := h.kd.whole t
  have hz := h.text (by omega)
  have hopn := htd.opens h.kd.ne hcl h.kd.seg.rise hz (by
    have h1 := ents_len R
    have h2 := sm.tsz
    omega) (by have := h.ok.segs; omega) (by rw [his]; exact sm.hbd h.bnd (by omega))
  have hkd := htd.kd h.kd.ne hcl h.kd.seg.rise (D.c 5)
  have hti := (htd.tidy h.kd.ne hcl h.kd.seg.rise).2
  rw [his] at hopn hkd hti
  exact ⟨hcr, hopn, dk_of h.ok.cok hkd hti sm h.dg⟩
theorem nls_take (ds : List Im.Bs) (k : Nat) : nls (ds.take k) ≤ nls ds := by
  have h1 := nls_append (ds.take k) (ds.drop k)
  rw [List.take_append_drop] at h1
  omega
/-- The power fails where there are but datagrams. -/
theorem DK.torn {D : Dn} {R : List (Int × List Rc)} {b : List Rc} {H : Hs} {n : Nat} (h : DK D R b H n) (hn : n ≤ 1500000) (hg : H.g = -1) (m : Nat) (hm : 0 < m) (hmb : m ≤ (ents R).length - b.length) (t : Int) :
    ∃ ss R' H', OpenOk (doCrash D.S t) ss H' ∧ DK (Dof D.c (doCrash D.S t) H') R' [] H' n ∧ H'.odgs = H.odgs.take H'.odgs.length ∧ m ≤ H'.odgs.length ∧ H'.odgs.length ≤ H.odgs.length ∧ H'.sealed = [] ∧ H'.g = -1 ∧ H'.onum = D.num := by
  have hcl := h.kd.cl
  have hgm := (AllCl.gm bnd0 hcl).2
  rw [h.kd.is] at hgm
  have hall := hgm (by omega)
  have hH := AllCl.dgs hcl hall
  rw [h.kd.is] at hH
  have hHo : H.odgs = (ents R).map (·.2.t) := hH.1
  have hod : H.odgs ≠ [] := fun e => by
    rw [e] at hHo
    have := congrArg List.length hHo
    rw [List.length_map, List.length_nil] at this
    omega
  have hne : D.J.opn ≠ [] := h.ok.opn (by
    rw [h.ok.cnt, List.length_map]
    exact List.length_pos_iff.2 hod)
  obtain ⟨R0, a, e, f, y, hR, hb, htold, hl, x, hx, hxl⟩ := h.kd.lft hne (h.text (by omega)) t
  obtain ⟨rs, hrs⟩ : ∃ rs, a ++ e = rs := ⟨_, rfl⟩
  rw [hrs] at htold hl hx
  have hke := kept_ents R0 (jlast D.J) rs
  obtain ⟨Rk, hRk⟩ : ∃ Rk, kept R0 (jlast D.J) rs = Rk := ⟨_, rfl⟩
  obtain ⟨hpw, hus, htf, htd⟩ := hl.tidy
  have hop := hl.opens htold
  rw [hRk] at hke hpw hus htf htd hop
  rw [← hke] at hx
  have hcl1 := hcl
  rw [hx, allCl_append] at hcl1
  obtain ⟨H', hH'⟩ : ∃ H', hfold hs0 (ents Rk) = H' := ⟨_, rfl⟩
  have hd1 : ∀ z ∈ ents Rk, z.2.k = 100 := fun z hz => hall z (by rw [hx]; exact List.mem_append_left _ hz)
  have hd2 : ∀ z ∈ x, z.2.k = 100 := fun z hz => hall z (by rw [hx]; exact List.mem_append_right _ hz)
  have k1 := AllCl.dgs hcl1.1 hd1
  have k2 := AllCl.dgs hcl1.2 hd2
  have hfo : hfold (hfold hs0 (ents Rk)) x = H := by rw [← hfold_append, ← hx]; exact h.kd.is
  rw [hfo] at k2
  rw [hH'] at k1 k2 hus htf htd hop
  have k1o : H'.odgs = (ents Rk).map (·.2.t) := k1.1
  have hlen : (ents R).length = (ents Rk).length + f.length := by rw [hx, List.length_append, hxl]
  have hbl : f.length ≤ b.length := by rw [hb, List.length_append]; omega
  have hol : H'.odgs.length = (ents Rk).length := by rw [k1o, List.length_map]
  have hle : m ≤ H'.odgs.length := by omega
  have ho' : H'.odgs ≠ [] := fun e => by
    rw [e, List.length_nil] at hle
    omega
  have htk : H'.odgs = H.odgs.take H'.odgs.length := by
    rw [k2.1, List.take_left']
    rfl
  have hll : H'.odgs.length ≤ H.odgs.length := by
    rw [k2.1, List.length_append]
    omega
  have hsub : ∀ p ∈ Rk, p.2 ≠ [] := fun p hp => by
    rw [← hRk] at hp
    unfold kept at hp
    split at hp
    · exact hl.ne p hp
    · rename_i hrn
      rcases List.mem_append.1 hp with hp | hp
      · exact hl.ne p hp
      · rw [List.mem_singleton.1 hp]
        exact hrn
  have hszR : Jr.tsz R = Jr.tsz R0 + (stx (a ++ b)).length := by
    rw [hR, tsz_append]
    simp [Jr.tsz]
  have hrsl : (stx rs).length ≤ (stx (a ++ b)).length := by
    rw [← hrs, hb, ← List.append_assoc, stx_append (a ++ e) f, List.length_append]
    omega
  have hsz : Jr.tsz Rk ≤ Jr.tsz R ∧ Rk.length ≤ R.length := by
    rw [← hRk]
    unfold kept
    split
    · exact ⟨by omega, by rw [hR, List.length_append]; omega⟩
    · rw [tsz_append]
      refine ⟨?_, by rw [hR, List.length_append, List.length_append]; exact Nat.le_refl _⟩
      have h2 : Jr.tsz [(jlast D.J, rs)] = (stx rs).length := by simp [Jr.tsz]
      omega
  have hnum : ∀ p ∈ Rk, 0 ≤ p.1 ∧ p.1 < D.J.next := fun p hp => by
    have h1 : ∃ q ∈ R, q.1 = p.1 := by
      rw [← hRk] at hp
      unfold kept at hp
      rw [hR]
      split at hp
      · exact ⟨p, List.mem_append_left _ hp, rfl⟩
      · rcases List.mem_append.1 hp with hp | hp
        · exact ⟨p, List.mem_append_left _ hp, rfl⟩
        · rw [List.mem_singleton.1 hp]
          exact ⟨(jlast D.J, a ++ b), by simp, rfl⟩
    obtain ⟨q, hq, e⟩ := h1
    have := h.ends q hq
    omega
  have hu := h.ok.used
  rw [h.tsz] at hu
  have hnx := h.ok.next
  have h0 := h.kd.seg.calm.next0
  have hon : H'.onum = D.num := by
    rw [← k2.2.2.2 ho']
    exact h.num hod
  have he := end_in hsub
  rw [hH'] at he
  have hll2 := h.ok.len
  rw [List.length_map] at hll2
  have hs1 : H'.sealed = [] := k1.2.1
  have hg1 : H'.g = -1 := k1.2.2.1
  have sm : Sm Rk H' n := by
    refine ⟨?_, ?_, ?_, by omega, by rw [hs1]; exact Nat.zero_le _, by omega, ?_, fun d hd => ?_, fun e => absurd e ho', fun e => absurd e ho'⟩
    · rcases he with ⟨e, _⟩ | ⟨p, hp, e, _⟩
      · omega
      · have := hnum p hp
        omega
    · rcases he with ⟨_, e⟩ | ⟨p, hp, _, e⟩
      · omega
      · have := tsz_mem hp
        omega
    · have h1 := hsz.2
      rw [h.len] at h1
      have := h.ok.segs
      omega
    · rw [htk, List.map_take]
      exact Nat.le_trans (nls_take _ _) h.ok.lines
    · have hd' : d ∈ H.odgs := by
        rw [htk] at hd
        exact List.mem_of_mem_take hd
      have h1 := h.ok.short (B d) (List.mem_map_of_mem hd')
      rw [← size_B] at h1
      exact h1
  have hb' : Bnd H' := by
    have h1 := bnd0.all hcl1.1
    rw [hH'] at h1
    exact h1
  have hkd := htd.kd hsub hcl1.1 hpw (D.c 5)
  rw [hH'] at hkd
  refine ⟨R0 ++ [(jlast D.J, rs)], Rk, H', hop ?_ ?_ (sm.hbd hb' (by omega)), dk_of h.ok.cok hkd rfl sm (fun s hs => by rw [hs1] at hs; cases hs), htk, hle, hll, hs1, hg1, hon⟩
  · rw [← hke]
    have h1 := ents_len Rk
    omega
  · have h1 : (doCrash D.S t).segs.length = D.S.segs.length := by
      show (D.S.segs.map _).length = _
      rw [List.length_map]
    rw [h1]
    have := h.ok.segs
    omega
end Go.Proofs.YtmkidefdegaamaaGreatDoor.Dd
namespace Go.Proofs.YtmkidefdegaamaaGreatDoor.Dd
open Go.RowKit Bytes Im Wm Dm Jr Sk Mem Foot Wi Kr
/-- How much datagrams weigh. -/
def wt (l : List ByteArray) : Nat := (l.map fun t => t.size + 1).sum
theorem wt_append (a b : List ByteArray) : wt (a ++ b) = wt a + wt b := by simp [wt]
theorem wt_take (l : List ByteArray) (i : Nat) : wt (l.take i) ≤ wt l := by
  conv => rhs; rw [← List.take_append_drop i l, wt_append]
  omega
theorem wt_next {l : List ByteArray} {i : Nat} {s : ByteArray} (h : l[i]? = some s) : wt (l.take (i + 1)) = wt (l.take i) + (s.size + 1) := by
  rw [List.take_add_one, h, wt_append]
  simp [wt]
/-- So many datagrams were taken; at least k are sure. -/
structure Ph (p : Fin 6 → Int) (L : List ByteArray) (k i : Nat) (D : Dn) (R : List (Int × List Rc)) (b : List Rc) (H : Hs) (n : Nat) : Prop where
  dk : DK D R b H n
  od : H.odgs = L.take i
  g : H.g = -1
  n : n ≤ wt (L.take i)
  c : D.c = p
  num : D.num = 0
  clk : D.clock = 0
  syn : k ≤ (ents R).length - b.length
def Ph1 (p : Fin 6 → Int) (L : List ByteArray) (k i : Nat) (D : Dn) : Prop := ∃ R b H n, Ph p L k i D R b H n
theorem Ph1.ok {p : Fin 6 → Int} {L : List ByteArray} {k i : Nat} {D : Dn} (h : Ph1 p L k i D) : ∃ ds n, DOk D ds n ∧ n ≤ wt L := by
  obtain ⟨R, b, H, n, h⟩ := h
  exact ⟨_, n, h.dk.ok, Nat.le_trans h.n (wt_take _ _)⟩
theorem Ph1.begin (c : Fin 6 → Int) (hc : COk c) (L : List ByteArray) : Ph1 c L 0 0 (D0 c Dm.fresh) :=
  ⟨_, _, _, _, dk0 c hc, rfl, rfl, Nat.zero_le _, rfl, rfl, rfl, Nat.zero_le _⟩
theorem stay0 {D : Dn} (h : D.clock = 0) (hn : D.num = 0) : dturn D = D := by
  unfold dturn
  rw [if_pos]
  rw [h, hn, Int.zero_ediv]
  exact Int.le_refl _
theorem Ph1.packet {p : Fin 6 → Int} {L : List ByteArray} {k i : Nat} {D : Dn} (h : Ph1 p L k i D) (hL : wt L ≤ 1500000) {s : ByteArray} (hi : L[i]? = some s) (hs : s.size ≤ 256) : Ph1 p L k (i + 1) (dpacket D s) := by
  obtain ⟨R, b, H, n, h⟩ := h
  have hn := Nat.le_trans h.n (wt_take L i)
  obtain ⟨R', b', H', k1, k2, _, k4, k5⟩ := h.dk.write (by omega) hs
  have he : dpacket D s = dwrite D s := by
    unfold dpacket
    rw [stay0 h.clk h.num]
  rw [he]
  refine ⟨R', b', H', _, k1, ?_, k4.trans h.g, ?_, h.c, h.num, h.clk, Nat.le_trans h.syn k5⟩
  · rw [k2, h.od, List.take_add_one, hi]
    rfl
  · rw [wt_next hi]
    have := h.n
    omega
theorem Ph1.sync {p : Fin 6 → Int} {L : List ByteArray} {k i : Nat} {D : Dn} (h : Ph1 p L k i D) (hi : i ≤ L.length) : Ph1 p L i i (dsync D) := by
  obtain ⟨R, b, H, n, h⟩ := h
  refine ⟨R, [], H, n, h.dk.sync, h.od, h.g, h.n, h.c, h.num, h.clk, ?_⟩
  have hcl := h.dk.kd.cl
  have hgm := (AllCl.gm bnd0 hcl).2
  rw [h.dk.kd.is] at hgm
  have hH := AllCl.dgs hcl (hgm (by have := h.g; omega))
  rw [h.dk.kd.is] at hH
  have hHo : H.odgs = (ents R).map (·.2.t) := hH.1
  have h1 := congrArg List.length hHo
  rw [h.od, List.length_map, List.length_take] at h1
  simp only [List.length_nil]
  omega
theorem Ph1.crash {p : Fin 6 → Int} {L : List ByteArray} {f : Nat} {D : Dn} (h : Ph1 p L (f + 1) L.length D) (hL : wt L ≤ 1500000) (t : Int) :
    ∃ k ss H R n, f < k ∧ k ≤ L.length ∧ OpenOk (doCrash D.S t) ss H ∧ DK (Dof p (doCrash D.S t) H) R [] H n ∧ n ≤ wt L ∧ H.odgs = L.take k ∧ H.odgs.length = k ∧ H.sealed = [] ∧ H.g = -1 ∧ H.onum = 0 := by
  obtain ⟨R, b, H, n, h⟩ := h
  have hn := Nat.le_trans h.n (wt_take L _)
  have hod := h.od
  rw [List.take_length] at hod
  obtain ⟨ss, R', H', k1, k2, k3, k4, k5, k6, k7, k8⟩ := h.dk.torn (by omega) h.g (f + 1) (by omega) h.syn t
  rw [h.c] at k2
  rw [hod] at k3 k5
  exact ⟨_, ss, H', R', n, by omega, k5, k1, k2, hn, k3, rfl, k6, k7, by rw [k8, h.num]⟩
/-- The text of a window. -/
noncomputable def tx (p : Fin 6 → Int) (n : Int) (l : List ByteArray) : ByteArray := ⟨(wtext n (wsum (limOf p) (l.map B))).toArray⟩
theorem second {p : Fin 6 → Int} (hc : COk p) {l : List ByteArray} {C : Dk} {H : Hs} {R : List (Int × List Rc)} {n : Nat} (h : DK (Dof p C H) R [] H n) (hn : n ≤ 1400000) (hod : H.odgs = l) (hl : l ≠ []) (hs : H.sealed = []) (ho : H.onum = 0) :
    (Dof p C H).num = 0 ∧ (Dof p C H).count = l.length ∧ dtext (Dof p C H) = tx p 0 l ∧
      ∃ D2 R2 H2, (if p 0 ≤ (Dof p C H).clock ∨ 1000000000 < p 0 then Dof p C H else dclock (Dof p C H) (p 0)) = D2 ∧ DK D2 R2 [] H2 (n + 1) ∧ D2.due = [⟨0, tx p 0 l⟩] ∧ doCrash D2.S 0 = D2.S ∧ OpenOk D2.S R2 H2 ∧ DK (Dof p D2.S H2) R2 [] H2 (n + 1) ∧ (Dof p D2.S H2).due = [⟨0, tx p 0 l⟩] ∧ (Dof p D2.S H2).num = 1 ∧ (Dof p D2.S H2).count = 0 ∧ H2.sealed.length = 1 := by
  have hne : H.odgs ≠ [] := by rw [hod]; exact hl
  have hnum : (Dof p C H).num = 0 := by rw [← h.num hne, ho]
  have hw := hc.w
  have hclk : (Dof p C H).clock = 0 := rfl
  have hcc : (Dof p C H).c = p := rfl
  have hdiv : p 0 / (Dof p C H).c 0 = 1 := by rw [hcc]; exact Int.ediv_self (by omega)
  obtain ⟨R2, H2, k1, k2, k3, k4, ⟨o, k5⟩, k6, k7, k8⟩ := h.turn (by omega) (t := p 0) (by omega) (by omega) (by rw [hnum, hdiv]; decide) hne
  rw [hnum] at k4 k5
  rw [hs, hod, List.nil_append] at k5
  have hdue : ∀ c', dueOf c' H2.sealed = [⟨0, tx c' 0 l⟩] := fun c' => by rw [k5]; rfl
  obtain ⟨j1, j2, j3⟩ := k1.whole (by omega) (fun _ => k3) (fun _ => by omega) 0
  rw [k8, hcc] at j3
  refine ⟨hnum, ?_, ?_, _, R2, H2, rfl, ?_⟩
  · show H.odgs.length = _
    rw [hod]
  · unfold dtext tx
    rw [hnum]
    show (⟨(wtext 0 (wsum (limOf p) (H.odgs.map B))).toArray⟩ : ByteArray) = _
    rw [hod]
  · rw [if_neg (by rw [hclk]; omega)]
    refine ⟨k1, ?_, j1, j2, j3, hdue p, ?_, ?_, by rw [k5]; rfl⟩
    · rw [k1.due, k8]
      exact hdue _
    · show (hend H2).onum = 1
      have := (hend_num k1.bnd (fun _ => by omega)).2.2.2 k2
      omega
    · show H2.odgs.length = 0
      rw [k2]
      rfl
end Go.Proofs.YtmkidefdegaamaaGreatDoor.Dd
namespace Go.Proofs.YtmkidefdegaamaaGreatDoor.Jr
open Go.RowKit Go.Maps Mem Foot Bytes Im Wm Hi Plainw Cq Dm Dh Dd
theorem crash_full {S : Dk} (hg : Dm.Good S) (t : Int) : ∀ s ∈ (doCrash S t).segs, s.syn = s.text.size := fun s hs => by
  have hs' : s ∈ S.segs.map (torn (if t < 0 then 0 else t)) := hs
  obtain ⟨q, hq, rfl⟩ := List.mem_map.1 hs'
  obtain ⟨m, _, _, _, h⟩ := torn_text (if t < 0 then 0 else t) q (by split <;> omega) (hg.syn q hq)
  exact h
theorem good_take {C : Dk} (h : Dm.Good C) (i : Nat) : Dm.Good ⟨C.segs.take i, -1, -1⟩ :=
  { h with rise := h.rise.sublist (List.take_sublist i _), syn := fun s hs => h.syn s (List.mem_of_mem_take hs), num := fun s hs => h.num s (List.mem_of_mem_take hs), left := (by decide : (-1 : Int) ≤ -1 ∧ (-1 : Int) ≤ 9223372036854775807), room := (by decide : (-1 : Int) ≤ -1 ∧ (-1 : Int) ≤ 9223372036854775807) }
theorem used_take (l : List Seg) (i : Nat) : Dm.used (l.take i) + 0 ≤ Dm.used l := by
  conv => rhs; rw [← List.take_append_drop i l, used_append]
  omega
set_option maxRecDepth 10000 in
set_option maxHeartbeats 4000000 in
theorem copiedL (w : World) (bx ba cap : Nat) (bs : List Nat) (S : Dk) (hP : PD w bx S ba cap bs) (k u : Nat) (hF : Fit S k u) (hk : k ≤ 1000000000) (hu : u ≤ 100000000000) (t : Int) :
    Calls Tryz.prog 11 #[.pointer (some ⟨bx, 0, none⟩), .int .i64 t] w fun e w' => ∃ nb ba' cap' bs', e = .returned (.pointer (some ⟨nb, 0, none⟩)) ∧ PD w' nb (doCrash S t) ba' cap' bs' ∧ (∀ b ∈ pf nb ba' bs', w.heap.size ≤ b) ∧ Off (bx :: bs) w w' := by
  have hlen := hP.len
  have hfl := hF.len
  have hbl : bs.length ≤ 1000000000 := by omega
  have hz : ∀ s ∈ S.segs, s.text.size ≤ 1000000000000 := fun s hs => by
    have h1 := used_mem hs
    have h2 := hF.use
    omega
  have hcr := crash bx ba cap bs S t w hP hF.good hbl hz
  have HFT := hide (fit_crash hF t)
  have HFL := hide (crash_full hF.good t)
  have HCL := hide (show (doCrash S t).left = -1 from rfl)
  have HCE := hide (show (⟨(doCrash S t).segs, -1, -1⟩ : Dk) = doCrash S t from rfl)
  obtain ⟨C, hC⟩ : ∃ C, doCrash S t = C := ⟨_, rfl⟩
  rw [hC] at hcr HFT HFL HCL HCE ⊢
  have hcl : C.segs.length ≤ 1000000000 := by
    have := HFT.out.len
    omega
  clear hP hF hz hlen hfl hC
  go_enter Tryz.func11, Tryz.ntmps11
  go_wp2_with fail
  refine hcr.mono ?_
  clear hcr
  rintro e w1 ⟨rfl, ho1, hP1⟩
  have HO1 := hide ho1
  have HP1 := hide hP1
  clear ho1 hP1
  go_wp2_with fail
  refine (new w1).mono ?_
  rintro e w2 ⟨rfl, rfl⟩
  have hs2 := Sits.new w1 55 #[.slice none 0 0, .int .i64 (-1), .int .i64 (-1)]
  have hb2 := below_new (w := w1) (.cells #[.slice none 0 0, .int .i64 (-1), .int .i64 (-1)] 55)
  have HS2 := hide hs2
  have HB2 := hide hb2
  clear hs2 hb2
  generalize w1.alloc (.cells #[.slice none 0 0, .int .i64 (-1), .int .i64 (-1)] 55) = w2 at *
  obtain ⟨nb, hnb⟩ : ∃ nb, w1.heap.size = nb := ⟨_, rfl⟩
  rw [hnb] at HS2 ⊢
  have HNB := hide hnb
  clear hnb
  have hli := list bx ba cap bs C w2 (HP1.out.keep HB2.out) hbl
  have hd : doList C = (C.segs.map (·.num), 0) := by unfold doList; rw [if_neg (by rw [HCL.out]; decide)]
  rw [hd] at hli
  clear hd
  go_wp2_with fail
  refine hli.mono ?_
  clear hli
  rintro e w3 ⟨v, rfl, hv, hb3⟩
  obtain ⟨a, c, rfl⟩ := own_shapeJ hv
  have HV := hide (own_base hv (Nat.zero_le _))
  have HB3 := hide (HB2.out.trans (hb3.mono HB2.out.size))
  have HS3 := hide (Mem.Sits.below HS2.out hb3 HS2.out.lt)
  clear hv hb3
  simp only [List.length_map] at HV ⊢
  have HP3 := hide (show PD w3 nb ⟨C.segs.take 0, -1, -1⟩ (nb + 1) 0 [] from ⟨HS3.out, rfl, fun e => absurd rfl e, fun i b s h => (by cases h), by simp, fun e => absurd rfl e⟩)
  go_wp2_with fail
  go_loopw [8] (fun s wr => ∃ (i : Nat) (ba' cap' : Nat) (bs' : List Nat), s = .int .i64 (i : Int) ∧ i ≤ C.segs.length ∧ Hid (PD wr nb ⟨C.segs.take i, -1, -1⟩ ba' cap' bs') ∧ Hid (∀ b ∈ pf nb ba' bs', nb ≤ b) ∧ Hid (Below nb w1 wr) ∧ Hid (wr.ownsRow 0 3 1 (.slice a C.segs.length c) C.segs.length ((C.segs.map (·.num)).map (Value.int .i64)))) (fun s _ => C.segs.length - (intOf s).toNat)
  case atStart => exact ⟨0, nb + 1, 0, [], rfl, Nat.zero_le _, HP3.out, fun b hb => by simp [pf] at hb; omega, by rw [← HNB.out]; exact HB3.out, HV.out⟩
  case round =>
    obtain ⟨i, ba', cap', bs', rfl, hil, HPD, HNW, HBW, HVW⟩ := hrel
    have HPO := hide (HP1.out.keep (by rw [HNB.out]; exact HBW.out))
    by_cases hi : i < C.segs.length
    · have hiz : (i : Int) < (C.segs.length : Int) := by omega
      obtain ⟨s, hs⟩ : ∃ s, C.segs[i]? = some s := ⟨_, List.getElem?_eq_getElem hi⟩
      have hsm := List.mem_of_getElem? hs
      have hnum : (C.segs.map (·.num))[i]? = some s.num := by rw [List.getElem?_map, hs]; rfl
      obtain ⟨g, cp, hv, hcap, hgl, hcell⟩ := row_ints (l := C.segs.map (·.num)) (w := wr) (base := 0) (v := .slice a C.segs.length c) (by rw [List.length_map]; exact HVW.out) hnum
      rw [List.length_map] at hv hcap
      injection hv with e1 e2 e3
      clear e2
      subst e1
      subst e3
      have hrd := read bx ba cap bs C s.num wr HPO.out hbl
      rw [read_calm HCL.out HFT.out.good hsm] at hrd
      have hrise := HFT.out.good.rise
      have hlt : ∀ q ∈ C.segs.take i, q.num < s.num := fun q hq => by
        obtain ⟨j, hj, rfl⟩ := List.mem_iff_getElem.1 hq
        rw [List.length_take] at hj
        have h1 := List.pairwise_iff_getElem.1 hrise j i (by omega) hi (by omega)
        rw [List.getElem?_eq_getElem hi] at hs
        rw [List.getElem_take, ← Option.some.inj hs]
        exact h1
      have h0 := (HFT.out.good.num s hsm).1
      have hgd : Dm.Good ⟨C.segs.take i, -1, -1⟩ := good_take HFT.out.good i
      have hule : Dm.used (C.segs.take i) + s.text.size ≤ 1000000000000 := by
        have h1 := used_take C.segs i
        have h2 := used_mem hsm
        have h3 := HFT.out.use
        omega
      have hpl := HPD.out.len
      have hpb : bs'.length ≤ 1000000000 := by
        rw [hpl]
        show (C.segs.take i).length ≤ _
        rw [List.length_take]
        have := HFT.out.len
        omega
      have hap := append nb ba' cap' bs' ⟨C.segs.take i, -1, -1⟩ s.num s.text wr HPD.out hgd hpb hule
      rw [copy_append hlt h0] at hap
      have HSY := hide (copy_sync (s := s) hlt)
      have HG2 := hide (show Dm.Good ⟨C.segs.take i ++ [⟨s.num, s.text, 0⟩], -1, -1⟩ by
        have h1 := (fit_append (fit_of hgd) s.num s.text (HFT.out.good.num s hsm).2).good
        rw [copy_append hlt h0] at h1
        exact h1)
      have HTK := hide (show (⟨C.segs.take i ++ [⟨s.num, s.text, s.text.size⟩], -1, -1⟩ : Dk) = ⟨C.segs.take (i + 1), -1, -1⟩ by
        have h1 : (⟨s.num, s.text, s.text.size⟩ : Seg) = s := by
          have := HFL.out s hsm
          cases s
          simp only at this
          rw [this]
        rw [List.take_add_one, hs, h1]
        rfl)
      have HNU := hide hnum
      clear hs hnum hsm hrise hlt h0 hgd hule hgl
      go_wp2_with fail
      refine hrd.mono ?_
      clear hrd
      rintro e wx ⟨rfl, rfl⟩
      go_wp2_with fail
      refine hap.mono ?_
      clear hap
      rintro e w5 ⟨rfl, ho5, ba5, cap5, bs5, hP5, hf5⟩
      have HV5 := hide (row_pd HVW.out HPD.out ho5 (by decide) (by decide) (by decide))
      have HN5 := hide (show ∀ b ∈ pf nb ba5 bs5, nb ≤ b from fun b hb => (hf5 b hb).elim (HNW.out b) fun e => by
        have h1 := HBW.out.size
        have h2 := HNB.out
        omega)
      have HB5 := hide (HBW.out.trans (ho5.below HNW.out (by rw [← HNB.out]; exact HBW.out.size)))
      have HP5 := hide hP5
      obtain ⟨g5, cp5, hv5, _, _, hcell5⟩ := row_ints (l := C.segs.map (·.num)) (w := w5) (base := 0) (v := .slice (some ⟨g, 0, none⟩) C.segs.length c) (by rw [List.length_map]; exact HV5.out) HNU.out
      rw [List.length_map] at hv5
      injection hv5 with q1 q2 q3
      have hgg : g = g5 := by injection q1 with q; injection q
      rw [← hgg] at hcell5
      clear q1 q2 q3 hgg hcell
      have hp5l : bs5.length ≤ 1000000000 := by
        have h1 := hP5.len
        rw [h1]
        show (C.segs.take i ++ [_]).length ≤ _
        rw [List.length_append, List.length_take, List.length_singleton]
        have := HFT.out.len
        omega
      have hsy := sync nb ba5 cap5 bs5 ⟨C.segs.take i ++ [⟨s.num, s.text, 0⟩], -1, -1⟩ s.num w5 HP5.out HG2.out hp5l
      rw [HSY.out, HTK.out] at hsy
      clear ho5 hP5 hf5
      go_wp2_with fail
      refine hsy.mono ?_
      clear hsy hcell5
      rintro e w6 ⟨rfl, ho6, hP6⟩
      have ho6' : Off (pf nb ba5 bs5) w5 w6 := ho6.mono fun k _ hk => pf_sub hk
      have HV6 := hide (row_pd HV5.out HP5.out ho6' (by decide) (by decide) (by decide))
      have HB6 := hide (HB5.out.trans (ho6'.below HN5.out (by rw [← HNB.out]; exact HB5.out.size)))
      have HP6 := hide hP6
      clear ho6 ho6' hP6
      go_wp2_with fail
      go_roundw
      case rel => exact ⟨i + 1, ba5, cap5, bs5, by go_num, by omega, HP6, HN5, HB6, HV6⟩
      case measure => simp only [intOf]; omega
    · have hiz : ¬ (i : Int) < (C.segs.length : Int) := by omega
      have hie : i = C.segs.length := by omega
      have HPC := hide (show PD wr nb C ba' cap' bs' by
        have h1 := HPD.out
        rw [hie, List.take_length, HCE.out] at h1
        exact h1)
      clear hie
      go_wp2_with fail
      go_ret
      refine ⟨nb, rfl, ba', cap', bs', HPC.out, fun b hb => ?_, HO1.out.trans (Off.of_below (by rw [HNB.out]; exact HBW.out))⟩
      have h1 := HNW.out b hb
      have h2 := HO1.out.size
      have h3 := HNB.out
      omega
end Go.Proofs.YtmkidefdegaamaaGreatDoor.Jr
namespace Go.Proofs.YtmkidefdegaamaaGreatDoor.Jr
open Go.RowKit Go.Maps Mem Foot Bytes Im Wm Hi Plainw Cq Dm Dh Dd
def cut256 (t : ByteArray) : ByteArray := if 256 < t.size then t.extract 0 256 else t
theorem cut256_size (t : ByteArray) : (cut256 t).size ≤ 256 := by
  unfold cut256
  split
  · rw [ByteArray.size_extract]
    omega
  · omega
set_option maxRecDepth 10000 in
set_option maxHeartbeats 2000000 in
theorem shortL (w : World) (va : Option Addr) (vc : Nat) (l : List ByteArray) (h : w.ownsRow 0 9 1 (.slice va l.length vc) l.length (l.map Value.string)) (hl : l.length ≤ 1000000000) :
    Calls Tryz.prog 8 #[.slice va l.length vc] w fun e w' => ∃ a c, e = .returned (.slice a l.length c) ∧ w'.ownsRow w.heap.size 9 1 (.slice a l.length c) l.length ((l.map cut256).map Value.string) ∧ Below w.heap.size w w' := by
  have HR := hide h
  obtain ⟨i0, hi, hz0, hz1, hz2⟩ := info_parts infoStr
  clear h
  go_enter Tryz.func8, Tryz.ntmps8
  go_wp2_with fail
  go_loopw [3, 4] (fun r s wr => ∃ (k : Nat) (ao : Option Addr) (cv : Nat), r = .slice ao k cv ∧ s = .int .i64 (k : Int) ∧ k ≤ l.length ∧ Hid (wr.ownsRow w.heap.size 9 1 (.slice ao k cv) k (((l.take k).map cut256).map Value.string)) ∧ Hid (Below w.heap.size w wr)) (fun _ s _ => l.length - (intOf s).toNat)
  case atStart => exact ⟨0, none, 0, rfl, rfl, Nat.zero_le _, World.ownsRow_nil _ _ _ _, Below.refl _ _⟩
  case round =>
    obtain ⟨k, ao, cv, rfl, rfl, hk, HO, HBL⟩ := hrel
    by_cases hkl : k < l.length
    · have hkz : (k : Int) < (l.length : Int) := by omega
      obtain ⟨t, ht⟩ : ∃ t, l[k]? = some t := ⟨_, List.getElem?_eq_getElem hkl⟩
      obtain ⟨g, cp, hv, hcap, _, hcell⟩ := row_cell (own_keep HR.out HBL.out) (i := k) (u := .string t) (by rw [List.getElem?_map, ht]; rfl)
      injection hv with e1 e2 e3
      clear e2
      subst e1
      subst e3
      have HTK := hide (show ((l.take k).map cut256).map Value.string ++ [.string (cut256 t)] = ((l.take (k + 1)).map cut256).map Value.string by
        rw [List.take_add_one, ht, List.map_append, List.map_append]
        rfl)
      have hzz := HBL.out.size
      clear ht
      by_cases h256 : 256 < t.size
      · have hc : cut256 t = t.extract 0 256 := by unfold cut256; rw [if_pos h256]
        rw [hc] at HTK
        have hgz : (256 : Int) < (t.size : Int) := by omega
        have HSC := hide (src_val wr (.string (t.extract 0 256)) 9 _ rfl rfl)
        have HOA := hide (HO.out.alloc (.cells #[.string (t.extract 0 256)] 9))
        clear hc
        go_wp2_with (at_builtin; refine Apn.wpList_own _ rfl _ _ 24 rfl w.heap.size 9 i0 (.string ⟨#[]⟩) 1 16 Tryz.underlying24 hi hz0 hz1 hz2 rfl (by decide) _ _ _ rfl HOA.out _ 1 1 [.string (t.extract 0 256)] rfl HSC.out (by unfold maxLen; omega) (by omega) (by simp; omega) ?_; intro v2 w2 hown2 hg2 hn2; obtain ⟨ao2, cv2, rfl⟩ := Own.shape hown2; have HW2 := hide hown2; have HG2 := hide hg2; clear hown2 hg2 hn2)
        go_roundw
        case rel => exact ⟨k + 1, ao2, cv2, rfl, by go_num, by omega, by rw [← HTK.out]; exact HW2.out, Own.below_more HBL.out HBL.out.size HO.out HG2.out⟩
        case measure => simp only [intOf]; omega
      · have hc : cut256 t = t := by unfold cut256; rw [if_neg h256]
        rw [hc] at HTK
        have hgz : ¬ (256 : Int) < (t.size : Int) := by omega
        have HSC := hide (src_val wr (.string t) 9 _ rfl rfl)
        have HOA := hide (HO.out.alloc (.cells #[.string t] 9))
        clear hc
        go_wp2_with (at_builtin; refine Apn.wpList_own _ rfl _ _ 24 rfl w.heap.size 9 i0 (.string ⟨#[]⟩) 1 16 Tryz.underlying24 hi hz0 hz1 hz2 rfl (by decide) _ _ _ rfl HOA.out _ 1 1 [.string t] rfl HSC.out (by unfold maxLen; omega) (by omega) (by simp; omega) ?_; intro v2 w2 hown2 hg2 hn2; obtain ⟨ao2, cv2, rfl⟩ := Own.shape hown2; have HW2 := hide hown2; have HG2 := hide hg2; clear hown2 hg2 hn2)
        go_roundw
        case rel => exact ⟨k + 1, ao2, cv2, rfl, by go_num, by omega, by rw [← HTK.out]; exact HW2.out, Own.below_more HBL.out HBL.out.size HO.out HG2.out⟩
        case measure => simp only [intOf]; omega
    · have hkz : ¬ (k : Int) < (l.length : Int) := by omega
      obtain rfl : k = l.length := by omega
      go_wp2_with fail
      go_ret
      refine ⟨ao, cv, rfl, ?_, HBL.out⟩
      have := HO.out
      rw [List.take_length, List.map_map] at this
      exact this
end Go.Proofs.YtmkidefdegaamaaGreatDoor.Jr
namespace Go.Proofs.YtmkidefdegaamaaGreatDoor.Dd
open Go.RowKit Go.Maps Mem Foot Bytes Im Wm Hi Plainw Cq Dm Dh Jr Wi Sk Hn Kr
theorem src_keep {w w' : World} {ao : Option Addr} {m : Nat} {news : List Value} (h : Apn.Src w 1 ao m news) (hb : Below w.heap.size w w') : Apn.Src w' 1 ao m news := by
  refine ⟨h.1, h.2.1, h.2.2.imp id fun ⟨ad, e, hc⟩ => ⟨ad, e, fun j u hu => ?_⟩⟩
  have h1 := hc j u hu
  have hl : (ad.add j).block < w.heap.size := by
    rcases Nat.lt_or_ge (ad.add j).block w.heap.size with h2 | h2
    · exact h2
    · have hn : w.cell? (ad.add j) = none := by
        unfold World.cell?
        rw [Array.getElem?_eq_none h2]
      rw [hn] at h1
      cases h1
  rw [hb.cell (p := ad.add j) hl]
  exact h1
/-- A daemon, a row of texts and what lies ahead of both. -/
structure LP (wb : World) (bx X : Nat) (av : Value) (L : List ByteArray) (wr : World) (D : Dn) (q : Pl) : Prop where
  da : DA wr X D q
  bx : q.bx = bx
  far : ∀ b ∈ df X q, wb.heap.size ≤ b
  ap : ∀ g ∈ av.ownBlock.toList, g ∉ df X q
  bl : Below wb.heap.size wb wr
  row : wr.ownsRow 0 9 1 av L.length (L.map Value.string)
theorem LP.lt {wb : World} {bx X : Nat} {av : Value} {L : List ByteArray} {wr : World} {D : Dn} {q : Pl} (h : LP wb bx X av L wr D q) : ∀ g ∈ av.ownBlock.toList, g < wr.heap.size := fun g hg => by
  obtain ⟨cs, hs⟩ := sits_row h.row hg
  exact hs.lt
theorem LP.call {wb : World} {bx X : Nat} {av : Value} {L : List ByteArray} {wr : World} {D : Dn} {q : Pl} (h : LP wb bx X av L wr D q) {w' : World} {D' : Dn} (hq : Dq wr w' X D' (df X q) q.bx) : ∃ q', LP wb bx X av L w' D' q' := by
  obtain ⟨q', h1, h2, h3⟩ := hq.ex
  refine ⟨q', h1, h2.trans h.bx, fun b hb => ?_, fun g hg hm => ?_, h.bl.trans (hq.off.below h.far h.bl.size), own_off h.row hq.off fun k hk => h.ap k hk⟩
  · rcases h3 b hb with e | e
    · exact h.far b e
    · have := h.bl.size
      omega
  · rcases h3 g hm with e | e
    · exact h.ap g hg e
    · have := h.lt g hg
      omega
theorem LP.keep {wb : World} {bx X : Nat} {av : Value} {L : List ByteArray} {wr : World} {D : Dn} {q : Pl} (h : LP wb bx X av L wr D q) {w' : World} (hb : Below wr.heap.size wr w') : LP wb bx X av L w' D q :=
  ⟨h.da.keep hb, h.bx, h.far, h.ap, h.bl.trans (hb.mono h.bl.size), own_keep h.row hb⟩
theorem df_pd {X : Nat} {q : Pl} {k : Nat} (h : k ∈ q.bx :: q.bs) : k ∈ df X q :=
  List.mem_cons_of_mem _ (List.mem_cons_of_mem _ (List.mem_append_left _ (kf_pd (pf_sub h))))
/-- The disk was copied. -/
theorem LP.copy {wb : World} {bx X : Nat} {av : Value} {L : List ByteArray} {wr : World} {D : Dn} {q : Pl} (h : LP wb bx X av L wr D q) {w' : World} (ho : Off (q.bx :: q.bs) wr w') : w'.ownsRow 0 9 1 av L.length (L.map Value.string) ∧ Below wb.heap.size wb w' :=
  ⟨own_off h.row ho fun k hk hm => h.ap k hk (df_pd hm), h.bl.trans (ho.below (fun k hk => h.far k (df_pd hk)) h.bl.size)⟩
/-- A daemon was started on the copy. -/
theorem LP.start {wb : World} {av : Value} {L : List ByteArray} {w1 w2 : World} {n nb ba X : Nat} {bs : List Nat} {D : Dn} {q : Pl} (hr : w1.ownsRow 0 9 1 av L.length (L.map Value.string)) (hg : ∀ g ∈ av.ownBlock.toList, g < n) (hb : Below wb.heap.size wb w1) (hn : wb.heap.size ≤ n ∧ n ≤ w1.heap.size) (hnew : ∀ b ∈ pf nb ba bs, n ≤ b)
    (hda : DA w2 X D q) (hbx : q.bx = nb) (hdf : ∀ b ∈ df X q, b ∈ pf nb ba bs ∨ w1.heap.size ≤ b) (ho : Off (pf nb ba bs) w1 w2) : LP wb nb X av L w2 D q := by
  have hge : ∀ b ∈ df X q, n ≤ b := fun b hb' => (hdf b hb').elim (hnew b) fun e => by omega
  refine ⟨hda, hbx, fun b hb' => ?_, fun g hg' hm => ?_, hb.trans (ho.below (fun k hk => ?_) hb.size), own_off hr ho fun k hk hm => ?_⟩
  · have := hge b hb'
    omega
  · have h1 := hge g hm
    have h2 := hg g hg'
    omega
  · have := hnew k hk
    omega
  · have h1 := hnew k hm
    have h2 := hg k hk
    omega
theorem sumT (c : Fin 6 → Int) (hc : COk c) (num : Int) (v : Value) (l : List ByteArray) (w : World) (hr : Row w v (l.map B)) (ht : Tab w) (hw : wt l ≤ 2000000) (hn0 : -9223372036854775808 ≤ num) (hn1 : num ≤ 9223372036854775807) :
    Calls Tryz.prog 13 #[cfg c, .int .i64 num, v] w fun e w' => e = .returned (.tuple #[.string (tx c num l), .int .i64 0]) ∧ Below w.heap.size w w' := by
  have hb : ∀ (l : List ByteArray), nls (l.map B) ≤ wt l ∧ l.length ≤ wt l ∧ ∀ d ∈ l, d.size ≤ wt l := fun l => by
    induction l with
    | nil => exact ⟨Nat.le_refl _, Nat.le_refl _, fun d hd => by cases hd⟩
    | cons t l ih =>
      have h1 : wt (t :: l) = t.size + 1 + wt l := by simp [wt]
      have h2 : nls ((t :: l).map B) = Lib.countByte (B t) 10 + 1 + nls (l.map B) := rfl
      have h3 : Lib.countByte (B t) 10 ≤ (B t).length := List.count_le_length
      rw [← size_B] at h3
      refine ⟨by omega, by rw [List.length_cons]; omega, fun d hd => ?_⟩
      rcases List.mem_cons.1 hd with e | hd
      · rw [e]
        omega
      · have := ih.2.2 d hd
        omega
  obtain ⟨b1, b2, b3⟩ := hb l
  refine (sumW c hc num v (l.map B) w hr ht (fun d hd => ?_) (by omega) (by rw [List.length_map]; omega) hn0 hn1).mono ?_
  · obtain ⟨t, ht, rfl⟩ := List.mem_map.1 hd
    rw [← size_B]
    have := b3 t ht
    omega
  · rintro e w' ⟨⟨z, rfl, hz⟩, hb⟩
    refine ⟨?_, hb⟩
    have : z = tx c num l := B_inj (by rw [hz]; rfl)
    rw [this]
theorem row_take {w : World} {a : Option Addr} {n cap : Nat} {ds : List Im.Bs} (h : Row w (.slice a n cap) ds) {k : Nat} (hk : k ≤ ds.length) : Row w (.slice a k cap) (ds.take k) := by
  obtain ⟨a', cap', e, h2, h3⟩ := h
  injection e with e1 e2 e3
  subst e1
  subst e3
  have hl : (ds.take k).length = k := by rw [List.length_take]; omega
  refine ⟨a, cap, by rw [hl], by rw [hl]; omega, fun j x hx => h3 j x ?_⟩
  rw [List.getElem?_take] at hx
  split at hx
  · exact hx
  · cases hx
end Go.Proofs.YtmkidefdegaamaaGreatDoor.Dd
namespace Go.Proofs.YtmkidefdegaamaaGreatDoor.Dd
open Go.RowKit Go.Maps Mem Foot Bytes Im Wm Hi Plainw Cq Dm Dh Jr Wi Sk Hn Kr Kf
theorem row_one (w : World) (x : Value) (e : TypeId) : (w.alloc (.cells #[x] e)).ownsRow w.heap.size e 1 (.slice (some ⟨w.heap.size, 0, none⟩) 1 1) 1 [x] :=
  ⟨rfl, .inr ⟨w.heap.size, 1, #[x], rfl, Nat.le_refl _, heap_alloc_new w _, Nat.le_refl _, by decide, rfl, rfl⟩⟩
theorem wt_cut (l : List ByteArray) : wt (l.map cut256) ≤ wt l := by
  induction l with
  | nil => exact Nat.le_refl _
  | cons t l ih =>
    have h1 : wt (t :: l) = t.size + 1 + wt l := by simp [wt]
    have h2 : wt ((t :: l).map cut256) = (cut256 t).size + 1 + wt (l.map cut256) := by simp [wt]
    have h3 : (cut256 t).size ≤ t.size := by
      unfold cut256
      split
      · rw [ByteArray.size_extract]
        omega
      · exact Nat.le_refl _
    omega
theorem wt_len (l : List ByteArray) : l.length ≤ wt l := by
  induction l with
  | nil => exact Nat.le_refl _
  | cons t l ih =>
    have h1 : wt (t :: l) = t.size + 1 + wt l := by simp [wt]
    rw [List.length_cons]
    omega
theorem row_at {w : World} {base size n c : Nat} {g : Nat} {e : TypeId} {xs : List Value} (h : w.ownsRow base e size (.slice (some ⟨g, 0, none⟩) n c) n xs) {i : Nat} {u : Value} (hi : xs[i]? = some u) : w.cell? ⟨g, i, none⟩ = some u := by
  obtain ⟨g', c', e1, _, _, h1⟩ := row_cell h hi
  injection e1 with e1 _ _
  injection e1 with e1
  injection e1 with e1 _ _
  rw [e1]
  exact h1
theorem msg_one {w : World} {base g c : Nat} {m : Ms} (h : w.ownsRow base 44 2 (.slice (some ⟨g, 0, none⟩) 1 c) 1 (mcells [m])) : w.cell? ⟨g, 0, none⟩ = some (.int .i64 m.k) ∧ w.cell? ⟨g, 1, none⟩ = some (.string m.t) :=
  ⟨row_at h rfl, row_at h rfl⟩
set_option maxRecDepth 100000 in
set_option maxHeartbeats 4000000 in
theorem synced (c : Fin 6 → Int) (hc : ∀ i, -9223372036854775808 ≤ c i ∧ c i ≤ 9223372036854775807) (a1 a2 : Option Addr) (c1 c2 n1 n2 : Nat) (first more : List ByteArray) (hn1 : first.length = n1) (hn2 : more.length = n2) (t : Int) (w : World) (hT : Tab w) (hE : Ers w) (hEG : 4 < w.heap.size ∧ 5 < w.heap.size)
    (s1 : Apn.Src w 1 a1 n1 (first.map Value.string)) (s2 : Apn.Src w 1 a2 n2 (more.map Value.string)) (hsz : wt (first ++ more) ≤ 1100000) :
    Calls Tryz.prog 3 #[cfg c, .slice a1 n1 c1, .slice a2 n2 c2, .int .i64 t] w fun e w' => e = .returned (.bool true) ∧ Below w.heap.size w w' := by
  have hS0 := Sits.new w 23 #[.int .i64 (c 0), .int .i64 (c 1), .int .i64 (c 2), .int .i64 (c 3), .int .i64 (c 4), .int .i64 (c 5)]
  have HB0 := hide (below_new (w := w) (.cells #[.int .i64 (c 0), .int .i64 (c 1), .int .i64 (c 2), .int .i64 (c 3), .int .i64 (c 4), .int .i64 (c 5)] 23))
  have HF1 := hide (fitW c hc)
  have HOP := hide (fit_ok c)
  have HT := hide hT
  have HE := hide (And.intro hE hEG)
  have HS1 := hide s1
  have HS2 := hide s2
  have HN1 := hide hn1
  have HN2 := hide hn2
  have hl12 : n1 + n2 ≤ 1100000 := by
    have h := wt_len (first ++ more)
    rw [List.length_append] at h
    omega
  have HSZ := hide hsz
  obtain ⟨i0, hi, hz0, hz1, hz2⟩ := info_parts infoStr
  generalize fitc c = p at *
  clear hc hT hE hEG s1 s2 hn1 hn2 hsz
  unfold cfg at HF1 ⊢
  go_enter Tryz.func3, Tryz.ntmps3
  go_wp2_with fail
  generalize w.alloc (.cells #[.int .i64 (c 0), .int .i64 (c 1), .int .i64 (c 2), .int .i64 (c 3), .int .i64 (c 4), .int .i64 (c 5)] 23) = w0 at *
  obtain ⟨B0, hBe⟩ : ∃ B0, w.heap.size = B0 := ⟨_, rfl⟩
  rw [hBe] at hS0
  rw [hBe]
  clear hBe
  obtain ⟨c0, c1', c2', c3, c4, c5⟩ := cells6 hS0
  clear hS0
  go_wp2_with fail
  refine (HF1.out w0).mono ?_
  rintro e w1 ⟨rfl, hb1⟩
  have HB1 := hide (HB0.out.trans (hb1.mono HB0.out.size))
  have HP2 := hide (Sits.new w1 23 #[.int .i64 (p 0), .int .i64 (p 1), .int .i64 (p 2), .int .i64 (p 3), .int .i64 (p 4), .int .i64 (p 5)])
  have HB2 := hide (HB1.out.alloc HB1.out.size (.cells #[.int .i64 (p 0), .int .i64 (p 1), .int .i64 (p 2), .int .i64 (p 3), .int .i64 (p 4), .int .i64 (p 5)] 23))
  obtain ⟨P, hP⟩ : ∃ P, w1.heap.size = P := ⟨_, rfl⟩
  rw [hP] at HP2
  clear c0 c1' c2' c3 c4 c5 hb1
  go_upto_region 2 with fail
  generalize w1.alloc (.cells #[.int .i64 (p 0), .int .i64 (p 1), .int .i64 (p 2), .int .i64 (p 3), .int .i64 (p 4), .int .i64 (p 5)] 23) = wb at *
  clear hP HF1 HB1
  have HTB := hide (HT.out.below HB2.out)
  have HEB := hide (HE.out.1.below HB2.out HE.out.2)
  go_wp2_with fail
  refine (new wb).mono ?_
  rintro e w3 ⟨rfl, rfl⟩
  have HS3 := hide (Sits.new wb 55 #[.slice none 0 0, .int .i64 (-1), .int .i64 (-1)])
  have HB3 := hide (below_new (w := wb) (.cells #[.slice none 0 0, .int .i64 (-1), .int .i64 (-1)] 55))
  generalize wb.alloc (.cells #[.slice none 0 0, .int .i64 (-1), .int .i64 (-1)] 55) = w3 at *
  obtain ⟨bx, hbx⟩ : ∃ bx, wb.heap.size = bx := ⟨_, rfl⟩
  rw [hbx] at HS3 ⊢
  have HBX := hide hbx
  clear hbx
  have hPD : PD w3 bx Dm.fresh (bx + 1) 0 [] := ⟨HS3.out, rfl, fun e => absurd rfl e, fun i b s h => (by cases h), by simp, fun e => absurd rfl e⟩
  have hst := startD p HOP.out bx (bx + 1) 0 [] Dm.fresh w3 hPD rfl rfl
  unfold cfg at hst
  have HP3 := hide (Mem.Sits.below HP2.out HB3.out HP2.out.lt)
  obtain ⟨p0, p1, p2, p3, p4, p5⟩ := cells6 HP3.out
  clear hPD HP3
  go_wp2_with fail
  refine hst.mono ?_
  clear hst p0 p1 p2 p3 p4 p5
  rintro e w4 ⟨X, q, rfl, hda, hqb, hdf, hb4⟩
  have HDA := hide hda
  have HQB := hide hqb
  have HDF := hide (show ∀ b ∈ df X q, wb.heap.size ≤ b from fun b hb => (hdf b hb).elim (fun e => by
    have h1 : b = bx := by simpa [pf] using e
    have h2 := HBX.out
    omega) fun e => Nat.le_trans HB3.out.size e)
  have HB4 := hide (HB3.out.trans (hb4.mono HB3.out.size))
  clear hda hqb hdf hb4 HS3 HB3
  go_upto_region 6 with fail
  have HO5 := hide (row_one w4 (.string ⟨#[102, 105, 114, 115, 116, 58, 49, 124, 99]⟩) 9)
  have HB5 := hide (below_new (w := w4) (.cells #[.string ⟨#[102, 105, 114, 115, 116, 58, 49, 124, 99]⟩] 9))
  have HW4 := hide (HB2.out.trans (HB4.out.mono HB2.out.size))
  have HR5 := hide (src_keep HS1.out ((HW4.out.trans (HB5.out.mono HW4.out.size))))
  go_wp2_with (at_builtin; first
    | (refine Apn.wpList_own _ rfl _ _ 24 rfl w4.heap.size 9 i0 (.string ⟨#[]⟩) 1 16 Tryz.underlying24 hi hz0 hz1 hz2 rfl (by decide) (.slice (some ⟨w4.heap.size, 0, none⟩) 1 1) 1 [.string ⟨#[102, 105, 114, 115, 116, 58, 49, 124, 99]⟩] rfl HO5.out a1 n1 c1 (first.map Value.string) rfl HR5.out (by unfold maxLen; omega) (by omega) HB5.out.size ?_
       intro v6 w6 hown6 hg6 hn6
       obtain ⟨ao6, cv6, rfl⟩ := Own.shape hown6
       have HB6 := hide (Own.below_grown HB5.out HB5.out.size HO5.out hg6)
       have HO6 := hide hown6
       have HR6 := hide (src_keep HS2.out ((HW4.out.trans (HB6.out.mono HW4.out.size))))
       clear hown6 hg6 hn6 HO5 HR5)
    | (refine Apn.wpList_own _ rfl _ _ 24 rfl w4.heap.size 9 i0 (.string ⟨#[]⟩) 1 16 Tryz.underlying24 hi hz0 hz1 hz2 rfl (by decide) (.slice ao6 (1 + n1) cv6) (1 + n1) _ rfl HO6.out a2 n2 c2 (more.map Value.string) rfl HR6.out (by unfold maxLen; omega) (by omega) HB6.out.size ?_
       intro v7 w7 hown7 hg7 hn7
       obtain ⟨ao7, cv7, rfl⟩ := Own.shape hown7
       have HB7 := hide (Own.below_grown HB6.out HB6.out.size HO6.out hg7)
       have HO7 := hide hown7
       clear hown7 hg7 hn7 HO6 HR6))
  obtain ⟨l, hle⟩ : ∃ l : List ByteArray, (⟨#[102, 105, 114, 115, 116, 58, 49, 124, 99]⟩ : ByteArray) :: (first ++ more) = l := ⟨_, rfl⟩
  have hll : l.length = 1 + n1 + n2 := by
    rw [← hle, List.length_cons, List.length_append, HN1.out, HN2.out]
    omega
  have hwl : wt l ≤ 1100010 := by
    have h1 : wt l = 9 + 1 + wt (first ++ more) := by rw [← hle]; simp [wt]; rfl
    have := HSZ.out
    omega
  have hlm : [Value.string ⟨#[102, 105, 114, 115, 116, 58, 49, 124, 99]⟩] ++ first.map Value.string ++ more.map Value.string = l.map Value.string := by
    rw [← hle, List.map_cons, List.map_append]
    rfl
  have hrow := own_base HO7.out (Nat.zero_le _)
  rw [hlm, ← hll] at hrow
  have hsh := shortL w7 ao7 cv7 l hrow (by omega)
  rw [hll] at hsh
  have HLL := hide hll
  have HWL := hide (Nat.le_trans (wt_cut l) hwl)
  have HLC := hide (show (l.map cut256).length = 1 + n1 + n2 by rw [List.length_map, hll])
  have HCS := hide (show ∀ s ∈ l.map cut256, s.size ≤ 256 from fun s hs => by
    obtain ⟨t, _, rfl⟩ := List.mem_map.1 hs
    exact cut256_size t)
  generalize l.map cut256 = L at *
  clear hle hll hwl hlm hrow HO7 hi hz0 hz1 hz2
  refine hsh.mono ?_
  clear hsh
  rintro e w8 ⟨av, ac, rfl, hrow8, hb8⟩
  obtain ⟨N, hN⟩ : ∃ N, 1 + n1 + n2 = N := ⟨_, rfl⟩
  rw [hN] at hrow8 HLC ⊢
  have HNN := hide hN
  clear hN
  have HB8 := hide (HB7.out.trans (hb8.mono HB7.out.size))
  have HLP := hide (show LP wb bx X (.slice av N ac) L w8 (D0 p Dm.fresh) q by
    refine ⟨HDA.out.keep HB8.out, HQB.out, HDF.out, fun g hg hm => ?_, HB4.out.trans (HB8.out.mono HB4.out.size), by rw [HLC.out]; exact own_base hrow8 (Nat.zero_le _)⟩
    have h1 := HDA.out.lt g hm
    have h2 := (World.ownsRow.lt hrow8 g (by simpa using hg)).1
    have h3 := HB7.out.size
    omega)
  have HPH := hide (Ph1.begin p HOP.out L)
  have hNb : N ≤ 1100010 := by
    have := HNN.out
    omega
  clear hrow8 hb8 HB5 HB6 HB7 HB8 HB4 HDA HQB HDF HS1 HS2 HW4 hl12
  go_wp2_with fail
  go_loopw [14] (fun s wr => ∃ (i : Nat) (D : Dn) (q : Pl), s = .int .i64 (i : Int) ∧ i ≤ N ∧ Hid (LP wb bx X (.slice av N ac) L wr D q) ∧ Hid (Ph1 p L (if i ≤ n1 then 0 else n1 + 1) i D)) (fun s _ => N - (intOf s).toNat)
  case atStart => exact ⟨0, _, q, rfl, Nat.zero_le _, HLP.out, by rw [if_pos (Nat.zero_le _)]; exact HPH.out⟩
  case round =>
    obtain ⟨i, D, q1, rfl, hiN, HL, HH⟩ := hrel
    by_cases hi : i < N
    · have hiz : (i : Int) < (N : Int) := by omega
      obtain ⟨s, hs⟩ : ∃ s, L[i]? = some s := ⟨_, List.getElem?_eq_getElem (by rw [HLC.out]; exact hi)⟩
      obtain ⟨g, cp, hv, hcap, _, hcell⟩ := row_cell HL.out.row (i := i) (u := .string s) (by rw [List.getElem?_map, hs]; rfl)
      rw [HLC.out] at hv
      injection hv with e1 e2 e3
      clear e2
      subst e1
      subst e3
      have hs2 := HCS.out s (List.mem_of_getElem? hs)
      obtain ⟨ds, n, hok, hnn⟩ := HH.out.ok
      have hpk := packetD wb wr HTB.out HL.out.bl X D q1 ds n HL.out.da HL.out.far hok (by have := HWL.out; omega) s hs2
      have HPK := hide (HH.out.packet (Nat.le_trans HWL.out (by omega)) hs hs2)
      clear hok hs2 hs hcap
      go_wp2_with fail
      refine hpk.mono ?_
      clear hpk hcell
      rintro e w9 ⟨rfl, hq9⟩
      obtain ⟨q9, hlp9⟩ := HL.out.call hq9
      have HL9 := hide hlp9
      clear hq9 hlp9
      by_cases hin : i = n1
      · have hie : (i : Int) = (n1 : Int) := by omega
        obtain ⟨ds9, m9, hok9, hm9⟩ := HPK.out.ok
        have hsy := syncD wb w9 HTB.out HL9.out.bl X _ q9 ds9 m9 HL9.out.da HL9.out.far hok9 (by have := HWL.out; omega)
        have HSY := hide (HPK.out.sync (by rw [HLC.out]; omega))
        clear hok9
        go_wp2_with fail
        refine hsy.mono ?_
        clear hsy
        rintro e w10 ⟨rfl, hq10⟩
        obtain ⟨q10, hlp10⟩ := HL9.out.call hq10
        have HL10 := hide hlp10
        clear hq10 hlp10
        go_wp2_with fail
        go_roundw
        case rel => exact ⟨i + 1, _, q10, by go_num, by omega, HL10, by rw [if_neg (by omega), ← hin]; exact HSY⟩
        case measure => simp only [intOf]; omega
      · have hie : ¬ (i : Int) = (n1 : Int) := by omega
        go_wp2_with fail
        go_roundw
        case rel => exact ⟨i + 1, _, q9, by go_num, by omega, HL9, by
          have h1 := HPK.out
          by_cases h2 : i ≤ n1
          · rw [if_pos h2] at h1
            rw [if_pos (by omega)]
            exact h1
          · rw [if_neg h2] at h1
            rw [if_neg (by omega)]
            exact h1⟩
        case measure => simp only [intOf]; omega
    · have hiz : ¬ (i : Int) < (N : Int) := by omega
      obtain rfl : i = N := by omega
      have hph := HH.out
      rw [if_neg (by have := HNN.out; omega)] at hph
      have hLN := HLC.out
      subst hLN
      obtain ⟨ds, n, hok, hnn⟩ := hph.ok
      obtain ⟨C, hC⟩ : ∃ C, doCrash D.S t = C := ⟨_, rfl⟩
      obtain ⟨k, ss, H, R, m, hfk, hkl, hop, hdk, hmL, hod, hol, hsl, hgg, hon⟩ := hph.crash (Nat.le_trans HWL.out (by omega)) t
      have hml : m ≤ 1100010 := Nat.le_trans hmL HWL.out
      have hlk : (L.take k) ≠ [] := fun e => by
        rw [← hod] at e
        rw [e] at hol
        simp at hol
        omega
      have hlkl : (L.take k).length = k := by rw [← hod]; exact hol
      have hnu : n ≤ 1100010 := Nat.le_trans hnn HWL.out
      have hfit := fit_of hok.calm.good
      have hfk1 := hok.segs
      have hfu1 := hok.used
      have hcp := copiedL wr q1.bx q1.ba q1.cap q1.bs D.S HL.out.da.pd _ _ hfit (by omega) (by omega) t
      rw [HL.out.bx] at hcp
      have hfc := fit_crash hfit t
      have hcl : (doCrash D.S t).left = -1 := rfl
      rw [hC] at hop hdk hcp hfc hcl
      obtain ⟨e1, e2, e3, D2, R2, H2, e4, k1, k2, k3, k4, k5, k6, k7, k8, k9⟩ := second HOP.out hdk (by omega) hod hlk hsl hon
      rw [hlkl] at e2
      have HWK := hide (show wt (L.take k) ≤ 2000000 from Nat.le_trans (wt_take L k) (Nat.le_trans HWL.out (by omega)))
      have HE1 := hide e1
      have HE2 := hide e2
      have HE3 := hide e3
      have HE4 := hide e4
      have HK1 := hide k1
      have HK2 := hide k2
      have HK3 := hide k3
      have HK4 := hide k4
      have HK5 := hide k5
      have HK6 := hide k6
      have HK7 := hide k7
      have HK8 := hide k8
      have HK9 := hide k9
      have HDK := hide hdk
      have HOPN := hide hop
      have HSL := hide hsl
      have HFC := hide (And.intro hfc hcl)
      have hkN1 : ¬ (k : Int) ≤ (n1 : Int) := by omega
      have hkN2 : ¬ (L.length : Int) < (k : Int) := by omega
      have hsg1 : D.S.segs.length ≤ 1100010 := by omega
      clear e1 e2 e3 e4 k1 k2 k3 k4 k5 k6 k7 k8 k9 hdk hop hsl hfc hcl hod hol hgg hon hlk hlkl hmL hph hok hnn hfit hfk1 hfu1 hfk hC HH HPH HLP
      go_wp2_with fail
      refine hcp.mono ?_
      clear hcp
      rintro e w11 ⟨nb, ba', cap', bs', rfl, hP11, hnew11, ho11⟩
      obtain ⟨hrow11, hb11⟩ := HL.out.copy (w' := w11) (by rw [HL.out.bx]; exact ho11)
      have hst := startR wb w11 HTB.out HEB.out hb11 p HOP.out nb ba' cap' bs' C hP11 (fun b hb => Nat.le_trans HL.out.bl.size (hnew11 b hb)) HFC.out.2 _ _ HFC.out.1 (by omega) ss H HOPN.out (HDK.out.dgok (by omega)) (fun s hs => by rw [HSL.out] at hs; cases hs) (by rw [HSL.out]; simp)
      unfold cfg at hst
      have HR11 := hide (And.intro hrow11 (And.intro hb11 (And.intro hnew11 ho11.size)))
      obtain ⟨p0, p1, p2, p3, p4, p5⟩ := cells6 (Mem.Sits.below HP2.out hb11 HP2.out.lt)
      clear hP11 hrow11 hb11 hnew11 ho11
      go_wp2_with fail
      refine hst.mono ?_
      clear hst p0 p1 p2 p3 p4 p5
      rintro e w12 ⟨X2, q2, rfl, hda12, hqb12, hdf12, ho12⟩
      have HL12 := hide (LP.start HR11.out.1 HL.out.lt HR11.out.2.1 ⟨HL.out.bl.size, HR11.out.2.2.2⟩ HR11.out.2.2.1 hda12 hqb12 hdf12 ho12)
      clear hda12 hqb12 hdf12 ho12 HR11 HL
      generalize Dof p C H = D1 at *
      have hopn := openD w12 X2 D1 q2 _ m HL12.out.da HDK.out.ok (by omega) (HTB.out.below HL12.out.bl)
      rw [HE1.out, HE2.out, HE3.out] at hopn
      go_wp2_with fail
      refine hopn.mono ?_
      clear hopn
      rintro e w13 ⟨rfl, hb13⟩
      have HL13 := hide (HL12.out.keep hb13)
      clear hb13 HL12
      go_upto_region 26 with fail
      obtain ⟨s0, hs0⟩ : ∃ s0, L[0]? = some s0 := ⟨_, List.getElem?_eq_getElem (by omega)⟩
      obtain ⟨g, cp, hv, hcap, _, hcell⟩ := row_cell HL13.out.row (i := 0) (u := .string s0) (by rw [List.getElem?_map, hs0]; rfl)
      injection hv with v1 v2 v3
      clear v2 hcell hs0
      subst v1
      subst v3
      have HSM := hide (fun s : Bw w13 => call_cls (sumT p HOP.out 0 (.slice (some ⟨g, 0, none⟩) k ac) (L.take k) s.val (by
        have h1 := row_take (row_of (own_keep HL13.out.row s.is)) (k := k) (by rw [List.length_map]; omega)
        rw [← List.map_take] at h1
        exact h1) ((HTB.out.below HL13.out.bl).below s.is) HWK.out (by omega) (by omega)))
      unfold cfg at HSM
      have HPS := hide (fun s : Bw w13 => cells6 (Mem.Sits.below HP2.out (HL13.out.bl.trans (s.is.mono HL13.out.bl.size)) HP2.out.lt))
      have C0 : ∀ s : Bw w13, s.val.cell? ⟨P, 0, none⟩ = some (.int .i64 (p 0)) := fun s => (HPS.out s).1
      have C1 : ∀ s : Bw w13, s.val.cell? ⟨P, 1, none⟩ = some (.int .i64 (p 1)) := fun s => (HPS.out s).2.1
      have C2 : ∀ s : Bw w13, s.val.cell? ⟨P, 2, none⟩ = some (.int .i64 (p 2)) := fun s => (HPS.out s).2.2.1
      have C3 : ∀ s : Bw w13, s.val.cell? ⟨P, 3, none⟩ = some (.int .i64 (p 3)) := fun s => (HPS.out s).2.2.2.1
      have C4 : ∀ s : Bw w13, s.val.cell? ⟨P, 4, none⟩ = some (.int .i64 (p 4)) := fun s => (HPS.out s).2.2.2.2.1
      have C5 : ∀ s : Bw w13, s.val.cell? ⟨P, 5, none⟩ = some (.int .i64 (p 5)) := fun s => (HPS.out s).2.2.2.2.2
      have hkc : (k : Int) ≤ (ac : Int) := by omega
      refine region_cls (by kernel_rfl) (by kernel_rfl) ?_
      repeat (first
        | go_big_quiet_skip
        | (go_big_quiet_want; go_big_quiet_op; first | go_big_quiet_on | (apply Exists.intro; refine ⟨fun _ => ?_, ?_⟩; (go_at_call 13; exact HSM.out _); go_big_quiet_on)))
      refine wpQuiet_nil ?_
      rintro _ ⟨s, rfl⟩
      have HL14 := hide (HL13.out.keep s.is)
      clear C0 C1 C2 C3 C4 C5 HPS HSM
      generalize s.val = w14 at *
      clear HL13
      have hck := clockD wb w14 HTB.out HL14.out.bl X2 D1 q2 _ m HL14.out.da HL14.out.far HDK.out.ok (by omega) (p 0)
      rw [HE4.out] at hck
      have p0 := (cells6 (Mem.Sits.below HP2.out HL14.out.bl HP2.out.lt)).1
      go_wp2_with fail
      refine hck.mono ?_
      clear hck p0
      rintro e w15 ⟨rfl, hq15⟩
      obtain ⟨q15, hlp15⟩ := HL14.out.call hq15
      have HL15 := hide hlp15
      clear hq15 hlp15 HL14
      have hdu := dueD w15 X2 D2 q15 HL15.out.da (by rw [HK2.out]; simp)
      rw [HK2.out] at hdu
      go_wp2_with fail
      refine hdu.mono ?_
      clear hdu
      rintro e w16 ⟨v16, rfl, hv16, hb16⟩
      have HL16 := hide (HL15.out.keep hb16)
      have HV16 := hide hv16
      obtain ⟨gm, cm, hvm, _, _, _⟩ := row_cell hv16 (i := 0) (u := .int .i64 0) rfl
      have hvm2 : v16 = .slice (some ⟨gm, 0, none⟩) 1 cm := hvm
      subst hvm2
      have HGM := hide (World.ownsRow.lt hv16 gm rfl)
      clear hvm hv16 hb16
      have hfit := fit_of HK1.out.ok.calm.good
      have hfk1 := HK1.out.ok.segs
      have hfu1 := HK1.out.ok.used
      have hcp := copiedL w16 q15.bx q15.ba q15.cap q15.bs D2.S HL16.out.da.pd _ _ hfit (by omega) (by omega) 0
      rw [HL16.out.bx, HK3.out] at hcp
      have HFC2 := hide hfit
      have hsg2 : D2.S.segs.length ≤ 1100011 := by omega
      clear hfit hfk1 hfu1
      go_wp2_with fail
      refine hcp.mono ?_
      clear hcp
      rintro e w17 ⟨nb2, ba2, cap2, bs2, rfl, hP17, hnew17, ho17⟩
      obtain ⟨hrow17, hb17⟩ := HL16.out.copy (w' := w17) (by rw [HL16.out.bx]; exact ho17)
      have HV17 := hide (own_off HV16.out ho17 (fun j hj hm => by
        have h1 : j = gm := by simpa [Value.ownBlock] using hj
        have h2 := HL15.out.da.lt j (df_pd (by rw [HL15.out.bx]; exact hm))
        have h3 := HGM.out.1
        omega))
      have hst := startR wb w17 HTB.out HEB.out hb17 p HOP.out nb2 ba2 cap2 bs2 D2.S hP17 (fun b hb => Nat.le_trans HL16.out.bl.size (hnew17 b hb)) HK1.out.ok.calm.left _ _ HFC2.out (by omega) R2 H2 HK4.out (HK5.out.dgok (by omega)) HK5.out.dg (by rw [HK9.out]; omega)
      unfold cfg at hst
      have HR17 := hide (And.intro hrow17 (And.intro hb17 (And.intro hnew17 ho17.size)))
      obtain ⟨p0, p1, p2, p3, p4, p5⟩ := cells6 (Mem.Sits.below HP2.out hb17 HP2.out.lt)
      clear hP17 hrow17 hb17 hnew17 ho17
      go_wp2_with fail
      refine hst.mono ?_
      clear hst p0 p1 p2 p3 p4 p5
      rintro e w18 ⟨X3, q3, rfl, hda18, hqb18, hdf18, ho18⟩
      have HL18 := hide (LP.start HR17.out.1 HL16.out.lt HR17.out.2.1 ⟨HL16.out.bl.size, HR17.out.2.2.2⟩ HR17.out.2.2.1 hda18 hqb18 hdf18 ho18)
      have hv18 := own_off HV17.out ho18 (fun j hj hm => by
        have h1 : j = gm := by simpa [Value.ownBlock] using hj
        have h2 := HR17.out.2.2.1 j hm
        have h3 := HGM.out.2
        omega)
      obtain ⟨m0, m1⟩ := msg_one hv18
      clear hda18 hqb18 hdf18 ho18 hv18 HR17 HL16 HL15 HV16 HV17
      generalize Dof p D2.S H2 = D3 at *
      generalize tx p 0 (L.take k) = T at *
      go_wp2_with fail
      have hdu := dueD w18 X3 D3 q3 HL18.out.da (by rw [HK6.out]; simp)
      rw [HK6.out] at hdu
      refine hdu.mono ?_
      clear hdu m0 m1
      rintro e w19 ⟨v19, rfl, hv19, hb19⟩
      have HL19 := hide (HL18.out.keep hb19)
      obtain ⟨ga, ca, hva, _, _, _⟩ := row_cell hv19 (i := 0) (u := .int .i64 0) rfl
      have hva2 : v19 = .slice (some ⟨ga, 0, none⟩) 1 ca := hva
      subst hva2
      have HV19 := hide hv19
      clear hva hv19 hb19 HL18
      have hopn := openD w19 X3 D3 q3 _ (m + 1) HL19.out.da HK5.out.ok (by omega) (HTB.out.below HL19.out.bl)
      rw [HK7.out, HK8.out] at hopn
      go_wp2_with fail
      refine hopn.mono ?_
      clear hopn
      rintro e w20 ⟨rfl, hb20⟩
      have HB20 := hide (HB2.out.trans (((HL19.out.keep hb20).bl).mono HB2.out.size))
      obtain ⟨m0, m1⟩ := msg_one (own_keep HV19.out hb20)
      clear hb20 HL19 HV19
      go_wp2_with fail
      go_ret
      exact ⟨rfl, HB20.out⟩
end Go.Proofs.YtmkidefdegaamaaGreatDoor.Dd
