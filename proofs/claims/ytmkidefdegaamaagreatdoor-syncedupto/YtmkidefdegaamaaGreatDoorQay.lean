/- What a journal's records tell of the segments, and of a text that the power has torn: no Go in sight. -/
import Derived.Test.YtmkidefdegaamaaGreatDoorOky
namespace Go.Proofs.YtmkidefdegaamaaGreatDoor.Jr
open Bytes
/-- A record that the journal writes there. -/
structure Cl (h : Hs) (x : Et) : Prop where
  fit : hfit h x.2 = true
  ok : x.2.Ok
  base : x.2.k = 98 → h.osegs = []
  own : x.1.1 ∉ h.sealed.flatMap (·.2.2)
  head : h.osegs = [] → h.g ≠ -1 → x.2.k = 98 ∧ x.2.n = h.g
def AllCl : Hs → List Et → Prop
  | _, [] => True
  | h, x :: l => Cl h x ∧ AllCl (hnext h x) l
theorem allCl_append (h : Hs) (a b : List Et) : AllCl h (a ++ b) ↔ AllCl h a ∧ AllCl (hfold h a) b := by
  induction a generalizing h with
  | nil => simp [AllCl, hfold]
  | cons x a ih =>
    show (_ ∧ AllCl _ (a ++ b)) ↔ (_ ∧ _) ∧ _
    rw [ih]
    exact and_assoc.symm
theorem AllCl.fits {h : Hs} {l : List Et} (hc : AllCl h l) : AllFit h l := by
  induction l generalizing h with
  | nil => trivial
  | cons x l ih => exact ⟨hc.1.fit, ih hc.2⟩
theorem hent_new {seg : Int} {l : List Int} (h : seg ∉ l) : hent seg l = l ++ [seg] := by
  unfold hent
  rw [if_neg]
  intro e
  exact h (List.mem_of_getLast? e)
theorem hent_last {seg : Int} {l : List Int} (h : l.getLast? = some seg) : hent seg l = l := by
  unfold hent
  rw [if_pos h]
theorem hnext_parts (h : Hs) (x : Et) : (hnext h x).sealed = (htk h x.1.1 x.2).sealed ∧ (hnext h x).osegs = (htk h x.1.1 x.2).osegs := ⟨rfl, rfl⟩
/-- The first record of a segment. -/
theorem husd_new {h : Hs} {x : Et} (hc : Cl h x) (hn : x.1.1 ∉ husd h) : husd (hnext h x) = husd h ++ [x.1.1] := by
  have hn2 : x.1.1 ∉ h.osegs := fun e => hn (List.mem_append_right _ e)
  unfold husd
  rw [(hnext_parts h x).1, (hnext_parts h x).2]
  unfold htk
  split
  · rename_i hk
    rw [hc.base hk, List.append_nil]
  · split
    · simp only [List.flatMap_append, List.flatMap_cons, List.flatMap_nil, List.append_nil]
      rw [hent_new hn2, List.append_assoc]
    · simp only
      rw [hent_new hn2, List.append_assoc]
/-- A further record of a segment. -/
theorem husd_same {h : Hs} {x : Et} {A : List Int} (hc : Cl h x) (hn : husd h = A ++ [x.1.1]) : husd (hnext h x) = husd h := by
  have ho : h.osegs.getLast? = some x.1.1 := by
    rcases List.eq_nil_or_concat h.osegs with e | ⟨o, y, e⟩
    · exfalso
      unfold husd at hn
      rw [e, List.append_nil] at hn
      exact hc.own (by rw [hn]; simp)
    · rw [List.concat_eq_append] at e
      unfold husd at hn
      rw [e, ← List.append_assoc] at hn
      have := (List.append_inj' hn rfl).2
      rw [e]
      simp at this
      simp [this]
  unfold husd
  rw [(hnext_parts h x).1, (hnext_parts h x).2]
  unfold htk
  split
  · rename_i hk
    rw [hc.base hk] at ho
    cases ho
  · split
    · simp only [List.flatMap_append, List.flatMap_cons, List.flatMap_nil, List.append_nil]
      rw [hent_last ho]
    · simp only
      rw [hent_last ho]
theorem husd_rest {n : Int} {A : List Int} : ∀ (rs : List Rc) (z : Nat) (h : Hs), AllCl h (ents1 n z rs) → husd h = A ++ [n] → husd (hfold h (ents1 n z rs)) = A ++ [n]
  | [], _, _, _, hh => hh
  | r :: rs, z, h, hc, hh => by
    have h1 := husd_same (h := h) (x := ((n, z + r.tx.length), r)) hc.1 hh
    exact husd_rest rs _ _ hc.2 (h1.trans hh)
theorem husd_seg {n : Int} {rs : List Rc} {h : Hs} (hne : rs ≠ []) (hc : AllCl h (ents1 n 0 rs)) (hn : n ∉ husd h) : husd (hfold h (ents1 n 0 rs)) = husd h ++ [n] := by
  cases rs with
  | nil => exact absurd rfl hne
  | cons r rs => exact husd_rest rs _ _ hc.2 (husd_new (x := ((n, 0 + r.tx.length), r)) hc.1 hn)
theorem husd_all : ∀ (R : List (Int × List Rc)) (h : Hs), (∀ p ∈ R, p.2 ≠ []) → AllCl h (ents R) → R.Pairwise (fun p q => p.1 < q.1) → (∀ p ∈ R, ∀ y ∈ husd h, y < p.1) → husd (hfold h (ents R)) = husd h ++ R.map (·.1)
  | [], h, _, _, _, _ => by simp [ents, hfold]
  | p :: R, h, hne, hc, hp, hl => by
    have he : ents (p :: R) = ents1 p.1 0 p.2 ++ ents R := rfl
    rw [he] at hc ⊢
    rw [allCl_append] at hc
    rw [List.pairwise_cons] at hp
    have h1 := husd_seg (n := p.1) (hne p (List.mem_cons_self ..)) hc.1 (fun e => by
      have := hl p (List.mem_cons_self ..) _ e
      omega)
    rw [hfold_append, husd_all R _ (fun q hq => hne q (List.mem_cons_of_mem _ hq)) hc.2 hp.2 (fun q hq y hy => by
      rw [h1] at hy
      rcases List.mem_append.1 hy with hy | hy
      · exact hl q (List.mem_cons_of_mem _ hq) y hy
      · rw [List.mem_singleton.1 hy]
        exact hp.1 q hq), h1]
    simp
/-- A text of records, torn somewhere. -/
theorem torn_at : ∀ (rs : List Rc) (m : Nat), (∀ r ∈ rs, r.Ok) → ∃ a b y, rs = a ++ b ∧ (stx rs).take m = stx a ++ y ∧ (y = [] ∨ (y ≠ [] ∧ (rdr y).2 = false)) ∧ ∀ c d, rs = c ++ d → (stx c).length ≤ m → ∃ e, a = c ++ e
  | [], m, _ => ⟨[], [], [], rfl, by simp [stx], Or.inl rfl, fun c d h _ => ⟨[], by simp at h; rw [h.1]; rfl⟩⟩
  | r :: rs, m, hok => by
    have hs : stx (r :: rs) = r.tx ++ stx rs := rfl
    by_cases hm : r.tx.length ≤ m
    · obtain ⟨a, b, y, h1, h2, h3, h4⟩ := torn_at rs (m - r.tx.length) fun q hq => hok q (List.mem_cons_of_mem _ hq)
      refine ⟨r :: a, b, y, by rw [h1]; rfl, ?_, h3, fun c d h hl => ?_⟩
      · rw [hs, List.take_append, List.take_of_length_le hm, h2]
        show _ = r.tx ++ stx a ++ y
        rw [List.append_assoc]
      · cases c with
        | nil => exact ⟨r :: a, rfl⟩
        | cons q c =>
          rw [List.cons_append] at h
          injection h with e1 e2
          subst e1
          have hq : stx (r :: c) = r.tx ++ stx c := rfl
          rw [hq, List.length_append] at hl
          obtain ⟨e, he⟩ := h4 c d e2 (by omega)
          exact ⟨e, by rw [he]; rfl⟩
    · refine ⟨[], r :: rs, r.tx.take m, rfl, ?_, ?_, fun c d h hl => ?_⟩
      · rw [hs, List.take_append_of_le_length (by omega)]
        rfl
      · by_cases h0 : r.tx.take m = []
        · exact Or.inl h0
        · refine Or.inr ⟨h0, ?_⟩
          have ho := hok r (List.mem_cons_self ..)
          have hlen : r.tx.length < 9223372036854775808 := by
            have := wrec_len [r.k] (n := r.n) (by have := ho.n0; omega) (by have := ho.n1; omega) (t := B r.t) (by
              rw [← size_B]
              have := ho.t
              omega)
            have h2 := ho.t
            rw [size_B] at h2
            unfold Rc.tx
            simp only [List.length_singleton] at this
            omega
          refine rdr_torn (k := [r.k]) (n := r.n) (t := B r.t) (z := r.tx.drop m) (fun b hb => ?_) ho.n0 hlen (List.take_append_drop m r.tx).symm (fun e => ?_)
          · rw [List.mem_singleton.1 hb]
            intro e
            have hk := ho.k
            rw [e] at hk
            revert hk
            decide
          · have := congrArg List.length e
            rw [List.length_drop, List.length_nil] at this
            omega
      · cases c with
        | nil => exact ⟨[], rfl⟩
        | cons q c =>
          exfalso
          rw [List.cons_append] at h
          injection h with e1 e2
          subst e1
          have hq : stx (r :: c) = r.tx ++ stx c := rfl
          rw [hq, List.length_append] at hl
          omega
end Go.Proofs.YtmkidefdegaamaaGreatDoor.Jr
namespace Go.Proofs.YtmkidefdegaamaaGreatDoor.Jr
open Bytes Im Dm
def view (s : Seg) : Int × Bs := (s.num, B s.text)
theorem view_turn {l : List Seg} {V : List (Int × Bs)} {n : Int} {v : Bs} (t : ByteArray) (hv : l.map view = V ++ [(n, v)]) (hr : l.Pairwise fun a b => a.num < b.num) : (turn n (fun s => { s with text := s.text ++ t }) l).map view = V ++ [(n, v ++ B t)] := by
  obtain ⟨l0, l1, rfl, h0, h1⟩ := List.map_eq_append_iff.1 hv
  obtain ⟨s, rfl, hs⟩ := List.map_eq_singleton_iff.1 h1
  unfold view at hs
  injection hs with e1 e2
  rw [List.pairwise_append] at hr
  unfold turn
  rw [List.map_append, List.map_append]
  congr 1
  · rw [← h0, List.map_map]
    refine List.map_congr_left fun q hq => ?_
    have := hr.2.2 q hq s (List.mem_singleton.2 rfl)
    show view (if q.num = n then _ else q) = view q
    rw [if_neg (by omega)]
  · show [view (if s.num = n then _ else s)] = _
    rw [if_pos e1]
    show [(s.num, B (s.text ++ t))] = _
    rw [B_append, e1, e2]
theorem view_same (n : Int) (l : List Seg) : (turn n (fun s => { s with syn := s.text.size }) l).map view = l.map view := by
  unfold turn
  rw [List.map_map]
  refine List.map_congr_left fun q _ => ?_
  show view (if q.num = n then _ else q) = view q
  split <;> rfl
theorem ensure_end {n : Int} : ∀ {l : List Seg}, (∀ s ∈ l, s.num < n) → ensure n l = l ++ [⟨n, ⟨#[]⟩, 0⟩]
  | [], _ => rfl
  | s :: l, h => by
    have hs := h s (List.mem_cons_self ..)
    rw [ensure, if_neg (by omega), if_neg (by omega), ensure_end fun q hq => h q (List.mem_cons_of_mem _ hq)]
    rfl
/-- R: all records by segments; the last ones of the last one, b, are not synced. -/
structure Kseg (J : Jn) (S : Dk) (R : List (Int × List Rc)) (b : List Rc) : Prop where
  calm : Jcalm J S
  segs : S.segs.map view = R.map fun p => (p.1, stx p.2)
  syn : ∀ s ∈ S.segs, J.opn = [] ∨ s.num ≠ jlast J → s.syn = s.text.size
  last : J.opn ≠ [] → ∃ R0 a, R = R0 ++ [(jlast J, a ++ b)] ∧ J.synced = (stx a).length ∧ B J.uns = stx b
  lsyn : J.opn ≠ [] → ∀ s ∈ S.segs, s.num = jlast J → s.syn = J.synced
  nob : J.opn = [] → b = []
theorem Kseg.nums {J : Jn} {S : Dk} {R : List (Int × List Rc)} {b : List Rc} (h : Kseg J S R b) : S.segs.map (·.num) = R.map (·.1) := by
  have h1 := congrArg (List.map Prod.fst) h.segs
  rw [List.map_map, List.map_map] at h1
  exact h1
theorem Kseg.rise {J : Jn} {S : Dk} {R : List (Int × List Rc)} {b : List Rc} (h : Kseg J S R b) : R.Pairwise fun p q => p.1 < q.1 := by
  have h1 := List.pairwise_map.2 h.calm.good.rise
  rw [h.nums, List.pairwise_map] at h1
  exact h1
theorem bytes_B (l : Bs) : B (bytesOf l) = l := by simp [bytesOf, B]
/-- A record more in the last segment. -/
theorem Kseg.add {J : Jn} {S : Dk} {R : List (Int × List Rc)} {b : List Rc} (h : Kseg J S R b) (hne : J.opn ≠ []) (r : Rc) :
    ∃ S' R0 rs, R = R0 ++ [(jlast J, rs)] ∧ jadd J S (bytesOf r.tx) = ({ J with uns := J.uns ++ bytesOf r.tx }, S', 0) ∧ Kseg { J with uns := J.uns ++ bytesOf r.tx } S' (R0 ++ [(jlast J, rs ++ [r])]) (b ++ [r]) := by
  obtain ⟨R0, a, hR, hsy, hun⟩ := h.last hne
  obtain ⟨s, hs, h1, h2⟩ := h.calm.last hne
  obtain ⟨S', hj, hc, _, _⟩ := h.calm.add hne (bytesOf r.tx)
  have hn0 : 0 ≤ jlast J := by rw [← h1]; exact (h.calm.good.num s hs).1
  have ha := append_calm h.calm.left h.calm.room hn0 (bytesOf r.tx)
  rw [← h1, ensure_calm h.calm.good.rise hs, h1] at ha
  have hS : S' = { S with segs := turn (jlast J) (fun s => { s with text := s.text ++ bytesOf r.tx }) S.segs } := by
    unfold jadd at hj
    rw [h.calm.mend hne, if_neg (by simp), ha, if_neg (by simp)] at hj
    injection hj with _ hj
    injection hj with hj _
    exact hj.symm
  have hlast : jlast { J with uns := J.uns ++ bytesOf r.tx } = jlast J := rfl
  refine ⟨S', R0, a ++ b, hR, hj, hc, ?_, ?_, fun _ => ⟨R0, a, by rw [hlast, List.append_assoc], hsy, ?_⟩, ?_, fun e => absurd e hne⟩
  · rw [hS]
    show (turn (jlast J) _ S.segs).map view = _
    have hv := h.segs
    rw [hR, List.map_append] at hv
    rw [view_turn (bytesOf r.tx) hv h.calm.good.rise, bytes_B, List.map_append]
    show _ = _ ++ [(jlast J, stx (a ++ b ++ [r]))]
    rw [stx_snoc]
  · intro q hq ho
    rw [hS] at hq
    obtain ⟨q0, hq0, rfl⟩ := List.mem_map.1 hq
    simp only at ho ⊢
    split at ho
    · rename_i e
      rcases ho with ho | ho
      · exact absurd ho hne
      · exact absurd e ho
    · rename_i e
      rw [if_neg e]
      exact h.syn q0 hq0 (Or.inr e)
  · show B (J.uns ++ bytesOf r.tx) = _
    rw [B_append, hun, bytes_B, stx_snoc]
  · intro _ q hq ho
    rw [hS] at hq
    obtain ⟨q0, hq0, rfl⟩ := List.mem_map.1 hq
    have hn : q0.num = jlast J := by
      rw [hlast] at ho
      by_cases e : q0.num = jlast J
      · exact e
      · rw [if_neg e] at ho
        exact ho
    rw [if_pos hn]
    exact h.lsyn hne q0 hq0 hn
/-- All of it synced. -/
theorem Kseg.sync {J : Jn} {S : Dk} {R : List (Int × List Rc)} {b : List Rc} (h : Kseg J S R b) :
    ∃ J' S', jsync J S = (J', S', 0) ∧ Kseg J' S' R [] ∧ J'.opn = J.opn ∧ J'.sealed = J.sealed ∧ J'.greatest = J.greatest ∧ J'.most = J.most ∧ J'.next = J.next := by
  by_cases hne : J.opn = []
  · refine ⟨J, S, by unfold jsync; rw [if_pos hne], ?_, rfl, rfl, rfl, rfl, rfl⟩
    have hb := h.nob hne
    rw [hb] at h
    exact h
  · obtain ⟨R0, a, hR, hsy, hun⟩ := h.last hne
    obtain ⟨s, hs, h1, h2⟩ := h.calm.last hne
    have ha := dsync_calm h.calm.left h.calm.good hs
    rw [h1] at ha
    obtain ⟨J', S', hj, hc, _⟩ := h.calm.sync
    have hj2 : jsync J S = ({ J with synced := J.synced + J.uns.size, uns := ⟨#[]⟩ }, { S with segs := turn (jlast J) (fun s => { s with syn := s.text.size }) S.segs }, 0) := by
      unfold jsync
      rw [if_neg hne, h.calm.mend hne, if_neg (by simp), ha, if_neg (by simp)]
    rw [hj2] at hj
    injection hj with e1 e2
    injection e2 with e2 _
    subst e1
    subst e2
    have hall : ∀ q ∈ turn (jlast J) (fun s => { s with syn := s.text.size }) S.segs, q.syn = q.text.size := fun q hq => by
      obtain ⟨q0, hq0, rfl⟩ := List.mem_map.1 hq
      by_cases e : q0.num = jlast J
      · rw [if_pos e]
      · rw [if_neg e]
        exact h.syn q0 hq0 (Or.inr e)
    have hlast : jlast { J with synced := J.synced + J.uns.size, uns := ⟨#[]⟩ } = jlast J := rfl
    refine ⟨_, _, hj2, ⟨hc, ?_, fun q hq _ => hall q hq, fun _ => ⟨R0, a ++ b, by rw [hlast, List.append_nil]; exact hR, ?_, rfl⟩, fun _ q hq hn => ?_, fun e => absurd e hne⟩, rfl, rfl, rfl, rfl, rfl⟩
    · show (turn (jlast J) _ S.segs).map view = _
      rw [view_same]
      exact h.segs
    · show J.synced + J.uns.size = _
      rw [hsy, size_B, hun, stx_append, List.length_append]
    · have hq1 := hall q hq
      obtain ⟨q0, hq0, rfl⟩ := List.mem_map.1 hq
      have hn0 : q0.num = jlast J := by
        rw [hlast] at hn
        by_cases e : q0.num = jlast J
        · exact e
        · rw [if_neg e] at hn
          exact hn
      rw [hq1, if_pos hn0]
      have hqs : q0 = s := by
        obtain ⟨i, hi⟩ := List.getElem?_of_mem hq0
        obtain ⟨j, hj⟩ := List.getElem?_of_mem hs
        have hij := rise_once h.calm.good.rise hi hj (by rw [hn0, h1])
        rw [hij, hj] at hi
        exact (Option.some.inj hi).symm
      show q0.text.size = J.synced + J.uns.size
      rw [hqs, h2]
end Go.Proofs.YtmkidefdegaamaaGreatDoor.Jr
namespace Go.Proofs.YtmkidefdegaamaaGreatDoor.Jr
open Bytes Im Dm
theorem Kseg.full {J : Jn} {S : Dk} {R : List (Int × List Rc)} (h : Kseg J S R []) : ∀ s ∈ S.segs, s.syn = s.text.size := fun s hs => by
  by_cases ho : J.opn = []
  · exact h.syn s hs (Or.inl ho)
  · by_cases hn : s.num = jlast J
    · obtain ⟨R0, a, _, _, hun⟩ := h.last ho
      obtain ⟨q, hq, h1, h2⟩ := h.calm.last ho
      have hqs : s = q := by
        obtain ⟨i, hi⟩ := List.getElem?_of_mem hs
        obtain ⟨j, hj⟩ := List.getElem?_of_mem hq
        have hij := rise_once h.calm.good.rise hi hj (by rw [hn, h1])
        rw [hij, hj] at hi
        exact (Option.some.inj hi).symm
      have hz : J.uns.size = 0 := by
        rw [size_B, hun]
        rfl
      rw [h.lsyn ho s hs hn, hqs, h2, hz]
      rfl
    · exact h.syn s hs (Or.inr hn)
/-- A new segment begun. -/
theorem Kseg.begin {J : Jn} {S : Dk} {R : List (Int × List Rc)} (h : Kseg J S R []) (hx : J.next ≤ 9223372036854775807) (rs : List Rc) :
    ∃ S', jbegin J S (bytesOf (stx rs)) = ({ J with opn := J.opn ++ [J.next], next := J.next + 1, synced := 0, uns := bytesOf (stx rs) }, S', 0) ∧ Kseg { J with opn := J.opn ++ [J.next], next := J.next + 1, synced := 0, uns := bytesOf (stx rs) } S' (R ++ [(J.next, rs)]) rs := by
  have hlt : ∀ s ∈ S.segs, s.num < J.next := fun s hs => h.calm.below s.num (List.mem_map.2 ⟨s, hs, rfl⟩)
  have ha := append_calm h.calm.left h.calm.room h.calm.next0 (bytesOf (stx rs))
  rw [ensure_end hlt] at ha
  obtain ⟨S', hj, hc, _⟩ := h.calm.begin hx (bytesOf (stx rs))
  have hS : S' = { S with segs := turn J.next (fun s => { s with text := s.text ++ bytesOf (stx rs) }) (S.segs ++ [⟨J.next, ⟨#[]⟩, 0⟩]) } := by
    unfold jbegin at hj
    rw [ha, if_neg (by simp)] at hj
    injection hj with _ hj
    injection hj with hj _
    exact hj.symm
  have hlast : jlast { J with opn := J.opn ++ [J.next], next := J.next + 1, synced := 0, uns := bytesOf (stx rs) } = J.next := jlast_snoc (l := J.opn) rfl
  have hne : J.opn ++ [J.next] ≠ [] := by simp
  have hmem : ∀ q ∈ S'.segs, (q.num = J.next ∧ q.syn = 0) ∨ (q.num ≠ J.next ∧ q ∈ S.segs) := fun q hq => by
    rw [hS] at hq
    obtain ⟨q0, hq0, rfl⟩ := List.mem_map.1 hq
    rcases List.mem_append.1 hq0 with hq0 | hq0
    · have := hlt q0 hq0
      rw [if_neg (by omega)]
      exact Or.inr ⟨by omega, hq0⟩
    · rw [List.mem_singleton.1 hq0, if_pos rfl]
      exact Or.inl ⟨rfl, rfl⟩
  refine ⟨S', hj, hc, ?_, fun q hq ho => ?_, fun _ => ⟨R, [], by rw [hlast]; rfl, rfl, bytes_B _⟩, fun _ q hq hn => ?_, fun e => absurd e hne⟩
  · rw [hS]
    show (turn J.next _ (S.segs ++ [⟨J.next, ⟨#[]⟩, 0⟩])).map view = _
    rw [view_turn (V := R.map fun p => (p.1, stx p.2)) (v := []) (bytesOf (stx rs)) (by rw [List.map_append, h.segs]; rfl) ?_, bytes_B, List.map_append]
    · rfl
    · rw [List.pairwise_append]
      exact ⟨h.calm.good.rise, List.pairwise_singleton _ _, fun a ha b hb => by rw [List.mem_singleton.1 hb]; exact hlt a ha⟩
  · rcases hmem q hq with ⟨h1, _⟩ | ⟨_, h2⟩
    · rcases ho with ho | ho
      · exact absurd ho hne
      · exact absurd (h1.trans hlast.symm) ho
    · exact h.full q h2
  · rcases hmem q hq with ⟨_, h2⟩ | ⟨h1, _⟩
    · exact h2
    · exact absurd (hn.trans hlast) h1
/-- Texts that are these records, but for what is torn at the last one's end. -/
theorem told_torn {n : Int} {rs : List Rc} {y : Bs} (hy : y = [] ∨ (y ≠ [] ∧ (rdr y).2 = false)) (hrs : ∀ r ∈ rs, r.Ok) : ∀ (R0 : List (Int × List Rc)) (l : List (Int × ByteArray)), l.map (fun x => (x.1, B x.2)) = (R0.map fun p => (p.1, stx p.2)) ++ [(n, stx rs ++ y)] → (∀ p ∈ R0, ∀ r ∈ p.2, r.Ok) → (∀ x ∈ l, x.2.size ≤ 140737488355328) → Told l (R0 ++ [(n, rs)])
  | [], l, h, _, hz => by
    obtain ⟨x, rfl, hx⟩ := List.map_eq_singleton_iff.1 h
    injection hx with e1 e2
    refine ⟨e1, hrs, hz x (List.mem_singleton.2 rfl), ?_⟩
    rcases hy with rfl | ⟨h1, h2⟩
    · exact Or.inl ⟨by rw [e2, List.append_nil], trivial⟩
    · exact Or.inr ⟨y, h1, h2, e2, rfl⟩
  | p :: R0, l, h, ho, hz => by
    cases l with
    | nil => cases h
    | cons x l =>
      rw [List.map_cons, List.map_cons, List.cons_append] at h
      injection h with e1 e2
      injection e1 with e3 e4
      exact ⟨e3, ho p (List.mem_cons_self ..), hz x (List.mem_cons_self ..), Or.inl ⟨e4, told_torn hy hrs R0 l e2 (fun q hq => ho q (List.mem_cons_of_mem _ hq)) fun q hq => hz q (List.mem_cons_of_mem _ hq)⟩⟩
theorem told_full : ∀ (R : List (Int × List Rc)) (l : List (Int × ByteArray)), l.map (fun x => (x.1, B x.2)) = (R.map fun p => (p.1, stx p.2)) → (∀ p ∈ R, ∀ r ∈ p.2, r.Ok) → (∀ x ∈ l, x.2.size ≤ 140737488355328) → Told l R
  | [], l, h, _, _ => by
    have : l = [] := List.map_eq_nil_iff.1 h
    rw [this]
    trivial
  | p :: R0, l, h, ho, hz => by
    cases l with
    | nil => cases h
    | cons x l =>
      rw [List.map_cons, List.map_cons] at h
      injection h with e1 e2
      injection e1 with e3 e4
      exact ⟨e3, ho p (List.mem_cons_self ..), hz x (List.mem_cons_self ..), Or.inl ⟨e4, told_full R0 l e2 (fun q hq => ho q (List.mem_cons_of_mem _ hq)) fun q hq => hz q (List.mem_cons_of_mem _ hq)⟩⟩
/-- What the power leaves of a segment: its beginning. -/
theorem torn_text (t : Int) (s : Seg) (h0 : 0 ≤ t) (hs : s.syn ≤ s.text.size) : ∃ m, s.syn ≤ m ∧ B (torn t s).text = (B s.text).take m ∧ (torn t s).num = s.num ∧ (torn t s).syn = (torn t s).text.size := by
  unfold torn
  split
  · rename_i ht
    refine ⟨s.syn + t.toNat, Nat.le_add_right _ _, ?_, rfl, ?_⟩
    · rw [B_extract, List.drop_zero, Nat.sub_zero]
    · show s.syn + t.toNat = (s.text.extract 0 (s.syn + t.toNat)).size
      rw [ByteArray.size_extract]
      omega
  · exact ⟨s.text.size, hs, by rw [size_B, List.take_length], rfl, rfl⟩
theorem torn_full (t : Int) (s : Seg) (h0 : 0 ≤ t) (hs : s.syn = s.text.size) : torn t s = s := by
  unfold torn
  rw [if_neg (by omega), ← hs]
end Go.Proofs.YtmkidefdegaamaaGreatDoor.Jr
namespace Go.Proofs.YtmkidefdegaamaaGreatDoor.Jr
open Go.RowKit Go.Maps Mem Foot Bytes Im Wm Hi Plainw Cq Dm Dh Dd
theorem bsearch (ua : Option Addr) (uc : Nat) (us : List Int) (x : Int) (w : World) (hu : w.ownsRow 0 3 1 (.slice ua us.length uc) us.length (us.map (Value.int .i64))) (hl : us.length ≤ 1000000000) (hs : us.Pairwise (· < ·)) :
    Calls Tryz.prog 102 #[.slice ua us.length uc, .int .i64 x] w fun e w' => (∃ c, e = .returned (.tuple #[.int .i64 c, .bool (decide (x ∈ us))])) ∧ Below w.heap.size w w' := by
  cases us with
  | nil =>
    refine (Tryz.slices_BinarySearch_int_empty ua uc x w).mono ?_
    rintro e w' ⟨rfl, rfl⟩
    exact ⟨⟨_, rfl⟩, Below.refl _ _⟩
  | cons y us =>
    obtain ⟨g, cap, hv, _, _, _⟩ := row_ints hu (i := 0) (x := y) rfl
    injection hv with e1 _ e3
    subst e1
    refine (Tryz.slices_BinarySearch_int g 0 (y :: us).length uc (y :: us) x w (Nat.le_refl _) (by omega) (fun j hj => ?_) ?_).mono ?_
    · obtain ⟨g', cap', hv', _, _, hc⟩ := row_ints hu (i := j) (x := (y :: us)[j]) (List.getElem?_eq_getElem hj)
      injection hv' with e1' _ _
      have : g = g' := by injection e1' with e; injection e
      rw [this, Nat.zero_add, List.getD_eq_getElem?_getD, List.getElem?_eq_getElem hj]
      exact hc
    · rw [List.take_length]
      exact hs.imp fun h => Int.le_of_lt h
    · rintro e w' ⟨rfl, q, rfl⟩
      refine ⟨⟨_, congrArg (fun b => Ending.returned (.tuple #[_, .bool b])) ?_⟩, below_drewN' (Below.refl _ _)⟩
      rw [List.take_length, List.contains_eq_mem]
/-- What a segment's tidying does to the disk. -/
def tid1 (S : Dk) (x : Int × ByteArray) (us : List Int) (es ez : Int) : Dk × Int :=
  if x.1 ∉ us then doDelete S x.1
  else if x.1 = es ∧ ez < (x.2.size : Int) then doTrunc S x.1 ez
  else (S, 0)
set_option maxRecDepth 10000 in
set_option maxHeartbeats 2000000 in
theorem tidyS (w : World) (hT : Tab w) (bx ba cap : Nat) (bs : List Nat) (S : Dk) (hP : PD w bx S ba cap bs) (hG : Dm.Good S) (hbl : bs.length ≤ 1000000000) (num : Int) (t : ByteArray) (ua : Option Addr) (uc : Nat) (us : List Int) (hu : w.ownsRow 0 3 1 (.slice ua us.length uc) us.length (us.map (Value.int .i64))) (hl : us.length ≤ 1000000000) (hs : us.Pairwise (· < ·)) (es ez : Int) (hn : -9223372036854775808 ≤ num ∧ num ≤ 9223372036854775807) (hz : (tid1 S (num, t) us es ez).2 = 0) :
    Calls Tryz.prog 77 #[.pointer (some ⟨bx, 0, none⟩), .agg #[.int .i64 num, .string t], .slice ua us.length uc, .agg #[.int .i64 es, .int .i64 ez]] w fun e w' => e = .returned .nilIface ∧ Off (pf bx ba bs) w w' ∧ ∃ ba' cap' bs', PD w' bx (tid1 S (num, t) us es ez).1 ba' cap' bs' ∧ ∀ b ∈ pf bx ba' bs', b ∈ pf bx ba bs ∨ w.heap.size ≤ b := by
  have hs1 := Sits.new w 143 #[.int .i64 num, .string t]
  have hb1 := below_new (w := w) (.cells #[.int .i64 num, .string t] 143)
  have hs2 := Sits.new (w.alloc (.cells #[.int .i64 num, .string t] 143)) 99 #[.int .i64 es, .int .i64 ez]
  have hb2 := below_new (w := w.alloc (.cells #[.int .i64 num, .string t] 143)) (.cells #[.int .i64 es, .int .i64 ez] 99)
  have HS1 := hide (Mem.Sits.below hs1 hb2 hs1.lt)
  rw [World.size_alloc] at hs2
  have HS2 := hide hs2
  have HB2 := hide (hb1.trans (hb2.mono hb1.size))
  have HP := hide hP
  have HG := hide hG
  have HT := hide hT
  have HU := hide hu
  have HZ := hide hz
  have HSO := hide hs
  clear hs1 hb1 hs2 hb2 hP hG hT hu hz hs
  go_enter Tryz.func77, Tryz.ntmps77
  go_upto_region 1 with fail
  generalize (w.alloc (.cells #[.int .i64 num, .string t] 143)).alloc (.cells #[.int .i64 es, .int .i64 ez] 99) = w2 at *
  obtain ⟨ab, hab⟩ : ∃ ab, w.heap.size = ab := ⟨_, rfl⟩
  rw [hab] at HS1 HS2
  have HAB := hide hab
  rw [hab]
  clear hab
  have x0 : w2.cell? ⟨ab, 0, none⟩ = some (.int .i64 num) := HS1.out.cell 0 _ rfl
  have hbs := bsearch ua uc us num w2 (own_keep HU.out HB2.out) hl HSO.out
  go_wp2_with fail
  refine hbs.mono ?_
  clear hbs x0
  rintro e w3 ⟨⟨c, rfl⟩, hb3⟩
  have HT1 := hide (Mem.Sits.below HS1.out hb3 HS1.out.lt)
  have HT2 := hide (Mem.Sits.below HS2.out hb3 HS2.out.lt)
  have HB3 := hide (HB2.out.trans (hb3.mono HB2.out.size))
  clear hb3 HS1 HS2
  have HP3 := hide (HP.out.keep HB3.out)
  have FIN := hide (show ∀ w', Below w.heap.size w w' → ∃ ba' cap' bs', PD w' bx S ba' cap' bs' ∧ ∀ b ∈ pf bx ba' bs', b ∈ pf bx ba bs ∨ w.heap.size ≤ b from fun w' hb => ⟨ba, cap, bs, HP.out.keep hb, fun b hb' => Or.inl hb'⟩)
  by_cases hm : num ∈ us
  · rw [decide_eq_true hm]
    have x0 : w3.cell? ⟨ab, 0, none⟩ = some (.int .i64 num) := HT1.out.cell 0 _ rfl
    have x1 : w3.cell? ⟨ab, 1, none⟩ = some (.string t) := HT1.out.cell 1 _ rfl
    have y0 : w3.cell? ⟨ab + 1, 0, none⟩ = some (.int .i64 es) := HT2.out.cell 0 _ rfl
    have y1 : w3.cell? ⟨ab + 1, 1, none⟩ = some (.int .i64 ez) := HT2.out.cell 1 _ rfl
    by_cases he : num = es
    · by_cases hlt : ez < (t.size : Int)
      · have HTI := hide (show tid1 S (num, t) us es ez = doTrunc S num ez by unfold tid1; rw [if_neg (fun h => h hm), if_pos ⟨he, hlt⟩])
        have HZT := hide (show (doTrunc S num ez).2 = 0 by rw [← HTI.out]; exact HZ.out)
        subst he
        go_wp2_with fail
        have C0 : ∀ q : Bw w3, q.val.cell? ⟨ab, 0, none⟩ = some (.int .i64 num) := fun q => (Mem.Sits.below HT1.out q.is HT1.out.lt).cell 0 _ rfl
        have C1 : ∀ q : Bw w3, q.val.cell? ⟨ab + 1, 1, none⟩ = some (.int .i64 ez) := fun q => (Mem.Sits.below HT2.out q.is HT2.out.lt).cell 1 _ rfl
        have HAB' := hide (fun q : Bw w3 => call_cls (about ⟨#[116, 114, 117, 110, 99, 97, 116, 105, 110, 103]⟩ (by decide) num hn.1 hn.2 q.val ((HT.out.below HB3.out).below q.is)))
        generalize aboutB ⟨#[116, 114, 117, 110, 99, 97, 116, 105, 110, 103]⟩ num = y at HAB'
        clear x0 x1 y0 y1
        refine region_pre 8 (by kernel_rfl) (by kernel_rfl) ?_
        simp only [List.take_succ_cons, List.take_zero, List.drop_succ_cons, List.drop_zero]
        repeat (first
          | go_big_quiet_skip
          | (go_big_quiet_want; go_big_quiet_op; first | go_big_quiet_on | (apply Exists.intro; refine ⟨fun _ => ?_, ?_⟩; (go_at_call 61; exact HAB'.out _); go_big_quiet_on)))
        refine wpQuiet_nil ?_
        intro q
        have HB4 := hide (HB3.out.trans (q.is.mono HB3.out.size))
        clear C0 C1 HAB'
        generalize q.val = w4 at *
        have htr := truncate bx ba cap bs S num ez w4 (HP.out.keep HB4.out) HG.out hbl
        go_wp2_with fail
        refine htr.mono ?_
        clear htr
        rintro e w5 ⟨rfl, ho5, hP5⟩
        rw [HZT.out]
        have HO5 := hide (show Off (pf bx ba bs) w w5 from (Off.of_below HB4.out).trans (ho5.mono fun k _ hk => pf_sub hk))
        have HP5 := hide hP5
        have hdu := during y 0 w5
        clear ho5 hP5
        go_wp2_with fail
        refine hdu.mono ?_
        clear hdu
        rintro e w6 ⟨⟨v, rfl, hv⟩, hb6⟩
        have hv' : v = .nilIface := hv.elim (fun h => h.2) fun h => absurd rfl h.1
        subst hv'
        have HB6 := hide hb6
        clear hb6 hv
        go_wp2_with fail
        go_ret
        rw [HTI.out]
        exact ⟨rfl, HO5.out.trans (Off.of_below HB6.out), ba, cap, bs, HP5.out.keep HB6.out, fun b hb' => Or.inl hb'⟩
      · have HTI := hide (show tid1 S (num, t) us es ez = (S, 0) by unfold tid1; rw [if_neg (fun h => h hm), if_neg (fun h => hlt h.2)])
        subst he
        go_wp2_with fail
        go_ret
        rw [HTI.out]
        exact ⟨rfl, Off.of_below HB3.out, FIN.out _ HB3.out⟩
    · have HTI := hide (show tid1 S (num, t) us es ez = (S, 0) by unfold tid1; rw [if_neg (fun h => h hm), if_neg (fun h => he h.1)])
      go_wp2_with fail
      go_ret
      rw [HTI.out]
      exact ⟨rfl, Off.of_below HB3.out, FIN.out _ HB3.out⟩
  · rw [decide_eq_false hm]
    have HTI := hide (show tid1 S (num, t) us es ez = doDelete S num by unfold tid1; rw [if_pos hm])
    have HZT := hide (show (doDelete S num).2 = 0 by rw [← HTI.out]; exact HZ.out)
    go_wp2_with fail
    have C0 : ∀ q : Bw w3, q.val.cell? ⟨ab, 0, none⟩ = some (.int .i64 num) := fun q => (Mem.Sits.below HT1.out q.is HT1.out.lt).cell 0 _ rfl
    have HAB' := hide (fun q : Bw w3 => call_cls (about ⟨#[100, 101, 108, 101, 116, 105, 110, 103]⟩ (by decide) num hn.1 hn.2 q.val ((HT.out.below HB3.out).below q.is)))
    generalize aboutB ⟨#[100, 101, 108, 101, 116, 105, 110, 103]⟩ num = y at HAB'
    refine region_pre 6 (by kernel_rfl) (by kernel_rfl) ?_
    simp only [List.take_succ_cons, List.take_zero, List.drop_succ_cons, List.drop_zero]
    repeat (first
      | go_big_quiet_skip
      | (go_big_quiet_want; go_big_quiet_op; first | go_big_quiet_on | (apply Exists.intro; refine ⟨fun _ => ?_, ?_⟩; (go_at_call 61; exact HAB'.out _); go_big_quiet_on)))
    refine wpQuiet_nil ?_
    intro q
    have HB4 := hide (HB3.out.trans (q.is.mono HB3.out.size))
    clear C0 HAB'
    generalize q.val = w4 at *
    have hde := delete bx ba cap bs S num w4 (HP.out.keep HB4.out) HG.out hbl
    go_wp2_with fail
    refine hde.mono ?_
    clear hde
    rintro e w5 ⟨rfl, ho5, ba', cap', bs', hP5, hb5, ha5⟩
    rw [HZT.out]
    have HO5 := hide (show Off (pf bx ba bs) w w5 from (Off.of_below HB4.out).trans (ho5.mono fun k _ hk => by rw [List.mem_singleton.1 hk]; exact pf_head bx ba bs))
    have HP5 := hide hP5
    have HF5 := hide (show ∀ b ∈ pf bx ba' bs', b ∈ pf bx ba bs ∨ w.heap.size ≤ b from pf_del hb5 (ha5.imp id fun h => Nat.le_trans HB4.out.size h))
    have hdu := during y 0 w5
    clear ho5 hP5 hb5 ha5
    go_wp2_with fail
    refine hdu.mono ?_
    clear hdu
    rintro e w6 ⟨⟨v, rfl, hv⟩, hb6⟩
    have hv' : v = .nilIface := hv.elim (fun h => h.2) fun h => absurd rfl h.1
    subst hv'
    have HB6 := hide hb6
    clear hb6 hv
    go_wp2_with fail
    go_ret
    rw [HTI.out]
    exact ⟨rfl, HO5.out.trans (Off.of_below HB6.out), ba', cap', bs', HP5.out.keep HB6.out, HF5.out⟩
/-- What the tidying of all segments does. -/
def tidL (us : List Int) (es ez : Int) : List (Int × ByteArray) → Dk → Dk
  | [], S => S
  | x :: l, S => tidL us es ez l (tid1 S x us es ez).1
/-- Each of them goes. -/
def TidOk (us : List Int) (es ez : Int) : List (Int × ByteArray) → Dk → Prop
  | [], _ => True
  | x :: l, S => (tid1 S x us es ez).2 = 0 ∧ TidOk us es ez l (tid1 S x us es ez).1
end Go.Proofs.YtmkidefdegaamaaGreatDoor.Jr
