/- A new segment; what the power leaves: no Go in sight. -/
import Derived.Test.YtmkidefdegaamaaGreatDoorOky
namespace Go.Proofs.YtmkidefdegaamaaGreatDoor.Jr
open Bytes Im Dm
theorem Kseg.full {J : Jn} {S : Dk} {R : List (Int × List Rc)} (h : Kseg J S R []) : ∀ s ∈ S.segs, s.syn = s.text.size := fun s hs => by
  by_cases ho : J.opn = []
  · exact h.syn s hs (Or.inl ho)
  · by_cases hn : s.num = jlast J
    · obtain ⟨R0, a, _, _, hun⟩ := h.last ho
      obtain ⟨q, hq, h1, h2⟩ := h.calm.last ho
      have hqs : s = q := by
        obtain ⟨i, hi⟩ := List.getElem?_of_mem hs
        obtain ⟨j, hj⟩ := List.getElem?_of_mem hq
        have hij := rise_once h.calm.good.rise hi hj (by rw [hn, h1])
        rw [hij, hj] at hi
        exact (Option.some.inj hi).symm
      have hz : J.uns.size = 0 := by
        rw [size_B, hun]
        rfl
      rw [h.lsyn ho s hs hn, hqs, h2, hz]
      rfl
    · exact h.syn s hs (Or.inr hn)
/-- A new segment begun. -/
theorem Kseg.begin {J : Jn} {S : Dk} {R : List (Int × List Rc)} (h : Kseg J S R []) (hx : J.next ≤ 9223372036854775807) (rs : List Rc) :
    ∃ S', jbegin J S (bytesOf (stx rs)) = ({ J with opn := J.opn ++ [J.next], next := J.next + 1, synced := 0, uns := bytesOf (stx rs) }, S', 0) ∧ Kseg { J with opn := J.opn ++ [J.next], next := J.next + 1, synced := 0, uns := bytesOf (stx rs) } S' (R ++ [(J.next, rs)]) rs := by
  have hlt : ∀ s ∈ S.segs, s.num < J.next := fun s hs => h.calm.below s.num (List.mem_map.2 ⟨s, hs, rfl⟩)
  have ha := append_calm h.calm.left h.calm.room h.calm.next0 (bytesOf (stx rs))
  rw [ensure_end hlt] at ha
  obtain ⟨S', hj, hc, _⟩ := h.calm.begin hx (bytesOf (stx rs))
  have hS : S' = { S with segs := turn J.next (fun s => { s with text := s.text ++ bytesOf (stx rs) }) (S.segs ++ [⟨J.next, ⟨#[]⟩, 0⟩]) } := by
    unfold jbegin at hj
    rw [ha, if_neg (by simp)] at hj
    injection hj with _ hj
    injection hj with hj _
    exact hj.symm
  have hlast : jlast { J with opn := J.opn ++ [J.next], next := J.next + 1, synced := 0, uns := bytesOf (stx rs) } = J.next := jlast_snoc (l := J.opn) rfl
  have hne : J.opn ++ [J.next] ≠ [] := by simp
  have hmem : ∀ q ∈ S'.segs, (q.num = J.next ∧ q.syn = 0) ∨ (q.num ≠ J.next ∧ q ∈ S.segs) := fun q hq => by
    rw [hS] at hq
    obtain ⟨q0, hq0, rfl⟩ := List.mem_map.1 hq
    rcases List.mem_append.1 hq0 with hq0 | hq0
    · have := hlt q0 hq0
      rw [if_neg (by omega)]
      exact Or.inr ⟨by omega, hq0⟩
    · rw [List.mem_singleton.1 hq0, if_pos rfl]
      exact Or.inl ⟨rfl, rfl⟩
  refine ⟨S', hj, hc, ?_, fun q hq ho => ?_, fun _ => ⟨R, [], by rw [hlast]; rfl, rfl, bytes_B _⟩, fun _ q hq hn => ?_, fun e => absurd e hne⟩
  · rw [hS]
    show (turn J.next _ (S.segs ++ [⟨J.next, ⟨#[]⟩, 0⟩])).map view = _
    rw [view_turn (V := R.map fun p => (p.1, stx p.2)) (v := []) (bytesOf (stx rs)) (by rw [List.map_append, h.segs]; rfl) ?_, bytes_B, List.map_append]
    · rfl
    · rw [List.pairwise_append]
      exact ⟨h.calm.good.rise, List.pairwise_singleton _ _, fun a ha b hb => by rw [List.mem_singleton.1 hb]; exact hlt a ha⟩
  · rcases hmem q hq with ⟨h1, _⟩ | ⟨_, h2⟩
    · rcases ho with ho | ho
      · exact absurd ho hne
      · exact absurd (h1.trans hlast.symm) ho
    · exact h.full q h2
  · rcases hmem q hq with ⟨_, h2⟩ | ⟨h1, _⟩
    · exact h2
    · exact absurd (hn.trans hlast) h1
theorem told_full : ∀ (R : List (Int × List Rc)) (l : List (Int × ByteArray)), l.map (fun x => (x.1, B x.2)) = (R.map fun p => (p.1, stx p.2)) → (∀ p ∈ R, ∀ r ∈ p.2, r.Ok) → (∀ x ∈ l, x.2.size ≤ 140737488355328) → Told l R
  | [], l, h, _, _ => by
    have : l = [] := List.map_eq_nil_iff.1 h
    rw [this]
    trivial
  | p :: R0, l, h, ho, hz => by
    cases l with
    | nil => cases h
    | cons x l =>
      rw [List.map_cons, List.map_cons] at h
      injection h with e1 e2
      injection e1 with e3 e4
      exact ⟨e3, ho p (List.mem_cons_self ..), hz x (List.mem_cons_self ..), Or.inl ⟨e4, told_full R0 l e2 (fun q hq => ho q (List.mem_cons_of_mem _ hq)) fun q hq => hz q (List.mem_cons_of_mem _ hq)⟩⟩
/-- What the power leaves of a segment: its beginning. -/
theorem torn_text (t : Int) (s : Seg) (h0 : 0 ≤ t) (hs : s.syn ≤ s.text.size) : ∃ m, s.syn ≤ m ∧ B (torn t s).text = (B s.text).take m ∧ (torn t s).num = s.num ∧ (torn t s).syn = (torn t s).text.size := by
  unfold torn
  split
  · rename_i ht
    refine ⟨s.syn + t.toNat, Nat.le_add_right _ _, ?_, rfl, ?_⟩
    · rw [B_extract, List.drop_zero, Nat.sub_zero]
    · show s.syn + t.toNat = (s.text.extract 0 (s.syn + t.toNat)).size
      rw [ByteArray.size_extract]
      omega
  · exact ⟨s.text.size, hs, by rw [size_B, List.take_length], rfl, rfl⟩
theorem torn_full (t : Int) (s : Seg) (h0 : 0 ≤ t) (hs : s.syn = s.text.size) : torn t s = s := by
  unfold torn
  rw [if_neg (by omega), ← hs]
end Go.Proofs.YtmkidefdegaamaaGreatDoor.Jr
namespace Go.Proofs.YtmkidefdegaamaaGreatDoor.Jr
open Bytes Im Dm
theorem crash_calm {S : Dk} (hl : S.left = -1) (hr : S.room = -1) (hf : ∀ s ∈ S.segs, s.syn = s.text.size) (t : Int) : doCrash S t = S := by
  unfold doCrash
  have h1 : S.segs.map (torn (if t < 0 then 0 else t)) = S.segs := by
    conv => rhs; rw [← List.map_id S.segs]
    refine List.map_congr_left fun s hs => ?_
    exact torn_full _ s (by split <;> omega) (hf s hs)
  rw [h1]
  cases S
  simp only at hl hr
  subst hl
  subst hr
  rfl
theorem sgs_view (S : Dk) : (sgs S).map (fun x => (x.1, B x.2)) = S.segs.map view := by
  unfold sgs
  rw [List.map_map]
  rfl
/-- What a disk has of a journal, and what its records tell. -/
structure Kd (J : Jn) (S : Dk) (R : List (Int × List Rc)) (b : List Rc) (H : Hs) : Prop where
  seg : Kseg J S R b
  ne : ∀ p ∈ R, p.2 ≠ []
  is : hfold hs0 (ents R) = H
  cl : AllCl hs0 (ents R)
  opn : H.osegs = J.opn
  g : H.g = J.greatest
  sealed : H.sealed.map (fun s => (s.1, s.2.2)) = J.sealed
end Go.Proofs.YtmkidefdegaamaaGreatDoor.Jr
namespace Go.Proofs.YtmkidefdegaamaaGreatDoor.Jr
open Bytes Im Dm
theorem ents_add (R0 : List (Int × List Rc)) (x : Int) (rs : List Rc) (r : Rc) : ents (R0 ++ [(x, rs ++ [r])]) = ents (R0 ++ [(x, rs)]) ++ [((x, (stx rs).length + r.tx.length), r)] := by
  rw [ents_append, ents_append, List.append_assoc]
  congr 1
  show ents1 x 0 (rs ++ [r]) ++ [] = ents1 x 0 rs ++ [] ++ _
  rw [ents1_append, Nat.zero_add, List.append_nil, List.append_nil]
  rfl
theorem ents_new (R : List (Int × List Rc)) (x : Int) (rs : List Rc) : ents (R ++ [(x, rs)]) = ents R ++ ents1 x 0 rs := by
  rw [ents_append]
  show _ ++ (ents1 x 0 rs ++ []) = _
  rw [List.append_nil]
theorem Kd.own {J : Jn} {S : Dk} {R : List (Int × List Rc)} {b : List Rc} {H : Hs} (h : Kd J S R b H) : H.sealed.flatMap (·.2.2) = J.sealed.flatMap (·.2) := by
  rw [← h.sealed, List.flatMap_map]
theorem Kd.last_own {J : Jn} {S : Dk} {R : List (Int × List Rc)} {b : List Rc} {H : Hs} (h : Kd J S R b H) (hne : J.opn ≠ []) : jlast J ∉ H.sealed.flatMap (·.2.2) := fun hm => by
  rw [h.own] at hm
  have h1 := List.pairwise_map.2 h.seg.calm.good.rise
  have h2 : (S.segs.map (·.num)).Nodup := List.nodup_iff_pairwise_ne.2 (h1.imp fun h => by omega)
  have h3 := h.seg.calm.perm.nodup_iff.1 h2
  rw [List.nodup_append] at h3
  exact h3.2.2 _ hm _ (jlast_mem hne) rfl
theorem jlast_is {J : Jn} (hne : J.opn ≠ []) : J.opn.getLast? = some (jlast J) := by
  unfold jlast
  rw [List.getLast?_eq_some_getLast hne]
  rfl
/-- A datagram behind others in a segment. -/
theorem Kd.dgram {J : Jn} {S : Dk} {R : List (Int × List Rc)} {b : List Rc} {H : Hs} (h : Kd J S R b H) (hne : J.opn ≠ []) (win : Int) (t : ByteArray) (hok : (⟨100, win, t⟩ : Rc).Ok) (hf : hfit H ⟨100, win, t⟩ = true) :
    ∃ S' R' z, jadd J S (bytesOf (wrec [100] win (B t))) = ({ J with uns := J.uns ++ bytesOf (wrec [100] win (B t)) }, S', 0) ∧ ents R' = ents R ++ [((jlast J, z), ⟨100, win, t⟩)] ∧ Kd { J with uns := J.uns ++ bytesOf (wrec [100] win (B t)) } S' R' (b ++ [⟨100, win, t⟩]) (hnext H ((jlast J, z), ⟨100, win, t⟩)) := by
  obtain ⟨S', R0, rs, hR, hj, hk⟩ := h.seg.add hne ⟨100, win, t⟩
  have he := ents_add R0 (jlast J) rs ⟨100, win, t⟩
  rw [← hR] at he
  have hcl : Cl H ((jlast J, (stx rs).length + (⟨100, win, t⟩ : Rc).tx.length), ⟨100, win, t⟩) := ⟨hf, hok, fun e => absurd e (show ¬ (100 : UInt8) = 98 by decide), h.last_own hne, fun e => absurd (h.opn.symm.trans e) hne⟩
  have hos : hent (jlast J) H.osegs = H.osegs := hent_last (by rw [h.opn]; exact jlast_is hne)
  refine ⟨S', _, _, hj, he, hk, fun p hp => ?_, ?_, ?_, ?_, h.g, h.sealed⟩
  · rcases List.mem_append.1 hp with hp | hp
    · exact h.ne p (by rw [hR]; exact List.mem_append_left _ hp)
    · rw [List.mem_singleton.1 hp]
      simp
  · rw [he, hfold_append, h.is]
    rfl
  · rw [he, allCl_append, h.is]
    exact ⟨h.cl, hcl, trivial⟩
  · show hent (jlast J) H.osegs = J.opn
    rw [hos]
    exact h.opn
theorem bytes_append (a b : Bs) : bytesOf a ++ bytesOf b = bytesOf (a ++ b) := B_inj (by rw [B_append, bytes_B, bytes_B, bytes_B])
/-- A datagram, the first of a segment behind others. -/
theorem Kd.next {J : Jn} {S : Dk} {R : List (Int × List Rc)} {H : Hs} (h : Kd J S R [] H) (hne : J.opn ≠ []) (hx : J.next ≤ 9223372036854775807) (win : Int) (t : ByteArray) (hok : (⟨100, win, t⟩ : Rc).Ok) (hf : hfit H ⟨100, win, t⟩ = true) :
    ∃ S' R' z, jbegin J S (bytesOf (wrec [100] win (B t))) = ({ J with opn := J.opn ++ [J.next], next := J.next + 1, synced := 0, uns := bytesOf (wrec [100] win (B t)) }, S', 0) ∧ ents R' = ents R ++ [((J.next, z), ⟨100, win, t⟩)] ∧ Kd { J with opn := J.opn ++ [J.next], next := J.next + 1, synced := 0, uns := bytesOf (wrec [100] win (B t)) } S' R' [⟨100, win, t⟩] (hnext H ((J.next, z), ⟨100, win, t⟩)) := by
  obtain ⟨S', hj, hk⟩ := h.seg.begin hx [⟨100, win, t⟩]
  have hs : stx [⟨100, win, t⟩] = wrec [100] win (B t) := List.append_nil _
  rw [hs] at hj hk
  have he := ents_new R J.next [⟨100, win, t⟩]
  have hnot : J.next ∉ J.sealed.flatMap (·.2) ++ J.opn := fun hm => by
    have := h.seg.calm.below J.next (h.seg.calm.perm.mem_iff.2 hm)
    omega
  have hcl : Cl H ((J.next, 0 + (⟨100, win, t⟩ : Rc).tx.length), ⟨100, win, t⟩) := ⟨hf, hok, fun e => absurd e (show ¬ (100 : UInt8) = 98 by decide), fun hm => hnot (List.mem_append_left _ (h.own ▸ hm)), fun e => absurd (h.opn.symm.trans e) hne⟩
  refine ⟨S', _, _, hj, he, hk, fun p hp => ?_, ?_, ?_, ?_, h.g, h.sealed⟩
  · rcases List.mem_append.1 hp with hp | hp
    · exact h.ne p hp
    · rw [List.mem_singleton.1 hp]
      simp
  · rw [he, hfold_append, h.is]
    rfl
  · rw [he, allCl_append, h.is]
    exact ⟨h.cl, hcl, trivial⟩
  · show hent J.next H.osegs = J.opn ++ [J.next]
    rw [hent_new (by rw [h.opn]; exact fun e => hnot (List.mem_append_right _ e)), h.opn]
theorem Kd.sync {J : Jn} {S : Dk} {R : List (Int × List Rc)} {b : List Rc} {H : Hs} (h : Kd J S R b H) : ∃ J' S', jsync J S = (J', S', 0) ∧ Kd J' S' R [] H ∧ J'.opn = J.opn ∧ J'.next = J.next := by
  obtain ⟨J', S', hj, hk, h1, h2, h3, _, h5⟩ := h.seg.sync
  exact ⟨J', S', hj, ⟨hk, h.ne, h.is, h.cl, h.opn.trans h1.symm, h.g.trans h3.symm, h.sealed.trans h2.symm⟩, h1, h5⟩
end Go.Proofs.YtmkidefdegaamaaGreatDoor.Jr
namespace Go.Proofs.YtmkidefdegaamaaGreatDoor.Jr
open Bytes Im Dm
theorem fit_d {H : Hs} {win : Int} {t : ByteArray} (hlt : H.g < win) (hb : H.odgs = [] ∨ win = H.onum) : hfit H ⟨100, win, t⟩ = true := by
  unfold hfit hfits
  rw [if_pos rfl]
  rcases hb with hb | hb
  · rw [hb]
    simp [hlt]
  · rw [hb] at hlt
    simp [hb, hlt]
/-- The head's records. -/
def hrs (J : Jn) : List Rc := if J.greatest = -1 then [] else [⟨98, J.greatest, ⟨#[]⟩⟩]
theorem hrs_tx (J : Jn) : stx (hrs J) = jhead J := by
  unfold hrs jhead
  split
  · rfl
  · exact List.append_nil _
/-- The first datagram behind a seal, or of all. -/
theorem Kd.first {J : Jn} {S : Dk} {R : List (Int × List Rc)} {b : List Rc} {H : Hs} (h : Kd J S R b H) (ho : J.opn = []) (hx : J.next ≤ 9223372036854775807) (hg : -1 ≤ J.greatest ∧ J.greatest ≤ 1000000000) (win : Int) (t : ByteArray) (hok : (⟨100, win, t⟩ : Rc).Ok) (hlt : H.g < win) (hod : H.odgs = []) :
    ∃ J' S' R' b' H', jbegin J S (bytesOf (jhead J) ++ bytesOf (wrec [100] win (B t))) = (J', S', 0) ∧ Kd J' S' R' b' H' ∧ H'.odgs = H.odgs ++ [t] ∧ H'.onum = win ∧ H'.sealed = H.sealed ∧ H'.g = H.g ∧ (∃ x, ents R' = ents R ++ x) ∧ (ents R).length ≤ (ents R').length - b'.length ∧ J'.opn ≠ [] := by
  have hb := h.seg.nob ho
  subst hb
  obtain ⟨S', hj, hk⟩ := h.seg.begin hx (hrs J ++ [⟨100, win, t⟩])
  have hs : bytesOf (stx (hrs J ++ [⟨100, win, t⟩])) = bytesOf (jhead J) ++ bytesOf (wrec [100] win (B t)) := by
    rw [stx_snoc, hrs_tx, bytes_append]
    rfl
  rw [hs] at hj hk
  have he := ents_new R J.next (hrs J ++ [⟨100, win, t⟩])
  have hnot : J.next ∉ H.sealed.flatMap (·.2.2) := fun hm => by
    rw [h.own] at hm
    have := h.seg.calm.below J.next (h.seg.calm.perm.mem_iff.2 (List.mem_append_left _ hm))
    omega
  have hso : H.osegs = [] := by rw [h.opn, ho]
  have hel : ∀ (z : Nat) (l : List Rc), (ents1 J.next z l).length = l.length := fun z l => by
    induction l generalizing z with
    | nil => rfl
    | cons r l ih => simp [ents1, ih]
  have key : AllCl H (ents1 J.next 0 (hrs J ++ [⟨100, win, t⟩])) ∧ (hfold H (ents1 J.next 0 (hrs J ++ [⟨100, win, t⟩]))).odgs = [t] ∧ (hfold H (ents1 J.next 0 (hrs J ++ [⟨100, win, t⟩]))).onum = win ∧ (hfold H (ents1 J.next 0 (hrs J ++ [⟨100, win, t⟩]))).sealed = H.sealed ∧ (hfold H (ents1 J.next 0 (hrs J ++ [⟨100, win, t⟩]))).g = H.g ∧ (hfold H (ents1 J.next 0 (hrs J ++ [⟨100, win, t⟩]))).osegs = [J.next] := by
    by_cases hgr : J.greatest = -1
    · have hr : hrs J = [] := by unfold hrs; rw [if_pos hgr]
      rw [hr]
      refine ⟨⟨⟨fit_d hlt (Or.inl hod), hok, fun e => absurd e (show ¬ (100 : UInt8) = 98 by decide), hnot, fun _ e => absurd (h.g.trans hgr) e⟩, trivial⟩, ?_, rfl, rfl, rfl, ?_⟩
      · show H.odgs ++ [t] = [t]
        rw [hod]
        rfl
      · show hent J.next H.osegs = _
        rw [hso]
        rfl
    · have hr : hrs J = [⟨98, J.greatest, ⟨#[]⟩⟩] := by unfold hrs; rw [if_neg hgr]
      rw [hr]
      have hgH : J.greatest = H.g := h.g.symm
      refine ⟨⟨⟨?_, ⟨Or.inr (Or.inr rfl), by show 0 ≤ J.greatest; omega, hg.2, by show (0 : Nat) ≤ 1000000; omega⟩, fun _ => hso, hnot, fun _ _ => ⟨rfl, hgH⟩⟩, ⟨fit_d (by show J.greatest < win; omega) (Or.inl rfl), hok, fun e => absurd e (show ¬ (100 : UInt8) = 98 by decide), hnot, fun e => absurd e (List.cons_ne_nil _ _)⟩, trivial⟩, rfl, rfl, rfl, hgH, ?_⟩
      · show hfit H ⟨98, J.greatest, ⟨#[]⟩⟩ = true
        unfold hfit hfits
        rw [if_neg (show ¬ (⟨#[(98 : UInt8)]⟩ : ByteArray) = ⟨#[100]⟩ by decide), if_neg (show ¬ (⟨#[(98 : UInt8)]⟩ : ByteArray) = ⟨#[115]⟩ by decide), if_pos rfl]
        simp
        omega
      · show hent J.next [J.next] = _
        exact hent_last rfl
  obtain ⟨k1, k2, k3, k4, k5, k6⟩ := key
  refine ⟨_, S', R ++ [(J.next, hrs J ++ [⟨100, win, t⟩])], hrs J ++ [⟨100, win, t⟩], _, hj, ⟨hk, fun p hp => ?_, by rw [he, hfold_append, h.is], ?_, ?_, ?_, ?_⟩, by rw [k2, hod]; rfl, k3, k4, k5, ⟨_, he⟩, ?_, by simp⟩
  · rcases List.mem_append.1 hp with hp | hp
    · exact h.ne p hp
    · rw [List.mem_singleton.1 hp]
      simp
  · rw [he, allCl_append, h.is]
    exact ⟨h.cl, k1⟩
  · rw [k6]
    show _ = J.opn ++ [J.next]
    rw [ho]
    rfl
  · rw [k5]
    exact h.g
  · rw [k4]
    exact h.sealed
  · rw [he, List.length_append, hel]
    omega
/-- A datagram written down. -/
theorem Kd.write {J : Jn} {S : Dk} {R : List (Int × List Rc)} {b : List Rc} {H : Hs} (h : Kd J S R b H) (hx : J.next ≤ 9223372036854775807) (hg : -1 ≤ J.greatest ∧ J.greatest ≤ 1000000000) (win : Int) (t : ByteArray) (hok : (⟨100, win, t⟩ : Rc).Ok) (hlt : H.g < win) (hb : H.odgs = [] ∨ win = H.onum) (ho : J.opn = [] → H.odgs = []) :
    ∃ J' S' R' b' H', jwrite J S win t = (J', S', 0) ∧ Kd J' S' R' b' H' ∧ H'.odgs = H.odgs ++ [t] ∧ H'.onum = win ∧ H'.sealed = H.sealed ∧ H'.g = H.g ∧ (∃ x, ents R' = ents R ++ x) ∧ (ents R).length - b.length ≤ (ents R').length - b'.length ∧ J'.opn ≠ [] := by
  have hf := fit_d (t := t) hlt hb
  have hd : ∀ (z : Nat) (n : Int), (hnext H ((n, z), (⟨100, win, t⟩ : Rc))).odgs = H.odgs ++ [t] ∧ (hnext H ((n, z), (⟨100, win, t⟩ : Rc))).onum = win ∧ (hnext H ((n, z), (⟨100, win, t⟩ : Rc))).sealed = H.sealed ∧ (hnext H ((n, z), (⟨100, win, t⟩ : Rc))).g = H.g := fun z n => ⟨rfl, rfl, rfl, rfl⟩
  by_cases hop : J.opn = []
  · obtain ⟨J', S', R', b', H', h1, h2, h3, h4, h5, h6, h7, h8, h9⟩ := h.first hop hx hg win t hok hlt (ho hop)
    exact ⟨J', S', R', b', H', by unfold jwrite; rw [if_pos hop]; exact h1, h2, h3, h4, h5, h6, h7, by omega, h9⟩
  · by_cases hm : (J.synced : Int) + (J.uns.size : Int) < J.most
    · obtain ⟨S', R', z, h1, h2, h3⟩ := h.dgram hop win t hok hf
      obtain ⟨d1, d2, d3, d4⟩ := hd z (jlast J)
      refine ⟨_, S', R', _, _, by unfold jwrite; rw [if_neg hop, if_pos hm]; exact h1, h3, d1, d2, d3, d4, ⟨_, h2⟩, ?_, hop⟩
      rw [h2, List.length_append, List.length_append]
      simp only [List.length_singleton]
      omega
    · obtain ⟨J1, S1, hj, hk, e1, e2⟩ := h.sync
      obtain ⟨S', R', z, h1, h2, h3⟩ := hk.next (by rw [e1]; exact hop) (by rw [e2]; exact hx) win t hok hf
      obtain ⟨d1, d2, d3, d4⟩ := hd z J1.next
      refine ⟨_, S', R', _, _, ?_, h3, d1, d2, d3, d4, ⟨_, h2⟩, ?_, by simp⟩
      · unfold jwrite
        rw [if_neg hop, if_neg hm, hj, if_neg (by simp)]
        exact h1
      · rw [h2, List.length_append]
        simp only [List.length_singleton]
        omega
end Go.Proofs.YtmkidefdegaamaaGreatDoor.Jr
namespace Go.Proofs.YtmkidefdegaamaaGreatDoor.Jr
open Go.RowKit Go.Maps Mem Foot Bytes Im Wm Hi Plainw Cq Dm Dh Dd
theorem bsearch (ua : Option Addr) (uc : Nat) (us : List Int) (x : Int) (w : World) (hu : w.ownsRow 0 3 1 (.slice ua us.length uc) us.length (us.map (Value.int .i64))) (hl : us.length ≤ 1000000000) (hs : us.Pairwise (· < ·)) :
    Calls Tryz.prog 102 #[.slice ua us.length uc, .int .i64 x] w fun e w' => (∃ c, e = .returned (.tuple #[.int .i64 c, .bool (decide (x ∈ us))])) ∧ Below w.heap.size w w' := by
  cases us with
  | nil =>
    refine (Tryz.slices_BinarySearch_int_empty ua uc x w).mono ?_
    rintro e w' ⟨rfl, rfl⟩
    exact ⟨⟨_, rfl⟩, Below.refl _ _⟩
  | cons y us =>
    obtain ⟨g, cap, hv, _, _, _⟩ := row_ints hu (i := 0) (x := y) rfl
    injection hv with e1 _ e3
    subst e1
    refine (Tryz.slices_BinarySearch_int g 0 (y :: us).length uc (y :: us) x w (Nat.le_refl _) (by omega) (fun j hj => ?_) ?_).mono ?_
    · obtain ⟨g', cap', hv', _, _, hc⟩ := row_ints hu (i := j) (x := (y :: us)[j]) (List.getElem?_eq_getElem hj)
      injection hv' with e1' _ _
      have : g = g' := by injection e1' with e; injection e
      rw [this, Nat.zero_add, List.getD_eq_getElem?_getD, List.getElem?_eq_getElem hj]
      exact hc
    · rw [List.take_length]
      exact hs.imp fun h => Int.le_of_lt h
    · rintro e w' ⟨rfl, q, rfl⟩
      refine ⟨⟨_, congrArg (fun b => Ending.returned (.tuple #[_, .bool b])) ?_⟩, below_drewN' (Below.refl _ _)⟩
      rw [List.take_length, List.contains_eq_mem]
/-- What a segment's tidying does to the disk. -/
def tid1 (S : Dk) (x : Int × ByteArray) (us : List Int) (es ez : Int) : Dk × Int :=
  if x.1 ∉ us then doDelete S x.1
  else if x.1 = es ∧ ez < (x.2.size : Int) then doTrunc S x.1 ez
  else (S, 0)
set_option maxRecDepth 10000 in
set_option maxHeartbeats 2000000 in
theorem tidyS (w : World) (hT : Tab w) (bx ba cap : Nat) (bs : List Nat) (S : Dk) (hP : PD w bx S ba cap bs) (hG : Dm.Good S) (hbl : bs.length ≤ 1000000000) (num : Int) (t : ByteArray) (ua : Option Addr) (uc : Nat) (us : List Int) (hu : w.ownsRow 0 3 1 (.slice ua us.length uc) us.length (us.map (Value.int .i64))) (hl : us.length ≤ 1000000000) (hs : us.Pairwise (· < ·)) (es ez : Int) (hn : -9223372036854775808 ≤ num ∧ num ≤ 9223372036854775807) (hz : (tid1 S (num, t) us es ez).2 = 0) :
    Calls Tryz.prog 77 #[.pointer (some ⟨bx, 0, none⟩), .agg #[.int .i64 num, .string t], .slice ua us.length uc, .agg #[.int .i64 es, .int .i64 ez]] w fun e w' => e = .returned .nilIface ∧ Off (pf bx ba bs) w w' ∧ ∃ ba' cap' bs', PD w' bx (tid1 S (num, t) us es ez).1 ba' cap' bs' ∧ ∀ b ∈ pf bx ba' bs', b ∈ pf bx ba bs ∨ w.heap.size ≤ b := by
  have hs1 := Sits.new w 143 #[.int .i64 num, .string t]
  have hb1 := below_new (w := w) (.cells #[.int .i64 num, .string t] 143)
  have hs2 := Sits.new (w.alloc (.cells #[.int .i64 num, .string t] 143)) 99 #[.int .i64 es, .int .i64 ez]
  have hb2 := below_new (w := w.alloc (.cells #[.int .i64 num, .string t] 143)) (.cells #[.int .i64 es, .int .i64 ez] 99)
  have HS1 := hide (Mem.Sits.below hs1 hb2 hs1.lt)
  rw [World.size_alloc] at hs2
  have HS2 := hide hs2
  have HB2 := hide (hb1.trans (hb2.mono hb1.size))
  have HP := hide hP
  have HG := hide hG
  have HT := hide hT
  have HU := hide hu
  have HZ := hide hz
  have HSO := hide hs
  clear hs1 hb1 hs2 hb2 hP hG hT hu hz hs
  go_enter Tryz.func77, Tryz.ntmps77
  go_upto_region 1 with fail
  generalize (w.alloc (.cells #[.int .i64 num, .string t] 143)).alloc (.cells #[.int .i64 es, .int .i64 ez] 99) = w2 at *
  obtain ⟨ab, hab⟩ : ∃ ab, w.heap.size = ab := ⟨_, rfl⟩
  rw [hab] at HS1 HS2
  have HAB := hide hab
  rw [hab]
  clear hab
  have x0 : w2.cell? ⟨ab, 0, none⟩ = some (.int .i64 num) := HS1.out.cell 0 _ rfl
  have hbs := bsearch ua uc us num w2 (own_keep HU.out HB2.out) hl HSO.out
  go_wp2_with fail
  refine hbs.mono ?_
  clear hbs x0
  rintro e w3 ⟨⟨c, rfl⟩, hb3⟩
  have HT1 := hide (Mem.Sits.below HS1.out hb3 HS1.out.lt)
  have HT2 := hide (Mem.Sits.below HS2.out hb3 HS2.out.lt)
  have HB3 := hide (HB2.out.trans (hb3.mono HB2.out.size))
  clear hb3 HS1 HS2
  have HP3 := hide (HP.out.keep HB3.out)
  have FIN := hide (show ∀ w', Below w.heap.size w w' → ∃ ba' cap' bs', PD w' bx S ba' cap' bs' ∧ ∀ b ∈ pf bx ba' bs', b ∈ pf bx ba bs ∨ w.heap.size ≤ b from fun w' hb => ⟨ba, cap, bs, HP.out.keep hb, fun b hb' => Or.inl hb'⟩)
  by_cases hm : num ∈ us
  · rw [decide_eq_true hm]
    have x0 : w3.cell? ⟨ab, 0, none⟩ = some (.int .i64 num) := HT1.out.cell 0 _ rfl
    have x1 : w3.cell? ⟨ab, 1, none⟩ = some (.string t) := HT1.out.cell 1 _ rfl
    have y0 : w3.cell? ⟨ab + 1, 0, none⟩ = some (.int .i64 es) := HT2.out.cell 0 _ rfl
    have y1 : w3.cell? ⟨ab + 1, 1, none⟩ = some (.int .i64 ez) := HT2.out.cell 1 _ rfl
    by_cases he : num = es
    · by_cases hlt : ez < (t.size : Int)
      · have HTI := hide (show tid1 S (num, t) us es ez = doTrunc S num ez by unfold tid1; rw [if_neg (fun h => h hm), if_pos ⟨he, hlt⟩])
        have HZT := hide (show (doTrunc S num ez).2 = 0 by rw [← HTI.out]; exact HZ.out)
        subst he
        go_wp2_with fail
        have C0 : ∀ q : Bw w3, q.val.cell? ⟨ab, 0, none⟩ = some (.int .i64 num) := fun q => (Mem.Sits.below HT1.out q.is HT1.out.lt).cell 0 _ rfl
        have C1 : ∀ q : Bw w3, q.val.cell? ⟨ab + 1, 1, none⟩ = some (.int .i64 ez) := fun q => (Mem.Sits.below HT2.out q.is HT2.out.lt).cell 1 _ rfl
        have HAB' := hide (fun q : Bw w3 => call_cls (about ⟨#[116, 114, 117, 110, 99, 97, 116, 105, 110, 103]⟩ (by decide) num hn.1 hn.2 q.val ((HT.out.below HB3.out).below q.is)))
        generalize aboutB ⟨#[116, 114, 117, 110, 99, 97, 116, 105, 110, 103]⟩ num = y at HAB'
        clear x0 x1 y0 y1
        refine region_pre 8 (by kernel_rfl) (by kernel_rfl) ?_
        simp only [List.take_succ_cons, List.take_zero, List.drop_succ_cons, List.drop_zero]
        repeat (first
          | go_big_quiet_skip
          | (go_big_quiet_want; go_big_quiet_op; first | go_big_quiet_on | (apply Exists.intro; refine ⟨fun _ => ?_, ?_⟩; (go_at_call 61; exact HAB'.out _); go_big_quiet_on)))
        refine wpQuiet_nil ?_
        intro q
        have HB4 := hide (HB3.out.trans (q.is.mono HB3.out.size))
        clear C0 C1 HAB'
        generalize q.val = w4 at *
        have htr := truncate bx ba cap bs S num ez w4 (HP.out.keep HB4.out) HG.out hbl
        go_wp2_with fail
        refine htr.mono ?_
        clear htr
        rintro e w5 ⟨rfl, ho5, hP5⟩
        rw [HZT.out]
        have HO5 := hide (show Off (pf bx ba bs) w w5 from (Off.of_below HB4.out).trans (ho5.mono fun k _ hk => pf_sub hk))
        have HP5 := hide hP5
        have hdu := during y 0 w5
        clear ho5 hP5
        go_wp2_with fail
        refine hdu.mono ?_
        clear hdu
        rintro e w6 ⟨⟨v, rfl, hv⟩, hb6⟩
        have hv' : v = .nilIface := hv.elim (fun h => h.2) fun h => absurd rfl h.1
        subst hv'
        have HB6 := hide hb6
        clear hb6 hv
        go_wp2_with fail
        go_ret
        rw [HTI.out]
        exact ⟨rfl, HO5.out.trans (Off.of_below HB6.out), ba, cap, bs, HP5.out.keep HB6.out, fun b hb' => Or.inl hb'⟩
      · have HTI := hide (show tid1 S (num, t) us es ez = (S, 0) by unfold tid1; rw [if_neg (fun h => h hm), if_neg (fun h => hlt h.2)])
        subst he
        go_wp2_with fail
        go_ret
        rw [HTI.out]
        exact ⟨rfl, Off.of_below HB3.out, FIN.out _ HB3.out⟩
    · have HTI := hide (show tid1 S (num, t) us es ez = (S, 0) by unfold tid1; rw [if_neg (fun h => h hm), if_neg (fun h => he h.1)])
      go_wp2_with fail
      go_ret
      rw [HTI.out]
      exact ⟨rfl, Off.of_below HB3.out, FIN.out _ HB3.out⟩
  · rw [decide_eq_false hm]
    have HTI := hide (show tid1 S (num, t) us es ez = doDelete S num by unfold tid1; rw [if_pos hm])
    have HZT := hide (show (doDelete S num).2 = 0 by rw [← HTI.out]; exact HZ.out)
    go_wp2_with fail
    have C0 : ∀ q : Bw w3, q.val.cell? ⟨ab, 0, none⟩ = some (.int .i64 num) := fun q => (Mem.Sits.below HT1.out q.is HT1.out.lt).cell 0 _ rfl
    have HAB' := hide (fun q : Bw w3 => call_cls (about ⟨#[100, 101, 108, 101, 116, 105, 110, 103]⟩ (by decide) num hn.1 hn.2 q.val ((HT.out.below HB3.out).below q.is)))
    generalize aboutB ⟨#[100, 101, 108, 101, 116, 105, 110, 103]⟩ num = y at HAB'
    refine region_pre 6 (by kernel_rfl) (by kernel_rfl) ?_
    simp only [List.take_succ_cons, List.take_zero, List.drop_succ_cons, List.drop_zero]
    repeat (first
      | go_big_quiet_skip
      | (go_big_quiet_want; go_big_quiet_op; first | go_big_quiet_on | (apply Exists.intro; refine ⟨fun _ => ?_, ?_⟩; (go_at_call 61; exact HAB'.out _); go_big_quiet_on)))
    refine wpQuiet_nil ?_
    intro q
    have HB4 := hide (HB3.out.trans (q.is.mono HB3.out.size))
    clear C0 HAB'
    generalize q.val = w4 at *
    have hde := delete bx ba cap bs S num w4 (HP.out.keep HB4.out) HG.out hbl
    go_wp2_with fail
    refine hde.mono ?_
    clear hde
    rintro e w5 ⟨rfl, ho5, ba', cap', bs', hP5, hb5, ha5⟩
    rw [HZT.out]
    have HO5 := hide (show Off (pf bx ba bs) w w5 from (Off.of_below HB4.out).trans (ho5.mono fun k _ hk => by rw [List.mem_singleton.1 hk]; exact pf_head bx ba bs))
    have HP5 := hide hP5
    have HF5 := hide (show ∀ b ∈ pf bx ba' bs', b ∈ pf bx ba bs ∨ w.heap.size ≤ b from pf_del hb5 (ha5.imp id fun h => Nat.le_trans HB4.out.size h))
    have hdu := during y 0 w5
    clear ho5 hP5 hb5 ha5
    go_wp2_with fail
    refine hdu.mono ?_
    clear hdu
    rintro e w6 ⟨⟨v, rfl, hv⟩, hb6⟩
    have hv' : v = .nilIface := hv.elim (fun h => h.2) fun h => absurd rfl h.1
    subst hv'
    have HB6 := hide hb6
    clear hb6 hv
    go_wp2_with fail
    go_ret
    rw [HTI.out]
    exact ⟨rfl, HO5.out.trans (Off.of_below HB6.out), ba', cap', bs', HP5.out.keep HB6.out, HF5.out⟩
/-- What the tidying of all segments does. -/
def tidL (us : List Int) (es ez : Int) : List (Int × ByteArray) → Dk → Dk
  | [], S => S
  | x :: l, S => tidL us es ez l (tid1 S x us es ez).1
/-- Each of them goes. -/
def TidOk (us : List Int) (es ez : Int) : List (Int × ByteArray) → Dk → Prop
  | [], _ => True
  | x :: l, S => (tid1 S x us es ez).2 = 0 ∧ TidOk us es ez l (tid1 S x us es ez).1
end Go.Proofs.YtmkidefdegaamaaGreatDoor.Jr
namespace Go.Proofs.YtmkidefdegaamaaGreatDoor.Jr
open Go.RowKit Go.Maps Mem Foot Bytes Im Wm Hi Plainw Cq Dm Dh Dd
theorem tid1_fit {S : Dk} {k u : Nat} (h : Fit S k u) (x : Int × ByteArray) (us : List Int) (es ez : Int) : Fit (tid1 S x us es ez).1 k u := by
  unfold tid1
  split
  · exact fit_delete h _
  · split
    · exact fit_trunc h _ _
    · exact h
theorem HA.pd {w w' : World} {H : Hs} {p : Hp} {bx ba cap : Nat} {bs : List Nat} {S : Dk} (h : HA w H p) (hP : PD w bx S ba cap bs) (ho : Off (pf bx ba bs) w w') : HA w' H p :=
  h.off ho fun k hk => by
    obtain ⟨t, cs, hs, ht⟩ := h.cells hk
    exact PD.not hP hs (by rcases ht with rfl | rfl | rfl | rfl <;> decide) (by rcases ht with rfl | rfl | rfl | rfl <;> decide) (by rcases ht with rfl | rfl | rfl | rfl <;> decide)
theorem row_pd {w w' : World} {base size n : Nat} {e : TypeId} {v : Value} {xs : List Value} {bx ba cap : Nat} {bs : List Nat} {S : Dk} (h : w.ownsRow base e size v n xs) (hP : PD w bx S ba cap bs) (ho : Off (pf bx ba bs) w w') (h1 : e ≠ 55) (h2 : e ≠ 127) (h3 : e ≠ 129) : w'.ownsRow base e size v n xs :=
  own_off h ho fun k hk => by
    obtain ⟨cs, hs⟩ := sits_row h hk
    exact PD.not hP hs h1 h2 h3
/-- The disk when all is tidy. -/
def tidE (us : List Int) (es ez : Int) (l : List (Int × ByteArray)) (S : Dk) : Dk :=
  if us = [] then tidL us es ez l S else (doSync (tidL us es ez l S) (us.getLast?.getD 0)).1
structure TidFine (us : List Int) (es ez : Int) (l : List (Int × ByteArray)) (S : Dk) : Prop where
  ok : TidOk us es ez l S
  sync : us ≠ [] → (doSync (tidL us es ez l S) (us.getLast?.getD 0)).2 = 0
set_option maxRecDepth 10000 in
set_option maxHeartbeats 4000000 in
theorem tidyR (w0 w : World) (hT : Tab w0) (h0 : Below w0.heap.size w0 w) (bx ba cap : Nat) (bs : List Nat) (S : Dk) (hP : PD w bx S ba cap bs) (hfar : ∀ b ∈ pf bx ba bs, w0.heap.size ≤ b) (k u : Nat) (hF : Fit S k u) (hk : k ≤ 1000000000) (l : List (Int × ByteArray)) (sa : Option Addr) (sc : Nat) (hrow : w.ownsRow 0 143 2 (.slice sa l.length sc) l.length (l.flatMap scells)) (hl : l.length ≤ 1000000000) (hn : ∀ x ∈ l, -9223372036854775808 ≤ x.1 ∧ x.1 ≤ 9223372036854775807) (H : Hs) (p : Hp) (h : HA w H p) (hsl : H.sealed.length ≤ 1000000000) (hul : (husd H).length ≤ 1000000000) (hur : ∀ x ∈ husd H, -9223372036854775808 ≤ x ∧ x ≤ 9223372036854775807) (hs : (husd H).Pairwise (· < ·)) (hok : TidFine (husd H) H.es H.ez l S) :
    Calls Tryz.prog 43 #[.pointer (some ⟨bx, 0, none⟩), .slice sa l.length sc, .pointer (some ⟨p.hb, 0, none⟩)] w fun e w' => e = .returned .nilIface ∧ Off (pf bx ba bs) w w' ∧ ∃ ba' cap' bs', PD w' bx (tidE (husd H) H.es H.ez l S) ba' cap' bs' ∧ ∀ b ∈ pf bx ba' bs', b ∈ pf bx ba bs ∨ w.heap.size ≤ b := by
  have hus := usedR H p w h hsl hul
  have HP := hide hP
  have HT := hide hT
  have HB0 := hide h0
  have HFAR := hide hfar
  have HFT := hide hF
  have HRW := hide hrow
  have HN := hide hn
  have HH := hide h
  have HUR := hide hur
  have HSO := hide hs
  have HOK := hide hok
  obtain ⟨us, husE⟩ : ∃ us, husd H = us := ⟨_, rfl⟩
  rw [husE] at hus hul HUR HSO HOK ⊢
  clear hP hT h0 hfar hF hrow hn h hur hs hok husE
  go_enter Tryz.func43, Tryz.ntmps43
  go_wp2_with fail
  refine hus.mono ?_
  clear hus
  rintro e w1 ⟨ua, uc, rfl, hu1, hb1⟩
  have HU1 := hide (own_base hu1 (Nat.zero_le _))
  have HB1 := hide hb1
  clear hu1 hb1
  go_wp2_with fail
  go_loopw [16] (fun s wr => ∃ (i : Nat) (S' : Dk) (ba' cap' : Nat) (bs' : List Nat), s = .int .i64 (i : Int) ∧ i ≤ l.length ∧ Hid (TidOk us H.es H.ez (l.drop i) S') ∧ Hid (tidL us H.es H.ez (l.drop i) S' = tidL us H.es H.ez l S) ∧ Hid (Fit S' k u) ∧ Hid (PD wr bx S' ba' cap' bs') ∧ Hid (∀ b ∈ pf bx ba' bs', b ∈ pf bx ba bs ∨ w.heap.size ≤ b) ∧ Hid (Off (pf bx ba bs) w wr) ∧ Hid (wr.ownsRow 0 143 2 (.slice sa l.length sc) l.length (l.flatMap scells)) ∧ Hid (HA wr H p) ∧ Hid (wr.ownsRow 0 3 1 (.slice ua us.length uc) us.length (us.map (Value.int .i64)))) (fun s _ => l.length - (intOf s).toNat)
  case atStart => exact ⟨0, S, ba, cap, bs, rfl, Nat.zero_le _, HOK.out.ok, rfl, HFT.out, HP.out.keep HB1.out, fun b hb => Or.inl hb, Off.of_below HB1.out, own_keep HRW.out HB1.out, HH.out.keep HB1.out, HU1.out⟩
  case round =>
    obtain ⟨i, S', ba', cap', bs', rfl, hil, HTO, HTL, HFT', HP', HFN, HOF, HRW', HHA, HUS⟩ := hrel
    have HTB := hide (HT.out.below (HB0.out.trans (HOF.out.below HFAR.out HB0.out.size)))
    have hbl : bs'.length ≤ 1000000000 := by
      have h1 := HP'.out.len
      have h2 := HFT'.out.len
      omega
    rcases Nat.lt_or_ge i l.length with hi | hi
    · have hiz : (i : Int) < (l.length : Int) := by omega
      obtain ⟨⟨num, t⟩, hx⟩ : ∃ x, l[i]? = some x := ⟨_, List.getElem?_eq_getElem hi⟩
      have hdr : l.drop i = (num, t) :: l.drop (i + 1) := by
        rw [List.drop_eq_getElem_cons hi]
        congr 1
        rw [List.getElem?_eq_getElem hi] at hx
        exact Option.some.inj hx
      rw [hdr] at HTO HTL
      have hnum := HN.out _ (List.mem_of_getElem? hx)
      obtain ⟨r1, r2⟩ := scells_at hx
      obtain ⟨g, cp, hv, hcap, _, d1⟩ := row_cell HRW'.out r1
      obtain ⟨g', cp', hv', _, _, d2⟩ := row_cell HRW'.out r2
      rw [hv] at hv'
      injection hv' with e1' e2' e3'
      clear e2' e3'
      have eg : g = g' := by injection e1' with e; injection e
      rw [← eg] at d2
      injection hv with e1 e2 e3
      clear e2
      subst e1
      subst e3
      clear e1' eg r1 r2 hdr hx
      have hs1 := Sits.new wr 143 #[.int .i64 num, .string t]
      have hb1 := below_new (w := wr) (.cells #[.int .i64 num, .string t] 143)
      have HS1 := hide hs1
      have HBA := hide hb1
      clear hs1 hb1
      simp only at d1 d2 hnum
      go_upto_region 5 with fail
      clear d1 d2
      have HOF1 := hide (HOF.out.trans (Off.of_below HBA.out))
      have HP1 := hide (HP'.out.keep HBA.out)
      have HR1 := hide (own_keep HRW'.out HBA.out)
      have HH1 := hide (HHA.out.keep HBA.out)
      have HU2 := hide (own_keep HUS.out HBA.out)
      have HT1 := hide (HTB.out.below HBA.out)
      obtain ⟨sb, hsb⟩ : ∃ sb, wr.heap.size = sb := ⟨_, rfl⟩
      rw [hsb] at HS1 ⊢
      have HZS := hide (show w.heap.size ≤ sb by rw [← hsb]; exact HOF.out.size)
      clear hsb HP' HRW' HHA HUS HTB HBA HOF
      generalize wr.alloc (.cells #[.int .i64 num, .string t] 143) = wr1 at *
      have C0 : ∀ q : Bw wr1, q.val.cell? ⟨sb, 0, none⟩ = some (.int .i64 num) := fun q => (Mem.Sits.below HS1.out q.is HS1.out.lt).cell 0 _ rfl
      have C1 : ∀ q : Bw wr1, q.val.cell? ⟨sb, 1, none⟩ = some (.string t) := fun q => (Mem.Sits.below HS1.out q.is HS1.out.lt).cell 1 _ rfl
      have C5 : ∀ q : Bw wr1, q.val.cell? ⟨p.hb, 5, none⟩ = some (.int .i64 H.es) := fun q => (HH1.out.keep q.is).head.cell 5 _ rfl
      have C6 : ∀ q : Bw wr1, q.val.cell? ⟨p.hb, 6, none⟩ = some (.int .i64 H.ez) := fun q => (HH1.out.keep q.is).head.cell 6 _ rfl
      refine region_pre 7 (by kernel_rfl) (by kernel_rfl) ?_
      simp only [List.take_succ_cons, List.take_zero, List.drop_succ_cons, List.drop_zero]
      repeat (first
        | go_big_quiet_skip
        | (go_big_quiet_want; go_big_quiet_op; go_big_quiet_on))
      refine wpQuiet_nil ?_
      intro q
      have HB4 := hide q.is
      clear C0 C1 C5 C6
      generalize q.val = w4 at *
      have hts := tidyS w4 (HT1.out.below HB4.out) bx ba' cap' bs' S' (HP1.out.keep HB4.out) HFT'.out.good hbl num t ua uc us (own_keep HU2.out HB4.out) hul HSO.out H.es H.ez hnum HTO.out.1
      go_wp2_with fail
      refine hts.mono ?_
      clear hts
      rintro e w5 ⟨rfl, ho5, ba5, cap5, bs5, hP5, hf5⟩
      have HPX := hide (HP1.out.keep HB4.out)
      have HR5 := hide (row_pd (own_keep HR1.out HB4.out) HPX.out ho5 (by decide) (by decide) (by decide))
      have HH5 := hide ((HH1.out.keep HB4.out).pd HPX.out ho5)
      have HU5 := hide (row_pd (own_keep HU2.out HB4.out) HPX.out ho5 (by decide) (by decide) (by decide))
      have HO5 := hide (off_trans (HOF1.out.trans (Off.of_below HB4.out)) HFN.out ho5)
      have HF5 := hide (show ∀ b ∈ pf bx ba5 bs5, b ∈ pf bx ba bs ∨ w.heap.size ≤ b from fun b hb => (hf5 b hb).elim (HFN.out b) fun e => Or.inr (Nat.le_trans (HOF1.out.trans (Off.of_below HB4.out)).size e))
      have HP5 := hide hP5
      have HT5 := hide (tid1_fit HFT'.out (num, t) us H.es H.ez)
      clear ho5 hP5 hf5
      go_wp2_with fail
      go_roundw
      case rel => exact ⟨i + 1, _, ba5, cap5, bs5, by go_num, by omega, HTO.out.2, HTL.out, HT5, HP5, HF5, HO5, HR5, HH5, HU5⟩
      case measure => simp only [intOf]; omega
    · have hiz : ¬ (i : Int) < (l.length : Int) := by omega
      have hdr : l.drop i = [] := List.drop_of_length_le hi
      rw [hdr] at HTL
      have HEL := hide (show S' = tidL us H.es H.ez l S from HTL.out)
      by_cases hue : us = []
      · subst hue
        have HTE := hide (show tidE [] H.es H.ez l S = S' by unfold tidE; rw [if_pos rfl]; exact HEL.out.symm)
        simp only [List.length_nil] at *
        go_wp2_with fail
        go_ret
        rw [HTE.out]
        exact ⟨rfl, HOF.out, ba', cap', bs', HP'.out, HFN.out⟩
      · obtain ⟨us', x, hux⟩ : ∃ us' x, us = us' ++ [x] := (List.eq_nil_or_concat us).elim (fun e => absurd e hue) fun ⟨a, b, e⟩ => ⟨a, b, by rw [e, List.concat_eq_append]⟩
        have hlast : us.getLast?.getD 0 = x := by rw [hux]; simp
        have HTE := hide (show tidE us H.es H.ez l S = (doSync S' x).1 by unfold tidE; rw [if_neg hue, hlast, HEL.out])
        have HSZ := hide (show (doSync S' x).2 = 0 by rw [HEL.out, ← hlast]; exact HOK.out.sync hue)
        have hul2 : us.length = us'.length + 1 := by rw [hux]; simp
        have hxr := HUR.out x (by rw [hux]; simp)
        obtain ⟨g, cp, hv, hcap, _, hcell⟩ := row_ints HUS.out (i := us'.length) (x := x) (by rw [hux]; exact List.getElem?_concat_length)
        injection hv with e1 _ e3
        subst e1
        subst e3
        rw [hul2] at hcap ⊢
        have hwr : IntKind.i64.wrap (us'.length : Int) = (us'.length : Int) := IntWalk.i64_in _ (by omega)
        have hab := about ⟨#[115, 121, 110, 99, 105, 110, 103]⟩ (by decide) x hxr.1 hxr.2 wr HTB.out
        clear hlast hue hux hdr
        go_wp2_with fail
        refine hab.mono ?_
        clear hab
        rintro e w5 ⟨rfl, hb5⟩
        generalize aboutB ⟨#[115, 121, 110, 99, 105, 110, 103]⟩ x = y
        have HB5 := hide hb5
        have hsy := sync bx ba' cap' bs' S' x w5 (HP'.out.keep hb5) HFT'.out.good hbl
        clear hb5
        go_wp2_with fail
        refine hsy.mono ?_
        clear hsy
        rintro e w6 ⟨rfl, ho6, hP6⟩
        rw [HSZ.out]
        have HO6 := hide (off_trans (G := pf bx ba' bs') (HOF.out.trans (Off.of_below HB5.out)) HFN.out (ho6.mono fun k _ hk => pf_sub hk))
        have HP6 := hide hP6
        have hdu := during y 0 w6
        clear ho6 hP6
        go_wp2_with fail
        refine hdu.mono ?_
        clear hdu
        rintro e w7 ⟨⟨v, rfl, hv⟩, hb7⟩
        have hv' : v = .nilIface := hv.elim (fun h => h.2) fun h => absurd rfl h.1
        subst hv'
        have HB7 := hide hb7
        clear hb7 hv
        go_wp2_with fail
        go_ret
        rw [HTE.out]
        exact ⟨rfl, HO6.out.trans (Off.of_below HB7.out), ba', cap', bs', HP6.out.keep HB7.out, HFN.out⟩
end Go.Proofs.YtmkidefdegaamaaGreatDoor.Jr
namespace Go.Proofs.YtmkidefdegaamaaGreatDoor.Jr
open Go.RowKit Go.Maps Mem Foot Bytes Im Wm Hi Plainw Cq Dm Dh Dd
/-- The journal that is opened. -/
def Jof (most : Int) (H : Hs) : Jn := ⟨most, H.sealed.map fun s => (s.1, s.2.2), H.osegs, H.ez.toNat, ⟨#[]⟩, H.es + 1, H.g⟩
/-- What is asked of a disk and what its records tell. -/
structure OpenOk (S : Dk) (ss : List (Int × List Rc)) (H : Hs) : Prop where
  is : hfold hs0 (ents ss) = H
  told : Told (sgs S) ss
  fit : AllFit hs0 (ents ss)
  len : (ents ss).length ≤ 900000000
  g : H.g ≤ 1000000000 ∧ -1 ≤ H.g
  es : H.es ≤ 1000000000000 ∧ -1 ≤ H.es
  ez : 0 ≤ H.ez ∧ H.ez ≤ 1000000000000
  nums : ∀ x ∈ sgs S, -9223372036854775808 ≤ x.1 ∧ x.1 ≤ 9223372036854775807
  ul : (husd H).length ≤ 1000000000
  ur : ∀ x ∈ husd H, -9223372036854775808 ≤ x ∧ x ≤ 9223372036854775807
  us : (husd H).Pairwise (· < ·)
  tid : TidFine (husd H) H.es H.ez (sgs S) S
  up : (H.sealed.map (·.1)).Pairwise (· < ·)
  sn : ∀ s ∈ H.sealed, 0 ≤ s.1 ∧ s.1 ≤ 1000000000
theorem put_end {β : Type} {k : Int} {b : β} : ∀ {l : List (Int × β)}, (∀ p ∈ l, p.1 < k) → put iLt k b l = l ++ [(k, b)] := by
  intro l h
  have hd : del k l = l := List.filter_eq_self.2 fun p hp => by
    have := h p hp
    simp
    omega
  unfold put
  rw [hd]
  clear hd
  induction l with
  | nil => rfl
  | cons x l ih =>
    have hx := h x (List.mem_cons_self ..)
    rw [ins, if_neg (by simp [iLt]; omega), ih fun p hp => h p (List.mem_cons_of_mem _ hp)]
    rfl
/-- The sealed windows as the journal's map has them. -/
def svOf (ws : List Wn) : Srs := ws.map fun x => (x.num, x.sg, x.ss)
theorem hend_is (H : Hs) : hend H = { H with onum := (hend H).onum } := by
  unfold hend
  split <;> rfl
structure OpenQ (w w' : World) (bx ba : Nat) (bs : List Nat) (S' : Dk) (most : Int) (H : Hs) (p : Hp) (jb mb : Nat) : Prop where
  ha : HA w' (hend H) p
  new : ∀ b ∈ p.blocks, w.heap.size ≤ b
  jw : JW w' jb bx mb (Jof most H) (svOf p.ws) p.sg
  pd : ∃ ba' cap' bs', PD w' bx S' ba' cap' bs' ∧ ∀ b ∈ pf bx ba' bs', b ∈ pf bx ba bs ∨ w.heap.size ≤ b
  off : Off (pf bx ba bs) w w'
  jb : w.heap.size ≤ jb
  mb : w.heap.size ≤ mb
set_option maxRecDepth 20000 in
set_option maxHeartbeats 4000000 in
theorem openR (w0 w : World) (hT : Tab w0) (hE : Ers w0) (h0 : Below w0.heap.size w0 w) (bx ba cap : Nat) (bs : List Nat) (S : Dk) (hP : PD w bx S ba cap bs) (hfar : ∀ b ∈ pf bx ba bs, w0.heap.size ≤ b) (hl : S.left = -1) (k u : Nat) (hF : Fit S k u) (hk : k ≤ 1000000000) (ss : List (Int × List Rc)) (H : Hs) (hok : OpenOk S ss H) (most : Int) :
    Calls Tryz.prog 23 #[.pointer (some ⟨bx, 0, none⟩), .int .i64 most] w fun e w' => ∃ jb mb p, e = .returned (.tuple #[.pointer (some ⟨jb, 0, none⟩), .agg #[p.sv, .int .i64 (hend H).onum, p.dv, p.sg], .nilIface]) ∧ OpenQ w w' bx ba bs (tidE (husd H) H.es H.ez (sgs S) S) most H p jb mb := by
  have hon := hend_is H
  obtain ⟨on, hone⟩ : ∃ on, (hend H).onum = on := ⟨_, rfl⟩
  rw [hone] at hon ⊢
  have HON := hide hon
  clear hon hone
  have hb1 := below_new (w := w) (.cells found0 62)
  have hf1 := Sits.new w 62 found0
  have hrs := segsR bx ba cap bs S (w.alloc (.cells found0 62)) (hP.keep hb1) hl hF.good (by have := hF.len; omega)
  have HB1 := hide hb1
  have HF1 := hide hf1
  have HP := hide hP
  have HT := hide hT
  have HE := hide hE
  have HB0 := hide h0
  have HFAR := hide hfar
  have HFT := hide hF
  have HOK := hide hok
  have hsl : (sgs S).length ≤ 1000000000 := by
    have := hF.len
    simp [sgs]
    omega
  clear hb1 hf1 hP hl hT hE h0 hfar hF hok
  unfold found0 at *
  go_enter Tryz.func23, Tryz.ntmps23
  go_wp2_with fail
  generalize w.alloc (.cells #[.slice none 0 0, .int .i64 0, .slice none 0 0, .slice none 0 0] 62) = w1 at *
  obtain ⟨fb, hfb⟩ : ∃ fb, w.heap.size = fb := ⟨_, rfl⟩
  rw [hfb] at HF1 ⊢
  have HFB := hide hfb
  clear hfb
  refine hrs.mono ?_
  clear hrs
  rintro e w2 ⟨sa, sc, rfl, hrow, hb2⟩
  have HRW := hide (own_base hrow (Nat.zero_le _))
  have HB2 := hide (HB1.out.trans (hb2.mono HB1.out.size))
  have HF2 := hide (Mem.Sits.below HF1.out hb2 HF1.out.lt)
  clear hb2 hrow
  have HB02 := hide (HB0.out.trans (HB2.out.mono HB0.out.size))
  have hhi := histR w2 (HT.out.below HB02.out) (HE.out.keep HB02.out) sa sc (sgs S) ss HRW.out HOK.out.told hsl HOK.out.fit HOK.out.len (by rw [HOK.out.is]; exact HOK.out.g)
  rw [HOK.out.is] at hhi
  go_wp2_with fail
  refine hhi.mono ?_
  clear hhi
  rintro e w3 ⟨p, rfl, hA, hnew, hb3⟩
  rw [HON.out] at hA
  have HA3 := hide hA
  have HNE := hide (show ∀ b ∈ p.blocks, w.heap.size ≤ b from fun b hb => Nat.le_trans HB2.out.size (hnew b hb))
  have HNF := hide (show ∀ b ∈ p.blocks, fb < b from fun b hb => Nat.lt_of_lt_of_le HF2.out.lt (hnew b hb))
  have HF3 := hide (Mem.Sits.below HF2.out hb3 HF2.out.lt)
  have HB3 := hide (HB2.out.trans (hb3.mono HB2.out.size))
  have HR3 := hide (own_keep HRW.out hb3)
  have HB03 := hide (HB0.out.trans (HB3.out.mono HB0.out.size))
  clear hA hnew hb3
  have hsn : H.sealed.length ≤ 1000000000 := by
    rw [← HOK.out.is]
    have h1 := (hlen (ents ss) hs0).1
    have h2 := HOK.out.len
    simp only [hs0, List.length_nil, Nat.zero_add] at h1 ⊢
    exact Nat.le_trans h1 (by omega)
  have hti := tidyR w0 w3 HT.out HB03.out bx ba cap bs S (HP.out.keep HB3.out) HFAR.out k u HFT.out hk (sgs S) sa sc HR3.out hsl HOK.out.nums { H with onum := on } p HA3.out hsn HOK.out.ul HOK.out.ur HOK.out.us HOK.out.tid
  go_wp2_with fail
  refine hti.mono ?_
  clear hti
  rintro e w4 ⟨rfl, ho4, ba4, cap4, bs4, hP4, hf4⟩
  have HP3 := hide (HP.out.keep HB3.out)
  have HA4 := hide (HA3.out.pd HP3.out ho4)
  have HF4 := hide (Foot.Sits.off HF3.out ho4 (PD.not HP3.out HF3.out (by decide) (by decide) (by decide)))
  have HO4 := hide ((Off.of_below HB3.out).trans ho4)
  have HP4 := hide (show PD w4 bx (tidE (husd H) H.es H.ez (sgs S) S) ba4 cap4 bs4 from hP4)
  have HPF := hide (show ∀ b ∈ pf bx ba4 bs4, b ∈ pf bx ba bs ∨ w.heap.size ≤ b from fun b hb => (hf4 b hb).imp id fun e => Nat.le_trans HB3.out.size e)
  have HFM4 := hide (Nat.lt_of_lt_of_le HF3.out.lt ho4.size)
  clear ho4 hP4 hf4
  obtain ⟨S4, hS4⟩ : ∃ S4, tidE (husd H) H.es H.ez (sgs S) S = S4 := ⟨_, rfl⟩
  rw [hS4] at HP4
  have HS4 := hide hS4
  clear hS4
  obtain ⟨hb, sv, ws, dv, sg⟩ := p
  obtain ⟨va, vc, hsv⟩ := own_shapeJ HA4.out.sv
  obtain ⟨da, dc, hdv⟩ := own_shapeJ HA4.out.dv
  obtain ⟨ga, gc, hsg⟩ := own_shapeJ HA4.out.sg
  simp only at hsv hdv hsg
  subst hsv
  subst hdv
  subst hsg
  have hmm := @run_makeMap Tryz.prog
  have hh4 := HA4.out.head
  have hh5 := hh4.alloc (.map #[] 0)
  simp only at hh4 hh5
  have c3 := hh4.cell 3 _ rfl
  have c4 := hh4.cell 4 _ rfl
  have c5 := hh4.cell 5 _ rfl
  have c6 := hh4.cell 6 _ rfl
  have d3 := hh5.cell 3 _ rfl
  have d4 := hh5.cell 4 _ rfl
  have d5 := hh5.cell 5 _ rfl
  have d6 := hh5.cell 6 _ rfl
  have hes := HOK.out.es
  have hwr : IntKind.i64.wrap (H.es + 1) = H.es + 1 := IntWalk.i64_in _ (by omega)
  clear hh4 hh5
  go_wp2_with fail
  go_region
  clear c3 c4 c5 c6 d3 d4 d5 d6 hmm hwr
  have hb5 : Below w4.heap.size w4 ((w4.alloc (.map #[] 0)).alloc (.cells #[.pointer (some ⟨bx, 0, none⟩), .int .i64 most, .map (some w4.heap.size), .slice ga H.osegs.length gc, .int .i64 H.ez, .string ⟨#[]⟩, .int .i64 (H.es + 1), .int .i64 H.g] 103)).drew := below_drewN' (n := 1) ((below_new _).alloc (by simp) _)
  have hj5 := Sits.new (w4.alloc (.map #[] 0)) 103 #[.pointer (some ⟨bx, 0, none⟩), .int .i64 most, .map (some w4.heap.size), .slice ga H.osegs.length gc, .int .i64 H.ez, .string ⟨#[]⟩, .int .i64 (H.es + 1), .int .i64 H.g]
  rw [World.size_alloc] at hj5
  have HJ5 := hide (show Sits ((w4.alloc (.map #[] 0)).alloc (.cells #[.pointer (some ⟨bx, 0, none⟩), .int .i64 most, .map (some w4.heap.size), .slice ga H.osegs.length gc, .int .i64 H.ez, .string ⟨#[]⟩, .int .i64 (H.es + 1), .int .i64 H.g] 103)).drew (w4.heap.size + 1) _ _ from hj5)
  have HM5 := hide (show ((w4.alloc (.map #[] 0)).alloc (.cells #[.pointer (some ⟨bx, 0, none⟩), .int .i64 most, .map (some w4.heap.size), .slice ga H.osegs.length gc, .int .i64 H.ez, .string ⟨#[]⟩, .int .i64 (H.es + 1), .int .i64 H.g] 103)).drew.ownsMap Tryz.prog 3 (exE okS) w4.heap.size 0 (sD []) from
    own_at (made_map w4) (Below.heap_alloc _ _ _ (by simp)))
  have HB5 := hide hb5
  have HA5 := hide (HA4.out.keep hb5)
  have HF5 := hide (Mem.Sits.below HF4.out hb5 HF4.out.lt)
  have HP5 := hide (HP4.out.keep hb5)
  have HO5 := hide (HO4.out.trans (Off.of_below hb5))
  clear hj5 hb5 HA4 HF4 HP4 HA3 HP3 HR3
  generalize ((w4.alloc (.map #[] 0)).alloc (.cells #[.pointer (some ⟨bx, 0, none⟩), .int .i64 most, .map (some w4.heap.size), .slice ga H.osegs.length gc, .int .i64 H.ez, .string ⟨#[]⟩, .int .i64 (H.es + 1), .int .i64 H.g] 103)).drew = w5 at *
  obtain ⟨mb, hmb⟩ : ∃ mb, w4.heap.size = mb := ⟨_, rfl⟩
  rw [hmb] at HJ5 HM5 ⊢
  have HMB := hide (show w.heap.size ≤ mb by rw [← hmb]; exact HO4.out.size)
  have HFM := hide (show fb < mb by rw [← hmb]; exact HFM4.out)
  clear hmb
  have c0 := HA5.out.head.cell 0 _ rfl
  simp only at c0
  go_wp2_with fail
  clear c0
  have HWL := hide (show ws.length = H.sealed.length by rw [← show ws.map Wn.is = H.sealed from HA5.out.is, List.length_map])
  have HWN := hide (show ∀ x ∈ ws, 0 ≤ x.num ∧ x.num ≤ 1000000000 from fun x hx => HOK.out.sn x.is (by rw [← show ws.map Wn.is = H.sealed from HA5.out.is]; exact List.mem_map_of_mem hx))
  have HWU := hide (show (ws.map (·.num)).Pairwise (· < ·) by
    have h1 := HOK.out.up
    rw [← show ws.map Wn.is = H.sealed from HA5.out.is, List.map_map] at h1
    exact h1)
  have HNM := hide (show ∀ wr : World, Off [mb] w5 wr → HA wr { H with onum := on } ⟨hb, .slice va H.sealed.length vc, ws, .slice da H.odgs.length dc, .slice ga H.osegs.length gc⟩ from fun wr ho => HA5.out.off ho fun k hk e => by
    obtain ⟨t, cs, hs, _⟩ := HA5.out.cells hk
    exact map_ne HM5.out hs (List.mem_singleton.1 e).symm)
  have HJM := hide (show ∀ wr : World, Off [mb] w5 wr → Sits wr (mb + 1) 103 #[.pointer (some ⟨bx, 0, none⟩), .int .i64 most, .map (some mb), .slice ga H.osegs.length gc, .int .i64 H.ez, .string ⟨#[]⟩, .int .i64 (H.es + 1), .int .i64 H.g] from fun wr ho => Foot.Sits.off HJ5.out ho (by simp))
  go_loopw [65] (fun s wr => ∃ i : Nat, s = .int .i64 (i : Int) ∧ i ≤ H.sealed.length ∧ Hid (wr.ownsMap Tryz.prog 3 (exE okS) mb i (sD ((svOf ws).take i))) ∧ Hid (Off [mb] w5 wr)) (fun s _ => H.sealed.length - (intOf s).toNat)
  case atStart => exact ⟨0, rfl, Nat.zero_le _, HM5.out, Off.refl _ _⟩
  case round =>
    obtain ⟨i, rfl, hil, HMR, HOR⟩ := hrel
    have HAR := hide (HNM.out _ HOR.out)
    by_cases hi : i < H.sealed.length
    · have hiz : (i : Int) < (H.sealed.length : Int) := by omega
      obtain ⟨x, hx⟩ : ∃ x, ws[i]? = some x := ⟨_, List.getElem?_eq_getElem (by rw [HWL.out]; exact hi)⟩
      obtain ⟨r0, r1, r2⟩ := wcells_at hx
      obtain ⟨g, cap', hv, hcap, ⟨cs, hsg⟩, d0⟩ := row_cell HAR.out.sv r0
      obtain ⟨g1, cap1, hv1, _, _, d1⟩ := row_cell HAR.out.sv r1
      obtain ⟨g2, cap2, hv2, _, _, d2⟩ := row_cell HAR.out.sv r2
      simp only at hv hv1 hv2
      rw [hv1] at hv2
      rw [hv] at hv1
      injection hv with e1 e2 e3
      injection hv1 with e4 e4a e4b
      injection hv2 with e5 e5a e5b
      have eg1 : g = g1 := by injection e4 with e; injection e
      have eg2 : g1 = g2 := by injection e5 with e; injection e
      subst eg2
      subst eg1
      clear e4 e5 e4a e4b e5a e5b e2
      subst e1
      subst e3
      have hxm := List.mem_of_getElem? hx
      have hxr := HWN.out x hxm
      obtain ⟨xd, xdc, hdv⟩ := own_shapeJ (HAR.out.ws x hxm).d
      obtain ⟨xa, xc, hxs⟩ := own_shapeJ (HAR.out.ws x hxm).s
      rw [hdv] at d1
      rw [hxs] at d2
      have HKEY := hide (Maps.keyOf_int_mk (P := Tryz.prog) (k := 3) Tryz.underlying3 (wf_int (n := x.num) (by omega) (by omega)))
      have HTK := hide (show put iLt x.num (.slice xa x.ss.length xc, x.ss) ((svOf ws).take i) = (svOf ws).take (i + 1) by
        have h1 : (svOf ws)[i]? = some (x.num, .slice xa x.ss.length xc, x.ss) := by
          unfold svOf
          rw [List.getElem?_map, hx, ← hxs]
          rfl
        rw [List.take_add_one, h1]
        refine put_end fun q hq => ?_
        obtain ⟨j, hj, he⟩ := List.mem_iff_getElem.1 hq
        rw [List.length_take] at hj
        have hjw : j < ws.length := by
          have : (svOf ws).length = ws.length := by simp [svOf]
          omega
        have hji : j < i := by omega
        have hxi : ws[i]'(by rw [HWL.out]; exact hi) = x := by
          rw [List.getElem?_eq_getElem (by rw [HWL.out]; exact hi)] at hx
          exact Option.some.inj hx
        have h2 := List.pairwise_iff_getElem.1 HWU.out j i (by simpa using hjw) (by rw [List.length_map, HWL.out]; exact hi) hji
        rw [List.getElem_map, List.getElem_map, hxi] at h2
        rw [← he, List.getElem_take]
        unfold svOf
        rw [List.getElem_map]
        exact h2)
      clear hx r0 r1 r2 hsg hxs hdv
      have hs1 := Sits.new wr 60 #[.int .i64 x.num, .slice xd x.ds.length xdc, .slice xa x.ss.length xc]
      have hb1 := below_new (w := wr) (.cells #[.int .i64 x.num, .slice xd x.ds.length xdc, .slice xa x.ss.length xc] 60)
      have HS1 := hide hs1
      have HBA := hide hb1
      clear hs1 hb1
      go_upto_region 12 with fail
      clear d0 d1 d2
      have HO1 := hide (HOR.out.trans (Off.of_below HBA.out))
      have HM1 := hide (map_off HMR.out (Off.of_below (F := []) HBA.out) (by simp))
      obtain ⟨xb, hxb⟩ : ∃ xb, wr.heap.size = xb := ⟨_, rfl⟩
      rw [hxb] at HS1 ⊢
      clear hxb HAR HMR HOR HBA
      generalize wr.alloc (.cells #[.int .i64 x.num, .slice xd x.ds.length xdc, .slice xa x.ss.length xc] 60) = wr1 at *
      have HJ1 := hide (HJM.out _ HO1.out)
      have C0 : ∀ q : Bw wr1, q.val.cell? ⟨xb, 0, none⟩ = some (.int .i64 x.num) := fun q => (Mem.Sits.below HS1.out q.is HS1.out.lt).cell 0 _ rfl
      have C2 : ∀ q : Bw wr1, q.val.cell? ⟨xb, 2, none⟩ = some (.slice xa x.ss.length xc) := fun q => (Mem.Sits.below HS1.out q.is HS1.out.lt).cell 2 _ rfl
      have CJ : ∀ q : Bw wr1, q.val.cell? ⟨mb + 1, 2, none⟩ = some (.map (some mb)) := fun q => (Mem.Sits.below HJ1.out q.is HJ1.out.lt).cell 2 _ rfl
      refine region_pre 8 (by kernel_rfl) (by kernel_rfl) ?_
      simp only [List.take_succ_cons, List.take_zero, List.drop_succ_cons, List.drop_zero]
      repeat (first
        | go_big_quiet_skip
        | (go_big_quiet_want; go_big_quiet_op; go_big_quiet_on))
      refine wpQuiet_nil ?_
      intro q
      have HB4 := hide q.is
      have HM4 := hide (map_off HM1.out (Off.of_below (F := []) q.is) (by simp))
      clear C0 C2 CJ
      generalize q.val = w7 at *
      obtain ⟨w8, hu8, ho8, hg8⟩ := HM4.out.update (t := 97) (val := .slice xa x.ss.length xc) (int_keyed Tryz.underlying3) Tryz.underlying97 (Nat.lt_of_le_of_lt (show i ≤ 1000000000 by omega) (by decide)) HKEY.out (exE_mk (ok := okS) rfl)
      rw [show (sD ((svOf ws).take i)).put (Lit.int .i64 x.num) (.held (.slice xa x.ss.length xc)) = sD (put iLt x.num (.slice xa x.ss.length xc, x.ss) ((svOf ws).take i)) from mp_put (f := fun p : Value × List Int => p.1) iLit_same iLit_before x.num ((Value.slice xa x.ss.length xc, x.ss) : Value × List Int) ((svOf ws).take i), HTK.out] at ho8
      have HM8 := hide ho8
      have HO8 := hide ((HO1.out.trans (Off.of_below HB4.out)).trans (row_off hg8))
      clear ho8 hg8
      go_wp2_with fail
      go_roundw
      case rel =>
        refine ⟨i + 1, by go_num, by omega, ?_, HO8⟩
        have h1 := own_tight HM8.out
        rw [show Maps.size (sD ((svOf ws).take (i + 1))) = i + 1 from (mp_size _).trans (by
          have h2 : (svOf ws).length = ws.length := by simp [svOf]
          have h3 := HWL.out
          rw [List.length_take]
          omega)] at h1
        exact h1
      case measure => simp only [intOf]; omega
    · have hiz : ¬ (i : Int) < (H.sealed.length : Int) := by omega
      have hie : i = H.sealed.length := by omega
      have hsl2 : (svOf ws).length = H.sealed.length := by rw [← HWL.out]; simp [svOf]
      have HMF := hide (show wr.ownsMap Tryz.prog 3 (exE okS) mb (svOf ws).length (sD (svOf ws)) by
        have h1 := HMR.out
        rw [hie, ← hsl2, List.take_length] at h1
        exact h1)
      have HFR := hide (Foot.Sits.off HF5.out HOR.out (by have := HFM.out; simp; omega))
      clear hie hsl2 HMR
      have C : ∀ s : Bw wr, s.val.cell? ⟨hb, 0, none⟩ = some (.slice va H.sealed.length vc) ∧ s.val.cell? ⟨hb, 1, none⟩ = some (.int .i64 on) ∧ s.val.cell? ⟨hb, 2, none⟩ = some (.slice da H.odgs.length dc) ∧ s.val.cell? ⟨hb, 3, none⟩ = some (.slice ga H.osegs.length gc) := fun s => by
        have h := (HAR.out.keep s.is).head
        exact ⟨h.cell 0 _ rfl, h.cell 1 _ rfl, h.cell 2 _ rfl, h.cell 3 _ rfl⟩
      have C0 := fun s => (C s).1
      have C1 := fun s => (C s).2.1
      have C2 := fun s => (C s).2.2.1
      have C3 := fun s => (C s).2.2.2
      clear C
      go_wp2_with fail
      refine region_pre 6 (by kernel_rfl) (by kernel_rfl) ?_
      simp only [List.take_succ_cons, List.take_zero, List.drop_succ_cons, List.drop_zero]
      repeat (first
        | go_big_quiet_skip
        | (go_big_quiet_want; go_big_quiet_op; go_big_quiet_on))
      refine wpQuiet_nil ?_
      intro s
      have HB6 := hide s.is
      have HF6 := hide (Mem.Sits.below HFR.out s.is HFR.out.lt)
      clear C0 C1 C2 C3
      generalize s.val = w6 at *
      have h0 := HF6.out
      have d0 := h0.cell 0 _ rfl
      have f0 := h0.frozen 0
      have h1 := h0.set 0 (.slice va H.sealed.length vc)
      have d1 := h1.cell 1 _ rfl
      have f1 := h1.frozen 1
      have h2 := h1.set 1 (.int .i64 on)
      have d2 := h2.cell 2 _ rfl
      have f2 := h2.frozen 2
      have h3 := h2.set 2 (.slice da H.odgs.length dc)
      have d3 := h3.cell 3 _ rfl
      have f3 := h3.frozen 3
      have HF7 := hide (h3.set 3 (.slice ga H.osegs.length gc))
      clear h0 h1 h2 h3
      go_wp2_with fail
      have hso : Off [fb] w6 ((((w6.setCell ⟨fb, 0, none⟩ (.slice va H.sealed.length vc)).setCell ⟨fb, 1, none⟩ (.int .i64 on)).setCell ⟨fb, 2, none⟩ (.slice da H.odgs.length dc)).setCell ⟨fb, 3, none⟩ (.slice ga H.osegs.length gc)) := ((((Off.refl _ _).set (List.mem_singleton.2 rfl) _ _).set (List.mem_singleton.2 rfl) _ _).set (List.mem_singleton.2 rfl) _ _).set (List.mem_singleton.2 rfl) _ _
      have hf7 := HF7.out
      clear HF7 d0 d1 d2 d3 f0 f1 f2 f3
      generalize (((w6.setCell ⟨fb, 0, none⟩ (.slice va H.sealed.length vc)).setCell ⟨fb, 1, none⟩ (.int .i64 on)).setCell ⟨fb, 2, none⟩ (.slice da H.odgs.length dc)).setCell ⟨fb, 3, none⟩ (.slice ga H.osegs.length gc) = w7 at *
      have hfm := HFM.out
      have hA7 := (HAR.out.keep HB6.out).off hso fun k hk e => by
        have := HNF.out k hk
        rw [List.mem_singleton.1 e] at this
        exact absurd this (Nat.lt_irrefl _)
      have hj7 := Foot.Sits.off (Mem.Sits.below (HJM.out _ HOR.out) HB6.out (HJM.out _ HOR.out).lt) hso (by simp; omega)
      have hm7 := map_off (map_off HMF.out (Off.of_below (F := []) HB6.out) (by simp)) hso (by simp; omega)
      have ho7 : Off [mb, fb] w5 w7 := ((HOR.out.mono fun k _ hk => by rw [List.mem_singleton.1 hk]; simp).trans (Off.of_below HB6.out)).trans (hso.mono fun k _ hk => by rw [List.mem_singleton.1 hk]; simp)
      have hfb : w.heap.size ≤ fb := Nat.le_of_eq HFB.out
      have hof := off_trans HO5.out (G := [mb, fb]) (fun b hb' => by
        simp only [List.mem_cons, List.not_mem_nil, or_false] at hb'
        rcases hb' with rfl | rfl
        · exact Or.inr HMB.out
        · exact Or.inr hfb) ho7
      have hp7 : PD w7 bx S4 ba4 cap4 bs4 := pd_off HP5.out ho7 fun k hk e => by
        obtain ⟨t, cs, hs⟩ := pd_cells HP5.out hk
        simp only [List.mem_cons, List.not_mem_nil, or_false] at e
        rcases e with rfl | rfl
        · exact map_ne HM5.out hs rfl
        · exact PD.not HP5.out HF5.out (by decide) (by decide) (by decide) hk
      have hez : ((H.ez.toNat : Nat) : Int) = H.ez := Int.toNat_of_nonneg HOK.out.ez.1
      refine bodyPost_ret (results_tct rfl _ _ ⟨fb, 0, none⟩ (.agg #[.slice va H.sealed.length vc, .int .i64 on, .slice da H.odgs.length dc, .slice ga H.osegs.length gc]) rfl (run_loadVar_row w7 fb 62 62 _ (0, 0) _ hf7 Tryz.underlying62 rfl (by kernel_rfl))) rfl ?_
      refine ⟨mb + 1, mb, ⟨hb, .slice va H.sealed.length vc, ws, .slice da H.odgs.length dc, .slice ga H.osegs.length gc⟩, rfl, ⟨by rw [HON.out]; exact hA7, HNE.out, ⟨⟨?_, hA7.sg⟩, ⟨hm7, ?_, fun q hq => ?_⟩, ?_, fun k hk e => ?_⟩, ⟨ba4, cap4, bs4, by rw [HS4.out]; exact hp7, HPF.out⟩, hof, Nat.le_succ_of_le HMB.out, HMB.out⟩⟩
      · show Sits w7 (mb + 1) _ #[_, _, _, _, .int .i64 ((H.ez.toNat : Nat) : Int), _, _, _]
        rw [hez]
        exact hj7
      · exact List.pairwise_map.2 ((List.pairwise_map.1 HWU.out).imp fun h => by simpa [iLt] using h)
      · obtain ⟨x, hx, rfl⟩ := List.mem_map.1 hq
        exact (hA7.ws x hx).s
      · show H.sealed.map _ = _
        rw [← show ws.map Wn.is = H.sealed from hA7.is]
        simp [svOf, Wn.is]
      · refine hA7.apart k (List.mem_append_right _ e) ?_
        obtain ⟨q, hq, hk⟩ := List.mem_flatMap.1 hk
        obtain ⟨x, hx, rfl⟩ := List.mem_map.1 hq
        exact List.mem_flatMap.2 ⟨x, hx, List.mem_append_right _ hk⟩
end Go.Proofs.YtmkidefdegaamaaGreatDoor.Jr
namespace Go.Proofs.YtmkidefdegaamaaGreatDoor.Jr
open Bytes Im Dm
theorem fit_s {H : Hs} {t : ByteArray} (hb : H.odgs ≠ []) : hfit H ⟨115, H.onum, t⟩ = true := by
  have h1 : 0 < H.odgs.length := List.length_pos_iff.2 hb
  unfold hfit hfits
  rw [if_neg (show ¬ (⟨#[(115 : UInt8)]⟩ : ByteArray) = ⟨#[100]⟩ by decide), if_pos rfl]
  simp [h1]
/-- A window sealed. -/
theorem Kd.seal {J : Jn} {S : Dk} {R : List (Int × List Rc)} {b : List Rc} {H : Hs} (h : Kd J S R b H) (hne : J.opn ≠ []) (hod : H.odgs ≠ []) (h0 : 0 ≤ H.onum ∧ H.onum ≤ 1000000000) (hlt : ∀ p ∈ J.sealed, p.1 < H.onum) :
    ∃ J' S' R' H', jseal J S H.onum = (J', S', 0) ∧ Kd J' S' R' [] H' ∧ H'.sealed = H.sealed ++ [(H.onum, H.odgs, J.opn)] ∧ H'.odgs = [] ∧ H'.onum = 0 ∧ H'.g = H.onum ∧ (∃ x, ents R' = ents R ++ x) ∧ J'.opn = [] ∧ J'.greatest = H.onum := by
  have hnk : H.onum ∉ J.sealed.map (·.1) := fun hm => by
    obtain ⟨p, hp, e⟩ := List.mem_map.1 hm
    have := hlt p hp
    omega
  obtain ⟨S1, R0, rs, hR, hj1, hk1⟩ := h.seg.add hne ⟨115, H.onum, ⟨#[]⟩⟩
  have htx : (⟨115, H.onum, ⟨#[]⟩⟩ : Rc).tx = wrec [115] H.onum [] := rfl
  rw [htx] at hj1 hk1
  obtain ⟨J2, S2, hj2, hk2, e1, e2, e3, e4, e5⟩ := hk1.sync
  obtain ⟨J', S', hjs, hc, _, f1, f2, f3, _⟩ := h.seg.calm.seal hne hnk
  have hS : J' = { J2 with sealed := put iLt H.onum J.opn J.sealed, opn := [], greatest := H.onum } ∧ S' = S2 := by
    unfold jseal at hjs
    rw [hj1, if_neg (by simp)] at hjs
    simp only at hjs
    rw [hj2, if_neg (by simp)] at hjs
    injection hjs with a1 a2
    injection a2 with a2 _
    exact ⟨a1.symm, a2.symm⟩
  have he := ents_add R0 (jlast J) rs ⟨115, H.onum, ⟨#[]⟩⟩
  rw [← hR] at he
  have hos : hent (jlast J) H.osegs = J.opn := by
    rw [hent_last (by rw [h.opn]; exact jlast_is hne), h.opn]
  have hcl : Cl H ((jlast J, (stx rs).length + (⟨115, H.onum, ⟨#[]⟩⟩ : Rc).tx.length), ⟨115, H.onum, ⟨#[]⟩⟩) := ⟨fit_s hod, ⟨Or.inr (Or.inl rfl), h0.1, h0.2, by show (0 : Nat) ≤ 1000000; omega⟩, fun e => absurd e (show ¬ (115 : UInt8) = 98 by decide), h.last_own hne, fun e => absurd (h.opn.symm.trans e) hne⟩
  have hH : hnext H ((jlast J, (stx rs).length + (⟨115, H.onum, ⟨#[]⟩⟩ : Rc).tx.length), ⟨115, H.onum, ⟨#[]⟩⟩) = ⟨H.sealed ++ [(H.onum, H.odgs, J.opn)], 0, [], [], H.onum, jlast J, (((stx rs).length + (⟨115, H.onum, ⟨#[]⟩⟩ : Rc).tx.length : Nat) : Int)⟩ := by
    unfold hnext htk
    rw [if_neg (show ¬ (115 : UInt8) = 98 by decide), if_pos rfl]
    simp only
    rw [hos]
  refine ⟨J', S', R0 ++ [(jlast J, rs ++ [⟨115, H.onum, ⟨#[]⟩⟩])], ⟨H.sealed ++ [(H.onum, H.odgs, J.opn)], 0, [], [], H.onum, jlast J, (((stx rs).length + (⟨115, H.onum, ⟨#[]⟩⟩ : Rc).tx.length : Nat) : Int)⟩, hjs, ⟨⟨hc, ?_, fun s hs _ => ?_, fun e => absurd f2 e, fun e => absurd f2 e, fun _ => rfl⟩, fun p hp => ?_, by rw [he, hfold_append, h.is]; exact hH, ?_, f2.symm, f3.symm, ?_⟩, rfl, rfl, rfl, rfl, ⟨_, he⟩, f2, f3⟩
  · rw [hS.2]
    exact hk2.segs
  · rw [hS.2] at hs
    exact hk2.full s hs
  · rcases List.mem_append.1 hp with hp | hp
    · exact h.ne p (by rw [hR]; exact List.mem_append_left _ hp)
    · rw [List.mem_singleton.1 hp]
      simp
  · rw [he, allCl_append, h.is]
    exact ⟨h.cl, hcl, trivial⟩
  · rw [f1, put_end hlt, List.map_append, h.sealed]
    rfl
/-- A journal that has nothing yet. -/
theorem Kd.new {J : Jn} {S : Dk} (hc : Jcalm J S) (hs : S.segs = []) (ho : J.opn = []) (hl : J.sealed = []) (hg : J.greatest = -1) : Kd J S [] [] hs0 :=
  ⟨⟨hc, by rw [hs]; rfl, fun s h => (by rw [hs] at h; cases h), fun e => absurd ho e, fun e => absurd ho e, fun _ => rfl⟩, fun p hp => (by cases hp), rfl, trivial, ho.symm, hg.symm, hl.symm⟩
end Go.Proofs.YtmkidefdegaamaaGreatDoor.Jr
namespace Go.Proofs.YtmkidefdegaamaaGreatDoor.Jr
open Bytes Im Dm
theorem end_rest (n : Int) : ∀ (rs : List Rc) (z : Nat) (h : Hs), rs ≠ [] → (hfold h (ents1 n z rs)).es = n ∧ (hfold h (ents1 n z rs)).ez = ((z + (stx rs).length : Nat) : Int)
  | [], _, _, hne => absurd rfl hne
  | [r], z, h, _ => by
    refine ⟨rfl, ?_⟩
    show ((z + r.tx.length : Nat) : Int) = _
    rw [show stx [r] = r.tx from List.append_nil _]
  | r :: q :: rs, z, h, _ => by
    have h1 := end_rest n (q :: rs) (z + r.tx.length) (hnext h ((n, z + r.tx.length), r)) (by simp)
    refine ⟨h1.1, h1.2.trans ?_⟩
    rw [show stx (r :: q :: rs) = r.tx ++ stx (q :: rs) from rfl, List.length_append, Nat.add_assoc]
/-- Where the last record ends. -/
theorem end_all (R0 : List (Int × List Rc)) (n : Int) (rs : List Rc) (hne : rs ≠ []) : (hfold hs0 (ents (R0 ++ [(n, rs)]))).es = n ∧ (hfold hs0 (ents (R0 ++ [(n, rs)]))).ez = ((stx rs).length : Int) := by
  rw [ents_new, hfold_append]
  have h := end_rest n rs 0 (hfold hs0 (ents R0)) hne
  rw [Nat.zero_add] at h
  exact h
theorem tid_skip {us : List Int} {es ez : Int} : ∀ (l : List (Int × ByteArray)) (S : Dk), (∀ x ∈ l, x.1 ∈ us ∧ ¬ (x.1 = es ∧ ez < (x.2.size : Int))) → tidL us es ez l S = S ∧ TidOk us es ez l S
  | [], _, _ => ⟨rfl, trivial⟩
  | x :: l, S, h => by
    obtain ⟨h1, h2⟩ := h x (List.mem_cons_self ..)
    have h3 : tid1 S x us es ez = (S, 0) := by
      unfold tid1
      rw [if_neg (fun e => e h1), if_neg h2]
    have h4 := tid_skip l S fun q hq => h q (List.mem_cons_of_mem _ hq)
    unfold tidL TidOk
    rw [h3]
    exact ⟨h4.1, rfl, h4.2⟩
/-- A sync where all is synced. -/
theorem sync_all {S : Dk} (hl : S.left = -1) (hg : Dm.Good S) (hf : ∀ s ∈ S.segs, s.syn = s.text.size) {s : Seg} (hs : s ∈ S.segs) : doSync S s.num = (S, 0) := by
  rw [dsync_calm hl hg hs]
  have h1 : turn s.num (fun s => { s with syn := s.text.size }) S.segs = S.segs := by
    unfold turn
    conv => rhs; rw [← List.map_id S.segs]
    refine List.map_congr_left fun q hq => ?_
    have := hf q hq
    split
    · cases q
      simp only at this
      simp [this]
    · rfl
  rw [h1]
end Go.Proofs.YtmkidefdegaamaaGreatDoor.Jr
namespace Go.Proofs.YtmkidefdegaamaaGreatDoor.Jr
open Bytes Im Dm
def txs (R : List (Int × List Rc)) : List (Int × Bs) := R.map fun p => (p.1, stx p.2)
/-- No segment has more than its records where all are whole. -/
theorem no_more {R : List (Int × List Rc)} (hne : ∀ p ∈ R, p.2 ≠ []) (hr : R.Pairwise fun p q => p.1 < q.1) {l : List Seg} (hv : l.map view = txs R) : ∀ s ∈ l, ¬ (s.num = (hfold hs0 (ents R)).es ∧ (hfold hs0 (ents R)).ez < (s.text.size : Int)) := fun s hs ⟨h1, h2⟩ => by
  have hm : view s ∈ txs R := by rw [← hv]; exact List.mem_map_of_mem hs
  rcases List.eq_nil_or_concat R with rfl | ⟨R', p, e⟩
  · cases hm
  · rw [List.concat_eq_append] at e
    obtain ⟨m, ms⟩ := p
    subst e
    have he := end_all R' m ms (hne (m, ms) (by simp))
    rw [he.1] at h1
    rw [he.2] at h2
    obtain ⟨q, hq, hqe⟩ := List.mem_map.1 hm
    unfold view at hqe
    injection hqe with q1 q2
    rcases List.mem_append.1 hq with hq | hq
    · rw [List.pairwise_append] at hr
      have h3 := hr.2.2 q hq (m, ms) (List.mem_singleton.2 rfl)
      simp only at h3
      omega
    · rw [List.mem_singleton.1 hq] at q2
      simp only at q2
      rw [size_B, ← q2] at h2
      omega
structure Tidied (S' : Dk) (R : List (Int × List Rc)) : Prop where
  left : S'.left = -1
  room : S'.room = -1
  good : Dm.Good S'
  full : ∀ s ∈ S'.segs, s.syn = s.text.size
  view : S'.segs.map view = txs R
end Go.Proofs.YtmkidefdegaamaaGreatDoor.Jr
namespace Go.Proofs.YtmkidefdegaamaaGreatDoor.Jr
open Bytes Im Dm
theorem Tidied.kd {S : Dk} {R : List (Int × List Rc)} (h : Tidied S R) (hne : ∀ p ∈ R, p.2 ≠ []) (hcl : AllCl hs0 (ents R)) (hp : R.Pairwise fun p q => p.1 < q.1) (most : Int) : Kd (Jof most (hfold hs0 (ents R))) S R [] (hfold hs0 (ents R)) := by
  have hus : husd (hfold hs0 (ents R)) = R.map (·.1) := by
    have h1 := husd_all R hs0 hne hcl hp (fun _ _ z hz => by simp [husd, hs0] at hz)
    rw [h1]
    rfl
  have hnum : S.segs.map (·.num) = R.map (·.1) := by
    have h1 := congrArg (List.map Prod.fst) h.view
    unfold txs at h1
    rw [List.map_map, List.map_map] at h1
    exact h1
  have hsl : (Jof most (hfold hs0 (ents R))).sealed.flatMap (·.2) ++ (Jof most (hfold hs0 (ents R))).opn = R.map (·.1) := by
    rw [← hus]
    unfold husd Jof
    simp only
    rw [List.flatMap_map]
  have hlst : ∀ (R' : List (Int × List Rc)) (m : Int) (ms : List Rc), R = R' ++ [(m, ms)] → (Jof most (hfold hs0 (ents R))).next = m + 1 ∧ (Jof most (hfold hs0 (ents R))).synced = (stx ms).length := fun R' m ms e => by
    have he := end_all R' m ms (hne (m, ms) (by rw [e]; simp))
    rw [← e] at he
    constructor
    · show (hfold hs0 (ents R)).es + 1 = _
      rw [he.1]
    · show (hfold hs0 (ents R)).ez.toNat = _
      rw [he.2]
      exact Int.toNat_natCast _
  have hsplit : R = [] ∨ ∃ R' m ms, R = R' ++ [(m, ms)] := (List.eq_nil_or_concat R).imp id fun ⟨R', p, e⟩ => ⟨R', p.1, p.2, by rw [e, List.concat_eq_append]⟩
  have hjl : (Jof most (hfold hs0 (ents R))).opn ≠ [] → ∀ R' m ms, R = R' ++ [(m, ms)] → jlast (Jof most (hfold hs0 (ents R))) = m := fun ho R' m ms e => by
    obtain ⟨o, z, hoz⟩ : ∃ o z, (Jof most (hfold hs0 (ents R))).opn = o ++ [z] := (List.eq_nil_or_concat _).elim (fun e => absurd e ho) fun ⟨o, z, e⟩ => ⟨o, z, by rw [e, List.concat_eq_append]⟩
    rw [jlast_snoc hoz]
    have h1 := hsl
    rw [hoz, e, List.map_append, ← List.append_assoc] at h1
    have := (List.append_inj' h1 rfl).2
    simpa using this
  have hR : (Jof most (hfold hs0 (ents R))).opn ≠ [] → ∃ R' m ms, R = R' ++ [(m, ms)] := fun ho => hsplit.elim (fun e => by
    rw [e] at hsl
    have h1 := List.append_eq_nil_iff.1 hsl
    rw [← e] at h1
    exact absurd h1.2 ho) id
  have hseg : ∀ (R' : List (Int × List Rc)) (m : Int) (ms : List Rc), R = R' ++ [(m, ms)] → ∃ s ∈ S.segs, s.num = m ∧ s.text.size = (stx ms).length := fun R' m ms e => by
    have h1 : (m, stx ms) ∈ S.segs.map Jr.view := by
      rw [h.view, e]
      unfold txs
      simp
    obtain ⟨s, hs, hse⟩ := List.mem_map.1 h1
    unfold Jr.view at hse
    injection hse with q1 q2
    exact ⟨s, hs, q1, by rw [size_B, q2]⟩
  have huniq : ∀ {s q : Seg}, s ∈ S.segs → q ∈ S.segs → s.num = q.num → s = q := fun {s q} hs hq e => by
    obtain ⟨i, hi⟩ := List.getElem?_of_mem hs
    obtain ⟨j, hj⟩ := List.getElem?_of_mem hq
    have hij := rise_once h.good.rise hi hj e
    rw [hij, hj] at hi
    exact (Option.some.inj hi).symm
  refine ⟨⟨⟨h.left, h.room, h.good, ?_, ?_, ?_, fun ho => ?_⟩, h.view, fun s hs _ => h.full s hs, fun ho => ?_, fun ho s hs hn => ?_, fun _ => rfl⟩, hne, rfl, hcl, rfl, rfl, rfl⟩
  · rw [hnum, hsl]
  · rw [hnum]
    rcases hsplit with e | ⟨R', m, ms, e⟩
    · rw [e]
      intro n hn
      cases hn
    · intro n hn
      rw [(hlst R' m ms e).1]
      rw [e, List.map_append] at hn
      rw [e, List.pairwise_append] at hp
      rcases List.mem_append.1 hn with hn | hn
      · obtain ⟨p, hp1, rfl⟩ := List.mem_map.1 hn
        have := hp.2.2 p hp1 (m, ms) (List.mem_singleton.2 rfl)
        simp only at this
        omega
      · simp at hn
        omega
  · rcases hsplit with e | ⟨R', m, ms, e⟩
    · rw [e]
      show (0 : Int) ≤ -1 + 1
      decide
    · rw [(hlst R' m ms e).1]
      obtain ⟨s, hs, h1, _⟩ := hseg R' m ms e
      have := (h.good.num s hs).1
      omega
  · obtain ⟨R', m, ms, e⟩ := hR ho
    obtain ⟨s, hs, h1, h2⟩ := hseg R' m ms e
    exact ⟨s, hs, by rw [hjl ho R' m ms e, h1], by rw [(hlst R' m ms e).2, h2]; rfl⟩
  · obtain ⟨R', m, ms, e⟩ := hR ho
    refine ⟨R', ms, ?_, (hlst R' m ms e).2, rfl⟩
    rw [hjl ho R' m ms e, List.append_nil]
    exact e
  · obtain ⟨R', m, ms, e⟩ := hR ho
    obtain ⟨q, hq, h1, h2⟩ := hseg R' m ms e
    have hsq : s = q := huniq hs hq (by rw [hn, hjl ho R' m ms e, h1])
    rw [h.full s hs, (hlst R' m ms e).2, hsq, h2]
end Go.Proofs.YtmkidefdegaamaaGreatDoor.Jr
namespace Go.Proofs.YtmkidefdegaamaaGreatDoor.Jr
open Bytes Im Dm
theorem AllCl.ok {h : Hs} {l : List Et} (hc : AllCl h l) : ∀ x ∈ l, x.2.Ok := by
  induction l generalizing h with
  | nil => intro x hx; cases hx
  | cons y l ih =>
    intro x hx
    rcases List.mem_cons.1 hx with e | hx
    · rw [e]
      exact hc.1.ok
    · exact ih hc.2 x hx
theorem mem_ents1 {n : Int} {r : Rc} : ∀ {rs : List Rc} {z : Nat}, r ∈ rs → ∃ x ∈ ents1 n z rs, x.2 = r
  | [], _, h => by cases h
  | q :: rs, z, h => by
    rcases List.mem_cons.1 h with e | h
    · exact ⟨_, List.mem_cons_self .., e.symm⟩
    · obtain ⟨x, h1, h2⟩ := mem_ents1 (z := z + q.tx.length) h
      exact ⟨x, List.mem_cons_of_mem _ h1, h2⟩
/-- The power fails where all is synced: nothing changes. -/
theorem Kd.whole {J : Jn} {S : Dk} {R : List (Int × List Rc)} {H : Hs} (h : Kd J S R [] H) (t : Int) : doCrash S t = S ∧ Tidied S R :=
  ⟨crash_calm h.seg.calm.left h.seg.calm.room h.seg.full t, h.seg.calm.left, h.seg.calm.room, h.seg.calm.good, h.seg.full, h.seg.segs⟩
/-- A disk where all is whole is tidy. -/
theorem Tidied.tidy {S : Dk} {R : List (Int × List Rc)} (h : Tidied S R) (hne : ∀ p ∈ R, p.2 ≠ []) (hcl : AllCl hs0 (ents R)) (hp : R.Pairwise fun p q => p.1 < q.1) :
    TidFine (husd (hfold hs0 (ents R))) (hfold hs0 (ents R)).es (hfold hs0 (ents R)).ez (sgs S) S ∧ tidE (husd (hfold hs0 (ents R))) (hfold hs0 (ents R)).es (hfold hs0 (ents R)).ez (sgs S) S = S := by
  have hus : husd (hfold hs0 (ents R)) = R.map (·.1) := by
    have h1 := husd_all R hs0 hne hcl hp (fun _ _ z hz => by simp [husd, hs0] at hz)
    rw [h1]
    rfl
  have hnum : S.segs.map (·.num) = R.map (·.1) := by
    have h1 := congrArg (List.map Prod.fst) h.view
    unfold txs at h1
    rw [List.map_map, List.map_map] at h1
    exact h1
  rw [hus]
  have hsk := tid_skip (us := R.map (·.1)) (es := (hfold hs0 (ents R)).es) (ez := (hfold hs0 (ents R)).ez) (sgs S) S (fun x hx => by
    unfold sgs at hx
    obtain ⟨q, hq, rfl⟩ := List.mem_map.1 hx
    exact ⟨by rw [← hnum]; exact List.mem_map_of_mem hq, no_more hne hp h.view q hq⟩)
  have hsy : R.map (·.1) ≠ [] → doSync S ((R.map (·.1)).getLast?.getD 0) = (S, 0) := fun hn => by
    have h2 : (R.map (·.1)).getLast?.getD 0 ∈ S.segs.map (·.num) := by
      rw [hnum, List.getLast?_eq_some_getLast hn]
      exact List.getLast_mem hn
    obtain ⟨q, hq, hqe⟩ := List.mem_map.1 h2
    rw [← hqe]
    exact sync_all h.left h.good h.full hq
  refine ⟨⟨hsk.2, fun hn => by rw [hsk.1, hsy hn]⟩, ?_⟩
  unfold tidE
  rw [hsk.1]
  split
  · rfl
  · rename_i hn
    rw [hsy hn]
end Go.Proofs.YtmkidefdegaamaaGreatDoor.Jr
namespace Go.Proofs.YtmkidefdegaamaaGreatDoor.Jr
open Bytes Im Dm
/-- Bounds of what the records tell. -/
structure HBd (H : Hs) : Prop where
  g : H.g ≤ 1000000000 ∧ -1 ≤ H.g
  es : H.es ≤ 1000000000000 ∧ -1 ≤ H.es
  ez : 0 ≤ H.ez ∧ H.ez ≤ 1000000000000
  up : (H.sealed.map (·.1)).Pairwise (· < ·)
  sn : ∀ s ∈ H.sealed, 0 ≤ s.1 ∧ s.1 ≤ 1000000000
theorem sgs_nums {S : Dk} (hg : Dm.Good S) : ∀ x ∈ sgs S, -9223372036854775808 ≤ x.1 ∧ x.1 ≤ 9223372036854775807 := fun x hx => by
  unfold sgs at hx
  obtain ⟨q, hq, rfl⟩ := List.mem_map.1 hx
  have := hg.num q hq
  exact ⟨by omega, this.2⟩
theorem Tidied.opens {S : Dk} {R : List (Int × List Rc)} (h : Tidied S R) (hne : ∀ p ∈ R, p.2 ≠ []) (hcl : AllCl hs0 (ents R)) (hp : R.Pairwise fun p q => p.1 < q.1) (hz : ∀ s ∈ S.segs, s.text.size ≤ 140737488355328) (hl : (ents R).length ≤ 900000000) (hs : S.segs.length ≤ 1000000000) (hb : HBd (hfold hs0 (ents R))) : OpenOk S R (hfold hs0 (ents R)) := by
  have hus : husd (hfold hs0 (ents R)) = R.map (·.1) := by
    have h1 := husd_all R hs0 hne hcl hp (fun _ _ z hz => by simp [husd, hs0] at hz)
    rw [h1]
    rfl
  have hnum : S.segs.map (·.num) = R.map (·.1) := by
    have h1 := congrArg (List.map Prod.fst) h.view
    unfold txs at h1
    rw [List.map_map, List.map_map] at h1
    exact h1
  refine ⟨rfl, told_full R (sgs S) (by rw [sgs_view]; exact h.view) (fun p hp r hr => ?_) (fun x hx => ?_), hcl.fits, hl, hb.g, hb.es, hb.ez, sgs_nums h.good, ?_, fun z hz => ?_, ?_, (h.tidy hne hcl hp).1, hb.up, hb.sn⟩
  · obtain ⟨x, h1, h2⟩ := mem_ents1 (n := p.1) (z := 0) hr
    rw [← h2]
    exact hcl.ok x (List.mem_flatMap.2 ⟨p, hp, h1⟩)
  · unfold sgs at hx
    obtain ⟨q, hq, rfl⟩ := List.mem_map.1 hx
    exact hz q hq
  · rw [hus, ← hnum, List.length_map]
    exact hs
  · rw [hus, ← hnum] at hz
    obtain ⟨q, hq, rfl⟩ := List.mem_map.1 hz
    have := h.good.num q hq
    exact ⟨by omega, this.2⟩
  · rw [hus]
    exact List.pairwise_map.2 hp
end Go.Proofs.YtmkidefdegaamaaGreatDoor.Jr
namespace Go.Proofs.YtmkidefdegaamaaGreatDoor.Jr
open Bytes
structure Bnd (h : Hs) : Prop where
  up : (h.sealed.map (·.1)).Pairwise (· < ·)
  sn : ∀ s ∈ h.sealed, 0 ≤ s.1 ∧ s.1 ≤ h.g
  g : -1 ≤ h.g ∧ h.g ≤ 1000000000
  opn : h.odgs ≠ [] → h.g < h.onum ∧ h.onum ≤ 1000000000
theorem Bnd.next {h : Hs} {x : Et} (hb : Bnd h) (hc : Cl h x) : Bnd (hnext h x) := by
  obtain ⟨⟨seg, z⟩, ⟨k, n, t⟩⟩ := x
  have hf := hc.fit
  have hn0 : 0 ≤ n := hc.ok.n0
  have hn1 : n ≤ 1000000000 := hc.ok.n1
  have hg := hb.g
  unfold hfit hfits at hf
  rcases hc.ok.k with e | e | e
  · have e : k = 100 := e
    subst e
    rw [if_pos rfl] at hf
    simp only [Bool.and_eq_true, decide_eq_true_eq] at hf
    exact ⟨hb.up, hb.sn, hb.g, fun _ => ⟨hf.1, hn1⟩⟩
  · have e : k = 115 := e
    subst e
    rw [if_neg (show ¬ (⟨#[(115 : UInt8)]⟩ : ByteArray) = ⟨#[100]⟩ by decide), if_pos rfl] at hf
    simp only [Bool.and_eq_true, decide_eq_true_eq] at hf
    have ho := hb.opn (List.length_pos_iff.1 hf.1)
    have hno : n = h.onum := hf.2
    refine ⟨?_, fun s hs => ?_, ⟨by show -1 ≤ n; omega, hn1⟩, fun e => absurd rfl e⟩
    · show ((h.sealed ++ [(h.onum, h.odgs, hent seg h.osegs)]).map (·.1)).Pairwise (· < ·)
      rw [List.map_append, List.pairwise_append]
      refine ⟨hb.up, List.pairwise_singleton _ _, fun a ha b hb' => ?_⟩
      obtain ⟨s, hs, rfl⟩ := List.mem_map.1 ha
      have h1 := hb.sn s hs
      simp at hb'
      omega
    · have hs' : s ∈ h.sealed ++ [(h.onum, h.odgs, hent seg h.osegs)] := hs
      show 0 ≤ s.1 ∧ s.1 ≤ n
      rcases List.mem_append.1 hs' with hs' | hs'
      · have h1 := hb.sn s hs'
        omega
      · rw [List.mem_singleton.1 hs']
        simp only
        omega
  · have e : k = 98 := e
    subst e
    rw [if_neg (show ¬ (⟨#[(98 : UInt8)]⟩ : ByteArray) = ⟨#[100]⟩ by decide), if_neg (show ¬ (⟨#[(98 : UInt8)]⟩ : ByteArray) = ⟨#[115]⟩ by decide), if_pos rfl] at hf
    simp only [decide_eq_true_eq] at hf
    exact ⟨hb.up, fun s hs => ⟨(hb.sn s hs).1, Int.le_trans (hb.sn s hs).2 hf⟩, ⟨by show -1 ≤ n; omega, hn1⟩, fun e => absurd rfl e⟩
theorem Bnd.all {h : Hs} {l : List Et} (hb : Bnd h) (hc : AllCl h l) : Bnd (hfold h l) := by
  induction l generalizing h with
  | nil => exact hb
  | cons x l ih => exact ih (hb.next hc.1) hc.2
theorem bnd0 : Bnd hs0 := ⟨List.Pairwise.nil, fun s hs => (by cases hs), ⟨by decide, by decide⟩, fun e => absurd rfl e⟩
end Go.Proofs.YtmkidefdegaamaaGreatDoor.Jr
