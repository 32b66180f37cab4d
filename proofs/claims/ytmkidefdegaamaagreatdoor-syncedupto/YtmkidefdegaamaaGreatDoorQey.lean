/- A datagram written down: what the disk has then: no Go in sight. -/
import Derived.Test.YtmkidefdegaamaaGreatDoorOp
namespace Go.Proofs.YtmkidefdegaamaaGreatDoor.Jr
open Bytes Im Dm
theorem ents_add (R0 : List (Int × List Rc)) (x : Int) (rs : List Rc) (r : Rc) : ents (R0 ++ [(x, rs ++ [r])]) = ents (R0 ++ [(x, rs)]) ++ [((x, (stx rs).length + r.tx.length), r)] := by
  rw [ents_append, ents_append, List.append_assoc]
  congr 1
  show ents1 x 0 (rs ++ [r]) ++ [] = ents1 x 0 rs ++ [] ++ _
  rw [ents1_append, Nat.zero_add, List.append_nil, List.append_nil]
  rfl
theorem ents_new (R : List (Int × List Rc)) (x : Int) (rs : List Rc) : ents (R ++ [(x, rs)]) = ents R ++ ents1 x 0 rs := by
  rw [ents_append]
  show _ ++ (ents1 x 0 rs ++ []) = _
  rw [List.append_nil]
theorem Kd.own {J : Jn} {S : Dk} {R : List (Int × List Rc)} {b : List Rc} {H : Hs} (h : Kd J S R b H) : H.sealed.flatMap (·.2.2) = J.sealed.flatMap (·.2) := by
  rw [← h.sealed, List.flatMap_map]
theorem Kd.last_own {J : Jn} {S : Dk} {R : List (Int × List Rc)} {b : List Rc} {H : Hs} (h : Kd J S R b H) (hne : J.opn ≠ []) : jlast J ∉ H.sealed.flatMap (·.2.2) := fun hm => by
  rw [h.own] at hm
  have h1 := List.pairwise_map.2 h.seg.calm.good.rise
  have h2 : (S.segs.map (·.num)).Nodup := List.nodup_iff_pairwise_ne.2 (h1.imp fun h => by omega)
  have h3 := h.seg.calm.perm.nodup_iff.1 h2
  rw [List.nodup_append] at h3
  exact h3.2.2 _ hm _ (jlast_mem hne) rfl
theorem jlast_is {J : Jn} (hne : J.opn ≠ []) : J.opn.getLast? = some (jlast J) := by
  unfold jlast
  rw [List.getLast?_eq_some_getLast hne]
  rfl
/-- A datagram behind others in a segment. -/
theorem Kd.dgram {J : Jn} {S : Dk} {R : List (Int × List Rc)} {b : List Rc} {H : Hs} (h : Kd J S R b H) (hne : J.opn ≠ []) (win : Int) (t : ByteArray) (hok : (⟨100, win, t⟩ : Rc).Ok) (hf : hfit H ⟨100, win, t⟩ = true) :
    ∃ S' R' z, jadd J S (bytesOf (wrec [100] win (B t))) = ({ J with uns := J.uns ++ bytesOf (wrec [100] win (B t)) }, S', 0) ∧ ents R' = ents R ++ [((jlast J, z), ⟨100, win, t⟩)] ∧ Kd { J with uns := J.uns ++ bytesOf (wrec [100] win (B t)) } S' R' (b ++ [⟨100, win, t⟩]) (hnext H ((jlast J, z), ⟨100, win, t⟩)) := by
  obtain ⟨S', R0, rs, hR, hj, hk⟩ := h.seg.add hne ⟨100, win, t⟩
  have he := ents_add R0 (jlast J) rs ⟨100, win, t⟩
  rw [← hR] at he
  have hcl : Cl H ((jlast J, (stx rs).length + (⟨100, win, t⟩ : Rc).tx.length), ⟨100, win, t⟩) := ⟨hf, hok, fun e => absurd e (show ¬ (100 : UInt8) = 98 by decide), h.last_own hne, fun e => absurd (h.opn.symm.trans e) hne⟩
  have hos : hent (jlast J) H.osegs = H.osegs := hent_last (by rw [h.opn]; exact jlast_is hne)
  refine ⟨S', _, _, hj, he, hk, fun p hp => ?_, ?_, ?_, ?_, h.g, h.sealed⟩
  · rcases List.mem_append.1 hp with hp | hp
    · exact h.ne p (by rw [hR]; exact List.mem_append_left _ hp)
    · rw [List.mem_singleton.1 hp]
      simp
  · rw [he, hfold_append, h.is]
    rfl
  · rw [he, allCl_append, h.is]
    exact ⟨h.cl, hcl, trivial⟩
  · show hent (jlast J) H.osegs = J.opn
    rw [hos]
    exact h.opn
theorem bytes_append (a b : Bs) : bytesOf a ++ bytesOf b = bytesOf (a ++ b) := B_inj (by rw [B_append, bytes_B, bytes_B, bytes_B])
/-- A datagram, the first of a segment behind others. -/
theorem Kd.next {J : Jn} {S : Dk} {R : List (Int × List Rc)} {H : Hs} (h : Kd J S R [] H) (hne : J.opn ≠ []) (hx : J.next ≤ 9223372036854775807) (win : Int) (t : ByteArray) (hok : (⟨100, win, t⟩ : Rc).Ok) (hf : hfit H ⟨100, win, t⟩ = true) :
    ∃ S' R' z, jbegin J S (bytesOf (wrec [100] win (B t))) = ({ J with opn := J.opn ++ [J.next], next := J.next + 1, synced := 0, uns := bytesOf (wrec [100] win (B t)) }, S', 0) ∧ ents R' = ents R ++ [((J.next, z), ⟨100, win, t⟩)] ∧ Kd { J with opn := J.opn ++ [J.next], next := J.next + 1, synced := 0, uns := bytesOf (wrec [100] win (B t)) } S' R' [⟨100, win, t⟩] (hnext H ((J.next, z), ⟨100, win, t⟩)) := by
  obtain ⟨S', hj, hk⟩ := h.seg.begin hx [⟨100, win, t⟩]
  have hs : stx [⟨100, win, t⟩] = wrec [100] win (B t) := List.append_nil _
  rw [hs] at hj hk
  have he := ents_new R J.next [⟨100, win, t⟩]
  have hnot : J.next ∉ J.sealed.flatMap (·.2) ++ J.opn := fun hm => by
    have := h.seg.calm.below J.next (h.seg.calm.perm.mem_iff.2 hm)
    omega
  have hcl : Cl H ((J.next, 0 + (⟨100, win, t⟩ : Rc).tx.length), ⟨100, win, t⟩) := ⟨hf, hok, fun e => absurd e (show ¬ (100 : UInt8) = 98 by decide), fun hm => hnot (List.mem_append_left _ (h.own ▸ hm)), fun e => absurd (h.opn.symm.trans e) hne⟩
  refine ⟨S', _, _, hj, he, hk, fun p hp => ?_, ?_, ?_, ?_, h.g, h.sealed⟩
  · rcases List.mem_append.1 hp with hp | hp
    · exact h.ne p hp
    · rw [List.mem_singleton.1 hp]
      simp
  · rw [he, hfold_append, h.is]
    rfl
  · rw [he, allCl_append, h.is]
    exact ⟨h.cl, hcl, trivial⟩
  · show hent J.next H.osegs = J.opn ++ [J.next]
    rw [hent_new (by rw [h.opn]; exact fun e => hnot (List.mem_append_right _ e)), h.opn]
theorem Kd.sync {J : Jn} {S : Dk} {R : List (Int × List Rc)} {b : List Rc} {H : Hs} (h : Kd J S R b H) : ∃ J' S', jsync J S = (J', S', 0) ∧ Kd J' S' R [] H ∧ J'.opn = J.opn ∧ J'.next = J.next := by
  obtain ⟨J', S', hj, hk, h1, h2, h3, _, h5⟩ := h.seg.sync
  exact ⟨J', S', hj, ⟨hk, h.ne, h.is, h.cl, h.opn.trans h1.symm, h.g.trans h3.symm, h.sealed.trans h2.symm⟩, h1, h5⟩
end Go.Proofs.YtmkidefdegaamaaGreatDoor.Jr
namespace Go.Proofs.YtmkidefdegaamaaGreatDoor.Jr
open Bytes Im Dm
theorem fit_d {H : Hs} {win : Int} {t : ByteArray} (hlt : H.g < win) (hb : H.odgs = [] ∨ win = H.onum) : hfit H ⟨100, win, t⟩ = true := by
  unfold hfit hfits
  rw [if_pos rfl]
  rcases hb with hb | hb
  · rw [hb]
    simp [hlt]
  · rw [hb] at hlt
    simp [hb, hlt]
/-- The head's records. -/
def hrs (J : Jn) : List Rc := if J.greatest = -1 then [] else [⟨98, J.greatest, ⟨#[]⟩⟩]
theorem hrs_tx (J : Jn) : stx (hrs J) = jhead J := by
  unfold hrs jhead
  split
  · rfl
  · exact List.append_nil _
/-- The first datagram behind a seal, or of all. -/
theorem Kd.first {J : Jn} {S : Dk} {R : List (Int × List Rc)} {b : List Rc} {H : Hs} (h : Kd J S R b H) (ho : J.opn = []) (hx : J.next ≤ 9223372036854775807) (hg : -1 ≤ J.greatest ∧ J.greatest ≤ 1000000000) (win : Int) (t : ByteArray) (hok : (⟨100, win, t⟩ : Rc).Ok) (hlt : H.g < win) (hod : H.odgs = []) :
    ∃ J' S' R' b' H', jbegin J S (bytesOf (jhead J) ++ bytesOf (wrec [100] win (B t))) = (J', S', 0) ∧ Kd J' S' R' b' H' ∧ H'.odgs = H.odgs ++ [t] ∧ H'.onum = win ∧ H'.sealed = H.sealed ∧ H'.g = H.g ∧ (∃ x, ents R' = ents R ++ x) ∧ (ents R).length ≤ (ents R').length - b'.length ∧ J'.opn ≠ [] := by
  have hb := h.seg.nob ho
  subst hb
  obtain ⟨S', hj, hk⟩ := h.seg.begin hx (hrs J ++ [⟨100, win, t⟩])
  have hs : bytesOf (stx (hrs J ++ [⟨100, win, t⟩])) = bytesOf (jhead J) ++ bytesOf (wrec [100] win (B t)) := by
    rw [stx_snoc, hrs_tx, bytes_append]
    rfl
  rw [hs] at hj hk
  have he := ents_new R J.next (hrs J ++ [⟨100, win, t⟩])
  have hnot : J.next ∉ H.sealed.flatMap (·.2.2) := fun hm => by
    rw [h.own] at hm
    have := h.seg.calm.below J.next (h.seg.calm.perm.mem_iff.2 (List.mem_append_left _ hm))
    omega
  have hso : H.osegs = [] := by rw [h.opn, ho]
  have hel : ∀ (z : Nat) (l : List Rc), (ents1 J.next z l).length = l.length := fun z l => by
    induction l generalizing z with
    | nil => rfl
    | cons r l ih => simp [ents1, ih]
  have key : AllCl H (ents1 J.next 0 (hrs J ++ [⟨100, win, t⟩])) ∧ (hfold H (ents1 J.next 0 (hrs J ++ [⟨100, win, t⟩]))).odgs = [t] ∧ (hfold H (ents1 J.next 0 (hrs J ++ [⟨100, win, t⟩]))).onum = win ∧ (hfold H (ents1 J.next 0 (hrs J ++ [⟨100, win, t⟩]))).sealed = H.sealed ∧ (hfold H (ents1 J.next 0 (hrs J ++ [⟨100, win, t⟩]))).g = H.g ∧ (hfold H (ents1 J.next 0 (hrs J ++ [⟨100, win, t⟩]))).osegs = [J.next] := by
    by_cases hgr : J.greatest = -1
    · have hr : hrs J = [] := by unfold hrs; rw [if_pos hgr]
      rw [hr]
      refine ⟨⟨⟨fit_d hlt (Or.inl hod), hok, fun e => absurd e (show ¬ (100 : UInt8) = 98 by decide), hnot, fun _ e => absurd (h.g.trans hgr) e⟩, trivial⟩, ?_, rfl, rfl, rfl, ?_⟩
      · show H.odgs ++ [t] = [t]
        rw [hod]
        rfl
      · show hent J.next H.osegs = _
        rw [hso]
        rfl
    · have hr : hrs J = [⟨98, J.greatest, ⟨#[]⟩⟩] := by unfold hrs; rw [if_neg hgr]
      rw [hr]
      have hgH : J.greatest = H.g := h.g.symm
      refine ⟨⟨⟨?_, ⟨Or.inr (Or.inr rfl), by show 0 ≤ J.greatest; omega, hg.2, by show (0 : Nat) ≤ 1000000; omega⟩, fun _ => hso, hnot, fun _ _ => ⟨rfl, hgH⟩⟩, ⟨fit_d (by show J.greatest < win; omega) (Or.inl rfl), hok, fun e => absurd e (show ¬ (100 : UInt8) = 98 by decide), hnot, fun e => absurd e (List.cons_ne_nil _ _)⟩, trivial⟩, rfl, rfl, rfl, hgH, ?_⟩
      · show hfit H ⟨98, J.greatest, ⟨#[]⟩⟩ = true
        unfold hfit hfits
        rw [if_neg (show ¬ (⟨#[(98 : UInt8)]⟩ : ByteArray) = ⟨#[100]⟩ by decide), if_neg (show ¬ (⟨#[(98 : UInt8)]⟩ : ByteArray) = ⟨#[115]⟩ by decide), if_pos rfl]
        simp
        omega
      · show hent J.next [J.next] = _
        exact hent_last rfl
  obtain ⟨k1, k2, k3, k4, k5, k6⟩ := key
  refine ⟨_, S', R ++ [(J.next, hrs J ++ [⟨100, win, t⟩])], hrs J ++ [⟨100, win, t⟩], _, hj, ⟨hk, fun p hp => ?_, by rw [he, hfold_append, h.is], ?_, ?_, ?_, ?_⟩, by rw [k2, hod]; rfl, k3, k4, k5, ⟨_, he⟩, ?_, by simp⟩
  · rcases List.mem_append.1 hp with hp | hp
    · exact h.ne p hp
    · rw [List.mem_singleton.1 hp]
      simp
  · rw [he, allCl_append, h.is]
    exact ⟨h.cl, k1⟩
  · rw [k6]
    show _ = J.opn ++ [J.next]
    rw [ho]
    rfl
  · rw [k5]
    exact h.g
  · rw [k4]
    exact h.sealed
  · rw [he, List.length_append, hel]
    omega
/-- A datagram written down. -/
theorem Kd.write {J : Jn} {S : Dk} {R : List (Int × List Rc)} {b : List Rc} {H : Hs} (h : Kd J S R b H) (hx : J.next ≤ 9223372036854775807) (hg : -1 ≤ J.greatest ∧ J.greatest ≤ 1000000000) (win : Int) (t : ByteArray) (hok : (⟨100, win, t⟩ : Rc).Ok) (hlt : H.g < win) (hb : H.odgs = [] ∨ win = H.onum) (ho : J.opn = [] → H.odgs = []) :
    ∃ J' S' R' b' H', jwrite J S win t = (J', S', 0) ∧ Kd J' S' R' b' H' ∧ H'.odgs = H.odgs ++ [t] ∧ H'.onum = win ∧ H'.sealed = H.sealed ∧ H'.g = H.g ∧ (∃ x, ents R' = ents R ++ x) ∧ (ents R).length - b.length ≤ (ents R').length - b'.length ∧ J'.opn ≠ [] := by
  have hf := fit_d (t := t) hlt hb
  have hd : ∀ (z : Nat) (n : Int), (hnext H ((n, z), (⟨100, win, t⟩ : Rc))).odgs = H.odgs ++ [t] ∧ (hnext H ((n, z), (⟨100, win, t⟩ : Rc))).onum = win ∧ (hnext H ((n, z), (⟨100, win, t⟩ : Rc))).sealed = H.sealed ∧ (hnext H ((n, z), (⟨100, win, t⟩ : Rc))).g = H.g := fun z n => ⟨rfl, rfl, rfl, rfl⟩
  by_cases hop : J.opn = []
  · obtain ⟨J', S', R', b', H', h1, h2, h3, h4, h5, h6, h7, h8, h9⟩ := h.first hop hx hg win t hok hlt (ho hop)
    exact ⟨J', S', R', b', H', by unfold jwrite; rw [if_pos hop]; exact h1, h2, h3, h4, h5, h6, h7, by omega, h9⟩
  · by_cases hm : (J.synced : Int) + (J.uns.size : Int) < J.most
    · obtain ⟨S', R', z, h1, h2, h3⟩ := h.dgram hop win t hok hf
      obtain ⟨d1, d2, d3, d4⟩ := hd z (jlast J)
      refine ⟨_, S', R', _, _, by unfold jwrite; rw [if_neg hop, if_pos hm]; exact h1, h3, d1, d2, d3, d4, ⟨_, h2⟩, ?_, hop⟩
      rw [h2, List.length_append, List.length_append]
      simp only [List.length_singleton]
      omega
    · obtain ⟨J1, S1, hj, hk, e1, e2⟩ := h.sync
      obtain ⟨S', R', z, h1, h2, h3⟩ := hk.next (by rw [e1]; exact hop) (by rw [e2]; exact hx) win t hok hf
      obtain ⟨d1, d2, d3, d4⟩ := hd z J1.next
      refine ⟨_, S', R', _, _, ?_, h3, d1, d2, d3, d4, ⟨_, h2⟩, ?_, by simp⟩
      · unfold jwrite
        rw [if_neg hop, if_neg hm, hj, if_neg (by simp)]
        exact h1
      · rw [h2, List.length_append]
        simp only [List.length_singleton]
        omega
end Go.Proofs.YtmkidefdegaamaaGreatDoor.Jr
namespace Go.Proofs.YtmkidefdegaamaaGreatDoor.Jr
open Bytes Im Dm
theorem fit_s {H : Hs} {t : ByteArray} (hb : H.odgs ≠ []) : hfit H ⟨115, H.onum, t⟩ = true := by
  have h1 : 0 < H.odgs.length := List.length_pos_iff.2 hb
  unfold hfit hfits
  rw [if_neg (show ¬ (⟨#[(115 : UInt8)]⟩ : ByteArray) = ⟨#[100]⟩ by decide), if_pos rfl]
  simp [h1]
/-- A window sealed. -/
theorem Kd.seal {J : Jn} {S : Dk} {R : List (Int × List Rc)} {b : List Rc} {H : Hs} (h : Kd J S R b H) (hne : J.opn ≠ []) (hod : H.odgs ≠ []) (h0 : 0 ≤ H.onum ∧ H.onum ≤ 1000000000) (hlt : ∀ p ∈ J.sealed, p.1 < H.onum) :
    ∃ J' S' R' H', jseal J S H.onum = (J', S', 0) ∧ Kd J' S' R' [] H' ∧ H'.sealed = H.sealed ++ [(H.onum, H.odgs, J.opn)] ∧ H'.odgs = [] ∧ H'.onum = 0 ∧ H'.g = H.onum ∧ (∃ x, ents R' = ents R ++ x) ∧ J'.opn = [] ∧ J'.greatest = H.onum := by
  have hnk : H.onum ∉ J.sealed.map (·.1) := fun hm => by
    obtain ⟨p, hp, e⟩ := List.mem_map.1 hm
    have := hlt p hp
    omega
  obtain ⟨S1, R0, rs, hR, hj1, hk1⟩ := h.seg.add hne ⟨115, H.onum, ⟨#[]⟩⟩
  have htx : (⟨115, H.onum, ⟨#[]⟩⟩ : Rc).tx = wrec [115] H.onum [] := rfl
  rw [htx] at hj1 hk1
  obtain ⟨J2, S2, hj2, hk2, e1, e2, e3, e4, e5⟩ := hk1.sync
  obtain ⟨J', S', hjs, hc, _, f1, f2, f3, _⟩ := h.seg.calm.seal hne hnk
  have hS : J' = { J2 with sealed := put iLt H.onum J.opn J.sealed, opn := [], greatest := H.onum } ∧ S' = S2 := by
    unfold jseal at hjs
    rw [hj1, if_neg (by simp)] at hjs
    simp only at hjs
    rw [hj2, if_neg (by simp)] at hjs
    injection hjs with a1 a2
    injection a2 with a2 _
    exact ⟨a1.symm, a2.symm⟩
  have he := ents_add R0 (jlast J) rs ⟨115, H.onum, ⟨#[]⟩⟩
  rw [← hR] at he
  have hos : hent (jlast J) H.osegs = J.opn := by
    rw [hent_last (by rw [h.opn]; exact jlast_is hne), h.opn]
  have hcl : Cl H ((jlast J, (stx rs).length + (⟨115, H.onum, ⟨#[]⟩⟩ : Rc).tx.length), ⟨115, H.onum, ⟨#[]⟩⟩) := ⟨fit_s hod, ⟨Or.inr (Or.inl rfl), h0.1, h0.2, by show (0 : Nat) ≤ 1000000; omega⟩, fun e => absurd e (show ¬ (115 : UInt8) = 98 by decide), h.last_own hne, fun e => absurd (h.opn.symm.trans e) hne⟩
  have hH : hnext H ((jlast J, (stx rs).length + (⟨115, H.onum, ⟨#[]⟩⟩ : Rc).tx.length), ⟨115, H.onum, ⟨#[]⟩⟩) = ⟨H.sealed ++ [(H.onum, H.odgs, J.opn)], 0, [], [], H.onum, jlast J, (((stx rs).length + (⟨115, H.onum, ⟨#[]⟩⟩ : Rc).tx.length : Nat) : Int)⟩ := by
    unfold hnext htk
    rw [if_neg (show ¬ (115 : UInt8) = 98 by decide), if_pos rfl]
    simp only
    rw [hos]
  refine ⟨J', S', R0 ++ [(jlast J, rs ++ [⟨115, H.onum, ⟨#[]⟩⟩])], ⟨H.sealed ++ [(H.onum, H.odgs, J.opn)], 0, [], [], H.onum, jlast J, (((stx rs).length + (⟨115, H.onum, ⟨#[]⟩⟩ : Rc).tx.length : Nat) : Int)⟩, hjs, ⟨⟨hc, ?_, fun s hs _ => ?_, fun e => absurd f2 e, fun e => absurd f2 e, fun _ => rfl⟩, fun p hp => ?_, by rw [he, hfold_append, h.is]; exact hH, ?_, f2.symm, f3.symm, ?_⟩, rfl, rfl, rfl, rfl, ⟨_, he⟩, f2, f3⟩
  · rw [hS.2]
    exact hk2.segs
  · rw [hS.2] at hs
    exact hk2.full s hs
  · rcases List.mem_append.1 hp with hp | hp
    · exact h.ne p (by rw [hR]; exact List.mem_append_left _ hp)
    · rw [List.mem_singleton.1 hp]
      simp
  · rw [he, allCl_append, h.is]
    exact ⟨h.cl, hcl, trivial⟩
  · rw [f1, put_end hlt, List.map_append, h.sealed]
    rfl
/-- A journal that has nothing yet. -/
theorem Kd.new {J : Jn} {S : Dk} (hc : Jcalm J S) (hs : S.segs = []) (ho : J.opn = []) (hl : J.sealed = []) (hg : J.greatest = -1) : Kd J S [] [] hs0 :=
  ⟨⟨hc, by rw [hs]; rfl, fun s h => (by rw [hs] at h; cases h), fun e => absurd ho e, fun e => absurd ho e, fun _ => rfl⟩, fun p hp => (by cases hp), rfl, trivial, ho.symm, hg.symm, hl.symm⟩
end Go.Proofs.YtmkidefdegaamaaGreatDoor.Jr
namespace Go.Proofs.YtmkidefdegaamaaGreatDoor.Jr
open Bytes Im Dm
theorem end_rest (n : Int) : ∀ (rs : List Rc) (z : Nat) (h : Hs), rs ≠ [] → (hfold h (ents1 n z rs)).es = n ∧ (hfold h (ents1 n z rs)).ez = ((z + (stx rs).length : Nat) : Int)
  | [], _, _, hne => absurd rfl hne
  | [r], z, h, _ => by
    refine ⟨rfl, ?_⟩
    show ((z + r.tx.length : Nat) : Int) = _
    rw [show stx [r] = r.tx from List.append_nil _]
  | r :: q :: rs, z, h, _ => by
    have h1 := end_rest n (q :: rs) (z + r.tx.length) (hnext h ((n, z + r.tx.length), r)) (by simp)
    refine ⟨h1.1, h1.2.trans ?_⟩
    rw [show stx (r :: q :: rs) = r.tx ++ stx (q :: rs) from rfl, List.length_append, Nat.add_assoc]
/-- Where the last record ends. -/
theorem end_all (R0 : List (Int × List Rc)) (n : Int) (rs : List Rc) (hne : rs ≠ []) : (hfold hs0 (ents (R0 ++ [(n, rs)]))).es = n ∧ (hfold hs0 (ents (R0 ++ [(n, rs)]))).ez = ((stx rs).length : Int) := by
  rw [ents_new, hfold_append]
  have h := end_rest n rs 0 (hfold hs0 (ents R0)) hne
  rw [Nat.zero_add] at h
  exact h
theorem tid_skip {us : List Int} {es ez : Int} : ∀ (l : List (Int × ByteArray)) (S : Dk), (∀ x ∈ l, x.1 ∈ us ∧ ¬ (x.1 = es ∧ ez < (x.2.size : Int))) → tidL us es ez l S = S ∧ TidOk us es ez l S
  | [], _, _ => ⟨rfl, trivial⟩
  | x :: l, S, h => by
    obtain ⟨h1, h2⟩ := h x (List.mem_cons_self ..)
    have h3 : tid1 S x us es ez = (S, 0) := by
      unfold tid1
      rw [if_neg (fun e => e h1), if_neg h2]
    have h4 := tid_skip l S fun q hq => h q (List.mem_cons_of_mem _ hq)
    unfold tidL TidOk
    rw [h3]
    exact ⟨h4.1, rfl, h4.2⟩
theorem tid_append {us : List Int} {es ez : Int} : ∀ (l m : List (Int × ByteArray)) (S : Dk), tidL us es ez (l ++ m) S = tidL us es ez m (tidL us es ez l S) ∧ (TidOk us es ez (l ++ m) S ↔ TidOk us es ez l S ∧ TidOk us es ez m (tidL us es ez l S))
  | [], m, S => ⟨rfl, ⟨fun h => ⟨trivial, h⟩, fun h => h.2⟩⟩
  | x :: l, m, S => by
    have h := tid_append (us := us) (es := es) (ez := ez) l m (tid1 S x us es ez).1
    refine ⟨h.1, ?_⟩
    show (_ ∧ TidOk us es ez (l ++ m) _) ↔ (_ ∧ _) ∧ _
    rw [h.2]
    exact and_assoc.symm
/-- The last segment cut short. -/
theorem trunc_last {S : Dk} {l0 : List Seg} {s : Seg} (hl : S.left = -1) (hS : S.segs = l0 ++ [s]) (hr : S.segs.Pairwise fun a b => a.num < b.num) {k : Nat} (hk : k ≤ s.text.size) : doTrunc S s.num (k : Int) = ({ S with segs := l0 ++ [{ s with text := s.text.extract 0 k, syn := min s.syn k }] }, 0) := by
  have hne : ∀ q ∈ l0, q.num ≠ s.num := fun q hq => by
    rw [hS, List.pairwise_append] at hr
    have := hr.2.2 q hq s (List.mem_singleton.2 rfl)
    omega
  have hat : S.segs[l0.length]? = some s := by rw [hS]; exact List.getElem?_concat_length
  have hpl : place s.num S.segs = some l0.length := place_at (fun j t hj ht => by
    rw [hS, List.getElem?_append_left hj] at ht
    exact hne t (List.mem_of_getElem? ht)) hat rfl
  unfold doTrunc
  rw [if_neg (by rw [hl]; decide), hpl]
  simp only
  rw [hat, if_pos (by simp; omega), op_calm hl, turn_set hr hat rfl, hS]
  simp
/-- The last segment taken away. -/
theorem delete_last {S : Dk} {l0 : List Seg} {s : Seg} (hl : S.left = -1) (hS : S.segs = l0 ++ [s]) (hr : S.segs.Pairwise fun a b => a.num < b.num) : doDelete S s.num = ({ S with segs := l0 }, 0) := by
  have hne : ∀ q ∈ l0, q.num ≠ s.num := fun q hq => by
    rw [hS, List.pairwise_append] at hr
    have := hr.2.2 q hq s (List.mem_singleton.2 rfl)
    omega
  have hat : S.segs[l0.length]? = some s := by rw [hS]; exact List.getElem?_concat_length
  have hpl : place s.num S.segs = some l0.length := place_at (fun j t hj ht => by
    rw [hS, List.getElem?_append_left hj] at ht
    exact hne t (List.mem_of_getElem? ht)) hat rfl
  unfold doDelete
  rw [if_neg (by rw [hl]; decide), hpl]
  simp only
  rw [op_calm hl, hS]
  simp [List.eraseIdx_append_of_length_le]
/-- A sync where all is synced. -/
theorem sync_all {S : Dk} (hl : S.left = -1) (hg : Dm.Good S) (hf : ∀ s ∈ S.segs, s.syn = s.text.size) {s : Seg} (hs : s ∈ S.segs) : doSync S s.num = (S, 0) := by
  rw [dsync_calm hl hg hs]
  have h1 : turn s.num (fun s => { s with syn := s.text.size }) S.segs = S.segs := by
    unfold turn
    conv => rhs; rw [← List.map_id S.segs]
    refine List.map_congr_left fun q hq => ?_
    have := hf q hq
    split
    · cases q
      simp only at this
      simp [this]
    · rfl
  rw [h1]
end Go.Proofs.YtmkidefdegaamaaGreatDoor.Jr
namespace Go.Proofs.YtmkidefdegaamaaGreatDoor.Jr
open Bytes Im Dm
def txs (R : List (Int × List Rc)) : List (Int × Bs) := R.map fun p => (p.1, stx p.2)
/-- No segment has more than its records where all are whole. -/
theorem no_more {R : List (Int × List Rc)} (hne : ∀ p ∈ R, p.2 ≠ []) (hr : R.Pairwise fun p q => p.1 < q.1) {l : List Seg} (hv : l.map view = txs R) : ∀ s ∈ l, ¬ (s.num = (hfold hs0 (ents R)).es ∧ (hfold hs0 (ents R)).ez < (s.text.size : Int)) := fun s hs ⟨h1, h2⟩ => by
  have hm : view s ∈ txs R := by rw [← hv]; exact List.mem_map_of_mem hs
  rcases List.eq_nil_or_concat R with rfl | ⟨R', p, e⟩
  · cases hm
  · rw [List.concat_eq_append] at e
    obtain ⟨m, ms⟩ := p
    subst e
    have he := end_all R' m ms (hne (m, ms) (by simp))
    rw [he.1] at h1
    rw [he.2] at h2
    obtain ⟨q, hq, hqe⟩ := List.mem_map.1 hm
    unfold view at hqe
    injection hqe with q1 q2
    rcases List.mem_append.1 hq with hq | hq
    · rw [List.pairwise_append] at hr
      have h3 := hr.2.2 q hq (m, ms) (List.mem_singleton.2 rfl)
      simp only at h3
      omega
    · rw [List.mem_singleton.1 hq] at q2
      simp only at q2
      rw [size_B, ← q2] at h2
      omega
/-- What the power left of a disk: whole records, and at the last segment's end something torn. -/
structure Lft (S : Dk) (R0 : List (Int × List Rc)) (n : Int) (rs : List Rc) (y : Bs) : Prop where
  left : S.left = -1
  room : S.room = -1
  good : Dm.Good S
  full : ∀ s ∈ S.segs, s.syn = s.text.size
  view : S.segs.map view = txs R0 ++ [(n, stx rs ++ y)]
  ne : ∀ p ∈ R0, p.2 ≠ []
  cl : AllCl hs0 (ents (R0 ++ [(n, rs)]))
/-- What counts of it. -/
def kept (R0 : List (Int × List Rc)) (n : Int) (rs : List Rc) : List (Int × List Rc) := if rs = [] then R0 else R0 ++ [(n, rs)]
structure Tidied (S' : Dk) (R : List (Int × List Rc)) : Prop where
  left : S'.left = -1
  room : S'.room = -1
  good : Dm.Good S'
  full : ∀ s ∈ S'.segs, s.syn = s.text.size
  view : S'.segs.map view = txs R
theorem kept_ents (R0 : List (Int × List Rc)) (n : Int) (rs : List Rc) : ents (kept R0 n rs) = ents (R0 ++ [(n, rs)]) := by
  unfold kept
  split
  · rename_i h
    rw [ents_new, h]
    exact (List.append_nil _).symm
  · rfl
theorem Lft.tidy {S : Dk} {R0 : List (Int × List Rc)} {n : Int} {rs : List Rc} {y : Bs} (h : Lft S R0 n rs y) :
    (kept R0 n rs).Pairwise (fun p q => p.1 < q.1) ∧ husd (hfold hs0 (ents (kept R0 n rs))) = (kept R0 n rs).map (·.1) ∧
      TidFine (husd (hfold hs0 (ents (kept R0 n rs)))) (hfold hs0 (ents (kept R0 n rs))).es (hfold hs0 (ents (kept R0 n rs))).ez (sgs S) S ∧
      Tidied (tidE (husd (hfold hs0 (ents (kept R0 n rs)))) (hfold hs0 (ents (kept R0 n rs))).es (hfold hs0 (ents (kept R0 n rs))).ez (sgs S) S) (kept R0 n rs) := by
  obtain ⟨l0, l1, hS, v0, v1⟩ := List.map_eq_append_iff.1 h.view
  obtain ⟨s, rfl, hs⟩ := List.map_eq_singleton_iff.1 v1
  unfold Jr.view at hs
  injection hs with e1 e2
  have hr := h.good.rise
  have hr0 := hr
  rw [hS, List.pairwise_append] at hr0
  have hn0 : l0.map (·.num) = R0.map (·.1) := by
    have h1 := congrArg (List.map Prod.fst) v0
    unfold txs at h1
    rw [List.map_map, List.map_map] at h1
    exact h1
  have hp0 : R0.Pairwise fun p q => p.1 < q.1 := by
    have h1 := List.pairwise_map.2 hr0.1
    rw [hn0, List.pairwise_map] at h1
    exact h1
  have hlt : ∀ p ∈ R0, p.1 < n := fun p hp => by
    have h1 : p.1 ∈ l0.map (·.num) := by rw [hn0]; exact List.mem_map_of_mem hp
    obtain ⟨q, hq, hqe⟩ := List.mem_map.1 h1
    have := hr0.2.2 q hq s (List.mem_singleton.2 rfl)
    omega
  have hpk : (kept R0 n rs).Pairwise fun p q => p.1 < q.1 := by
    unfold kept
    split
    · exact hp0
    · rw [List.pairwise_append]
      exact ⟨hp0, List.pairwise_singleton _ _, fun a ha b hb => by rw [List.mem_singleton.1 hb]; exact hlt a ha⟩
  have hnk : ∀ p ∈ kept R0 n rs, p.2 ≠ [] := fun p hp => by
    unfold kept at hp
    split at hp
    · exact h.ne p hp
    · rename_i hrs
      rcases List.mem_append.1 hp with hp | hp
      · exact h.ne p hp
      · rw [List.mem_singleton.1 hp]
        exact hrs
  have hck : AllCl hs0 (ents (kept R0 n rs)) := by rw [kept_ents]; exact h.cl
  have hus : husd (hfold hs0 (ents (kept R0 n rs))) = (kept R0 n rs).map (·.1) := by
    have h1 := husd_all _ hs0 hnk hck hpk (fun _ _ z hz => by simp [husd, hs0] at hz)
    rw [h1]
    rfl
  have hin0 : ∀ x ∈ l0, x.num ∈ (kept R0 n rs).map (·.1) := fun x hx => by
    have h1 : x.num ∈ R0.map (·.1) := by rw [← hn0]; exact List.mem_map_of_mem hx
    unfold kept
    split
    · exact h1
    · rw [List.map_append]
      exact List.mem_append_left _ h1
  have hsg : sgs S = (l0.map fun s => (s.num, s.text)) ++ [(s.num, s.text)] := by
    unfold sgs
    rw [hS, List.map_append]
    rfl
  refine ⟨hpk, hus, ?_⟩
  rw [hus, hsg]
  by_cases hrs : rs = []
  · have hk : kept R0 n rs = R0 := by unfold kept; rw [if_pos hrs]
    rw [hk] at hin0 ⊢
    have hsk := tid_skip (us := R0.map (·.1)) (es := (hfold hs0 (ents R0)).es) (ez := (hfold hs0 (ents R0)).ez) (l0.map fun s => (s.num, s.text)) S (fun x hx => by
      obtain ⟨q, hq, rfl⟩ := List.mem_map.1 hx
      exact ⟨hin0 q hq, no_more h.ne hp0 v0 q hq⟩)
    have hta := tid_append (us := R0.map (·.1)) (es := (hfold hs0 (ents R0)).es) (ez := (hfold hs0 (ents R0)).ez) (l0.map fun s => (s.num, s.text)) [(s.num, s.text)] S
    have hd := delete_last h.left hS hr
    have hno : s.num ∉ R0.map (·.1) := fun hm => by
      obtain ⟨p, hp, hpe⟩ := List.mem_map.1 hm
      have := hlt p hp
      omega
    have h1 : tid1 S (s.num, s.text) (R0.map (·.1)) (hfold hs0 (ents R0)).es (hfold hs0 (ents R0)).ez = ({ S with segs := l0 }, 0) := by
      unfold tid1
      rw [if_pos hno]
      exact hd
    have hg2 : Dm.Good { S with segs := l0 } := by
      have := (fit_delete (fit_of h.good) s.num).good
      rw [hd] at this
      exact this
    have hf2 : ∀ q ∈ l0, q.syn = q.text.size := fun q hq => h.full q (by rw [hS]; exact List.mem_append_left _ hq)
    have hL : tidL (R0.map (·.1)) (hfold hs0 (ents R0)).es (hfold hs0 (ents R0)).ez ((l0.map fun s => (s.num, s.text)) ++ [(s.num, s.text)]) S = { S with segs := l0 } := by
      rw [hta.1, hsk.1]
      show (tid1 S (s.num, s.text) _ _ _).1 = _
      rw [h1]
    have hsy : R0.map (·.1) ≠ [] → doSync { S with segs := l0 } ((R0.map (·.1)).getLast?.getD 0) = ({ S with segs := l0 }, 0) := fun hne => by
      have h2 : (R0.map (·.1)).getLast?.getD 0 ∈ l0.map (·.num) := by
        rw [hn0, List.getLast?_eq_some_getLast hne]
        exact List.getLast_mem hne
      obtain ⟨q, hq, hqe⟩ := List.mem_map.1 h2
      rw [← hqe]
      exact sync_all (S := { S with segs := l0 }) h.left hg2 hf2 hq
    refine ⟨⟨hta.2.2 ⟨hsk.2, ?_⟩, fun hne => ?_⟩, ?_⟩
    · rw [hsk.1]
      exact ⟨by rw [h1], trivial⟩
    · rw [hL, hsy hne]
    · have hE : tidE (R0.map (·.1)) (hfold hs0 (ents R0)).es (hfold hs0 (ents R0)).ez ((l0.map fun s => (s.num, s.text)) ++ [(s.num, s.text)]) S = { S with segs := l0 } := by
        unfold tidE
        rw [hL]
        split
        · rfl
        · rename_i hne
          rw [hsy hne]
      rw [hE]
      exact ⟨h.left, h.room, hg2, hf2, v0⟩
  · have hk : kept R0 n rs = R0 ++ [(n, rs)] := by unfold kept; rw [if_neg hrs]
    rw [hk] at hin0 ⊢
    obtain ⟨he, hz⟩ := end_all R0 n rs hrs
    rw [he, hz]
    have hus2 : (R0 ++ [(n, rs)]).map (·.1) = R0.map (·.1) ++ [n] := by rw [List.map_append]; rfl
    have hsk := tid_skip (us := (R0 ++ [(n, rs)]).map (·.1)) (es := n) (ez := ((stx rs).length : Int)) (l0.map fun s => (s.num, s.text)) S (fun x hx => by
      obtain ⟨q, hq, rfl⟩ := List.mem_map.1 hx
      refine ⟨hin0 q hq, fun ⟨h1, _⟩ => ?_⟩
      have := hr0.2.2 q hq s (List.mem_singleton.2 rfl)
      simp only at h1
      omega)
    have hta := tid_append (us := (R0 ++ [(n, rs)]).map (·.1)) (es := n) (ez := ((stx rs).length : Int)) (l0.map fun s => (s.num, s.text)) [(s.num, s.text)] S
    have hmn : s.num ∈ (R0 ++ [(n, rs)]).map (·.1) := by rw [hus2, e1]; simp
    have hne : (R0 ++ [(n, rs)]).map (·.1) ≠ [] := by simp
    have hgl : ((R0 ++ [(n, rs)]).map (·.1)).getLast?.getD 0 = s.num := by rw [hus2, e1]; simp
    have hsz : s.text.size = (stx rs).length + y.length := by rw [size_B, e2, List.length_append]
    obtain ⟨s', hT, hsn, hsB, hsf⟩ : ∃ s' : Seg, tid1 S (s.num, s.text) ((R0 ++ [(n, rs)]).map (·.1)) n ((stx rs).length : Int) = ({ S with segs := l0 ++ [s'] }, 0) ∧ s'.num = s.num ∧ B s'.text = stx rs ∧ s'.syn = s'.text.size := by
      by_cases hy : y = []
      · refine ⟨s, ?_, rfl, by rw [e2, hy, List.append_nil], h.full s (by rw [hS]; simp)⟩
        unfold tid1
        rw [if_neg (fun e => e hmn), if_neg (fun e => by
          have h2 := e.2
          rw [hy] at hsz
          simp only [List.length_nil] at hsz
          simp only at h2
          omega), ← hS]
      · have hyl := List.length_pos_iff.2 hy
        refine ⟨{ s with text := s.text.extract 0 (stx rs).length, syn := min s.syn (stx rs).length }, ?_, rfl, ?_, ?_⟩
        · unfold tid1
          rw [if_neg (fun e => e hmn), if_pos ⟨e1, by simp only; omega⟩]
          exact trunc_last h.left hS hr (k := (stx rs).length) (by omega)
        · show B (s.text.extract 0 (stx rs).length) = _
          rw [B_extract, e2]
          simp
        · show min s.syn (stx rs).length = (s.text.extract 0 (stx rs).length).size
          rw [ByteArray.size_extract, h.full s (by rw [hS]; simp)]
          omega
    have hg2 : Dm.Good { S with segs := l0 ++ [s'] } := by
      have := (tid1_fit (fit_of h.good) (s.num, s.text) ((R0 ++ [(n, rs)]).map (·.1)) n ((stx rs).length : Int)).good
      rw [hT] at this
      exact this
    have hf2 : ∀ q ∈ l0 ++ [s'], q.syn = q.text.size := fun q hq => by
      rcases List.mem_append.1 hq with hq | hq
      · exact h.full q (by rw [hS]; exact List.mem_append_left _ hq)
      · rw [List.mem_singleton.1 hq]
        exact hsf
    have hL : tidL ((R0 ++ [(n, rs)]).map (·.1)) n ((stx rs).length : Int) ((l0.map fun s => (s.num, s.text)) ++ [(s.num, s.text)]) S = { S with segs := l0 ++ [s'] } := by
      rw [hta.1, hsk.1]
      show (tid1 S (s.num, s.text) _ _ _).1 = _
      rw [hT]
    have hsy : doSync { S with segs := l0 ++ [s'] } (((R0 ++ [(n, rs)]).map (·.1)).getLast?.getD 0) = ({ S with segs := l0 ++ [s'] }, 0) := by
      rw [hgl, ← hsn]
      exact sync_all (S := { S with segs := l0 ++ [s'] }) h.left hg2 hf2 (by simp)
    refine ⟨⟨hta.2.2 ⟨hsk.2, ?_⟩, fun _ => ?_⟩, ?_⟩
    · rw [hsk.1]
      exact ⟨by rw [hT], trivial⟩
    · rw [hL, hsy]
    · have hE : tidE ((R0 ++ [(n, rs)]).map (·.1)) n ((stx rs).length : Int) ((l0.map fun s => (s.num, s.text)) ++ [(s.num, s.text)]) S = { S with segs := l0 ++ [s'] } := by
        unfold tidE
        rw [if_neg hne, hL, hsy]
      rw [hE]
      refine ⟨h.left, h.room, hg2, hf2, ?_⟩
      show (l0 ++ [s']).map Jr.view = txs (R0 ++ [(n, rs)])
      unfold txs
      rw [List.map_append, List.map_append, v0]
      show _ ++ [(s'.num, B s'.text)] = _
      rw [hsn, hsB, e1]
      rfl
end Go.Proofs.YtmkidefdegaamaaGreatDoor.Jr
namespace Go.Proofs.YtmkidefdegaamaaGreatDoor.Jr
open Bytes Im Dm
theorem Tidied.kd {S : Dk} {R : List (Int × List Rc)} (h : Tidied S R) (hne : ∀ p ∈ R, p.2 ≠ []) (hcl : AllCl hs0 (ents R)) (hp : R.Pairwise fun p q => p.1 < q.1) (most : Int) : Kd (Jof most (hfold hs0 (ents R))) S R [] (hfold hs0 (ents R)) := by
  have hus : husd (hfold hs0 (ents R)) = R.map (·.1) := by
    have h1 := husd_all R hs0 hne hcl hp (fun _ _ z hz => by simp [husd, hs0] at hz)
    rw [h1]
    rfl
  have hnum : S.segs.map (·.num) = R.map (·.1) := by
    have h1 := congrArg (List.map Prod.fst) h.view
    unfold txs at h1
    rw [List.map_map, List.map_map] at h1
    exact h1
  have hsl : (Jof most (hfold hs0 (ents R))).sealed.flatMap (·.2) ++ (Jof most (hfold hs0 (ents R))).opn = R.map (·.1) := by
    rw [← hus]
    unfold husd Jof
    simp only
    rw [List.flatMap_map]
  have hlst : ∀ (R' : List (Int × List Rc)) (m : Int) (ms : List Rc), R = R' ++ [(m, ms)] → (Jof most (hfold hs0 (ents R))).next = m + 1 ∧ (Jof most (hfold hs0 (ents R))).synced = (stx ms).length := fun R' m ms e => by
    have he := end_all R' m ms (hne (m, ms) (by rw [e]; simp))
    rw [← e] at he
    constructor
    · show (hfold hs0 (ents R)).es + 1 = _
      rw [he.1]
    · show (hfold hs0 (ents R)).ez.toNat = _
      rw [he.2]
      exact Int.toNat_natCast _
  have hsplit : R = [] ∨ ∃ R' m ms, R = R' ++ [(m, ms)] := (List.eq_nil_or_concat R).imp id fun ⟨R', p, e⟩ => ⟨R', p.1, p.2, by rw [e, List.concat_eq_append]⟩
  have hjl : (Jof most (hfold hs0 (ents R))).opn ≠ [] → ∀ R' m ms, R = R' ++ [(m, ms)] → jlast (Jof most (hfold hs0 (ents R))) = m := fun ho R' m ms e => by
    obtain ⟨o, z, hoz⟩ : ∃ o z, (Jof most (hfold hs0 (ents R))).opn = o ++ [z] := (List.eq_nil_or_concat _).elim (fun e => absurd e ho) fun ⟨o, z, e⟩ => ⟨o, z, by rw [e, List.concat_eq_append]⟩
    rw [jlast_snoc hoz]
    have h1 := hsl
    rw [hoz, e, List.map_append, ← List.append_assoc] at h1
    have := (List.append_inj' h1 rfl).2
    simpa using this
  have hR : (Jof most (hfold hs0 (ents R))).opn ≠ [] → ∃ R' m ms, R = R' ++ [(m, ms)] := fun ho => hsplit.elim (fun e => by
    rw [e] at hsl
    have h1 := List.append_eq_nil_iff.1 hsl
    rw [← e] at h1
    exact absurd h1.2 ho) id
  have hseg : ∀ (R' : List (Int × List Rc)) (m : Int) (ms : List Rc), R = R' ++ [(m, ms)] → ∃ s ∈ S.segs, s.num = m ∧ s.text.size = (stx ms).length := fun R' m ms e => by
    have h1 : (m, stx ms) ∈ S.segs.map Jr.view := by
      rw [h.view, e]
      unfold txs
      simp
    obtain ⟨s, hs, hse⟩ := List.mem_map.1 h1
    unfold Jr.view at hse
    injection hse with q1 q2
    exact ⟨s, hs, q1, by rw [size_B, q2]⟩
  have huniq : ∀ {s q : Seg}, s ∈ S.segs → q ∈ S.segs → s.num = q.num → s = q := fun {s q} hs hq e => by
    obtain ⟨i, hi⟩ := List.getElem?_of_mem hs
    obtain ⟨j, hj⟩ := List.getElem?_of_mem hq
    have hij := rise_once h.good.rise hi hj e
    rw [hij, hj] at hi
    exact (Option.some.inj hi).symm
  refine ⟨⟨⟨h.left, h.room, h.good, ?_, ?_, ?_, fun ho => ?_⟩, h.view, fun s hs _ => h.full s hs, fun ho => ?_, fun ho s hs hn => ?_, fun _ => rfl⟩, hne, rfl, hcl, rfl, rfl, rfl⟩
  · rw [hnum, hsl]
  · rw [hnum]
    rcases hsplit with e | ⟨R', m, ms, e⟩
    · rw [e]
      intro n hn
      cases hn
    · intro n hn
      rw [(hlst R' m ms e).1]
      rw [e, List.map_append] at hn
      rw [e, List.pairwise_append] at hp
      rcases List.mem_append.1 hn with hn | hn
      · obtain ⟨p, hp1, rfl⟩ := List.mem_map.1 hn
        have := hp.2.2 p hp1 (m, ms) (List.mem_singleton.2 rfl)
        simp only at this
        omega
      · simp at hn
        omega
  · rcases hsplit with e | ⟨R', m, ms, e⟩
    · rw [e]
      show (0 : Int) ≤ -1 + 1
      decide
    · rw [(hlst R' m ms e).1]
      obtain ⟨s, hs, h1, _⟩ := hseg R' m ms e
      have := (h.good.num s hs).1
      omega
  · obtain ⟨R', m, ms, e⟩ := hR ho
    obtain ⟨s, hs, h1, h2⟩ := hseg R' m ms e
    exact ⟨s, hs, by rw [hjl ho R' m ms e, h1], by rw [(hlst R' m ms e).2, h2]; rfl⟩
  · obtain ⟨R', m, ms, e⟩ := hR ho
    refine ⟨R', ms, ?_, (hlst R' m ms e).2, rfl⟩
    rw [hjl ho R' m ms e, List.append_nil]
    exact e
  · obtain ⟨R', m, ms, e⟩ := hR ho
    obtain ⟨q, hq, h1, h2⟩ := hseg R' m ms e
    have hsq : s = q := huniq hs hq (by rw [hn, hjl ho R' m ms e, h1])
    rw [h.full s hs, (hlst R' m ms e).2, hsq, h2]
end Go.Proofs.YtmkidefdegaamaaGreatDoor.Jr
namespace Go.Proofs.YtmkidefdegaamaaGreatDoor.Jr
open Bytes Im Dm
theorem AllCl.ok {h : Hs} {l : List Et} (hc : AllCl h l) : ∀ x ∈ l, x.2.Ok := by
  induction l generalizing h with
  | nil => intro x hx; cases hx
  | cons y l ih =>
    intro x hx
    rcases List.mem_cons.1 hx with e | hx
    · rw [e]
      exact hc.1.ok
    · exact ih hc.2 x hx
theorem mem_ents1 {n : Int} {r : Rc} : ∀ {rs : List Rc} {z : Nat}, r ∈ rs → ∃ x ∈ ents1 n z rs, x.2 = r
  | [], _, h => by cases h
  | q :: rs, z, h => by
    rcases List.mem_cons.1 h with e | h
    · exact ⟨_, List.mem_cons_self .., e.symm⟩
    · obtain ⟨x, h1, h2⟩ := mem_ents1 (z := z + q.tx.length) h
      exact ⟨x, List.mem_cons_of_mem _ h1, h2⟩
theorem Kd.oks {J : Jn} {S : Dk} {R : List (Int × List Rc)} {b : List Rc} {H : Hs} (h : Kd J S R b H) : ∀ p ∈ R, ∀ r ∈ p.2, r.Ok := fun p hp r hr => by
  obtain ⟨x, h1, h2⟩ := mem_ents1 (n := p.1) (z := 0) hr
  rw [← h2]
  exact h.cl.ok x (List.mem_flatMap.2 ⟨p, hp, h1⟩)
/-- The power fails under a journal that has an open segment. -/
theorem Kd.lft {J : Jn} {S : Dk} {R : List (Int × List Rc)} {b : List Rc} {H : Hs} (h : Kd J S R b H) (hne : J.opn ≠ []) (hz : ∀ s ∈ S.segs, s.text.size ≤ 140737488355328) (t : Int) :
    ∃ R0 a e f y, R = R0 ++ [(jlast J, a ++ b)] ∧ b = e ++ f ∧ Told (sgs (doCrash S t)) (R0 ++ [(jlast J, a ++ e)]) ∧ Lft (doCrash S t) R0 (jlast J) (a ++ e) y ∧ ∃ x, ents R = ents (R0 ++ [(jlast J, a ++ e)]) ++ x ∧ x.length = f.length := by
  obtain ⟨R0, a, e, f, y, hR, hb, _, hv, hf, ht⟩ := h.seg.crash h.oks hz t hne
  have he : ents R = ents (R0 ++ [(jlast J, a ++ e)]) ++ ents1 (jlast J) (0 + (stx (a ++ e)).length) f := by
    rw [hR, hb, ents_new, ents_new, ← List.append_assoc a e f, ents1_append, List.append_assoc]
  have hel : ∀ (z : Nat) (l : List Rc), (ents1 (jlast J) z l).length = l.length := fun z l => by
    induction l generalizing z with
    | nil => rfl
    | cons r l ih => simp [ents1, ih]
  have hc := h.cl
  rw [he, allCl_append] at hc
  exact ⟨R0, a, e, f, y, hR, hb, ht, ⟨rfl, rfl, (fit_crash (fit_of h.seg.calm.good) t).good, hf, hv, fun p hp => h.ne p (by rw [hR]; exact List.mem_append_left _ hp), hc.1⟩, _, he, hel _ _⟩
/-- The power fails where all is synced: nothing changes. -/
theorem Kd.whole {J : Jn} {S : Dk} {R : List (Int × List Rc)} {H : Hs} (h : Kd J S R [] H) (t : Int) : doCrash S t = S ∧ Tidied S R :=
  ⟨crash_calm h.seg.calm.left h.seg.calm.room h.seg.full t, h.seg.calm.left, h.seg.calm.room, h.seg.calm.good, h.seg.full, h.seg.segs⟩
/-- A disk where all is whole is tidy. -/
theorem Tidied.tidy {S : Dk} {R : List (Int × List Rc)} (h : Tidied S R) (hne : ∀ p ∈ R, p.2 ≠ []) (hcl : AllCl hs0 (ents R)) (hp : R.Pairwise fun p q => p.1 < q.1) :
    TidFine (husd (hfold hs0 (ents R))) (hfold hs0 (ents R)).es (hfold hs0 (ents R)).ez (sgs S) S ∧ tidE (husd (hfold hs0 (ents R))) (hfold hs0 (ents R)).es (hfold hs0 (ents R)).ez (sgs S) S = S := by
  have hus : husd (hfold hs0 (ents R)) = R.map (·.1) := by
    have h1 := husd_all R hs0 hne hcl hp (fun _ _ z hz => by simp [husd, hs0] at hz)
    rw [h1]
    rfl
  have hnum : S.segs.map (·.num) = R.map (·.1) := by
    have h1 := congrArg (List.map Prod.fst) h.view
    unfold txs at h1
    rw [List.map_map, List.map_map] at h1
    exact h1
  rw [hus]
  have hsk := tid_skip (us := R.map (·.1)) (es := (hfold hs0 (ents R)).es) (ez := (hfold hs0 (ents R)).ez) (sgs S) S (fun x hx => by
    unfold sgs at hx
    obtain ⟨q, hq, rfl⟩ := List.mem_map.1 hx
    exact ⟨by rw [← hnum]; exact List.mem_map_of_mem hq, no_more hne hp h.view q hq⟩)
  have hsy : R.map (·.1) ≠ [] → doSync S ((R.map (·.1)).getLast?.getD 0) = (S, 0) := fun hn => by
    have h2 : (R.map (·.1)).getLast?.getD 0 ∈ S.segs.map (·.num) := by
      rw [hnum, List.getLast?_eq_some_getLast hn]
      exact List.getLast_mem hn
    obtain ⟨q, hq, hqe⟩ := List.mem_map.1 h2
    rw [← hqe]
    exact sync_all h.left h.good h.full hq
  refine ⟨⟨hsk.2, fun hn => by rw [hsk.1, hsy hn]⟩, ?_⟩
  unfold tidE
  rw [hsk.1]
  split
  · rfl
  · rename_i hn
    rw [hsy hn]
end Go.Proofs.YtmkidefdegaamaaGreatDoor.Jr
namespace Go.Proofs.YtmkidefdegaamaaGreatDoor.Jr
open Bytes Im Dm
/-- Bounds of what the records tell. -/
structure HBd (H : Hs) : Prop where
  g : H.g ≤ 1000000000 ∧ -1 ≤ H.g
  es : H.es ≤ 1000000000000 ∧ -1 ≤ H.es
  ez : 0 ≤ H.ez ∧ H.ez ≤ 1000000000000
  up : (H.sealed.map (·.1)).Pairwise (· < ·)
  sn : ∀ s ∈ H.sealed, 0 ≤ s.1 ∧ s.1 ≤ 1000000000
theorem sgs_nums {S : Dk} (hg : Dm.Good S) : ∀ x ∈ sgs S, -9223372036854775808 ≤ x.1 ∧ x.1 ≤ 9223372036854775807 := fun x hx => by
  unfold sgs at hx
  obtain ⟨q, hq, rfl⟩ := List.mem_map.1 hx
  have := hg.num q hq
  exact ⟨by omega, this.2⟩
theorem Lft.opens {S : Dk} {R0 : List (Int × List Rc)} {n : Int} {rs : List Rc} {y : Bs} (h : Lft S R0 n rs y) (ht : Told (sgs S) (R0 ++ [(n, rs)])) (hl : (ents (R0 ++ [(n, rs)])).length ≤ 900000000) (hs : S.segs.length ≤ 1000000000) (hb : HBd (hfold hs0 (ents (kept R0 n rs)))) : OpenOk S (R0 ++ [(n, rs)]) (hfold hs0 (ents (kept R0 n rs))) := by
  obtain ⟨hp, hus, htf, _⟩ := h.tidy
  have hnm : S.segs.map (·.num) = R0.map (·.1) ++ [n] := by
    have h1 := congrArg (List.map Prod.fst) h.view
    unfold txs at h1
    rw [List.map_append, List.map_map, List.map_map] at h1
    exact h1
  have hsub : ∀ z ∈ (kept R0 n rs).map (·.1), z ∈ S.segs.map (·.num) := fun z hz => by
    rw [hnm]
    unfold kept at hz
    split at hz
    · exact List.mem_append_left _ hz
    · rw [List.map_append] at hz
      exact hz
  refine ⟨by rw [kept_ents], ht, h.cl.fits, hl, hb.g, hb.es, hb.ez, sgs_nums h.good, ?_, fun z hz => ?_, ?_, htf, hb.up, hb.sn⟩
  · rw [hus, List.length_map]
    have h1 := congrArg List.length hnm
    rw [List.length_map, List.length_append, List.length_map, List.length_singleton] at h1
    unfold kept
    split
    · omega
    · rw [List.length_append, List.length_singleton]
      omega
  · rw [hus] at hz
    obtain ⟨q, hq, rfl⟩ := List.mem_map.1 (hsub z hz)
    have := h.good.num q hq
    exact ⟨by omega, this.2⟩
  · rw [hus]
    exact List.pairwise_map.2 hp
theorem Tidied.opens {S : Dk} {R : List (Int × List Rc)} (h : Tidied S R) (hne : ∀ p ∈ R, p.2 ≠ []) (hcl : AllCl hs0 (ents R)) (hp : R.Pairwise fun p q => p.1 < q.1) (hz : ∀ s ∈ S.segs, s.text.size ≤ 140737488355328) (hl : (ents R).length ≤ 900000000) (hs : S.segs.length ≤ 1000000000) (hb : HBd (hfold hs0 (ents R))) : OpenOk S R (hfold hs0 (ents R)) := by
  have hus : husd (hfold hs0 (ents R)) = R.map (·.1) := by
    have h1 := husd_all R hs0 hne hcl hp (fun _ _ z hz => by simp [husd, hs0] at hz)
    rw [h1]
    rfl
  have hnum : S.segs.map (·.num) = R.map (·.1) := by
    have h1 := congrArg (List.map Prod.fst) h.view
    unfold txs at h1
    rw [List.map_map, List.map_map] at h1
    exact h1
  refine ⟨rfl, told_full R (sgs S) (by rw [sgs_view]; exact h.view) (fun p hp r hr => ?_) (fun x hx => ?_), hcl.fits, hl, hb.g, hb.es, hb.ez, sgs_nums h.good, ?_, fun z hz => ?_, ?_, (h.tidy hne hcl hp).1, hb.up, hb.sn⟩
  · obtain ⟨x, h1, h2⟩ := mem_ents1 (n := p.1) (z := 0) hr
    rw [← h2]
    exact hcl.ok x (List.mem_flatMap.2 ⟨p, hp, h1⟩)
  · unfold sgs at hx
    obtain ⟨q, hq, rfl⟩ := List.mem_map.1 hx
    exact hz q hq
  · rw [hus, ← hnum, List.length_map]
    exact hs
  · rw [hus, ← hnum] at hz
    obtain ⟨q, hq, rfl⟩ := List.mem_map.1 hz
    have := h.good.num q hq
    exact ⟨by omega, this.2⟩
  · rw [hus]
    exact List.pairwise_map.2 hp
end Go.Proofs.YtmkidefdegaamaaGreatDoor.Jr
namespace Go.Proofs.YtmkidefdegaamaaGreatDoor.Jr
open Bytes Im Dm
theorem Cl.gm {h : Hs} {x : Et} (hb : Bnd h) (hc : Cl h x) : h.g ≤ (hnext h x).g ∧ (x.2.k = 100 ∨ 0 ≤ (hnext h x).g) := by
  obtain ⟨⟨seg, z⟩, ⟨k, n, t⟩⟩ := x
  have hf := hc.fit
  have hn0 : 0 ≤ n := hc.ok.n0
  unfold hfit hfits at hf
  rcases hc.ok.k with e | e | e
  · have e : k = 100 := e
    subst e
    exact ⟨Int.le_refl _, Or.inl rfl⟩
  · have e : k = 115 := e
    subst e
    rw [if_neg (show ¬ (⟨#[(115 : UInt8)]⟩ : ByteArray) = ⟨#[100]⟩ by decide), if_pos rfl] at hf
    simp only [Bool.and_eq_true, decide_eq_true_eq] at hf
    have ho := hb.opn (List.length_pos_iff.1 hf.1)
    have hno : n = h.onum := hf.2
    exact ⟨by show h.g ≤ n; omega, Or.inr hn0⟩
  · have e : k = 98 := e
    subst e
    rw [if_neg (show ¬ (⟨#[(98 : UInt8)]⟩ : ByteArray) = ⟨#[100]⟩ by decide), if_neg (show ¬ (⟨#[(98 : UInt8)]⟩ : ByteArray) = ⟨#[115]⟩ by decide), if_pos rfl] at hf
    simp only [decide_eq_true_eq] at hf
    exact ⟨hf, Or.inr hn0⟩
theorem AllCl.gm {h : Hs} {l : List Et} (hb : Bnd h) (hc : AllCl h l) : h.g ≤ (hfold h l).g ∧ ((hfold h l).g < 0 → ∀ x ∈ l, x.2.k = 100) := by
  induction l generalizing h with
  | nil => exact ⟨Int.le_refl _, fun _ x hx => by cases hx⟩
  | cons y l ih =>
    obtain ⟨h1, h2⟩ := Cl.gm hb hc.1
    obtain ⟨h3, h4⟩ := ih (hb.next hc.1) hc.2
    refine ⟨Int.le_trans h1 h3, fun hg x hx => ?_⟩
    have hg' : (hfold (hnext h y) l).g < 0 := hg
    rcases List.mem_cons.1 hx with e | hx
    · rw [e]
      exact h2.elim id fun e => by omega
    · exact h4 hg' x hx
/-- Nothing but datagrams. -/
theorem AllCl.dgs {h : Hs} {l : List Et} (hc : AllCl h l) (hd : ∀ x ∈ l, x.2.k = 100) : (hfold h l).odgs = h.odgs ++ l.map (·.2.t) ∧ (hfold h l).sealed = h.sealed ∧ (hfold h l).g = h.g ∧ (h.odgs ≠ [] → (hfold h l).onum = h.onum) := by
  induction l generalizing h with
  | nil => exact ⟨by simp [hfold], rfl, rfl, fun _ => rfl⟩
  | cons y l ih =>
    obtain ⟨⟨seg, z⟩, ⟨k, n, t⟩⟩ := y
    have e : k = 100 := hd _ (List.mem_cons_self ..)
    subst e
    have hf := hc.1.fit
    unfold hfit hfits at hf
    rw [if_pos rfl] at hf
    simp only [Bool.and_eq_true, Bool.or_eq_true, decide_eq_true_eq] at hf
    obtain ⟨h1, h2, h3, h4⟩ := ih hc.2 fun x hx => hd x (List.mem_cons_of_mem _ hx)
    have hod : (hnext h ((seg, z), ⟨100, n, t⟩)).odgs = h.odgs ++ [t] := rfl
    have hon : (hnext h ((seg, z), ⟨100, n, t⟩)).onum = n := rfl
    refine ⟨?_, h2, h3, fun hne => ?_⟩
    · have h1' : (hfold h (((seg, z), ⟨100, n, t⟩) :: l)).odgs = _ := h1
      rw [h1', hod, List.append_assoc]
      rfl
    · have h5 := h4 (by rw [hod]; simp)
      have h5' : (hfold h (((seg, z), ⟨100, n, t⟩) :: l)).onum = _ := h5
      rw [h5', hon]
      have hl : 0 < h.odgs.length := List.length_pos_iff.2 hne
      simp [hl] at hf
      exact hf.2
theorem hent_ne (seg : Int) (l : List Int) : hent seg l ≠ [] := by
  unfold hent
  split
  · rename_i h
    intro e
    rw [e] at h
    cases h
  · simp
theorem opened {h : Hs} {l : List Et} (h0 : h.odgs ≠ [] → h.osegs ≠ []) : (hfold h l).odgs ≠ [] → (hfold h l).osegs ≠ [] := by
  induction l generalizing h with
  | nil => exact h0
  | cons y l ih =>
    refine ih (h := hnext h y) fun hd => ?_
    have hd' : (htk h y.1.1 y.2).odgs ≠ [] := hd
    show (htk h y.1.1 y.2).osegs ≠ []
    unfold htk at hd' ⊢
    split
    · simp
    · rename_i hk
      rw [if_neg hk] at hd'
      split
      · rename_i hs
        rw [if_pos hs] at hd'
        exact absurd rfl hd'
      · exact hent_ne _ _
/-- How many bytes records have. -/
def tsz (R : List (Int × List Rc)) : Nat := (R.map fun p => (stx p.2).length).sum
theorem tsz_append (a b : List (Int × List Rc)) : tsz (a ++ b) = tsz a + tsz b := by simp [tsz]
theorem used_txs {R : List (Int × List Rc)} {l : List Seg} (h : l.map view = txs R) : Dm.used l = tsz R := by
  have h1 := congrArg (List.map fun x : Int × Bs => x.2.length) h
  unfold txs at h1
  rw [List.map_map, List.map_map] at h1
  have h2 : l.map (·.text.size) = l.map ((fun x : Int × Bs => x.2.length) ∘ view) := List.map_congr_left fun s _ => size_B s.text
  unfold Dm.used tsz
  rw [h2, h1]
  rfl
theorem stx_len (rs : List Rc) : rs.length ≤ (stx rs).length := by
  induction rs with
  | nil => exact Nat.le_refl _
  | cons r rs ih =>
    have h1 : stx (r :: rs) = r.tx ++ stx rs := rfl
    have h2 := tx_pos r
    rw [h1, List.length_append, List.length_cons]
    omega
theorem ents1_len (n : Int) (z : Nat) (l : List Rc) : (ents1 n z l).length = l.length := by
  induction l generalizing z with
  | nil => rfl
  | cons r l ih => simp [ents1, ih]
theorem ents_len (R : List (Int × List Rc)) : (ents R).length ≤ tsz R := by
  induction R with
  | nil => exact Nat.le_refl _
  | cons p R ih =>
    have h1 : ents (p :: R) = ents1 p.1 0 p.2 ++ ents R := rfl
    have h2 : tsz (p :: R) = (stx p.2).length + tsz R := by simp [tsz]
    rw [h1, h2, List.length_append, ents1_len]
    have := stx_len p.2
    omega
/-- The last place lies on the disk. -/
theorem end_in {R : List (Int × List Rc)} (hne : ∀ p ∈ R, p.2 ≠ []) : ((hfold hs0 (ents R)).es = -1 ∧ (hfold hs0 (ents R)).ez = 0) ∨ ∃ p ∈ R, (hfold hs0 (ents R)).es = p.1 ∧ (hfold hs0 (ents R)).ez = ((stx p.2).length : Int) := by
  rcases List.eq_nil_or_concat R with rfl | ⟨R', p, e⟩
  · exact Or.inl ⟨rfl, rfl⟩
  · rw [List.concat_eq_append] at e
    obtain ⟨m, ms⟩ := p
    subst e
    have he := end_all R' m ms (hne (m, ms) (by simp))
    exact Or.inr ⟨(m, ms), by simp, he.1, he.2⟩
theorem tsz_mem {R : List (Int × List Rc)} {p : Int × List Rc} (h : p ∈ R) : (stx p.2).length ≤ tsz R := by
  induction R with
  | nil => cases h
  | cons q R ih =>
    have h2 : tsz (q :: R) = (stx q.2).length + tsz R := by simp [tsz]
    rcases List.mem_cons.1 h with e | h
    · rw [h2, e]
      omega
    · have := ih h
      omega
end Go.Proofs.YtmkidefdegaamaaGreatDoor.Jr
namespace Go.Proofs.YtmkidefdegaamaaGreatDoor.Dd
open Go.RowKit Bytes Im Wm Dm Jr Sk Mem Foot Wi Kr
/-- A daemon, and what its disk's records tell. -/
structure DK (D : Dn) (R : List (Int × List Rc)) (b : List Rc) (H : Hs) (n : Nat) : Prop where
  ok : DOk D (H.odgs.map B) n
  kd : Kd D.J D.S R b H
  num : H.odgs ≠ [] → H.onum = D.num
  due : D.due = dueOf D.c H.sealed
  dg : ∀ s ∈ H.sealed, DgOk s.2.1
  most : D.J.most = D.c 5
theorem DK.bnd {D : Dn} {R : List (Int × List Rc)} {b : List Rc} {H : Hs} {n : Nat} (h : DK D R b H n) : Bnd H := by
  have h1 := bnd0.all h.kd.cl
  rw [h.kd.is] at h1
  exact h1
theorem DK.tsz {D : Dn} {R : List (Int × List Rc)} {b : List Rc} {H : Hs} {n : Nat} (h : DK D R b H n) : Dm.used D.S.segs = Jr.tsz R := used_txs h.kd.seg.segs
theorem DK.dgok {D : Dn} {R : List (Int × List Rc)} {b : List Rc} {H : Hs} {n : Nat} (h : DK D R b H n) (hn : n ≤ 100000000) : DgOk H.odgs := by
  refine ⟨fun d hd => ?_, ?_, ?_⟩
  · have h1 := h.ok.short (B d) (List.mem_map_of_mem hd)
    rw [← size_B] at h1
    omega
  · have := h.ok.lines
    omega
  · have := h.ok.len
    rw [List.length_map] at this
    omega
/-- A datagram taken. -/
theorem DK.write {D : Dn} {R : List (Int × List Rc)} {b : List Rc} {H : Hs} {n : Nat} (h : DK D R b H n) (hn : n ≤ 100000000) {s : ByteArray} (hs : s.size ≤ 256) :
    ∃ R' b' H', DK (dwrite D s) R' b' H' (n + s.size + 1) ∧ H'.odgs = H.odgs ++ [s] ∧ H'.sealed = H.sealed ∧ H'.g = H.g ∧ (ents R).length - b.length ≤ (ents R').length - b'.length := by
  have h1 := (h.ok.write hn hs).1
  have hg := h.ok.great
  have hm := h.ok.num
  obtain ⟨J', S', R', b', H', e, k, a1, a2, a3, a4, _, a6, _⟩ := h.kd.write (by have := h.ok.next; omega) ⟨hg.1, by omega⟩ D.num s ⟨Or.inl rfl, hm.1, hm.2, by show s.size ≤ 1000000; omega⟩ (by rw [h.kd.g]; exact hg.2)
    (Classical.byCases (fun e : H.odgs = [] => Or.inl e) fun e => Or.inr (h.num e).symm) (fun e => Classical.byContradiction fun hne => h.ok.opn (by
      rw [h.ok.cnt, List.length_map]
      exact List.length_pos_iff.2 hne) e)
  have hmo : J'.most = D.J.most := by
    obtain ⟨J2, S2, e2, _, _, _, _, _, e3, _⟩ := h.kd.seg.calm.write (by have := h.ok.next; omega) D.num s
    rw [e] at e2
    injection e2 with e2 _
    rw [e2]
    exact e3
  refine ⟨R', b', H', ⟨?_, ?_, fun _ => a2, ?_, by rw [a3]; exact h.dg, ?_⟩, a1, a3, a4, a6⟩
  · rw [a1, List.map_append]
    exact h1
  · show Kd (jwrite D.J D.S D.num s).1 (jwrite D.J D.S D.num s).2.1 R' b' H'
    rw [e]
    exact k
  · rw [a3]
    exact h.due
  · show (jwrite D.J D.S D.num s).1.most = D.c 5
    rw [e]
    exact hmo.trans h.most
theorem DK.sync {D : Dn} {R : List (Int × List Rc)} {b : List Rc} {H : Hs} {n : Nat} (h : DK D R b H n) : DK (dsync D) R [] H n := by
  obtain ⟨J', S', e, k, _⟩ := h.kd.sync
  have hmo : J'.most = D.J.most := by
    obtain ⟨J2, S2, e2, _, _, _, _, _, _, e3, _⟩ := h.kd.seg.calm.sync
    rw [e] at e2
    injection e2 with e2 _
    rw [e2]
    exact e3
  refine ⟨h.ok.sync.1, ?_, h.num, h.due, h.dg, ?_⟩
  · show Kd (jsync D.J D.S).1 (jsync D.J D.S).2.1 R [] H
    rw [e]
    exact k
  · show (jsync D.J D.S).1.most = D.c 5
    rw [e]
    exact hmo.trans h.most
theorem DK.tick {D : Dn} {R : List (Int × List Rc)} {b : List Rc} {H : Hs} {n : Nat} (h : DK D R b H n) {t : Int} (h0 : 0 ≤ t) (h1 : t ≤ 1000000000) : DK { D with clock := t } R b H n :=
  ⟨{ h.ok with clk := ⟨h0, h1⟩ }, h.kd, h.num, h.due, h.dg, h.most⟩
/-- The open window sealed. -/
theorem DK.turn {D : Dn} {R : List (Int × List Rc)} {b : List Rc} {H : Hs} {n : Nat} (h : DK D R b H n) (hn : n ≤ 100000000) {t : Int} (h0 : 0 ≤ t) (h1 : t ≤ 1000000000) (hq : D.num < t / D.c 0) (hod : H.odgs ≠ []) :
    ∃ R' H', DK (dclock D t) R' [] H' (n + 1) ∧ H'.odgs = [] ∧ H'.osegs = [] ∧ H'.g = D.num ∧ (∃ o, H'.sealed = H.sealed ++ [(D.num, H.odgs, o)]) ∧ (dclock D t).num = t / D.c 0 ∧ (dclock D t).clock = t ∧ (dclock D t).c = D.c := by
  have hT := h.tick h0 h1
  have hcnt : 0 < D.count := by
    rw [h.ok.cnt, List.length_map]
    exact List.length_pos_iff.2 hod
  have hon := h.num hod
  have hm := h.ok.num
  have hdo := h.dgok hn
  have he : dclock D t = { D with clock := t, J := (jseal D.J D.S D.num).1, S := (jseal D.J D.S D.num).2.1, due := insM ⟨D.num, dtext D⟩ D.due, num := t / D.c 0, count := 0, W := win0 } := by
    unfold dclock dturn
    rw [if_neg (show ¬ t / D.c 0 ≤ D.num by omega), if_pos hcnt]
    rfl
  have hok := hT.ok.turn.1
  rw [if_neg (show ¬ t / D.c 0 ≤ D.num by omega)] at hok
  have hlt : ∀ p ∈ D.J.sealed, p.1 < H.onum := fun p hp => by
    have h2 : p.1 ∈ D.due.map (·.k) := by
      rw [← h.ok.keys]
      exact List.mem_map_of_mem hp
    obtain ⟨m, hm', e⟩ := List.mem_map.1 h2
    rw [← e, hon]
    exact h.ok.lt m hm'
  obtain ⟨J', S', R', H', e, k, a1, a2, a3, a4, _, a6, _⟩ := h.kd.seal (h.ok.opn hcnt) hod (by rw [hon]; exact hm) hlt
  rw [hon] at e a1 a4
  have hmo : J'.most = D.J.most := by
    obtain ⟨J2, S2, e2, _, _, _, _, _, e3, _⟩ := h.kd.seg.calm.seal (h.ok.opn hcnt) (win := D.num) (fun hm' => by
      obtain ⟨p, hp, e⟩ := List.mem_map.1 hm'
      have := hlt p hp
      omega)
    rw [e] at e2
    injection e2 with e2 _
    rw [e2]
    exact e3
  have hdu : insM ⟨D.num, dtext D⟩ D.due = dueOf D.c H'.sealed := by
    rw [insM_end fun x hx => h.ok.lt x hx, a1, h.due]
    unfold dueOf
    rw [List.map_append]
    congr 1
    unfold dtext
    rw [h.ok.win]
    rfl
  refine ⟨R', H', ⟨by rw [a2]; exact hok, ?_, fun e => absurd a2 e, ?_, fun s hs => ?_, ?_⟩, a2, ?_, a4, ⟨_, a1⟩, ?_, ?_, ?_⟩
  · rw [he]
    show Kd (jseal D.J D.S D.num).1 (jseal D.J D.S D.num).2.1 R' [] H'
    rw [e]
    exact k
  · rw [he]
    exact hdu
  · rw [a1] at hs
    rcases List.mem_append.1 hs with hs | hs
    · exact h.dg s hs
    · rw [List.mem_singleton.1 hs]
      exact hdo
  · rw [he]
    show (jseal D.J D.S D.num).1.most = D.c 5
    rw [e]
    exact hmo.trans h.most
  · rw [k.opn]
    exact a6
  · rw [he]
  · rw [he]
  · rw [he]
end Go.Proofs.YtmkidefdegaamaaGreatDoor.Dd
