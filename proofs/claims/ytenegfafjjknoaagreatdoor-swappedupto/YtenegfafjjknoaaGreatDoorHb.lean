/- strings.Builder: what a write leaves. -/
import Derived.Test.YtenegfafjjknoaaGreatDoorHrx
import Derived.Test.YtenegfafjjknoaaGreatDoorShelf
import Derived.Lib.AppendStr
import Derived.Lib.Builder
namespace Go.Proofs.YtenegfafjjknoaaGreatDoor.Hb
open Go.RowKit Mem Foot Hk

theorem infoByte : (Tryz.prog.info? 5).map (fun i => (i.zero, i.size, i.bytes)) = some (some (.int .u8 0), 1, 1) := by kernel_rfl

theorem infoB : ∃ j, Tryz.prog.info? 130 = some j ∧ j.size = 2 := by
  have h : (Tryz.prog.info? 130).map (·.size) = some 2 := by kernel_rfl
  obtain ⟨j, h1, h2⟩ := Option.map_eq_some_iff.1 h
  exact ⟨j, h1, h2⟩

/-- A builder that holds these bytes. -/
structure BuAt (w : World) (B b : Nat) (v : Value) (bs : List UInt8) : Prop where
  head : Sits w b 130 #[.pointer none, v] ∨ Sits w b 130 #[.pointer (some ⟨b, 0, none⟩), v]
  row : w.ownsRow B 5 1 v bs.length (Lib.byteCells bs)
  base : B ≤ b

theorem copyCheck_used (b : Nat) (w : World) (h0 : w.cell? ⟨b, 0, none⟩ = some (.pointer (some ⟨b, 0, none⟩))) :
    Calls Tryz.prog 143 #[.pointer (some ⟨b, 0, none⟩)] w fun e w' => e = .returned (.tuple #[]) ∧ w' = w := by
  obtain ⟨j, hj, _⟩ := infoB
  have hne := Lib.run_neq_ptr_same (P := Tryz.prog) w ⟨b, 0, none⟩ Tryz.underlying128 hj
  go_enter Tryz.func143, Tryz.ntmps143
  go_wp2
  go_end0
  exact ⟨rfl, rfl⟩

theorem lies : liesAt Tryz.prog Tryz.prog.depth 130 (2 / Tryz.prog.cellsOf 130) 0 130 1 = true := by kernel_rfl

set_option maxHeartbeats 1000000 in
set_option maxRecDepth 100000 in
theorem copyCheck_fresh (b : Nat) (w : World) (h0 : w.cell? ⟨b, 0, none⟩ = some (.pointer none)) (hsh : w.shape? b = some (130, 2)) (hfz : w.frozen? ⟨b, 0, none⟩ = false) :
    Calls Tryz.prog 143 #[.pointer (some ⟨b, 0, none⟩)] w fun e w' => e = .returned (.tuple #[]) ∧ w' = w.setCell ⟨b, 0, none⟩ (.pointer (some ⟨b, 0, none⟩)) := by
  obtain ⟨j, hj, hjs⟩ := infoB
  have hne := fun w => Lib.run_neq_ptr_same (P := Tryz.prog) w ⟨b, 0, none⟩ Tryz.underlying128 hj
  go_enter Tryz.func143, Tryz.ntmps143
  go_wp2
  rw [Lib.run_to_unsafe w ⟨b, 0, none⟩ Tryz.underlying128 Tryz.underlying249 hj (by rw [hjs]; decide) hsh (Nat.zero_lt_succ 1)]
  simp only [Result.andThen]
  rw [Oper.upon_value]
  go_wp2
  rw [run_callFunc_extern Tryz.func189 (by kernel_rfl) (by kernel_rfl) (by kernel_rfl) (e := Extern.AbiNoEscape.same) (by kernel_rfl)]
  rw [Lib.run_noEscape]
  simp only [Result.andThen]
  rw [Oper.upon_value]
  go_wp2
  rw [Lib.run_from_unsafe w ⟨b, 0, none⟩ Tryz.underlying249 Tryz.underlying128 hj hsh lies]
  simp only [Result.andThen]
  rw [Oper.upon_value]
  go_wp2
  go_end0
  exact ⟨rfl, rfl⟩

theorem copyCheck (B b : Nat) (v : Value) (bs : List UInt8) (w : World) (h : BuAt w B b v bs) :
    Calls Tryz.prog 143 #[.pointer (some ⟨b, 0, none⟩)] w fun e w' => e = .returned (.tuple #[]) ∧ Off [b] w w' ∧ Sits w' b 130 #[.pointer (some ⟨b, 0, none⟩), v] := by
  rcases h.head with h1 | h1
  · refine (copyCheck_fresh b w (h1.cell 0 _ rfl) ?_ (h1.frozen 0)).mono ?_
    · unfold Sits at h1
      simp [World.shape?, h1]
    · rintro e w' ⟨rfl, rfl⟩
      exact ⟨rfl, (Off.refl _ w).set (by simp) _ _, h1.set 0 _⟩
  · refine (copyCheck_used b w (h1.cell 0 _ rfl)).mono ?_
    rintro e w' ⟨rfl, rfl⟩
    exact ⟨rfl, Off.refl _ _, h1⟩

theorem own_off2 {F : List Nat} {w w' : World} {e : TypeId} {v : Value} {n base : Nat} {xs : List Value} {size : Nat} (h : w.ownsRow base e size v n xs) (ho : Off F w w') (hF : ∀ k ∈ v.ownBlock.toList, k ∉ F) : w'.ownsRow base e size v n xs := by
  refine ⟨h.1, ?_⟩
  rcases h.2 with h0 | ⟨g, cap, cur, rfl, h1, hg, h2⟩
  · exact Or.inl h0
  · refine Or.inr ⟨g, cap, cur, rfl, h1, ?_, h2⟩
    rw [ho.block g (Array.getElem?_eq_some_iff.1 hg).1 (hF g (by simp [Value.ownBlock]))]
    exact hg

theorem sits_row {w : World} {base size n : Nat} {e : TypeId} {v : Value} {xs : List Value} (h : w.ownsRow base e size v n xs) {k : Nat} (hk : k ∈ v.ownBlock.toList) : ∃ cs, Sits w k e cs := by
  have hk' : v.ownBlock = some k := by simpa using hk
  rcases h.2 with ⟨rfl, _⟩ | ⟨g, cap, cur, rfl, _, hg, _⟩
  · simp [Value.ownBlock] at hk'
  · simp [Value.ownBlock] at hk'
    subst hk'
    exact ⟨cur, hg⟩

theorem grown_off {w w' : World} {o : Option Nat} (h : w.grownBy w' o) : Off o.toList w w' :=
  ⟨h.os, h.tape, h.output, h.size, fun k hk hF => h.block k hk (fun e => hF (by simp [← e]))⟩

theorem BuAt.off {F : List Nat} {w w' : World} {B b : Nat} {v : Value} {bs : List UInt8} (h : BuAt w B b v bs) (ho : Off F w w') (hb : b ∉ F) (hF : ∀ k ∈ v.ownBlock.toList, k ∉ F) : BuAt w' B b v bs :=
  ⟨h.head.imp (fun h => Foot.Sits.off h ho hb) (fun h => Foot.Sits.off h ho hb), own_off2 h.row ho hF, h.base⟩

theorem BuAt.keep {w w' : World} {B b : Nat} {v : Value} {bs : List UInt8} (h : BuAt w B b v bs) (hb : Below w.heap.size w w') : BuAt w' B b v bs :=
  h.off (F := []) (Off.of_below hb) (by simp) (by simp)

/-- What it may write. -/
def bfoot (b : Nat) (v : Value) : List Nat := b :: v.ownBlock.toList

theorem BuAt.noT {w : World} {B b : Nat} {v : Value} {bs : List UInt8} (h : BuAt w B b v bs) (t : TypeId) (n1 : t ≠ 130) (n2 : t ≠ 5) : ∀ k cs, Sits w k t cs → k ∉ bfoot b v := by
  intro k cs hk hm
  rcases List.mem_cons.1 hm with e | e
  · rcases h.head with h1 | h1 <;> exact sits_ne hk h1 n1 e
  · obtain ⟨cs', h1⟩ := sits_row h.row e
    exact sits_ne hk h1 n2 rfl

theorem BuAt.noMap {w : World} {B b k : Nat} {v : Value} {bs : List UInt8} {es : Array MapEntry} {clock : Nat} (h : BuAt w B b v bs) (hk : w.heap[k]? = some (.map es clock)) : k ∉ bfoot b v := by
  intro hm
  have : ∀ t cs, ¬ Sits w k t cs := fun t cs hs => by
    unfold Sits at hs
    rw [hk] at hs
    cases hs
  rcases List.mem_cons.1 hm with e | e
  · subst e
    rcases h.head with h1 | h1 <;> exact this _ _ h1
  · obtain ⟨cs', h1⟩ := sits_row h.row e
    exact this _ _ h1

set_option maxHeartbeats 2000000 in
set_option maxRecDepth 10000 in
/-- A write: the bytes behind. -/
theorem writeString (B b : Nat) (v : Value) (bs : List UInt8) (s : ByteArray) (w : World) (h : BuAt w B b v bs) (hlen : bs.length + s.size ≤ 140737488355328) :
    Calls Tryz.prog 90 #[.pointer (some ⟨b, 0, none⟩), .string s] w fun e w' => e = .returned (.tuple #[.int .i64 s.size, .nilIface]) ∧ Off (bfoot b v) w w' ∧ ∃ v', BuAt w' B b v' (bs ++ Bytes.B s) := by
  obtain ⟨i0, hi, hz0, hz1, hz2⟩ := info_parts infoByte
  have hcc := copyCheck B b v bs w h
  have HB := hide h
  clear h
  go_enter Tryz.func90, Tryz.ntmps90
  go_wp2_with fail
  refine hcc.mono ?_
  clear hcc
  rintro e w1 ⟨rfl, ho1, hs1⟩
  have hne : ∀ k ∈ v.ownBlock.toList, k ∉ [b] := fun k hk hm => by
    rw [List.mem_singleton] at hm
    obtain ⟨cs', h1⟩ := sits_row HB.out.row hk
    rcases HB.out.head with h2 | h2 <;> exact sits_ne h1 h2 (by decide) hm
  have hown : w1.ownsRow B 5 1 v bs.length (Lib.byteCells bs) := own_off2 HB.out.row ho1 hne
  have c1 := hs1.cell 1 _ rfl
  have hBw : B ≤ w1.heap.size := by
    have h1 := HB.out.base
    have h2 := hs1.lt
    omega
  have HO := hide ho1
  have HS := hide hs1
  have HN := hide hne
  clear ho1 hs1 hne
  obtain ⟨ao, cp, rfl⟩ := Own.shape hown
  go_wp2_with (at_builtin; refine Lib.wpList_append_own_string _ rfl _ _ 97 9 rfl B 5 i0 Tryz.underlying97 Tryz.underlying9 hi hz0 hz1 hz2 _ _ _ rfl hown s rfl (by unfold maxLen; omega) (by omega) hBw ?_; intro v' w2 hown' hgrow _; obtain ⟨ao', cp', rfl⟩ := Own.shape hown'; have HG := hide (show w1.grownBy w2 (Value.slice ao bs.length cp).ownBlock from hgrow); have HS2 := hide (Foot.Sits.off HS.out (grown_off HG.out) (fun hm => HN.out b hm (by simp))); have d1 := HS2.out.cell 1 _ rfl; have z1 := HS2.out.frozen 1)
  go_ret2
  have HO2 : Off (bfoot b (Value.slice ao bs.length cp)) w (w2.setCell ⟨b, 1, none⟩ (.slice ao' (bs.length + s.size) cp')) :=
    (((HO.out.mono fun k _ hk => by rw [List.mem_singleton] at hk; rw [hk]; exact List.mem_cons_self ..).trans ((grown_off HG.out).mono fun k _ hk => List.mem_cons_of_mem _ hk)).set (List.mem_cons_self ..) _ _)
  refine ⟨rfl, HO2, _, Or.inr (HS2.out.set 1 _), ?_, HB.out.base⟩
  have e1 : Lib.byteCells (bs ++ Bytes.B s) = Lib.byteCells bs ++ Lib.strCells s := by simp [Lib.byteCells, Lib.strCells, Bytes.B]
  rw [e1, List.length_append, ← Bytes.size_B]
  refine own_off2 hown' ((Off.refl [b] w2).set (by simp) _ _) fun k hk hm => ?_
  rw [List.mem_singleton] at hm
  obtain ⟨cs', h1⟩ := sits_row hown' hk
  exact sits_ne h1 HS2.out (by decide) hm

theorem BuAt.is {w : World} {B b : Nat} {v : Value} {bs : List UInt8} (h : BuAt w B b v bs) : Lib.IsBuilder 130 5 B b (Lib.byteCells bs) w := by
  have hr : w.ownsRow B 5 1 v (Lib.byteCells bs).length (Lib.byteCells bs) := by
    rw [Lib.byteCells_length]
    exact h.row
  have hne : v.ownBlock ≠ some b := fun e => by
    obtain ⟨cs', h1⟩ := sits_row h.row (k := b) (by simp [e])
    rcases h.head with h2 | h2 <;> exact sits_ne h1 h2 (by decide) rfl
  rcases h.head with h1 | h1
  · exact Or.inl ⟨h.base, v, h1, hr, hne⟩
  · exact Or.inr ⟨h.base, v, h1, hr, hne⟩

theorem stringOf (B b : Nat) (v : Value) (bs : List UInt8) (w : World) (h : BuAt w B b v bs) :
    Calls Tryz.prog 94 #[.pointer (some ⟨b, 0, none⟩)] w fun e w' => e = .returned (.string ⟨bs.toArray⟩) ∧ Below B w w' :=
  Tryz.Builder_String_any B b bs w h.is (by
    have h1 := h.base
    have h2 : b < w.heap.size := by rcases h.head with h2 | h2 <;> exact h2.lt
    omega)

end Go.Proofs.YtenegfafjjknoaaGreatDoor.Hb
