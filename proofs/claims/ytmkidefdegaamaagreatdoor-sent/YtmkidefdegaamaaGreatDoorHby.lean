/- strings.Builder: what a write leaves. -/
import Derived.Test.YtmkidefdegaamaaGreatDoorKeysly
import Derived.Test.YtmkidefdegaamaaGreatDoorShelf
import Derived.Lib.AppendStr
import Derived.Lib.Builder
import Derived.Shelf.Strings.Builder1
import Derived.Shelf.Strings.Builder2
import Derived.Shelf.Strings.OnBuilder
import Derived.Shelf.Strings.Trim
import Derived.Shelf.Small.Bits
import Derived.Shelf.Small.Strs
import Derived.Shelf.Small.Wraps
import Derived.Shelf.Strings.BuilderF
import Derived.Shelf.Strconv.Itoa0
import Derived.Shelf.Strconv.Itoa1
import Derived.Shelf.LaysM
import Derived.Shelf.Strconv.Itoa2
import Derived.Shelf.Strconv.Itoa3
import Derived.Shelf.Strings.Search1
import Derived.Shelf.Strings.Search2
import Derived.Shelf.Strings.Search3
import Derived.Shelf.Strings.Cut
import Derived.Shelf.Strings.Count
import Derived.Shelf.Sort.Plain
import Derived.Shelf.Strings.Prefix
import Derived.Shelf.Strings.Split
import Derived.Shelf.Strings.SplitShaped
import Derived.Shelf.Unicode.Decode
import Derived.Shelf.Strings.RuneCount
import Derived.Shelf.Strings.Explode
import Derived.Shelf.Bits.Mul64
import Derived.Shelf.Strings.Repeat
import Derived.Shelf.Slices.CompactS
import Derived.Shelf.Slices.Cells
import Derived.Shelf.Slices.In.SortNone
import Derived.Test.YtmkidefdegaamaaGreatDoorProg
namespace Go.Proofs.YtmkidefdegaamaaGreatDoor.Hb
open Go.RowKit Mem Foot Hk
theorem infoByte : (Tryz.prog.info? 5).map (fun i => (i.zero, i.size, i.bytes)) = some (some (.int .u8 0), 1, 1) := by kernel_rfl
theorem infoB : ∃ j, Tryz.prog.info? 108 = some j ∧ j.size = 2 := by
  have h : (Tryz.prog.info? 108).map (·.size) = some 2 := by kernel_rfl
  obtain ⟨j, h1, h2⟩ := Option.map_eq_some_iff.1 h
  exact ⟨j, h1, h2⟩
/-- A builder that holds these bytes. -/
structure BuAt (w : World) (B b : Nat) (v : Value) (bs : List UInt8) : Prop where
  head : Sits w b 108 #[.pointer none, v] ∨ Sits w b 108 #[.pointer (some ⟨b, 0, none⟩), v]
  row : w.ownsRow B 5 1 v bs.length (Lib.byteCells bs)
  base : B ≤ b
theorem copyCheck_used (b : Nat) (w : World) (h0 : w.cell? ⟨b, 0, none⟩ = some (.pointer (some ⟨b, 0, none⟩))) :
    Calls Tryz.prog 79 #[.pointer (some ⟨b, 0, none⟩)] w fun e w' => e = .returned (.tuple #[]) ∧ w' = w := by
  obtain ⟨j, hj, _⟩ := infoB
  have hne := Lib.run_neq_ptr_same (P := Tryz.prog) w ⟨b, 0, none⟩ Tryz.underlying105 hj
  go_enter Tryz.func79, Tryz.ntmps79
  go_wp2
  go_end0
  exact ⟨rfl, rfl⟩
theorem lies : liesAt Tryz.prog Tryz.prog.depth 108 (2 / Tryz.prog.cellsOf 108) 0 108 1 = true := by kernel_rfl
set_option maxHeartbeats 1000000 in
set_option maxRecDepth 100000 in
theorem copyCheck_fresh (b : Nat) (w : World) (h0 : w.cell? ⟨b, 0, none⟩ = some (.pointer none)) (hsh : w.shape? b = some (108, 2)) (hfz : w.frozen? ⟨b, 0, none⟩ = false) :
    Calls Tryz.prog 79 #[.pointer (some ⟨b, 0, none⟩)] w fun e w' => e = .returned (.tuple #[]) ∧ w' = w.setCell ⟨b, 0, none⟩ (.pointer (some ⟨b, 0, none⟩)) := by
  obtain ⟨j, hj, hjs⟩ := infoB
  have hne := fun w => Lib.run_neq_ptr_same (P := Tryz.prog) w ⟨b, 0, none⟩ Tryz.underlying105 hj
  go_enter Tryz.func79, Tryz.ntmps79
  go_wp2
  rw [Lib.run_to_unsafe w ⟨b, 0, none⟩ Tryz.underlying105 Tryz.underlying194 hj (by rw [hjs]; decide) hsh (Nat.zero_lt_succ 1)]
  simp only [Result.andThen]
  rw [Oper.upon_value]
  go_wp2
  rw [run_callFunc_extern Tryz.func104 (by kernel_rfl) (by kernel_rfl) (by kernel_rfl) (e := Extern.AbiNoEscape.same) (by kernel_rfl)]
  rw [Lib.run_noEscape]
  simp only [Result.andThen]
  rw [Oper.upon_value]
  go_wp2
  rw [Lib.run_from_unsafe w ⟨b, 0, none⟩ Tryz.underlying194 Tryz.underlying105 hj hsh lies]
  simp only [Result.andThen]
  rw [Oper.upon_value]
  go_wp2
  go_end0
  exact ⟨rfl, rfl⟩
theorem copyCheck (B b : Nat) (v : Value) (bs : List UInt8) (w : World) (h : BuAt w B b v bs) :
    Calls Tryz.prog 79 #[.pointer (some ⟨b, 0, none⟩)] w fun e w' => e = .returned (.tuple #[]) ∧ Off [b] w w' ∧ Sits w' b 108 #[.pointer (some ⟨b, 0, none⟩), v] := by
  rcases h.head with h1 | h1
  · refine (copyCheck_fresh b w (h1.cell 0 _ rfl) ?_ (h1.frozen 0)).mono ?_
    · unfold Sits at h1
      simp [World.shape?, h1]
    · rintro e w' ⟨rfl, rfl⟩
      exact ⟨rfl, (Off.refl _ w).set (by simp) _ _, h1.set 0 _⟩
  · refine (copyCheck_used b w (h1.cell 0 _ rfl)).mono ?_
    rintro e w' ⟨rfl, rfl⟩
    exact ⟨rfl, Off.refl _ _, h1⟩
theorem own_off2 {F : List Nat} {w w' : World} {e : TypeId} {v : Value} {n base : Nat} {xs : List Value} {size : Nat} (h : w.ownsRow base e size v n xs) (ho : Off F w w') (hF : ∀ k ∈ v.ownBlock.toList, k ∉ F) : w'.ownsRow base e size v n xs := by
  refine ⟨h.1, ?_⟩
  rcases h.2 with h0 | ⟨g, cap, cur, rfl, h1, hg, h2⟩
  · exact Or.inl h0
  · refine Or.inr ⟨g, cap, cur, rfl, h1, ?_, h2⟩
    rw [ho.block g (Array.getElem?_eq_some_iff.1 hg).1 (hF g (by simp [Value.ownBlock]))]
    exact hg
theorem sits_row {w : World} {base size n : Nat} {e : TypeId} {v : Value} {xs : List Value} (h : w.ownsRow base e size v n xs) {k : Nat} (hk : k ∈ v.ownBlock.toList) : ∃ cs, Sits w k e cs := by
  have hk' : v.ownBlock = some k := by simpa using hk
  rcases h.2 with ⟨rfl, _⟩ | ⟨g, cap, cur, rfl, _, hg, _⟩
  · simp [Value.ownBlock] at hk'
  · simp [Value.ownBlock] at hk'
    subst hk'
    exact ⟨cur, hg⟩
theorem grown_off {w w' : World} {o : Option Nat} (h : w.grownBy w' o) : Off o.toList w w' :=
  ⟨h.os, h.tape, h.output, h.size, fun k hk hF => h.block k hk (fun e => hF (by simp [← e]))⟩
theorem BuAt.off {F : List Nat} {w w' : World} {B b : Nat} {v : Value} {bs : List UInt8} (h : BuAt w B b v bs) (ho : Off F w w') (hb : b ∉ F) (hF : ∀ k ∈ v.ownBlock.toList, k ∉ F) : BuAt w' B b v bs :=
  ⟨h.head.imp (fun h => Foot.Sits.off h ho hb) (fun h => Foot.Sits.off h ho hb), own_off2 h.row ho hF, h.base⟩
theorem BuAt.keep {w w' : World} {B b : Nat} {v : Value} {bs : List UInt8} (h : BuAt w B b v bs) (hb : Below w.heap.size w w') : BuAt w' B b v bs :=
  h.off (F := []) (Off.of_below hb) (by simp) (by simp)
/-- What it may write. -/
def bfoot (b : Nat) (v : Value) : List Nat := b :: v.ownBlock.toList
theorem BuAt.noT {w : World} {B b : Nat} {v : Value} {bs : List UInt8} (h : BuAt w B b v bs) (t : TypeId) (n1 : t ≠ 108) (n2 : t ≠ 5) : ∀ k cs, Sits w k t cs → k ∉ bfoot b v := by
  intro k cs hk hm
  rcases List.mem_cons.1 hm with e | e
  · rcases h.head with h1 | h1 <;> exact sits_ne hk h1 n1 e
  · obtain ⟨cs', h1⟩ := sits_row h.row e
    exact sits_ne hk h1 n2 rfl
set_option maxHeartbeats 2000000 in
set_option maxRecDepth 10000 in
/-- A write: the bytes behind. -/
theorem writeString (B b : Nat) (v : Value) (bs : List UInt8) (s : ByteArray) (w : World) (h : BuAt w B b v bs) (hlen : bs.length + s.size ≤ 140737488355328) :
    Calls Tryz.prog 45 #[.pointer (some ⟨b, 0, none⟩), .string s] w fun e w' => e = .returned (.tuple #[.int .i64 s.size, .nilIface]) ∧ Off (bfoot b v) w w' ∧ ∃ v', BuAt w' B b v' (bs ++ Bytes.B s) := by
  obtain ⟨i0, hi, hz0, hz1, hz2⟩ := info_parts infoByte
  have hcc := copyCheck B b v bs w h
  have HB := hide h
  clear h
  go_enter Tryz.func45, Tryz.ntmps45
  go_wp2_with fail
  refine hcc.mono ?_
  clear hcc
  rintro e w1 ⟨rfl, ho1, hs1⟩
  have hne : ∀ k ∈ v.ownBlock.toList, k ∉ [b] := fun k hk hm => by
    rw [List.mem_singleton] at hm
    obtain ⟨cs', h1⟩ := sits_row HB.out.row hk
    rcases HB.out.head with h2 | h2 <;> exact sits_ne h1 h2 (by decide) hm
  have hown : w1.ownsRow B 5 1 v bs.length (Lib.byteCells bs) := own_off2 HB.out.row ho1 hne
  have c1 := hs1.cell 1 _ rfl
  have hBw : B ≤ w1.heap.size := by
    have h1 := HB.out.base
    have h2 := hs1.lt
    omega
  have HO := hide ho1
  have HS := hide hs1
  have HN := hide hne
  clear ho1 hs1 hne
  obtain ⟨ao, cp, rfl⟩ := Own.shape hown
  go_wp2_with (at_builtin; refine Lib.wpList_append_own_string _ rfl _ _ 106 9 rfl B 5 i0 Tryz.underlying106 Tryz.underlying9 hi hz0 hz1 hz2 _ _ _ rfl hown s rfl (by unfold maxLen; omega) (by omega) hBw ?_; intro v' w2 hown' hgrow _; obtain ⟨ao', cp', rfl⟩ := Own.shape hown'; have HG := hide (show w1.grownBy w2 (Value.slice ao bs.length cp).ownBlock from hgrow); have HS2 := hide (Foot.Sits.off HS.out (grown_off HG.out) (fun hm => HN.out b hm (by simp))); have d1 := HS2.out.cell 1 _ rfl; have z1 := HS2.out.frozen 1)
  go_ret2
  have HO2 : Off (bfoot b (Value.slice ao bs.length cp)) w (w2.setCell ⟨b, 1, none⟩ (.slice ao' (bs.length + s.size) cp')) :=
    (((HO.out.mono fun k _ hk => by rw [List.mem_singleton] at hk; rw [hk]; exact List.mem_cons_self ..).trans ((grown_off HG.out).mono fun k _ hk => List.mem_cons_of_mem _ hk)).set (List.mem_cons_self ..) _ _)
  refine ⟨rfl, HO2, _, Or.inr (HS2.out.set 1 _), ?_, HB.out.base⟩
  have e1 : Lib.byteCells (bs ++ Bytes.B s) = Lib.byteCells bs ++ Lib.strCells s := by simp [Lib.byteCells, Lib.strCells, Bytes.B]
  rw [e1, List.length_append, ← Bytes.size_B]
  refine own_off2 hown' ((Off.refl [b] w2).set (by simp) _ _) fun k hk hm => ?_
  rw [List.mem_singleton] at hm
  obtain ⟨cs', h1⟩ := sits_row hown' hk
  exact sits_ne h1 HS2.out (by decide) hm
end Go.Proofs.YtmkidefdegaamaaGreatDoor.Hb
namespace Go.Proofs.YtmkidefdegaamaaGreatDoor.Hs
open Go.RowKit Go.Maps Mem Foot Im Wm Hk Hb
def hst (x : Int) (c : UInt8) : Int := bits .xor .u32 x ((c.toNat : Int) % 4294967296) * 16777619 % 4294967296
def hsh (l : Bs) : Int := l.foldl hst 2166136261
theorem hsh_range (l : Bs) : 0 ≤ hsh l ∧ hsh l ≤ 4294967295 := by
  unfold hsh
  rcases List.eq_nil_or_concat l with rfl | ⟨r, c, rfl⟩
  · decide
  · rw [List.concat_eq_append, List.foldl_append]
    simp only [List.foldl_cons, List.foldl_nil, hst]
    omega
theorem hashW (s : ByteArray) (hs : s.size ≤ 1000) (w : World) : Calls Tryz.prog 207 #[.string s] w fun e w' => e = .returned (.int .u32 (hsh (Bytes.B s))) ∧ w' = w := by
  go_enter Tryz.func207, Tryz.ntmps207
  go_wp2
  go_loop [3, 7] (fun h i => ∃ (x : Int) (k : Nat), h = .int .u32 x ∧ i = .int .i64 k ∧ k ≤ s.size ∧ 0 ≤ x ∧ x ≤ 4294967295 ∧ Hid (x = hsh ((Bytes.B s).take k))) (fun _ i => s.size - (intOf i).toNat)
  case atStart => exact ⟨2166136261, 0, rfl, rfl, by omega, by omega, by omega, rfl⟩
  case round =>
    obtain ⟨x, k, rfl, rfl, hk, h0, h1, HX⟩ := hrel
    by_cases hkl : k < s.size
    · have hkz : (k : Int) < (s.size : Int) := by omega
      have e : hsh ((Bytes.B s).take (k + 1)) = hst x s[k] := by
        rw [HX.out, List.take_add_one, Bytes.B_get hkl]
        unfold hsh
        rw [Option.toList_some, List.foldl_append]
        rfl
      have HE := hide e
      have hr := hsh_range ((Bytes.B s).take (k + 1))
      rw [e] at hr
      have HR := hide hr
      clear e hr
      go_wp2
      refine ⟨⟨hst x s[k], k + 1, rfl, by go_num, by omega, HR.out.1, HR.out.2, HE.out.symm⟩, ?_⟩
      simp only [intOf]
      omega
    · have hkz : ¬ (k : Int) < (s.size : Int) := by omega
      have hk2 : k = s.size := by omega
      have HE := hide (show x = hsh (Bytes.B s) by rw [HX.out, hk2, Bytes.size_B, List.take_length])
      clear hk2
      go_wp2
      go_ret
      exact ⟨by rw [← HE.out]; rfl, rfl⟩
end Go.Proofs.YtmkidefdegaamaaGreatDoor.Hs
namespace Go.Proofs
open Go.Shelf
def Tryz.lays138_ren : Go.Shelf.Ren := ⟨fun | 138 => 112 | 195 => 152 | 218 => 154 | 143 => 113 | 219 => 155 | 217 => 195 | 225 => 196 | 224 => 197 | 267 => 198 | 266 => 234 | 314 => 235 | n => n, fun | 9 => 9 | 3 => 3 | 4 => 4 | 5 => 5 | 0 => 0 | 46 => 183 | 146 => 319 | 51 => 237 | n => n, fun | 1 => 1 | n => n⟩
theorem Tryz.lays138 : Go.Proofs.Lays.n138 Tryz.prog Tryz.lays138_ren := {
  mixed := by kernel_rfl
  f138 := Tryz.func112.trans (congrArg some (by kernel_rfl))
  f143 := Tryz.func113.trans (congrArg some (by kernel_rfl))
  f195 := Tryz.func152.trans (congrArg some (by kernel_rfl))
  f217 := Tryz.func195.trans (congrArg some (by kernel_rfl))
  f218 := Tryz.func154.trans (congrArg some (by kernel_rfl))
  f219 := Tryz.func155.trans (congrArg some (by kernel_rfl))
  f224 := Tryz.func197.trans (congrArg some (by kernel_rfl))
  f225 := Tryz.func196.trans (congrArg some (by kernel_rfl))
  f266 := Tryz.func234.trans (congrArg some (by kernel_rfl))
  f267 := Tryz.func198.trans (congrArg some (by kernel_rfl))
  f314 := Tryz.func235.trans (congrArg some (by kernel_rfl))
  t0 := Tryz.underlying0
  a0 := Tryz.isAgg0
  z0 := Tryz.sizeOf0
  v0 := Tryz.zeroValue0
  t3 := Tryz.underlying3
  a3 := Tryz.isAgg3
  z3 := Tryz.sizeOf3
  v3 := Tryz.zeroValue3
  t4 := Tryz.underlying4
  a4 := Tryz.isAgg4
  z4 := Tryz.sizeOf4
  v4 := Tryz.zeroValue4
  t5 := Tryz.underlying5
  a5 := Tryz.isAgg5
  z5 := Tryz.sizeOf5
  v5 := Tryz.zeroValue5
  t9 := Tryz.underlying9
  a9 := Tryz.isAgg9
  z9 := Tryz.sizeOf9
  v9 := Tryz.zeroValue9
  t46 := Tryz.underlying183
  a46 := Tryz.isAgg183
  z46 := Tryz.sizeOf183
  v46 := Tryz.zeroValue183
  t51 := Tryz.underlying237
  a51 := Tryz.isAgg237
  z51 := Tryz.sizeOf237
  v51 := Tryz.zeroValue237
  t146 := Tryz.underlying319
  a146 := Tryz.isAgg319
  z146 := Tryz.sizeOf319
  v146 := Tryz.zeroValue319
  g1 := by kernel_rfl }
open Go.RowKit Go.Lib in
theorem Tryz.strings_Count_one (s : ByteArray) (c : UInt8) (w : World) :
    Calls Tryz.prog 112 #[.string s, .string ⟨#[c]⟩] w fun e w' => e = .returned (.int .i64 (Lib.countByte s.data.toList c)) ∧ w' = w := Any.strings_Count_one Tryz.lays138 s c w
end Go.Proofs
