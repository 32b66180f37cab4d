/- A record read: with no Go in sight. -/
import Derived.Test.YtmkidefdegaamaaGreatDoorHiy
import Derived.Lib.AtoiAll
import Derived.Shelf.Strconv.AtoiAll
import Derived.Shelf.LaysC
import Derived.Shelf.Slices.SearchI
import Derived.Shelf.Slices.Empties
import Derived.Shelf.Strings.Builder1
import Derived.Shelf.Strings.Builder2
import Derived.Shelf.Strings.OnBuilder
import Derived.Shelf.Strings.Trim
import Derived.Shelf.Small.Bits
import Derived.Shelf.Small.Strs
import Derived.Shelf.Small.Wraps
import Derived.Shelf.Strings.BuilderF
import Derived.Shelf.Strconv.Itoa0
import Derived.Shelf.Strconv.Itoa1
import Derived.Shelf.LaysM
import Derived.Shelf.Strconv.Itoa2
import Derived.Shelf.Strconv.Itoa3
import Derived.Shelf.Strings.Search1
import Derived.Shelf.Strings.Search2
import Derived.Shelf.Strings.Search3
import Derived.Shelf.Strings.Cut
import Derived.Shelf.Strings.Count
import Derived.Shelf.Sort.Plain
import Derived.Shelf.Strings.Prefix
import Derived.Shelf.Strings.Split
import Derived.Shelf.Strings.SplitShaped
import Derived.Shelf.Unicode.Decode
import Derived.Shelf.Strings.RuneCount
import Derived.Shelf.Strings.Explode
import Derived.Shelf.Bits.Mul64
import Derived.Shelf.Strings.Repeat
import Derived.Shelf.Slices.CompactS
import Derived.Shelf.Slices.Cells
import Derived.Shelf.Slices.In.SortNone
import Derived.Test.YtmkidefdegaamaaGreatDoorProg
namespace Go.Proofs.YtmkidefdegaamaaGreatDoor.Jr
open Bytes
abbrev Bs := List UInt8
/-- What is read at the beginning of a text: a record, and is it whole? -/
def rdr (s : Bs) : (Bs × Int × Bs) × Bool :=
  match Lib.atoiAll (fore 58 (aft 58 s)) with
  | .ok n =>
    if n < 0 ∨ ((aft 58 (aft 58 s)).length : Int) < n ∨ fore 58 s = [] then (([], 0, []), false)
    else match Lib.atoiAll ((fore 58 s).drop 1) with
      | .ok win =>
        if win < 0 ∨ 1000000000 < win then (([], 0, []), false)
        else (((fore 58 s).take 1, win, (aft 58 (aft 58 s)).take n.toNat), Lib.hasPrefix s (wrec ((fore 58 s).take 1) win ((aft 58 (aft 58 s)).take n.toNat)))
      | _ => (([], 0, []), false)
  | _ => (([], 0, []), false)
theorem dig_toNat {d : Nat} (h : d < 10) : (UInt8.ofNat (48 + d)).toNat = 48 + d := by
  rw [UInt8.toNat_ofNat']
  omega
theorem dd_digits (u : Nat) : ∀ b ∈ Lib.decDigits u, 48 ≤ b.toNat ∧ b.toNat ≤ 57 := by
  induction u using Nat.strongRecOn with
  | _ u ih =>
    rw [Lib.decDigits]
    split
    · rename_i h
      intro b hb
      rw [List.mem_singleton] at hb
      rw [hb, dig_toNat h]
      omega
    · rename_i h
      intro b hb
      rcases List.mem_append.1 hb with hb | hb
      · exact ih (u / 10) (by omega) b hb
      · rw [List.mem_singleton] at hb
        rw [hb, dig_toNat (by omega)]
        omega
theorem parse_dd (u : Nat) : ∀ r, u < 18446744073709551616 → Lib.parseUint10 0 (Lib.decDigits u ++ r) = Lib.parseUint10 u r := by
  induction u using Nat.strongRecOn with
  | _ u ih =>
    intro r hu
    rw [Lib.decDigits]
    split
    · rename_i h
      show Lib.parseUint10 0 (UInt8.ofNat (48 + u) :: r) = _
      rw [Lib.parseUint10, dig_toNat h, if_pos (by omega), if_neg (by omega), if_neg (by omega)]
      congr 1
      omega
    · rename_i h
      rw [List.append_assoc, ih (u / 10) (by omega) _ (by omega)]
      show Lib.parseUint10 (u / 10) (UInt8.ofNat (48 + u % 10) :: r) = _
      rw [Lib.parseUint10, dig_toNat (by omega), if_pos (by omega), if_neg (by omega), if_neg (by omega)]
      congr 1
      omega
theorem dd_ne (u : Nat) : Lib.decDigits u ≠ [] := by
  rw [Lib.decDigits]
  split <;> simp
theorem itoa_nat {n : Int} (h : 0 ≤ n) : Lib.itoa n = Lib.decDigits n.toNat := by
  unfold Lib.itoa
  rw [if_neg (by omega)]
theorem atoi_itoa {n : Int} (h0 : 0 ≤ n) (h1 : n < 9223372036854775808) : Lib.atoiAll (Lib.itoa n) = .ok n := by
  rw [itoa_nat h0]
  have hp := parse_dd n.toNat [] (by omega)
  rw [List.append_nil, Lib.parseUint10] at hp
  have hd := dd_digits n.toNat
  have hne := dd_ne n.toNat
  obtain ⟨c, r, hcr⟩ : ∃ c r, Lib.decDigits n.toNat = c :: r := by
    cases h : Lib.decDigits n.toNat with
    | nil => exact absurd h hne
    | cons c r => exact ⟨c, r, rfl⟩
  rw [hcr] at hp hd hne ⊢
  have hc := hd c (List.mem_cons_self ..)
  unfold Lib.atoiAll
  simp only
  rw [if_neg (by omega)]
  unfold Lib.parseMag
  rw [if_neg hne, hp]
  simp only
  rw [if_neg (by omega), if_neg (by omega), if_neg (by omega)]
  congr 1
  omega
theorem itoa_free {n : Int} (h : 0 ≤ n) : ∀ b ∈ Lib.itoa n, b ≠ 58 := fun b hb e => by
  rw [itoa_nat h] at hb
  have := dd_digits _ b hb
  rw [e] at this
  exact absurd this (by decide)
theorem fore_app {a : Bs} {c : UInt8} (h : ∀ b ∈ a, b ≠ c) (r : Bs) : fore c (a ++ c :: r) = a ∧ aft c (a ++ c :: r) = r := by
  unfold fore aft
  induction a with
  | nil => simp
  | cons x a ih =>
    have hx : (x != c) = true := by simpa using h x (List.mem_cons_self ..)
    have := ih fun b hb => h b (List.mem_cons_of_mem _ hb)
    rw [List.cons_append, List.takeWhile_cons, List.dropWhile_cons, if_pos hx, if_pos hx]
    exact ⟨by rw [this.1], this.2⟩
theorem wrec_is (k : Bs) (n : Int) (t x : Bs) : wrec k n t ++ x = (k ++ Lib.itoa n) ++ 58 :: (Lib.itoa t.length ++ 58 :: (t ++ 10 :: x)) := by
  unfold wrec
  simp only [List.append_assoc, List.cons_append, List.nil_append]
theorem cut_wrec {k : Bs} {n : Int} (hk : ∀ b ∈ k, b ≠ 58) (hn : 0 ≤ n) (t x : Bs) : fore 58 (wrec k n t ++ x) = k ++ Lib.itoa n ∧ fore 58 (aft 58 (wrec k n t ++ x)) = Lib.itoa t.length ∧ aft 58 (aft 58 (wrec k n t ++ x)) = t ++ 10 :: x := by
  have h1 : ∀ b ∈ k ++ Lib.itoa n, b ≠ 58 := fun b hb => by
    rcases List.mem_append.1 hb with h | h
    · exact hk b h
    · exact itoa_free hn b h
  have h2 := itoa_free (n := (t.length : Int)) (by omega)
  rw [wrec_is, (fore_app h1 _).1, (fore_app h1 _).2, (fore_app h2 _).1, (fore_app h2 _).2]
  exact ⟨rfl, rfl, rfl⟩
theorem hasPrefix_iff {s p : Bs} : Lib.hasPrefix s p = true ↔ ∃ x, s = p ++ x := by
  unfold Lib.hasPrefix
  rw [List.isPrefixOf_iff_prefix]
  exact ⟨fun ⟨x, h⟩ => ⟨x, h.symm⟩, fun ⟨x, h⟩ => ⟨x, h.symm⟩⟩
/-- A record that is whole is read. -/
theorem rdr_whole {b : UInt8} {n : Int} {t : Bs} (hb : b ≠ 58) (h0 : 0 ≤ n) (h1 : n ≤ 1000000000) (ht : t.length < 9223372036854775808) (x : Bs) : rdr (wrec [b] n t ++ x) = (([b], n, t), true) := by
  obtain ⟨c1, c2, c3⟩ := cut_wrec (k := [b]) (fun y hy => (List.mem_singleton.1 hy) ▸ hb) h0 t x
  unfold rdr
  rw [c2, atoi_itoa (by omega) (by omega)]
  simp only
  rw [c1, c3, if_neg (by simp; omega)]
  have e1 : ([b] ++ Lib.itoa n).drop 1 = Lib.itoa n := rfl
  have e2 : ([b] ++ Lib.itoa n).take 1 = [b] := rfl
  have e3 : (t ++ 10 :: x).take (t.length : Int).toNat = t := by simp
  rw [e1, e2, e3, atoi_itoa h0 (by omega)]
  simp only
  rw [if_neg (by omega)]
  exact congrArg _ (hasPrefix_iff.2 ⟨x, rfl⟩)
end Go.Proofs.YtmkidefdegaamaaGreatDoor.Jr
namespace Go.Proofs
open Go.Shelf
def Tryz.laysC172_ren : Go.Shelf.Ren := ⟨fun | 172 => 139 | 244 => 183 | 245 => 184 | 247 => 215 | 279 => 216 | 280 => 217 | 281 => 218 | 282 => 219 | 287 => 241 | 316 => 242 | 171 => 46 | 205 => 243 | 321 => 254 | 322 => 255 | 243 => 80 | 246 => 105 | 283 => 143 | 284 => 144 | 285 => 145 | 286 => 146 | 129 => 135 | 317 => 186 | 318 => 187 | 319 => 188 | 320 => 189 | 337 => 220 | 338 => 221 | n => n, fun | 9 => 9 | 3 => 3 | 75 => 64 | 76 => 109 | 4 => 4 | 5 => 5 | 167 => 300 | 37 => 106 | 0 => 0 | 85 => 301 | 2 => 2 | 168 => 303 | 53 => 239 | 175 => 322 | 46 => 183 | 210 => 326 | 127 => 165 | 145 => 338 | 143 => 336 | 21 => 21 | 171 => 245 | 173 => 247 | 212 => 285 | 51 => 237 | 20 => 20 | 213 => 286 | 232 => 327 | 233 => 328 | 80 => 84 | n => n, fun | 15 => 4 | 16 => 5 | 17 => 0 | 18 => 6 | 19 => 7 | n => n⟩
theorem Tryz.laysC172 : Go.Proofs.LaysC.n172 Tryz.prog Tryz.laysC172_ren := {
  mixed := by kernel_rfl
  f129 := Tryz.func135.trans (congrArg some (by kernel_rfl))
  f171 := Tryz.func46.trans (congrArg some (by kernel_rfl))
  f172 := Tryz.func139.trans (congrArg some (by kernel_rfl))
  f205 := Tryz.func243.trans (congrArg some (by kernel_rfl))
  f243 := Tryz.func80.trans (congrArg some (by kernel_rfl))
  f244 := Tryz.func183.trans (congrArg some (by kernel_rfl))
  f245 := Tryz.func184.trans (congrArg some (by kernel_rfl))
  f246 := Tryz.func105.trans (congrArg some (by kernel_rfl))
  f247 := Tryz.func215.trans (congrArg some (by kernel_rfl))
  f279 := Tryz.func216.trans (congrArg some (by kernel_rfl))
  f280 := Tryz.func217.trans (congrArg some (by kernel_rfl))
  f281 := Tryz.func218.trans (congrArg some (by kernel_rfl))
  f282 := Tryz.func219.trans (congrArg some (by kernel_rfl))
  f283 := Tryz.func143.trans (congrArg some (by kernel_rfl))
  f284 := Tryz.func144.trans (congrArg some (by kernel_rfl))
  f285 := Tryz.func145.trans (congrArg some (by kernel_rfl))
  f286 := Tryz.func146.trans (congrArg some (by kernel_rfl))
  f287 := Tryz.func241.trans (congrArg some (by kernel_rfl))
  f316 := Tryz.func242.trans (congrArg some (by kernel_rfl))
  f317 := Tryz.func186.trans (congrArg some (by kernel_rfl))
  f318 := Tryz.func187.trans (congrArg some (by kernel_rfl))
  f319 := Tryz.func188.trans (congrArg some (by kernel_rfl))
  f320 := Tryz.func189.trans (congrArg some (by kernel_rfl))
  f321 := Tryz.func254.trans (congrArg some (by kernel_rfl))
  f322 := Tryz.func255.trans (congrArg some (by kernel_rfl))
  f337 := Tryz.func220.trans (congrArg some (by kernel_rfl))
  f338 := Tryz.func221.trans (congrArg some (by kernel_rfl))
  t0 := Tryz.underlying0
  a0 := Tryz.isAgg0
  z0 := Tryz.sizeOf0
  v0 := Tryz.zeroValue0
  t2 := Tryz.underlying2
  a2 := Tryz.isAgg2
  z2 := Tryz.sizeOf2
  v2 := Tryz.zeroValue2
  t3 := Tryz.underlying3
  a3 := Tryz.isAgg3
  z3 := Tryz.sizeOf3
  v3 := Tryz.zeroValue3
  t4 := Tryz.underlying4
  a4 := Tryz.isAgg4
  z4 := Tryz.sizeOf4
  v4 := Tryz.zeroValue4
  t5 := Tryz.underlying5
  a5 := Tryz.isAgg5
  z5 := Tryz.sizeOf5
  v5 := Tryz.zeroValue5
  t9 := Tryz.underlying9
  a9 := Tryz.isAgg9
  z9 := Tryz.sizeOf9
  v9 := Tryz.zeroValue9
  t20 := Tryz.underlying20
  a20 := Tryz.isAgg20
  z20 := Tryz.sizeOf20
  v20 := Tryz.zeroValue20
  t21 := Tryz.underlying21
  a21 := Tryz.isAgg21
  z21 := Tryz.sizeOf21
  v21 := Tryz.zeroValue21
  t37 := Tryz.underlying106
  a37 := Tryz.isAgg106
  z37 := Tryz.sizeOf106
  v37 := Tryz.zeroValue106
  t46 := Tryz.underlying183
  a46 := Tryz.isAgg183
  z46 := Tryz.sizeOf183
  v46 := Tryz.zeroValue183
  t51 := Tryz.underlying237
  a51 := Tryz.isAgg237
  z51 := Tryz.sizeOf237
  v51 := Tryz.zeroValue237
  t53 := Tryz.underlying239
  a53 := Tryz.isAgg239
  z53 := Tryz.sizeOf239
  v53 := Tryz.zeroValue239
  t75 := Tryz.underlying64
  a75 := Tryz.isAgg64
  z75 := Tryz.sizeOf64
  v75 := Tryz.zeroValue64
  t76 := Tryz.underlying109
  a76 := Tryz.isAgg109
  z76 := Tryz.sizeOf109
  v76 := Tryz.zeroValue109
  t85 := Tryz.underlying301
  a85 := Tryz.isAgg301
  z85 := Tryz.sizeOf301
  v85 := Tryz.zeroValue301
  t127 := Tryz.underlying165
  a127 := Tryz.isAgg165
  z127 := Tryz.sizeOf165
  v127 := Tryz.zeroValue165
  t143 := Tryz.underlying336
  a143 := Tryz.isAgg336
  z143 := Tryz.sizeOf336
  v143 := Tryz.zeroValue336
  t145 := Tryz.underlying338
  a145 := Tryz.isAgg338
  z145 := Tryz.sizeOf338
  v145 := Tryz.zeroValue338
  t167 := Tryz.underlying300
  a167 := Tryz.isAgg300
  z167 := Tryz.sizeOf300
  v167 := Tryz.zeroValue300
  t168 := Tryz.underlying303
  a168 := Tryz.isAgg303
  z168 := Tryz.sizeOf303
  v168 := Tryz.zeroValue303
  t171 := Tryz.underlying245
  a171 := Tryz.isAgg245
  z171 := Tryz.sizeOf245
  v171 := Tryz.zeroValue245
  t173 := Tryz.underlying247
  a173 := Tryz.isAgg247
  z173 := Tryz.sizeOf247
  v173 := Tryz.zeroValue247
  t175 := Tryz.underlying322
  a175 := Tryz.isAgg322
  z175 := Tryz.sizeOf322
  v175 := Tryz.zeroValue322
  t210 := Tryz.underlying326
  a210 := Tryz.isAgg326
  z210 := Tryz.sizeOf326
  v210 := Tryz.zeroValue326
  t212 := Tryz.underlying285
  a212 := Tryz.isAgg285
  z212 := Tryz.sizeOf285
  v212 := Tryz.zeroValue285
  t213 := Tryz.underlying286
  a213 := Tryz.isAgg286
  z213 := Tryz.sizeOf286
  t232 := Tryz.underlying327
  a232 := Tryz.isAgg327
  z232 := Tryz.sizeOf327
  v232 := Tryz.zeroValue327
  t233 := Tryz.underlying328
  a233 := Tryz.isAgg328
  z233 := Tryz.sizeOf328
  v233 := Tryz.zeroValue328
  g15 := by kernel_rfl
  g16 := by kernel_rfl
  g17 := by kernel_rfl
  g18 := by kernel_rfl
  g19 := by kernel_rfl
  t80 := Tryz.underlying84
  a80 := Tryz.isAgg84
  z80 := Tryz.sizeOf84
  v80 := Tryz.zeroValue84
  i0 := by kernel_rfl
  i2 := by kernel_rfl
  i3 := by kernel_rfl
  i4 := by kernel_rfl
  i5 := by kernel_rfl
  i9 := by kernel_rfl
  i20 := by kernel_rfl
  i21 := by kernel_rfl
  i37 := by kernel_rfl
  i46 := by kernel_rfl
  i51 := by kernel_rfl
  i53 := by kernel_rfl
  i75 := by kernel_rfl
  i76 := by kernel_rfl
  i80 := by kernel_rfl
  i85 := by kernel_rfl
  i127 := by kernel_rfl
  i143 := by kernel_rfl
  i145 := by kernel_rfl
  i167 := by kernel_rfl
  i168 := by kernel_rfl
  i171 := by kernel_rfl
  i173 := by kernel_rfl
  i175 := by kernel_rfl
  i210 := by kernel_rfl
  i212 := by kernel_rfl
  i232 := by kernel_rfl
  i233 := by kernel_rfl
  m15 := by kernel_rfl
  m16 := by kernel_rfl
  m17 := by kernel_rfl
  m18 := by kernel_rfl
  m19 := by kernel_rfl
  c0 := by kernel_rfl
  c2 := by kernel_rfl
  c3 := by kernel_rfl
  c4 := by kernel_rfl
  c5 := by kernel_rfl
  c9 := by kernel_rfl
  c20 := by kernel_rfl
  c21 := by kernel_rfl
  c37 := by kernel_rfl
  c46 := by kernel_rfl
  c51 := by kernel_rfl
  c53 := by kernel_rfl
  c75 := by kernel_rfl
  c76 := by kernel_rfl
  c80 := by kernel_rfl
  c85 := by kernel_rfl
  c127 := by kernel_rfl
  c143 := by kernel_rfl
  c145 := by kernel_rfl
  c167 := by kernel_rfl
  c168 := by kernel_rfl
  c171 := by kernel_rfl
  c173 := by kernel_rfl
  c175 := by kernel_rfl
  c210 := by kernel_rfl
  c212 := by kernel_rfl
  c213 := by kernel_rfl
  c232 := by kernel_rfl
  c233 := by kernel_rfl }
open Go.RowKit in
theorem Tryz.strconv_Atoi_ok (s : ByteArray) (hmax : s.size ≤ 9223372036854775806) (v : Int) (h : Lib.atoiAll s.data.toList = .ok v) (w : World) :
    Calls Tryz.prog 139 #[.string s] w fun e w' => e = .returned (.tuple #[.int .i64 v, .nilIface]) ∧ (w' = w ∨ ∃ t, w' = Lib.bytesWorld w 5 t) := Any.strconv_Atoi_ok Tryz.laysC172 s hmax v h w
open Go.RowKit in
theorem Tryz.strconv_Atoi_syntax (s : ByteArray) (hlim : s.size ≤ 281474976710656) (h : Lib.atoiAll s.data.toList = .«syntax») (ev : Value) (w : World) (hv : w.cell? ⟨4, 0, none⟩ = some ev) (hev : ev = .nilIface ∨ ∃ te pe, ev = .iface te pe) :
    Calls Tryz.prog 139 #[.string s] w fun e w' => ∃ N, e = .returned (.tuple #[.int .i64 (0), .iface 303 (.pointer (some ⟨N, 0, none⟩))]) ∧ w.heap.size ≤ N ∧ w'.heap[N]? = some (.cells #[.string ⟨#[65, 116, 111, 105]⟩, .string s, ev] 326 (0, 0)) ∧ Below w.heap.size w w' := Any.strconv_Atoi_syntax Tryz.laysC172 s hlim h ev w hv hev
open Go.RowKit in
theorem Tryz.strconv_Atoi_range (s : ByteArray) (hlim : s.size ≤ 281474976710656) (h : Lib.atoiAll s.data.toList = .range) (ev : Value) (w : World) (hv : w.cell? ⟨5, 0, none⟩ = some ev) (hev : ev = .nilIface ∨ ∃ te pe, ev = .iface te pe) :
    Calls Tryz.prog 139 #[.string s] w fun e w' => ∃ N, e = .returned (.tuple #[.int .i64 (Lib.atoiSat s.data.toList), .iface 303 (.pointer (some ⟨N, 0, none⟩))]) ∧ w.heap.size ≤ N ∧ w'.heap[N]? = some (.cells #[.string ⟨#[65, 116, 111, 105]⟩, .string s, ev] 326 (0, 0)) ∧ Below w.heap.size w w' := Any.strconv_Atoi_range Tryz.laysC172 s hlim h ev w hv hev
def Tryz.lays99_ren : Go.Shelf.Ren := ⟨fun | 99 => 140 | 206 => 185 | n => n, fun | 9 => 9 | 4 => 4 | 3 => 3 | n => n, fun | n => n⟩
theorem Tryz.lays99 : Go.Proofs.Lays.n99 Tryz.prog Tryz.lays99_ren := {
  mixed := by kernel_rfl
  f99 := Tryz.func140.trans (congrArg some (by kernel_rfl))
  f206 := Tryz.func185.trans (congrArg some (by kernel_rfl))
  t3 := Tryz.underlying3
  a3 := Tryz.isAgg3
  z3 := Tryz.sizeOf3
  v3 := Tryz.zeroValue3
  t4 := Tryz.underlying4
  a4 := Tryz.isAgg4
  z4 := Tryz.sizeOf4
  v4 := Tryz.zeroValue4
  t9 := Tryz.underlying9
  a9 := Tryz.isAgg9
  z9 := Tryz.sizeOf9
  v9 := Tryz.zeroValue9 }
open Go.RowKit Go.Lib in
theorem Tryz.strings_HasPrefix (s p : ByteArray) (w : World) :
    Calls Tryz.prog 140 #[.string s, .string p] w fun e w' => e = .returned (.bool (Lib.hasPrefix s.data.toList p.data.toList)) ∧ w' = w := Any.strings_HasPrefix Tryz.lays99 s p w
def Tryz.laysNm225_ren : Go.Shelf.Ren := ⟨fun | 25 => 102 | 31 => 141 | 32 => 142 | 37 => 138 | n => n, fun | 22 => 46 | 3 => 3 | 4 => 4 | 40 => 183 | 0 => 0 | n => n, fun | n => n⟩
theorem Tryz.laysNm225 : Go.Proofs.Lays2.n25 Tryz.prog Tryz.laysNm225_ren := {
  mixed := by kernel_rfl
  f25 := Tryz.func102.trans (congrArg some (by kernel_rfl))
  f31 := Tryz.func141.trans (congrArg some (by kernel_rfl))
  f32 := Tryz.func142.trans (congrArg some (by kernel_rfl))
  f37 := Tryz.func138.trans (congrArg some (by kernel_rfl))
  t0 := Tryz.underlying0
  a0 := Tryz.isAgg0
  z0 := Tryz.sizeOf0
  v0 := Tryz.zeroValue0
  t3 := Tryz.underlying3
  a3 := Tryz.isAgg3
  z3 := Tryz.sizeOf3
  v3 := Tryz.zeroValue3
  t4 := Tryz.underlying4
  a4 := Tryz.isAgg4
  z4 := Tryz.sizeOf4
  v4 := Tryz.zeroValue4
  t22 := Tryz.underlying46
  a22 := Tryz.isAgg46
  z22 := Tryz.sizeOf46
  v22 := Tryz.zeroValue46
  t40 := Tryz.underlying183
  a40 := Tryz.isAgg183
  z40 := Tryz.sizeOf183
  v40 := Tryz.zeroValue183 }
open Go.RowKit Go.Lib in
theorem Tryz.slices_BinarySearch_int (b off n c : Nat) (zs : List Int) (x : Int) (w : World) (hz : n ≤ zs.length) (hbig : n < 4611686018427387904) (hc : ∀ j, j < zs.length → w.cell? ⟨b, off + j, none⟩ = some (.int .i64 (zs.getD j 0))) (hs : (zs.take n).Pairwise (· ≤ ·)) :
    Calls Tryz.prog 102 #[.slice (some ⟨b, off, none⟩) n c, .int .i64 x] w fun e w' => e = .returned (.tuple #[.int .i64 ((zs.take n).countP (· < x) : Nat), .bool ((zs.take n).contains x)]) ∧ ∃ q, w' = w.drewN q := Any.slices_BinarySearch_int Tryz.laysNm225 b off n c zs x w hz hbig hc hs
open Go.RowKit Go.Lib in
theorem Tryz.slices_BinarySearch_int_empty (a : Option Addr) (c : Nat) (x : Int) (w : World) :
    Calls Tryz.prog 102 #[.slice a 0 c, .int .i64 x] w fun e w' => e = .returned (.tuple #[.int .i64 0, .bool false]) ∧ w' = w := Any.slices_BinarySearch_int_empty Tryz.laysNm225 a c x w
end Go.Proofs
namespace Go.Proofs.YtmkidefdegaamaaGreatDoor.Jr
open Go.RowKit Go.Maps Mem Foot Bytes Im Wm Hi Plainw Cq
/-- The two errors of strconv, as they are laid. -/
def Ers (w : World) : Prop := ∃ a b, w.cell? ⟨4, 0, none⟩ = some a ∧ w.cell? ⟨5, 0, none⟩ = some b ∧ (a = .nilIface ∨ ∃ te pe, a = .iface te pe) ∧ (b = .nilIface ∨ ∃ te pe, b = .iface te pe)
theorem Ers.below {n : Nat} {w w' : World} (h : Ers w) (hb : Below n w w') (hn : 4 < n ∧ 5 < n) : Ers w' := by
  obtain ⟨a, b, h1, h2, h3, h4⟩ := h
  exact ⟨a, b, (hb.cell (p := ⟨4, 0, none⟩) hn.1).trans h1, (hb.cell (p := ⟨5, 0, none⟩) hn.2).trans h2, h3, h4⟩
theorem Ers.lt {w : World} (h : Ers w) : 4 < w.heap.size ∧ 5 < w.heap.size := by
  obtain ⟨a, b, h1, h2, h3, h4⟩ := h
  exact ⟨World.block_lt_of_cell? w _ h1, World.block_lt_of_cell? w _ h2⟩
theorem Ers.keep {w w' : World} (h : Ers w) (hb : Below w.heap.size w w') : Ers w' := h.below hb h.lt
theorem atoiOk (s : ByteArray) (hs : s.size ≤ 281474976710656) (v : Int) (h : Lib.atoiAll (B s) = .ok v) (w : World) :
    Calls Tryz.prog 139 #[.string s] w fun e w' => e = .returned (.tuple #[.int .i64 v, .nilIface]) ∧ Below w.heap.size w w' := by
  refine (Tryz.strconv_Atoi_ok s (by omega) v h w).mono ?_
  rintro e w' ⟨rfl, hw⟩
  refine ⟨rfl, ?_⟩
  rcases hw with rfl | ⟨t, rfl⟩
  · exact Below.refl _ _
  · exact Lib.bytesWorld_below _ _ _
theorem atoiBad (s : ByteArray) (hs : s.size ≤ 281474976710656) (h : ∀ v, Lib.atoiAll (B s) ≠ .ok v) (w : World) (hE : Ers w) :
    Calls Tryz.prog 139 #[.string s] w fun e w' => (∃ m t N, e = .returned (.tuple #[.int .i64 m, .iface t (.pointer (some ⟨N, 0, none⟩))])) ∧ Below w.heap.size w w' := by
  obtain ⟨a, b, h1, h2, h3, h4⟩ := hE
  rcases ha : Lib.atoiAll (B s) with v | _ | _
  · exact absurd ha (h v)
  · refine (Tryz.strconv_Atoi_syntax s hs ha a w h1 h3).mono ?_
    rintro e w' ⟨N, rfl, _, _, hb⟩
    exact ⟨⟨_, _, N, rfl⟩, hb⟩
  · refine (Tryz.strconv_Atoi_range s hs ha b w h2 h4).mono ?_
    rintro e w' ⟨N, rfl, _, _, hb⟩
    exact ⟨⟨_, _, N, rfl⟩, hb⟩
/-- The record as cells. -/
def Rd (e : Ending) (R : (Bs × Int × Bs) × Bool) : Prop := ∃ k t, e = .returned (.tuple #[.agg #[.string k, .int .i64 R.1.2.1, .string t], .bool R.2]) ∧ B k = R.1.1 ∧ B t = R.1.2.2
theorem results_ct {P : Program} {fn : Func} {p u : Tmp} {ty : TypeId} (h : fn.results = #[.cell p ty, .tmp u]) (tmps : Array Value) (w : World) (a : Addr) (v : Value) (hp : tmps.getD p undef = .pointer (some a)) (hl : (loadVar ty a).run P w = .ok v w) : (results fn tmps).run P w = .ok (.tuple #[v, tmps.getD u undef]) w := by
  have hp' : tmps[p]?.getD undef = .pointer (some a) := by simpa using hp
  simp [results, h, hp', asAddr, hl]
theorem load_rec {w : World} {b : Nat} {u v : ByteArray} {n : Int} (h : Sits w b 121 #[.string u, .int .i64 n, .string v]) : (loadVar 121 ⟨b, 0, none⟩).run Tryz.prog w = .ok (.agg #[.string u, .int .i64 n, .string v]) w :=
  run_loadVar_row w b 121 121 _ (0, 0) _ h Tryz.underlying121 rfl (by kernel_rfl)
set_option maxRecDepth 10000 in
set_option maxHeartbeats 4000000 in
theorem readRecord (s : ByteArray) (hs : s.size ≤ 140737488355328) (w : World) (hT : Tab w) (hE : Ers w) :
    Calls Tryz.prog 100 #[.string s] w fun e w' => Rd e (rdr (B s)) ∧ Below w.heap.size w w' := by
  have hN := Sits.new w 121 #[.string ⟨#[]⟩, .int .i64 0, .string ⟨#[]⟩]
  have HB1 := hide (below_new (w := w) (.cells #[.string ⟨#[]⟩, .int .i64 0, .string ⟨#[]⟩] 121))
  have HN := hide hN
  have HT := hide hT
  have HE := hide hE
  clear hN hT hE
  go_enter Tryz.func100, Tryz.ntmps100
  go_upto_region 1 with fail
  generalize w.alloc (.cells #[.string ⟨#[]⟩, .int .i64 0, .string ⟨#[]⟩] 121) = w1 at *
  obtain ⟨ab, hab⟩ : ∃ ab, w.heap.size = ab := ⟨_, rfl⟩
  rw [hab] at HN
  rw [hab]
  have HAB := hide hab
  clear hab
  go_wp2_with fail
  refine (Texts.cut1 s 58 (by omega) w1).mono ?_
  rintro e w2 ⟨⟨hd, rs, rfl, hhd, hrs, zhd, zrs⟩, n2, hw2⟩
  have HB2 := hide (show Below w1.heap.size w1 w2 from hw2 ▸ below_drewN' (Below.refl _ _))
  clear hw2
  go_wp2_with fail
  refine (Texts.cut1 rs 58 (by omega) w2).mono ?_
  rintro e w3 ⟨⟨ln, r2, rfl, hln, hr2, zln, zr2⟩, n3, hw3⟩
  have HB3 := hide (show Below w1.heap.size w1 w3 from hw3 ▸ below_drewN' HB2.out)
  clear hw3
  rw [hrs] at hln hr2
  have HHD := hide hhd
  have HLN := hide hln
  have HR2 := hide hr2
  clear hhd hrs hln hr2
  generalize Bytes.has 58 (B s) = q1 at *
  generalize Bytes.has 58 (B rs) = q2 at *
  have hzr : (r2.size : Int) = ((aft 58 (aft 58 (B s))).length : Int) := by rw [← HR2.out, ← Bytes.size_B]
  have HZR := hide hzr
  clear hzr
  have FIN := hide (show ∀ (W W' : World), Below w1.heap.size w1 W → Sits W' ab 121 #[.string ⟨#[]⟩, .int .i64 0, .string ⟨#[]⟩] → But ab W W' → rdr (B s) = (([], 0, []), false) → Rd (.returned (.tuple #[.agg #[.string ⟨#[]⟩, .int .i64 0, .string ⟨#[]⟩], .bool false])) (rdr (B s)) ∧ Below w.heap.size w W' from fun W W' hb _ hbu hr => by
    rw [hr]
    have h1 := HB1.out.trans (hb.mono HB1.out.size)
    exact ⟨⟨⟨#[]⟩, ⟨#[]⟩, rfl, rfl, rfl⟩, h1.trans (hbu.below (Nat.le_of_eq HAB.out) h1.size)⟩)
  rcases ha : Lib.atoiAll (B ln) with v | _ | _
  · have hat := atoiOk ln (by omega) v ha w3
    have HA := hide (show Lib.atoiAll (fore 58 (aft 58 (B s))) = .ok v from HLN.out ▸ ha)
    clear ha
    go_wp2_with fail
    refine hat.mono ?_
    clear hat
    rintro e w4 ⟨rfl, hb4⟩
    have HB4 := hide (HB3.out.trans (hb4.mono HB3.out.size))
    clear hb4
    by_cases hv0 : v < 0
    · have hHN := Mem.Sits.below HN.out HB4.out HN.out.lt
      have f0 := hHN.frozen 0
      have f1 := hHN.frozen 1
      have f2 := hHN.frozen 2
      have c0 : w4.cell? ⟨ab, 0, none⟩ = some (.string ⟨#[]⟩) := hHN.cell 0 _ rfl
      have c1 : w4.cell? ⟨ab, 1, none⟩ = some (.int .i64 0) := hHN.cell 1 _ rfl
      have c2 : w4.cell? ⟨ab, 2, none⟩ = some (.string ⟨#[]⟩) := hHN.cell 2 _ rfl
      have HK := hide (((hHN.set 0 (.string ⟨#[]⟩)).set 1 (.int .i64 0)).set 2 (.string ⟨#[]⟩))
      have HBU := hide ((((But.refl ab w4).set 0 (.string ⟨#[]⟩)).set 1 (.int .i64 0)).set 2 (.string ⟨#[]⟩))
      clear hHN
      go_wp2_with fail
      generalize ((w4.setCell ⟨ab, 0, none⟩ (.string ⟨#[]⟩)).setCell ⟨ab, 1, none⟩ (.int .i64 0)).setCell ⟨ab, 2, none⟩ (.string ⟨#[]⟩) = wz at *
      refine bodyPost_ret (results_ct rfl _ _ ⟨ab, 0, none⟩ _ rfl (load_rec HK.out)) rfl ?_
      exact FIN.out w4 wz HB4.out HK.out HBU.out (by unfold rdr; rw [HA.out]; exact if_pos (Or.inl hv0))
    · by_cases hv1 : (r2.size : Int) < v
      · have hHN := Mem.Sits.below HN.out HB4.out HN.out.lt
        have f0 := hHN.frozen 0
        have f1 := hHN.frozen 1
        have f2 := hHN.frozen 2
        have c0 : w4.cell? ⟨ab, 0, none⟩ = some (.string ⟨#[]⟩) := hHN.cell 0 _ rfl
        have c1 : w4.cell? ⟨ab, 1, none⟩ = some (.int .i64 0) := hHN.cell 1 _ rfl
        have c2 : w4.cell? ⟨ab, 2, none⟩ = some (.string ⟨#[]⟩) := hHN.cell 2 _ rfl
        have HK := hide (((hHN.set 0 (.string ⟨#[]⟩)).set 1 (.int .i64 0)).set 2 (.string ⟨#[]⟩))
        have HBU := hide ((((But.refl ab w4).set 0 (.string ⟨#[]⟩)).set 1 (.int .i64 0)).set 2 (.string ⟨#[]⟩))
        clear hHN
        go_wp2_with fail
        generalize ((w4.setCell ⟨ab, 0, none⟩ (.string ⟨#[]⟩)).setCell ⟨ab, 1, none⟩ (.int .i64 0)).setCell ⟨ab, 2, none⟩ (.string ⟨#[]⟩) = wz at *
        refine bodyPost_ret (results_ct rfl _ _ ⟨ab, 0, none⟩ _ rfl (load_rec HK.out)) rfl ?_
        exact FIN.out w4 wz HB4.out HK.out HBU.out (by unfold rdr; rw [HA.out]; exact if_pos (Or.inr (Or.inl (HZR.out ▸ hv1))))
      · by_cases hv2 : hd = ⟨#[]⟩
        · subst hv2
          have hHN := Mem.Sits.below HN.out HB4.out HN.out.lt
          have f0 := hHN.frozen 0
          have f1 := hHN.frozen 1
          have f2 := hHN.frozen 2
          have c0 : w4.cell? ⟨ab, 0, none⟩ = some (.string ⟨#[]⟩) := hHN.cell 0 _ rfl
          have c1 : w4.cell? ⟨ab, 1, none⟩ = some (.int .i64 0) := hHN.cell 1 _ rfl
          have c2 : w4.cell? ⟨ab, 2, none⟩ = some (.string ⟨#[]⟩) := hHN.cell 2 _ rfl
          have HK := hide (((hHN.set 0 (.string ⟨#[]⟩)).set 1 (.int .i64 0)).set 2 (.string ⟨#[]⟩))
          have HBU := hide ((((But.refl ab w4).set 0 (.string ⟨#[]⟩)).set 1 (.int .i64 0)).set 2 (.string ⟨#[]⟩))
          clear hHN
          go_wp2_with fail
          generalize ((w4.setCell ⟨ab, 0, none⟩ (.string ⟨#[]⟩)).setCell ⟨ab, 1, none⟩ (.int .i64 0)).setCell ⟨ab, 2, none⟩ (.string ⟨#[]⟩) = wz at *
          refine bodyPost_ret (results_ct rfl _ _ ⟨ab, 0, none⟩ _ rfl (load_rec HK.out)) rfl ?_
          exact FIN.out w4 wz HB4.out HK.out HBU.out (by unfold rdr; rw [HA.out]; exact if_pos (Or.inr (Or.inr HHD.out.symm)))
        · have hsz : (1 : Int) ≤ (hd.size : Int) := by
            have h1 : hd.size ≠ 0 := fun e => hv2 (Bytes.B_inj (by
              have h2 : (B hd).length = 0 := by rw [← Bytes.size_B]; exact e
              exact List.length_eq_zero_iff.1 h2))
            omega
          have hv3 : hd.toList.isEmpty = false := by
            rcases h : hd.toList.isEmpty with _ | _
            · rfl
            · exact absurd (Bytes.B_inj (Bytes.B_nil.1 h)) hv2
          have hz1 : B (hd.extract 1 hd.size) = (fore 58 (B s)).drop 1 := by
            rw [Bytes.B_extract, HHD.out, Bytes.size_B, HHD.out, List.take_of_length_le (by rw [List.length_drop]; omega)]
          have HZ1 := hide hz1
          have hzs : (hd.extract 1 hd.size).size ≤ 281474976710656 := by
            rw [Bytes.size_B, hz1, ← HHD.out, List.length_drop, ← Bytes.size_B]
            omega
          have HNE := hide (show ¬ (v < 0 ∨ ((aft 58 (aft 58 (B s))).length : Int) < v ∨ fore 58 (B s) = []) from by
            rintro (h | h | h)
            · exact hv0 h
            · rw [← HZR.out] at h
              exact hv1 h
            · rw [← HHD.out] at h
              exact hv2 (Bytes.B_inj h))
          clear hz1
          rcases ha : Lib.atoiAll (B (hd.extract 1 hd.size)) with u | _ | _
          · have hat := atoiOk (hd.extract 1 hd.size) hzs u ha w4
            have HU := hide (show Lib.atoiAll ((fore 58 (B s)).drop 1) = .ok u from HZ1.out ▸ ha)
            clear ha
            go_wp2_with fail
            refine hat.mono ?_
            clear hat
            rintro e w5 ⟨rfl, hb5⟩
            have HB5 := hide (HB4.out.trans (hb5.mono HB4.out.size))
            clear hb5
            by_cases hu0 : u < 0
            · have hHN := Mem.Sits.below HN.out HB5.out HN.out.lt
              have f0 := hHN.frozen 0
              have f1 := hHN.frozen 1
              have f2 := hHN.frozen 2
              have c0 : w5.cell? ⟨ab, 0, none⟩ = some (.string ⟨#[]⟩) := hHN.cell 0 _ rfl
              have c1 : w5.cell? ⟨ab, 1, none⟩ = some (.int .i64 0) := hHN.cell 1 _ rfl
              have c2 : w5.cell? ⟨ab, 2, none⟩ = some (.string ⟨#[]⟩) := hHN.cell 2 _ rfl
              have HK := hide (((hHN.set 0 (.string ⟨#[]⟩)).set 1 (.int .i64 0)).set 2 (.string ⟨#[]⟩))
              have HBU := hide ((((But.refl ab w5).set 0 (.string ⟨#[]⟩)).set 1 (.int .i64 0)).set 2 (.string ⟨#[]⟩))
              clear hHN
              go_wp2_with fail
              generalize ((w5.setCell ⟨ab, 0, none⟩ (.string ⟨#[]⟩)).setCell ⟨ab, 1, none⟩ (.int .i64 0)).setCell ⟨ab, 2, none⟩ (.string ⟨#[]⟩) = wz at *
              refine bodyPost_ret (results_ct rfl _ _ ⟨ab, 0, none⟩ _ rfl (load_rec HK.out)) rfl ?_
              exact FIN.out w5 wz HB5.out HK.out HBU.out (by unfold rdr; rw [HA.out]; exact (if_neg HNE.out).trans (by rw [HU.out]; exact if_pos (Or.inl hu0)))
            · by_cases hu1 : 1000000000 < u
              · have hHN := Mem.Sits.below HN.out HB5.out HN.out.lt
                have f0 := hHN.frozen 0
                have f1 := hHN.frozen 1
                have f2 := hHN.frozen 2
                have c0 : w5.cell? ⟨ab, 0, none⟩ = some (.string ⟨#[]⟩) := hHN.cell 0 _ rfl
                have c1 : w5.cell? ⟨ab, 1, none⟩ = some (.int .i64 0) := hHN.cell 1 _ rfl
                have c2 : w5.cell? ⟨ab, 2, none⟩ = some (.string ⟨#[]⟩) := hHN.cell 2 _ rfl
                have HK := hide (((hHN.set 0 (.string ⟨#[]⟩)).set 1 (.int .i64 0)).set 2 (.string ⟨#[]⟩))
                have HBU := hide ((((But.refl ab w5).set 0 (.string ⟨#[]⟩)).set 1 (.int .i64 0)).set 2 (.string ⟨#[]⟩))
                clear hHN
                go_wp2_with fail
                generalize ((w5.setCell ⟨ab, 0, none⟩ (.string ⟨#[]⟩)).setCell ⟨ab, 1, none⟩ (.int .i64 0)).setCell ⟨ab, 2, none⟩ (.string ⟨#[]⟩) = wz at *
                refine bodyPost_ret (results_ct rfl _ _ ⟨ab, 0, none⟩ _ rfl (load_rec HK.out)) rfl ?_
                exact FIN.out w5 wz HB5.out HK.out HBU.out (by unfold rdr; rw [HA.out]; exact (if_neg HNE.out).trans (by rw [HU.out]; exact if_pos (Or.inr hu1)))
              · have hsl : v ≤ (r2.size : Int) := by omega
                have hvn : 0 ≤ v := by omega
                go_upto_region 9 with fail
                go_region
                have hs6 := Sits.new w5 121 #[.string (hd.extract 0 1), .int .i64 u, .string (r2.extract 0 v.toNat)]
                have hb6 := below_new (w := w5) (.cells #[.string (hd.extract 0 1), .int .i64 u, .string (r2.extract 0 v.toNat)] 121)
                have HS6 := hide (show Sits ((w5.alloc (.cells #[.string (hd.extract 0 1), .int .i64 u, .string (r2.extract 0 v.toNat)] 121)).drew) w5.heap.size 121 #[.string (hd.extract 0 1), .int .i64 u, .string (r2.extract 0 v.toNat)] from hs6)
                have HB6 := hide (HB5.out.trans ((hb6.mono HB5.out.size).drew))
                clear hs6 hb6
                generalize (w5.alloc (.cells #[.string (hd.extract 0 1), .int .i64 u, .string (r2.extract 0 v.toNat)] 121)).drew = w6 at *
                generalize w5.heap.size = rb at *
                have hk1 : B (hd.extract 0 1) = (fore 58 (B s)).take 1 := by
                  rw [Bytes.B_extract, HHD.out]
                  rfl
                have ht1 : B (r2.extract 0 v.toNat) = (aft 58 (aft 58 (B s))).take v.toNat := by
                  rw [Bytes.B_extract, HR2.out]
                  rfl
                have HK1 := hide hk1
                have HT1 := hide ht1
                have hks : (hd.extract 0 1).size ≤ 1000 := by
                  rw [Bytes.size_B, hk1, List.length_take]
                  omega
                have hts : (r2.extract 0 v.toNat).size ≤ 140737488355328 := by
                  rw [Bytes.size_B, ht1, List.length_take, ← HR2.out, ← Bytes.size_B]
                  omega
                have HKS := hide (And.intro hks hts)
                clear hk1 ht1 hks hts
                generalize hd.extract 0 1 = kb at *
                generalize r2.extract 0 v.toNat = tb at *
                go_upto_region 10 with fail
                refine region_D (fun W => Below w6.heap.size w6 W) 5 (by kernel_rfl) ?_
                have HWD := hide (show Below w6.heap.size w6 w6.drew from (Below.refl _ _).drew)
                generalize w6.drew = wd at *
                refine take_C (i := 0) (v := .agg #[.string kb, .int .i64 u, .string tb]) rfl (by decide) (by kernel_rfl) (by kernel_rfl) (by kernel_rfl) (by kernel_rfl) (fun _ _ _ h => h) (Or.inl ⟨by rfl, by intro W hW; have hu := Mem.Sits.below HS6.out hW HS6.out.lt; have k0 := hu.cell 0 _ rfl; have k1 := hu.cell 1 _ rfl; have k2 := hu.cell 2 _ rfl; clear hu; go_simp⟩) HWD.out ?_
                refine take_C (i := 1) (v := .string s) rfl (by decide) (by kernel_rfl) (by kernel_rfl) (by kernel_rfl) (by kernel_rfl) (fun _ _ _ h => h) (Or.inl ⟨by rfl, by intro W hW; go_simp⟩) HWD.out ?_
                refine take_C (i := 2) (v := .agg #[.string kb, .int .i64 u, .string tb]) rfl (by decide) (by kernel_rfl) (by kernel_rfl) (by kernel_rfl) (by kernel_rfl) (fun _ _ _ h => h) (Or.inl ⟨by rfl, by intro W hW; have hu := Mem.Sits.below HS6.out hW HS6.out.lt; have k0 := hu.cell 0 _ rfl; have k1 := hu.cell 1 _ rfl; have k2 := hu.cell 2 _ rfl; clear hu; go_simp⟩) HWD.out ?_
                have hwr := written kb u tb wd (HT.out.below (HB1.out.trans ((HB6.out.trans (HWD.out.mono HB6.out.size)).mono HB1.out.size))) HKS.out.1 (by omega) (by omega) HKS.out.2
                refine one_C (j := 3) (by kernel_rfl) rfl (fun K hK => ?_)
                go_simp
                refine hwr.mono ?_
                clear hwr
                rintro e w7 ⟨⟨z, rfl, hz⟩, hb7⟩
                have HB7 := hide (HWD.out.trans (hb7.mono HWD.out.size))
                have HZ := hide hz
                refine hK _ _ (fun _ => HB7.out) ?_
                clear hK K hb7 hz
                have hpr := Tryz.strings_HasPrefix s z w7
                refine one_C (j := 4) (by kernel_rfl) rfl (fun K hK => ?_)
                go_simp
                refine hpr.mono ?_
                clear hpr
                rintro e w8 ⟨rfl, hw8⟩
                subst hw8
                refine hK _ _ (fun _ => HB7.out) ?_
                clear hK K
                have hHN := Mem.Sits.below HN.out (HB6.out.trans (HB7.out.mono HB6.out.size)) HN.out.lt
                have f0 := hHN.frozen 0
                have f1 := hHN.frozen 1
                have f2 := hHN.frozen 2
                have c0 : w8.cell? ⟨ab, 0, none⟩ = some (.string ⟨#[]⟩) := hHN.cell 0 _ rfl
                have c1 : w8.cell? ⟨ab, 1, none⟩ = some (.int .i64 0) := hHN.cell 1 _ rfl
                have c2 : w8.cell? ⟨ab, 2, none⟩ = some (.string ⟨#[]⟩) := hHN.cell 2 _ rfl
                have HK := hide (((hHN.set 0 (.string kb)).set 1 (.int .i64 u)).set 2 (.string tb))
                have HBU := hide ((((But.refl ab w8).set 0 (.string kb)).set 1 (.int .i64 u)).set 2 (.string tb))
                clear hHN
                refine one_C (j := 5) (by kernel_rfl) rfl (fun K hK => ?_)
                go_simp
                refine hK _ _ (fun h => absurd h (by decide)) ?_
                clear hK K
                refine one_C (j := 6) (by kernel_rfl) rfl (fun K hK => ?_)
                go_simp
                refine hK _ _ (fun h => absurd h (by decide)) ?_
                clear hK K
                refine done_C (by kernel_rfl) ?_ _
                clear f0 f1 f2 c0 c1 c2
                generalize ((w8.setCell ⟨ab, 0, none⟩ (.string kb)).setCell ⟨ab, 1, none⟩ (.int .i64 u)).setCell ⟨ab, 2, none⟩ (.string tb) = wz at *
                go_wp2_with fail
                refine bodyPost_ret (results_ct rfl _ _ ⟨ab, 0, none⟩ _ rfl (load_rec HK.out)) rfl ?_
                have hb8 := HB1.out.trans ((HB6.out.trans (HB7.out.mono HB6.out.size)).mono HB1.out.size)
                have hR : rdr (B s) = ((B kb, u, B tb), Lib.hasPrefix (B s) (wrec (B kb) u (B tb))) := by
                  unfold rdr
                  rw [HA.out]
                  refine (if_neg HNE.out).trans ?_
                  rw [HU.out]
                  refine (if_neg (by omega)).trans ?_
                  rw [HK1.out, HT1.out]
                refine ⟨⟨kb, tb, ?_, ?_, ?_⟩, hb8.trans (HBU.out.below (Nat.le_of_eq HAB.out) hb8.size)⟩
                · rw [hR, ← HZ.out]
                  rfl
                · rw [hR]
                · rw [hR]
          · have hat := atoiBad (hd.extract 1 hd.size) hzs (fun v e => by rw [e] at ha; cases ha) w4 (HE.out.below (HB1.out.trans (HB4.out.mono HB1.out.size)) HE.out.lt)
            have HU := hide (show Lib.atoiAll ((fore 58 (B s)).drop 1) = .«syntax» from HZ1.out ▸ ha)
            clear ha
            go_wp2_with fail
            refine hat.mono ?_
            clear hat
            rintro e w5 ⟨⟨m, t, N, rfl⟩, hb5⟩
            have HB5 := hide (HB4.out.trans (hb5.mono HB4.out.size))
            clear hb5
            have hHN := Mem.Sits.below HN.out HB5.out HN.out.lt
            have f0 := hHN.frozen 0
            have f1 := hHN.frozen 1
            have f2 := hHN.frozen 2
            have c0 : w5.cell? ⟨ab, 0, none⟩ = some (.string ⟨#[]⟩) := hHN.cell 0 _ rfl
            have c1 : w5.cell? ⟨ab, 1, none⟩ = some (.int .i64 0) := hHN.cell 1 _ rfl
            have c2 : w5.cell? ⟨ab, 2, none⟩ = some (.string ⟨#[]⟩) := hHN.cell 2 _ rfl
            have HK := hide (((hHN.set 0 (.string ⟨#[]⟩)).set 1 (.int .i64 0)).set 2 (.string ⟨#[]⟩))
            have HBU := hide ((((But.refl ab w5).set 0 (.string ⟨#[]⟩)).set 1 (.int .i64 0)).set 2 (.string ⟨#[]⟩))
            clear hHN
            go_wp2_with fail
            generalize ((w5.setCell ⟨ab, 0, none⟩ (.string ⟨#[]⟩)).setCell ⟨ab, 1, none⟩ (.int .i64 0)).setCell ⟨ab, 2, none⟩ (.string ⟨#[]⟩) = wz at *
            refine bodyPost_ret (results_ct rfl _ _ ⟨ab, 0, none⟩ _ rfl (load_rec HK.out)) rfl ?_
            exact FIN.out w5 wz HB5.out HK.out HBU.out (by unfold rdr; rw [HA.out]; exact (if_neg HNE.out).trans (by rw [HU.out]))
          · have hat := atoiBad (hd.extract 1 hd.size) hzs (fun v e => by rw [e] at ha; cases ha) w4 (HE.out.below (HB1.out.trans (HB4.out.mono HB1.out.size)) HE.out.lt)
            have HU := hide (show Lib.atoiAll ((fore 58 (B s)).drop 1) = .range from HZ1.out ▸ ha)
            clear ha
            go_wp2_with fail
            refine hat.mono ?_
            clear hat
            rintro e w5 ⟨⟨m, t, N, rfl⟩, hb5⟩
            have HB5 := hide (HB4.out.trans (hb5.mono HB4.out.size))
            clear hb5
            have hHN := Mem.Sits.below HN.out HB5.out HN.out.lt
            have f0 := hHN.frozen 0
            have f1 := hHN.frozen 1
            have f2 := hHN.frozen 2
            have c0 : w5.cell? ⟨ab, 0, none⟩ = some (.string ⟨#[]⟩) := hHN.cell 0 _ rfl
            have c1 : w5.cell? ⟨ab, 1, none⟩ = some (.int .i64 0) := hHN.cell 1 _ rfl
            have c2 : w5.cell? ⟨ab, 2, none⟩ = some (.string ⟨#[]⟩) := hHN.cell 2 _ rfl
            have HK := hide (((hHN.set 0 (.string ⟨#[]⟩)).set 1 (.int .i64 0)).set 2 (.string ⟨#[]⟩))
            have HBU := hide ((((But.refl ab w5).set 0 (.string ⟨#[]⟩)).set 1 (.int .i64 0)).set 2 (.string ⟨#[]⟩))
            clear hHN
            go_wp2_with fail
            generalize ((w5.setCell ⟨ab, 0, none⟩ (.string ⟨#[]⟩)).setCell ⟨ab, 1, none⟩ (.int .i64 0)).setCell ⟨ab, 2, none⟩ (.string ⟨#[]⟩) = wz at *
            refine bodyPost_ret (results_ct rfl _ _ ⟨ab, 0, none⟩ _ rfl (load_rec HK.out)) rfl ?_
            exact FIN.out w5 wz HB5.out HK.out HBU.out (by unfold rdr; rw [HA.out]; exact (if_neg HNE.out).trans (by rw [HU.out]))
  · have hat := atoiBad ln (by omega) (fun v e => by rw [e] at ha; cases ha) w3 (HE.out.below (HB1.out.trans (HB3.out.mono HB1.out.size)) HE.out.lt)
    have HA := hide (show Lib.atoiAll (fore 58 (aft 58 (B s))) = .«syntax» from HLN.out ▸ ha)
    clear ha
    go_wp2_with fail
    refine hat.mono ?_
    clear hat
    rintro e w4 ⟨⟨m, t, N, rfl⟩, hb4⟩
    have HB4 := hide (HB3.out.trans (hb4.mono HB3.out.size))
    clear hb4
    have hHN := Mem.Sits.below HN.out HB4.out HN.out.lt
    have f0 := hHN.frozen 0
    have f1 := hHN.frozen 1
    have f2 := hHN.frozen 2
    have c0 : w4.cell? ⟨ab, 0, none⟩ = some (.string ⟨#[]⟩) := hHN.cell 0 _ rfl
    have c1 : w4.cell? ⟨ab, 1, none⟩ = some (.int .i64 0) := hHN.cell 1 _ rfl
    have c2 : w4.cell? ⟨ab, 2, none⟩ = some (.string ⟨#[]⟩) := hHN.cell 2 _ rfl
    have HK := hide (((hHN.set 0 (.string ⟨#[]⟩)).set 1 (.int .i64 0)).set 2 (.string ⟨#[]⟩))
    have HBU := hide ((((But.refl ab w4).set 0 (.string ⟨#[]⟩)).set 1 (.int .i64 0)).set 2 (.string ⟨#[]⟩))
    clear hHN
    go_wp2_with fail
    generalize ((w4.setCell ⟨ab, 0, none⟩ (.string ⟨#[]⟩)).setCell ⟨ab, 1, none⟩ (.int .i64 0)).setCell ⟨ab, 2, none⟩ (.string ⟨#[]⟩) = wz at *
    refine bodyPost_ret (results_ct rfl _ _ ⟨ab, 0, none⟩ _ rfl (load_rec HK.out)) rfl ?_
    exact FIN.out w4 wz HB4.out HK.out HBU.out (by unfold rdr; rw [HA.out])
  · have hat := atoiBad ln (by omega) (fun v e => by rw [e] at ha; cases ha) w3 (HE.out.below (HB1.out.trans (HB3.out.mono HB1.out.size)) HE.out.lt)
    have HA := hide (show Lib.atoiAll (fore 58 (aft 58 (B s))) = .range from HLN.out ▸ ha)
    clear ha
    go_wp2_with fail
    refine hat.mono ?_
    clear hat
    rintro e w4 ⟨⟨m, t, N, rfl⟩, hb4⟩
    have HB4 := hide (HB3.out.trans (hb4.mono HB3.out.size))
    clear hb4
    have hHN := Mem.Sits.below HN.out HB4.out HN.out.lt
    have f0 := hHN.frozen 0
    have f1 := hHN.frozen 1
    have f2 := hHN.frozen 2
    have c0 : w4.cell? ⟨ab, 0, none⟩ = some (.string ⟨#[]⟩) := hHN.cell 0 _ rfl
    have c1 : w4.cell? ⟨ab, 1, none⟩ = some (.int .i64 0) := hHN.cell 1 _ rfl
    have c2 : w4.cell? ⟨ab, 2, none⟩ = some (.string ⟨#[]⟩) := hHN.cell 2 _ rfl
    have HK := hide (((hHN.set 0 (.string ⟨#[]⟩)).set 1 (.int .i64 0)).set 2 (.string ⟨#[]⟩))
    have HBU := hide ((((But.refl ab w4).set 0 (.string ⟨#[]⟩)).set 1 (.int .i64 0)).set 2 (.string ⟨#[]⟩))
    clear hHN
    go_wp2_with fail
    generalize ((w4.setCell ⟨ab, 0, none⟩ (.string ⟨#[]⟩)).setCell ⟨ab, 1, none⟩ (.int .i64 0)).setCell ⟨ab, 2, none⟩ (.string ⟨#[]⟩) = wz at *
    refine bodyPost_ret (results_ct rfl _ _ ⟨ab, 0, none⟩ _ rfl (load_rec HK.out)) rfl ?_
    exact FIN.out w4 wz HB4.out HK.out HBU.out (by unfold rdr; rw [HA.out])
end Go.Proofs.YtmkidefdegaamaaGreatDoor.Jr
