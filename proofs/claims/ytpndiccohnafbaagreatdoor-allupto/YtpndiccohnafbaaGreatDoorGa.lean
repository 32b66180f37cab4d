/- errors.Is at a failure of the journal's; what a daemon answers to it. -/
import Derived.Test.YtpndiccohnafbaaGreatDoorMemy
import Derived.Test.YtpndiccohnafbaaGreatDoorProg
import Derived.WalkKit
import Derived.LaidEql
import Derived.Stop.Asserts
open Go.Proofs.Tryz renaming prog->ca
open Go renaming run_typeAssert_lacksB->Ua,World->N,Value->C
open Go.Instr renaming typeAssert->Va
namespace Go.Proofs.YtpndiccohnafbaaGreatDoor.Dd
open Go.RowKit Go.Stop Go.Extern Mem Foot
theorem Sc (v:C)(w:N):(ReflectliteType.typeOf #[.iface 64 v]).run ca w=.ok (.iface 264 (.agg #[.pointer (some ⟨8,64,none⟩)])) w:=by kernel_rfl
def PT:Array C->Sem Value:=ReflectliteType.method λt=>do
 Rtype.noPackHeld "Comparable" t
 pure (.bool (<-typeInfo t).comparable)
theorem Sa (w:N):(PT #[.agg #[.pointer (some ⟨8,64,none⟩)]]).run ca w=.ok (.bool true) w:=by kernel_rfl
theorem Sb (v : C) (w : N) : (Go.method 201 264 v "Comparable").run ca w = .ok (346, v) w := by kernel_rfl
theorem Qz (v:C)(a:TypeId)(w:N):(Va (.iface 212 v) a 266 true).run ca w=.ok (.tuple #[.nilIface,.bool false]) w:=Ua Tryz.underlying266 (by kernel_rfl) (by kernel_rfl) v a w
theorem Qy (v:C)(a:TypeId)(w:N):(Va (.iface 64 v) a 266 true).run ca w=.ok (.tuple #[.nilIface,.bool false]) w:=Ua Tryz.underlying266 (by kernel_rfl) (by kernel_rfl) v a w
theorem QB (v:C)(a:TypeId)(w:N):(Va (.iface 64 v) a 269 true).run ca w=.ok (.tuple #[.nilIface,.bool false]) w:=Ua Tryz.underlying269 (by kernel_rfl) (by kernel_rfl) v a w
theorem QC (v:C)(a:TypeId)(w:N):(Va (.iface 64 v) a 270 true).run ca w=.ok (.tuple #[.nilIface,.bool false]) w:=Ua Tryz.underlying270 (by kernel_rfl) (by kernel_rfl) v a w
theorem Qd (v:C)(a:TypeId)(w:N):(Va (.iface 212 v) a 269 true).run ca w=.ok (.tuple #[.iface 212 v,.bool true]) w:=run_typeAssert_hasB Tryz.underlying269 (by kernel_rfl) v a w
theorem Sj (v : C) (w : N) : (Go.method 269 212 v "Unwrap").run ca w = .ok (342, v) w := by kernel_rfl
theorem isFull (b:Nat)(z:ByteArray)(n:Int)(w:N)(h:af w b 214 #[.string z,.iface 64 (.int .i64 n)]):
  Calls ca 90 #[.iface 212 (.pointer (some ⟨b,0,none⟩)),.iface 64 (.int .i64 7)] w λe f=>e=.returned (.bool (decide (n=7)))/\f=w:=by
 have c1:=h.Ri 1;have i:=@run_callFunc_extern ca 124 _ ReflectliteType.typeOf Tryz.func124 (by kernel_rfl) (by kernel_rfl) (by kernel_rfl) (by kernel_rfl);have j:=@run_callFunc_extern ca 346 _ PT Tryz.func346 (by kernel_rfl) (by kernel_rfl) (by kernel_rfl) (by kernel_rfl);have p:=Sc;have g:=Sa;have k:=Sb;have o:=Qz;have m:=Qy;have r:=QB;have t:=QC;have s:=Qd;have l:=Sj;have d:=run_eql_iface_types (P:=ca) 212 64 (.pointer (some ⟨b,0,none⟩)) (.int .i64 7) Tryz.underlying97 (by decide) w;have c:(binOp .eql 97 (.iface 64 (.int .i64 n)) (.iface 64 (.int .i64 7))).run ca w=.ok (.bool (n==7)) w:=by kernel_rfl
 have a:decide (n=7)=(n==7):=rfl;rw[a];generalize (n==7)=q at *;cases q<;>(
  go_in;go_wp2;refine wp_loop_rounds 2 ?_;rw[rounds_succ];go_wp2;rw[rounds_succ];go_wp2;go_ret;exact⟨rfl,rfl⟩)
end Go.Proofs.YtpndiccohnafbaaGreatDoor.Dd
