/- Contracts of Go's library, at this program: laid by the guide's own tool, in plain words. -/
import Derived.Shelf.Strings.Builder1
import Derived.Shelf.Strings.Builder2
import Derived.Shelf.Strings.OnBuilder
import Derived.Shelf.Strings.Trim
import Derived.Shelf.Small.Bits
import Derived.Shelf.Small.Strs
import Derived.Shelf.Small.Wraps
import Derived.Shelf.Strings.BuilderF
import Derived.Shelf.Strconv.Itoa0
import Derived.Shelf.Strconv.Itoa1
import Derived.Shelf.LaysM
import Derived.Shelf.Strconv.Itoa2
import Derived.Shelf.Strconv.Itoa3
import Derived.Shelf.Strings.Search1
import Derived.Shelf.Strings.Search2
import Derived.Shelf.Strings.Search3
import Derived.Shelf.Strings.Cut
import Derived.Shelf.Strings.Count
import Derived.Shelf.Sort.Plain
import Derived.Shelf.Strings.Prefix
import Derived.Shelf.Strings.Split
import Derived.Shelf.Strings.SplitShaped
import Derived.Shelf.Unicode.Decode
import Derived.Shelf.Strings.RuneCount
import Derived.Shelf.Strings.Explode
import Derived.Shelf.Bits.Mul64
import Derived.Shelf.Strings.Repeat
import Derived.Shelf.Slices.CompactS
import Derived.Shelf.Slices.Cells
import Derived.Shelf.Slices.In.SortNone
import Derived.Test.YtpndiccohnafbaaGreatDoorProg
import Derived.Test.YtpndiccohnafbaaGreatDoorTextsy
open Go.Ending renaming returned->H,returned->Ua
open Go.Value renaming int->I
open Go.IntKind renaming i64->O
open Go.Proofs.Tryz renaming prog->ca
namespace Go.Proofs
open Go.Shelf
def Tryz.xz:Go.Shelf.Ren:=⟨fun|138=>169|195=>212|218=>214|143=>170|219=>215|217=>250|225=>251|224=>252|267=>253|266=>286|314=>287|n=>n,fun|9=>9|3=>3|4=>4|5=>5|0=>0|46=>173|146=>368|51=>235|n=>n,fun|1=>1|n=>n⟩
theorem Tryz.Ll:Go.Proofs.Lays.n138 ca Tryz.xz:=by repeat' first|kernel_rfl|decide|intro _|constructor
open Go.RowKit Go.Lib in
theorem Tryz.strings_Count_one (s:ByteArray)(c:UInt8)(w:World):
  Calls ca 169 #[.string s,.string ⟨#[c]⟩] w λe a=>e=H (I O (Lib.countByte s.data.toList c))/\a=w:=Any.strings_Count_one Tryz.Ll s c w
end Go.Proofs
namespace Go.Proofs.YtpndiccohnafbaaGreatDoor.Check
open Go.RowKit Mem
def zZ (b a n:Int):Bool:=decide (b<=n)&&decide (n<=a)
def aJ (a b c d e f:Int):Bool:=zZ 1 1000 a&&(zZ 1 32 b&&(zZ 1 16 c&&(zZ 2 64 d&&(zZ 1 16 e&&zZ 64 4096 f))))
theorem KW {b a n:Int}:zZ b a n=true↔b<=n/\n<=a:=by simp[zZ]
theorem within (n a b:Int)(w:World):
  Calls ca 74 #[I O n,I O a,I O b] w λe c=>e=H (.bool (zZ a b n))/\w=c:=by
 by_cases h:a<=n
 .go_in;go_wp2_with fail;go_ret;exact⟨by simp[zZ,h],rfl⟩
 go_in;go_wp2_with fail;go_ret;refine⟨congrArg (λz=>Ua (.bool z)) ?_,rfl⟩;grind [zZ]
theorem num (n:Int)(w:World):Calls ca 29 #[I O n] w λe a=>e=H (I O n)/\w=a:=by
 go_in;go_wp2_with fail;go_ret;exact⟨rfl,rfl⟩
theorem FY (a b c d e f:Int)(w:World):
  Calls ca 27 #[.agg #[I O a,I O b,I O c,I O d,I O e,I O f]] w λr g=>r=H (.agg #[I O a,I O b,I O c,I O d,I O e,I O f])/\Below w.heap.size w g:=by
 go_in;go_wp2_with fail;go_returns
 exact⟨rfl,(ai _).alloc (by simp) _⟩
theorem aa {p:Prop}(h:p):Hid p:=h
theorem check (a b c d e f:Int)(w:World):
  Calls ca 51 #[.agg #[I O a,I O b,I O c,I O d,I O e,I O f]] w λr h=>r=H (I O (if aJ a b c d e f=true then 0 else 1))/\Below w.heap.size w h:=by
 generalize g:(if aJ a b c d e f=true then (0:Int) else 1)=R;change Hid _ at g;go_in;go_wp2_with (go_at_call 74;refine(within _ _ _ _).mono ?_;rintro e h ⟨rfl,rfl⟩)
 all_goals go_ret
 all_goals refine⟨congrArg (λz=>Ua (I O z)) ?_,ai _⟩
 all_goals rw[<-g.out]
 all_goals simp_all [aJ]
theorem mr (a b c d e f:Int)(w:World):
  Calls ca 25 #[.agg #[I O a,I O b,I O c,I O d,I O e,I O f]] w λr h=>r=H (.bool (aJ a b c d e f))/\Below w.heap.size w h:=by
 generalize g:aJ a b c d e f=R;change Hid _ at g;go_in;go_wp2_with fail;all_goals go_ret
 all_goals refine⟨congrArg (λz=>Ua (.bool z)) ?_,ai _⟩
 all_goals rw[<-g.out]
 all_goals first|(simp[aJ,zZ];omega)|(grind [aJ,zZ])
end Go.Proofs.YtpndiccohnafbaaGreatDoor.Check
