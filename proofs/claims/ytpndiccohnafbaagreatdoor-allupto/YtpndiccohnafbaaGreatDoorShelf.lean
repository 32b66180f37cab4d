/- Contracts of Go's library, at this program: laid by the guide's own tool, in plain words. -/
import Derived.Shelf.Strings.Builder1
import Derived.Shelf.Strings.Builder2
import Derived.Shelf.Strings.OnBuilder
import Derived.Shelf.Strings.Trim
import Derived.Shelf.Small.Bits
import Derived.Shelf.Small.Strs
import Derived.Shelf.Small.Wraps
import Derived.Shelf.Strings.BuilderF
import Derived.Shelf.Strconv.Itoa0
import Derived.Shelf.Strconv.Itoa1
import Derived.Shelf.LaysM
import Derived.Shelf.Strconv.Itoa2
import Derived.Shelf.Strconv.Itoa3
import Derived.Shelf.Strings.Search1
import Derived.Shelf.Strings.Search2
import Derived.Shelf.Strings.Search3
import Derived.Shelf.Strings.Cut
import Derived.Shelf.Strings.Count
import Derived.Shelf.Sort.Plain
import Derived.Shelf.Strings.Prefix
import Derived.Shelf.Strings.Split
import Derived.Shelf.Strings.SplitShaped
import Derived.Shelf.Unicode.Decode
import Derived.Shelf.Strings.RuneCount
import Derived.Shelf.Strings.Explode
import Derived.Shelf.Bits.Mul64
import Derived.Shelf.Strings.Repeat
import Derived.Shelf.Slices.CompactS
import Derived.Shelf.Slices.Cells
import Derived.Shelf.Slices.In.SortNone
import Derived.Test.YtpndiccohnafbaaGreatDoorProg
open Go.Value renaming string->L
open Go.Ending renaming returned->H
open Go.Proofs.Tryz renaming prog->ca
open Go renaming World->N,Calls->Ua
open Go.Proofs.Builder renaming Extra->Va
open Go.Lib renaming indexByte->Wa
namespace Go.Proofs
open Go.Shelf
def Tryz.xB:Go.Shelf.Ren:=⟨fun|169=>83|n=>n,fun|70=>139|9=>9|0=>0|72=>142|37=>140|127=>198|3=>3|5=>5|n=>n,fun|n=>n⟩
theorem Tryz.ns:Va ca Tryz.xB:=by repeat' first|kernel_rfl|decide|intro _|constructor
def Tryz.pM:Go.Shelf.Ren:=⟨fun|156=>207|165=>246|166=>79|169=>83|240=>116|241=>283|276=>153|277=>299|n=>n,fun|31=>32|9=>9|3=>3|4=>4|0=>0|20=>20|72=>142|76=>143|70=>139|37=>140|75=>97|127=>198|164=>243|5=>5|80=>118|n=>n,fun|n=>n⟩
theorem Tryz.Ln:Go.Proofs.Lays.n156 ca Tryz.pM:=by repeat' first|kernel_rfl|decide|intro _|constructor
theorem Tryz.nj:Va ca Tryz.pM:=by repeat' first|kernel_rfl|decide|intro _|constructor
open Go.RowKit in
theorem Tryz.strings_Join (bk o c:Nat)(d:List ByteArray)(b:ByteArray)(w:N)(a:∀(j:Nat) x,d[j]? = some x->w.cell? ⟨bk,o+j,none⟩=some (L x))(g:bk<w.heap.size)(h:d.length<=140737488355328)(f:d.length<=c)(hlen:(Lib.join (d.map (·.data.toList)) b.data.toList).length<=140737488355328):
  Ua ca 207 #[.slice (some ⟨bk,o,none⟩) d.length c,L b] w λe i=>e=H (L ⟨(Lib.join (d.map (·.data.toList)) b.data.toList).toArray⟩)/\Below w.heap.size w i:=Any.strings_Join Tryz.Ln Tryz.nj bk o c d b w a g h f hlen
def Tryz.xy:Go.Shelf.Ren:=⟨fun|137=>255|217=>250|266=>286|n=>n,fun|9=>9|5=>5|3=>3|n=>n,fun|n=>n⟩
theorem Tryz.Lk:Go.Proofs.Lays.n137 ca Tryz.xy:=by repeat' first|kernel_rfl|decide|intro _|constructor
open Go.RowKit in
theorem Tryz.strings_IndexByte (s:ByteArray)(c:Int)(w:N):
  Ua ca 255 #[L s,.int .u8 c] w λe a=>e=H (.int .i64 (Wa s.data.toList c.toNat.toUInt8))/\a=w:=Any.strings_IndexByte Tryz.Lk s c w
def Tryz.xw:Go.Shelf.Ren:=⟨fun|103=>222|210=>259|206=>239|n=>n,fun|9=>9|4=>4|24=>317|3=>3|n=>n,fun|n=>n⟩
theorem Tryz.Li:Go.Proofs.Lays.n103 ca Tryz.xw:=by repeat' first|kernel_rfl|decide|intro _|constructor
open Go.RowKit in
theorem Tryz.strings_CutPrefix (s p:ByteArray)(w:N):
  Ua ca 222 #[L s,L p] w λe a=>e=H (.tuple #[L ⟨(Lib.trimPrefix s.data.toList p.data.toList).toArray⟩,.bool (Lib.hasPrefix s.data.toList p.data.toList)])/\a=w:=Any.strings_CutPrefix Tryz.Li s p w
def Tryz.vk:Go.Shelf.Ren:=⟨fun|171=>80|243=>117|246=>154|283=>200|284=>201|285=>202|286=>203|129=>147|317=>240|318=>241|319=>242|320=>243|337=>272|338=>273|n=>n,fun|3=>3|9=>9|2=>2|4=>4|171=>296|0=>0|53=>237|37=>140|5=>5|173=>298|212=>335|51=>235|20=>20|213=>336|46=>173|232=>375|233=>376|n=>n,fun|17=>0|18=>6|19=>7|n=>n⟩
theorem Tryz.Ha:Go.Proofs.LaysM.n171 ca Tryz.vk:=by repeat' first|kernel_rfl|decide|intro _|constructor
open Go.RowKit Go.Sort Go.Lib in
theorem Tryz.strconv_Itoa (n : Int) (b : -9223372036854775808 ≤ n) (c : n ≤ 9223372036854775807) (w : N) (a : Lib.TabIs ca w "internal/strconv.uint64pow10" .u64 Lib.pow10Tab) :
  Ua ca 80 #[.int .i64 n] w λe f=>e=H (L ⟨(Lib.itoa n).toArray⟩)/\∃k d,f=grow (w.drewN k) d:=Any.strconv_Itoa Tryz.Ha n b c w a
def Tryz.xE:Go.Shelf.Ren:=⟨fun|219=>215|217=>250|225=>251|224=>252|267=>253|266=>286|314=>287|n=>n,fun|9=>9|3=>3|4=>4|5=>5|46=>173|146=>368|51=>235|n=>n,fun|1=>1|n=>n⟩
theorem Tryz.Lq:Go.Proofs.Lays.n219 ca Tryz.xE:=by repeat' first|kernel_rfl|decide|intro _|constructor
open Go.RowKit Go.Lib in
theorem Tryz.stringslite_Index_one (s:ByteArray)(c:UInt8)(w:N):
  Ua ca 215 #[L s,L ⟨#[c]⟩] w λe a=>e=H (.int .i64 (Wa s.data.toList c))/\a=w:=Any.stringslite_Index_one Tryz.Lq s c w
def Tryz.xA:Go.Shelf.Ren:=⟨fun|143=>170|219=>215|217=>250|225=>251|224=>252|267=>253|266=>286|314=>287|n=>n,fun|9=>9|3=>3|4=>4|5=>5|46=>173|146=>368|51=>235|n=>n,fun|1=>1|n=>n⟩
theorem Tryz.Lm:Go.Proofs.Lays.n143 ca Tryz.xA:=by repeat' first|kernel_rfl|decide|intro _|constructor
open Go.RowKit Go.Lib in
theorem Tryz.strings_Index_one (s:ByteArray)(c:UInt8)(w:N):
  Ua ca 170 #[L s,L ⟨#[c]⟩] w λe a=>e=H (.int .i64 (Wa s.data.toList c))/\a=w:=Any.strings_Index_one Tryz.Lm s c w
def Tryz.xC:Go.Shelf.Ren:=⟨fun|190=>205|125=>108|258=>245|128=>146|129=>147|302=>274|303=>275|304=>276|305=>277|306=>278|307=>279|308=>280|309=>281|310=>282|333=>295|329=>192|330=>193|334=>296|335=>297|336=>298|344=>307|n=>n,fun|31=>32|9=>9|3=>3|46=>173|0=>0|51=>235|53=>237|4=>4|183=>228|182=>227|131=>232|5=>5|218=>288|222=>292|228=>330|229=>331|n=>n,fun|n=>n⟩
theorem Tryz.Lo:Go.Proofs.Lays.n190 ca Tryz.xC:=by repeat' first|kernel_rfl|decide|intro _|constructor
open Go.Sort Go.RowKit in
theorem Tryz.slices_Sort_string (blk a b:Nat)(d:List (List UInt8))(w:N)(g:Holds encStr w blk a d.toArray)(c:blk<w.heap.size)(f:d.length<4611686018427387904):
  Ua ca 205 #[.slice (some ⟨blk,a,none⟩) d.length b] w λe i=>
   e=H (.tuple #[])/\∃n h,i=grow (putRow encStr (Sort.ahead w n) blk a (d.mergeSort λx y=>decide (x<=y)).toArray) h:=Any.slices_Sort_string Tryz.Lo blk a b d w g c f
def Tryz.pL:Go.Shelf.Ren:=⟨fun|105=>289|212=>303|99=>197|165=>246|166=>79|170=>304|169=>83|263=>310|264=>311|206=>239|240=>116|241=>283|276=>153|277=>299|n=>n,fun|9=>9|3=>3|4=>4|20=>20|0=>0|46=>173|109=>381|5=>5|72=>142|76=>143|51=>235|146=>368|53=>237|148=>391|70=>139|37=>140|75=>97|127=>198|164=>243|80=>118|n=>n,fun|n=>n⟩
theorem Tryz.Lj:Go.Proofs.Lays.n105 ca Tryz.pL:=by repeat' first|kernel_rfl|decide|intro _|constructor
theorem Tryz.ni:Va ca Tryz.pL:=by repeat' first|kernel_rfl|decide|intro _|constructor
open Go.RowKit Go.Lib in
theorem Tryz.strings_Repeat (s:ByteArray)(c:Nat)(w:N)(a:c<=9223372036854775807)(hlen:s.size*c<=140737488355328):
  Ua ca 289 #[L s,.int .i64 c] w λe b=>e=H (L ⟨(Lib.repeatL s.data.toList c).toArray⟩)/\Below w.heap.size w b:=Any.strings_Repeat Tryz.Lj Tryz.ni s c w a hlen
def Tryz.xD:Go.Shelf.Ren:=⟨fun|194=>261|n=>n,fun|31=>32|9=>9|3=>3|4=>4|0=>0|n=>n,fun|n=>n⟩
theorem Tryz.Lp:Go.Proofs.Lays.n194 ca Tryz.xD:=by repeat' first|kernel_rfl|decide|intro _|constructor
open Go.RowKit Go.Lib Go.Sort in
theorem Tryz.slices_Compact_string (blk a b:Nat)(c:List (List UInt8))(w:N)(g:Holds encStr w blk a c.toArray)(f:c.length<=9223372036854775807)(d:c.length<=b):
  Ua ca 261 #[.slice (some ⟨blk,a,none⟩) c.length b] w λe h=>e=H (.slice (some ⟨blk,a,none⟩) (Lib.compact c).length b)/\∃q,h=putRow encStr (Sort.ahead w q) blk a (Lib.compact c++List.replicate (c.length - (Lib.compact c).length) []).toArray:=Any.slices_Compact_string Tryz.Lp blk a b c w g f d
end Go.Proofs
