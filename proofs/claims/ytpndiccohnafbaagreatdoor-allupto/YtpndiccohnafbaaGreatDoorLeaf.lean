/- The smallest functions of both readers: which bytes are digits, letters, bytes of a name; texts made of such bytes. -/
import Derived.Test.YtpndiccohnafbaaGreatDoorProg
import Derived.Test.YtpndiccohnafbaaGreatDoorBytesy
import Derived.WalkKit
import Derived.WalkLawsBesides
import Derived.WalkSpells
import Derived.Handy
open Go.Ending renaming returned->H
open Go.Proofs.Tryz renaming prog->ca
open Go renaming World->N,Calls->Ua
namespace Go.Proofs.YtpndiccohnafbaaGreatDoor.Leaf
open Go.RowKit Bytes
theorem cq {a b:Bool}{w:N}(h:a=b):Ending.returned (.bool a)=Ending.returned (.bool b)/\w=w:=⟨by rw[h],rfl⟩
theorem isDigit (c:Int)(w:N):
  Ua ca 288 #[.int .u8 c] w λe a=>e=H (.bool (dig c))/\w=a:=by
 go_in;go_wp2;all_goals (go_ret;refine cq ?_)
 all_goals (unfold dig;simp_all<;>omega)
theorem xm (c:Int)(w:N):
  Ua ca 254 #[.int .u8 c] w λe a=>e=H (.bool (dm c))/\w=a:=by
 go_in;go_wp2_with (go_at_call 288;refine(isDigit c _).mono ?_;rintro e a ⟨rfl,rfl⟩)
 all_goals (go_ret;refine cq ?_)
 all_goals (unfold dm;simp_all<;>omega)
theorem Ae (c:Int)(w:N):
  Ua ca 218 #[.int .u8 c] w λe a=>e=H (.bool (oA c))/\w=a:=by
 go_in;go_wp2_with (go_at_call 254;refine(xm c _).mono ?_;rintro e a ⟨rfl,rfl⟩)
 all_goals (go_ret;refine cq ?_)
 all_goals (unfold oA;simp_all<;>omega)
theorem gU (c:Int)(w:N):
  Ua ca 231 #[.int .u8 c] w λe a=>e=H (.bool (dig c))/\w=a:=by
 go_in;go_wp2;all_goals (go_ret;refine cq ?_)
 all_goals (unfold dig;simp_all<;>omega)
theorem mu (c:Int)(w:N):
  Ua ca 230 #[.int .u8 c] w λe a=>e=H (.bool (dm c))/\w=a:=by
 go_in;go_wp2_with (go_at_call 231;refine(gU c _).mono ?_;rintro e a ⟨rfl,rfl⟩)
 all_goals (go_ret;refine cq ?_)
 all_goals (unfold dm;cases d:dig c<;>cases b:c==95<;>simp_all<;>omega)
theorem xI (s:ByteArray)(a:Int)(o:s.size<=9223372036854775807)(w:N):
  Ua ca 217 #[.string s,.int .i64 a,.func (.func 288) #[] #[]] w λe j=>e=H (.bool (made dig a (B s)))/\w=j:=by
 cases h:s.toList.isEmpty with
 | true=>
  go_in;go_wp2;go_ret;exact cq (ky h).symm
 | false=>
  by_cases l:a<(s.size:Int)
  .go_in;go_wp2;go_ret;exact cq (mi l).symm
  go_in;go_wp2;go_loop [18] (λi=>∃k:Nat,i=.int .i64 k/\k<=s.size/\Hid (((B s).take k).all λb=>dig b.toNat))
   (λi=>s.size - (intOf i).toNat)
  case atStart=>exact⟨0,rfl,Nat.zero_le _,rfl⟩
  case round=>
   obtain⟨k,rfl,n,g⟩:=hrel;go_wp2_with (go_at_call 288;refine(isDigit _ _).mono ?_;rintro e j ⟨rfl,rfl⟩)
   .have c:k<s.size:=by assumption
    have d:(!dig ↑s[k].toNat)=true:=by assumption
    go_ret;exact cq (lI c (by simpa using d)).symm
   .have c:k<s.size:=by assumption
    have d:(!dig ↑s[k].toNat)=false:=by assumption
    go_round
    case rel=>exact⟨k+1,by go_num,by omega,kZ c g (by simpa using d)⟩
    grind [intOf]
   have m:¬k<s.size:=by assumption
   have f:k=s.size:=by omega
   subst f;go_ret;exact cq (mh h (by omega) g).symm
theorem vn (s:ByteArray)(a:Int)(o:s.size<=9223372036854775807)(w:N):
  Ua ca 217 #[.string s,.int .i64 a,.func (.func 254) #[] #[]] w λe j=>e=H (.bool (made dm a (B s)))/\w=j:=by
 cases h:s.toList.isEmpty with
 | true=>
  go_in;go_wp2;go_ret;exact cq (ky h).symm
 | false=>
  by_cases l:a<(s.size:Int)
  .go_in;go_wp2;go_ret;exact cq (mi l).symm
  go_in;go_wp2;go_loop [18] (λi=>∃k:Nat,i=.int .i64 k/\k<=s.size/\Hid (((B s).take k).all λb=>dm b.toNat))
   (λi=>s.size - (intOf i).toNat)
  case atStart=>exact⟨0,rfl,Nat.zero_le _,rfl⟩
  case round=>
   obtain⟨k,rfl,n,g⟩:=hrel;go_wp2_with (go_at_call 254;refine(xm _ _).mono ?_;rintro e j ⟨rfl,rfl⟩)
   .have c:k<s.size:=by assumption
    have d:(!dm ↑s[k].toNat)=true:=by assumption
    go_ret;exact cq (lI c (by simpa using d)).symm
   .have c:k<s.size:=by assumption
    have d:(!dm ↑s[k].toNat)=false:=by assumption
    go_round
    case rel=>exact⟨k+1,by go_num,by omega,kZ c g (by simpa using d)⟩
    grind [intOf]
   have m:¬k<s.size:=by assumption
   have f:k=s.size:=by omega
   subst f;go_ret;exact cq (mh h (by omega) g).symm
theorem rO (s:ByteArray)(a:Int)(o:s.size<=9223372036854775807)(w:N):
  Ua ca 217 #[.string s,.int .i64 a,.func (.func 218) #[] #[]] w λe j=>e=H (.bool (made oA a (B s)))/\w=j:=by
 cases h:s.toList.isEmpty with
 | true=>
  go_in;go_wp2;go_ret;exact cq (ky h).symm
 | false=>
  by_cases l:a<(s.size:Int)
  .go_in;go_wp2;go_ret;exact cq (mi l).symm
  go_in;go_wp2;go_loop [18] (λi=>∃k:Nat,i=.int .i64 k/\k<=s.size/\Hid (((B s).take k).all λb=>oA b.toNat))
   (λi=>s.size - (intOf i).toNat)
  case atStart=>exact⟨0,rfl,Nat.zero_le _,rfl⟩
  case round=>
   obtain⟨k,rfl,n,g⟩:=hrel;go_wp2_with (go_at_call 218;refine(Ae _ _).mono ?_;rintro e j ⟨rfl,rfl⟩)
   .have c:k<s.size:=by assumption
    have d:(!oA ↑s[k].toNat)=true:=by assumption
    go_ret;exact cq (lI c (by simpa using d)).symm
   .have c:k<s.size:=by assumption
    have d:(!oA ↑s[k].toNat)=false:=by assumption
    go_round
    case rel=>exact⟨k+1,by go_num,by omega,kZ c g (by simpa using d)⟩
    grind [intOf]
   have m:¬k<s.size:=by assumption
   have f:k=s.size:=by omega
   subst f;go_ret;exact cq (mh h (by omega) g).symm
theorem isName (s:ByteArray)(b:s.size<=9223372036854775807)(w:N):
  Ua ca 172 #[.string s] w λe a=>e=H (.bool (made oA 16 (B s)))/\w=a:=by
 go_in;go_wp2_with (go_at_call 217;refine(rO s 16 b _).mono ?_;rintro e a ⟨rfl,rfl⟩)
 go_ret;simp_all
theorem isWord (s:ByteArray)(a:Int)(c:s.size<=9223372036854775807)(w:N):
  Ua ca 219 #[.string s,.int .i64 a] w λe b=>e=H (.bool (made dm a (B s)))/\w=b:=by
 go_in;go_wp2_with (go_at_call 217;refine(vn s a c _).mono ?_;rintro e b ⟨rfl,rfl⟩)
 go_ret;simp_all
theorem nN (s:ByteArray)(a:Int)(c:s.size<=9223372036854775807)(w:N):
  Ua ca 256 #[.string s,.int .i64 a] w λe b=>e=H (.bool (made dig a (B s)))/\w=b:=by
 go_in;go_wp2_with (go_at_call 217;refine(xI s a c _).mono ?_;rintro e b ⟨rfl,rfl⟩)
 go_ret;simp_all
end Go.Proofs.YtpndiccohnafbaaGreatDoor.Leaf
