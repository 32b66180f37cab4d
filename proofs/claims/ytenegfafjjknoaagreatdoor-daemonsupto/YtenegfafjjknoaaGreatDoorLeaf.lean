/- The smallest functions of both readers: which bytes are digits, letters, bytes of a name; texts made of such bytes. -/
import Derived.Test.YtenegfafjjknoaaGreatDoorProg
import Derived.Test.YtenegfafjjknoaaGreatDoorBytesy
import Derived.WalkKit
import Derived.WalkLawsBesides
import Derived.WalkSpells
import Derived.Handy
namespace Go.Proofs.YtenegfafjjknoaaGreatDoor.Leaf
open Go.RowKit Bytes
theorem ret_bool {a b:Bool}{w:World}(h:a=b):Ending.returned (.bool a)=Ending.returned (.bool b)∧w=w:=⟨by rw[h],rfl⟩
theorem isDigit (c:Int)(w:World):
  Calls Tryz.prog 231 #[.int .u8 c] w fun e w'=>e=.returned (.bool (dig c))∧w=w':=by
 go_enter Tryz.func231,Tryz.ntmps231
 go_wp2
 all_goals (go_ret;refine ret_bool ?_)
 all_goals (unfold dig;simp_all<;>omega)
theorem isLetter (c:Int)(w:World):
  Calls Tryz.prog 172 #[.int .u8 c] w fun e w'=>e=.returned (.bool (let_ c))∧w=w':=by
 go_enter Tryz.func172,Tryz.ntmps172
 go_wp2_with (go_at_call 231;refine(isDigit c _).mono ?_;rintro e w' ⟨rfl,rfl⟩)
 all_goals (go_ret;refine ret_bool ?_)
 all_goals (unfold let_;simp_all<;>omega)
theorem isNameByte (c:Int)(w:World):
  Calls Tryz.prog 129 #[.int .u8 c] w fun e w'=>e=.returned (.bool (nam c))∧w=w':=by
 go_enter Tryz.func129,Tryz.ntmps129
 go_wp2_with (go_at_call 172;refine(isLetter c _).mono ?_;rintro e w' ⟨rfl,rfl⟩)
 all_goals (go_ret;refine ret_bool ?_)
 all_goals (unfold nam;simp_all<;>omega)
theorem refDigit (c:Int)(w:World):
  Calls Tryz.prog 139 #[.int .u8 c] w fun e w'=>e=.returned (.bool (dig c))∧w=w':=by
 go_enter Tryz.func139,Tryz.ntmps139
 go_wp2
 all_goals (go_ret;refine ret_bool ?_)
 all_goals (unfold dig;simp_all<;>omega)
theorem refLetter (c:Int)(w:World):
  Calls Tryz.prog 138 #[.int .u8 c] w fun e w'=>e=.returned (.bool (let_ c))∧w=w':=by
 go_enter Tryz.func138,Tryz.ntmps138
 go_wp2_with (go_at_call 139;refine(refDigit c _).mono ?_;rintro e w' ⟨rfl,rfl⟩)
 all_goals (go_ret;refine ret_bool ?_)
 all_goals (unfold let_;cases hd:dig c<;>cases hc:c==95<;>simp_all<;>omega)
theorem madeOfDigit (s:ByteArray)(most:Int)(hs:s.size≤9223372036854775807)(w:World):
  Calls Tryz.prog 128 #[.string s,.int .i64 most,.func (.func 231) #[] #[]] w fun e w'=>e=.returned (.bool (made dig most (B s)))∧w=w':=by
 cases h0:s.toList.isEmpty with
 | true=>
  go_enter Tryz.func128,Tryz.ntmps128
  go_wp2
  go_ret
  exact ret_bool (made_empty h0).symm
 | false=>
  by_cases h1:most<(s.size:Int)
  ·go_enter Tryz.func128,Tryz.ntmps128
   go_wp2
   go_ret
   exact ret_bool (made_long h1).symm
  ·go_enter Tryz.func128,Tryz.ntmps128
   go_wp2
   go_loop [18] (fun i=>∃k:Nat,i=.int .i64 k∧k≤s.size∧Hid (((B s).take k).all fun b=>dig b.toNat))
    (fun i=>s.size - (intOf i).toNat)
   case atStart=>exact⟨0,rfl,Nat.zero_le _,rfl⟩
   case round=>
    obtain⟨k,rfl,hk,HD⟩:=hrel;go_wp2_with (go_at_call 231;refine(isDigit _ _).mono ?_;rintro e w' ⟨rfl,rfl⟩)
    ·have hlt:k<s.size:=by assumption
     have hb:(!dig ↑s[k].toNat)=true:=by assumption
     go_ret
     exact ret_bool (made_bad hlt (by simpa using hb)).symm
    ·have hlt:k<s.size:=by assumption
     have hb:(!dig ↑s[k].toNat)=false:=by assumption
     go_round
     case rel=>exact⟨k+1,by go_num,by omega,all_step hlt HD.out (by simpa using hb)⟩
     case measure=>simp[intOf];omega
    ·have hge:¬k<s.size:=by assumption
     have hk2:k=s.size:=by omega
     subst hk2;go_ret
     exact ret_bool (made_good h0 (by omega) HD.out).symm
theorem madeOfLetter (s:ByteArray)(most:Int)(hs:s.size≤9223372036854775807)(w:World):
  Calls Tryz.prog 128 #[.string s,.int .i64 most,.func (.func 172) #[] #[]] w fun e w'=>e=.returned (.bool (made let_ most (B s)))∧w=w':=by
 cases h0:s.toList.isEmpty with
 | true=>
  go_enter Tryz.func128,Tryz.ntmps128
  go_wp2
  go_ret
  exact ret_bool (made_empty h0).symm
 | false=>
  by_cases h1:most<(s.size:Int)
  ·go_enter Tryz.func128,Tryz.ntmps128
   go_wp2
   go_ret
   exact ret_bool (made_long h1).symm
  ·go_enter Tryz.func128,Tryz.ntmps128
   go_wp2
   go_loop [18] (fun i=>∃k:Nat,i=.int .i64 k∧k≤s.size∧Hid (((B s).take k).all fun b=>let_ b.toNat))
    (fun i=>s.size - (intOf i).toNat)
   case atStart=>exact⟨0,rfl,Nat.zero_le _,rfl⟩
   case round=>
    obtain⟨k,rfl,hk,HD⟩:=hrel;go_wp2_with (go_at_call 172;refine(isLetter _ _).mono ?_;rintro e w' ⟨rfl,rfl⟩)
    ·have hlt:k<s.size:=by assumption
     have hb:(!let_ ↑s[k].toNat)=true:=by assumption
     go_ret
     exact ret_bool (made_bad hlt (by simpa using hb)).symm
    ·have hlt:k<s.size:=by assumption
     have hb:(!let_ ↑s[k].toNat)=false:=by assumption
     go_round
     case rel=>exact⟨k+1,by go_num,by omega,all_step hlt HD.out (by simpa using hb)⟩
     case measure=>simp[intOf];omega
    ·have hge:¬k<s.size:=by assumption
     have hk2:k=s.size:=by omega
     subst hk2;go_ret
     exact ret_bool (made_good h0 (by omega) HD.out).symm
theorem madeOfNameByte (s:ByteArray)(most:Int)(hs:s.size≤9223372036854775807)(w:World):
  Calls Tryz.prog 128 #[.string s,.int .i64 most,.func (.func 129) #[] #[]] w fun e w'=>e=.returned (.bool (made nam most (B s)))∧w=w':=by
 cases h0:s.toList.isEmpty with
 | true=>
  go_enter Tryz.func128,Tryz.ntmps128
  go_wp2
  go_ret
  exact ret_bool (made_empty h0).symm
 | false=>
  by_cases h1:most<(s.size:Int)
  ·go_enter Tryz.func128,Tryz.ntmps128
   go_wp2
   go_ret
   exact ret_bool (made_long h1).symm
  ·go_enter Tryz.func128,Tryz.ntmps128
   go_wp2
   go_loop [18] (fun i=>∃k:Nat,i=.int .i64 k∧k≤s.size∧Hid (((B s).take k).all fun b=>nam b.toNat))
    (fun i=>s.size - (intOf i).toNat)
   case atStart=>exact⟨0,rfl,Nat.zero_le _,rfl⟩
   case round=>
    obtain⟨k,rfl,hk,HD⟩:=hrel;go_wp2_with (go_at_call 129;refine(isNameByte _ _).mono ?_;rintro e w' ⟨rfl,rfl⟩)
    ·have hlt:k<s.size:=by assumption
     have hb:(!nam ↑s[k].toNat)=true:=by assumption
     go_ret
     exact ret_bool (made_bad hlt (by simpa using hb)).symm
    ·have hlt:k<s.size:=by assumption
     have hb:(!nam ↑s[k].toNat)=false:=by assumption
     go_round
     case rel=>exact⟨k+1,by go_num,by omega,all_step hlt HD.out (by simpa using hb)⟩
     case measure=>simp[intOf];omega
    ·have hge:¬k<s.size:=by assumption
     have hk2:k=s.size:=by omega
     subst hk2;go_ret
     exact ret_bool (made_good h0 (by omega) HD.out).symm
theorem isName (s:ByteArray)(hs:s.size≤9223372036854775807)(w:World):
  Calls Tryz.prog 74 #[.string s] w fun e w'=>e=.returned (.bool (made nam 16 (B s)))∧w=w':=by
 go_enter Tryz.func74,Tryz.ntmps74
 go_wp2_with (go_at_call 128;refine(madeOfNameByte s 16 hs _).mono ?_;rintro e w' ⟨rfl,rfl⟩)
 go_ret
 exact⟨rfl,rfl⟩
theorem isWord (s:ByteArray)(most:Int)(hs:s.size≤9223372036854775807)(w:World):
  Calls Tryz.prog 130 #[.string s,.int .i64 most] w fun e w'=>e=.returned (.bool (made let_ most (B s)))∧w=w':=by
 go_enter Tryz.func130,Tryz.ntmps130
 go_wp2_with (go_at_call 128;refine(madeOfLetter s most hs _).mono ?_;rintro e w' ⟨rfl,rfl⟩)
 go_ret
 exact⟨rfl,rfl⟩
theorem isDigits (s:ByteArray)(most:Int)(hs:s.size≤9223372036854775807)(w:World):
  Calls Tryz.prog 174 #[.string s,.int .i64 most] w fun e w'=>e=.returned (.bool (made dig most (B s)))∧w=w':=by
 go_enter Tryz.func174,Tryz.ntmps174
 go_wp2_with (go_at_call 128;refine(madeOfDigit s most hs _).mono ?_;rintro e w' ⟨rfl,rfl⟩)
 go_ret
 exact⟨rfl,rfl⟩
end Go.Proofs.YtenegfafjjknoaaGreatDoor.Leaf
