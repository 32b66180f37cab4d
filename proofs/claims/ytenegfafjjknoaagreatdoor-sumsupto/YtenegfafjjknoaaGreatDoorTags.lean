/- Tags: no Go in sight. -/
import Derived.Test.YtenegfafjjknoaaGreatDoorSpl
import Derived.Lib.SlicesCompact
namespace Go.Proofs.YtenegfafjjknoaaGreatDoor.Tags
open Bytes Spl

/-- The list behind a hash sign: 1 to 4 tags; each once, rising. -/
def tagsOf (text : List UInt8) : Option (List (List UInt8)) :=
  if [35].isPrefixOf text then
    (if (spl 4 (text.drop 1)).length ≤ 4 then (if (spl 4 (text.drop 1)).all (made let_ 8) then some (Lib.compact ((spl 4 (text.drop 1)).mergeSort fun x y => decide (x ≤ y))) else none) else none)
  else none

theorem tagsOf_long {l : List UInt8} (hp : [35].isPrefixOf l = true) (h : 4 < (spl 4 (l.drop 1)).length) : tagsOf l = none := by
  rw [tagsOf, if_pos hp, if_neg (by omega)]

theorem tagsOf_bad {l : List UInt8} (hp : [35].isPrefixOf l = true) (h : (spl 4 (l.drop 1)).all (made let_ 8) = false) : tagsOf l = none := by
  rw [tagsOf, if_pos hp, h]
  simp

theorem tagsOf_good {l : List UInt8} (hp : [35].isPrefixOf l = true) (h4 : (spl 4 (l.drop 1)).length ≤ 4) (h : (spl 4 (l.drop 1)).all (made let_ 8) = true) : tagsOf l = some (Lib.compact ((spl 4 (l.drop 1)).mergeSort fun x y => decide (x ≤ y))) := by
  rw [tagsOf, if_pos hp, if_pos h4, h]
  rfl

theorem tagsOf_not {l : List UInt8} (hp : [35].isPrefixOf l = false) : tagsOf l = none := by
  rw [tagsOf, hp]
  rfl

end Go.Proofs.YtenegfafjjknoaaGreatDoor.Tags
