/- What stands behind a line's type; and a line. No Go in sight. -/
import Derived.Test.YtenegfafjjknoaaGreatDoorTags
import Derived.Test.YtenegfafjjknoaaGreatDoorVals
namespace Go.Proofs.YtenegfafjjknoaaGreatDoor.Opts
open Bytes Nums Spl Tags Vals

/-- A rate, tags, or both in this order. -/
def opts (k l : List UInt8) : Option (Int × List (List UInt8)) :=
  if [64].isPrefixOf l then
    (if k = [103] ∨ k = [115] then none
    else (rate (fore 124 (l.drop 1))).bind fun r => if has 124 (l.drop 1) then (tagsOf (aft 124 (l.drop 1))).map fun t => (r, t) else some (r, []))
  else (tagsOf l).map fun t => (1000, t)

theorem opts_tags {k l : List UInt8} (h : [64].isPrefixOf l = false) : opts k l = (tagsOf l).map fun t => (1000, t) := by
  rw [opts, h]
  rfl

theorem opts_bar {k l : List UInt8} (h : [64].isPrefixOf l = true) (hk : k = [103] ∨ k = [115]) : opts k l = none := by
  rw [opts, if_pos h, if_pos hk]

theorem opts_rate {k l : List UInt8} (h : [64].isPrefixOf l = true) (hk : ¬ (k = [103] ∨ k = [115])) : opts k l = (rate (fore 124 (l.drop 1))).bind fun r => if has 124 (l.drop 1) then (tagsOf (aft 124 (l.drop 1))).map fun t => (r, t) else some (r, []) := by
  rw [opts, if_pos h, if_neg hk]

/-- What a line says. -/
structure Smp where
  name : List UInt8
  kind : List UInt8
  signed : Bool
  value : Int
  word : List UInt8
  rate : Int
  tags : List (List UInt8)

/-- Behind the name's colon. -/
def rdBehind (n l : List UInt8) : Option Smp :=
  if has 124 l then
    (rv (fore 124 (aft 124 l)) (fore 124 l)).bind fun x =>
      if has 124 (aft 124 l) then (opts x.1 (aft 124 (aft 124 l))).map fun o => ⟨n, x.1, x.2.1, x.2.2.1, x.2.2.2, o.1, o.2⟩
      else some ⟨n, x.1, x.2.1, x.2.2.1, x.2.2.2, 1000, []⟩
  else none

/-- A line, read. -/
def rd (l : List UInt8) : Option Smp :=
  if has 58 l then (if made nam 16 (fore 58 l) then rdBehind (fore 58 l) (aft 58 l) else none) else none

end Go.Proofs.YtenegfafjjknoaaGreatDoor.Opts
