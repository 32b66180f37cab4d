/- The document's line, read by places. No Go in sight. -/
import Derived.Test.YtenegfafjjknoaaGreatDoorRefs
import Derived.Test.YtenegfafjjknoaaGreatDoorRefi
namespace Go.Proofs.YtenegfafjjknoaaGreatDoor.Refl
open Bytes Nums Refs Refi

/-- What the document's reader keeps. -/
structure Rs where
  name : List UInt8
  kind : Int
  value : Int
  word : List UInt8
  rate : Int
  tags : List (List UInt8)

/-- The tags from place p on; k more may come. -/
def rtags (l : List UInt8) : Nat → Nat → List (List UInt8) → Option (List (List UInt8))
  | 0, p, acc => if p < l.length then none else some acc
  | k + 1, p, acc => if p < l.length then (if made let_ 8 (tw [44] (l.drop (p + 1))) = true then rtags l k (p + 1 + (tw [44] (l.drop (p + 1))).length) (ins (tw [44] (l.drop (p + 1))) acc) else none) else some acc

def lastOk (l : List UInt8) : Bool := !(l.getLast? == some 44) && !(l.getLast? == some 35)

/-- Behind the type and the rate, at place p. -/
def fin (l n v k : List UInt8) (rated : Bool) (r : Int) (p : Nat) : Option Rs :=
  (refVal k v rated).bind fun x =>
    if p < l.length then
      (if l[p + 1]? = some 35 then (rtags l 4 (p + 1) []).bind fun t => if lastOk l = true then some ⟨n, x.1, x.2.1, x.2.2, r, t⟩ else none else none)
    else some ⟨n, x.1, x.2.1, x.2.2, r, []⟩

/-- The document's rate. -/
def rok (q : List UInt8) : Option Int :=
  if q = [49] then some 1000 else if q.length < 3 ∨ q[0]? ≠ some 48 ∨ q[1]? ≠ some 46 ∨ refNum q < 1 then none else some (refNum q)

/-- Behind the type, at place p. -/
def opt (l n v k : List UInt8) (p : Nat) : Option Rs :=
  if l[p + 1]? = some 64 then (rok (tw [124] (l.drop (p + 2)))).bind fun r => fin l n v k true r (p + 2 + (tw [124] (l.drop (p + 2))).length)
  else fin l n v k false 1000 p

/-- Behind the name, at place p (its colon). -/
def val2 (l n : List UInt8) (p : Nat) : Option Rs :=
  if p + 1 + (tw [124] (l.drop (p + 1))).length < l.length then
    opt l n (tw [124] (l.drop (p + 1))) (tw [124] (l.drop (p + 1 + (tw [124] (l.drop (p + 1))).length + 1))) (p + 1 + (tw [124] (l.drop (p + 1))).length + 1 + (tw [124] (l.drop (p + 1 + (tw [124] (l.drop (p + 1))).length + 1))).length)
  else none

/-- The document's line. -/
def refRd (l : List UInt8) : Option Rs :=
  if made nam 16 (tw [58, 124] l) = true ∧ l[(tw [58, 124] l).length]? = some 58 then val2 l (tw [58, 124] l) (tw [58, 124] l).length else none

end Go.Proofs.YtenegfafjjknoaaGreatDoor.Refl
