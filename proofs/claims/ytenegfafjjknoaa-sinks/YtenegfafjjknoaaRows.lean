/-
  No cell of these rows narrows 'for every input' (looked for: loops, veiled, ifaces, maps, wideKeys, modest, calm, conditions, laid).
  DERIVED. THE GIVEN ROWS OF THIS SEAT. 3 by the template 'for every input the law returns true; each argument reads behind the call as it read before'; 0 by the template 'total and deterministic' (their statements: YtenegfafjjknoaaTotals.lean).
  GIVEN WITH THE SEED: the statements are not yours to turn. If you find one false, say at which input.
  Laid BY PROGRAM, IN A SANDBOX (cutbox-rows.mjs): the forced cells as the released guide's own fill.sh prints them over the translation 0fd8d1e2a8ae5842… (all of the seat's roots in one cut). By AI agents, Wed Nov 11 2026. No macro, syntax, notation, axiom, sorry.
-/
import Derived.Test.YtenegfafjjknoaaChecked
import GoSem.Claim
import GoSem.ClaimJoined
import GoSem.ClaimMapViews
import Derived.JoinedTies
import Derived.KernelRfl
namespace Go.Proofs.Ytenegfafjjknoaa
/- THE CELL 'sum', in the pinned program and in every row, IS THE sha256 OF THE DUMP (.gsa) THAT YtenegfafjjknoaaProg.lean LOADS. Nothing in Lean hashes anything: it is a label: what it is worth is what the hold of that sum in a sandbox is worth. -/
noncomputable def Try.pinned : Pinned := { name := "ytenegfafjjknoaa", sum := "0fd8d1e2a8ae58424f98085278bdaba3d4d93a9b375a2ccdfd680240500b17f8", checked := Try.checked }
namespace Rows
def none {H : Type} : Left H := { results := [], args := [] }

/-- 'tallylaw.Buckets': WHATEVER THE INPUT: true; the input reads as it did. -/
def bucketsSpec : ChangeSpec := { name := "buckets", fn := fun _ => fun
  | [d] => { results := [.lit (.bool true)], args := [d] }
  | _ => none }
def bucketsRow : OpenClaim := { program := "ytenegfafjjknoaa", sum := "0fd8d1e2a8ae58424f98085278bdaba3d4d93a9b375a2ccdfd680240500b17f8", func := "tally/tallylaw.Buckets", spec := "buckets", apart := false }
def BucketsSaid : Prop := bucketsRow.holds Try.pinned (OpenSpec.ofChange bucketsSpec)

/-- ITS FALSE NEIGHBOUR: 'it returns false'. Refute it at one input. -/
def bucketsWrong : ChangeSpec := { name := "buckets", fn := fun _ => fun
  | [d] => { results := [.lit (.bool false)], args := [d] }
  | _ => none }
def BucketsWrongFalsely : Prop := bucketsRow.holds Try.pinned (OpenSpec.ofChange bucketsWrong)

/-- 'tallykeep.Near': WHATEVER THE INPUT: true; the input reads as it did. -/
def nearSpec : ChangeSpec := { name := "near", fn := fun _ => fun
  | [d] => { results := [.lit (.bool true)], args := [d] }
  | _ => none }
def nearRow : OpenClaim := { program := "ytenegfafjjknoaa", sum := "0fd8d1e2a8ae58424f98085278bdaba3d4d93a9b375a2ccdfd680240500b17f8", func := "tally/tallykeep.Near", spec := "near", apart := false }
def NearSaid : Prop := nearRow.holds Try.pinned (OpenSpec.ofChange nearSpec)

/-- ITS FALSE NEIGHBOUR: 'it returns false'. Refute it at one input. -/
def nearWrong : ChangeSpec := { name := "near", fn := fun _ => fun
  | [d] => { results := [.lit (.bool false)], args := [d] }
  | _ => none }
def NearWrongFalsely : Prop := nearRow.holds Try.pinned (OpenSpec.ofChange nearWrong)

/-- 'tallylaw.Sinks': WHATEVER THE INPUT: true; the input reads as it did. -/
def sinksSpec : ChangeSpec := { name := "sinks", fn := fun _ => fun
  | [d] => { results := [.lit (.bool true)], args := [d] }
  | _ => none }
def sinksRow : OpenClaim := { program := "ytenegfafjjknoaa", sum := "0fd8d1e2a8ae58424f98085278bdaba3d4d93a9b375a2ccdfd680240500b17f8", func := "tally/tallylaw.Sinks", spec := "sinks", unfollowed := true, recurses := true, apart := false }
def SinksSaid : Prop := sinksRow.holds Try.pinned (OpenSpec.ofChange sinksSpec)

/-- ITS FALSE NEIGHBOUR: 'it returns false'. Refute it at one input. -/
def sinksWrong : ChangeSpec := { name := "sinks", fn := fun _ => fun
  | [d] => { results := [.lit (.bool false)], args := [d] }
  | _ => none }
def SinksWrongFalsely : Prop := sinksRow.holds Try.pinned (OpenSpec.ofChange sinksWrong)

/- THE SECOND FORM. 'bulk': how many values and letters a reading holds, each counted each time it is reached (what is shared counts as often as it is met; a slice's spare places count too). A statement '..UptoSaid' is the law's where the arguments, and the package variables that the reading takes, are together of bulk at most 1048576: NARROWER than '..Said'. Prove '..Said' where nothing that the law and all that it calls make is longer than what came in: it says more and counts as full. Else prove '..UptoSaid'. A law counts once. -/
mutual
def uptoBulk {H : Type} : DataW H → Nat
  | .lit (.string bytes) => bytes.length + 1
  | .lit _ => 1
  | .nil => 1
  | .ptr d => uptoBulk d + 1
  | .slice elems spare => uptoBulkAll elems + uptoBulkAll spare + 1
  | .agg parts => uptoBulkAll parts + 1
  | .iface _ d => uptoBulk d + 1
  | .map entries => uptoBulkEntries entries + 1
  | .held _ => 1
def uptoBulkAll {H : Type} : List (DataW H) → Nat
  | [] => 0
  | d :: r => uptoBulk d + uptoBulkAll r
def uptoBulkEntries {H : Type} : List (Lit × DataW H) → Nat
  | [] => 0
  | x :: r => uptoBulkEntry x + uptoBulkEntries r
def uptoBulkEntry {H : Type} : Lit × DataW H → Nat
  | (.string bytes, d) => bytes.length + uptoBulk d + 1
  | (_, d) => uptoBulk d + 1
 end
def uptoSmall : (H : Type) → List (DataW H) → Bool := fun _ ds => decide (uptoBulkAll ds ≤ 1048576)
def OpenSpec.upto (s : _root_.Go.ChangeSpec) : _root_.Go.OpenSpec := { _root_.Go.OpenSpec.ofChange s with cond := some uptoSmall }

/-- 'tallylaw.Buckets', WHERE WHAT IT READS IS OF BULK AT MOST 1048576: true; the input reads as it did. -/
def bucketsUptoRow : OpenClaim := { program := "ytenegfafjjknoaa", sum := "0fd8d1e2a8ae58424f98085278bdaba3d4d93a9b375a2ccdfd680240500b17f8", func := "tally/tallylaw.Buckets", spec := "buckets", apart := false, narrowed := true }
def BucketsUptoSaid : Prop := bucketsUptoRow.holds Try.pinned (OpenSpec.upto bucketsSpec)

/-- 'tallykeep.Near', WHERE WHAT IT READS IS OF BULK AT MOST 1048576: true; the input reads as it did. -/
def nearUptoRow : OpenClaim := { program := "ytenegfafjjknoaa", sum := "0fd8d1e2a8ae58424f98085278bdaba3d4d93a9b375a2ccdfd680240500b17f8", func := "tally/tallykeep.Near", spec := "near", apart := false, narrowed := true }
def NearUptoSaid : Prop := nearUptoRow.holds Try.pinned (OpenSpec.upto nearSpec)

/-- 'tallylaw.Sinks', WHERE WHAT IT READS IS OF BULK AT MOST 1048576: true; the input reads as it did. -/
def sinksUptoRow : OpenClaim := { program := "ytenegfafjjknoaa", sum := "0fd8d1e2a8ae58424f98085278bdaba3d4d93a9b375a2ccdfd680240500b17f8", func := "tally/tallylaw.Sinks", spec := "sinks", unfollowed := true, recurses := true, apart := false, narrowed := true }
def SinksUptoSaid : Prop := sinksUptoRow.holds Try.pinned (OpenSpec.upto sinksSpec)

end Rows
end Go.Proofs.Ytenegfafjjknoaa
