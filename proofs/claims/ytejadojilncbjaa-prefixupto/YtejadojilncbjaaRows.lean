/-
  No cell of these rows narrows 'for every input' (looked for: loops, veiled, ifaces, maps, wideKeys, modest, calm, conditions, laid).
  DERIVED. THE GIVEN ROWS OF THIS SEAT. 5 by the template 'for every input the law returns true; each argument reads behind the call as it read before'; 0 by the template 'total and deterministic' (their statements: YtejadojilncbjaaTotals.lean).
  GIVEN WITH THE SEED: the statements are not yours to turn. If you find one false, say at which input.
  Laid BY PROGRAM, IN A SANDBOX (cutbox-rows.mjs): the forced cells as the released guide's own fill.sh prints them over the translation c7856bdf9be84c77… (all of the seat's roots in one cut). By AI agents, Wed Nov 11 2026. No macro, syntax, notation, axiom, sorry.
-/
import Derived.Test.YtejadojilncbjaaChecked
import GoSem.Claim
import GoSem.ClaimJoined
import GoSem.ClaimMapViews
import Derived.JoinedTies
import Derived.KernelRfl
namespace Go.Proofs.Ytejadojilncbjaa
/- THE CELL 'sum', in the pinned program and in every row, IS THE sha256 OF THE DUMP (.gsa) THAT YtejadojilncbjaaProg.lean LOADS. Nothing in Lean hashes anything: it is a label: what it is worth is what the hold of that sum in a sandbox is worth. -/
noncomputable def Try.pinned : Pinned := { name := "ytejadojilncbjaa", sum := "c7856bdf9be84c771bfef252cf6632093c5dcdd9373670b8a46e4393c9f69ec2", checked := Try.checked }
namespace Rows
def none {H : Type} : Left H := { results := [], args := [] }

/-- 'opaquelaw.Checks': WHATEVER THE INPUT: true; the input reads as it did. -/
def checksSpec : ChangeSpec := { name := "checks", fn := fun _ => fun
  | [d] => { results := [.lit (.bool true)], args := [d] }
  | _ => none }
def checksRow : OpenClaim := { program := "ytejadojilncbjaa", sum := "c7856bdf9be84c771bfef252cf6632093c5dcdd9373670b8a46e4393c9f69ec2", func := "opaque/opaquelaw.Checks", spec := "checks", apart := false }
def ChecksSaid : Prop := checksRow.holds Try.pinned (OpenSpec.ofChange checksSpec)

/-- ITS FALSE NEIGHBOUR: 'it returns false'. Refute it at one input. -/
def checksWrong : ChangeSpec := { name := "checks", fn := fun _ => fun
  | [d] => { results := [.lit (.bool false)], args := [d] }
  | _ => none }
def ChecksWrongFalsely : Prop := checksRow.holds Try.pinned (OpenSpec.ofChange checksWrong)

/-- 'opaquelaw.Alones': WHATEVER THE INPUT: true; the input reads as it did. -/
def alonesSpec : ChangeSpec := { name := "alones", fn := fun _ => fun
  | [d1, d2, d3] => { results := [.lit (.bool true)], args := [d1, d2, d3] }
  | _ => none }
def alonesRow : OpenClaim := { program := "ytejadojilncbjaa", sum := "c7856bdf9be84c771bfef252cf6632093c5dcdd9373670b8a46e4393c9f69ec2", func := "opaque/opaquelaw.Alones", spec := "alones", apart := false }
def AlonesSaid : Prop := alonesRow.holds Try.pinned (OpenSpec.ofChange alonesSpec)

/-- ITS FALSE NEIGHBOUR: 'it returns false'. Refute it at one input. -/
def alonesWrong : ChangeSpec := { name := "alones", fn := fun _ => fun
  | [d1, d2, d3] => { results := [.lit (.bool false)], args := [d1, d2, d3] }
  | _ => none }
def AlonesWrongFalsely : Prop := alonesRow.holds Try.pinned (OpenSpec.ofChange alonesWrong)

/-- 'opaquekeep.Shared': WHATEVER THE INPUT: true; the input reads as it did. -/
def sharedSpec : ChangeSpec := { name := "shared", fn := fun _ => fun
  | [d1, d2] => { results := [.lit (.bool true)], args := [d1, d2] }
  | _ => none }
def sharedRow : OpenClaim := { program := "ytejadojilncbjaa", sum := "c7856bdf9be84c771bfef252cf6632093c5dcdd9373670b8a46e4393c9f69ec2", func := "opaque/opaquekeep.Shared", spec := "shared", apart := false }
def SharedSaid : Prop := sharedRow.holds Try.pinned (OpenSpec.ofChange sharedSpec)

/-- ITS FALSE NEIGHBOUR: 'it returns false'. Refute it at one input. -/
def sharedWrong : ChangeSpec := { name := "shared", fn := fun _ => fun
  | [d1, d2] => { results := [.lit (.bool false)], args := [d1, d2] }
  | _ => none }
def SharedWrongFalsely : Prop := sharedRow.holds Try.pinned (OpenSpec.ofChange sharedWrong)

/-- 'opaquekeep.Ranked': WHATEVER THE INPUT: true; the input reads as it did. -/
def rankedSpec : ChangeSpec := { name := "ranked", fn := fun _ => fun
  | [d1, d2] => { results := [.lit (.bool true)], args := [d1, d2] }
  | _ => none }
def rankedRow : OpenClaim := { program := "ytejadojilncbjaa", sum := "c7856bdf9be84c771bfef252cf6632093c5dcdd9373670b8a46e4393c9f69ec2", func := "opaque/opaquekeep.Ranked", spec := "ranked", apart := false }
def RankedSaid : Prop := rankedRow.holds Try.pinned (OpenSpec.ofChange rankedSpec)

/-- ITS FALSE NEIGHBOUR: 'it returns false'. Refute it at one input. -/
def rankedWrong : ChangeSpec := { name := "ranked", fn := fun _ => fun
  | [d1, d2] => { results := [.lit (.bool false)], args := [d1, d2] }
  | _ => none }
def RankedWrongFalsely : Prop := rankedRow.holds Try.pinned (OpenSpec.ofChange rankedWrong)

/-- 'opaquekeep.Prefix': WHATEVER THE INPUT: true; the input reads as it did. -/
def prefixSpec : ChangeSpec := { name := "prefix", fn := fun _ => fun
  | [d1, d2, d3] => { results := [.lit (.bool true)], args := [d1, d2, d3] }
  | _ => none }
def prefixRow : OpenClaim := { program := "ytejadojilncbjaa", sum := "c7856bdf9be84c771bfef252cf6632093c5dcdd9373670b8a46e4393c9f69ec2", func := "opaque/opaquekeep.Prefix", spec := "prefix", apart := false }
def PrefixSaid : Prop := prefixRow.holds Try.pinned (OpenSpec.ofChange prefixSpec)

/-- ITS FALSE NEIGHBOUR: 'it returns false'. Refute it at one input. -/
def prefixWrong : ChangeSpec := { name := "prefix", fn := fun _ => fun
  | [d1, d2, d3] => { results := [.lit (.bool false)], args := [d1, d2, d3] }
  | _ => none }
def PrefixWrongFalsely : Prop := prefixRow.holds Try.pinned (OpenSpec.ofChange prefixWrong)

/- THE SECOND FORM. 'bulk': how many values and letters a reading holds, each counted each time it is reached (what is shared counts as often as it is met; a slice's spare places count too). A statement '..UptoSaid' is the law's where the arguments, and the package variables that the reading takes, are together of bulk at most 1048576: NARROWER than '..Said'. Prove '..Said' where nothing that the law and all that it calls make is longer than what came in: it says more and counts as full. Else prove '..UptoSaid'. A law counts once. -/
mutual
def uptoBulk {H : Type} : DataW H → Nat
  | .lit (.string bytes) => bytes.length + 1
  | .lit _ => 1
  | .nil => 1
  | .ptr d => uptoBulk d + 1
  | .slice elems spare => uptoBulkAll elems + uptoBulkAll spare + 1
  | .agg parts => uptoBulkAll parts + 1
  | .iface _ d => uptoBulk d + 1
  | .map entries => uptoBulkEntries entries + 1
  | .held _ => 1
def uptoBulkAll {H : Type} : List (DataW H) → Nat
  | [] => 0
  | d :: r => uptoBulk d + uptoBulkAll r
def uptoBulkEntries {H : Type} : List (Lit × DataW H) → Nat
  | [] => 0
  | x :: r => uptoBulkEntry x + uptoBulkEntries r
def uptoBulkEntry {H : Type} : Lit × DataW H → Nat
  | (.string bytes, d) => bytes.length + uptoBulk d + 1
  | (_, d) => uptoBulk d + 1
 end
def uptoSmall : (H : Type) → List (DataW H) → Bool := fun _ ds => decide (uptoBulkAll ds ≤ 1048576)
def OpenSpec.upto (s : _root_.Go.ChangeSpec) : _root_.Go.OpenSpec := { _root_.Go.OpenSpec.ofChange s with cond := some uptoSmall }

/-- 'opaquelaw.Checks', WHERE WHAT IT READS IS OF BULK AT MOST 1048576: true; the input reads as it did. -/
def checksUptoRow : OpenClaim := { program := "ytejadojilncbjaa", sum := "c7856bdf9be84c771bfef252cf6632093c5dcdd9373670b8a46e4393c9f69ec2", func := "opaque/opaquelaw.Checks", spec := "checks", apart := false, narrowed := true }
def ChecksUptoSaid : Prop := checksUptoRow.holds Try.pinned (OpenSpec.upto checksSpec)

/-- 'opaquelaw.Alones', WHERE WHAT IT READS IS OF BULK AT MOST 1048576: true; the input reads as it did. -/
def alonesUptoRow : OpenClaim := { program := "ytejadojilncbjaa", sum := "c7856bdf9be84c771bfef252cf6632093c5dcdd9373670b8a46e4393c9f69ec2", func := "opaque/opaquelaw.Alones", spec := "alones", apart := false, narrowed := true }
def AlonesUptoSaid : Prop := alonesUptoRow.holds Try.pinned (OpenSpec.upto alonesSpec)

/-- 'opaquekeep.Shared', WHERE WHAT IT READS IS OF BULK AT MOST 1048576: true; the input reads as it did. -/
def sharedUptoRow : OpenClaim := { program := "ytejadojilncbjaa", sum := "c7856bdf9be84c771bfef252cf6632093c5dcdd9373670b8a46e4393c9f69ec2", func := "opaque/opaquekeep.Shared", spec := "shared", apart := false, narrowed := true }
def SharedUptoSaid : Prop := sharedUptoRow.holds Try.pinned (OpenSpec.upto sharedSpec)

/-- 'opaquekeep.Ranked', WHERE WHAT IT READS IS OF BULK AT MOST 1048576: true; the input reads as it did. -/
def rankedUptoRow : OpenClaim := { program := "ytejadojilncbjaa", sum := "c7856bdf9be84c771bfef252cf6632093c5dcdd9373670b8a46e4393c9f69ec2", func := "opaque/opaquekeep.Ranked", spec := "ranked", apart := false, narrowed := true }
def RankedUptoSaid : Prop := rankedUptoRow.holds Try.pinned (OpenSpec.upto rankedSpec)

/-- 'opaquekeep.Prefix', WHERE WHAT IT READS IS OF BULK AT MOST 1048576: true; the input reads as it did. -/
def prefixUptoRow : OpenClaim := { program := "ytejadojilncbjaa", sum := "c7856bdf9be84c771bfef252cf6632093c5dcdd9373670b8a46e4393c9f69ec2", func := "opaque/opaquekeep.Prefix", spec := "prefix", apart := false, narrowed := true }
def PrefixUptoSaid : Prop := prefixUptoRow.holds Try.pinned (OpenSpec.upto prefixSpec)

end Rows
end Go.Proofs.Ytejadojilncbjaa
