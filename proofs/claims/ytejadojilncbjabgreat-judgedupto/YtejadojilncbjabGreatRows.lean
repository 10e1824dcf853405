/-
  No cell of these rows narrows 'for every input' (looked for: loops, veiled, ifaces, maps, wideKeys, modest, calm, conditions, laid).
  DERIVED. THE GIVEN ROWS OF THIS SEAT. 5 by the template 'for every input the law returns true; each argument reads behind the call as it read before'; 0 by the template 'total and deterministic' (their statements: YtejadojilncbjabGreatTotals.lean).
  GIVEN WITH THE SEED: the statements are not yours to turn. If you find one false, say at which input.
  Laid BY PROGRAM, IN A SANDBOX (cutbox-rows.mjs): the forced cells as the released guide's own fill.sh prints them over the translation 2d1d345ae43cf5e4… (all of the seat's roots in one cut). By AI agents, Wed Nov 11 2026. No macro, syntax, notation, axiom, sorry.
-/
import Derived.Test.YtejadojilncbjabGreatChecked
import GoSem.Claim
import GoSem.ClaimJoined
import GoSem.ClaimMapViews
import Derived.JoinedTies
import Derived.KernelRfl
namespace Go.Proofs.YtejadojilncbjabGreat
/- THE CELL 'sum', in the pinned program and in every row, IS THE sha256 OF THE DUMP (.gsa) THAT YtejadojilncbjabGreatProg.lean LOADS. Nothing in Lean hashes anything: it is a label: what it is worth is what the hold of that sum in a sandbox is worth. -/
noncomputable def Tryz.pinned : Pinned := { name := "ytejadojilncbjabgreat", sum := "2d1d345ae43cf5e4e0cdcffd185c83b9c3a1dd4129f9aff9863be29daf04c636", checked := Tryz.checked }
namespace Rows
def none {H : Type} : Left H := { results := [], args := [] }

/-- 'opaquekeep.Serial': WHATEVER THE INPUT: true; the input reads as it did. -/
def serialSpec : ChangeSpec := { name := "serial", fn := fun _ => fun
  | [d1, d2] => { results := [.lit (.bool true)], args := [d1, d2] }
  | _ => none }
def serialRow : OpenClaim := { program := "ytejadojilncbjabgreat", sum := "2d1d345ae43cf5e4e0cdcffd185c83b9c3a1dd4129f9aff9863be29daf04c636", func := "opaque/opaquekeep.Serial", spec := "serial", apart := false }
def SerialSaid : Prop := serialRow.holds Tryz.pinned (OpenSpec.ofChange serialSpec)

/-- ITS FALSE NEIGHBOUR: 'it returns false'. Refute it at one input. -/
def serialWrong : ChangeSpec := { name := "serial", fn := fun _ => fun
  | [d1, d2] => { results := [.lit (.bool false)], args := [d1, d2] }
  | _ => none }
def SerialWrongFalsely : Prop := serialRow.holds Tryz.pinned (OpenSpec.ofChange serialWrong)

/-- 'opaquekeep.Once': WHATEVER THE INPUT: true; the input reads as it did. -/
def onceSpec : ChangeSpec := { name := "once", fn := fun _ => fun
  | [d1, d2] => { results := [.lit (.bool true)], args := [d1, d2] }
  | _ => none }
def onceRow : OpenClaim := { program := "ytejadojilncbjabgreat", sum := "2d1d345ae43cf5e4e0cdcffd185c83b9c3a1dd4129f9aff9863be29daf04c636", func := "opaque/opaquekeep.Once", spec := "once", apart := false }
def OnceSaid : Prop := onceRow.holds Tryz.pinned (OpenSpec.ofChange onceSpec)

/-- ITS FALSE NEIGHBOUR: 'it returns false'. Refute it at one input. -/
def onceWrong : ChangeSpec := { name := "once", fn := fun _ => fun
  | [d1, d2] => { results := [.lit (.bool false)], args := [d1, d2] }
  | _ => none }
def OnceWrongFalsely : Prop := onceRow.holds Tryz.pinned (OpenSpec.ofChange onceWrong)

/-- 'opaquekeep.Judged': WHATEVER THE INPUT: true; the input reads as it did. -/
def judgedSpec : ChangeSpec := { name := "judged", fn := fun _ => fun
  | [d1, d2, d3] => { results := [.lit (.bool true)], args := [d1, d2, d3] }
  | _ => none }
def judgedRow : OpenClaim := { program := "ytejadojilncbjabgreat", sum := "2d1d345ae43cf5e4e0cdcffd185c83b9c3a1dd4129f9aff9863be29daf04c636", func := "opaque/opaquekeep.Judged", spec := "judged", apart := false }
def JudgedSaid : Prop := judgedRow.holds Tryz.pinned (OpenSpec.ofChange judgedSpec)

/-- ITS FALSE NEIGHBOUR: 'it returns false'. Refute it at one input. -/
def judgedWrong : ChangeSpec := { name := "judged", fn := fun _ => fun
  | [d1, d2, d3] => { results := [.lit (.bool false)], args := [d1, d2, d3] }
  | _ => none }
def JudgedWrongFalsely : Prop := judgedRow.holds Tryz.pinned (OpenSpec.ofChange judgedWrong)

/-- 'opaquelaw.Fresh': WHATEVER THE INPUT: true; the input reads as it did. -/
def freshSpec : ChangeSpec := { name := "fresh", fn := fun _ => fun
  | [d1, d2] => { results := [.lit (.bool true)], args := [d1, d2] }
  | _ => none }
def freshRow : OpenClaim := { program := "ytejadojilncbjabgreat", sum := "2d1d345ae43cf5e4e0cdcffd185c83b9c3a1dd4129f9aff9863be29daf04c636", func := "opaque/opaquelaw.Fresh", spec := "fresh", apart := false }
def FreshSaid : Prop := freshRow.holds Tryz.pinned (OpenSpec.ofChange freshSpec)

/-- ITS FALSE NEIGHBOUR: 'it returns false'. Refute it at one input. -/
def freshWrong : ChangeSpec := { name := "fresh", fn := fun _ => fun
  | [d1, d2] => { results := [.lit (.bool false)], args := [d1, d2] }
  | _ => none }
def FreshWrongFalsely : Prop := freshRow.holds Tryz.pinned (OpenSpec.ofChange freshWrong)

/-- 'opaquelaw.All': WHATEVER THE INPUT: true; the input reads as it did. -/
def allSpec : ChangeSpec := { name := "all", fn := fun _ => fun
  | [d1, d2, d3, d4] => { results := [.lit (.bool true)], args := [d1, d2, d3, d4] }
  | _ => none }
def allRow : OpenClaim := { program := "ytejadojilncbjabgreat", sum := "2d1d345ae43cf5e4e0cdcffd185c83b9c3a1dd4129f9aff9863be29daf04c636", func := "opaque/opaquelaw.All", spec := "all", apart := false }
def AllSaid : Prop := allRow.holds Tryz.pinned (OpenSpec.ofChange allSpec)

/-- ITS FALSE NEIGHBOUR: 'it returns false'. Refute it at one input. -/
def allWrong : ChangeSpec := { name := "all", fn := fun _ => fun
  | [d1, d2, d3, d4] => { results := [.lit (.bool false)], args := [d1, d2, d3, d4] }
  | _ => none }
def AllWrongFalsely : Prop := allRow.holds Tryz.pinned (OpenSpec.ofChange allWrong)

/- THE SECOND FORM. 'bulk': how many values and letters a reading holds, each counted each time it is reached (what is shared counts as often as it is met; a slice's spare places count too). A statement '..UptoSaid' is the law's where the arguments, and the package variables that the reading takes, are together of bulk at most 1048576: NARROWER than '..Said'. Prove '..Said' where nothing that the law and all that it calls make is longer than what came in: it says more and counts as full. Else prove '..UptoSaid'. A law counts once. -/
mutual
def uptoBulk {H : Type} : DataW H → Nat
  | .lit (.string bytes) => bytes.length + 1
  | .lit _ => 1
  | .nil => 1
  | .ptr d => uptoBulk d + 1
  | .slice elems spare => uptoBulkAll elems + uptoBulkAll spare + 1
  | .agg parts => uptoBulkAll parts + 1
  | .iface _ d => uptoBulk d + 1
  | .map entries => uptoBulkEntries entries + 1
  | .held _ => 1
def uptoBulkAll {H : Type} : List (DataW H) → Nat
  | [] => 0
  | d :: r => uptoBulk d + uptoBulkAll r
def uptoBulkEntries {H : Type} : List (Lit × DataW H) → Nat
  | [] => 0
  | x :: r => uptoBulkEntry x + uptoBulkEntries r
def uptoBulkEntry {H : Type} : Lit × DataW H → Nat
  | (.string bytes, d) => bytes.length + uptoBulk d + 1
  | (_, d) => uptoBulk d + 1
 end
def uptoSmall : (H : Type) → List (DataW H) → Bool := fun _ ds => decide (uptoBulkAll ds ≤ 1048576)
def OpenSpec.upto (s : _root_.Go.ChangeSpec) : _root_.Go.OpenSpec := { _root_.Go.OpenSpec.ofChange s with cond := some uptoSmall }

/-- 'opaquekeep.Serial', WHERE WHAT IT READS IS OF BULK AT MOST 1048576: true; the input reads as it did. -/
def serialUptoRow : OpenClaim := { program := "ytejadojilncbjabgreat", sum := "2d1d345ae43cf5e4e0cdcffd185c83b9c3a1dd4129f9aff9863be29daf04c636", func := "opaque/opaquekeep.Serial", spec := "serial", apart := false, narrowed := true }
def SerialUptoSaid : Prop := serialUptoRow.holds Tryz.pinned (OpenSpec.upto serialSpec)

/-- 'opaquekeep.Once', WHERE WHAT IT READS IS OF BULK AT MOST 1048576: true; the input reads as it did. -/
def onceUptoRow : OpenClaim := { program := "ytejadojilncbjabgreat", sum := "2d1d345ae43cf5e4e0cdcffd185c83b9c3a1dd4129f9aff9863be29daf04c636", func := "opaque/opaquekeep.Once", spec := "once", apart := false, narrowed := true }
def OnceUptoSaid : Prop := onceUptoRow.holds Tryz.pinned (OpenSpec.upto onceSpec)

/-- 'opaquekeep.Judged', WHERE WHAT IT READS IS OF BULK AT MOST 1048576: true; the input reads as it did. -/
def judgedUptoRow : OpenClaim := { program := "ytejadojilncbjabgreat", sum := "2d1d345ae43cf5e4e0cdcffd185c83b9c3a1dd4129f9aff9863be29daf04c636", func := "opaque/opaquekeep.Judged", spec := "judged", apart := false, narrowed := true }
def JudgedUptoSaid : Prop := judgedUptoRow.holds Tryz.pinned (OpenSpec.upto judgedSpec)

/-- 'opaquelaw.Fresh', WHERE WHAT IT READS IS OF BULK AT MOST 1048576: true; the input reads as it did. -/
def freshUptoRow : OpenClaim := { program := "ytejadojilncbjabgreat", sum := "2d1d345ae43cf5e4e0cdcffd185c83b9c3a1dd4129f9aff9863be29daf04c636", func := "opaque/opaquelaw.Fresh", spec := "fresh", apart := false, narrowed := true }
def FreshUptoSaid : Prop := freshUptoRow.holds Tryz.pinned (OpenSpec.upto freshSpec)

/-- 'opaquelaw.All', WHERE WHAT IT READS IS OF BULK AT MOST 1048576: true; the input reads as it did. -/
def allUptoRow : OpenClaim := { program := "ytejadojilncbjabgreat", sum := "2d1d345ae43cf5e4e0cdcffd185c83b9c3a1dd4129f9aff9863be29daf04c636", func := "opaque/opaquelaw.All", spec := "all", apart := false, narrowed := true }
def AllUptoSaid : Prop := allUptoRow.holds Tryz.pinned (OpenSpec.upto allSpec)

end Rows
end Go.Proofs.YtejadojilncbjabGreat
