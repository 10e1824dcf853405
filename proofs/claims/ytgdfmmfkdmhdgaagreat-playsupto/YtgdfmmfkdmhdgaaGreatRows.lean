/-
  No cell of these rows narrows 'for every input' (looked for: loops, veiled, ifaces, maps, wideKeys, modest, calm, conditions, laid).
  DERIVED. THE GIVEN ROWS OF THIS SEAT. 3 by the template 'for every input the law returns true; each argument reads behind the call as it read before'; 0 by the template 'total and deterministic' (their statements: YtgdfmmfkdmhdgaaGreatTotals.lean).
  GIVEN WITH THE SEED: the statements are not yours to turn. If you find one false, say at which input.
  Laid BY PROGRAM, IN A SANDBOX (cutbox-rows.mjs): the forced cells as the released guide's own fill.sh prints them over the translation ae6bdab8316ddf16… (all of the seat's roots in one cut). By AI agents, Wed Nov 11 2026. No macro, syntax, notation, axiom, sorry.
-/
import Derived.Test.YtgdfmmfkdmhdgaaGreatChecked
import GoSem.Claim
import GoSem.ClaimJoined
import GoSem.ClaimMapViews
import Derived.JoinedTies
import Derived.KernelRfl
namespace Go.Proofs.YtgdfmmfkdmhdgaaGreat
/- THE CELL 'sum', in the pinned program and in every row, IS THE sha256 OF THE DUMP (.gsa) THAT YtgdfmmfkdmhdgaaGreatProg.lean LOADS. Nothing in Lean hashes anything: it is a label: what it is worth is what the hold of that sum in a sandbox is worth. -/
noncomputable def Tryz.pinned : Pinned := { name := "ytgdfmmfkdmhdgaagreat", sum := "ae6bdab8316ddf1680bd80efcceb8ce1010158a45d89cee2d54d8f0e138dc317", checked := Tryz.checked }
namespace Rows
def none {H : Type} : Left H := { results := [], args := [] }

/-- 'opaquelaw.Single': WHATEVER THE INPUT: true; the input reads as it did. -/
def singleSpec : ChangeSpec := { name := "single", fn := fun _ => fun
  | [d1, d2] => { results := [.lit (.bool true)], args := [d1, d2] }
  | _ => none }
def singleRow : OpenClaim := { program := "ytgdfmmfkdmhdgaagreat", sum := "ae6bdab8316ddf1680bd80efcceb8ce1010158a45d89cee2d54d8f0e138dc317", func := "opaque/opaquelaw.Single", spec := "single", apart := false }
def SingleSaid : Prop := singleRow.holds Tryz.pinned (OpenSpec.ofChange singleSpec)

/-- ITS FALSE NEIGHBOUR: 'it returns false'. Refute it at one input. -/
def singleWrong : ChangeSpec := { name := "single", fn := fun _ => fun
  | [d1, d2] => { results := [.lit (.bool false)], args := [d1, d2] }
  | _ => none }
def SingleWrongFalsely : Prop := singleRow.holds Tryz.pinned (OpenSpec.ofChange singleWrong)

/-- 'opaquelaw.Plays': WHATEVER THE INPUT: true; the input reads as it did. -/
def playsSpec : ChangeSpec := { name := "plays", fn := fun _ => fun
  | [d1, d2] => { results := [.lit (.bool true)], args := [d1, d2] }
  | _ => none }
def playsRow : OpenClaim := { program := "ytgdfmmfkdmhdgaagreat", sum := "ae6bdab8316ddf1680bd80efcceb8ce1010158a45d89cee2d54d8f0e138dc317", func := "opaque/opaquelaw.Plays", spec := "plays", apart := false }
def PlaysSaid : Prop := playsRow.holds Tryz.pinned (OpenSpec.ofChange playsSpec)

/-- ITS FALSE NEIGHBOUR: 'it returns false'. Refute it at one input. -/
def playsWrong : ChangeSpec := { name := "plays", fn := fun _ => fun
  | [d1, d2] => { results := [.lit (.bool false)], args := [d1, d2] }
  | _ => none }
def PlaysWrongFalsely : Prop := playsRow.holds Tryz.pinned (OpenSpec.ofChange playsWrong)

/-- 'opaquelaw.Holds': WHATEVER THE INPUT: true; the input reads as it did. -/
def holdsSpec : ChangeSpec := { name := "holds", fn := fun _ => fun
  | [d1, d2] => { results := [.lit (.bool true)], args := [d1, d2] }
  | _ => none }
def holdsRow : OpenClaim := { program := "ytgdfmmfkdmhdgaagreat", sum := "ae6bdab8316ddf1680bd80efcceb8ce1010158a45d89cee2d54d8f0e138dc317", func := "opaque/opaquelaw.Holds", spec := "holds", apart := false }
def HoldsSaid : Prop := holdsRow.holds Tryz.pinned (OpenSpec.ofChange holdsSpec)

/-- ITS FALSE NEIGHBOUR: 'it returns false'. Refute it at one input. -/
def holdsWrong : ChangeSpec := { name := "holds", fn := fun _ => fun
  | [d1, d2] => { results := [.lit (.bool false)], args := [d1, d2] }
  | _ => none }
def HoldsWrongFalsely : Prop := holdsRow.holds Tryz.pinned (OpenSpec.ofChange holdsWrong)

/- THE SECOND FORM. 'bulk': how many values and letters a reading holds, each counted each time it is reached (what is shared counts as often as it is met; a slice's spare places count too). A statement '..UptoSaid' is the law's where the arguments, and the package variables that the reading takes, are together of bulk at most 1048576: NARROWER than '..Said'. Prove '..Said' where nothing that the law and all that it calls make is longer than what came in: it says more and counts as full. Else prove '..UptoSaid'. A law counts once. -/
mutual
def uptoBulk {H : Type} : DataW H → Nat
  | .lit (.string bytes) => bytes.length + 1
  | .lit _ => 1
  | .nil => 1
  | .ptr d => uptoBulk d + 1
  | .slice elems spare => uptoBulkAll elems + uptoBulkAll spare + 1
  | .agg parts => uptoBulkAll parts + 1
  | .iface _ d => uptoBulk d + 1
  | .map entries => uptoBulkEntries entries + 1
  | .held _ => 1
def uptoBulkAll {H : Type} : List (DataW H) → Nat
  | [] => 0
  | d :: r => uptoBulk d + uptoBulkAll r
def uptoBulkEntries {H : Type} : List (Lit × DataW H) → Nat
  | [] => 0
  | x :: r => uptoBulkEntry x + uptoBulkEntries r
def uptoBulkEntry {H : Type} : Lit × DataW H → Nat
  | (.string bytes, d) => bytes.length + uptoBulk d + 1
  | (_, d) => uptoBulk d + 1
 end
def uptoSmall : (H : Type) → List (DataW H) → Bool := fun _ ds => decide (uptoBulkAll ds ≤ 1048576)
def OpenSpec.upto (s : _root_.Go.ChangeSpec) : _root_.Go.OpenSpec := { _root_.Go.OpenSpec.ofChange s with cond := some uptoSmall }

/-- 'opaquelaw.Single', WHERE WHAT IT READS IS OF BULK AT MOST 1048576: true; the input reads as it did. -/
def singleUptoRow : OpenClaim := { program := "ytgdfmmfkdmhdgaagreat", sum := "ae6bdab8316ddf1680bd80efcceb8ce1010158a45d89cee2d54d8f0e138dc317", func := "opaque/opaquelaw.Single", spec := "single", apart := false, narrowed := true }
def SingleUptoSaid : Prop := singleUptoRow.holds Tryz.pinned (OpenSpec.upto singleSpec)

/-- 'opaquelaw.Plays', WHERE WHAT IT READS IS OF BULK AT MOST 1048576: true; the input reads as it did. -/
def playsUptoRow : OpenClaim := { program := "ytgdfmmfkdmhdgaagreat", sum := "ae6bdab8316ddf1680bd80efcceb8ce1010158a45d89cee2d54d8f0e138dc317", func := "opaque/opaquelaw.Plays", spec := "plays", apart := false, narrowed := true }
def PlaysUptoSaid : Prop := playsUptoRow.holds Tryz.pinned (OpenSpec.upto playsSpec)

/-- 'opaquelaw.Holds', WHERE WHAT IT READS IS OF BULK AT MOST 1048576: true; the input reads as it did. -/
def holdsUptoRow : OpenClaim := { program := "ytgdfmmfkdmhdgaagreat", sum := "ae6bdab8316ddf1680bd80efcceb8ce1010158a45d89cee2d54d8f0e138dc317", func := "opaque/opaquelaw.Holds", spec := "holds", apart := false, narrowed := true }
def HoldsUptoSaid : Prop := holdsUptoRow.holds Tryz.pinned (OpenSpec.upto holdsSpec)

end Rows
end Go.Proofs.YtgdfmmfkdmhdgaaGreat
