/-
  No cell of these rows narrows 'for every input' (looked for: loops, veiled, ifaces, maps, wideKeys, modest, calm, conditions, laid).
  DERIVED. THE GIVEN ROWS OF THIS SEAT. 7 by the template 'for every input the law returns true; each argument reads behind the call as it read before'; 0 by the template 'total and deterministic' (their statements: YtejadojilncbjaaGreatTotals.lean).
  GIVEN WITH THE SEED: the statements are not yours to turn. If you find one false, say at which input.
  Laid BY PROGRAM, IN A SANDBOX (cutbox-rows.mjs): the forced cells as the released guide's own fill.sh prints them over the translation b58650445b3ed783… (all of the seat's roots in one cut). By AI agents, Wed Nov 11 2026. No macro, syntax, notation, axiom, sorry.
-/
import Derived.Test.YtejadojilncbjaaGreatChecked
import GoSem.Claim
import GoSem.ClaimJoined
import GoSem.ClaimMapViews
import Derived.JoinedTies
import Derived.KernelRfl
namespace Go.Proofs.YtejadojilncbjaaGreat
/- THE CELL 'sum', in the pinned program and in every row, IS THE sha256 OF THE DUMP (.gsa) THAT YtejadojilncbjaaGreatProg.lean LOADS. Nothing in Lean hashes anything: it is a label: what it is worth is what the hold of that sum in a sandbox is worth. -/
noncomputable def Tryz.pinned : Pinned := { name := "ytejadojilncbjaagreat", sum := "b58650445b3ed783fddc7066147ad772b2300ee6616566dff59d7e2fc488d099", checked := Tryz.checked }
namespace Rows
def none {H : Type} : Left H := { results := [], args := [] }

/-- 'opaquelaw.Single': WHATEVER THE INPUT: true; the input reads as it did. -/
def singleSpec : ChangeSpec := { name := "single", fn := fun _ => fun
  | [d1, d2] => { results := [.lit (.bool true)], args := [d1, d2] }
  | _ => none }
def singleRow : OpenClaim := { program := "ytejadojilncbjaagreat", sum := "b58650445b3ed783fddc7066147ad772b2300ee6616566dff59d7e2fc488d099", func := "opaque/opaquelaw.Single", spec := "single", apart := false }
def SingleSaid : Prop := singleRow.holds Tryz.pinned (OpenSpec.ofChange singleSpec)

/-- ITS FALSE NEIGHBOUR: 'it returns false'. Refute it at one input. -/
def singleWrong : ChangeSpec := { name := "single", fn := fun _ => fun
  | [d1, d2] => { results := [.lit (.bool false)], args := [d1, d2] }
  | _ => none }
def SingleWrongFalsely : Prop := singleRow.holds Tryz.pinned (OpenSpec.ofChange singleWrong)

/-- 'opaquelaw.Plays': WHATEVER THE INPUT: true; the input reads as it did. -/
def playsSpec : ChangeSpec := { name := "plays", fn := fun _ => fun
  | [d1, d2] => { results := [.lit (.bool true)], args := [d1, d2] }
  | _ => none }
def playsRow : OpenClaim := { program := "ytejadojilncbjaagreat", sum := "b58650445b3ed783fddc7066147ad772b2300ee6616566dff59d7e2fc488d099", func := "opaque/opaquelaw.Plays", spec := "plays", apart := false }
def PlaysSaid : Prop := playsRow.holds Tryz.pinned (OpenSpec.ofChange playsSpec)

/-- ITS FALSE NEIGHBOUR: 'it returns false'. Refute it at one input. -/
def playsWrong : ChangeSpec := { name := "plays", fn := fun _ => fun
  | [d1, d2] => { results := [.lit (.bool false)], args := [d1, d2] }
  | _ => none }
def PlaysWrongFalsely : Prop := playsRow.holds Tryz.pinned (OpenSpec.ofChange playsWrong)

/-- 'opaquelaw.Holds': WHATEVER THE INPUT: true; the input reads as it did. -/
def holdsSpec : ChangeSpec := { name := "holds", fn := fun _ => fun
  | [d1, d2] => { results := [.lit (.bool true)], args := [d1, d2] }
  | _ => none }
def holdsRow : OpenClaim := { program := "ytejadojilncbjaagreat", sum := "b58650445b3ed783fddc7066147ad772b2300ee6616566dff59d7e2fc488d099", func := "opaque/opaquelaw.Holds", spec := "holds", apart := false }
def HoldsSaid : Prop := holdsRow.holds Tryz.pinned (OpenSpec.ofChange holdsSpec)

/-- ITS FALSE NEIGHBOUR: 'it returns false'. Refute it at one input. -/
def holdsWrong : ChangeSpec := { name := "holds", fn := fun _ => fun
  | [d1, d2] => { results := [.lit (.bool false)], args := [d1, d2] }
  | _ => none }
def HoldsWrongFalsely : Prop := holdsRow.holds Tryz.pinned (OpenSpec.ofChange holdsWrong)

/-- 'opaquekeep.Guarded': WHATEVER THE INPUT: true; the input reads as it did. -/
def guardedSpec : ChangeSpec := { name := "guarded", fn := fun _ => fun
  | [d1, d2] => { results := [.lit (.bool true)], args := [d1, d2] }
  | _ => none }
def guardedRow : OpenClaim := { program := "ytejadojilncbjaagreat", sum := "b58650445b3ed783fddc7066147ad772b2300ee6616566dff59d7e2fc488d099", func := "opaque/opaquekeep.Guarded", spec := "guarded", apart := false }
def GuardedSaid : Prop := guardedRow.holds Tryz.pinned (OpenSpec.ofChange guardedSpec)

/-- ITS FALSE NEIGHBOUR: 'it returns false'. Refute it at one input. -/
def guardedWrong : ChangeSpec := { name := "guarded", fn := fun _ => fun
  | [d1, d2] => { results := [.lit (.bool false)], args := [d1, d2] }
  | _ => none }
def GuardedWrongFalsely : Prop := guardedRow.holds Tryz.pinned (OpenSpec.ofChange guardedWrong)

/-- 'opaquelaw.Finishes': WHATEVER THE INPUT: true; the input reads as it did. -/
def finishesSpec : ChangeSpec := { name := "finishes", fn := fun _ => fun
  | [d1, d2] => { results := [.lit (.bool true)], args := [d1, d2] }
  | _ => none }
def finishesRow : OpenClaim := { program := "ytejadojilncbjaagreat", sum := "b58650445b3ed783fddc7066147ad772b2300ee6616566dff59d7e2fc488d099", func := "opaque/opaquelaw.Finishes", spec := "finishes", apart := false }
def FinishesSaid : Prop := finishesRow.holds Tryz.pinned (OpenSpec.ofChange finishesSpec)

/-- ITS FALSE NEIGHBOUR: 'it returns false'. Refute it at one input. -/
def finishesWrong : ChangeSpec := { name := "finishes", fn := fun _ => fun
  | [d1, d2] => { results := [.lit (.bool false)], args := [d1, d2] }
  | _ => none }
def FinishesWrongFalsely : Prop := finishesRow.holds Tryz.pinned (OpenSpec.ofChange finishesWrong)

/-- 'opaquelaw.Histories': WHATEVER THE INPUT: true; the input reads as it did. -/
def historiesSpec : ChangeSpec := { name := "histories", fn := fun _ => fun
  | [d1, d2] => { results := [.lit (.bool true)], args := [d1, d2] }
  | _ => none }
def historiesRow : OpenClaim := { program := "ytejadojilncbjaagreat", sum := "b58650445b3ed783fddc7066147ad772b2300ee6616566dff59d7e2fc488d099", func := "opaque/opaquelaw.Histories", spec := "histories", apart := false }
def HistoriesSaid : Prop := historiesRow.holds Tryz.pinned (OpenSpec.ofChange historiesSpec)

/-- ITS FALSE NEIGHBOUR: 'it returns false'. Refute it at one input. -/
def historiesWrong : ChangeSpec := { name := "histories", fn := fun _ => fun
  | [d1, d2] => { results := [.lit (.bool false)], args := [d1, d2] }
  | _ => none }
def HistoriesWrongFalsely : Prop := historiesRow.holds Tryz.pinned (OpenSpec.ofChange historiesWrong)

/-- 'opaquekeep.Opaque': WHATEVER THE INPUT: true; the input reads as it did. -/
def opaqueSpec : ChangeSpec := { name := "opaque", fn := fun _ => fun
  | [d1, d2] => { results := [.lit (.bool true)], args := [d1, d2] }
  | _ => none }
def opaqueRow : OpenClaim := { program := "ytejadojilncbjaagreat", sum := "b58650445b3ed783fddc7066147ad772b2300ee6616566dff59d7e2fc488d099", func := "opaque/opaquekeep.Opaque", spec := "opaque", apart := false }
def OpaqueSaid : Prop := opaqueRow.holds Tryz.pinned (OpenSpec.ofChange opaqueSpec)

/-- ITS FALSE NEIGHBOUR: 'it returns false'. Refute it at one input. -/
def opaqueWrong : ChangeSpec := { name := "opaque", fn := fun _ => fun
  | [d1, d2] => { results := [.lit (.bool false)], args := [d1, d2] }
  | _ => none }
def OpaqueWrongFalsely : Prop := opaqueRow.holds Tryz.pinned (OpenSpec.ofChange opaqueWrong)

/- THE SECOND FORM. 'bulk': how many values and letters a reading holds, each counted each time it is reached (what is shared counts as often as it is met; a slice's spare places count too). A statement '..UptoSaid' is the law's where the arguments, and the package variables that the reading takes, are together of bulk at most 1048576: NARROWER than '..Said'. Prove '..Said' where nothing that the law and all that it calls make is longer than what came in: it says more and counts as full. Else prove '..UptoSaid'. A law counts once. -/
mutual
def uptoBulk {H : Type} : DataW H → Nat
  | .lit (.string bytes) => bytes.length + 1
  | .lit _ => 1
  | .nil => 1
  | .ptr d => uptoBulk d + 1
  | .slice elems spare => uptoBulkAll elems + uptoBulkAll spare + 1
  | .agg parts => uptoBulkAll parts + 1
  | .iface _ d => uptoBulk d + 1
  | .map entries => uptoBulkEntries entries + 1
  | .held _ => 1
def uptoBulkAll {H : Type} : List (DataW H) → Nat
  | [] => 0
  | d :: r => uptoBulk d + uptoBulkAll r
def uptoBulkEntries {H : Type} : List (Lit × DataW H) → Nat
  | [] => 0
  | x :: r => uptoBulkEntry x + uptoBulkEntries r
def uptoBulkEntry {H : Type} : Lit × DataW H → Nat
  | (.string bytes, d) => bytes.length + uptoBulk d + 1
  | (_, d) => uptoBulk d + 1
 end
def uptoSmall : (H : Type) → List (DataW H) → Bool := fun _ ds => decide (uptoBulkAll ds ≤ 1048576)
def OpenSpec.upto (s : _root_.Go.ChangeSpec) : _root_.Go.OpenSpec := { _root_.Go.OpenSpec.ofChange s with cond := some uptoSmall }

/-- 'opaquelaw.Single', WHERE WHAT IT READS IS OF BULK AT MOST 1048576: true; the input reads as it did. -/
def singleUptoRow : OpenClaim := { program := "ytejadojilncbjaagreat", sum := "b58650445b3ed783fddc7066147ad772b2300ee6616566dff59d7e2fc488d099", func := "opaque/opaquelaw.Single", spec := "single", apart := false, narrowed := true }
def SingleUptoSaid : Prop := singleUptoRow.holds Tryz.pinned (OpenSpec.upto singleSpec)

/-- 'opaquelaw.Plays', WHERE WHAT IT READS IS OF BULK AT MOST 1048576: true; the input reads as it did. -/
def playsUptoRow : OpenClaim := { program := "ytejadojilncbjaagreat", sum := "b58650445b3ed783fddc7066147ad772b2300ee6616566dff59d7e2fc488d099", func := "opaque/opaquelaw.Plays", spec := "plays", apart := false, narrowed := true }
def PlaysUptoSaid : Prop := playsUptoRow.holds Tryz.pinned (OpenSpec.upto playsSpec)

/-- 'opaquelaw.Holds', WHERE WHAT IT READS IS OF BULK AT MOST 1048576: true; the input reads as it did. -/
def holdsUptoRow : OpenClaim := { program := "ytejadojilncbjaagreat", sum := "b58650445b3ed783fddc7066147ad772b2300ee6616566dff59d7e2fc488d099", func := "opaque/opaquelaw.Holds", spec := "holds", apart := false, narrowed := true }
def HoldsUptoSaid : Prop := holdsUptoRow.holds Tryz.pinned (OpenSpec.upto holdsSpec)

/-- 'opaquekeep.Guarded', WHERE WHAT IT READS IS OF BULK AT MOST 1048576: true; the input reads as it did. -/
def guardedUptoRow : OpenClaim := { program := "ytejadojilncbjaagreat", sum := "b58650445b3ed783fddc7066147ad772b2300ee6616566dff59d7e2fc488d099", func := "opaque/opaquekeep.Guarded", spec := "guarded", apart := false, narrowed := true }
def GuardedUptoSaid : Prop := guardedUptoRow.holds Tryz.pinned (OpenSpec.upto guardedSpec)

/-- 'opaquelaw.Finishes', WHERE WHAT IT READS IS OF BULK AT MOST 1048576: true; the input reads as it did. -/
def finishesUptoRow : OpenClaim := { program := "ytejadojilncbjaagreat", sum := "b58650445b3ed783fddc7066147ad772b2300ee6616566dff59d7e2fc488d099", func := "opaque/opaquelaw.Finishes", spec := "finishes", apart := false, narrowed := true }
def FinishesUptoSaid : Prop := finishesUptoRow.holds Tryz.pinned (OpenSpec.upto finishesSpec)

/-- 'opaquelaw.Histories', WHERE WHAT IT READS IS OF BULK AT MOST 1048576: true; the input reads as it did. -/
def historiesUptoRow : OpenClaim := { program := "ytejadojilncbjaagreat", sum := "b58650445b3ed783fddc7066147ad772b2300ee6616566dff59d7e2fc488d099", func := "opaque/opaquelaw.Histories", spec := "histories", apart := false, narrowed := true }
def HistoriesUptoSaid : Prop := historiesUptoRow.holds Tryz.pinned (OpenSpec.upto historiesSpec)

/-- 'opaquekeep.Opaque', WHERE WHAT IT READS IS OF BULK AT MOST 1048576: true; the input reads as it did. -/
def opaqueUptoRow : OpenClaim := { program := "ytejadojilncbjaagreat", sum := "b58650445b3ed783fddc7066147ad772b2300ee6616566dff59d7e2fc488d099", func := "opaque/opaquekeep.Opaque", spec := "opaque", apart := false, narrowed := true }
def OpaqueUptoSaid : Prop := opaqueUptoRow.holds Tryz.pinned (OpenSpec.upto opaqueSpec)

end Rows
end Go.Proofs.YtejadojilncbjaaGreat
