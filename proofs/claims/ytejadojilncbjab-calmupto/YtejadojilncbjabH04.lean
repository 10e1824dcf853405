import Derived.Test.YtejadojilncbjabH02
import Derived.BigRegion
import Derived.Deep.RegionLaw
import Derived.Deep.LoopGhost
import Derived.OneCell
import Derived.Test.YtejadojilncbjabH01
import Derived.Deep.DeepCutAuto
import Derived.Test.YtejadojilncbjabH03
namespace Go.Proofs.Ytejadojilncbjab
open Go.RowKit
set_option linter.unusedVariables false

structure PickD where
  thread : Int
  draw : Int

def pickAt (l : List PickD) (i : Nat) : PickD := l.getD i ⟨0, 0⟩
def pickCells (q : PickD) : List Value := [.int .i64 q.thread, .int .i64 q.draw]

def PicksIn (w : World) (B : Nat) (a : Option Addr) (l : List PickD) : Prop :=
  ∀ i, i < l.length → ∃ b off, a = some ⟨b, off, none⟩ ∧ b < B ∧ w.cell? ⟨b, off + i * 2, none⟩ = some (.int .i64 (pickAt l i).thread) ∧ w.cell? ⟨b, off + i * 2 + 1, none⟩ = some (.int .i64 (pickAt l i).draw)

end Go.Proofs.Ytejadojilncbjab
