import Derived.Test.YtejadojilncbjabGreatH02
import Derived.Deep.LoopGhost
import Derived.BigRegion
import Derived.Deep.RegionLaw
import Derived.Test.YtejadojilncbjabGreatH01
import Derived.Deep.DeepCutAuto
import Derived.Test.YtejadojilncbjabGreatH03
namespace Go.Proofs.YtejadojilncbjabGreat
open Go.RowKit
set_option linter.unusedVariables false

structure PickD where
  thread : Int
  draw : Int

def pickAt (l : List PickD) (i : Nat) : PickD := l.getD i ⟨0, 0⟩
def PicksIn (w : World) (B : Nat) (a : Option Addr) (l : List PickD) : Prop :=
  ∀ i, i < l.length → ∃ b off, a = some ⟨b, off, none⟩ ∧ b < B ∧ w.cell? ⟨b, off + i * 2, none⟩ = some (.int .i64 (pickAt l i).thread) ∧ w.cell? ⟨b, off + i * 2 + 1, none⟩ = some (.int .i64 (pickAt l i).draw)

end Go.Proofs.YtejadojilncbjabGreat
