import Derived.Test.YtejadojilncbjaaGreatE02
import Derived.BigRegion
import Derived.Deep.RegionLaw
import Derived.Test.YtejadojilncbjaaGreatE06
import Derived.Deep.LoopGhost
import Derived.Test.YtejadojilncbjaaGreatE03
import Derived.OneCell
import Derived.Test.YtejadojilncbjaaGreatE01
import Derived.Deep.DeepCutAuto
import Derived.Test.YtejadojilncbjaaGreatE07
namespace Go.Proofs.YtejadojilncbjaaGreat
open Go.RowKit
set_option linter.unusedVariables false

structure PickD where
  thread : Int
  draw : Int

def pickAt (l : List PickD) (i : Nat) : PickD := l.getD i ⟨0, 0⟩
def PicksIn (w : World) (B : Nat) (a : Option Addr) (l : List PickD) : Prop :=
  ∀ i, i < l.length → ∃ b off, a = some ⟨b, off, none⟩ ∧ b < B ∧ w.cell? ⟨b, off + i * 2, none⟩ = some (.int .i64 (pickAt l i).thread) ∧ w.cell? ⟨b, off + i * 2 + 1, none⟩ = some (.int .i64 (pickAt l i).draw)

def seenOf (t : Int) (ps : List PickD) (log : List AccD) : List Int := ((ps.zip log).filter fun q => q.1.thread == t).map (·.2.seen)
def drawsOf (t : Int) (ps : List PickD) (log : List AccD) : List Int := ((ps.zip log).filter fun q => q.1.thread == t).map (·.1.draw)
def whensOf (t : Int) (ps : List PickD) (log : List AccD) : List Int := (((ps.zip log).zipIdx 1).filter fun q => q.1.1.thread == t).map fun q => ((q.2 : Nat) : Int)
def envOf (c : Cfg) (jobs : List (Int × List InsD)) (t : Int) (ps : List PickD) (log : List AccD) : Env := ⟨c, t, seenOf t ps log, drawsOf t ps log, whensOf t ps log, jobs⟩

end Go.Proofs.YtejadojilncbjaaGreat
