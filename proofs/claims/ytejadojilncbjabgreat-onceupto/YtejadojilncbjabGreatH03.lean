import Derived.Test.YtejadojilncbjabGreatH02
namespace Go.Proofs.YtejadojilncbjabGreat
open Go.RowKit
set_option linter.unusedVariables false
attribute [local go_sem ↓] Go.wp_at_zero Go.wp_at_succ

structure AccD where
  kind : Int
  cell : Int
  seen : Int
  put : Int

def noAcc : AccD := ⟨0, 0, 0, 0⟩
def wordBase (c : Cfg) : Int := 3 + 2 * c.s + c.t
def startVal (c : Cfg) (mem : List Int) (cell : Int) : Int := if wordBase c ≤ cell then mem.getD (cell - wordBase c).toNat 0 else 0
theorem Ints.up {w w' : World} {a : Option Addr} {zs : List Int} (h : Ints w w.heap.size a zs) (hb : Below w.heap.size w w') : Ints w' w'.heap.size a zs := by
  intro i hi
  obtain ⟨b, off, ha, hlt, hc⟩ := h i hi
  exact ⟨b, off, ha, Nat.lt_of_lt_of_le hlt hb.size, (World.cell?_of_block (hb.block b hlt)).trans hc⟩
end Go.Proofs.YtejadojilncbjabGreat
