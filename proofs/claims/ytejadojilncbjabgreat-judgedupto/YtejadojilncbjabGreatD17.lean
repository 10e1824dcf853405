import Derived.Test.YtejadojilncbjabGreatD15
import Derived.Deep.LoopGhost
namespace Go.Proofs.YtejadojilncbjabGreat
open Go.RowKit
set_option linter.unusedVariables false
attribute [local go_sem ↓] Go.wp_at_zero Go.wp_at_succ
theorem pComp_begun (m : MS) (i : InsD) : (pComp m i).begun = m.begun := by
 unfold pComp
 split
 ·rfl
 ·split
  ·rfl
  ·split
   ·rfl
   ·split
    ·rfl
    ·split <;> rfl
end Go.Proofs.YtejadojilncbjabGreat
