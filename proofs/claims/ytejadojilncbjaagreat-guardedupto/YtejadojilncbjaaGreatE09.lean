import Derived.Test.YtejadojilncbjaaGreatE01
namespace Go.Proofs.YtejadojilncbjaaGreat
set_option linter.unusedVariables false

/-! One thread that has the cells to itself: what it asks, and what it sees. -/

def ld (cell : Int) : AskD := ⟨1, cell, 0, 0⟩
def sto (cell to : Int) : AskD := ⟨2, cell, 0, to⟩

/-! What the cells hold while one thread goes through its trace. -/

def putV (q : AskD) (v : Int) : Int := if q.kind = 2 then q.to else if q.kind = 4 then v + 1 else if q.kind = 3 then (if v = q.frm then q.to else v) else v
def wr (m : Int → Int) (q : AskD) : Int → Int := fun x => if x = q.cell then putV q (m q.cell) else m x
theorem wr_ld (m : Int → Int) (cell : Int) : wr m (ld cell) = m := by
  funext x
  unfold wr ld putV
  simp only
  split
  · rename_i h
    rw [h]
    simp
  · rfl
theorem wr_at (m : Int → Int) (q : AskD) : wr m q q.cell = putV q (m q.cell) := by simp [wr]
theorem wr_off {m : Int → Int} {q : AskD} {x : Int} (h : x ≠ q.cell) : wr m q x = m x := by simp [wr, h]

end Go.Proofs.YtejadojilncbjaaGreat
