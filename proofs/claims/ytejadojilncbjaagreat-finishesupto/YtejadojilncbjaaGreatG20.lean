import Derived.Test.YtejadojilncbjaaGreatG01
namespace Go.Proofs.YtejadojilncbjaaGreat
set_option linter.unusedVariables false
abbrev Tr := List (AskD × Int)
def ld (cell : Int) : AskD := ⟨1, cell, 0, 0⟩
def sto (cell to : Int) : AskD := ⟨2, cell, 0, to⟩
def putV (q : AskD) (v : Int) : Int := if q.kind = 2 then q.to else if q.kind = 4 then v + 1 else if q.kind = 3 then (if v = q.frm then q.to else v) else v
def wr (m : Int → Int) (q : AskD) : Int → Int := fun x => if x = q.cell then putV q (m q.cell) else m x
def after (m : Int → Int) (T : Tr) : Int → Int := T.foldl (fun m q => wr m q.1) m
theorem wr_at (m : Int → Int) (q : AskD) : wr m q q.cell = putV q (m q.cell) := by simp [wr]
theorem wr_off {m : Int → Int} {q : AskD} {x : Int} (h : x ≠ q.cell) : wr m q x = m x := by simp [wr, h]
end Go.Proofs.YtejadojilncbjaaGreat
