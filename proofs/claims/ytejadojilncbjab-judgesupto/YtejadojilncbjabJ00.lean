import Derived.Test.YtejadojilncbjabChecked
import Derived.WalkKit
import Derived.Below
import Derived.Deep.QuietTactic
import Derived.BigQuiet
import Derived.WalkSmall
import Derived.ProofKit
import Derived.OpenShut
import Derived.Deep.SlicePairs
import Derived.KernelRfl
namespace Go.Proofs.Ytejadojilncbjab
open Go.RowKit
set_option linter.unusedVariables false

/-- lo ≤ v ≤ hi, as a Bool that the walk does not open. -/
def inB (v lo hi : Int) : Bool := decide (lo ≤ v) && decide (v ≤ hi)

theorem within_any (v lo hi : Int) (w : World) :
    Calls Try.prog 33 #[.int .i64 v, .int .i64 lo, .int .i64 hi] w fun e w' => e = .returned (.bool (inB v lo hi)) ∧ w' = w := by
  by_cases h1 : lo ≤ v <;> by_cases h2 : v ≤ hi
  all_goals
    go_enter Try.func33, Try.ntmps33
    go_wp2
    go_ret
    exact ⟨by simp [inB, h1, h2], rfl⟩

end Go.Proofs.Ytejadojilncbjab

namespace Go.Proofs.Ytejadojilncbjab
open Go.RowKit
set_option linter.unusedVariables false

/-- A config's seven numbers. -/
structure Cfg where
  t : Int
  wd : Int
  s : Int
  g : Int
  r : Int
  cp : Int
  f : Int

def Cfg.val (c : Cfg) : Value := .agg #[.int .i64 c.t, .int .i64 c.wd, .int .i64 c.s, .int .i64 c.g, .int .i64 c.r, .int .i64 c.cp, .int .i64 c.f]

end Go.Proofs.Ytejadojilncbjab

namespace Go.Proofs.Ytejadojilncbjab
open Go.RowKit
set_option linter.unusedVariables false

/-- The numbers zs lie behind a slice's address, below block B. -/
def Ints (w : World) (B : Nat) (a : Option Addr) (zs : List Int) : Prop :=
  ∀ i, i < zs.length → ∃ b off, a = some ⟨b, off, none⟩ ∧ b < B ∧ w.cell? ⟨b, off + i, none⟩ = some (.int .i64 (zs.getD i 0))

theorem Ints.below {w w' : World} {B : Nat} {a : Option Addr} {zs : List Int} (h : Ints w B a zs) (hb : Below w.heap.size w w') (hB : B ≤ w.heap.size) : Ints w' B a zs := by
  intro i hi
  obtain ⟨b, off, ha, hlt, hc⟩ := h i hi
  exact ⟨b, off, ha, hlt, by rw [hb.cell (p := ⟨b, off + i, none⟩) (by show b < _; omega)]; exact hc⟩

theorem Ints.mono {w : World} {B B' : Nat} {a : Option Addr} {zs : List Int} (h : Ints w B a zs) (hB : B ≤ B') : Ints w B' a zs := by
  intro i hi
  obtain ⟨b, off, ha, hlt, hc⟩ := h i hi
  exact ⟨b, off, ha, by omega, hc⟩

end Go.Proofs.Ytejadojilncbjab

namespace Go.Proofs.Ytejadojilncbjab
open Go.RowKit
set_option linter.unusedVariables false

/-- A job as it lies: its thread, its code's slice. -/
structure JobD where
  t : Int
  a : Option Addr
  len : Nat
  cap : Nat

/-- Job i of the list (a filler behind its end). -/
def jobAt (js : List JobD) (i : Nat) : JobD := js.getD i ⟨0, none, 0, 0⟩

def JobsIn (w : World) (B : Nat) (a : Option Addr) (js : List JobD) : Prop :=
  ∀ i, i < js.length → ∃ b off, a = some ⟨b, off, none⟩ ∧ b < B ∧ w.cell? ⟨b, off + i * 2, none⟩ = some (.int .i64 (jobAt js i).t) ∧
    w.cell? ⟨b, off + i * 2 + 1, none⟩ = some (.slice (jobAt js i).a (jobAt js i).len (jobAt js i).cap)

theorem JobsIn.below {w w' : World} {B : Nat} {a : Option Addr} {js : List JobD} (h : JobsIn w B a js) (hb : Below w.heap.size w w') (hB : B ≤ w.heap.size) : JobsIn w' B a js := by
  intro i hi
  obtain ⟨b, off, ha, hlt, h1, h2⟩ := h i hi
  exact ⟨b, off, ha, hlt, by rw [hb.cell (p := ⟨b, off + i * 2, none⟩) (by show b < _; omega)]; exact h1, by rw [hb.cell (p := ⟨b, off + i * 2 + 1, none⟩) (by show b < _; omega)]; exact h2⟩

theorem JobsIn.mono {w : World} {B B' : Nat} {a : Option Addr} {js : List JobD} (h : JobsIn w B a js) (hB : B ≤ B') : JobsIn w B' a js := by
  intro i hi
  obtain ⟨b, off, ha, hlt, h1⟩ := h i hi
  exact ⟨b, off, ha, by omega, h1⟩

end Go.Proofs.Ytejadojilncbjab

namespace Go.Proofs.Ytejadojilncbjab
open Go.RowKit
set_option linter.unusedVariables false

theorem Ints.alloc {w : World} {a : Option Addr} {zs : List Int} (h : Ints w w.heap.size a zs) (o : Obj) : Ints (w.alloc o) (w.alloc o).heap.size a zs :=
  (h.below ((Below.refl _ _).alloc (Nat.le_refl _) o) (Nat.le_refl _)).mono (by simp)

theorem JobsIn.alloc {w : World} {a : Option Addr} {js : List JobD} (h : JobsIn w w.heap.size a js) (o : Obj) : JobsIn (w.alloc o) (w.alloc o).heap.size a js :=
  (h.below ((Below.refl _ _).alloc (Nat.le_refl _) o) (Nat.le_refl _)).mono (by simp)

end Go.Proofs.Ytejadojilncbjab

namespace Go.Proofs.Ytejadojilncbjab
open Go.ChangeShapes Go.WideShapes Go.ChangeAt Go.RowKit Go.Deep
set_option linter.unusedVariables false

theorem Try.cells3 : Try.prog.cellsOf 3 = 1 := by kernel_rfl
section
variable {H : Type} {enc : TypeId × Value → H} {w : World} {spare : Nat → Bool} {held : Bool}

theorem block_lt {w : World} {b o : Nat} {u : Value} (h : w.cell? ⟨b, o, none⟩ = some u) : b < w.heap.size := World.block_lt_of_cell? w _ h

theorem list3 {α : Type} {l : List α} (h : l.length = 3) : ∃ a b c, l = [a, b, c] := by
  match l, h with
  | [a, b, c], _ => exact ⟨a, b, c, rfl⟩
/-- A slice of numbers opened: its elements in a list. -/
theorem ints_open {fuel : Nat} {cs : List Value} {x : DataW H × List MemPlace} (h : DataW.trod enc Try.prog w 0 spare held fuel 24 cs = some x) :
    ∃ a len cap zs, cs = [.slice a len cap] ∧ zs.length = len ∧ len ≤ maxLen ∧ Ints w w.heap.size a zs ∧ ∀ z ∈ zs, (Lit.int .i64 z).wf = true := by
  rcases open_ints Try.underlying24 Try.underlying3 Try.cells3 h with ⟨hcs, _⟩ | ⟨x, l, c, zs, hcs, _, hl, hm, hz, _, hcell, hwz⟩
  · exact ⟨none, 0, 0, [], hcs, rfl, Nat.zero_le _, fun i hi => by simp at hi, by simp⟩
  · have hle : l ≤ zs.length := by rw [hz]; split <;> omega
    refine ⟨some x, l, c, zs.take l, hcs, by simp; omega, by omega, fun i hi => ?_, fun z hz => hwz z (List.mem_of_mem_take hz)⟩
    have hi' : i < l := by simp at hi; omega
    obtain ⟨b, off, spot⟩ := x
    have hc := hcell i (by omega)
    have hspot : spot = none := by simpa [Addr.add] using World.cell?_spot (hcell 0 (by omega))
    subst hspot
    have hc' : w.cell? ⟨b, off + i, none⟩ = some (.int .i64 (zs.getD i 0)) := by rw [add_plain] at hc; exact hc
    refine ⟨b, off, rfl, block_lt hc', ?_⟩
    rw [hc']
    simp [List.getD, hi']

/-- An instruction as it lies. -/
structure InsD where
  op : Int
  a : Int
  b : Int
  c : Int

def insAt (is : List InsD) (i : Nat) : InsD := is.getD i ⟨0, 0, 0, 0⟩

def CodeIn (w : World) (B : Nat) (a : Option Addr) (is : List InsD) : Prop :=
  ∀ i, i < is.length → ∃ b off, a = some ⟨b, off, none⟩ ∧ b < B ∧ w.cell? ⟨b, off + i * 4, none⟩ = some (.int .i64 (insAt is i).op) ∧ w.cell? ⟨b, off + i * 4 + 1, none⟩ = some (.int .i64 (insAt is i).a) ∧
    w.cell? ⟨b, off + i * 4 + 2, none⟩ = some (.int .i64 (insAt is i).b) ∧ w.cell? ⟨b, off + i * 4 + 3, none⟩ = some (.int .i64 (insAt is i).c)

def InsD.wf (i : InsD) : Prop := (Lit.int .i64 i.op).wf = true ∧ (Lit.int .i64 i.a).wf = true ∧ (Lit.int .i64 i.b).wf = true ∧ (Lit.int .i64 i.c).wf = true

end
end Go.Proofs.Ytejadojilncbjab

namespace Go.Proofs.Ytejadojilncbjab
set_option linter.unusedVariables false

/-! The document's life of a thread (package opaqueref), told in plain functions, call by call as the text has it: the word 'over' stays a flag. -/

structure NoteD where
  op : Int
  addr : Int
  val : Int

structure AttD where
  thread : Int
  job : Int
  start : Int
  fin : Int
  valid : Int
  stamp : Int
  fate : Int
  notes : List NoteD

structure ResD where
  fate : Int
  r0 : Int
  r1 : Int
  r2 : Int
  r3 : Int

structure AskD where
  kind : Int
  cell : Int
  frm : Int
  to : Int

structure EntD where
  what : Int
  val : Int

/-- What does not change while a life is told. -/
structure Env where
  c : Cfg
  me : Int
  seen : List Int
  draws : List Int
  whens : List Int
  jobs : List (Int × List InsD)

/-- What changes of a life. -/
structure LS where
  pos : Nat
  over : Bool
  next : AskD
  rank : Int
  fails : Int
  list : List AttD
  ends : List ResD

/-- An attempt while it is made. -/
structure TS where
  code : List InsD
  regs : List Int
  place : Nat
  begun : Nat
  valid : Int
  reads : List EntD
  writes : List EntD
  held : List Int
  inGate : Bool
  way : Int

def cWord (E : Env) (a : Int) : Int := 3 + 2 * E.c.s + E.c.t + a

def modLast (l : List AttD) (f : AttD → AttD) : List AttD := l.modify (l.length - 1) f

def mNoted (s : LS) (op addr val : Int) : LS := { s with list := modLast s.list fun a => { a with notes := a.notes ++ [⟨op, addr, val⟩] } }
def mEnded (E : Env) (s : LS) (fate : Int) : LS := { s with list := modLast s.list fun a => { a with fin := E.whens.getD (s.pos - 1) 0, fate := fate } }

def entIdx (l : List EntD) (what : Int) : Option Nat := l.findIdx? fun e => e.what == what
def heldB (x : TS) (st : Int) : Bool := x.held.any fun h => h == st

def regOf (x : TS) (i : Int) : Int := x.regs.getD i.toNat 0
def setReg (x : TS) (i v : Int) : TS := { x with regs := x.regs.set i.toNat v }

def putEnt (l : List EntD) (a v : Int) : List EntD := match entIdx l a with
  | some k => l.set k ⟨a, v⟩
  | none => l ++ [⟨a, v⟩]

def newTS (code : List InsD) (valid : Int) : TS := ⟨code, [0, 0, 0, 0], 0, 0, valid, [], [], [], false, -1⟩

def newLS (E : Env) : LS := ⟨0, false, ⟨0, 0, 0, 0⟩, 0, 0, [], E.jobs.map fun _ => ⟨0, 0, 0, 0, 0⟩⟩

end Go.Proofs.Ytejadojilncbjab
