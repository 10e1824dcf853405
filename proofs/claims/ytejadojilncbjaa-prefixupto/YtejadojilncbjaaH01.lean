import Derived.Test.YtejadojilncbjaaH00
import Derived.WalkKit
import Derived.ProofKit
import Derived.OpenShut
import Derived.Deep.SlicePairs
import Derived.KernelRfl
import Derived.Deep.RegionHeld3
import Derived.Deep.AppendLies
import Derived.Deep.DrawnRows
import Derived.WalkSmall
namespace Go.Proofs.Ytejadojilncbjaa
open Go.ChangeShapes Go.WideShapes Go.ChangeAt Go.RowKit Go.Deep
set_option linter.unusedVariables false

theorem Try.cells27 : Try.prog.cellsOf 27 = 9 := by kernel_rfl
theorem Try.cells23 : Try.prog.cellsOf 23 = 7 := by kernel_rfl
theorem Try.cells24 : Try.prog.cellsOf 24 = 1 := by kernel_rfl
theorem Try.cells25 : Try.prog.cellsOf 25 = 1 := by kernel_rfl
theorem Try.cells3 : Try.prog.cellsOf 3 = 1 := by kernel_rfl
theorem Try.cells68 : Try.prog.cellsOf 68 = 2 := by kernel_rfl
theorem Try.cells32 : Try.prog.cellsOf 32 = 1 := by kernel_rfl
theorem Try.cells120 : Try.prog.cellsOf 120 = 4 := by kernel_rfl

section
variable {H : Type} {enc : TypeId × Value → H} {w : World} {spare : Nat → Bool} {held : Bool}

theorem block_lt {w : World} {b o : Nat} {u : Value} (h : w.cell? ⟨b, o, none⟩ = some u) : b < w.heap.size := World.block_lt_of_cell? w _ h

theorem list3 {α : Type} {l : List α} (h : l.length = 3) : ∃ a b c, l = [a, b, c] := by
  match l, h with
  | [a, b, c], _ => exact ⟨a, b, c, rfl⟩
theorem list4 {α : Type} {l : List α} (h : l.length = 4) : ∃ a b c d, l = [a, b, c, d] := by
  match l, h with
  | [a, b, c, d], _ => exact ⟨a, b, c, d, rfl⟩
theorem list7 {α : Type} {l : List α} (h : l.length = 7) : ∃ a b c d e f g, l = [a, b, c, d, e, f, g] := by
  match l, h with
  | [a, b, c, d, e, f, g], _ => exact ⟨a, b, c, d, e, f, g, rfl⟩
theorem list9 {α : Type} {l : List α} (h : l.length = 9) : ∃ a b c d e f g x y, l = [a, b, c, d, e, f, g, x, y] := by
  match l, h with
  | [a, b, c, d, e, f, g, x, y], _ => exact ⟨a, b, c, d, e, f, g, x, y, rfl⟩

/-- A slice of numbers opened: its elements in a list. -/
theorem ints_open {fuel : Nat} {cs : List Value} {x : DataW H × List MemPlace} (h : DataW.trod enc Try.prog w 0 spare held fuel 24 cs = some x) :
    ∃ a len cap zs, cs = [.slice a len cap] ∧ zs.length = len ∧ len ≤ maxLen ∧ Ints w w.heap.size a zs ∧ ∀ z ∈ zs, (Lit.int .i64 z).wf = true := by
  rcases open_ints Try.underlying24 Try.underlying3 Try.cells3 h with ⟨hcs, _⟩ | ⟨x, l, c, zs, hcs, _, hl, hm, hz, _, hcell, hwz⟩
  · exact ⟨none, 0, 0, [], hcs, rfl, Nat.zero_le _, fun i hi => by simp at hi, by simp⟩
  · have hle : l ≤ zs.length := by rw [hz]; split <;> omega
    refine ⟨some x, l, c, zs.take l, hcs, by simp; omega, by omega, fun i hi => ?_, fun z hz => hwz z (List.mem_of_mem_take hz)⟩
    have hi' : i < l := by simp at hi; omega
    obtain ⟨b, off, spot⟩ := x
    have hc := hcell i (by omega)
    have hspot : spot = none := by simpa [Addr.add] using World.cell?_spot (hcell 0 (by omega))
    subst hspot
    have hc' : w.cell? ⟨b, off + i, none⟩ = some (.int .i64 (zs.getD i 0)) := by rw [add_plain] at hc; exact hc
    refine ⟨b, off, rfl, block_lt hc', ?_⟩
    rw [hc']
    simp [List.getD, hi']

/-- An instruction as it lies. -/
structure InsD where
  op : Int
  a : Int
  b : Int
  c : Int

def insAt (is : List InsD) (i : Nat) : InsD := is.getD i ⟨0, 0, 0, 0⟩

def CodeIn (w : World) (B : Nat) (a : Option Addr) (is : List InsD) : Prop :=
  ∀ i, i < is.length → ∃ b off, a = some ⟨b, off, none⟩ ∧ b < B ∧ w.cell? ⟨b, off + i * 4, none⟩ = some (.int .i64 (insAt is i).op) ∧ w.cell? ⟨b, off + i * 4 + 1, none⟩ = some (.int .i64 (insAt is i).a) ∧
    w.cell? ⟨b, off + i * 4 + 2, none⟩ = some (.int .i64 (insAt is i).b) ∧ w.cell? ⟨b, off + i * 4 + 3, none⟩ = some (.int .i64 (insAt is i).c)

def InsD.wf (i : InsD) : Prop := (Lit.int .i64 i.op).wf = true ∧ (Lit.int .i64 i.a).wf = true ∧ (Lit.int .i64 i.b).wf = true ∧ (Lit.int .i64 i.c).wf = true

/-- A code opened. -/
theorem code_open {fuel : Nat} {cs : List Value} {x : DataW H × List MemPlace} (h : DataW.trod enc Try.prog w 0 spare held fuel 32 cs = some x) :
    ∃ a len cap is, cs = [.slice a len cap] ∧ is.length = len ∧ len ≤ maxLen ∧ CodeIn w w.heap.size a is ∧ ∀ i ∈ is, i.wf := by
  rcases open_slice Try.underlying32 h with ⟨hcs, _⟩ | ⟨x, l, c, m, n, D, Pl, hcs, _, hl, hm, hmm, _, hel⟩
  · exact ⟨none, 0, 0, [], hcs, rfl, Nat.zero_le _, fun i hi => by simp at hi, by simp⟩
  · have hle : l ≤ m := by rw [hmm]; split <;> omega
    have each : ∀ i, i < l → ∃ q : InsD, q.wf ∧ w.cell? (x.add (i * 4)) = some (.int .i64 q.op) ∧ w.cell? (x.add (i * 4 + 1)) = some (.int .i64 q.a) ∧ w.cell? (x.add (i * 4 + 2)) = some (.int .i64 q.b) ∧ w.cell? (x.add (i * 4 + 3)) = some (.int .i64 q.c) := by
      intro i hi
      obtain ⟨cs', h1, h2⟩ := hel i (by omega)
      rw [Try.cells120] at h1
      obtain ⟨_, hlen, hcell⟩ := World.cells?_some h1
      obtain ⟨xs, k, hk, hxy, _, hxl, hf⟩ := DataW.trod_struct Try.underlying120 h2
      obtain ⟨y0, y1, y2, y3, rfl⟩ := list4 hxl
      obtain ⟨v0, v1, v2, v3, rfl⟩ := list4 hlen
      have g0 := hf 0 _ rfl
      have g1 := hf 1 _ rfl
      have g2 := hf 2 _ rfl
      have g3 := hf 3 _ rfl
      simp [Try.cells3] at g0 g1 g2 g3
      obtain ⟨n0, e0, _, w0⟩ := DataW.trod_int Try.underlying3 g0
      obtain ⟨n1, e1, _, w1⟩ := DataW.trod_int Try.underlying3 g1
      obtain ⟨n2, e2, _, w2⟩ := DataW.trod_int Try.underlying3 g2
      obtain ⟨n3, e3, _, w3⟩ := DataW.trod_int Try.underlying3 g3
      simp at e0 e1 e2 e3
      have c0 := hcell 0 (by omega)
      have c1 := hcell 1 (by omega)
      have c2 := hcell 2 (by omega)
      have c3 := hcell 3 (by omega)
      rw [add_add] at c0 c1 c2 c3
      exact ⟨⟨n0, n1, n2, n3⟩, ⟨w0, w1, w2, w3⟩, by simpa [e0] using c0, by simpa [e1] using c1, by simpa [e2] using c2, by simpa [e3] using c3⟩
    have hin : Inhabited InsD := ⟨⟨0, 0, 0, 0⟩⟩
    obtain ⟨q, hq⟩ := choose_lt each
    obtain ⟨b, off, spot⟩ := x
    refine ⟨some ⟨b, off, spot⟩, l, c, (List.range l).map q, hcs, by simp, by omega, fun i hi => ?_, fun i hi => ?_⟩
    · have hi' : i < l := by simpa using hi
      obtain ⟨_, h0, h1, h2, h3⟩ := hq i hi'
      have hspot : spot = none := by simpa [Addr.add] using World.cell?_spot (hq 0 (by omega)).2.1
      subst hspot
      rw [add_plain] at h0 h1 h2 h3
      have hat : insAt ((List.range l).map q) i = q i := by simp [insAt, List.getD, hi']
      rw [hat]
      exact ⟨b, off, rfl, block_lt h0, h0, h1, h2, h3⟩
    · obtain ⟨j, hj, rfl⟩ := List.mem_map.1 hi
      exact (hq j (by simpa using hj)).1

/-- The jobs opened: each with its code. -/
theorem jobs_open {fuel : Nat} {cs : List Value} {x : DataW H × List MemPlace} (h : DataW.trod enc Try.prog w 0 spare held fuel 25 cs = some x) :
    ∃ a len cap, ∃ js : List JobD, cs = [.slice a len cap] ∧ js.length = len ∧ len ≤ maxLen ∧ JobsIn w w.heap.size a js ∧
      (∀ j ∈ js, (Lit.int .i64 j.t).wf = true ∧ j.len ≤ maxLen ∧ ∃ is : List InsD, is.length = j.len ∧ CodeIn w w.heap.size j.a is ∧ ∀ i ∈ is, i.wf) := by
  rcases open_slice_pairs Try.underlying25 Try.underlying68 Try.cells68 rfl rfl Try.cells3 Try.cells32 h with ⟨hcs, _⟩ | ⟨x, l, c, m, n, V0, V1, D0, D1, P0, P1, hcs, _, hl, hm, hmm, _, hel⟩
  · exact ⟨none, 0, 0, [], hcs, rfl, Nat.zero_le _, fun i hi => by simp at hi, by simp⟩
  · have hle : l ≤ m := by rw [hmm]; split <;> omega
    have each : ∀ i, i < l → ∃ q : JobD, ((Lit.int .i64 q.t).wf = true ∧ q.len ≤ maxLen ∧ ∃ is : List InsD, is.length = q.len ∧ CodeIn w w.heap.size q.a is ∧ ∀ i ∈ is, i.wf) ∧
        w.cell? (x.add (i * 2)) = some (.int .i64 q.t) ∧ w.cell? (x.add (i * 2 + 1)) = some (.slice q.a q.len q.cap) := by
      intro i hi
      obtain ⟨h0, h1, h2, h3⟩ := hel i (by omega)
      obtain ⟨n0, e0, _, w0⟩ := DataW.trod_int Try.underlying3 h2
      obtain ⟨ca, clen, ccap, is, e1, hil, hcm, hci, hiw⟩ := code_open h3
      simp at e0 e1
      exact ⟨⟨n0, ca, clen, ccap⟩, ⟨w0, hcm, is, hil, hci, hiw⟩, by rw [h0, e0], by rw [h1, e1]⟩
    have hin : Inhabited JobD := ⟨⟨0, none, 0, 0⟩⟩
    obtain ⟨q, hq⟩ := choose_lt each
    obtain ⟨b, off, spot⟩ := x
    refine ⟨some ⟨b, off, spot⟩, l, c, (List.range l).map q, hcs, by simp, by omega, fun i hi => ?_, fun i hi => ?_⟩
    · have hi' : i < l := by simpa using hi
      obtain ⟨_, h0, h1⟩ := hq i hi'
      have hspot : spot = none := by simpa [Addr.add] using World.cell?_spot (hq 0 (by omega)).2.1
      subst hspot
      rw [add_plain] at h0 h1
      have hat : jobAt ((List.range l).map q) i = q i := by simp [jobAt, List.getD, hi']
      rw [hat]
      exact ⟨b, off, rfl, block_lt h0, h0, h1⟩
    · obtain ⟨j, hj, rfl⟩ := List.mem_map.1 hi
      exact (hq j (by simpa using hj)).1

/-- A config's seven cells. -/
theorem cfg_open {fuel : Nat} {cs : List Value} {x : DataW H × List MemPlace} (h : DataW.trod enc Try.prog w 0 spare held fuel 23 cs = some x) :
    ∃ t wd s g r cp f : Int, cs = [.int .i64 t, .int .i64 wd, .int .i64 s, .int .i64 g, .int .i64 r, .int .i64 cp, .int .i64 f] ∧
      (Lit.int .i64 t).wf = true ∧ (Lit.int .i64 wd).wf = true ∧ (Lit.int .i64 s).wf = true ∧ (Lit.int .i64 g).wf = true ∧ (Lit.int .i64 r).wf = true ∧ (Lit.int .i64 cp).wf = true ∧ (Lit.int .i64 f).wf = true := by
  obtain ⟨xs, k, hk, hxy, hlen, hxl, hf⟩ := DataW.trod_struct Try.underlying23 h
  rw [Try.cells23] at hlen
  obtain ⟨y0, y1, y2, y3, y4, y5, y6, rfl⟩ := list7 hxl
  obtain ⟨v0, v1, v2, v3, v4, v5, v6, rfl⟩ := list7 hlen
  have g0 := hf 0 _ rfl
  have g1 := hf 1 _ rfl
  have g2 := hf 2 _ rfl
  have g3 := hf 3 _ rfl
  have g4 := hf 4 _ rfl
  have g5 := hf 5 _ rfl
  have g6 := hf 6 _ rfl
  simp [Try.cells3] at g0 g1 g2 g3 g4 g5 g6
  obtain ⟨n0, e0, _, w0⟩ := DataW.trod_int Try.underlying3 g0
  obtain ⟨n1, e1, _, w1⟩ := DataW.trod_int Try.underlying3 g1
  obtain ⟨n2, e2, _, w2⟩ := DataW.trod_int Try.underlying3 g2
  obtain ⟨n3, e3, _, w3⟩ := DataW.trod_int Try.underlying3 g3
  obtain ⟨n4, e4, _, w4⟩ := DataW.trod_int Try.underlying3 g4
  obtain ⟨n5, e5, _, w5⟩ := DataW.trod_int Try.underlying3 g5
  obtain ⟨n6, e6, _, w6⟩ := DataW.trod_int Try.underlying3 g6
  simp at e0 e1 e2 e3 e4 e5 e6
  exact ⟨n0, n1, n2, n3, n4, n5, n6, by rw [e0, e1, e2, e3, e4, e5, e6], w0, w1, w2, w3, w4, w5, w6⟩

/-- A setup opened. -/
theorem setup_open {fuel : Nat} {cs : List Value} {x : DataW H × List MemPlace} (h : DataW.trod enc Try.prog w 0 spare held fuel 27 cs = some x) :
    ∃ (t wd s g r cp f : Int) (a : Option Addr) (len cap : Nat) (zs : List Int) (ja : Option Addr) (jlen jcap : Nat) (js : List JobD),
      cs = [.int .i64 t, .int .i64 wd, .int .i64 s, .int .i64 g, .int .i64 r, .int .i64 cp, .int .i64 f, .slice a len cap, .slice ja jlen jcap] ∧
      zs.length = len ∧ len ≤ maxLen ∧ Ints w w.heap.size a zs ∧ (∀ z ∈ zs, (Lit.int .i64 z).wf = true) ∧ js.length = jlen ∧ jlen ≤ maxLen ∧ JobsIn w w.heap.size ja js ∧
      (∀ j ∈ js, (Lit.int .i64 j.t).wf = true ∧ j.len ≤ maxLen ∧ ∃ is : List InsD, is.length = j.len ∧ CodeIn w w.heap.size j.a is ∧ ∀ i ∈ is, i.wf) := by
  obtain ⟨xs, k, hk, hxy, hlen, hxl, hf⟩ := DataW.trod_struct Try.underlying27 h
  rw [Try.cells27] at hlen
  obtain ⟨y0, y1, y2, rfl⟩ := list3 hxl
  obtain ⟨v0, v1, v2, v3, v4, v5, v6, v7, v8, rfl⟩ := list9 hlen
  have g0 := hf 0 _ rfl
  have g1 := hf 1 _ rfl
  have g2 := hf 2 _ rfl
  simp [Try.cells23, Try.cells24, Try.cells25] at g0 g1 g2
  obtain ⟨n0, n1, n2, n3, n4, n5, n6, e0, _⟩ := cfg_open g0
  obtain ⟨a, len, cap, zs, e1, h1, h2, h3, h4⟩ := ints_open g1
  obtain ⟨ja, jlen, jcap, js, e2, h5, h6, h7, h8⟩ := jobs_open g2
  simp at e0 e1 e2
  obtain ⟨rfl, rfl, rfl, rfl, rfl, rfl, rfl⟩ := e0
  subst e1 e2
  exact ⟨n0, n1, n2, n3, n4, n5, n6, a, len, cap, zs, ja, jlen, jcap, js, rfl, h1, h2, h3, h4, h5, h6, h7, h8⟩
end
end Go.Proofs.Ytejadojilncbjaa

namespace Go.Proofs.Ytejadojilncbjaa
set_option linter.unusedVariables false

/-! The document's life of a thread (package opaqueref), told in plain functions, call by call as the text has it: the word 'over' stays a flag. -/

structure NoteD where
  op : Int
  addr : Int
  val : Int

structure AttD where
  thread : Int
  job : Int
  start : Int
  fin : Int
  valid : Int
  stamp : Int
  fate : Int
  notes : List NoteD

structure ResD where
  fate : Int
  r0 : Int
  r1 : Int
  r2 : Int
  r3 : Int

structure AskD where
  kind : Int
  cell : Int
  frm : Int
  to : Int

structure EntD where
  what : Int
  val : Int

/-- What does not change while a life is told. -/
structure Env where
  c : Cfg
  me : Int
  seen : List Int
  draws : List Int
  whens : List Int
  jobs : List (Int × List InsD)

/-- What changes of a life. -/
structure LS where
  pos : Nat
  over : Bool
  next : AskD
  rank : Int
  fails : Int
  list : List AttD
  ends : List ResD

/-- An attempt while it is made. -/
structure TS where
  code : List InsD
  regs : List Int
  place : Nat
  begun : Nat
  valid : Int
  reads : List EntD
  writes : List EntD
  held : List Int
  inGate : Bool
  way : Int

def cWord (E : Env) (a : Int) : Int := 3 + 2 * E.c.s + E.c.t + a

def modLast (l : List AttD) (f : AttD → AttD) : List AttD := l.modify (l.length - 1) f

def entIdx (l : List EntD) (what : Int) : Option Nat := l.findIdx? fun e => e.what == what
def heldB (x : TS) (st : Int) : Bool := x.held.any fun h => h == st

def formedB (i : InsD) (n : Int) : Bool :=
  if i.op = 0 ∨ i.op = 1 then true
  else if i.op = 2 then inB i.a 0 3 && inB i.b 0 65535
  else if i.op = 3 ∨ i.op = 4 then inB i.a 0 3 && inB i.b 0 3 && inB i.c 0 3
  else if i.op = 5 then inB i.c 0 n
  else if i.op = 6 then inB i.a 0 3 && inB i.b 0 3 && inB i.c 0 n
  else if i.op = 7 ∨ i.op = 8 then inB i.a 0 3 && inB i.b 0 3
  else false

def regOf (x : TS) (i : Int) : Int := x.regs.getD i.toNat 0
def setReg (x : TS) (i v : Int) : TS := { x with regs := x.regs.set i.toNat v }

def putEnt (l : List EntD) (a v : Int) : List EntD := match entIdx l a with
  | some k => l.set k ⟨a, v⟩
  | none => l ++ [⟨a, v⟩]

def newTS (code : List InsD) (valid : Int) : TS := ⟨code, [0, 0, 0, 0], 0, 0, valid, [], [], [], false, -1⟩

end Go.Proofs.Ytejadojilncbjaa

namespace Go.Proofs.Ytejadojilncbjaa
open Go.RowKit
set_option linter.unusedVariables false

/-- Block p holds the cells cs. -/
def Blk (w : World) (p : Nat) (t : TypeId) (cs : Array Value) : Prop := w.heap[p]? = some (.cells cs t (0, 0))

theorem Blk.cell {w : World} {p : Nat} {t : TypeId} {cs : Array Value} (h : Blk w p t cs) : ∀ i, w.cell? ⟨p, i, none⟩ = cs[i]? := fun i => by
  simp [World.cell?, show w.heap[p]? = some (.cells cs t (0, 0)) from h]
theorem Blk.frozen {w : World} {p : Nat} {t : TypeId} {cs : Array Value} (h : Blk w p t cs) : ∀ i, w.frozen? ⟨p, i, none⟩ = false := fun i => by
  simp [World.frozen?, show w.heap[p]? = some (.cells cs t (0, 0)) from h]
theorem Blk.lt {w : World} {p : Nat} {t : TypeId} {cs : Array Value} (h : Blk w p t cs) : p < w.heap.size := by
  rcases Nat.lt_or_ge p w.heap.size with h' | h'
  · exact h'
  · have : w.heap[p]? = some (.cells cs t (0, 0)) := h
    rw [Array.getElem?_eq_none h'] at this; cases this
theorem Blk.ne {w : World} {p q : Nat} {t u : TypeId} {cs ds : Array Value} (h : Blk w p t cs) (k : Blk w q u ds) (hne : t ≠ u) : p ≠ q := fun e => by
  subst e
  have h1 : w.heap[p]? = some (.cells cs t (0, 0)) := h
  have h2 : w.heap[p]? = some (.cells ds u (0, 0)) := k
  rw [h1] at h2
  simp at h2
  exact hne h2.2
theorem Blk.below {w w' : World} {p B : Nat} {t : TypeId} {cs : Array Value} (h : Blk w p t cs) (hb : Below B w w') (hp : p < B) : Blk w' p t cs := (hb.block p hp).trans h
theorem Blk.drewN {w : World} {p : Nat} {t : TypeId} {cs : Array Value} (h : Blk w p t cs) (n : Nat) : Blk (w.drewN n) p t cs := h
theorem Blk.alloc {w : World} {p : Nat} {t : TypeId} {cs : Array Value} (h : Blk w p t cs) (o : Obj) : Blk (w.alloc o) p t cs := h.below ((Below.refl _ _).alloc (Nat.le_refl _) o) h.lt
theorem Blk.new (w : World) (t : TypeId) (cs : Array Value) : Blk (w.alloc (.cells cs t)) w.heap.size t cs := heap_alloc_new w _

/-- Of all blocks that were there, p alone may have turned; new ones may have come. -/
structure Only (p : Nat) (w w' : World) : Prop where
  os : w'.os = w.os
  tape : w'.tape = w.tape
  output : w'.output = w.output
  size : w.heap.size ≤ w'.heap.size
  block : ∀ k, k < w.heap.size → k ≠ p → w'.heap[k]? = w.heap[k]?

theorem Only.refl (p : Nat) (w : World) : Only p w w := ⟨rfl, rfl, rfl, Nat.le_refl _, fun _ _ _ => rfl⟩
theorem Only.trans {p : Nat} {a b c : World} (h : Only p a b) (k : Only p b c) : Only p a c :=
  ⟨k.os.trans h.os, k.tape.trans h.tape, k.output.trans h.output, Nat.le_trans h.size k.size, fun i hi hp => (k.block i (Nat.lt_of_lt_of_le hi h.size) hp).trans (h.block i hi hp)⟩
theorem Only.below {p : Nat} {w w' : World} (h : Below w.heap.size w w') : Only p w w' := ⟨h.os, h.tape, h.output, h.size, fun k hk _ => h.block k hk⟩
theorem Only.drewN {p : Nat} {w w' : World} (h : Only p w w') (n : Nat) : Only p w (w'.drewN n) := ⟨h.os, h.tape, h.output, h.size, h.block⟩
theorem Only.drew {p : Nat} {w w' : World} (h : Only p w w') : Only p w w'.drew := ⟨h.os, h.tape, h.output, h.size, h.block⟩
theorem Only.set {p i : Nat} {w w' : World} {v : Value} (h : Only p w w') : Only p w (w'.setCell ⟨p, i, none⟩ v) :=
  h.trans ⟨rfl, rfl, rfl, by simp [World.setCell], fun k _ hk => Below.heap_setCell _ _ _ _ (by simpa using hk)⟩
theorem Blk.only {w w' : World} {p q : Nat} {t : TypeId} {cs : Array Value} (h : Blk w q t cs) (ho : Only p w w') (hne : q ≠ p) : Blk w' q t cs := (ho.block q h.lt hne).trans h
theorem Blk.set {w : World} {p i : Nat} {t : TypeId} {cs : Array Value} {v : Value} (h : Blk w p t cs) : Blk (w.setCell ⟨p, i, none⟩ v) p t (cs.setIfInBounds i v) := by
  show (w.setCell ⟨p, i, none⟩ v).heap[p]? = _
  rw [setCell_eq_setRow w p i cs t (0, 0) v h]
  exact setRow_heap w p _ _ t _ h
theorem Blk.congr {w : World} {p : Nat} {t : TypeId} {cs ds : Array Value} (h : Blk w p t cs) (e : cs = ds) : Blk w p t ds := e ▸ h

end Go.Proofs.Ytejadojilncbjaa

namespace Go.Proofs.Ytejadojilncbjaa
open Go.RowKit
set_option linter.unusedVariables false
attribute [local go_sem ↓] Go.wp_at_zero Go.wp_at_succ

theorem wrapP (n : Int) (h1 : -1152921504606846976 ≤ n) (h2 : n ≤ 1152921504606846976) : IntKind.i64.wrap n = n := by rw [IntKind.wrap_i64]; omega

theorem isReg_any (v : Int) (w : World) : Calls Try.prog 62 #[.int .i64 v] w fun e w' => e = .returned (.bool (inB v 0 3)) ∧ w' = w := by
  go_enter Try.func62, Try.ntmps62
  go_wp2_with (go_at_call 54; refine (within_any _ _ _ _).mono ?_; rintro e w' ⟨rfl, rfl⟩)
  go_ret
  exact ⟨rfl, rfl⟩

theorem sum_any (a b : Int) (w : World) (h1 : 0 ≤ a ∧ a ≤ 65535) (h2 : 0 ≤ b ∧ b ≤ 65535) : Calls Try.prog 63 #[.int .i64 a, .int .i64 b] w fun e w' => e = .returned (.int .i64 ((a + b).tmod 65536)) ∧ w' = w := by
  obtain ⟨h1, h1'⟩ := h1
  obtain ⟨h2, h2'⟩ := h2
  have hw : IntKind.i64.wrap (a + b) = a + b := wrapP _ (by omega) (by omega)
  have hw2 : IntKind.i64.wrap (a + b - 65536) = a + b - 65536 := wrapP _ (by omega) (by omega)
  have he : (a + b).tmod 65536 = if 65535 < a + b then a + b - 65536 else a + b := by
    rw [Int.tmod_eq_emod_of_nonneg (by omega)]
    split <;> omega
  have HE : Hid ((a + b).tmod 65536 = if 65535 < a + b then a + b - 65536 else a + b) := he
  clear he
  by_cases h : 65535 < a + b
  · go_enter Try.func63, Try.ntmps63
    go_wp2
    go_ret
    exact ⟨by rw [HE.out, if_pos h]; rfl, rfl⟩
  · go_enter Try.func63, Try.ntmps63
    go_wp2
    go_ret
    exact ⟨by rw [HE.out, if_neg (by omega)]; rfl, rfl⟩

theorem diff_any (a b : Int) (w : World) (h1 : 0 ≤ a ∧ a ≤ 65535) (h2 : 0 ≤ b ∧ b ≤ 65535) : Calls Try.prog 64 #[.int .i64 a, .int .i64 b] w fun e w' => e = .returned (.int .i64 ((a + 65535 + 1 - b).tmod 65536)) ∧ w' = w := by
  obtain ⟨h1, h1'⟩ := h1
  obtain ⟨h2, h2'⟩ := h2
  have hw : IntKind.i64.wrap (a - b) = a - b := wrapP _ (by omega) (by omega)
  have hw2 : IntKind.i64.wrap (a - b + 65536) = a - b + 65536 := wrapP _ (by omega) (by omega)
  have he : (a + 65535 + 1 - b).tmod 65536 = if a - b < 0 then a - b + 65536 else a - b := by
    rw [Int.tmod_eq_emod_of_nonneg (by omega)]
    split <;> omega
  have HE : Hid ((a + 65535 + 1 - b).tmod 65536 = if a - b < 0 then a - b + 65536 else a - b) := he
  clear he
  by_cases h : a - b < 0
  · go_enter Try.func64, Try.ntmps64
    go_wp2
    go_ret
    exact ⟨by rw [HE.out, if_pos h]; rfl, rfl⟩
  · go_enter Try.func64, Try.ntmps64
    go_wp2
    go_ret
    exact ⟨by rw [HE.out, if_neg (by omega)]; rfl, rfl⟩

set_option maxHeartbeats 2000000 in
theorem wellFormed_core (op a b c n : Int) (w : World) :
    Calls Try.prog 55 #[.agg #[.int .i64 op, .int .i64 a, .int .i64 b, .int .i64 c], .int .i64 n] w fun e w' =>
      e = .returned (.bool (formedB ⟨op, a, b, c⟩ n)) ∧ Below w.heap.size w w' := by
  by_cases h0 : op = 0
  · subst h0
    go_enter Try.func55, Try.ntmps55
    go_wp2_with (first | (go_at_call 54; refine (within_any _ _ _ _).mono ?_; rintro e w' ⟨rfl, rfl⟩) | (go_at_call 62; refine (isReg_any _ _).mono ?_; rintro e w' ⟨rfl, rfl⟩))
    all_goals
      go_ret
      exact ⟨by simp [formedB, *], (Below.refl _ _).alloc (Nat.le_refl _) _⟩
  by_cases h1 : op = 1
  · subst h1
    go_enter Try.func55, Try.ntmps55
    go_wp2_with (first | (go_at_call 54; refine (within_any _ _ _ _).mono ?_; rintro e w' ⟨rfl, rfl⟩) | (go_at_call 62; refine (isReg_any _ _).mono ?_; rintro e w' ⟨rfl, rfl⟩))
    all_goals
      go_ret
      exact ⟨by simp [formedB, *], (Below.refl _ _).alloc (Nat.le_refl _) _⟩
  by_cases h2 : op = 2
  · subst h2
    go_enter Try.func55, Try.ntmps55
    go_wp2_with (first | (go_at_call 54; refine (within_any _ _ _ _).mono ?_; rintro e w' ⟨rfl, rfl⟩) | (go_at_call 62; refine (isReg_any _ _).mono ?_; rintro e w' ⟨rfl, rfl⟩))
    all_goals
      go_ret
      exact ⟨by simp [formedB, *], (Below.refl _ _).alloc (Nat.le_refl _) _⟩
  by_cases h3 : op = 3
  · subst h3
    go_enter Try.func55, Try.ntmps55
    go_wp2_with (first | (go_at_call 54; refine (within_any _ _ _ _).mono ?_; rintro e w' ⟨rfl, rfl⟩) | (go_at_call 62; refine (isReg_any _ _).mono ?_; rintro e w' ⟨rfl, rfl⟩))
    all_goals
      go_ret
      exact ⟨by simp [formedB, *], (Below.refl _ _).alloc (Nat.le_refl _) _⟩
  by_cases h4 : op = 4
  · subst h4
    go_enter Try.func55, Try.ntmps55
    go_wp2_with (first | (go_at_call 54; refine (within_any _ _ _ _).mono ?_; rintro e w' ⟨rfl, rfl⟩) | (go_at_call 62; refine (isReg_any _ _).mono ?_; rintro e w' ⟨rfl, rfl⟩))
    all_goals
      go_ret
      exact ⟨by simp [formedB, *], (Below.refl _ _).alloc (Nat.le_refl _) _⟩
  by_cases h5 : op = 5
  · subst h5
    go_enter Try.func55, Try.ntmps55
    go_wp2_with (first | (go_at_call 54; refine (within_any _ _ _ _).mono ?_; rintro e w' ⟨rfl, rfl⟩) | (go_at_call 62; refine (isReg_any _ _).mono ?_; rintro e w' ⟨rfl, rfl⟩))
    all_goals
      go_ret
      exact ⟨by simp [formedB, *], (Below.refl _ _).alloc (Nat.le_refl _) _⟩
  by_cases h6 : op = 6
  · subst h6
    go_enter Try.func55, Try.ntmps55
    go_wp2_with (first | (go_at_call 54; refine (within_any _ _ _ _).mono ?_; rintro e w' ⟨rfl, rfl⟩) | (go_at_call 62; refine (isReg_any _ _).mono ?_; rintro e w' ⟨rfl, rfl⟩))
    all_goals
      go_ret
      exact ⟨by simp [formedB, *], (Below.refl _ _).alloc (Nat.le_refl _) _⟩
  by_cases h7 : op = 7
  · subst h7
    go_enter Try.func55, Try.ntmps55
    go_wp2_with (first | (go_at_call 54; refine (within_any _ _ _ _).mono ?_; rintro e w' ⟨rfl, rfl⟩) | (go_at_call 62; refine (isReg_any _ _).mono ?_; rintro e w' ⟨rfl, rfl⟩))
    all_goals
      go_ret
      exact ⟨by simp [formedB, *], (Below.refl _ _).alloc (Nat.le_refl _) _⟩
  by_cases h8 : op = 8
  · subst h8
    go_enter Try.func55, Try.ntmps55
    go_wp2_with (first | (go_at_call 54; refine (within_any _ _ _ _).mono ?_; rintro e w' ⟨rfl, rfl⟩) | (go_at_call 62; refine (isReg_any _ _).mono ?_; rintro e w' ⟨rfl, rfl⟩))
    all_goals
      go_ret
      exact ⟨by simp [formedB, *], (Below.refl _ _).alloc (Nat.le_refl _) _⟩
  have HF : Hid (formedB ⟨op, a, b, c⟩ n = false) := by
    show formedB _ _ = false
    simp [formedB, h0, h1, h2, h3, h4, h5, h6, h7, h8]
  have g0 : (op == 0) = false := by simpa using h0
  have g1 : (op == 1) = false := by simpa using h1
  have g2 : (op == 2) = false := by simpa using h2
  have g3 : (op == 3) = false := by simpa using h3
  have g4 : (op == 4) = false := by simpa using h4
  have g5 : (op == 5) = false := by simpa using h5
  have g6 : (op == 6) = false := by simpa using h6
  have g7 : (op == 7) = false := by simpa using h7
  have g8 : (op == 8) = false := by simpa using h8
  clear h0 h1 h2 h3 h4 h5 h6 h7 h8
  go_enter Try.func55, Try.ntmps55
  go_wp2
  go_ret
  exact ⟨by rw [HF.out]; rfl, (Below.refl _ _).alloc (Nat.le_refl _) _⟩

end Go.Proofs.Ytejadojilncbjaa

namespace Go.Proofs.Ytejadojilncbjaa
open Go.RowKit
set_option linter.unusedVariables false
attribute [local go_sem ↓] Go.wp_at_zero Go.wp_at_succ

/-- The program's machine. -/
structure MS where
  regs : List Int
  place : Nat
  begun : Nat
  into : Int

def mArr (m : MS) : Array Value := #[.int .i64 (m.regs.getD 0 0), .int .i64 (m.regs.getD 1 0), .int .i64 (m.regs.getD 2 0), .int .i64 (m.regs.getD 3 0), .int .i64 m.place, .int .i64 m.begun, .int .i64 m.into]

end Go.Proofs.Ytejadojilncbjaa

namespace Go.Proofs.Ytejadojilncbjaa
open Go.RowKit
set_option linter.unusedVariables false

def MOk (m : MS) : Prop := m.regs.length = 4 ∧ ∀ v ∈ m.regs, 0 ≤ v ∧ v ≤ 65535
def mReg (m : MS) (i : Int) : Int := m.regs.getD i.toNat 0

/-- An instruction that needs nothing but the registers. -/
def pComp (m : MS) (i : InsD) : MS :=
  if i.op = 2 then { m with regs := m.regs.set i.a.toNat i.b }
  else if i.op = 3 then { m with regs := m.regs.set i.a.toNat ((mReg m i.b + mReg m i.c).tmod 65536) }
  else if i.op = 4 then { m with regs := m.regs.set i.a.toNat ((mReg m i.b + 65535 + 1 - mReg m i.c).tmod 65536) }
  else if i.op = 5 then { m with place := i.c.toNat }
  else if mReg m i.a < mReg m i.b then { m with place := i.c.toNat } else m

theorem formed2 {i : InsD} {n : Int} (h : formedB i n = true) (o : i.op = 2) : (0 ≤ i.a ∧ i.a ≤ 3) ∧ (0 ≤ i.b ∧ i.b ≤ 65535) := by
  simp [formedB, o, inB] at h
  omega
theorem formed34 {i : InsD} {n : Int} (h : formedB i n = true) (o : i.op = 3 ∨ i.op = 4) : (0 ≤ i.a ∧ i.a ≤ 3) ∧ (0 ≤ i.b ∧ i.b ≤ 3) ∧ (0 ≤ i.c ∧ i.c ≤ 3) := by
  unfold formedB at h
  rw [if_neg (by omega), if_neg (by omega), if_pos o] at h
  simp [inB] at h
  omega
theorem formed5 {i : InsD} {n : Int} (h : formedB i n = true) (o : i.op = 5) : 0 ≤ i.c ∧ i.c ≤ n := by
  simp [formedB, o, inB] at h
  omega
theorem formed6 {i : InsD} {n : Int} (h : formedB i n = true) (o : i.op = 6) : (0 ≤ i.a ∧ i.a ≤ 3) ∧ (0 ≤ i.b ∧ i.b ≤ 3) ∧ (0 ≤ i.c ∧ i.c ≤ n) := by
  simp [formedB, o, inB] at h
  omega
theorem formed78 {i : InsD} {n : Int} (h : formedB i n = true) (o : i.op = 7 ∨ i.op = 8) : (0 ≤ i.a ∧ i.a ≤ 3) ∧ (0 ≤ i.b ∧ i.b ≤ 3) := by
  unfold formedB at h
  rw [if_neg (by omega), if_neg (by omega), if_neg (by omega), if_neg (by omega), if_neg (by omega), if_pos o] at h
  simp [inB] at h
  omega
theorem formed_op {i : InsD} {n : Int} (h : formedB i n = true) : 0 ≤ i.op ∧ i.op ≤ 8 := by
  unfold formedB at h
  by_cases h1 : i.op = 0 ∨ i.op = 1
  · omega
  rw [if_neg h1] at h
  by_cases h2 : i.op = 2
  · omega
  rw [if_neg h2] at h
  by_cases h3 : i.op = 3 ∨ i.op = 4
  · omega
  rw [if_neg h3] at h
  by_cases h5 : i.op = 5
  · omega
  rw [if_neg h5] at h
  by_cases h6 : i.op = 6
  · omega
  rw [if_neg h6] at h
  by_cases h7 : i.op = 7 ∨ i.op = 8
  · omega
  rw [if_neg h7] at h
  cases h

/-- What Next tells. -/
structure TurnD where
  fate : Int
  op : Int
  addr : Int
  val : Int

def turnCells (t : TurnD) : Array Value := #[.int .i64 t.fate, .int .i64 t.op, .int .i64 t.addr, .int .i64 t.val]

/-- A Read or Write comes up. -/
def pWord (wd : Int) (m : MS) (i : InsD) : TurnD × MS :=
  if i.op = 7 then ((if inB (mReg m i.b) 0 (wd - 1) then ⟨0, 7, mReg m i.b, 0⟩ else ⟨3, 0, 0, 0⟩), { m with into := i.a })
  else ((if inB (mReg m i.a) 0 (wd - 1) then ⟨0, 8, mReg m i.a, mReg m i.b⟩ else ⟨3, 0, 0, 0⟩), m)

/-- Next. -/
def pNext (f wd : Int) (code : List InsD) : Nat → MS → TurnD × MS
  | 0, m => (⟨0, 0, 0, 0⟩, m)
  | n + 1, m =>
    if code.length ≤ m.place then (⟨1, 0, 0, 0⟩, m) else if f ≤ m.begun then (⟨4, 0, 0, 0⟩, m) else
      let i := insAt code m.place
      if formedB i code.length = false then (⟨3, 0, 0, 0⟩, { m with begun := m.begun + 1 }) else
        let m2 : MS := { m with begun := m.begun + 1, place := m.place + 1 }
        if i.op = 0 then (⟨1, 0, 0, 0⟩, m2) else if i.op = 1 then (⟨2, 0, 0, 0⟩, m2) else if i.op = 7 ∨ i.op = 8 then pWord wd m2 i else pNext f wd code n (pComp m2 i)

theorem MOk.comp {m : MS} {i : InsD} {n : Int} (h : MOk m) (hf : formedB i n = true) (ho : 2 ≤ i.op ∧ i.op ≤ 6) : MOk (pComp m i) := by
  have hreg : ∀ k : Int, 0 ≤ mReg m k ∧ mReg m k ≤ 65535 := fun k => by
    unfold mReg
    by_cases hk : k.toNat < m.regs.length
    · rw [show m.regs.getD k.toNat 0 = m.regs[k.toNat] from by simp [List.getD, List.getElem?_eq_getElem hk]]
      exact h.2 _ (List.getElem_mem hk)
    · rw [show m.regs.getD k.toNat 0 = 0 from by simp [List.getD, List.getElem?_eq_none (Nat.le_of_not_lt hk)]]
      omega
  have hset : ∀ (k : Nat) (v : Int), 0 ≤ v → v ≤ 65535 → MOk { m with regs := m.regs.set k v } := fun k v h0 h1 => by
    refine ⟨by simp [h.1], fun u hu => ?_⟩
    rcases List.mem_or_eq_of_mem_set hu with h2 | h2
    · exact h.2 u h2
    · omega
  have hmod : ∀ v : Int, 0 ≤ v → 0 ≤ v.tmod 65536 ∧ v.tmod 65536 ≤ 65535 := fun v hv => ⟨Int.tmod_nonneg _ hv, by have := Int.tmod_lt_of_pos v (b := 65536) (by omega); omega⟩
  unfold pComp
  split
  · rename_i o
    obtain ⟨_, b0, b1⟩ := formed2 hf o
    exact hset _ _ b0 b1
  split
  · have h1 := hreg i.b
    have h2 := hreg i.c
    have := hmod (mReg m i.b + mReg m i.c) (by omega)
    exact hset _ _ this.1 this.2
  split
  · have h1 := hreg i.b
    have h2 := hreg i.c
    have := hmod (mReg m i.b + 65535 + 1 - mReg m i.c) (by omega)
    exact hset _ _ this.1 this.2
  split
  · exact h
  split
  · exact h
  · exact h

end Go.Proofs.Ytejadojilncbjaa
