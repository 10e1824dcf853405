import Derived.Test.YtejadojilncbjaaGreatG00
import Derived.WalkKit
import Derived.ProofKit
import Derived.OpenShut
import Derived.Deep.SlicePairs
import Derived.KernelRfl
namespace Go.Proofs.YtejadojilncbjaaGreat
open Go.ChangeShapes Go.WideShapes Go.ChangeAt Go.RowKit Go.Deep
set_option linter.unusedVariables false

theorem Tryz.cells27 : Tryz.prog.cellsOf 27 = 9 := by kernel_rfl
theorem Tryz.cells23 : Tryz.prog.cellsOf 23 = 7 := by kernel_rfl
theorem Tryz.cells24 : Tryz.prog.cellsOf 24 = 1 := by kernel_rfl
theorem Tryz.cells25 : Tryz.prog.cellsOf 25 = 1 := by kernel_rfl
theorem Tryz.cells3 : Tryz.prog.cellsOf 3 = 1 := by kernel_rfl
theorem Tryz.cells66 : Tryz.prog.cellsOf 66 = 2 := by kernel_rfl
theorem Tryz.cells64 : Tryz.prog.cellsOf 64 = 1 := by kernel_rfl
theorem Tryz.cells155 : Tryz.prog.cellsOf 155 = 4 := by kernel_rfl

section
variable {H : Type} {enc : TypeId × Value → H} {w : World} {spare : Nat → Bool} {held : Bool}

theorem block_lt {w : World} {b o : Nat} {u : Value} (h : w.cell? ⟨b, o, none⟩ = some u) : b < w.heap.size := World.block_lt_of_cell? w _ h

theorem list3 {α : Type} {l : List α} (h : l.length = 3) : ∃ a b c, l = [a, b, c] := by
  match l, h with
  | [a, b, c], _ => exact ⟨a, b, c, rfl⟩
theorem list4 {α : Type} {l : List α} (h : l.length = 4) : ∃ a b c d, l = [a, b, c, d] := by
  match l, h with
  | [a, b, c, d], _ => exact ⟨a, b, c, d, rfl⟩
theorem list7 {α : Type} {l : List α} (h : l.length = 7) : ∃ a b c d e f g, l = [a, b, c, d, e, f, g] := by
  match l, h with
  | [a, b, c, d, e, f, g], _ => exact ⟨a, b, c, d, e, f, g, rfl⟩
theorem list9 {α : Type} {l : List α} (h : l.length = 9) : ∃ a b c d e f g x y, l = [a, b, c, d, e, f, g, x, y] := by
  match l, h with
  | [a, b, c, d, e, f, g, x, y], _ => exact ⟨a, b, c, d, e, f, g, x, y, rfl⟩

/-- A slice of numbers opened: its elements in a list. -/
theorem ints_open {fuel : Nat} {cs : List Value} {x : DataW H × List MemPlace} (h : DataW.trod enc Tryz.prog w 0 spare held fuel 24 cs = some x) :
    ∃ a len cap zs, cs = [.slice a len cap] ∧ zs.length = len ∧ len ≤ maxLen ∧ Ints w w.heap.size a zs ∧ ∀ z ∈ zs, (Lit.int .i64 z).wf = true := by
  rcases open_ints Tryz.underlying24 Tryz.underlying3 Tryz.cells3 h with ⟨hcs, _⟩ | ⟨x, l, c, zs, hcs, _, hl, hm, hz, _, hcell, hwz⟩
  · exact ⟨none, 0, 0, [], hcs, rfl, Nat.zero_le _, fun i hi => by simp at hi, by simp⟩
  · have hle : l ≤ zs.length := by rw [hz]; split <;> omega
    refine ⟨some x, l, c, zs.take l, hcs, by simp; omega, by omega, fun i hi => ?_, fun z hz => hwz z (List.mem_of_mem_take hz)⟩
    have hi' : i < l := by simp at hi; omega
    obtain ⟨b, off, spot⟩ := x
    have hc := hcell i (by omega)
    have hspot : spot = none := by simpa [Addr.add] using World.cell?_spot (hcell 0 (by omega))
    subst hspot
    have hc' : w.cell? ⟨b, off + i, none⟩ = some (.int .i64 (zs.getD i 0)) := by rw [add_plain] at hc; exact hc
    refine ⟨b, off, rfl, block_lt hc', ?_⟩
    rw [hc']
    simp [List.getD, hi']

/-- An instruction as it lies. -/
structure InsD where
  op : Int
  a : Int
  b : Int
  c : Int

def insAt (is : List InsD) (i : Nat) : InsD := is.getD i ⟨0, 0, 0, 0⟩

def CodeIn (w : World) (B : Nat) (a : Option Addr) (is : List InsD) : Prop :=
  ∀ i, i < is.length → ∃ b off, a = some ⟨b, off, none⟩ ∧ b < B ∧ w.cell? ⟨b, off + i * 4, none⟩ = some (.int .i64 (insAt is i).op) ∧ w.cell? ⟨b, off + i * 4 + 1, none⟩ = some (.int .i64 (insAt is i).a) ∧
    w.cell? ⟨b, off + i * 4 + 2, none⟩ = some (.int .i64 (insAt is i).b) ∧ w.cell? ⟨b, off + i * 4 + 3, none⟩ = some (.int .i64 (insAt is i).c)

def InsD.wf (i : InsD) : Prop := (Lit.int .i64 i.op).wf = true ∧ (Lit.int .i64 i.a).wf = true ∧ (Lit.int .i64 i.b).wf = true ∧ (Lit.int .i64 i.c).wf = true

/-- A code opened. -/
theorem code_open {fuel : Nat} {cs : List Value} {x : DataW H × List MemPlace} (h : DataW.trod enc Tryz.prog w 0 spare held fuel 64 cs = some x) :
    ∃ a len cap is, cs = [.slice a len cap] ∧ is.length = len ∧ len ≤ maxLen ∧ CodeIn w w.heap.size a is ∧ ∀ i ∈ is, i.wf := by
  rcases open_slice Tryz.underlying64 h with ⟨hcs, _⟩ | ⟨x, l, c, m, n, D, Pl, hcs, _, hl, hm, hmm, _, hel⟩
  · exact ⟨none, 0, 0, [], hcs, rfl, Nat.zero_le _, fun i hi => by simp at hi, by simp⟩
  · have hle : l ≤ m := by rw [hmm]; split <;> omega
    have each : ∀ i, i < l → ∃ q : InsD, q.wf ∧ w.cell? (x.add (i * 4)) = some (.int .i64 q.op) ∧ w.cell? (x.add (i * 4 + 1)) = some (.int .i64 q.a) ∧ w.cell? (x.add (i * 4 + 2)) = some (.int .i64 q.b) ∧ w.cell? (x.add (i * 4 + 3)) = some (.int .i64 q.c) := by
      intro i hi
      obtain ⟨cs', h1, h2⟩ := hel i (by omega)
      rw [Tryz.cells155] at h1
      obtain ⟨_, hlen, hcell⟩ := World.cells?_some h1
      obtain ⟨xs, k, hk, hxy, _, hxl, hf⟩ := DataW.trod_struct Tryz.underlying155 h2
      obtain ⟨y0, y1, y2, y3, rfl⟩ := list4 hxl
      obtain ⟨v0, v1, v2, v3, rfl⟩ := list4 hlen
      have g0 := hf 0 _ rfl
      have g1 := hf 1 _ rfl
      have g2 := hf 2 _ rfl
      have g3 := hf 3 _ rfl
      simp [Tryz.cells3] at g0 g1 g2 g3
      obtain ⟨n0, e0, _, w0⟩ := DataW.trod_int Tryz.underlying3 g0
      obtain ⟨n1, e1, _, w1⟩ := DataW.trod_int Tryz.underlying3 g1
      obtain ⟨n2, e2, _, w2⟩ := DataW.trod_int Tryz.underlying3 g2
      obtain ⟨n3, e3, _, w3⟩ := DataW.trod_int Tryz.underlying3 g3
      simp at e0 e1 e2 e3
      have c0 := hcell 0 (by omega)
      have c1 := hcell 1 (by omega)
      have c2 := hcell 2 (by omega)
      have c3 := hcell 3 (by omega)
      rw [add_add] at c0 c1 c2 c3
      exact ⟨⟨n0, n1, n2, n3⟩, ⟨w0, w1, w2, w3⟩, by simpa [e0] using c0, by simpa [e1] using c1, by simpa [e2] using c2, by simpa [e3] using c3⟩
    have hin : Inhabited InsD := ⟨⟨0, 0, 0, 0⟩⟩
    obtain ⟨q, hq⟩ := choose_lt each
    obtain ⟨b, off, spot⟩ := x
    refine ⟨some ⟨b, off, spot⟩, l, c, (List.range l).map q, hcs, by simp, by omega, fun i hi => ?_, fun i hi => ?_⟩
    · have hi' : i < l := by simpa using hi
      obtain ⟨_, h0, h1, h2, h3⟩ := hq i hi'
      have hspot : spot = none := by simpa [Addr.add] using World.cell?_spot (hq 0 (by omega)).2.1
      subst hspot
      rw [add_plain] at h0 h1 h2 h3
      have hat : insAt ((List.range l).map q) i = q i := by simp [insAt, List.getD, hi']
      rw [hat]
      exact ⟨b, off, rfl, block_lt h0, h0, h1, h2, h3⟩
    · obtain ⟨j, hj, rfl⟩ := List.mem_map.1 hi
      exact (hq j (by simpa using hj)).1

/-- The jobs opened: each with its code. -/
theorem jobs_open {fuel : Nat} {cs : List Value} {x : DataW H × List MemPlace} (h : DataW.trod enc Tryz.prog w 0 spare held fuel 25 cs = some x) :
    ∃ a len cap, ∃ js : List JobD, cs = [.slice a len cap] ∧ js.length = len ∧ len ≤ maxLen ∧ JobsIn w w.heap.size a js ∧
      (∀ j ∈ js, (Lit.int .i64 j.t).wf = true ∧ j.len ≤ maxLen ∧ ∃ is : List InsD, is.length = j.len ∧ CodeIn w w.heap.size j.a is ∧ ∀ i ∈ is, i.wf) := by
  rcases open_slice_pairs Tryz.underlying25 Tryz.underlying66 Tryz.cells66 rfl rfl Tryz.cells3 Tryz.cells64 h with ⟨hcs, _⟩ | ⟨x, l, c, m, n, V0, V1, D0, D1, P0, P1, hcs, _, hl, hm, hmm, _, hel⟩
  · exact ⟨none, 0, 0, [], hcs, rfl, Nat.zero_le _, fun i hi => by simp at hi, by simp⟩
  · have hle : l ≤ m := by rw [hmm]; split <;> omega
    have each : ∀ i, i < l → ∃ q : JobD, ((Lit.int .i64 q.t).wf = true ∧ q.len ≤ maxLen ∧ ∃ is : List InsD, is.length = q.len ∧ CodeIn w w.heap.size q.a is ∧ ∀ i ∈ is, i.wf) ∧
        w.cell? (x.add (i * 2)) = some (.int .i64 q.t) ∧ w.cell? (x.add (i * 2 + 1)) = some (.slice q.a q.len q.cap) := by
      intro i hi
      obtain ⟨h0, h1, h2, h3⟩ := hel i (by omega)
      obtain ⟨n0, e0, _, w0⟩ := DataW.trod_int Tryz.underlying3 h2
      obtain ⟨ca, clen, ccap, is, e1, hil, hcm, hci, hiw⟩ := code_open h3
      simp at e0 e1
      exact ⟨⟨n0, ca, clen, ccap⟩, ⟨w0, hcm, is, hil, hci, hiw⟩, by rw [h0, e0], by rw [h1, e1]⟩
    have hin : Inhabited JobD := ⟨⟨0, none, 0, 0⟩⟩
    obtain ⟨q, hq⟩ := choose_lt each
    obtain ⟨b, off, spot⟩ := x
    refine ⟨some ⟨b, off, spot⟩, l, c, (List.range l).map q, hcs, by simp, by omega, fun i hi => ?_, fun i hi => ?_⟩
    · have hi' : i < l := by simpa using hi
      obtain ⟨_, h0, h1⟩ := hq i hi'
      have hspot : spot = none := by simpa [Addr.add] using World.cell?_spot (hq 0 (by omega)).2.1
      subst hspot
      rw [add_plain] at h0 h1
      have hat : jobAt ((List.range l).map q) i = q i := by simp [jobAt, List.getD, hi']
      rw [hat]
      exact ⟨b, off, rfl, block_lt h0, h0, h1⟩
    · obtain ⟨j, hj, rfl⟩ := List.mem_map.1 hi
      exact (hq j (by simpa using hj)).1

/-- A config's seven cells. -/
theorem cfg_open {fuel : Nat} {cs : List Value} {x : DataW H × List MemPlace} (h : DataW.trod enc Tryz.prog w 0 spare held fuel 23 cs = some x) :
    ∃ t wd s g r cp f : Int, cs = [.int .i64 t, .int .i64 wd, .int .i64 s, .int .i64 g, .int .i64 r, .int .i64 cp, .int .i64 f] ∧
      (Lit.int .i64 t).wf = true ∧ (Lit.int .i64 wd).wf = true ∧ (Lit.int .i64 s).wf = true ∧ (Lit.int .i64 g).wf = true ∧ (Lit.int .i64 r).wf = true ∧ (Lit.int .i64 cp).wf = true ∧ (Lit.int .i64 f).wf = true := by
  obtain ⟨xs, k, hk, hxy, hlen, hxl, hf⟩ := DataW.trod_struct Tryz.underlying23 h
  rw [Tryz.cells23] at hlen
  obtain ⟨y0, y1, y2, y3, y4, y5, y6, rfl⟩ := list7 hxl
  obtain ⟨v0, v1, v2, v3, v4, v5, v6, rfl⟩ := list7 hlen
  have g0 := hf 0 _ rfl
  have g1 := hf 1 _ rfl
  have g2 := hf 2 _ rfl
  have g3 := hf 3 _ rfl
  have g4 := hf 4 _ rfl
  have g5 := hf 5 _ rfl
  have g6 := hf 6 _ rfl
  simp [Tryz.cells3] at g0 g1 g2 g3 g4 g5 g6
  obtain ⟨n0, e0, _, w0⟩ := DataW.trod_int Tryz.underlying3 g0
  obtain ⟨n1, e1, _, w1⟩ := DataW.trod_int Tryz.underlying3 g1
  obtain ⟨n2, e2, _, w2⟩ := DataW.trod_int Tryz.underlying3 g2
  obtain ⟨n3, e3, _, w3⟩ := DataW.trod_int Tryz.underlying3 g3
  obtain ⟨n4, e4, _, w4⟩ := DataW.trod_int Tryz.underlying3 g4
  obtain ⟨n5, e5, _, w5⟩ := DataW.trod_int Tryz.underlying3 g5
  obtain ⟨n6, e6, _, w6⟩ := DataW.trod_int Tryz.underlying3 g6
  simp at e0 e1 e2 e3 e4 e5 e6
  exact ⟨n0, n1, n2, n3, n4, n5, n6, by rw [e0, e1, e2, e3, e4, e5, e6], w0, w1, w2, w3, w4, w5, w6⟩

/-- A setup opened. -/
theorem setup_open {fuel : Nat} {cs : List Value} {x : DataW H × List MemPlace} (h : DataW.trod enc Tryz.prog w 0 spare held fuel 27 cs = some x) :
    ∃ (t wd s g r cp f : Int) (a : Option Addr) (len cap : Nat) (zs : List Int) (ja : Option Addr) (jlen jcap : Nat) (js : List JobD),
      cs = [.int .i64 t, .int .i64 wd, .int .i64 s, .int .i64 g, .int .i64 r, .int .i64 cp, .int .i64 f, .slice a len cap, .slice ja jlen jcap] ∧
      zs.length = len ∧ len ≤ maxLen ∧ Ints w w.heap.size a zs ∧ (∀ z ∈ zs, (Lit.int .i64 z).wf = true) ∧ js.length = jlen ∧ jlen ≤ maxLen ∧ JobsIn w w.heap.size ja js ∧
      (∀ j ∈ js, (Lit.int .i64 j.t).wf = true ∧ j.len ≤ maxLen ∧ ∃ is : List InsD, is.length = j.len ∧ CodeIn w w.heap.size j.a is ∧ ∀ i ∈ is, i.wf) := by
  obtain ⟨xs, k, hk, hxy, hlen, hxl, hf⟩ := DataW.trod_struct Tryz.underlying27 h
  rw [Tryz.cells27] at hlen
  obtain ⟨y0, y1, y2, rfl⟩ := list3 hxl
  obtain ⟨v0, v1, v2, v3, v4, v5, v6, v7, v8, rfl⟩ := list9 hlen
  have g0 := hf 0 _ rfl
  have g1 := hf 1 _ rfl
  have g2 := hf 2 _ rfl
  simp [Tryz.cells23, Tryz.cells24, Tryz.cells25] at g0 g1 g2
  obtain ⟨n0, n1, n2, n3, n4, n5, n6, e0, _⟩ := cfg_open g0
  obtain ⟨a, len, cap, zs, e1, h1, h2, h3, h4⟩ := ints_open g1
  obtain ⟨ja, jlen, jcap, js, e2, h5, h6, h7, h8⟩ := jobs_open g2
  simp at e0 e1 e2
  obtain ⟨rfl, rfl, rfl, rfl, rfl, rfl, rfl⟩ := e0
  subst e1 e2
  exact ⟨n0, n1, n2, n3, n4, n5, n6, a, len, cap, zs, ja, jlen, jcap, js, rfl, h1, h2, h3, h4, h5, h6, h7, h8⟩
end
end Go.Proofs.YtejadojilncbjaaGreat

namespace Go.Proofs.YtejadojilncbjaaGreat
set_option linter.unusedVariables false

/-! The document's life of a thread (package opaqueref), told in plain functions, call by call as the text has it: the word 'over' stays a flag. -/

structure NoteD where
  op : Int
  addr : Int
  val : Int

structure AttD where
  thread : Int
  job : Int
  start : Int
  fin : Int
  valid : Int
  stamp : Int
  fate : Int
  notes : List NoteD

structure ResD where
  fate : Int
  r0 : Int
  r1 : Int
  r2 : Int
  r3 : Int

structure AskD where
  kind : Int
  cell : Int
  frm : Int
  to : Int

structure EntD where
  what : Int
  val : Int

/-- What does not change while a life is told. -/
structure Env where
  c : Cfg
  me : Int
  seen : List Int
  draws : List Int
  whens : List Int
  jobs : List (Int × List InsD)

/-- What changes of a life. -/
structure LS where
  pos : Nat
  over : Bool
  next : AskD
  rank : Int
  fails : Int
  list : List AttD
  ends : List ResD

/-- An attempt while it is made. -/
structure TS where
  code : List InsD
  regs : List Int
  place : Nat
  begun : Nat
  valid : Int
  reads : List EntD
  writes : List EntD
  held : List Int
  inGate : Bool
  way : Int

def cWord (E : Env) (a : Int) : Int := 3 + 2 * E.c.s + E.c.t + a

def mAsk (E : Env) (s : LS) (q : AskD) : Int × LS :=
  if s.over then (0, s) else if E.seen.length ≤ s.pos then (0, { s with over := true, next := q }) else (E.seen.getD s.pos 0, { s with pos := s.pos + 1 })

def modLast (l : List AttD) (f : AttD → AttD) : List AttD := l.modify (l.length - 1) f

def mNoted (s : LS) (op addr val : Int) : LS := { s with list := modLast s.list fun a => { a with notes := a.notes ++ [⟨op, addr, val⟩] } }
def mEnded (E : Env) (s : LS) (fate : Int) : LS := { s with list := modLast s.list fun a => { a with fin := E.whens.getD (s.pos - 1) 0, fate := fate } }

def entIdx (l : List EntD) (what : Int) : Option Nat := l.findIdx? fun e => e.what == what
def heldB (x : TS) (st : Int) : Bool := x.held.any fun h => h == st

def formedB (i : InsD) (n : Int) : Bool :=
  if i.op = 0 ∨ i.op = 1 then true
  else if i.op = 2 then inB i.a 0 3 && inB i.b 0 65535
  else if i.op = 3 ∨ i.op = 4 then inB i.a 0 3 && inB i.b 0 3 && inB i.c 0 3
  else if i.op = 5 then inB i.c 0 n
  else if i.op = 6 then inB i.a 0 3 && inB i.b 0 3 && inB i.c 0 n
  else if i.op = 7 ∨ i.op = 8 then inB i.a 0 3 && inB i.b 0 3
  else false

def regOf (x : TS) (i : Int) : Int := x.regs.getD i.toNat 0
def setReg (x : TS) (i v : Int) : TS := { x with regs := x.regs.set i.toNat v }

def putEnt (l : List EntD) (a v : Int) : List EntD := match entIdx l a with
  | some k => l.set k ⟨a, v⟩
  | none => l ++ [⟨a, v⟩]

def newTS (code : List InsD) (valid : Int) : TS := ⟨code, [0, 0, 0, 0], 0, 0, valid, [], [], [], false, -1⟩

def newLS (E : Env) : LS := ⟨0, false, ⟨0, 0, 0, 0⟩, 0, 0, [], E.jobs.map fun _ => ⟨0, 0, 0, 0, 0⟩⟩

end Go.Proofs.YtejadojilncbjaaGreat

namespace Go.Proofs.YtejadojilncbjaaGreat
set_option linter.unusedVariables false

/-! A thread as a machine with states: what it asks next, and what follows what it sees. It keeps its state from pick to pick; that it does what the document's life tells is shown in the texts behind this one. -/

/-- What a pick brings: what was seen, its draw, its number. -/
structure AnsD where
  seen : Int
  draw : Int
  num : Int

/-- What does not change. -/
structure Cx where
  c : Cfg
  me : Int
  jobs : List (Int × List InsD)

def Env.cx (E : Env) : Cx := ⟨E.c, E.me, E.jobs⟩

def hVer (s : Int) : Int := 3 + s
def hOwn (K : Cx) (s : Int) : Int := 3 + K.c.s + s
def hSta (K : Cx) (t : Int) : Int := 3 + 2 * K.c.s + t
def hWrd (K : Cx) (a : Int) : Int := 3 + 2 * K.c.s + K.c.t + a

/-- What follows an extension: a Read, or a Write whose stripe was just got. -/
inductive Ex where
  | rd (i : InsD) (a v : Int)
  | wr (i : InsD) (a : Int)

/-- What the next access is for. -/
inductive St where
  | idle
  | start
  | rHeld (i : InsD) (a : Int)
  | rVer (i : InsD) (a : Int)
  | rWord (i : InsD) (a one : Int)
  | rAgain (i : InsD) (a one v : Int)
  | xClock (k : Ex)
  | xVer (k : Ex) (c : Int) (r : List EntD)
  | gStat (i : InsD) (a : Int)
  | gOwn (i : InsD) (a : Int)
  | gTheir (i : InsD) (a u : Int)
  | gMark (i : InsD) (a u th : Int)
  | gVer (i : InsD) (a : Int)
  | tTake
  | tShow
  | cStat
  | cGate
  | cClock
  | cVer (c : Int) (r : List EntD)
  | cShut (c : Int) (r : List Int)
  | cStamp (c : Int)
  | cLeave (c : Int)
  | cWord (c : Int) (r : List EntD)
  | cOpen (c : Int) (r : List Int)
  | cOwn (c : Int) (r : List Int)
  | free (e : Int) (r : List Int)
  | fin (e : Int)
  | fGate
  | fOwn (r : List Int)
  | fTake
  | fStat
  | wait (win : Int)
  | rest (n : Nat)

/-- A thread and how far it has come. -/
structure Th where
  rank : Int
  fails : Int
  list : List AttD
  ends : List ResD
  job : Nat
  x : TS
  st : St

def Th.noted (h : Th) (op a v : Int) : Th := { h with list := modLast h.list fun t => { t with notes := t.notes ++ [⟨op, a, v⟩] } }
def Th.ended (h : Th) (num fate : Int) : Th := { h with list := modLast h.list fun t => { t with fin := num, fate := fate } }

/-- The next job of the thread, from place j on. -/
def seek (me : Int) : Nat → List (Int × List InsD) → Option Nat
  | _, [] => none
  | j, b :: r => if b.1 = me then some j else seek me (j + 1) r

def hTo (K : Cx) (j : Nat) (h : Th) : Th := match seek K.me j (K.jobs.drop j) with
  | some k => { h with rank := 0, fails := 0, job := k, st := .start }
  | none => { h with st := .idle }

def hFreeAt (e : Int) (r : List Int) (h : Th) : Th := match r with
  | [] => { h with st := .fin e }
  | _ :: _ => { h with st := .free e r }

/-- The code is at its end. -/
def hClose (e : Int) (h : Th) : Th := if e = 1 ∧ h.x.held ≠ [] then { h with st := .cStat } else hFreeAt e h.x.held h

def hCount (K : Cx) (h : Th) : Th := if h.rank = 0 ∧ K.c.r < h.fails + 1 then { h with fails := h.fails + 1, st := .fTake } else { h with fails := h.fails + 1, st := .fStat }
def hFailOwn (K : Cx) (r : List Int) (h : Th) : Th := match r with
  | [] => hCount K h
  | _ :: _ => { h with st := .fOwn r }
/-- It fails. -/
def hFail (K : Cx) (h : Th) : Th := if h.x.inGate then { h with st := .fGate } else hFailOwn K h.x.held h

def hRead (K : Cx) (i : InsD) (h : Th) : Bool × Th :=
  let a := regOf h.x i.b
  if K.c.wd ≤ a then (false, hClose 3 h) else
    match entIdx h.x.writes a with
    | some k => (true, ({ h with x := setReg h.x i.a (h.x.writes.getD k ⟨0, 0⟩).val } : Th).noted 7 a (h.x.writes.getD k ⟨0, 0⟩).val)
    | none => (false, if heldB h.x (a.tmod K.c.s) then { h with st := .rHeld i a } else { h with st := .rVer i a })

def hPut (i : InsD) (a : Int) (h : Th) : Th := ({ h with x := { h.x with writes := putEnt h.x.writes a (regOf h.x i.b) } } : Th).noted 8 a (regOf h.x i.b)

def hWrite (K : Cx) (i : InsD) (h : Th) : Bool × Th :=
  let a := regOf h.x i.a
  if K.c.wd ≤ a then (false, hClose 3 h) else
    if heldB h.x (a.tmod K.c.s) then (true, hPut i a h) else (false, { h with st := .gStat i a })

/-- One instruction: does the code go on without an access? -/
def hStep (K : Cx) (h : Th) : Bool × Th :=
  if h.x.place = h.x.code.length then (false, hClose 1 h) else if (h.x.begun : Int) = K.c.f then (false, hClose 4 h) else
    let i := insAt h.x.code h.x.place
    let x1 := { h.x with begun := h.x.begun + 1 }
    if formedB i h.x.code.length = false then (false, hClose 3 { h with x := x1 }) else
      let x2 := { x1 with place := h.x.place + 1 }
      if i.op = 0 then (false, hClose 1 { h with x := x2 })
      else if i.op = 1 then (false, hClose 2 { h with x := x2 })
      else if i.op = 2 then (true, { h with x := setReg x2 i.a i.b })
      else if i.op = 3 then (true, { h with x := setReg x2 i.a ((regOf x2 i.b + regOf x2 i.c).tmod 65536) })
      else if i.op = 4 then (true, { h with x := setReg x2 i.a ((regOf x2 i.b + 65535 + 1 - regOf x2 i.c).tmod 65536) })
      else if i.op = 5 then (true, { h with x := { x2 with place := i.c.toNat } })
      else if i.op = 6 then (true, { h with x := if regOf x2 i.a < regOf x2 i.b then { x2 with place := i.c.toNat } else x2 })
      else if i.op = 7 then hRead K i { h with x := x2 }
      else hWrite K i { h with x := x2 }

def hAdv (K : Cx) : Nat → Th → Th
  | 0, h => h
  | n + 1, h => if (hStep K h).1 then hAdv K n (hStep K h).2 else (hStep K h).2

/-- The code goes on up to where an access is due. -/
def hGo (K : Cx) (h : Th) : Th := hAdv K (K.c.f.toNat + 1 - h.x.begun) h

def hGot (K : Cx) (i : InsD) (a v : Int) (h : Th) : Th := hGo K (({ h with x := setReg h.x i.a v } : Th).noted 7 a v)

/-- A Write that has just got its stripe. -/
def hWrote (K : Cx) (i : InsD) (a : Int) (h : Th) : Th :=
  if h.rank ≠ 0 ∨ K.c.g = 0 ∨ (h.x.held.length : Int) ≠ K.c.g then hGo K (hPut i a h) else { hPut i a h with st := .tTake }

def hExDone (K : Cx) (k : Ex) (c : Int) (h : Th) : Th :=
  let h1 : Th := { h with list := modLast h.list (fun t => { t with valid := c }), x := { h.x with valid := c } }
  match k with
  | .rd i a v => hGot K i a v h1
  | .wr i a => hWrote K i a h1
def hExStill (K : Cx) (k : Ex) (c : Int) (r : List EntD) (h : Th) : Th := match r with
  | [] => hExDone K k c h
  | _ :: _ => { h with st := .xVer k c r }

def hOpenAt (c : Int) (r : List Int) (h : Th) : Th := match r with
  | [] => { h with st := .fin 1 }
  | _ :: _ => { h with st := .cOpen c r }
def hWordAt (c : Int) (r : List EntD) (h : Th) : Th := match r with
  | [] => hOpenAt c h.x.held h
  | _ :: _ => { h with st := .cWord c r }
def hShutAt (c : Int) (r : List Int) (h : Th) : Th := match r with
  | [] => { h with st := .cStamp c }
  | _ :: _ => { h with st := .cShut c r }
def hStillAt (c : Int) : List EntD → Th → Th
  | [], h => hShutAt c h.x.held h
  | e :: r, h => if heldB h.x e.what then hStillAt c r h else { h with st := .cVer c (e :: r) }

def hRest (K : Cx) (draw : Int) (h : Th) : Th :=
  let n := if h.fails < K.c.cp then h.fails else K.c.cp
  if 0 < draw ∧ (draw.tmod (n + 1)).toNat ≠ 0 then { h with st := .rest (draw.tmod (n + 1)).toNat } else { h with st := .start }

/-- The access that is due. -/
def hOut (K : Cx) (h : Th) : AskD := match h.st with
  | .idle => ⟨0, 0, 0, 0⟩
  | .start => ⟨1, 0, 0, 0⟩
  | .rHeld i a => ⟨1, hWrd K a, 0, 0⟩
  | .rVer i a => ⟨1, hVer (a.tmod K.c.s), 0, 0⟩
  | .rWord i a one => ⟨1, hWrd K a, 0, 0⟩
  | .rAgain i a one v => ⟨1, hVer (a.tmod K.c.s), 0, 0⟩
  | .xClock k => ⟨1, 0, 0, 0⟩
  | .xVer k c [] => ⟨0, 0, 0, 0⟩
  | .xVer k c (e :: r) => ⟨1, hVer e.what, 0, 0⟩
  | .gStat i a => ⟨1, hSta K K.me, 0, 0⟩
  | .gOwn i a => ⟨3, hOwn K (a.tmod K.c.s), 0, K.me + 1⟩
  | .gTheir i a u => ⟨1, hSta K (u - 1), 0, 0⟩
  | .gMark i a u th => ⟨3, hSta K (u - 1), th, th + K.me + 1⟩
  | .gVer i a => ⟨1, hVer (a.tmod K.c.s), 0, 0⟩
  | .tTake => ⟨4, 1, 0, 0⟩
  | .tShow => ⟨3, hSta K K.me, 0, 8 * h.rank⟩
  | .cStat => ⟨1, hSta K K.me, 0, 0⟩
  | .cGate => ⟨3, 2, 0, K.me + 1⟩
  | .cClock => ⟨1, 0, 0, 0⟩
  | .cVer c [] => ⟨0, 0, 0, 0⟩
  | .cVer c (e :: r) => ⟨1, hVer e.what, 0, 0⟩
  | .cShut c [] => ⟨0, 0, 0, 0⟩
  | .cShut c (s :: r) => ⟨2, hVer s, 0, -1⟩
  | .cStamp c => ⟨2, 0, 0, c + 1⟩
  | .cLeave c => ⟨2, 2, 0, 0⟩
  | .cWord c [] => ⟨0, 0, 0, 0⟩
  | .cWord c (e :: r) => ⟨2, hWrd K e.what, 0, e.val⟩
  | .cOpen c [] => ⟨0, 0, 0, 0⟩
  | .cOpen c (s :: r) => ⟨2, hVer s, 0, c + 1⟩
  | .cOwn c [] => ⟨0, 0, 0, 0⟩
  | .cOwn c (s :: r) => ⟨2, hOwn K s, 0, 0⟩
  | .free e [] => ⟨0, 0, 0, 0⟩
  | .free e (s :: r) => ⟨2, hOwn K s, 0, 0⟩
  | .fin e => ⟨2, hSta K K.me, 0, 0⟩
  | .fGate => ⟨2, 2, 0, 0⟩
  | .fOwn [] => ⟨0, 0, 0, 0⟩
  | .fOwn (s :: r) => ⟨2, hOwn K s, 0, 0⟩
  | .fTake => ⟨4, 1, 0, 0⟩
  | .fStat => ⟨2, hSta K K.me, 0, 8 * h.rank⟩
  | .wait win => ⟨1, hSta K win, 0, 0⟩
  | .rest n => ⟨0, 0, 0, 0⟩

/-- What follows the access. -/
def hNext (K : Cx) (h : Th) (v : AnsD) : Th := match h.st with
  | .idle => h
  | .start => hGo K { h with list := h.list ++ [⟨K.me, h.job, v.num, 0, v.seen, 0, 0, []⟩], x := newTS (K.jobs.getD h.job (0, [])).2 v.seen }
  | .rHeld i a => hGot K i a v.seen h
  | .rVer i a => if v.seen = -1 then h else { h with st := .rWord i a v.seen }
  | .rWord i a one => { h with st := .rAgain i a one v.seen }
  | .rAgain i a one w => if v.seen ≠ one then { h with st := .rVer i a } else
      let x1 := if (entIdx h.x.reads (a.tmod K.c.s)).isSome then h.x else { h.x with reads := h.x.reads ++ [⟨a.tmod K.c.s, one⟩] }
      if one ≤ x1.valid then hGot K i a w { h with x := x1 } else { h with x := x1, st := .xClock (.rd i a w) }
  | .xClock k => hExStill K k v.seen h.x.reads h
  | .xVer k c [] => h
  | .xVer k c (e :: r) => if v.seen ≠ e.val then hFail K h else hExStill K k c r h
  | .gStat i a => if 0 < v.seen.tmod 8 then hFail K h else { h with st := .gOwn i a }
  | .gOwn i a => if v.seen = 0 then { h with x := { h.x with held := h.x.held ++ [a.tmod K.c.s] }, st := .gVer i a } else if h.rank = 0 then hFail K h else { h with st := .gTheir i a v.seen }
  | .gTheir i a u => if 0 < v.seen.tdiv 8 ∧ v.seen.tdiv 8 < h.rank then hFail K { h with x := { h.x with way := u - 1 } } else if v.seen.tmod 8 = 0 then { h with st := .gMark i a u v.seen } else { h with st := .gStat i a }
  | .gMark i a u th => { h with st := .gStat i a }
  | .gVer i a => if h.x.valid < v.seen then { h with st := .xClock (.wr i a) } else hWrote K i a h
  | .tTake => { h with rank := v.seen + 1, st := .tShow }
  | .tShow => if v.seen ≠ 0 then hFail K h else hGo K h
  | .cStat => if 0 < v.seen.tmod 8 then hFail K h else { h with st := .cGate }
  | .cGate => { h with x := { h.x with inGate := v.seen == 0 }, st := if v.seen = 0 then .cClock else .cGate }
  | .cClock => if v.seen ≠ h.x.valid then hStillAt v.seen h.x.reads h else hShutAt v.seen h.x.held h
  | .cVer c [] => h
  | .cVer c (e :: r) => if v.seen ≠ e.val then hFail K h else hStillAt c r h
  | .cShut c [] => h
  | .cShut c (s :: r) => hShutAt c r h
  | .cStamp c => { h with list := modLast h.list (fun t => { t with stamp := c + 1 }), st := .cLeave c }
  | .cLeave c => hWordAt c h.x.writes h
  | .cWord c [] => h
  | .cWord c (e :: r) => hWordAt c r h
  | .cOpen c [] => h
  | .cOpen c (s :: r) => { h with st := .cOwn c (s :: r) }
  | .cOwn c [] => h
  | .cOwn c (s :: r) => hOpenAt c r h
  | .free e [] => h
  | .free e (s :: r) => hFreeAt e r h
  | .fin e => hTo K (h.job + 1) { h.ended v.num e with ends := h.ends.set h.job ⟨e, regOf h.x 0, regOf h.x 1, regOf h.x 2, regOf h.x 3⟩ }
  | .fGate => hFailOwn K h.x.held h
  | .fOwn [] => h
  | .fOwn (s :: r) => hFailOwn K r h
  | .fTake => { h with rank := v.seen + 1, st := .fStat }
  | .fStat => if 0 ≤ (if 0 < v.seen.tmod 8 then v.seen.tmod 8 - 1 else h.x.way) then { h.ended v.num 5 with st := .wait (if 0 < v.seen.tmod 8 then v.seen.tmod 8 - 1 else h.x.way) } else hRest K v.draw (h.ended v.num 5)
  | .wait win => if v.seen.tdiv 8 = 0 ∨ (0 < h.rank ∧ h.rank < v.seen.tdiv 8) then { h with st := .start } else h
  | .rest n => if n ≤ 1 then { h with st := .start } else { h with st := .rest (n - 1) }

def hRun (K : Cx) (h : Th) (l : List AnsD) : Th := l.foldl (hNext K) h

def hInit (K : Cx) : Th := hTo K 0 ⟨0, 0, [], K.jobs.map fun _ => ⟨0, 0, 0, 0, 0⟩, 0, newTS [] 0, .idle⟩

/-- What a life has to answer with. -/
def ansOf (E : Env) : List AnsD := (List.range E.seen.length).map fun i => ⟨E.seen.getD i 0, E.draws.getD i 0, E.whens.getD i 0⟩

end Go.Proofs.YtejadojilncbjaaGreat

namespace Go.Proofs.YtejadojilncbjaaGreat
set_option linter.unusedVariables false

/-! The document's life asks what the machine asks: part 1. -/

/-- The life stands where the machine stands. -/
structure Eqs (E : Env) (p : Nat) (s : LS) (x : TS) (j : Nat) (h : Th) : Prop where
  over : s.over = false
  pos : s.pos ≤ E.seen.length
  lo : p ≤ s.pos
  rank : h.rank = s.rank
  fails : h.fails = s.fails
  list : h.list = s.list
  ends : h.ends = s.ends
  x : h.x = x
  job : h.job = j

/-- From here the machine comes to F. -/
def Runs (E : Env) (F : Th) (p : Nat) (h : Th) : Prop := hRun E.cx h ((ansOf E).drop p) = F

/-- The life is over, and asks what F asks. -/
structure Over (E : Env) (F : Th) (s : LS) : Prop where
  over : s.over = true
  next : s.next = hOut E.cx F
  list : s.list = F.list
  ends : s.ends = F.ends

def ansAt (E : Env) (p : Nat) : AnsD := ⟨E.seen.getD p 0, E.draws.getD p 0, E.whens.getD p 0⟩

theorem ansOf_drop (E : Env) (p : Nat) (h : p < E.seen.length) : (ansOf E).drop p = ansAt E p :: (ansOf E).drop (p + 1) := by
  have hl : p < (ansOf E).length := by simpa [ansOf] using h
  rw [List.drop_eq_getElem_cons hl]
  congr 1
  simp [ansOf, ansAt]

theorem Eqs.ask {E : Env} {p : Nat} {F : Th} {s : LS} {x : TS} {j : Nat} {h : Th} (A : Eqs E p s x j h) (R : Runs E F s.pos h) {q : AskD} (hq : hOut E.cx h = q) :
    (∃ s', mAsk E s q = (0, s') ∧ s'.over = true ∧ Over E F s') ∨
      (∃ s', mAsk E s q = ((ansAt E s.pos).seen, s') ∧ s'.over = false ∧ s.pos < E.seen.length ∧ s'.pos = s.pos + 1 ∧ Eqs E p s' x j h ∧ Runs E F s'.pos (hNext E.cx h (ansAt E s.pos))) := by
  unfold mAsk
  rw [if_neg (by rw [A.over]; decide)]
  by_cases hp : E.seen.length ≤ s.pos
  · left
    rw [if_pos hp]
    refine ⟨_, rfl, rfl, ?_⟩
    have : F = h := by
      have e : (ansOf E).drop s.pos = [] := List.drop_eq_nil_of_le (by simpa [ansOf] using hp)
      have := R
      unfold Runs at this
      rw [e] at this
      exact this.symm
    exact ⟨rfl, by rw [this]; exact hq.symm, by rw [this]; exact A.list.symm, by rw [this]; exact A.ends.symm⟩
  · right
    rw [if_neg hp]
    refine ⟨_, rfl, A.over, by omega, rfl, ⟨A.over, by show s.pos + 1 ≤ _; omega, by have := A.lo; show p ≤ s.pos + 1; omega, A.rank, A.fails, A.list, A.ends, A.x, A.job⟩, ?_⟩
    have := R
    unfold Runs at this ⊢
    rw [ansOf_drop E s.pos (by omega)] at this
    exact this

theorem Eqs.st {E : Env} {p : Nat} {s : LS} {x : TS} {j : Nat} {h : Th} (A : Eqs E p s x j h) (a : St) : Eqs E p s x j { h with st := a } := ⟨A.over, A.pos, A.lo, A.rank, A.fails, A.list, A.ends, A.x, A.job⟩

theorem Eqs.noted {E : Env} {p : Nat} {s : LS} {x : TS} {j : Nat} {h : Th} (A : Eqs E p s x j h) (op a v : Int) : Eqs E p (mNoted s op a v) x j (h.noted op a v) :=
  ⟨A.over, A.pos, A.lo, A.rank, A.fails, by show modLast h.list _ = modLast s.list _; rw [A.list], A.ends, A.x, A.job⟩
theorem Eqs.setx {E : Env} {p : Nat} {s : LS} {x : TS} {j : Nat} {h : Th} (A : Eqs E p s x j h) (y : TS) : Eqs E p s y j { h with x := y } := ⟨A.over, A.pos, A.lo, A.rank, A.fails, A.list, A.ends, rfl, A.job⟩
theorem Eqs.put {E : Env} {p : Nat} {s : LS} {x : TS} {j : Nat} {h : Th} (A : Eqs E p s x j h) (i : InsD) (a : Int) : Eqs E p (mNoted s 8 a (regOf x i.b)) { x with writes := putEnt x.writes a (regOf x i.b) } j (hPut i a h) := by
  have := (A.setx { x with writes := putEnt x.writes a (regOf x i.b) }).noted 8 a (regOf x i.b)
  unfold hPut
  rw [A.x]
  exact this

end Go.Proofs.YtejadojilncbjaaGreat

namespace Go.Proofs.YtejadojilncbjaaGreat
set_option linter.unusedVariables false

/-! The document's life asks what the machine asks: part 2: instructions, the commit. -/

/-- One instruction more. -/
theorem hStep_begun (K : Cx) (h : Th) (hb : (hStep K h).1 = true) : (h.x.begun : Int) ≠ K.c.f ∧ (hStep K h).2.x.begun = h.x.begun + 1 := by
  unfold hStep at hb ⊢
  by_cases h1 : h.x.place = h.x.code.length
  · rw [if_pos h1] at hb; cases hb
  rw [if_neg h1] at hb ⊢
  by_cases h2 : (h.x.begun : Int) = K.c.f
  · rw [if_pos h2] at hb; cases hb
  rw [if_neg h2] at hb ⊢
  refine ⟨h2, ?_⟩
  simp only at hb ⊢
  generalize insAt h.x.code h.x.place = i at *
  by_cases h3 : formedB i h.x.code.length = false
  · rw [if_pos h3] at hb; cases hb
  rw [if_neg h3] at hb ⊢
  by_cases o0 : i.op = 0
  · rw [if_pos o0] at hb; cases hb
  rw [if_neg o0] at hb ⊢
  by_cases o1 : i.op = 1
  · rw [if_pos o1] at hb; cases hb
  rw [if_neg o1] at hb ⊢
  by_cases o2 : i.op = 2
  · rw [if_pos o2]; rfl
  rw [if_neg o2] at hb ⊢
  by_cases o3 : i.op = 3
  · rw [if_pos o3]; rfl
  rw [if_neg o3] at hb ⊢
  by_cases o4 : i.op = 4
  · rw [if_pos o4]; rfl
  rw [if_neg o4] at hb ⊢
  by_cases o5 : i.op = 5
  · rw [if_pos o5]
  rw [if_neg o5] at hb ⊢
  by_cases o6 : i.op = 6
  · rw [if_pos o6]
    show (if _ then _ else _ : TS).begun = _
    split <;> rfl
  rw [if_neg o6] at hb ⊢
  by_cases o7 : i.op = 7
  · rw [if_pos o7] at hb ⊢
    unfold hRead at hb ⊢
    simp only at hb ⊢
    split at hb
    · cases hb
    · rename_i hw
      rw [if_neg hw]
      cases hk : entIdx h.x.writes (regOf { h.x with begun := h.x.begun + 1, place := h.x.place + 1 } i.b) with
      | none => rw [hk] at hb; cases hb
      | some k => rfl
  · rw [if_neg o7] at hb ⊢
    unfold hWrite at hb ⊢
    simp only at hb ⊢
    split at hb
    · cases hb
    · rename_i hw
      rw [if_neg hw]
      split at hb
      · rename_i hh
        rw [if_pos hh]
        rfl
      · cases hb

theorem hGo_eq (K : Cx) (h : Th) (hb : (h.x.begun : Int) ≤ K.c.f) : hGo K h = if (hStep K h).1 then hGo K (hStep K h).2 else (hStep K h).2 := by
  have e : K.c.f.toNat + 1 - h.x.begun = (K.c.f.toNat - h.x.begun) + 1 := by omega
  unfold hGo
  rw [e]
  show (if (hStep K h).1 then hAdv K _ (hStep K h).2 else (hStep K h).2) = _
  by_cases hs : (hStep K h).1 = true
  · obtain ⟨h1, h2⟩ := hStep_begun K h hs
    rw [if_pos hs, if_pos hs, h2]
    congr 1
    omega
  · rw [if_neg hs, if_neg hs]

end Go.Proofs.YtejadojilncbjaaGreat

namespace Go.Proofs.YtejadojilncbjaaGreat
set_option linter.unusedVariables false

/-! The document's life asks what the machine asks: part 4: a failure, an attempt, all jobs. -/

theorem Eqs.ended {E : Env} {p : Nat} {s : LS} {x : TS} {j : Nat} {h : Th} (A : Eqs E p s x j h) (fate num : Int) (hn : num = E.whens.getD (s.pos - 1) 0) : Eqs E p (mEnded E s fate) x j (h.ended num fate) :=
  ⟨A.over, A.pos, A.lo, A.rank, A.fails, by show modLast h.list _ = modLast s.list _; rw [A.list, hn], A.ends, A.x, A.job⟩

end Go.Proofs.YtejadojilncbjaaGreat
