import Derived.Test.YtejadojilncbjaaGreatE00
import Derived.WalkKit
import Derived.ProofKit
import Derived.OpenShut
import Derived.Deep.SlicePairs
import Derived.KernelRfl
import Derived.Deep.RegionHeld3
import Derived.Deep.AppendLies
import Derived.Deep.DrawnRows
import Derived.WalkSmall
namespace Go.Proofs.YtejadojilncbjaaGreat
open Go.ChangeShapes Go.WideShapes Go.ChangeAt Go.RowKit Go.Deep
set_option linter.unusedVariables false

theorem Tryz.cells27 : Tryz.prog.cellsOf 27 = 9 := by kernel_rfl
theorem Tryz.cells23 : Tryz.prog.cellsOf 23 = 7 := by kernel_rfl
theorem Tryz.cells24 : Tryz.prog.cellsOf 24 = 1 := by kernel_rfl
theorem Tryz.cells25 : Tryz.prog.cellsOf 25 = 1 := by kernel_rfl
theorem Tryz.cells3 : Tryz.prog.cellsOf 3 = 1 := by kernel_rfl
theorem Tryz.cells66 : Tryz.prog.cellsOf 66 = 2 := by kernel_rfl
theorem Tryz.cells64 : Tryz.prog.cellsOf 64 = 1 := by kernel_rfl
theorem Tryz.cells155 : Tryz.prog.cellsOf 155 = 4 := by kernel_rfl

section
variable {H : Type} {enc : TypeId × Value → H} {w : World} {spare : Nat → Bool} {held : Bool}

theorem block_lt {w : World} {b o : Nat} {u : Value} (h : w.cell? ⟨b, o, none⟩ = some u) : b < w.heap.size := World.block_lt_of_cell? w _ h

theorem list3 {α : Type} {l : List α} (h : l.length = 3) : ∃ a b c, l = [a, b, c] := by
  match l, h with
  | [a, b, c], _ => exact ⟨a, b, c, rfl⟩
theorem list4 {α : Type} {l : List α} (h : l.length = 4) : ∃ a b c d, l = [a, b, c, d] := by
  match l, h with
  | [a, b, c, d], _ => exact ⟨a, b, c, d, rfl⟩
theorem list7 {α : Type} {l : List α} (h : l.length = 7) : ∃ a b c d e f g, l = [a, b, c, d, e, f, g] := by
  match l, h with
  | [a, b, c, d, e, f, g], _ => exact ⟨a, b, c, d, e, f, g, rfl⟩
theorem list9 {α : Type} {l : List α} (h : l.length = 9) : ∃ a b c d e f g x y, l = [a, b, c, d, e, f, g, x, y] := by
  match l, h with
  | [a, b, c, d, e, f, g, x, y], _ => exact ⟨a, b, c, d, e, f, g, x, y, rfl⟩

/-- A slice of numbers opened: its elements in a list. -/
theorem ints_open {fuel : Nat} {cs : List Value} {x : DataW H × List MemPlace} (h : DataW.trod enc Tryz.prog w 0 spare held fuel 24 cs = some x) :
    ∃ a len cap zs, cs = [.slice a len cap] ∧ zs.length = len ∧ len ≤ maxLen ∧ Ints w w.heap.size a zs ∧ ∀ z ∈ zs, (Lit.int .i64 z).wf = true := by
  rcases open_ints Tryz.underlying24 Tryz.underlying3 Tryz.cells3 h with ⟨hcs, _⟩ | ⟨x, l, c, zs, hcs, _, hl, hm, hz, _, hcell, hwz⟩
  · exact ⟨none, 0, 0, [], hcs, rfl, Nat.zero_le _, fun i hi => by simp at hi, by simp⟩
  · have hle : l ≤ zs.length := by rw [hz]; split <;> omega
    refine ⟨some x, l, c, zs.take l, hcs, by simp; omega, by omega, fun i hi => ?_, fun z hz => hwz z (List.mem_of_mem_take hz)⟩
    have hi' : i < l := by simp at hi; omega
    obtain ⟨b, off, spot⟩ := x
    have hc := hcell i (by omega)
    have hspot : spot = none := by simpa [Addr.add] using World.cell?_spot (hcell 0 (by omega))
    subst hspot
    have hc' : w.cell? ⟨b, off + i, none⟩ = some (.int .i64 (zs.getD i 0)) := by rw [add_plain] at hc; exact hc
    refine ⟨b, off, rfl, block_lt hc', ?_⟩
    rw [hc']
    simp [List.getD, hi']

/-- An instruction as it lies. -/
structure InsD where
  op : Int
  a : Int
  b : Int
  c : Int

def insAt (is : List InsD) (i : Nat) : InsD := is.getD i ⟨0, 0, 0, 0⟩

def CodeIn (w : World) (B : Nat) (a : Option Addr) (is : List InsD) : Prop :=
  ∀ i, i < is.length → ∃ b off, a = some ⟨b, off, none⟩ ∧ b < B ∧ w.cell? ⟨b, off + i * 4, none⟩ = some (.int .i64 (insAt is i).op) ∧ w.cell? ⟨b, off + i * 4 + 1, none⟩ = some (.int .i64 (insAt is i).a) ∧
    w.cell? ⟨b, off + i * 4 + 2, none⟩ = some (.int .i64 (insAt is i).b) ∧ w.cell? ⟨b, off + i * 4 + 3, none⟩ = some (.int .i64 (insAt is i).c)

def InsD.wf (i : InsD) : Prop := (Lit.int .i64 i.op).wf = true ∧ (Lit.int .i64 i.a).wf = true ∧ (Lit.int .i64 i.b).wf = true ∧ (Lit.int .i64 i.c).wf = true

/-- A code opened. -/
theorem code_open {fuel : Nat} {cs : List Value} {x : DataW H × List MemPlace} (h : DataW.trod enc Tryz.prog w 0 spare held fuel 64 cs = some x) :
    ∃ a len cap is, cs = [.slice a len cap] ∧ is.length = len ∧ len ≤ maxLen ∧ CodeIn w w.heap.size a is ∧ ∀ i ∈ is, i.wf := by
  rcases open_slice Tryz.underlying64 h with ⟨hcs, _⟩ | ⟨x, l, c, m, n, D, Pl, hcs, _, hl, hm, hmm, _, hel⟩
  · exact ⟨none, 0, 0, [], hcs, rfl, Nat.zero_le _, fun i hi => by simp at hi, by simp⟩
  · have hle : l ≤ m := by rw [hmm]; split <;> omega
    have each : ∀ i, i < l → ∃ q : InsD, q.wf ∧ w.cell? (x.add (i * 4)) = some (.int .i64 q.op) ∧ w.cell? (x.add (i * 4 + 1)) = some (.int .i64 q.a) ∧ w.cell? (x.add (i * 4 + 2)) = some (.int .i64 q.b) ∧ w.cell? (x.add (i * 4 + 3)) = some (.int .i64 q.c) := by
      intro i hi
      obtain ⟨cs', h1, h2⟩ := hel i (by omega)
      rw [Tryz.cells155] at h1
      obtain ⟨_, hlen, hcell⟩ := World.cells?_some h1
      obtain ⟨xs, k, hk, hxy, _, hxl, hf⟩ := DataW.trod_struct Tryz.underlying155 h2
      obtain ⟨y0, y1, y2, y3, rfl⟩ := list4 hxl
      obtain ⟨v0, v1, v2, v3, rfl⟩ := list4 hlen
      have g0 := hf 0 _ rfl
      have g1 := hf 1 _ rfl
      have g2 := hf 2 _ rfl
      have g3 := hf 3 _ rfl
      simp [Tryz.cells3] at g0 g1 g2 g3
      obtain ⟨n0, e0, _, w0⟩ := DataW.trod_int Tryz.underlying3 g0
      obtain ⟨n1, e1, _, w1⟩ := DataW.trod_int Tryz.underlying3 g1
      obtain ⟨n2, e2, _, w2⟩ := DataW.trod_int Tryz.underlying3 g2
      obtain ⟨n3, e3, _, w3⟩ := DataW.trod_int Tryz.underlying3 g3
      simp at e0 e1 e2 e3
      have c0 := hcell 0 (by omega)
      have c1 := hcell 1 (by omega)
      have c2 := hcell 2 (by omega)
      have c3 := hcell 3 (by omega)
      rw [add_add] at c0 c1 c2 c3
      exact ⟨⟨n0, n1, n2, n3⟩, ⟨w0, w1, w2, w3⟩, by simpa [e0] using c0, by simpa [e1] using c1, by simpa [e2] using c2, by simpa [e3] using c3⟩
    have hin : Inhabited InsD := ⟨⟨0, 0, 0, 0⟩⟩
    obtain ⟨q, hq⟩ := choose_lt each
    obtain ⟨b, off, spot⟩ := x
    refine ⟨some ⟨b, off, spot⟩, l, c, (List.range l).map q, hcs, by simp, by omega, fun i hi => ?_, fun i hi => ?_⟩
    · have hi' : i < l := by simpa using hi
      obtain ⟨_, h0, h1, h2, h3⟩ := hq i hi'
      have hspot : spot = none := by simpa [Addr.add] using World.cell?_spot (hq 0 (by omega)).2.1
      subst hspot
      rw [add_plain] at h0 h1 h2 h3
      have hat : insAt ((List.range l).map q) i = q i := by simp [insAt, List.getD, hi']
      rw [hat]
      exact ⟨b, off, rfl, block_lt h0, h0, h1, h2, h3⟩
    · obtain ⟨j, hj, rfl⟩ := List.mem_map.1 hi
      exact (hq j (by simpa using hj)).1

/-- The jobs opened: each with its code. -/
theorem jobs_open {fuel : Nat} {cs : List Value} {x : DataW H × List MemPlace} (h : DataW.trod enc Tryz.prog w 0 spare held fuel 25 cs = some x) :
    ∃ a len cap, ∃ js : List JobD, cs = [.slice a len cap] ∧ js.length = len ∧ len ≤ maxLen ∧ JobsIn w w.heap.size a js ∧
      (∀ j ∈ js, (Lit.int .i64 j.t).wf = true ∧ j.len ≤ maxLen ∧ ∃ is : List InsD, is.length = j.len ∧ CodeIn w w.heap.size j.a is ∧ ∀ i ∈ is, i.wf) := by
  rcases open_slice_pairs Tryz.underlying25 Tryz.underlying66 Tryz.cells66 rfl rfl Tryz.cells3 Tryz.cells64 h with ⟨hcs, _⟩ | ⟨x, l, c, m, n, V0, V1, D0, D1, P0, P1, hcs, _, hl, hm, hmm, _, hel⟩
  · exact ⟨none, 0, 0, [], hcs, rfl, Nat.zero_le _, fun i hi => by simp at hi, by simp⟩
  · have hle : l ≤ m := by rw [hmm]; split <;> omega
    have each : ∀ i, i < l → ∃ q : JobD, ((Lit.int .i64 q.t).wf = true ∧ q.len ≤ maxLen ∧ ∃ is : List InsD, is.length = q.len ∧ CodeIn w w.heap.size q.a is ∧ ∀ i ∈ is, i.wf) ∧
        w.cell? (x.add (i * 2)) = some (.int .i64 q.t) ∧ w.cell? (x.add (i * 2 + 1)) = some (.slice q.a q.len q.cap) := by
      intro i hi
      obtain ⟨h0, h1, h2, h3⟩ := hel i (by omega)
      obtain ⟨n0, e0, _, w0⟩ := DataW.trod_int Tryz.underlying3 h2
      obtain ⟨ca, clen, ccap, is, e1, hil, hcm, hci, hiw⟩ := code_open h3
      simp at e0 e1
      exact ⟨⟨n0, ca, clen, ccap⟩, ⟨w0, hcm, is, hil, hci, hiw⟩, by rw [h0, e0], by rw [h1, e1]⟩
    have hin : Inhabited JobD := ⟨⟨0, none, 0, 0⟩⟩
    obtain ⟨q, hq⟩ := choose_lt each
    obtain ⟨b, off, spot⟩ := x
    refine ⟨some ⟨b, off, spot⟩, l, c, (List.range l).map q, hcs, by simp, by omega, fun i hi => ?_, fun i hi => ?_⟩
    · have hi' : i < l := by simpa using hi
      obtain ⟨_, h0, h1⟩ := hq i hi'
      have hspot : spot = none := by simpa [Addr.add] using World.cell?_spot (hq 0 (by omega)).2.1
      subst hspot
      rw [add_plain] at h0 h1
      have hat : jobAt ((List.range l).map q) i = q i := by simp [jobAt, List.getD, hi']
      rw [hat]
      exact ⟨b, off, rfl, block_lt h0, h0, h1⟩
    · obtain ⟨j, hj, rfl⟩ := List.mem_map.1 hi
      exact (hq j (by simpa using hj)).1

/-- A config's seven cells. -/
theorem cfg_open {fuel : Nat} {cs : List Value} {x : DataW H × List MemPlace} (h : DataW.trod enc Tryz.prog w 0 spare held fuel 23 cs = some x) :
    ∃ t wd s g r cp f : Int, cs = [.int .i64 t, .int .i64 wd, .int .i64 s, .int .i64 g, .int .i64 r, .int .i64 cp, .int .i64 f] ∧
      (Lit.int .i64 t).wf = true ∧ (Lit.int .i64 wd).wf = true ∧ (Lit.int .i64 s).wf = true ∧ (Lit.int .i64 g).wf = true ∧ (Lit.int .i64 r).wf = true ∧ (Lit.int .i64 cp).wf = true ∧ (Lit.int .i64 f).wf = true := by
  obtain ⟨xs, k, hk, hxy, hlen, hxl, hf⟩ := DataW.trod_struct Tryz.underlying23 h
  rw [Tryz.cells23] at hlen
  obtain ⟨y0, y1, y2, y3, y4, y5, y6, rfl⟩ := list7 hxl
  obtain ⟨v0, v1, v2, v3, v4, v5, v6, rfl⟩ := list7 hlen
  have g0 := hf 0 _ rfl
  have g1 := hf 1 _ rfl
  have g2 := hf 2 _ rfl
  have g3 := hf 3 _ rfl
  have g4 := hf 4 _ rfl
  have g5 := hf 5 _ rfl
  have g6 := hf 6 _ rfl
  simp [Tryz.cells3] at g0 g1 g2 g3 g4 g5 g6
  obtain ⟨n0, e0, _, w0⟩ := DataW.trod_int Tryz.underlying3 g0
  obtain ⟨n1, e1, _, w1⟩ := DataW.trod_int Tryz.underlying3 g1
  obtain ⟨n2, e2, _, w2⟩ := DataW.trod_int Tryz.underlying3 g2
  obtain ⟨n3, e3, _, w3⟩ := DataW.trod_int Tryz.underlying3 g3
  obtain ⟨n4, e4, _, w4⟩ := DataW.trod_int Tryz.underlying3 g4
  obtain ⟨n5, e5, _, w5⟩ := DataW.trod_int Tryz.underlying3 g5
  obtain ⟨n6, e6, _, w6⟩ := DataW.trod_int Tryz.underlying3 g6
  simp at e0 e1 e2 e3 e4 e5 e6
  exact ⟨n0, n1, n2, n3, n4, n5, n6, by rw [e0, e1, e2, e3, e4, e5, e6], w0, w1, w2, w3, w4, w5, w6⟩

/-- A setup opened. -/
theorem setup_open {fuel : Nat} {cs : List Value} {x : DataW H × List MemPlace} (h : DataW.trod enc Tryz.prog w 0 spare held fuel 27 cs = some x) :
    ∃ (t wd s g r cp f : Int) (a : Option Addr) (len cap : Nat) (zs : List Int) (ja : Option Addr) (jlen jcap : Nat) (js : List JobD),
      cs = [.int .i64 t, .int .i64 wd, .int .i64 s, .int .i64 g, .int .i64 r, .int .i64 cp, .int .i64 f, .slice a len cap, .slice ja jlen jcap] ∧
      zs.length = len ∧ len ≤ maxLen ∧ Ints w w.heap.size a zs ∧ (∀ z ∈ zs, (Lit.int .i64 z).wf = true) ∧ js.length = jlen ∧ jlen ≤ maxLen ∧ JobsIn w w.heap.size ja js ∧
      (∀ j ∈ js, (Lit.int .i64 j.t).wf = true ∧ j.len ≤ maxLen ∧ ∃ is : List InsD, is.length = j.len ∧ CodeIn w w.heap.size j.a is ∧ ∀ i ∈ is, i.wf) := by
  obtain ⟨xs, k, hk, hxy, hlen, hxl, hf⟩ := DataW.trod_struct Tryz.underlying27 h
  rw [Tryz.cells27] at hlen
  obtain ⟨y0, y1, y2, rfl⟩ := list3 hxl
  obtain ⟨v0, v1, v2, v3, v4, v5, v6, v7, v8, rfl⟩ := list9 hlen
  have g0 := hf 0 _ rfl
  have g1 := hf 1 _ rfl
  have g2 := hf 2 _ rfl
  simp [Tryz.cells23, Tryz.cells24, Tryz.cells25] at g0 g1 g2
  obtain ⟨n0, n1, n2, n3, n4, n5, n6, e0, _⟩ := cfg_open g0
  obtain ⟨a, len, cap, zs, e1, h1, h2, h3, h4⟩ := ints_open g1
  obtain ⟨ja, jlen, jcap, js, e2, h5, h6, h7, h8⟩ := jobs_open g2
  simp at e0 e1 e2
  obtain ⟨rfl, rfl, rfl, rfl, rfl, rfl, rfl⟩ := e0
  subst e1 e2
  exact ⟨n0, n1, n2, n3, n4, n5, n6, a, len, cap, zs, ja, jlen, jcap, js, rfl, h1, h2, h3, h4, h5, h6, h7, h8⟩
end
end Go.Proofs.YtejadojilncbjaaGreat

namespace Go.Proofs.YtejadojilncbjaaGreat
set_option linter.unusedVariables false

/-! The document's life of a thread (package opaqueref), told in plain functions, call by call as the text has it: the word 'over' stays a flag. -/

structure NoteD where
  op : Int
  addr : Int
  val : Int

structure AttD where
  thread : Int
  job : Int
  start : Int
  fin : Int
  valid : Int
  stamp : Int
  fate : Int
  notes : List NoteD

structure ResD where
  fate : Int
  r0 : Int
  r1 : Int
  r2 : Int
  r3 : Int

structure AskD where
  kind : Int
  cell : Int
  frm : Int
  to : Int

structure EntD where
  what : Int
  val : Int

/-- What does not change while a life is told. -/
structure Env where
  c : Cfg
  me : Int
  seen : List Int
  draws : List Int
  whens : List Int
  jobs : List (Int × List InsD)

/-- What changes of a life. -/
structure LS where
  pos : Nat
  over : Bool
  next : AskD
  rank : Int
  fails : Int
  list : List AttD
  ends : List ResD

/-- An attempt while it is made. -/
structure TS where
  code : List InsD
  regs : List Int
  place : Nat
  begun : Nat
  valid : Int
  reads : List EntD
  writes : List EntD
  held : List Int
  inGate : Bool
  way : Int

def cVersion (E : Env) (s : Int) : Int := 3 + s
def cOwner (E : Env) (s : Int) : Int := 3 + E.c.s + s
def cStatus (E : Env) (t : Int) : Int := 3 + 2 * E.c.s + t
def cWord (E : Env) (a : Int) : Int := 3 + 2 * E.c.s + E.c.t + a

def mAsk (E : Env) (s : LS) (q : AskD) : Int × LS :=
  if s.over then (0, s) else if E.seen.length ≤ s.pos then (0, { s with over := true, next := q }) else (E.seen.getD s.pos 0, { s with pos := s.pos + 1 })

def mLoad (E : Env) (s : LS) (cell : Int) : Int × LS := mAsk E s ⟨1, cell, 0, 0⟩
def mStore (E : Env) (s : LS) (cell to : Int) : Int × LS := mAsk E s ⟨2, cell, 0, to⟩

def modLast (l : List AttD) (f : AttD → AttD) : List AttD := l.modify (l.length - 1) f

def mNoted (s : LS) (op addr val : Int) : LS := { s with list := modLast s.list fun a => { a with notes := a.notes ++ [⟨op, addr, val⟩] } }
def mEnded (E : Env) (s : LS) (fate : Int) : LS := { s with list := modLast s.list fun a => { a with fin := E.whens.getD (s.pos - 1) 0, fate := fate } }

def entIdx (l : List EntD) (what : Int) : Option Nat := l.findIdx? fun e => e.what == what
def idxN (o : Option Nat) : Int := match o with
  | some i => (i : Int)
  | none => -1
def heldB (x : TS) (st : Int) : Bool := x.held.any fun h => h == st

def formedB (i : InsD) (n : Int) : Bool :=
  if i.op = 0 ∨ i.op = 1 then true
  else if i.op = 2 then inB i.a 0 3 && inB i.b 0 65535
  else if i.op = 3 ∨ i.op = 4 then inB i.a 0 3 && inB i.b 0 3 && inB i.c 0 3
  else if i.op = 5 then inB i.c 0 n
  else if i.op = 6 then inB i.a 0 3 && inB i.b 0 3 && inB i.c 0 n
  else if i.op = 7 ∨ i.op = 8 then inB i.a 0 3 && inB i.b 0 3
  else false

def mStill (E : Env) (x : TS) (skip : Bool) : List EntD → LS → Int × LS
  | [], s => (0, s)
  | e :: r, s =>
    if skip && heldB x e.what then mStill E x skip r s else
      let q := mLoad E s (cVersion E e.what)
      if q.2.over then (-1, q.2) else if q.1 ≠ e.val then (5, q.2) else mStill E x skip r q.2

def mExtend (E : Env) (s : LS) (x : TS) : Int × LS × TS :=
  let q := mLoad E s 0
  if q.2.over then (-1, q.2, x) else
    let t := mStill E x false x.reads q.2
    if t.1 = 0 then (0, { t.2 with list := modLast t.2.list fun a => { a with valid := q.1 } }, { x with valid := q.1 }) else (t.1, t.2, x)

/-- (value, fate, life, attempt) -/
def mStands (E : Env) (x : TS) (a st : Int) : Nat → LS → Int × Int × LS × TS
  | 0, s => (0, -1, s, x)
  | n + 1, s =>
    if s.over then (0, -1, s, x) else
      let q1 := mLoad E s (cVersion E st)
      if q1.1 = -1 then mStands E x a st n q1.2 else
        let q2 := mLoad E q1.2 (cWord E a)
        let q3 := mLoad E q2.2 (cVersion E st)
        if q3.2.over ∨ q3.1 ≠ q1.1 then mStands E x a st n q3.2 else
          let x1 := if (entIdx x.reads st).isSome then x else { x with reads := x.reads ++ [⟨st, q1.1⟩] }
          if q1.1 ≤ x1.valid then (q2.1, 0, q3.2, x1) else
            let t := mExtend E q3.2 x1
            (q2.1, t.1, t.2.1, t.2.2)

def mGet (E : Env) (x : TS) (st : Int) : Nat → LS → Int × LS × TS
  | 0, s => (-1, s, x)
  | n + 1, s =>
    if s.over then (-1, s, x) else
      let q1 := mLoad E s (cStatus E E.me)
      if q1.2.over = false ∧ 0 < q1.1.tmod 8 then (5, q1.2, x) else
        let q2 := mAsk E q1.2 ⟨3, cOwner E st, 0, E.me + 1⟩
        if q2.2.over then (-1, q2.2, x) else
          if q2.1 = 0 then
            let x1 := { x with held := x.held ++ [st] }
            let q3 := mLoad E q2.2 (cVersion E st)
            if q3.2.over then (-1, q3.2, x1) else if x1.valid < q3.1 then mExtend E q3.2 x1 else (0, q3.2, x1)
          else if q2.2.rank = 0 then (5, q2.2, x) else
            let q3 := mLoad E q2.2 (cStatus E (q2.1 - 1))
            if q3.2.over = false ∧ 0 < q3.1.tdiv 8 ∧ q3.1.tdiv 8 < q3.2.rank then (5, q3.2, { x with way := q2.1 - 1 }) else
              mGet E x st n (if q3.1.tmod 8 = 0 then (mAsk E q3.2 ⟨3, cStatus E (q2.1 - 1), q3.1, q3.1 + E.me + 1⟩).2 else q3.2)

def loopFuel (E : Env) (s : LS) : Nat := E.seen.length - s.pos + 2

def regOf (x : TS) (i : Int) : Int := x.regs.getD i.toNat 0
def setReg (x : TS) (i v : Int) : TS := { x with regs := x.regs.set i.toNat v }

/-- the value, what became of it -/
def mReadV (E : Env) (s : LS) (x : TS) (a : Int) : Int × Int × LS × TS :=
  let st := a.tmod E.c.s
  match entIdx x.writes a with
  | some k => ((x.writes.getD k ⟨0, 0⟩).val, 0, s, x)
  | none => if heldB x st then ((mLoad E s (cWord E a)).1, 0, (mLoad E s (cWord E a)).2, x) else mStands E x a st (loopFuel E s) s

def mRead (E : Env) (s : LS) (x : TS) (i : InsD) : Int × LS × TS :=
  let a := regOf x i.b
  if E.c.wd ≤ a then (3, s, x) else
    let t := mReadV E s x a
    if t.2.2.1.over then (-1, t.2.2.1, t.2.2.2) else if t.2.1 ≠ 0 then (t.2.1, t.2.2.1, t.2.2.2) else
      (0, mNoted t.2.2.1 7 a t.1, setReg t.2.2.2 i.a t.1)

def putEnt (l : List EntD) (a v : Int) : List EntD := match entIdx l a with
  | some k => l.set k ⟨a, v⟩
  | none => l ++ [⟨a, v⟩]

/-- What follows once the stripe is held. -/
def mWrote (E : Env) (s : LS) (x : TS) (i : InsD) (a : Int) (had : Bool) : Int × LS × TS :=
  let v := regOf x i.b
  let x1 := { x with writes := putEnt x.writes a v }
  let s1 := mNoted s 8 a v
  if had = true ∨ s1.rank ≠ 0 ∨ E.c.g = 0 ∨ (x1.held.length : Int) ≠ E.c.g then (0, s1, x1) else
    let q := mAsk E s1 ⟨4, 1, 0, 0⟩
    if q.2.over then (-1, q.2, x1) else
      let s2 := { q.2 with rank := q.1 + 1 }
      let q2 := mAsk E s2 ⟨3, cStatus E E.me, 0, 8 * (q.1 + 1)⟩
      if q2.2.over then (-1, q2.2, x1) else if q2.1 ≠ 0 then (5, q2.2, x1) else (0, q2.2, x1)

def mWrite (E : Env) (s : LS) (x : TS) (i : InsD) : Int × LS × TS :=
  let a := regOf x i.a
  if E.c.wd ≤ a then (3, s, x) else
    let st := a.tmod E.c.s
    if heldB x st then mWrote E s x i a true else
      let t := mGet E x st (loopFuel E s) s
      if t.1 ≠ 0 then t else mWrote E t.2.1 t.2.2 i a false

def mStep (E : Env) (s : LS) (x : TS) : Int × LS × TS :=
  if x.place = x.code.length then (1, s, x) else if (x.begun : Int) = E.c.f then (4, s, x) else
    let i := insAt x.code x.place
    let x1 := { x with begun := x.begun + 1 }
    if formedB i x.code.length = false then (3, s, x1) else
      let x2 := { x1 with place := x.place + 1 }
      if i.op = 0 then (1, s, x2)
      else if i.op = 1 then (2, s, x2)
      else if i.op = 2 then (0, s, setReg x2 i.a i.b)
      else if i.op = 3 then (0, s, setReg x2 i.a ((regOf x2 i.b + regOf x2 i.c).tmod 65536))
      else if i.op = 4 then (0, s, setReg x2 i.a ((regOf x2 i.b + 65535 + 1 - regOf x2 i.c).tmod 65536))
      else if i.op = 5 then (0, s, { x2 with place := i.c.toNat })
      else if i.op = 6 then (0, s, if regOf x2 i.a < regOf x2 i.b then { x2 with place := i.c.toNat } else x2)
      else if i.op = 7 then mRead E s x2 i
      else mWrite E s x2 i

def mSteps (E : Env) : Nat → LS → TS → Int × LS × TS
  | 0, s, x => (0, s, x)
  | n + 1, s, x => let t := mStep E s x
    if t.1 = 0 then mSteps E n t.2.1 t.2.2 else t

def mFree (E : Env) (x : TS) (s : LS) : LS := x.held.foldl (fun s h => (mStore E s (cOwner E h) 0).2) s

def mGate (E : Env) : Nat → LS → TS → LS × TS
  | 0, s, x => (s, x)
  | n + 1, s, x => if s.over = true ∨ x.inGate = true then (s, x) else
    let q := mAsk E s ⟨3, 2, 0, E.me + 1⟩
    mGate E n q.2 { x with inGate := q.1 == 0 }

def mCommit (E : Env) (s : LS) (x : TS) : Int × LS × TS :=
  let q1 := mLoad E s (cStatus E E.me)
  if q1.2.over = false ∧ 0 < q1.1.tmod 8 then (5, q1.2, x) else
    let g := mGate E (loopFuel E q1.2) q1.2 x
    let q2 := mLoad E g.1 0
    if q2.2.over then (-1, q2.2, g.2) else
      let t := if q2.1 ≠ g.2.valid then mStill E g.2 true g.2.reads q2.2 else (0, q2.2)
      if t.1 ≠ 0 then (t.1, t.2, g.2) else
        let s1 := g.2.held.foldl (fun s h => (mStore E s (cVersion E h) (-1)).2) t.2
        let q3 := mStore E s1 0 (q2.1 + 1)
        if q3.2.over then (-1, q3.2, g.2) else
          let s2 := { q3.2 with list := modLast q3.2.list fun a => { a with stamp := q2.1 + 1 } }
          let s3 := (mStore E s2 2 0).2
          let s4 := g.2.writes.foldl (fun s e => (mStore E s (cWord E e.what) e.val).2) s3
          let s5 := g.2.held.foldl (fun s h => (mStore E (mStore E s (cVersion E h) (q2.1 + 1)).2 (cOwner E h) 0).2) s4
          (1, s5, g.2)

def mWait (E : Env) (win : Int) : Nat → LS → LS
  | 0, s => s
  | n + 1, s => if s.over then s else
    let q := mLoad E s (cStatus E win)
    if q.1.tdiv 8 = 0 ∨ (0 < q.2.rank ∧ q.2.rank < q.1.tdiv 8) then q.2 else mWait E win n q.2

def mNones (E : Env) : Nat → LS → LS
  | 0, s => s
  | n + 1, s => mNones E n (mAsk E s ⟨0, 0, 0, 0⟩).2

def mRest (E : Env) (draw : Int) (s : LS) : LS :=
  let n := if s.fails < E.c.cp then s.fails else E.c.cp
  if 0 < draw then mNones E (draw.tmod (n + 1)).toNat s else s

def mFail (E : Env) (s : LS) (x : TS) : Int × LS :=
  let s1 := if x.inGate then (mStore E s 2 0).2 else s
  let s2 := mFree E x s1
  if s2.over then (-1, s2) else
    let s3 := { s2 with fails := s2.fails + 1 }
    let s4 := if s3.rank = 0 ∧ E.c.r < s3.fails then (let q := mAsk E s3 ⟨4, 1, 0, 0⟩; { q.2 with rank := q.1 + 1 }) else s3
    let q := mStore E s4 (cStatus E E.me) (8 * s4.rank)
    if q.2.over then (-1, q.2) else
      let s5 := mEnded E q.2 5
      let win := if 0 < q.1.tmod 8 then q.1.tmod 8 - 1 else x.way
      let s6 := if 0 ≤ win then mWait E win (loopFuel E s5) s5 else mRest E (E.draws.getD (s5.pos - 1) 0) s5
      if s6.over then (-1, s6) else (5, s6)

def newTS (code : List InsD) (valid : Int) : TS := ⟨code, [0, 0, 0, 0], 0, 0, valid, [], [], [], false, -1⟩

/-- Behind the last step of an attempt: the commit, or the owners are given back. -/
def mClose (E : Env) (e : Int) (s : LS) (x : TS) : Int × LS × TS :=
  if e = 1 ∧ x.held ≠ [] then mCommit E s x else if e ≠ 5 then (e, mFree E x s, x) else (e, s, x)

def mAttempt (E : Env) (s : LS) (job : Nat) : Int × LS :=
  let q := mLoad E s 0
  if q.2.over then (-1, q.2) else
    let s1 := { q.2 with list := q.2.list ++ [⟨E.me, job, E.whens.getD (q.2.pos - 1) 0, 0, q.1, 0, 0, []⟩] }
    let t := mSteps E (E.c.f.toNat + 2) s1 (newTS (E.jobs.getD job (0, [])).2 q.1)
    if t.1 = -1 then (-1, t.2.1) else
      let u := mClose E t.1 t.2.1 t.2.2
      if u.1 = 5 then mFail E u.2.1 u.2.2 else
        let q2 := mStore E u.2.1 (cStatus E E.me) 0
        if q2.2.over then (-1, q2.2) else
          let s2 := mEnded E q2.2 u.1
          (u.1, { s2 with ends := s2.ends.set job ⟨u.1, regOf u.2.2 0, regOf u.2.2 1, regOf u.2.2 2, regOf u.2.2 3⟩ })

def mAttempts (E : Env) (job : Nat) : Nat → LS → LS
  | 0, s => s
  | n + 1, s => let t := mAttempt E s job
    if t.1 = 5 then mAttempts E job n t.2 else t.2

def mJobs (E : Env) : Nat → List (Int × List InsD) → LS → LS
  | _, [], s => s
  | j, b :: r, s => mJobs E (j + 1) r (if b.1 = E.me then mAttempts E j (loopFuel E s) { s with rank := 0, fails := 0 } else s)

def mIdle (E : Env) : Nat → LS → LS
  | 0, s => s
  | n + 1, s => if s.over then s else mIdle E n (mAsk E s ⟨0, 0, 0, 0⟩).2

def mLive (E : Env) (s : LS) : LS := let s1 := mJobs E 0 E.jobs s
  mIdle E (loopFuel E s1) s1

def newLS (E : Env) : LS := ⟨0, false, ⟨0, 0, 0, 0⟩, 0, 0, [], E.jobs.map fun _ => ⟨0, 0, 0, 0, 0⟩⟩

def mTold (E : Env) : LS := mLive E (newLS E)

end Go.Proofs.YtejadojilncbjaaGreat

namespace Go.Proofs.YtejadojilncbjaaGreat
open Go.RowKit
set_option linter.unusedVariables false

/-- Block p holds the cells cs. -/
def Blk (w : World) (p : Nat) (t : TypeId) (cs : Array Value) : Prop := w.heap[p]? = some (.cells cs t (0, 0))

theorem Blk.cell {w : World} {p : Nat} {t : TypeId} {cs : Array Value} (h : Blk w p t cs) : ∀ i, w.cell? ⟨p, i, none⟩ = cs[i]? := fun i => by
  simp [World.cell?, show w.heap[p]? = some (.cells cs t (0, 0)) from h]
theorem Blk.frozen {w : World} {p : Nat} {t : TypeId} {cs : Array Value} (h : Blk w p t cs) : ∀ i, w.frozen? ⟨p, i, none⟩ = false := fun i => by
  simp [World.frozen?, show w.heap[p]? = some (.cells cs t (0, 0)) from h]
theorem Blk.lt {w : World} {p : Nat} {t : TypeId} {cs : Array Value} (h : Blk w p t cs) : p < w.heap.size := by
  rcases Nat.lt_or_ge p w.heap.size with h' | h'
  · exact h'
  · have : w.heap[p]? = some (.cells cs t (0, 0)) := h
    rw [Array.getElem?_eq_none h'] at this; cases this
theorem Blk.ne {w : World} {p q : Nat} {t u : TypeId} {cs ds : Array Value} (h : Blk w p t cs) (k : Blk w q u ds) (hne : t ≠ u) : p ≠ q := fun e => by
  subst e
  have h1 : w.heap[p]? = some (.cells cs t (0, 0)) := h
  have h2 : w.heap[p]? = some (.cells ds u (0, 0)) := k
  rw [h1] at h2
  simp at h2
  exact hne h2.2
theorem Blk.below {w w' : World} {p B : Nat} {t : TypeId} {cs : Array Value} (h : Blk w p t cs) (hb : Below B w w') (hp : p < B) : Blk w' p t cs := (hb.block p hp).trans h
theorem Blk.drewN {w : World} {p : Nat} {t : TypeId} {cs : Array Value} (h : Blk w p t cs) (n : Nat) : Blk (w.drewN n) p t cs := h
theorem Blk.alloc {w : World} {p : Nat} {t : TypeId} {cs : Array Value} (h : Blk w p t cs) (o : Obj) : Blk (w.alloc o) p t cs := h.below ((Below.refl _ _).alloc (Nat.le_refl _) o) h.lt
theorem Blk.new (w : World) (t : TypeId) (cs : Array Value) : Blk (w.alloc (.cells cs t)) w.heap.size t cs := heap_alloc_new w _

/-- Of all blocks that were there, p alone may have turned; new ones may have come. -/
structure Only (p : Nat) (w w' : World) : Prop where
  os : w'.os = w.os
  tape : w'.tape = w.tape
  output : w'.output = w.output
  size : w.heap.size ≤ w'.heap.size
  block : ∀ k, k < w.heap.size → k ≠ p → w'.heap[k]? = w.heap[k]?

theorem Only.refl (p : Nat) (w : World) : Only p w w := ⟨rfl, rfl, rfl, Nat.le_refl _, fun _ _ _ => rfl⟩
theorem Only.trans {p : Nat} {a b c : World} (h : Only p a b) (k : Only p b c) : Only p a c :=
  ⟨k.os.trans h.os, k.tape.trans h.tape, k.output.trans h.output, Nat.le_trans h.size k.size, fun i hi hp => (k.block i (Nat.lt_of_lt_of_le hi h.size) hp).trans (h.block i hi hp)⟩
theorem Only.below {p : Nat} {w w' : World} (h : Below w.heap.size w w') : Only p w w' := ⟨h.os, h.tape, h.output, h.size, fun k hk _ => h.block k hk⟩
theorem Only.drewN {p : Nat} {w w' : World} (h : Only p w w') (n : Nat) : Only p w (w'.drewN n) := ⟨h.os, h.tape, h.output, h.size, h.block⟩
theorem Only.drew {p : Nat} {w w' : World} (h : Only p w w') : Only p w w'.drew := ⟨h.os, h.tape, h.output, h.size, h.block⟩
theorem Only.set {p i : Nat} {w w' : World} {v : Value} (h : Only p w w') : Only p w (w'.setCell ⟨p, i, none⟩ v) :=
  h.trans ⟨rfl, rfl, rfl, by simp [World.setCell], fun k _ hk => Below.heap_setCell _ _ _ _ (by simpa using hk)⟩
theorem Blk.only {w w' : World} {p q : Nat} {t : TypeId} {cs : Array Value} (h : Blk w q t cs) (ho : Only p w w') (hne : q ≠ p) : Blk w' q t cs := (ho.block q h.lt hne).trans h
theorem Blk.set {w : World} {p i : Nat} {t : TypeId} {cs : Array Value} {v : Value} (h : Blk w p t cs) : Blk (w.setCell ⟨p, i, none⟩ v) p t (cs.setIfInBounds i v) := by
  show (w.setCell ⟨p, i, none⟩ v).heap[p]? = _
  rw [setCell_eq_setRow w p i cs t (0, 0) v h]
  exact setRow_heap w p _ _ t _ h
theorem Blk.congr {w : World} {p : Nat} {t : TypeId} {cs ds : Array Value} (h : Blk w p t cs) (e : cs = ds) : Blk w p t ds := e ▸ h

end Go.Proofs.YtejadojilncbjaaGreat
