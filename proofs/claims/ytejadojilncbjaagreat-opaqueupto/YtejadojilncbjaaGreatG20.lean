import Derived.Test.YtejadojilncbjaaGreatG19
import Derived.Test.YtejadojilncbjaaGreatG04
import Derived.Laws.OwnMore
namespace Go.Proofs.YtejadojilncbjaaGreat
open Go.RowKit
set_option linter.unusedVariables false
attribute [local go_sem ↓] Go.wp_at_zero Go.wp_at_succ

/-! The program's thread in memory. -/

/-- Where its lists lie. -/
structure Ls where
  ma : Option Addr
  mc : Nat
  ra : Option Addr
  rc : Nat
  wa : Option Addr
  wc : Nat
  ha : Option Addr
  hc : Nat
  na : Option Addr
  nc : Nat
  sa : Option Addr
  sc : Nat

def tArr (t : PT) (L : Ls) : List Value :=
  [.int .i64 t.c.t, .int .i64 t.c.wd, .int .i64 t.c.s, .int .i64 t.c.g, .int .i64 t.c.r, .int .i64 t.c.cp, .int .i64 t.c.f,
    .int .i64 t.num, .slice L.ma t.mine.length L.mc, .int .i64 t.cur, .slice L.sa t.res.length L.sc, .int .i64 t.rank, .int .i64 t.fails, .int .i64 t.rest, .int .i64 t.step,
    .int .i64 t.order.kind, .int .i64 t.order.cell, .int .i64 t.order.frm, .int .i64 t.order.to,
    .int .i64 t.aTh, .int .i64 t.aJob, .int .i64 t.aStart, .int .i64 t.aEnd, .int .i64 t.valid, .int .i64 t.aStamp, .int .i64 t.aFate, .slice L.na t.notes.length L.nc,
    .int .i64 (t.m.regs.getD 0 0), .int .i64 (t.m.regs.getD 1 0), .int .i64 (t.m.regs.getD 2 0), .int .i64 (t.m.regs.getD 3 0), .int .i64 t.m.place, .int .i64 t.m.begun, .int .i64 t.m.into,
    .int .i64 t.turn.fate, .int .i64 t.turn.op, .int .i64 t.turn.addr, .int .i64 t.turn.val,
    .slice L.ra t.reads.length L.rc, .slice L.wa t.writes.length L.wc, .slice L.ha t.held.length L.hc,
    .int .i64 t.version, .int .i64 t.value, .int .i64 t.rival, .int .i64 t.wayTo, .int .i64 t.clock, .int .i64 t.at_]

/-- The thread lies at place z of block p. -/
def TAt (w : World) (p z : Nat) (A B : List Value) (t : PT) (L : Ls) : Prop := Seg w p z 119 A B (tArr t L)

theorem TAt.cell {w : World} {p z : Nat} {A B : List Value} {t : PT} {L : Ls} (h : TAt w p z A B t L) (i : Nat) (hi : i < 47) : w.cell? ⟨p, z + i, none⟩ = (tArr t L)[i]? := Seg.cell h i hi
theorem TAt.set {w : World} {p z : Nat} {A B : List Value} {t t' : PT} {L L' : Ls} (h : TAt w p z A B t L) (i : Nat) (hi : i < 47) (v : Value) (e : (tArr t L).set i v = tArr t' L') : TAt (w.setCell ⟨p, z + i, none⟩ v) p z A B t' L' :=
  (Seg.set h i hi v).congr e
theorem TAt.froz {w : World} {p z : Nat} {A B : List Value} {t : PT} {L : Ls} (h : TAt w p z A B t L) (i : Nat) : w.frozen? ⟨p, i, none⟩ = false := Seg.frozen h i
theorem TAt.lt {w : World} {p z : Nat} {A B : List Value} {t : PT} {L : Ls} (h : TAt w p z A B t L) : p < w.heap.size := Seg.lt h
theorem TAt.below {w w' : World} {p z : Nat} {A B : List Value} {t : PT} {L : Ls} (h : TAt w p z A B t L) (hb : Below w.heap.size w w') : TAt w' p z A B t L := Seg.below h hb (Seg.lt h)
theorem TAt.drewN {w : World} {p z : Nat} {A B : List Value} {t : PT} {L : Ls} (h : TAt w p z A B t L) (n : Nat) : TAt (w.drewN n) p z A B t L := Seg.drewN h n

section
variable {w : World} {p z : Nat} {A B : List Value} {t : PT} {L : Ls}
theorem TAt.cT (h : TAt w p z A B t L) : w.cell? ⟨p, z, none⟩ = some (.int .i64 t.c.t) := Seg.cell h 0 (show 0 < 47 by decide)
theorem TAt.cWd (h : TAt w p z A B t L) : w.cell? ⟨p, z + 1, none⟩ = some (.int .i64 t.c.wd) := h.cell 1 (by decide)
theorem TAt.cS (h : TAt w p z A B t L) : w.cell? ⟨p, z + 2, none⟩ = some (.int .i64 t.c.s) := h.cell 2 (by decide)
theorem TAt.cG (h : TAt w p z A B t L) : w.cell? ⟨p, z + 3, none⟩ = some (.int .i64 t.c.g) := h.cell 3 (by decide)
theorem TAt.cR (h : TAt w p z A B t L) : w.cell? ⟨p, z + 4, none⟩ = some (.int .i64 t.c.r) := h.cell 4 (by decide)
theorem TAt.cCp (h : TAt w p z A B t L) : w.cell? ⟨p, z + 5, none⟩ = some (.int .i64 t.c.cp) := h.cell 5 (by decide)
theorem TAt.cF (h : TAt w p z A B t L) : w.cell? ⟨p, z + 6, none⟩ = some (.int .i64 t.c.f) := h.cell 6 (by decide)
theorem TAt.cNum (h : TAt w p z A B t L) : w.cell? ⟨p, z + 7, none⟩ = some (.int .i64 t.num) := h.cell 7 (by decide)
theorem TAt.cCur (h : TAt w p z A B t L) : w.cell? ⟨p, z + 9, none⟩ = some (.int .i64 t.cur) := h.cell 9 (by decide)
theorem TAt.cRank (h : TAt w p z A B t L) : w.cell? ⟨p, z + 11, none⟩ = some (.int .i64 t.rank) := h.cell 11 (by decide)
theorem TAt.cFails (h : TAt w p z A B t L) : w.cell? ⟨p, z + 12, none⟩ = some (.int .i64 t.fails) := h.cell 12 (by decide)
theorem TAt.cRest (h : TAt w p z A B t L) : w.cell? ⟨p, z + 13, none⟩ = some (.int .i64 t.rest) := h.cell 13 (by decide)
theorem TAt.cStep (h : TAt w p z A B t L) : w.cell? ⟨p, z + 14, none⟩ = some (.int .i64 t.step) := h.cell 14 (by decide)
theorem TAt.cKind (h : TAt w p z A B t L) : w.cell? ⟨p, z + 15, none⟩ = some (.int .i64 t.order.kind) := h.cell 15 (by decide)
theorem TAt.cCell (h : TAt w p z A B t L) : w.cell? ⟨p, z + 15 + 1, none⟩ = some (.int .i64 t.order.cell) := h.cell 16 (by decide)
theorem TAt.cFrm (h : TAt w p z A B t L) : w.cell? ⟨p, z + 15 + 2, none⟩ = some (.int .i64 t.order.frm) := h.cell 17 (by decide)
theorem TAt.cTo (h : TAt w p z A B t L) : w.cell? ⟨p, z + 15 + 3, none⟩ = some (.int .i64 t.order.to) := h.cell 18 (by decide)
theorem TAt.cFate (h : TAt w p z A B t L) : w.cell? ⟨p, z + 19 + 15, none⟩ = some (.int .i64 t.turn.fate) := h.cell 34 (by decide)
theorem TAt.cOp (h : TAt w p z A B t L) : w.cell? ⟨p, z + 19 + 15 + 1, none⟩ = some (.int .i64 t.turn.op) := h.cell 35 (by decide)
theorem TAt.cAddr (h : TAt w p z A B t L) : w.cell? ⟨p, z + 19 + 15 + 2, none⟩ = some (.int .i64 t.turn.addr) := h.cell 36 (by decide)
theorem TAt.cVal (h : TAt w p z A B t L) : w.cell? ⟨p, z + 19 + 15 + 3, none⟩ = some (.int .i64 t.turn.val) := h.cell 37 (by decide)
theorem TAt.cValid (h : TAt w p z A B t L) : w.cell? ⟨p, z + 19 + 4, none⟩ = some (.int .i64 t.valid) := h.cell 23 (by decide)
theorem TAt.cVersion (h : TAt w p z A B t L) : w.cell? ⟨p, z + 19 + 22, none⟩ = some (.int .i64 t.version) := h.cell 41 (by decide)
theorem TAt.cValue (h : TAt w p z A B t L) : w.cell? ⟨p, z + 19 + 23, none⟩ = some (.int .i64 t.value) := h.cell 42 (by decide)
theorem TAt.cRival (h : TAt w p z A B t L) : w.cell? ⟨p, z + 19 + 24, none⟩ = some (.int .i64 t.rival) := h.cell 43 (by decide)
theorem TAt.cWay (h : TAt w p z A B t L) : w.cell? ⟨p, z + 19 + 25, none⟩ = some (.int .i64 t.wayTo) := h.cell 44 (by decide)
theorem TAt.cClock (h : TAt w p z A B t L) : w.cell? ⟨p, z + 19 + 26, none⟩ = some (.int .i64 t.clock) := h.cell 45 (by decide)
theorem TAt.cAt (h : TAt w p z A B t L) : w.cell? ⟨p, z + 19 + 27, none⟩ = some (.int .i64 t.at_) := h.cell 46 (by decide)
theorem TAt.cEnd (h : TAt w p z A B t L) : w.cell? ⟨p, z + 19 + 3, none⟩ = some (.int .i64 t.aEnd) := h.cell 22 (by decide)
theorem TAt.cStamp (h : TAt w p z A B t L) : w.cell? ⟨p, z + 19 + 5, none⟩ = some (.int .i64 t.aStamp) := h.cell 24 (by decide)
theorem TAt.cAFate (h : TAt w p z A B t L) : w.cell? ⟨p, z + 19 + 6, none⟩ = some (.int .i64 t.aFate) := h.cell 25 (by decide)
theorem TAt.cNotes (h : TAt w p z A B t L) : w.cell? ⟨p, z + 19 + 7, none⟩ = some (.slice L.na t.notes.length L.nc) := h.cell 26 (by decide)
theorem TAt.cRes (h : TAt w p z A B t L) : w.cell? ⟨p, z + 10, none⟩ = some (.slice L.sa t.res.length L.sc) := h.cell 10 (by decide)
theorem TAt.cMine (h : TAt w p z A B t L) : w.cell? ⟨p, z + 8, none⟩ = some (.slice L.ma t.mine.length L.mc) := h.cell 8 (by decide)
theorem TAt.cReads (h : TAt w p z A B t L) : w.cell? ⟨p, z + 19 + 19, none⟩ = some (.slice L.ra t.reads.length L.rc) := h.cell 38 (by decide)
theorem TAt.cWrites (h : TAt w p z A B t L) : w.cell? ⟨p, z + 19 + 20, none⟩ = some (.slice L.wa t.writes.length L.wc) := h.cell 39 (by decide)
theorem TAt.cHeld (h : TAt w p z A B t L) : w.cell? ⟨p, z + 19 + 21, none⟩ = some (.slice L.ha t.held.length L.hc) := h.cell 40 (by decide)
end

/-- What a call of the thread's leaves: nothing to tell, the thread as it is then, all other blocks as they were. -/
def DidT (p z : Nat) (A B : List Value) (t : PT) (L : Ls) (w : World) (e : Ending) (w' : World) : Prop := e = .returned (.tuple #[]) ∧ TAt w' p z A B t L ∧ Only p w w'

set_option maxHeartbeats 1000000 in
theorem t_load (p z : Nat) (A B : List Value) (t : PT) (L : Ls) (step cell : Int) (w : World) (hb : TAt w p z A B t L) :
    Calls Tryz.prog 103 #[.pointer (some ⟨p, z, none⟩), .int .i64 step, .int .i64 cell] w (DidT p z A B (yLoad step cell t) L w) := by
  have h13 := hb.cStep
  have h14 := hb.cKind
  have h15 := hb.cCell
  have h16 := hb.cFrm
  have h17 := hb.cTo
  have hf := hb.froz
  have HB : Hid (TAt w p z A B t L) := hb
  clear hb
  go_enter Tryz.func103, Tryz.ntmps103
  go_wp2
  go_end0
  exact ⟨rfl, ((((((HB.out).set (t' := { t with step := step }) 14 (by decide) _ rfl).set (t' := { t with step := step, order := ⟨1, t.order.cell, t.order.frm, t.order.to⟩ }) 15 (by decide) _ rfl).set (t' := { t with step := step, order := ⟨1, cell, t.order.frm, t.order.to⟩ }) 16 (by decide) _ rfl).set (t' := { t with step := step, order := ⟨1, cell, 0, t.order.to⟩ }) 17 (by decide) _ rfl).set (t' := { t with step := step, order := ⟨1, cell, 0, 0⟩ }) 18 (by decide) _ rfl), (((((Only.refl _ _).set).set).set).set).set⟩

set_option maxHeartbeats 1000000 in
theorem t_store (p z : Nat) (A B : List Value) (t : PT) (L : Ls) (step cell put : Int) (w : World) (hb : TAt w p z A B t L) :
    Calls Tryz.prog 145 #[.pointer (some ⟨p, z, none⟩), .int .i64 step, .int .i64 cell, .int .i64 put] w (DidT p z A B (yStore step cell put t) L w) := by
  have h13 := hb.cStep
  have h14 := hb.cKind
  have h15 := hb.cCell
  have h16 := hb.cFrm
  have h17 := hb.cTo
  have hf := hb.froz
  have HB : Hid (TAt w p z A B t L) := hb
  clear hb
  go_enter Tryz.func145, Tryz.ntmps145
  go_wp2
  go_end0
  exact ⟨rfl, ((((((HB.out).set (t' := { t with step := step }) 14 (by decide) _ rfl).set (t' := { t with step := step, order := ⟨2, t.order.cell, t.order.frm, t.order.to⟩ }) 15 (by decide) _ rfl).set (t' := { t with step := step, order := ⟨2, cell, t.order.frm, t.order.to⟩ }) 16 (by decide) _ rfl).set (t' := { t with step := step, order := ⟨2, cell, 0, t.order.to⟩ }) 17 (by decide) _ rfl).set (t' := { t with step := step, order := ⟨2, cell, 0, put⟩ }) 18 (by decide) _ rfl), (((((Only.refl _ _).set).set).set).set).set⟩

set_option maxHeartbeats 1000000 in
theorem t_swap (p z : Nat) (A B : List Value) (t : PT) (L : Ls) (step cell frm put : Int) (w : World) (hb : TAt w p z A B t L) :
    Calls Tryz.prog 131 #[.pointer (some ⟨p, z, none⟩), .int .i64 step, .int .i64 cell, .int .i64 frm, .int .i64 put] w (DidT p z A B (ySwap step cell frm put t) L w) := by
  have h13 := hb.cStep
  have h14 := hb.cKind
  have h15 := hb.cCell
  have h16 := hb.cFrm
  have h17 := hb.cTo
  have hf := hb.froz
  have HB : Hid (TAt w p z A B t L) := hb
  clear hb
  go_enter Tryz.func131, Tryz.ntmps131
  go_wp2
  go_end0
  exact ⟨rfl, ((((((HB.out).set (t' := { t with step := step }) 14 (by decide) _ rfl).set (t' := { t with step := step, order := ⟨3, t.order.cell, t.order.frm, t.order.to⟩ }) 15 (by decide) _ rfl).set (t' := { t with step := step, order := ⟨3, cell, t.order.frm, t.order.to⟩ }) 16 (by decide) _ rfl).set (t' := { t with step := step, order := ⟨3, cell, frm, t.order.to⟩ }) 17 (by decide) _ rfl).set (t' := { t with step := step, order := ⟨3, cell, frm, put⟩ }) 18 (by decide) _ rfl), (((((Only.refl _ _).set).set).set).set).set⟩

set_option maxHeartbeats 1000000 in
theorem t_take (p z : Nat) (A B : List Value) (t : PT) (L : Ls) (step cell : Int) (w : World) (hb : TAt w p z A B t L) :
    Calls Tryz.prog 166 #[.pointer (some ⟨p, z, none⟩), .int .i64 step, .int .i64 cell] w (DidT p z A B (yTake step cell t) L w) := by
  have h13 := hb.cStep
  have h14 := hb.cKind
  have h15 := hb.cCell
  have h16 := hb.cFrm
  have h17 := hb.cTo
  have hf := hb.froz
  have HB : Hid (TAt w p z A B t L) := hb
  clear hb
  go_enter Tryz.func166, Tryz.ntmps166
  go_wp2
  go_end0
  exact ⟨rfl, ((((((HB.out).set (t' := { t with step := step }) 14 (by decide) _ rfl).set (t' := { t with step := step, order := ⟨4, t.order.cell, t.order.frm, t.order.to⟩ }) 15 (by decide) _ rfl).set (t' := { t with step := step, order := ⟨4, cell, t.order.frm, t.order.to⟩ }) 16 (by decide) _ rfl).set (t' := { t with step := step, order := ⟨4, cell, 0, t.order.to⟩ }) 17 (by decide) _ rfl).set (t' := { t with step := step, order := ⟨4, cell, 0, 0⟩ }) 18 (by decide) _ rfl), (((((Only.refl _ _).set).set).set).set).set⟩

end Go.Proofs.YtejadojilncbjaaGreat

namespace Go.Proofs.YtejadojilncbjaaGreat
open Go.RowKit
set_option linter.unusedVariables false
attribute [local go_sem ↓] Go.wp_at_zero Go.wp_at_succ

structure TOkF (c : Cfg) (num : Int) (mine : List Int) (cur : Nat) (rank fails : Int) (reads writes : List EntD) (held : List Int) (notes : List NoteD) (res : List ResD) : Prop where
  cfg : cfgB c = true
  num : 0 ≤ num ∧ num < c.t
  rank : 0 ≤ rank ∧ rank ≤ 2 ^ 40
  fails : 0 ≤ fails ∧ fails ≤ 2 ^ 40
  rd : ∀ e ∈ reads, 0 ≤ e.what ∧ e.what < c.s
  wr : ∀ e ∈ writes, 0 ≤ e.what ∧ e.what < c.wd
  hd : ∀ s ∈ held, 0 ≤ s ∧ s < c.s
  rl : reads.length ≤ 100
  wl : writes.length ≤ 100
  hl : held.length ≤ 100
  ml : mine.length ≤ 100
  cur : cur ≤ 200
  nl : notes.length ≤ 2 ^ 37
  sl : res.length ≤ 200
/-- The thread's numbers are within their bounds. -/
def TOk (t : PT) : Prop := TOkF t.c t.num t.mine t.cur t.rank t.fails t.reads t.writes t.held t.notes t.res

theorem TOkF.cb {c : Cfg} {num : Int} {mine : List Int} {cur : Nat} {rank fails : Int} {reads writes : List EntD} {held : List Int} {notes : List NoteD} {res : List ResD} (h : TOkF c num mine cur rank fails reads writes held notes res) : (1 ≤ c.t ∧ c.t ≤ 4) ∧ (1 ≤ c.wd ∧ c.wd ≤ 8) ∧ (1 ≤ c.s ∧ c.s ≤ 8) ∧ (0 ≤ c.g ∧ c.g ≤ 8) ∧ (0 ≤ c.r ∧ c.r ≤ 4) ∧ (0 ≤ c.cp ∧ c.cp ≤ 8) ∧ (1 ≤ c.f ∧ c.f ≤ 40) := cfgB_true h.cfg

def intCells (l : List Int) : List Value := l.map (.int .i64 ·)

/-- The thread and its lists. -/
structure TR (base p z : Nat) (A B : List Value) (w : World) (t : PT) (L : Ls) : Prop where
  tt : TAt w p z A B t L
  rd : w.ownsRow base 175 2 (.slice L.ra t.reads.length L.rc) t.reads.length (t.reads.flatMap entCells)
  wr : w.ownsRow base 180 2 (.slice L.wa t.writes.length L.wc) t.writes.length (t.writes.flatMap entCells)
  hd : w.ownsRow base 3 1 (.slice L.ha t.held.length L.hc) t.held.length (intCells t.held)
  mi : w.ownsRow base 3 1 (.slice L.ma t.mine.length L.mc) t.mine.length (intCells t.mine)
  ne : ∀ k, (Value.slice L.ha t.held.length L.hc).ownBlock = some k → (Value.slice L.ma t.mine.length L.mc).ownBlock ≠ some k
  nt : w.ownsRow base 95 3 (.slice L.na t.notes.length L.nc) t.notes.length (t.notes.flatMap noteCells)
  sr : w.ownsRow base 84 5 (.slice L.sa t.res.length L.sc) t.res.length (t.res.flatMap resCells)

theorem ownsRow_only {w w' : World} {p base : Nat} {e : TypeId} {size n : Nat} {v : Value} {xs : List Value} (h : w.ownsRow base e size v n xs) (ho : Only p w w') (hne : ∀ k, v.ownBlock = some k → k ≠ p) : w'.ownsRow base e size v n xs := by
  refine ⟨h.1, ?_⟩
  rcases h.2 with hn | ⟨g, cap, cur, rfl, hb, hg, rest⟩
  · exact .inl hn
  · exact .inr ⟨g, cap, cur, rfl, hb, (ho.block g (lt_of_heap hg) (hne g (by simp [Value.ownBlock]))).trans hg, rest⟩

theorem own_tag {w : World} {p base : Nat} {e T : TypeId} {size n : Nat} {v : Value} {xs : List Value} {cs : Array Value} (h : w.ownsRow base e size v n xs) (hp : Blk w p T cs) (ht : e ≠ T) : ∀ k, v.ownBlock = some k → k ≠ p := by
  intro k hk
  rcases h.2 with ⟨rfl, _⟩ | ⟨g, cap, cur, rfl, hb, hg, rest⟩
  · simp [Value.ownBlock] at hk
  · simp [Value.ownBlock] at hk
    subst hk
    exact Blk.ne hg hp ht

theorem TR.next {base p z : Nat} {A B : List Value} {w w' : World} {t t' : PT} {L : Ls} (R : TR base p z A B w t L) (h : TAt w' p z A B t' L) (ho : Only p w w') (h1 : t'.reads = t.reads) (h2 : t'.writes = t.writes) (h3 : t'.held = t.held) (h4 : t'.mine = t.mine) (h5 : t'.notes = t.notes) (h6 : t'.res = t.res) : TR base p z A B w' t' L := by
  have hp := R.tt.2
  refine ⟨h, ?_, ?_, ?_, ?_, ?_, ?_, ?_⟩
  · rw [h1]; exact ownsRow_only R.rd ho (own_tag R.rd hp (by decide))
  · rw [h2]; exact ownsRow_only R.wr ho (own_tag R.wr hp (by decide))
  · rw [h3]; exact ownsRow_only R.hd ho (own_tag R.hd hp (by decide))
  · rw [h4]; exact ownsRow_only R.mi ho (own_tag R.mi hp (by decide))
  · rw [h3, h4]; exact R.ne
  · rw [h5]; exact ownsRow_only R.nt ho (own_tag R.nt hp (by decide))
  · rw [h6]; exact ownsRow_only R.sr ho (own_tag R.sr hp (by decide))
theorem TR.below {base p z : Nat} {A B : List Value} {w w' : World} {t : PT} {L : Ls} (R : TR base p z A B w t L) (hb : Below w.heap.size w w') : TR base p z A B w' t L := R.next (R.tt.below hb) (Only.below hb) rfl rfl rfl rfl rfl rfl
theorem TR.drewN {base p z : Nat} {A B : List Value} {w : World} {t : PT} {L : Ls} (R : TR base p z A B w t L) (n : Nat) : TR base p z A B (w.drewN n) t L := ⟨R.tt.drewN n, R.rd, R.wr, R.hd, R.mi, R.ne, R.nt, R.sr⟩

theorem ents_at {w : World} {base : Nat} {e : TypeId} {a : Option Addr} {c : Nat} {es : List EntD} (h : w.ownsRow base e 2 (.slice a es.length c) es.length (es.flatMap entCells)) : EntsIn w a es := by
  intro i hi
  obtain ⟨g, cap, cur, hv, hb, hg, h1, h2, h3, h4⟩ := own_block h (by omega)
  simp at hv
  obtain ⟨rfl, rfl⟩ := hv
  have hat : ∀ j, j < 2 → w.cell? ⟨g, i * 2 + j, none⟩ = (entCells (es.getD i ⟨0, 0⟩))[j]? := by
    intro j hj
    rw [hg.cell]
    have e1 : (es.flatMap entCells)[i * 2 + j]? = (entCells (es.getD i ⟨0, 0⟩))[j]? := by
      rw [flat_at (n := 2) (fun _ => rfl) es i j hj]
      simp [List.getElem?_eq_getElem hi]
    rw [← e1, ← h4, List.getElem?_take, if_pos (by omega), Array.getElem?_toList]
  refine ⟨g, rfl, ?_, ?_, hg.frozen _⟩
  · have := hat 0 (by omega); simpa [entCells] using this
  · have := hat 1 (by omega); simpa [entCells] using this

theorem nums_at {w : World} {base : Nat} {e : TypeId} {a : Option Addr} {c : Nat} {zs : List Int} (h : w.ownsRow base e 1 (.slice a zs.length c) zs.length (intCells zs)) : NumsIn w a zs := by
  intro i hi
  obtain ⟨g, cap, cur, hv, hb, hg, h1, h2, h3, h4⟩ := own_block h (by omega)
  simp at hv
  obtain ⟨rfl, rfl⟩ := hv
  refine ⟨g, rfl, ?_⟩
  rw [hg.cell]
  have e1 : (intCells zs)[i]? = some (.int .i64 (zs.getD i 0)) := by simp [intCells, List.getElem?_eq_getElem hi]
  rw [← e1, ← h4, List.getElem?_take, if_pos (by omega), Array.getElem?_toList]

/-! Small calls. -/

theorem below_drewX (w : World) (n : Nat) : Below w.heap.size w (w.drewN n) := ⟨rfl, rfl, rfl, Nat.le_refl _, fun _ _ => rfl⟩
theorem of_drew {w w' : World} (h : Below w.drew.heap.size w.drew w') : Below w.heap.size w w' := ⟨h.os, h.tape, h.output, h.size, h.block⟩
theorem tdiv8w (v : Int) (h1 : -1 ≤ v) (h2 : v ≤ 1125899906842624) : wrap64 (v.tdiv 8) = v.tdiv 8 := by
  have : v.tdiv 8 ≤ 1125899906842624 ∧ -1 ≤ v.tdiv 8 := by
    rcases Int.lt_or_le v 0 with h | h
    · have : v = -1 := by omega
      subst this; decide
    · rw [Int.tdiv_eq_ediv_of_nonneg h]; omega
  unfold wrap64
  omega

theorem t_rankIn (v : Int) (w : World) (h1 : -1 ≤ v) (h2 : v ≤ 1125899906842624) : Calls Tryz.prog 155 #[.int .i64 v] w fun e w' => e = .returned (.int .i64 (v.tdiv 8)) ∧ w' = w := by
  have e1 := tdiv8w v h1 h2
  go_enter Tryz.func155, Tryz.ntmps155
  go_wp2
  go_ret
  exact ⟨rfl, rfl⟩
theorem t_markIn (v : Int) (w : World) : Calls Tryz.prog 152 #[.int .i64 v] w fun e w' => e = .returned (.int .i64 (v.tmod 8)) ∧ w' = w := by
  go_enter Tryz.func152, Tryz.ntmps152
  go_wp2
  go_ret
  exact ⟨rfl, rfl⟩
theorem t_marked (v : Int) (w : World) : Calls Tryz.prog 129 #[.int .i64 v] w fun e w' => e = .returned (.bool (v.tmod 8 != 0)) ∧ w' = w := by
  go_enter Tryz.func129, Tryz.ntmps129
  go_wp2_with (go_at_call 152; refine (t_markIn _ _).mono ?_; rintro e w' ⟨rfl, rfl⟩)
  go_ret
  exact ⟨rfl, rfl⟩

section
variable (p z : Nat) (A B : List Value) (t : PT) (L : Ls) (w : World)

theorem t_name (hb : TAt w p z A B t L) (ok : TOk t) : Calls Tryz.prog 133 #[.pointer (some ⟨p, z, none⟩)] w fun e w' => e = .returned (.int .i64 (t.num + 1)) ∧ w' = w := by
  have h7 := hb.cNum
  have := ok.num
  have := ok.cb.1
  have e1 : IntKind.i64.wrap (t.num + 1) = t.num + 1 := wrapP _ (by omega) (by omega)
  clear hb
  go_enter Tryz.func133, Tryz.ntmps133
  go_wp2
  go_ret
  exact ⟨rfl, rfl⟩

theorem t_stamp (hb : TAt w p z A B t L) (h1 : -1 ≤ t.clock) (h2 : t.clock ≤ 2 ^ 50) : Calls Tryz.prog 144 #[.pointer (some ⟨p, z + 19, none⟩)] w fun e w' => e = .returned (.int .i64 (t.clock + 1)) ∧ w' = w := by
  have h7 := hb.cClock
  have e1 : IntKind.i64.wrap (t.clock + 1) = t.clock + 1 := wrapP _ (by omega) (by omega)
  clear hb
  go_enter Tryz.func144, Tryz.ntmps144
  go_wp2
  go_ret
  exact ⟨rfl, rfl⟩

set_option maxHeartbeats 1000000 in
theorem t_stripe (hb : TAt w p z A B t L) (ok : TOk t) : Calls Tryz.prog 127 #[.pointer (some ⟨p, z, none⟩)] w fun e w' => e = .returned (.int .i64 t.stripe) ∧ ∃ n, w' = w.drewN n := by
  have h27 := hb.cAddr
  have h2 := hb.cS
  have hs := ok.cb.2.2.1
  have hs0 : t.c.s ≠ 0 := by omega
  have hs1 : (t.c.s == 0) = false := by simp; omega
  unfold PT.stripe
  clear hb hs
  go_enter Tryz.func127, Tryz.ntmps127
  go_wp2
  go_quiet (fail)
  go_wp2
  go_ret
  exact ⟨rfl, _, rfl⟩

set_option maxHeartbeats 1000000 in
theorem t_ownStatus (hb : TAt w p z A B t L) (ok : TOk t) : Calls Tryz.prog 140 #[.pointer (some ⟨p, z, none⟩)] w fun e w' => e = .returned (.int .i64 t.sta) ∧ Below w.heap.size w w' := by
  have h0 := hb.cT
  have h1 := hb.cWd
  have h2 := hb.cS
  have h3 := hb.cG
  have h4 := hb.cR
  have h5 := hb.cCp
  have h6 := hb.cF
  have h7 := hb.cNum
  have hn := ok.num
  obtain ⟨ht, _, hs, _⟩ := ok.cb
  have HS : Hid (∀ w1, Calls Tryz.prog 168 #[.agg #[.int .i64 t.c.t, .int .i64 t.c.wd, .int .i64 t.c.s, .int .i64 t.c.g, .int .i64 t.c.r, .int .i64 t.c.cp, .int .i64 t.c.f], .int .i64 t.num] w1 fun e w' => e = .returned (.int .i64 t.sta) ∧ Below w1.heap.size w1 w') :=
    fun w1 => status_any t.c ⟨t.c, 0, []⟩ rfl t.num w1 (by omega) (by omega) (by omega) (by omega)
  clear hb ok hn ht hs
  go_enter Tryz.func140, Tryz.ntmps140
  go_wp2_with fail
  go_region_with (go_at_call 168; refine (HS.out _).mono ?_; rintro e w1 ⟨rfl, hB⟩)
  all_goals
    go_wp2
    go_ret
    exact ⟨rfl, by first | assumption | exact of_drew (by assumption)⟩

set_option maxHeartbeats 1000000 in
theorem t_statusOf (hb : TAt w p z A B t L) (ok : TOk t) (u : Int) (h1 : 0 ≤ u) (h2 : u ≤ 100) : Calls Tryz.prog 153 #[.pointer (some ⟨p, z, none⟩), .int .i64 u] w fun e w' => e = .returned (.int .i64 (t.staOf u)) ∧ Below w.heap.size w w' := by
  have h0 := hb.cT
  have h1' := hb.cWd
  have h2' := hb.cS
  have h3 := hb.cG
  have h4 := hb.cR
  have h5 := hb.cCp
  have h6 := hb.cF
  obtain ⟨ht, _, hs, _⟩ := ok.cb
  have HS : Hid (∀ w1, Calls Tryz.prog 168 #[.agg #[.int .i64 t.c.t, .int .i64 t.c.wd, .int .i64 t.c.s, .int .i64 t.c.g, .int .i64 t.c.r, .int .i64 t.c.cp, .int .i64 t.c.f], .int .i64 (u - 1)] w1 fun e w' => e = .returned (.int .i64 (t.staOf u)) ∧ Below w1.heap.size w1 w') :=
    fun w1 => status_any t.c ⟨t.c, 0, []⟩ rfl (u - 1) w1 (by omega) (by omega) (by omega) (by omega)
  have e1 : IntKind.i64.wrap (u - 1) = u - 1 := wrapP _ (by omega) (by omega)
  clear hb ok ht hs h1 h2
  go_enter Tryz.func153, Tryz.ntmps153
  go_wp2_with (go_at_call 168; refine (HS.out _).mono ?_; rintro e w1 ⟨rfl, hB⟩)
  go_ret
  exact ⟨rfl, by assumption⟩

set_option maxHeartbeats 1000000 in
theorem t_holds (hb : TAt w p z A B t L) (hl : t.held.length ≤ 100) (h : NumsIn w L.ha t.held) (s : Int) : Calls Tryz.prog 169 #[.pointer (some ⟨p, z + 19, none⟩), .int .i64 s] w fun e w' => e = .returned (.bool (t.holds s)) ∧ w' = w := by
  have hc := hb.cHeld
  have HI : Hid (NumsIn w L.ha t.held) := h
  unfold PT.holds
  generalize L.ha = ha at *
  generalize L.hc = cap at *
  generalize t.held = held at *
  clear hb h
  go_enter Tryz.func169, Tryz.ntmps169
  go_wp2
  go_loop [12] (fun i => ∃ k : Nat, k ≤ held.length ∧ i = .int .i64 k ∧ Hid (∀ j, j < k → (held.getD j 0 == s) = false)) (fun i => held.length - (intOf i).toNat)
  case atStart => exact ⟨0, Nat.zero_le _, rfl, fun j hj => absurd hj (by omega)⟩
  case round =>
    obtain ⟨k, hk, rfl, HA⟩ := hrel
    by_cases hlt : k < held.length
    · obtain ⟨b, rfl, hc1⟩ := HI.out k hlt
      obtain ⟨v, hv⟩ : ∃ v, v = held.getD k 0 := ⟨_, rfl⟩
      rw [← hv] at hc1
      have HZ : Hid (v = held.getD k 0) := hv
      clear hv
      cases hin : (v == s) with
      | false =>
        have H1 : Hid (∀ j, j < k + 1 → (held.getD j 0 == s) = false) := fun j hj => by
          rcases Nat.lt_succ_iff_lt_or_eq.1 hj with h | rfl
          · exact HA.out j h
          · rw [← HZ.out]; exact hin
        clear HA
        go_wp2
        go_round
        case rel => exact ⟨k + 1, by omega, by go_num, H1⟩
        case measure => simp [intOf]; omega
      | true =>
        have HF : Hid ((held.any fun h => h == s) = true) := by
          show (held.any fun h => h == s) = true
          rw [List.any_eq_true]
          refine ⟨held.getD k 0, ?_, by rw [← HZ.out]; exact hin⟩
          rw [show held.getD k 0 = held[k] from by simp [List.getD, List.getElem?_eq_getElem hlt]]
          exact List.getElem_mem hlt
        go_wp2
        go_ret
        exact ⟨by rw [HF.out]; rfl, rfl⟩
    · have HF : Hid ((held.any fun h => h == s) = false) := by
        show (held.any fun h => h == s) = false
        rw [List.any_eq_false]
        intro x hx
        obtain ⟨j, hj, rfl⟩ := List.mem_iff_getElem.1 hx
        have := HA.out j (by omega)
        rw [show held.getD j 0 = held[j] from by simp [List.getD, List.getElem?_eq_getElem hj]] at this
        simpa using this
      go_wp2
      go_ret
      exact ⟨by rw [HF.out]; rfl, rfl⟩
end

/-- The place of a word in the write log, or its length. -/
def findN (es : List EntD) (a : Int) : Nat := (entIdx es a).getD es.length

set_option maxRecDepth 100000 in
set_option maxHeartbeats 2000000 in
theorem t_find (p z : Nat) (A B : List Value) (t : PT) (L : Ls) (w : World) (hb : TAt w p z A B t L) (hl : t.writes.length ≤ 100) (h : EntsIn w L.wa t.writes) (what : Int) :
    Calls Tryz.prog 174 #[.pointer (some ⟨p, z + 19, none⟩), .int .i64 what] w fun e w' => e = .returned (.int .i64 (findN t.writes what)) ∧ Below w.heap.size w w' := by
  have HI : Hid (EntsIn w L.wa t.writes) := h
  have HC : Hid (w.cell? ⟨p, z + 19 + 20, none⟩ = some (.slice L.wa t.writes.length L.wc)) := hb.cWrites
  have HP : Hid (p < w.heap.size) := hb.lt
  generalize L.wa = wa at *
  generalize L.wc = cap at *
  generalize t.writes = es at *
  clear hb h
  have hc := HC.out
  go_enter Tryz.func174, Tryz.ntmps174
  go_wp2
  go_loopg [12] (es.length + 1) (fun m t12 wr => ∃ k : Nat, t12 = .int .i64 (k : Int) ∧ k ≤ es.length ∧ m = es.length + 1 - k ∧ Hid (Below w.heap.size w wr) ∧ Hid (∀ i, i < k → ((es.getD i ⟨0, 0⟩).what == what) = false))
  case atStart => exact ⟨0, rfl, by omega, by omega, Below.refl _ _, fun i hi => absurd hi (Nat.not_lt_zero _)⟩
  case round =>
    obtain ⟨k, rfl, hk, hgk, HB, HN⟩ := hrel
    have hcr : wr.cell? ⟨p, z + 19 + 20, none⟩ = some (.slice wa es.length cap) := (World.cell?_of_block ((HB.out).block p HP.out)).trans HC.out
    by_cases hlt : k < es.length
    · obtain ⟨b, rfl, hc1, hc2, _⟩ := HI.out k hlt
      have hr1 : wr.cell? ⟨b, k * 2, none⟩ = some (.int .i64 (es.getD k ⟨0, 0⟩).what) := (World.cell?_of_block ((HB.out).block b (block_lt hc1))).trans hc1
      have hr2 : wr.cell? ⟨b, k * 2 + 1, none⟩ = some (.int .i64 (es.getD k ⟨0, 0⟩).val) := (World.cell?_of_block ((HB.out).block b (block_lt hc1))).trans hc2
      have hk0 : (0 : Int) ≤ (k : Int) := by omega
      have hk1 : (k : Int) < (es.length : Int) := by omega
      have hwk : IntKind.i64.wrap ((k : Int) + 1) = (k : Int) + 1 := wrapP _ (by omega) (by omega)
      obtain ⟨v, hv⟩ : ∃ v, v = (es.getD k ⟨0, 0⟩).what := ⟨_, rfl⟩
      obtain ⟨u, hu⟩ : ∃ u, u = (es.getD k ⟨0, 0⟩).val := ⟨_, rfl⟩
      rw [← hv] at hr1
      rw [← hu] at hr2
      have HZ : Hid (v = (es.getD k ⟨0, 0⟩).what) := hv
      clear hv hu hc1 hc2 hc
      cases hin : (v == what) with
      | false =>
        have H1 : Hid (∀ j, j < k + 1 → ((es.getD j ⟨0, 0⟩).what == what) = false) := fun j hj => by
          rcases Nat.lt_succ_iff_lt_or_eq.1 hj with h | rfl
          · exact HN.out j h
          · rw [← HZ.out]; exact hin
        clear HN
        go_wp2
        go_roundg (gk - 1)
        case rel => exact ⟨k + 1, by simp, by omega, by omega, (HB.out).trans ((Below.refl _ _).alloc (HB.out).size _), H1⟩
        case measure => omega
      | true =>
        have HF : Hid (findN es what = k) := by
          show findN es what = k
          unfold findN
          rw [entIdx_some hlt HN.out (by rw [← HZ.out]; exact hin)]
          rfl
        go_wp2
        go_ret
        exact ⟨by rw [HF.out]; rfl, (HB.out).trans ((Below.refl _ _).alloc (HB.out).size _)⟩
    · have HF : Hid (findN es what = es.length) := by
        show findN es what = es.length
        unfold findN
        rw [entIdx_none (fun j hj => HN.out j (by omega))]
        rfl
      have hk2 : ¬ ((k : Int) < (es.length : Int)) := by omega
      clear hc
      go_wp2
      go_ret
      exact ⟨by rw [HF.out]; rfl, HB.out⟩

end Go.Proofs.YtejadojilncbjaaGreat

namespace Go.Proofs.YtejadojilncbjaaGreat
open Go.RowKit
set_option linter.unusedVariables false
attribute [local go_sem ↓] Go.wp_at_zero Go.wp_at_succ

section
variable (base p z : Nat) (A B : List Value) (t : PT) (L : Ls) (w : World)

set_option maxHeartbeats 1000000 in
theorem t_begin (hb : TAt w p z A B t L) : Calls Tryz.prog 91 #[.pointer (some ⟨p, z, none⟩)] w (DidT p z A B (yBegin t) L w) := by
  have h9 := hb.cCur
  have h8 := hb.cMine
  have h13 := hb.cStep
  have hf := hb.froz
  have HB : Hid (TAt w p z A B t L) := hb
  clear hb
  unfold yBegin
  by_cases hc : t.cur < t.mine.length
  · rw [if_pos hc]
    have h1 : (t.cur : Int) < (t.mine.length : Int) := by omega
    go_enter Tryz.func91, Tryz.ntmps91
    go_wp2_with fail
    go_quiet (fail)
    go_wp2_with fail
    refine (t_load p z A B t L 2 0 _ ((HB.out).drewN _)).mono ?_
    rintro e w1 ⟨rfl, a1, a2⟩
    go_wp2
    go_end0
    exact ⟨rfl, a1, ((Only.refl _ _).drewN _).trans a2⟩
  · rw [if_neg hc]
    have h1 : ¬ (t.cur : Int) < (t.mine.length : Int) := by omega
    go_enter Tryz.func91, Tryz.ntmps91
    go_wp2_with fail
    go_quiet (fail)
    go_wp2
    go_end0
    exact ⟨rfl, ((HB.out).drewN _).set 14 (by decide) _ rfl, ((Only.refl _ _).drewN _).set⟩

set_option maxHeartbeats 1000000 in
theorem t_end (hb : TAt w p z A B t L) (ok : TOk t) : Calls Tryz.prog 149 #[.pointer (some ⟨p, z, none⟩)] w (DidT p z A B (yEnd t) L w) := by
  have HB : Hid (TAt w p z A B t L) := hb
  have HK : Hid (TOk t) := ok
  clear hb ok
  go_enter Tryz.func149, Tryz.ntmps149
  go_wp2_with fail
  refine (t_ownStatus p z A B t L _ HB.out HK.out).mono ?_
  rintro e w1 ⟨rfl, hB⟩
  go_wp2_with fail
  refine (t_store p z A B t L 27 t.sta 0 _ ((HB.out).below hB)).mono ?_
  rintro e w2 ⟨rfl, a1, a2⟩
  go_wp2
  go_end0
  exact ⟨rfl, a1, (Only.below hB).trans a2⟩

set_option maxHeartbeats 1000000 in
theorem t_owner (hb : TAt w p z A B t L) (ok : TOk t) (s : Int) (h1 : 0 ≤ s) (h2 : s ≤ 100) : Calls Tryz.prog 132 #[.agg #[.int .i64 t.c.t, .int .i64 t.c.wd, .int .i64 t.c.s, .int .i64 t.c.g, .int .i64 t.c.r, .int .i64 t.c.cp, .int .i64 t.c.f], .int .i64 s] w fun e w' => e = .returned (.int .i64 (cOwnOf t.c s)) ∧ Below w.heap.size w w' := by
  obtain ⟨ht, _, hs, _⟩ := ok.cb
  exact owner_any t.c ⟨t.c, 0, []⟩ rfl s w h1 (by omega) (by omega) (by omega)

set_option maxHeartbeats 2000000 in
theorem t_giveBack (R : TR base p z A B w t L) (ok : TOk t) (hat : t.at_ < t.held.length) (step : Int) : Calls Tryz.prog 148 #[.pointer (some ⟨p, z, none⟩), .int .i64 step] w (DidT p z A B (yGiveBack step t) L w) := by
  have hb := R.tt
  have h38 := hb.cAt
  have h32 := hb.cHeld
  have h0 := hb.cT
  have h1 := hb.cWd
  have h2 := hb.cS
  have h3 := hb.cG
  have h4 := hb.cR
  have h5 := hb.cCp
  have h6 := hb.cF
  obtain ⟨g, hg, hgc⟩ := nums_at R.hd t.at_ hat
  rw [hg] at h32
  have hm : t.held.getD t.at_ 0 ∈ t.held := by rw [show t.held.getD t.at_ 0 = t.held[t.at_] from by simp [List.getD, List.getElem?_eq_getElem hat]]; exact List.getElem_mem hat
  have hsr := ok.hd _ hm
  have hs8 := ok.cb.2.2.1
  have HB : Hid (TAt w p z A B t L) := hb
  have HK : Hid (TOk t) := ok
  obtain ⟨s, HS⟩ : ∃ s, Hid (t.held.getD t.at_ 0 = s) := ⟨_, rfl⟩
  rw [show t.held.getD t.at_ 0 = s from HS.out] at hgc hsr
  have hk0 : (0 : Int) ≤ (t.at_ : Int) := by omega
  have hk1 : (t.at_ : Int) < (t.held.length : Int) := by omega
  have HG : Hid (∀ w', DidT p z A B (yStore step (cOwnOf t.c s) 0 t) L w (.returned (.tuple #[])) w' → DidT p z A B (yGiveBack step t) L w (.returned (.tuple #[])) w') := fun w' h => by unfold yGiveBack; rw [show t.held.getD t.at_ 0 = s from HS.out]; exact h
  have HS8 : Hid (0 ≤ s ∧ s ≤ 100) := ⟨hsr.1, by omega⟩
  clear hb ok R hm hsr hs8 HS hat
  go_enter Tryz.func148, Tryz.ntmps148
  go_wp2_with fail
  go_quiet (fail)
  go_wp2_with fail
  refine (t_owner p z A B t L _ ((HB.out).drewN _) HK.out s (HS8.out).1 (HS8.out).2).mono ?_
  rintro e w1 ⟨rfl, hB⟩
  go_wp2_with fail
  refine (t_store p z A B t L step (cOwnOf t.c s) 0 _ (((HB.out).drewN _).below hB)).mono ?_
  rintro e w2 ⟨rfl, a1, a2⟩
  go_wp2
  go_end0
  exact HG.out _ ⟨rfl, a1, (((Only.refl _ _).drewN _).trans (Only.below hB)).trans a2⟩

set_option maxHeartbeats 1000000 in
theorem t_letGo (R : TR base p z A B w t L) (ok : TOk t) : Calls Tryz.prog 111 #[.pointer (some ⟨p, z, none⟩)] w (DidT p z A B (yLetGo t) L w) := by
  have hb := R.tt
  have h38 := hb.cAt
  have h32 := hb.cHeld
  have HR : Hid (TR base p z A B w t L) := R
  have HK : Hid (TOk t) := ok
  clear hb ok R
  unfold yLetGo
  by_cases hc : t.at_ < t.held.length
  · rw [if_pos hc]
    have HC : Hid (t.at_ < t.held.length) := hc
    have h1 : (t.at_ : Int) < (t.held.length : Int) := by omega
    clear hc
    go_enter Tryz.func111, Tryz.ntmps111
    go_wp2_with fail
    go_quiet (fail)
    go_wp2_with fail
    refine (t_giveBack base p z A B t L _ ((HR.out).drewN _) HK.out HC.out 26).mono ?_
    rintro e w1 ⟨rfl, a1, a2⟩
    go_wp2
    go_end0
    exact ⟨rfl, a1, ((Only.refl _ _).drewN _).trans a2⟩
  · rw [if_neg hc]
    have h1 : ¬ (t.at_ : Int) < (t.held.length : Int) := by omega
    clear hc
    go_enter Tryz.func111, Tryz.ntmps111
    go_wp2_with fail
    go_quiet (fail)
    go_wp2_with fail
    refine (t_end p z A B t L _ ((HR.out).drewN _).tt HK.out).mono ?_
    rintro e w1 ⟨rfl, a1, a2⟩
    go_wp2
    go_end0
    exact ⟨rfl, a1, ((Only.refl _ _).drewN _).trans a2⟩

set_option maxHeartbeats 1000000 in
theorem t_finish (hb : TAt w p z A B t L) (ok : TOk t) : Calls Tryz.prog 119 #[.pointer (some ⟨p, z, none⟩)] w (DidT p z A B (yFinish t) L w) := by
  have h32 := hb.cHeld
  have HB : Hid (TAt w p z A B t L) := hb
  have HK : Hid (TOk t) := ok
  clear hb ok
  unfold yFinish
  by_cases hc : t.held.length = 0
  · rw [if_pos hc]
    have h1 : ((t.held.length : Int) == 0) = true := by simp [hc]
    rw [hc] at h32
    clear hc
    go_enter Tryz.func119, Tryz.ntmps119
    go_wp2_with fail
    refine (t_end p z A B t L _ HB.out HK.out).mono ?_
    rintro e w1 ⟨rfl, a1, a2⟩
    go_wp2
    go_end0
    exact ⟨rfl, a1, a2⟩
  · rw [if_neg hc]
    have h1 : ((t.held.length : Int) == 0) = false := by rw [beq_eq_false_iff_ne]; omega
    clear hc
    go_enter Tryz.func119, Tryz.ntmps119
    go_wp2_with fail
    refine (t_ownStatus p z A B t L _ HB.out HK.out).mono ?_
    rintro e w1 ⟨rfl, hB⟩
    go_wp2_with fail
    refine (t_load p z A B t L 16 t.sta _ ((HB.out).below hB)).mono ?_
    rintro e w2 ⟨rfl, a1, a2⟩
    go_wp2
    go_end0
    exact ⟨rfl, a1, (Only.below hB).trans a2⟩

end

end Go.Proofs.YtejadojilncbjaaGreat
