import Derived.Test.YtgdfmmfkdmhdgaaG03
import Derived.Test.YtgdfmmfkdmhdgaaG05
import Derived.OneCell
import Derived.Deep.LoopGhost
import Derived.Test.YtgdfmmfkdmhdgaaG02
import Derived.BigRegion
import Derived.Deep.RegionLaw
import Derived.Deep.DeepCutAuto
namespace Go.Proofs.Ytgdfmmfkdmhdgaa
set_option linter.unusedVariables false

/-! The document's life asks what the machine asks: part 2: instructions, the commit. -/

/-- One instruction more. -/
theorem hStep_begun (K : Cx) (h : Th) (hb : (hStep K h).1 = true) : (h.x.begun : Int) ≠ K.c.f ∧ (hStep K h).2.x.begun = h.x.begun + 1 := by
  unfold hStep at hb ⊢
  by_cases h1 : h.x.place = h.x.code.length
  · rw [if_pos h1] at hb; cases hb
  rw [if_neg h1] at hb ⊢
  by_cases h2 : (h.x.begun : Int) = K.c.f
  · rw [if_pos h2] at hb; cases hb
  rw [if_neg h2] at hb ⊢
  refine ⟨h2, ?_⟩
  simp only at hb ⊢
  generalize insAt h.x.code h.x.place = i at *
  by_cases h3 : formedB i h.x.code.length = false
  · rw [if_pos h3] at hb; cases hb
  rw [if_neg h3] at hb ⊢
  by_cases o0 : i.op = 0
  · rw [if_pos o0] at hb; cases hb
  rw [if_neg o0] at hb ⊢
  by_cases o1 : i.op = 1
  · rw [if_pos o1] at hb; cases hb
  rw [if_neg o1] at hb ⊢
  by_cases o2 : i.op = 2
  · rw [if_pos o2]; rfl
  rw [if_neg o2] at hb ⊢
  by_cases o3 : i.op = 3
  · rw [if_pos o3]; rfl
  rw [if_neg o3] at hb ⊢
  by_cases o4 : i.op = 4
  · rw [if_pos o4]; rfl
  rw [if_neg o4] at hb ⊢
  by_cases o5 : i.op = 5
  · rw [if_pos o5]
  rw [if_neg o5] at hb ⊢
  by_cases o6 : i.op = 6
  · rw [if_pos o6]
    show (if _ then _ else _ : TS).begun = _
    split <;> rfl
  rw [if_neg o6] at hb ⊢
  by_cases o7 : i.op = 7
  · rw [if_pos o7] at hb ⊢
    unfold hRead at hb ⊢
    simp only at hb ⊢
    split at hb
    · cases hb
    · rename_i hw
      rw [if_neg hw]
      cases hk : entIdx h.x.writes (regOf { h.x with begun := h.x.begun + 1, place := h.x.place + 1 } i.b) with
      | none => rw [hk] at hb; cases hb
      | some k => rfl
  · rw [if_neg o7] at hb ⊢
    unfold hWrite at hb ⊢
    simp only at hb ⊢
    split at hb
    · cases hb
    · rename_i hw
      rw [if_neg hw]
      split at hb
      · rename_i hh
        rw [if_pos hh]
        rfl
      · cases hb

theorem hGo_eq (K : Cx) (h : Th) (hb : (h.x.begun : Int) ≤ K.c.f) : hGo K h = if (hStep K h).1 then hGo K (hStep K h).2 else (hStep K h).2 := by
  have e : K.c.f.toNat + 1 - h.x.begun = (K.c.f.toNat - h.x.begun) + 1 := by omega
  unfold hGo
  rw [e]
  show (if (hStep K h).1 then hAdv K _ (hStep K h).2 else (hStep K h).2) = _
  by_cases hs : (hStep K h).1 = true
  · obtain ⟨h1, h2⟩ := hStep_begun K h hs
    rw [if_pos hs, if_pos hs, h2]
    congr 1
    omega
  · rw [if_neg hs, if_neg hs]

end Go.Proofs.Ytgdfmmfkdmhdgaa

namespace Go.Proofs.Ytgdfmmfkdmhdgaa
open Go.RowKit
set_option linter.unusedVariables false

theorem Try.info3 : (Try.prog.info? 3).map (fun i => (i.zero, i.size, i.bytes)) = some (some (.int .i64 0), 1, 8) := by kernel_rfl

section
variable {B p eb xb : Nat} {w w0 w1 : World} {x : TS} {ca ra wa ha : Option Addr} {cc rc wc hc g cap : Nat}

end

/-- Enough rounds for a loop that asks in each. -/
def enough (E : Env) (s : LS) (n : Nat) : Prop := 1 ≤ n ∧ (s.over = false → E.seen.length - s.pos + 2 ≤ n)
end Go.Proofs.Ytgdfmmfkdmhdgaa

namespace Go.Proofs.Ytgdfmmfkdmhdgaa
open Go.RowKit
set_option linter.unusedVariables false
attribute [local go_sem ↓] Go.wp_at_zero Go.wp_at_succ

theorem tdiv8 (v : Int) (h1 : -1 ≤ v) (h2 : v ≤ 1125899906842624) : 0 ≤ v.tdiv 8 ∧ v.tdiv 8 ≤ 1125899906842624 := by
  by_cases h : 0 ≤ v
  · rw [Int.tdiv_eq_ediv_of_nonneg h]; omega
  · have : v = -1 := by omega
    subst this
    decide
theorem wrap64tdiv8 (v : Int) (h1 : -1 ≤ v) (h2 : v ≤ 1125899906842624) : wrap64 (v.tdiv 8) = v.tdiv 8 := by
  have := tdiv8 v h1 h2
  unfold wrap64
  omega

end Go.Proofs.Ytgdfmmfkdmhdgaa

namespace Go.Proofs.Ytgdfmmfkdmhdgaa
open Go.RowKit
set_option linter.unusedVariables false
attribute [local go_sem ↓] Go.wp_at_zero Go.wp_at_succ

theorem wrapF (n : Int) (h1 : -1152921504606846976 ≤ n) (h2 : n ≤ 1152921504606846976) : IntKind.i64.wrap n = n := by rw [IntKind.wrap_i64]; omega

end Go.Proofs.Ytgdfmmfkdmhdgaa

namespace Go.Proofs.Ytgdfmmfkdmhdgaa
open Go.RowKit
set_option linter.unusedVariables false
attribute [local go_sem ↓] Go.wp_at_zero Go.wp_at_succ

structure AccD where
  kind : Int
  cell : Int
  seen : Int
  put : Int

def noAcc : AccD := ⟨0, 0, 0, 0⟩
def accAt (l : List AccD) (i : Nat) : AccD := l.getD i noAcc
def accCells (a : AccD) : List Value := [.int .i64 a.kind, .int .i64 a.cell, .int .i64 a.seen, .int .i64 a.put]

/-- A log in memory. -/
def LogIn (w : World) (B : Nat) (a : Option Addr) (l : List AccD) : Prop :=
  ∀ i, i < l.length → ∃ b off, a = some ⟨b, off, none⟩ ∧ b < B ∧ w.cell? ⟨b, off + i * 4, none⟩ = some (.int .i64 (accAt l i).kind) ∧ w.cell? ⟨b, off + i * 4 + 1, none⟩ = some (.int .i64 (accAt l i).cell) ∧
    w.cell? ⟨b, off + i * 4 + 2, none⟩ = some (.int .i64 (accAt l i).seen) ∧ w.cell? ⟨b, off + i * 4 + 3, none⟩ = some (.int .i64 (accAt l i).put)

def hits (cell : Int) (a : AccD) : Bool := a.kind != 0 && a.cell == cell
def lastStep (cell : Int) (o : Option Int) (a : AccD) : Option Int := if hits cell a then some a.put else o
/-- What the last access to a cell put there. -/
def lastPut (cell : Int) (l : List AccD) : Option Int := l.foldl (lastStep cell) none

def wordBase (c : Cfg) : Int := 3 + 2 * c.s + c.t
def startVal (c : Cfg) (mem : List Int) (cell : Int) : Int := if wordBase c ≤ cell then mem.getD (cell - wordBase c).toNat 0 else 0
def mValue (c : Cfg) (mem : List Int) (l : List AccD) (cell : Int) : Int := (lastPut cell l).getD (startVal c mem cell)

def mMade (c : Cfg) (mem : List Int) (l : List AccD) (q : AskD) : AccD :=
  if q.kind = 0 then noAcc else
    let v := mValue c mem l q.cell
    ⟨q.kind, q.cell, v, if q.kind = 2 then q.to else if q.kind = 4 then v + 1 else if q.kind = 3 then (if v = q.frm then q.to else v) else v⟩

theorem Ints.up {w w' : World} {a : Option Addr} {zs : List Int} (h : Ints w w.heap.size a zs) (hb : Below w.heap.size w w') : Ints w' w'.heap.size a zs := by
  intro i hi
  obtain ⟨b, off, ha, hlt, hc⟩ := h i hi
  exact ⟨b, off, ha, Nat.lt_of_lt_of_le hlt hb.size, (World.cell?_of_block (hb.block b hlt)).trans hc⟩
theorem LogIn.up {w w' : World} {a : Option Addr} {l : List AccD} (h : LogIn w w.heap.size a l) (hb : Below w.heap.size w w') : LogIn w' w'.heap.size a l := by
  intro i hi
  obtain ⟨b, off, ha, hlt, h0, h1, h2, h3⟩ := h i hi
  have e : ∀ o, w'.cell? ⟨b, o, none⟩ = w.cell? ⟨b, o, none⟩ := fun o => World.cell?_of_block (hb.block b hlt)
  exact ⟨b, off, ha, Nat.lt_of_lt_of_le hlt hb.size, (e _).trans h0, (e _).trans h1, (e _).trans h2, (e _).trans h3⟩

end Go.Proofs.Ytgdfmmfkdmhdgaa

namespace Go.Proofs.Ytgdfmmfkdmhdgaa
open Go.RowKit
set_option linter.unusedVariables false

structure PickD where
  thread : Int
  draw : Int

def pickAt (l : List PickD) (i : Nat) : PickD := l.getD i ⟨0, 0⟩
def PicksIn (w : World) (B : Nat) (a : Option Addr) (l : List PickD) : Prop :=
  ∀ i, i < l.length → ∃ b off, a = some ⟨b, off, none⟩ ∧ b < B ∧ w.cell? ⟨b, off + i * 2, none⟩ = some (.int .i64 (pickAt l i).thread) ∧ w.cell? ⟨b, off + i * 2 + 1, none⟩ = some (.int .i64 (pickAt l i).draw)

def seenOf (t : Int) (ps : List PickD) (log : List AccD) : List Int := ((ps.zip log).filter fun q => q.1.thread == t).map (·.2.seen)
def drawsOf (t : Int) (ps : List PickD) (log : List AccD) : List Int := ((ps.zip log).filter fun q => q.1.thread == t).map (·.1.draw)
def whensOf (t : Int) (ps : List PickD) (log : List AccD) : List Int := (((ps.zip log).zipIdx 1).filter fun q => q.1.1.thread == t).map fun q => ((q.2 : Nat) : Int)
def envOf (c : Cfg) (jobs : List (Int × List InsD)) (t : Int) (ps : List PickD) (log : List AccD) : Env := ⟨c, t, seenOf t ps log, drawsOf t ps log, whensOf t ps log, jobs⟩

end Go.Proofs.Ytgdfmmfkdmhdgaa
