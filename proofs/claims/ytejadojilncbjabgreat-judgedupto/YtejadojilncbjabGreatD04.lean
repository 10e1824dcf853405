import Derived.Test.YtejadojilncbjabGreatD02
namespace Go.Proofs.YtejadojilncbjabGreat
open Go.RowKit
set_option linter.unusedVariables false
attribute [local go_sem ↓] Go.wp_at_zero Go.wp_at_succ
structure AccD where
 kind : Int
 cell : Int
 seen : Int
 put : Int
def noAcc : AccD := ⟨0, 0, 0, 0⟩
def accAt (l : List AccD) (i : Nat) : AccD := l.getD i noAcc
def LogIn (w : World) (B : Nat) (a : Option Addr) (l : List AccD) : Prop :=
 ∀ i, i < l.length → ∃ b off, a = some ⟨b, off, none⟩ ∧ b < B ∧ w.cell? ⟨b, off + i * 4, none⟩ = some (.int .i64 (accAt l i).kind) ∧ w.cell? ⟨b, off + i * 4 + 1, none⟩ = some (.int .i64 (accAt l i).cell) ∧
  w.cell? ⟨b, off + i * 4 + 2, none⟩ = some (.int .i64 (accAt l i).seen) ∧ w.cell? ⟨b, off + i * 4 + 3, none⟩ = some (.int .i64 (accAt l i).put)
def wordBase (c : Cfg) : Int := 3 + 2 * c.s + c.t
def startVal (c : Cfg) (mem : List Int) (cell : Int) : Int := if wordBase c ≤ cell then mem.getD (cell - wordBase c).toNat 0 else 0
theorem Ints.up {w w' : World} {a : Option Addr} {zs : List Int} (h : Ints w w.heap.size a zs) (hb : Below w.heap.size w w') : Ints w' w'.heap.size a zs := by
 intro i hi
 obtain ⟨b, off, ha, hlt, hc⟩ := h i hi
 exact ⟨b, off, ha, Nat.lt_of_lt_of_le hlt hb.size, (World.cell?_of_block (hb.block b hlt)).trans hc⟩
theorem LogIn.up {w w' : World} {a : Option Addr} {l : List AccD} (h : LogIn w w.heap.size a l) (hb : Below w.heap.size w w') : LogIn w' w'.heap.size a l := by
 intro i hi
 obtain ⟨b, off, ha, hlt, h0, h1, h2, h3⟩ := h i hi
 have e : ∀ o, w'.cell? ⟨b, o, none⟩ = w.cell? ⟨b, o, none⟩ := fun o => World.cell?_of_block (hb.block b hlt)
 exact ⟨b, off, ha, Nat.lt_of_lt_of_le hlt hb.size, (e _).trans h0, (e _).trans h1, (e _).trans h2, (e _).trans h3⟩
end Go.Proofs.YtejadojilncbjabGreat
