import Derived.Test.YtejadojilncbjabGreatD03
import Derived.Test.YtejadojilncbjabGreatD04
namespace Go.Proofs.YtejadojilncbjabGreat
open Go.RowKit
set_option linter.unusedVariables false
structure PickD where
 thread : Int
 draw : Int
def pickAt (l : List PickD) (i : Nat) : PickD := l.getD i ⟨0, 0⟩
def PicksIn (w : World) (B : Nat) (a : Option Addr) (l : List PickD) : Prop :=
 ∀ i, i < l.length → ∃ b off, a = some ⟨b, off, none⟩ ∧ b < B ∧ w.cell? ⟨b, off + i * 2, none⟩ = some (.int .i64 (pickAt l i).thread) ∧ w.cell? ⟨b, off + i * 2 + 1, none⟩ = some (.int .i64 (pickAt l i).draw)
def Row (w : World) (B : Nat) (a : Option Addr) (c : Nat) (xs : List Int) : Prop := w.ownsRow B 3 1 (.slice a xs.length c) xs.length (xs.map (Value.int .i64 ·))
def Apart (a b : Option Addr) : Prop := ∀ x y, a = some x → b = some y → x.block ≠ y.block
theorem Row.ints {w : World} {B : Nat} {a : Option Addr} {c : Nat} {xs : List Int} (h : Row w B a c xs) : Ints w w.heap.size a xs := by
 intro i hi
 obtain ⟨b, rfl, hc⟩ := nums_of h i hi
 exact ⟨b, 0, rfl, block_lt hc, by simpa using hc⟩
theorem Row.base {w : World} {B : Nat} {a : Option Addr} {c : Nat} {xs : List Int} (h : Row w B a c xs) : ∀ x, a = some x → B ≤ x.block ∧ x.block < w.heap.size := fun x hx => by
 subst hx
 exact World.ownsRow.lt h x.block rfl
def TellR (c : Cfg) (me : Int) (jobs : List (Int × List InsD)) (ma ja : Option Addr) (ml mc jc : Nat) (B p eb : Nat) (w : World) (S D W : List Int) : Prop :=
 ∃ sa sc da dc wa wc, Blk w p 154 (lifeArr ⟨c, me, S, D, W, jobs⟩ ⟨ma, ml, mc, ja, jc, sa, sc, da, dc, wa, wc, some ⟨eb, 0, none⟩, jobs.length⟩ none 0 (newLS ⟨c, me, S, D, W, jobs⟩)) ∧
  Row w B sa sc S ∧ Row w B da dc D ∧ Row w B wa wc W ∧ Apart sa da ∧ Apart sa wa ∧ Apart da wa
theorem Apart.symm {a b : Option Addr} (h : Apart a b) : Apart b a := fun x y hx hy e => h y x hy hx e.symm
end Go.Proofs.YtejadojilncbjabGreat
