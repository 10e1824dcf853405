import Derived.Test.YtejadojilncbjaaGreatG40
import Derived.Test.YtejadojilncbjaaGreatG10
namespace Go.Proofs.YtejadojilncbjaaGreat
open Go.RowKit
set_option linter.unusedVariables false
attribute [local go_sem ↓] Go.wp_at_zero Go.wp_at_succ

def noNote : NoteD := ⟨0, 0, 0⟩
/-- Notes in memory. -/
def NotIn (w : World) (B : Nat) (a : Option Addr) (l : List NoteD) : Prop :=
  ∀ k, k < l.length → ∃ b, a = some ⟨b, 0, none⟩ ∧ b < B ∧ w.cell? ⟨b, k * 3, none⟩ = some (.int .i64 (l.getD k noNote).op) ∧ w.cell? ⟨b, k * 3 + 1, none⟩ = some (.int .i64 (l.getD k noNote).addr) ∧ w.cell? ⟨b, k * 3 + 2, none⟩ = some (.int .i64 (l.getD k noNote).val)

theorem notIn_row {w : World} {base : Nat} {nv : Value} {l : List NoteD} (h : w.ownsRow base 95 3 nv l.length (l.flatMap noteCells)) : ∃ a c, nv = .slice a l.length c ∧ l.length ≤ maxLen ∧ NotIn w w.heap.size a l := by
  rcases h.2 with ⟨rfl, h0⟩ | ⟨g, cap, cur, rfl, hb, hg, h1, h2, h3, h4⟩
  · have hl : l.length = 0 := h0
    exact ⟨none, 0, by rw [hl], by rw [hl]; unfold maxLen; omega, fun k hk => by omega⟩
  · refine ⟨_, _, rfl, by omega, fun k hk => ?_⟩
    have hg' : Blk w g 95 cur := hg
    have e : ∀ j, j < 3 → w.cell? ⟨g, k * 3 + j, none⟩ = (noteCells (l.getD k noNote))[j]? := fun j hj => by
      rw [Blk.cell hg']
      have h5 : cur[k * 3 + j]? = (cur.toList.take (l.length * 3))[k * 3 + j]? := by
        rw [List.getElem?_take_of_lt (by omega)]
        simp
      rw [h5, h4, flat_at (n := 3) (fun _ => rfl) _ k j hj, List.getElem?_eq_getElem hk]
      simp [List.getD, List.getElem?_eq_getElem hk]
    exact ⟨g, rfl, lt_of_heap hg, e 0 (by omega), e 1 (by omega), e 2 (by omega)⟩

theorem NotIn.up {w w' : World} {a : Option Addr} {l : List NoteD} (h : NotIn w w.heap.size a l) (hb : Below w.heap.size w w') : NotIn w' w'.heap.size a l := fun k hk => by
  obtain ⟨b, ha, hB, h0, h1, h2⟩ := h k hk
  have e := hb.block b hB
  have := hb.size
  exact ⟨b, ha, by omega, (World.cell?_of_block e).trans h0, (World.cell?_of_block e).trans h1, (World.cell?_of_block e).trans h2⟩

end Go.Proofs.YtejadojilncbjaaGreat
