import Derived.Test.YtgdfmmfkdmhdgaaGreatH38
import Derived.Test.YtgdfmmfkdmhdgaaGreatH25
import Derived.Test.YtgdfmmfkdmhdgaaGreatH55
import Derived.Test.YtgdfmmfkdmhdgaaGreatH39
namespace Go.Proofs.YtgdfmmfkdmhdgaaGreat
open Go.RowKit
set_option linter.unusedVariables false
attribute [local go_sem ↓] Go.wp_at_zero Go.wp_at_succ

theorem memB_get {mem : List Int} (h : memB mem = true) (i : Nat) : 0 ≤ mem.getD i 0 ∧ mem.getD i 0 ≤ 65535 := by
  by_cases hi : i < mem.length
  · unfold memB at h
    rw [List.all_eq_true] at h
    have := h mem[i] (List.getElem_mem hi)
    rw [show mem.getD i 0 = mem[i] from by simp [List.getD, List.getElem?_eq_getElem hi]]
    exact inB_true this
  · rw [show mem.getD i 0 = 0 from by simp [List.getD, List.getElem?_eq_none (Nat.le_of_not_lt hi)]]
    omega

theorem log_row {w : World} {base : Nat} {a : Option Addr} {c : Nat} {l : List AccD} (h : w.ownsRow base 46 4 (.slice a l.length c) l.length (l.flatMap accCells)) : LogIn w w.heap.size a l := by
  intro i hi
  obtain ⟨g, cap, cur, hv, hb, hg, h1, h2, h3, h4⟩ := own_block h (by omega)
  simp at hv
  obtain ⟨rfl, rfl⟩ := hv
  have hat : ∀ j, j < 4 → w.cell? ⟨g, i * 4 + j, none⟩ = (accCells (accAt l i))[j]? := by
    intro j hj
    rw [hg.cell]
    have e1 : (l.flatMap accCells)[i * 4 + j]? = (accCells (accAt l i))[j]? := by
      rw [flat_at (n := 4) (fun _ => rfl) l i j hj]
      simp [accAt, List.getElem?_eq_getElem hi]
    rw [← e1, ← h4, List.getElem?_take, if_pos (by omega), Array.getElem?_toList]
  refine ⟨g, 0, rfl, hg.lt, ?_, ?_, ?_, ?_⟩
  · have := hat 0 (by omega); simpa [accCells] using this
  · have := hat 1 (by omega); simpa [accCells] using this
  · have := hat 2 (by omega); simpa [accCells] using this
  · have := hat 3 (by omega); simpa [accCells] using this
theorem Tryz.info46 : (Tryz.prog.info? 46).map (fun i => (i.zero, i.size, i.bytes)) = some (some (.agg #[.int .i64 0, .int .i64 0, .int .i64 0, .int .i64 0]), 4, 32) := by kernel_rfl
/-- What Alone looks at of a life. -/
def LifeAt (p eb : Nat) (r : ResD) (q : AskD) (w : World) : Prop :=
  w.cell? ⟨p, 22, none⟩ = some (.slice (some ⟨eb, 0, none⟩) 1 1) ∧ (∀ j, w.cell? ⟨eb, j, none⟩ = (#[.int .i64 r.fate, .int .i64 r.r0, .int .i64 r.r1, .int .i64 r.r2, .int .i64 r.r3] : Array Value)[j]?) ∧
    w.cell? ⟨p, 15, none⟩ = some (.int .i64 q.kind) ∧ w.cell? ⟨p, 16, none⟩ = some (.int .i64 q.cell) ∧ w.cell? ⟨p, 17, none⟩ = some (.int .i64 q.frm) ∧ w.cell? ⟨p, 18, none⟩ = some (.int .i64 q.to)

theorem LifeR.at {E : Env} {H : Hd} {B p eb : Nat} {w : World} {s : LS} {r : ResD} (h : LifeR E H B p eb w s) (he : s.ends = [r]) (hH : H.ea = some ⟨eb, 0, none⟩) (hc : H.ec = 1) : LifeAt p eb r s.next w := by
  obtain ⟨la, lc, hb, _⟩ := h.life
  rcases h.ends with h0 | ⟨_, h1⟩
  · rw [he] at h0; cases h0
  · rw [he] at h1
    refine ⟨?_, fun j => ?_, ?_, ?_, ?_, ?_⟩
    · rw [hb.cell]; simp [lifeArr, hH, hc, he]
    · rw [h1.cell]; rfl
    · rw [hb.cell]; rfl
    · rw [hb.cell]; rfl
    · rw [hb.cell]; rfl
    · rw [hb.cell]; rfl

theorem below_set {n b i : Nat} {w w' : World} {v : Value} (h : Below n w w') (hb : n ≤ b) : Below n w (w'.setCell ⟨b, i, none⟩ v) := by
  have ho : Only b w' (w'.setCell ⟨b, i, none⟩ v) := (Only.refl _ _).set
  exact ⟨ho.os.trans h.os, ho.tape.trans h.tape, ho.output.trans h.output, Nat.le_trans h.size ho.size, fun k hk => (Below.heap_setCell _ _ _ _ (by simp; omega)).trans (h.block k hk)⟩

theorem JobsRep.mono {w : World} {n m : Nat} {ja : Option Addr} {jobs : List (Int × List InsD)} (h : JobsRep w n ja jobs) (hm : n ≤ m) : JobsRep w m ja jobs := by
  obtain ⟨js, h1, h2, h3⟩ := h
  refine ⟨js, h1, fun i hi => ?_, fun i hi => ⟨(h3 i hi).1, (h3 i hi).2.1, fun j hj => ?_⟩⟩
  · obtain ⟨b, off, g1, g2, g3⟩ := h2 i hi
    exact ⟨b, off, g1, by omega, g3⟩
  · obtain ⟨b, off, g1, g2, g3⟩ := (h3 i hi).2.2 j hj
    exact ⟨b, off, g1, by omega, g3⟩

theorem LifeAt.lt {p eb : Nat} {r : ResD} {q : AskD} {w : World} (h : LifeAt p eb r q w) : p < w.heap.size ∧ eb < w.heap.size := ⟨block_lt h.1, block_lt (h.2.1 0)⟩

end Go.Proofs.YtgdfmmfkdmhdgaaGreat
