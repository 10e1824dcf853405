import Derived.Test.YtejadojilncbjaaExtend
namespace Go.Proofs.Ytejadojilncbjaa
open Go.RowKit
set_option linter.unusedVariables false

theorem Try.info144 : (Try.prog.info? 144).map (fun i => (i.zero, i.size, i.bytes)) = some (some (.agg #[.int .i64 0, .int .i64 0]), 2, 16) := by kernel_rfl
theorem Try.info3 : (Try.prog.info? 3).map (fun i => (i.zero, i.size, i.bytes)) = some (some (.int .i64 0), 1, 8) := by kernel_rfl

section
variable {B p eb xb : Nat} {w w0 w1 : World} {x : TS} {ca ra wa ha : Option Addr} {cc rc wc hc g cap : Nat}

/-- An entry joins the read log. -/
theorem tryAddRead {st v : Int} (hb : Blk w xb 134 (tryArr ca cc ra rc wa wc ha hc x)) (hcd : CodeIn w B ca x.code) (hcf : FarC B p eb ca x.code)
    (g3 : w.ownsRow B 144 2 (.slice ra x.reads.length rc) x.reads.length (x.reads.flatMap entCells)) (g4 : w.ownsRow B 144 2 (.slice wa x.writes.length wc) x.writes.length (x.writes.flatMap entCells))
    (g5 : w.ownsRow B 3 1 (.slice ha x.held.length hc) x.held.length (x.held.map (.int .i64 ·))) (g6 : ∀ k, (Value.slice ra x.reads.length rc).ownBlock = some k → (Value.slice wa x.writes.length wc).ownBlock ≠ some k)
    (hB : B ≤ w.heap.size) (hxB : B ≤ xb) (hr : x.regs.length = 4) (hb0 : Below w.heap.size w w0) (hgr : w0.grownBy w1 (Value.slice ra x.reads.length rc).ownBlock)
    (hown : w1.ownsRow B 144 2 (.slice (some ⟨g, 0, none⟩) (x.reads.length + 1) cap) (x.reads.length + 1) (x.reads.flatMap entCells ++ [.int .i64 st, .int .i64 v])) (hat : (Value.slice ra x.reads.length rc).ownBlock = some g ∨ g = w.heap.size + 1) :
    TryR B p eb xb (w1.setCell ⟨xb, 8, none⟩ (.slice (some ⟨g, 0, none⟩) (x.reads.length + 1) cap)) { x with reads := x.reads ++ [⟨st, v⟩] } ∧ Kp [134, 144] B p eb w (w1.setCell ⟨xb, 8, none⟩ (.slice (some ⟨g, 0, none⟩) (x.reads.length + 1) cap)) := by
  have hk0 : Kp [] B p eb w w0 := Kp.below hb0 hB
  have hk1 : Kp [144] B p eb w0 w1 := Kp.grown hgr (Nat.le_trans hB hb0.size) (ownsRow_keep g3 hk0 (by simp)) (by simp)
  have hb1 : Blk w1 xb 134 (tryArr ca cc ra rc wa wc ha hc x) := (hb.keep hk0 (by simp)).keep hk1 (by simp)
  have hk2 : Kp [134] B p eb w1 (w1.setCell ⟨xb, 8, none⟩ (.slice (some ⟨g, 0, none⟩) (x.reads.length + 1) cap)) := Kp.only (Only.refl _ _).set (by have := hb0.size; have := hgr.size; omega) hb1 (by simp) (Or.inr (Or.inr hxB))
  have hk := (hk0.up (chg := [134, 144])).trans ((hk1.wide (by simp)).trans (hk2.wide (by simp)))
  have g4' : w1.ownsRow B 144 2 (.slice wa x.writes.length wc) x.writes.length (x.writes.flatMap entCells) := by
    refine (ownsRow_keep g4 hk0 (by simp)).kept hgr ?_
    cases hw : (Value.slice wa x.writes.length wc).ownBlock with
    | none => exact Or.inl rfl
    | some k => exact Or.inr (fun e => g6 k e.symm hw)
  refine ⟨⟨⟨ca, cc, some ⟨g, 0, none⟩, cap, wa, wc, ha, hc, hb1.set.congr ?_, hcd.keep hcf hk, hcf, ?_, ownsRow_keep g4' hk2 (by simp), ownsRow_keep g5 hk (by simp), ?_⟩, hxB, hr⟩, hk⟩
  · simp [tryArr]
  · have := ownsRow_keep hown hk2 (by simp)
    simpa [List.flatMap_append, entCells] using this
  · intro k hk' hw
    simp [Value.ownBlock] at hk'
    subst hk'
    rcases hat with hat | hat
    · exact g6 g hat hw
    · have := (g4.lt g hw).2; omega

/-- An entry joins the write log. -/
theorem tryAddWrite {a v : Int} (hb : Blk w xb 134 (tryArr ca cc ra rc wa wc ha hc x)) (hcd : CodeIn w B ca x.code) (hcf : FarC B p eb ca x.code)
    (g3 : w.ownsRow B 144 2 (.slice ra x.reads.length rc) x.reads.length (x.reads.flatMap entCells)) (g4 : w.ownsRow B 144 2 (.slice wa x.writes.length wc) x.writes.length (x.writes.flatMap entCells))
    (g5 : w.ownsRow B 3 1 (.slice ha x.held.length hc) x.held.length (x.held.map (.int .i64 ·))) (g6 : ∀ k, (Value.slice ra x.reads.length rc).ownBlock = some k → (Value.slice wa x.writes.length wc).ownBlock ≠ some k)
    (hB : B ≤ w.heap.size) (hxB : B ≤ xb) (hr : x.regs.length = 4) (hb0 : Below w.heap.size w w0) (hgr : w0.grownBy w1 (Value.slice wa x.writes.length wc).ownBlock)
    (hown : w1.ownsRow B 144 2 (.slice (some ⟨g, 0, none⟩) (x.writes.length + 1) cap) (x.writes.length + 1) (x.writes.flatMap entCells ++ [.int .i64 a, .int .i64 v])) (hat : (Value.slice wa x.writes.length wc).ownBlock = some g ∨ g = w.heap.size + 1) :
    TryR B p eb xb (w1.setCell ⟨xb, 9, none⟩ (.slice (some ⟨g, 0, none⟩) (x.writes.length + 1) cap)) { x with writes := x.writes ++ [⟨a, v⟩] } ∧ Kp [134, 144] B p eb w (w1.setCell ⟨xb, 9, none⟩ (.slice (some ⟨g, 0, none⟩) (x.writes.length + 1) cap)) := by
  have hk0 : Kp [] B p eb w w0 := Kp.below hb0 hB
  have hk1 : Kp [144] B p eb w0 w1 := Kp.grown hgr (Nat.le_trans hB hb0.size) (ownsRow_keep g4 hk0 (by simp)) (by simp)
  have hb1 : Blk w1 xb 134 (tryArr ca cc ra rc wa wc ha hc x) := (hb.keep hk0 (by simp)).keep hk1 (by simp)
  have hk2 : Kp [134] B p eb w1 (w1.setCell ⟨xb, 9, none⟩ (.slice (some ⟨g, 0, none⟩) (x.writes.length + 1) cap)) := Kp.only (Only.refl _ _).set (by have := hb0.size; have := hgr.size; omega) hb1 (by simp) (Or.inr (Or.inr hxB))
  have hk := (hk0.up (chg := [134, 144])).trans ((hk1.wide (by simp)).trans (hk2.wide (by simp)))
  have g3' : w1.ownsRow B 144 2 (.slice ra x.reads.length rc) x.reads.length (x.reads.flatMap entCells) := by
    refine (ownsRow_keep g3 hk0 (by simp)).kept hgr ?_
    cases hw : (Value.slice ra x.reads.length rc).ownBlock with
    | none => exact Or.inl rfl
    | some k => exact Or.inr (fun e => g6 k hw e.symm)
  refine ⟨⟨⟨ca, cc, ra, rc, some ⟨g, 0, none⟩, cap, ha, hc, hb1.set.congr ?_, hcd.keep hcf hk, hcf, ownsRow_keep g3' hk2 (by simp), ?_, ownsRow_keep g5 hk (by simp), ?_⟩, hxB, hr⟩, hk⟩
  · simp [tryArr]
  · have := ownsRow_keep hown hk2 (by simp)
    simpa [List.flatMap_append, entCells] using this
  · intro k hk' hw
    simp [Value.ownBlock] at hw
    subst hw
    rcases hat with hat | hat
    · exact g6 g hk' hat
    · have := (g3.lt g hk').2; omega

/-- A stripe joins those that are held. -/
theorem tryAddHeld {st : Int} (hb : Blk w xb 134 (tryArr ca cc ra rc wa wc ha hc x)) (hcd : CodeIn w B ca x.code) (hcf : FarC B p eb ca x.code)
    (g3 : w.ownsRow B 144 2 (.slice ra x.reads.length rc) x.reads.length (x.reads.flatMap entCells)) (g4 : w.ownsRow B 144 2 (.slice wa x.writes.length wc) x.writes.length (x.writes.flatMap entCells))
    (g5 : w.ownsRow B 3 1 (.slice ha x.held.length hc) x.held.length (x.held.map (.int .i64 ·))) (g6 : ∀ k, (Value.slice ra x.reads.length rc).ownBlock = some k → (Value.slice wa x.writes.length wc).ownBlock ≠ some k)
    (hB : B ≤ w.heap.size) (hxB : B ≤ xb) (hr : x.regs.length = 4) (hb0 : Below w.heap.size w w0) (hgr : w0.grownBy w1 (Value.slice ha x.held.length hc).ownBlock)
    (hown : w1.ownsRow B 3 1 (.slice (some ⟨g, 0, none⟩) (x.held.length + 1) cap) (x.held.length + 1) (x.held.map (Value.int .i64 ·) ++ [.int .i64 st])) :
    TryR B p eb xb (w1.setCell ⟨xb, 10, none⟩ (.slice (some ⟨g, 0, none⟩) (x.held.length + 1) cap)) { x with held := x.held ++ [st] } ∧ Kp [134, 3] B p eb w (w1.setCell ⟨xb, 10, none⟩ (.slice (some ⟨g, 0, none⟩) (x.held.length + 1) cap)) := by
  have hk0 : Kp [] B p eb w w0 := Kp.below hb0 hB
  have hk1 : Kp [3] B p eb w0 w1 := Kp.grown hgr (Nat.le_trans hB hb0.size) (ownsRow_keep g5 hk0 (by simp)) (by simp)
  have hb1 : Blk w1 xb 134 (tryArr ca cc ra rc wa wc ha hc x) := (hb.keep hk0 (by simp)).keep hk1 (by simp)
  have hk2 : Kp [134] B p eb w1 (w1.setCell ⟨xb, 10, none⟩ (.slice (some ⟨g, 0, none⟩) (x.held.length + 1) cap)) := Kp.only (Only.refl _ _).set (by have := hb0.size; have := hgr.size; omega) hb1 (by simp) (Or.inr (Or.inr hxB))
  have hk := (hk0.up (chg := [134, 3])).trans ((hk1.wide (by simp)).trans (hk2.wide (by simp)))
  refine ⟨⟨⟨ca, cc, ra, rc, wa, wc, some ⟨g, 0, none⟩, cap, hb1.set.congr ?_, hcd.keep hcf hk, hcf, ownsRow_keep g3 hk (by simp), ownsRow_keep g4 hk (by simp), ?_, g6⟩, hxB, hr⟩, hk⟩
  · simp [tryArr]
  · have := ownsRow_keep hown hk2 (by simp)
    simpa using this
end

theorem mAsk_dead {E : Env} {s : LS} {q : AskD} (h : s.over = true) : mAsk E s q = (0, s) := by simp [mAsk, h]
/-- An ask takes one answer, or there is none. -/
theorem mAsk_adv (E : Env) (s : LS) (q : AskD) (h : s.over = false) (hp : s.pos ≤ E.seen.length) : (mAsk E s q).2.over = true ∨ ((mAsk E s q).2.over = false ∧ (mAsk E s q).2.pos = s.pos + 1) := by
  by_cases hl : E.seen.length ≤ s.pos
  · left; simp [mAsk, h, hl]
  · right; simp [mAsk, h, hl]

/-- Enough rounds for a loop that asks in each. -/
def enough (E : Env) (s : LS) (n : Nat) : Prop := 1 ≤ n ∧ (s.over = false → E.seen.length - s.pos + 2 ≤ n)
theorem enough_fuel (E : Env) (s : LS) : enough E s (loopFuel E s) := ⟨by unfold loopFuel; omega, fun _ => Nat.le_refl _⟩
theorem enough_next {E : Env} {s s' : LS} {n : Nat} (h : enough E s (n + 1)) (ho : s.over = false) (hs : s'.over = true ∨ s.pos < s'.pos) (hp : s'.pos ≤ E.seen.length) : enough E s' n := by
  have h2 := h.2 ho
  refine ⟨by omega, fun h' => ?_⟩
  rcases hs with hs | hs
  · rw [hs] at h'; cases h'
  · omega

end Go.Proofs.Ytejadojilncbjaa
