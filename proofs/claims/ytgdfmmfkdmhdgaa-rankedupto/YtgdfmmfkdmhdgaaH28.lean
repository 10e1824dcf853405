import Derived.Test.YtgdfmmfkdmhdgaaH11
import Derived.Deep.DeepCutAuto
namespace Go.Proofs.Ytgdfmmfkdmhdgaa
open Go.RowKit
set_option linter.unusedVariables false
attribute [local go_sem ↓] Go.wp_at_zero Go.wp_at_succ

/-- Jobs in memory. -/
def JobsRep (w : World) (B : Nat) (ja : Option Addr) (jobs : List (Int × List InsD)) : Prop :=
  ∃ js : List JobD, js.length = jobs.length ∧ JobsIn w B ja js ∧ ∀ i, i < js.length → (jobAt js i).t = (jobs.getD i (0, [])).1 ∧ (jobAt js i).len = (jobs.getD i (0, [])).2.length ∧ CodeIn w B (jobAt js i).a (jobs.getD i (0, [])).2

theorem CodeIn.up {w w' : World} {n : Nat} {a : Option Addr} {is : List InsD} (h : CodeIn w n a is) (hb : Below n w w') : CodeIn w' n a is := by
  intro i hi
  obtain ⟨b, off, ha, hlt, h0, h1, h2, h3⟩ := h i hi
  have e : ∀ o, w'.cell? ⟨b, o, none⟩ = w.cell? ⟨b, o, none⟩ := fun o => World.cell?_of_block (hb.block b hlt)
  exact ⟨b, off, ha, hlt, (e _).trans h0, (e _).trans h1, (e _).trans h2, (e _).trans h3⟩
theorem JobsRep.up {w w' : World} {n : Nat} {ja : Option Addr} {jobs : List (Int × List InsD)} (h : JobsRep w n ja jobs) (hb : Below n w w') : JobsRep w' n ja jobs := by
  obtain ⟨js, h1, h2, h3⟩ := h
  refine ⟨js, h1, fun i hi => ?_, fun i hi => ⟨(h3 i hi).1, (h3 i hi).2.1, (h3 i hi).2.2.up hb⟩⟩
  obtain ⟨b, off, ha, hlt, k0, k1⟩ := h2 i hi
  have e : ∀ o, w'.cell? ⟨b, o, none⟩ = w.cell? ⟨b, o, none⟩ := fun o => World.cell?_of_block (hb.block b hlt)
  exact ⟨b, off, ha, hlt, (e _).trans k0, (e _).trans k1⟩
theorem PicksIn.up {w w' : World} {n : Nat} {a : Option Addr} {l : List PickD} (h : PicksIn w n a l) (hb : Below n w w') : PicksIn w' n a l := by
  intro i hi
  obtain ⟨b, off, ha, hlt, k0, k1⟩ := h i hi
  have e : ∀ o, w'.cell? ⟨b, o, none⟩ = w.cell? ⟨b, o, none⟩ := fun o => World.cell?_of_block (hb.block b hlt)
  exact ⟨b, off, ha, hlt, (e _).trans k0, (e _).trans k1⟩

/-- A life that is laid is a life. -/
theorem TellR.life {c : Cfg} {me : Int} {jobs : List (Int × List InsD)} {ma ja : Option Addr} {ml mc jc n : Nat} {w : World} {S D W : List Int}
    (h : TellR c me jobs ma ja ml mc jc (n + 3) (n + 2) (n + 1) w S D W) (hj : JobsRep w n ja jobs) (he : Blk w (n + 1) 35 ((jobs.map fun _ => (⟨0, 0, 0, 0, 0⟩ : ResD)).flatMap resCells).toArray) (hsz : n + 3 ≤ w.heap.size) :
    ∃ H, LifeR ⟨c, me, S, D, W, jobs⟩ H w.heap.size (n + 2) (n + 1) w (newLS ⟨c, me, S, D, W, jobs⟩) ∧ H.ea = some ⟨n + 1, 0, none⟩ ∧ H.ec = jobs.length := by
  obtain ⟨sa, sc, da, dc, wa, wc, hb, hs, hd, hw, _, _, _⟩ := h
  have far : ∀ {a : Option Addr} {k : Nat} {l : List Int}, Row w (n + 3) a k l → Far w.heap.size (n + 2) (n + 1) a := fun {a k l} h b off e => by
    have := h.base _ e
    simp only at this
    exact ⟨this.2, by omega, by omega⟩
  obtain ⟨js, h1, h2, h3⟩ := hj
  refine ⟨⟨ma, ml, mc, ja, jc, sa, sc, da, dc, wa, wc, some ⟨n + 1, 0, none⟩, jobs.length⟩, ⟨⟨Nat.le_refl _, hs.ints, far hs, hd.ints, far hd, hw.ints, far hw, ⟨js, h1, fun i hi => ?_, fun i hi => ⟨(h3 i hi).1, (h3 i hi).2.1, fun k hk => ?_, fun hne => ?_⟩⟩, fun hne => ?_⟩, ⟨none, 0, hb, ⟨[], rfl, World.ownsRow_nil _ _ _ _, by simp [newLS], by simp⟩⟩, Or.inr ⟨rfl, he⟩, by omega, by omega, by omega⟩, rfl, rfl⟩
  · obtain ⟨b, off, ha, hlt, k0, k1⟩ := h2 i hi
    exact ⟨b, off, ha, by omega, k0, k1⟩
  · obtain ⟨b, off, ha, hlt, k0, k1, k2, k3⟩ := (h3 i hi).2.2 k hk
    exact ⟨b, off, ha, by omega, k0, k1, k2, k3⟩
  · intro b off e
    obtain ⟨b', off', ha, hlt, _⟩ := (h3 i hi).2.2 0 (List.length_pos_iff.2 hne)
    rw [ha] at e
    cases e
    exact ⟨by omega, by omega, by omega⟩
  · intro b off e
    obtain ⟨b', off', ha, hlt, _⟩ := h2 0 (by rw [h1]; exact List.length_pos_iff.2 hne)
    rw [ha] at e
    cases e
    exact ⟨by omega, by omega, by omega⟩

/-- Neither the life nor a row from outside is a row of the call's own. -/
theorem Row.ne {w : World} {B b : Nat} {a : Option Addr} {k : Nat} {l : List Int} (h : Row w B a k l) (hb : b < B) : (Value.slice a l.length k).ownBlock ≠ some b := fun e => by
  have := (World.ownsRow.lt h b e).1
  omega

end Go.Proofs.Ytgdfmmfkdmhdgaa

namespace Go.Proofs.Ytgdfmmfkdmhdgaa
open Go.RowKit
set_option linter.unusedVariables false
attribute [local go_sem ↓] Go.wp_at_zero Go.wp_at_succ

theorem belowDrewN {n : Nat} {w w' : World} (h : Below n w w') (k : Nat) : Below n w (w'.drewN k) := ⟨h.os, h.tape, h.output, h.size, h.block⟩

end Go.Proofs.Ytgdfmmfkdmhdgaa
