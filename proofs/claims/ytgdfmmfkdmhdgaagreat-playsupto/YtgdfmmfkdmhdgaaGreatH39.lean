import Derived.Test.YtgdfmmfkdmhdgaaGreatH24
namespace Go.Proofs.YtgdfmmfkdmhdgaaGreat
open Go.RowKit
set_option linter.unusedVariables false
attribute [local go_sem ↓] Go.wp_at_zero Go.wp_at_succ

theorem belowDrewN {n : Nat} {w w' : World} (h : Below n w w') (k : Nat) : Below n w (w'.drewN k) := ⟨h.os, h.tape, h.output, h.size, h.block⟩

set_option maxHeartbeats 2000000 in
theorem sameInts_any (a b : Option Addr) (ca cb : Nat) (zs : List Int) (w : World) (hn : zs.length ≤ 2 ^ 40) (ha : Ints w w.heap.size a zs) (hb : Ints w w.heap.size b zs) :
    Calls Tryz.prog 15 #[.slice a zs.length ca, .slice b zs.length cb] w fun e w' => e = .returned (.bool true) ∧ Below w.heap.size w w' := by
  have HA : Hid (Ints w w.heap.size a zs) := ha
  have HB : Hid (Ints w w.heap.size b zs) := hb
  clear ha hb
  go_enter Tryz.func15, Tryz.ntmps15
  go_wp2
  go_loopg [5] (zs.length + 1) (fun m t wr => ∃ k : Nat, t = .int .i64 (k : Int) ∧ k ≤ zs.length ∧ m = zs.length + 1 - k ∧ Hid (Below w.heap.size w wr))
  case atStart => exact ⟨0, rfl, by omega, by omega, Below.refl _ _⟩
  case round =>
    obtain ⟨k, rfl, hk, hgk, HBk⟩ := hrel
    by_cases hlt : k < zs.length
    · obtain ⟨b1, o1, hA1, hb1, hc1⟩ := HA.out k hlt
      obtain ⟨b2, o2, hB1, hb2, hc2⟩ := HB.out k hlt
      have hd1 : wr.cell? ⟨b1, o1 + k, none⟩ = some (.int .i64 (zs.getD k 0)) := (World.cell?_of_block ((HBk.out).block b1 hb1)).trans hc1
      have hd2 : wr.cell? ⟨b2, o2 + k, none⟩ = some (.int .i64 (zs.getD k 0)) := (World.cell?_of_block ((HBk.out).block b2 hb2)).trans hc2
      have hk0 : (0 : Int) ≤ (k : Int) := by omega
      have hk1 : (k : Int) < (zs.length : Int) := by omega
      have hwk : IntKind.i64.wrap ((k : Int) + 1) = (k : Int) + 1 := wrapF _ (by omega) (by omega)
      subst hA1 hB1
      generalize zs.getD k 0 = z at *
      clear hc1 hc2 HA HB
      go_wp2
      go_quiet (fail)
      go_wp2
      go_roundg (gk - 1)
      case rel => exact ⟨k + 1, by simp, by omega, by omega, belowDrewN HBk.out nq⟩
      case measure => omega
    · have hke : ¬ (k : Int) < (zs.length : Int) := by omega
      go_wp2
      go_ret
      exact ⟨rfl, HBk.out⟩

end Go.Proofs.YtgdfmmfkdmhdgaaGreat
