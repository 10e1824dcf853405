import Derived.Test.YtejadojilncbjaaPa
import Derived.Test.YtejadojilncbjaaRep
namespace Go.Proofs.Ytejadojilncbjaa
open Go.RowKit
set_option linter.unusedVariables false
attribute [local go_sem ↓] Go.wp_at_zero Go.wp_at_succ

/-- The program's machine. -/
structure MS where
  regs : List Int
  place : Nat
  begun : Nat
  into : Int

def mArr (m : MS) : Array Value := #[.int .i64 (m.regs.getD 0 0), .int .i64 (m.regs.getD 1 0), .int .i64 (m.regs.getD 2 0), .int .i64 (m.regs.getD 3 0), .int .i64 m.place, .int .i64 m.begun, .int .i64 m.into]

theorem mArr_reg {w : World} {p : Nat} {m : MS} (h : Blk w p 92 (mArr m)) (k : Nat) (hk : k < 4) : w.cell? ⟨p, k, none⟩ = some (.int .i64 (m.regs.getD k 0)) := by
  rw [h.cell]
  have : k = 0 ∨ k = 1 ∨ k = 2 ∨ k = 3 := by omega
  rcases this with rfl | rfl | rfl | rfl <;> rfl
theorem mArr_set {w : World} {p : Nat} {m : MS} (h : Blk w p 92 (mArr m)) (hl : m.regs.length = 4) (k : Nat) (hk : k < 4) (v : Int) : Blk (w.setCell ⟨p, k, none⟩ (.int .i64 v)) p 92 (mArr { m with regs := m.regs.set k v }) := by
  refine h.set.congr ?_
  obtain ⟨regs, place, begun, into⟩ := m
  simp only at hl
  obtain ⟨a, b, c, d, rfl⟩ := list4 hl
  have : k = 0 ∨ k = 1 ∨ k = 2 ∨ k = 3 := by omega
  rcases this with rfl | rfl | rfl | rfl <;> rfl

set_option maxHeartbeats 2000000 in
theorem give_any (p ki : Nat) (m : MS) (v : Int) (w : World) (hb : Blk w p 92 (mArr m)) (hl : m.regs.length = 4) (hi : m.into = (ki : Int)) (hk : ki < 4) :
    Calls Try.prog 46 #[.pointer (some ⟨p, 0, none⟩), .int .i64 v] w fun e w' => e = .returned (.tuple #[]) ∧ Blk w' p 92 (mArr { m with regs := m.regs.set ki v }) ∧ Only p w w' := by
  have HB : Hid (Blk w p 92 (mArr m)) := hb
  have h6 : w.cell? ⟨p, 6, none⟩ = some (.int .i64 (ki : Int)) := by rw [hb.cell, ← hi]; rfl
  have hr := mArr_reg hb ki hk
  have hf := hb.frozen ki
  have hk0 : (0 : Int) ≤ (ki : Int) := by omega
  have hk1 : (ki : Int) < 4 := by omega
  clear hb hi
  go_enter Try.func46, Try.ntmps46
  go_wp2
  go_region
  all_goals
    go_wp2
    go_end0
    refine ⟨rfl, ?_, ?_⟩
    · exact mArr_set (show Blk w.drew p 92 (mArr m) from HB.out) hl ki hk v
    · exact (Only.refl _ _).drew.set

set_option maxHeartbeats 4000000 in
theorem compute_set (p ka : Nat) (m : MS) (b c : Int) (w : World) (hb : Blk w p 92 (mArr m)) (hl : m.regs.length = 4) (hk : ka < 4) :
    Calls Try.prog 57 #[.pointer (some ⟨p, 0, none⟩), .agg #[.int .i64 2, .int .i64 (ka : Int), .int .i64 b, .int .i64 c]] w fun e w' => e = .returned (.tuple #[]) ∧ Blk w' p 92 (mArr { m with regs := m.regs.set ka b }) ∧ Only p w w' := by
  have HB : Hid (Blk w p 92 (mArr m)) := hb
  have hr := mArr_reg hb ka hk
  have hf := hb.frozen ka
  have hlt := hb.lt
  have hk0 : (0 : Int) ≤ (ka : Int) := by omega
  have hk1 : (ka : Int) < 4 := by omega
  clear hb
  go_enter Try.func57, Try.ntmps57
  go_wp2_with fail
  go_region
  all_goals
    go_wp2
    go_end0
    refine ⟨rfl, ?_, ?_⟩
    · exact (mArr_set HB.out hl ka hk b).alloc _
    · exact (((Only.refl _ _).set).trans (Only.below ((Below.refl _ _).alloc (Nat.le_refl _) _))).drew

set_option maxHeartbeats 4000000 in
theorem compute_jump (p kc : Nat) (m : MS) (a b : Int) (w : World) (hb : Blk w p 92 (mArr m)) :
    Calls Try.prog 57 #[.pointer (some ⟨p, 0, none⟩), .agg #[.int .i64 5, .int .i64 a, .int .i64 b, .int .i64 (kc : Int)]] w fun e w' => e = .returned (.tuple #[]) ∧ Blk w' p 92 (mArr { m with place := kc }) ∧ Only p w w' := by
  have HB : Hid (Blk w p 92 (mArr m)) := hb
  have h4 : w.cell? ⟨p, 4, none⟩ = some (.int .i64 m.place) := by rw [hb.cell]; rfl
  have hf := hb.frozen 4
  have hlt := hb.lt
  clear hb
  go_enter Try.func57, Try.ntmps57
  go_wp2
  go_end0
  refine ⟨rfl, ?_, ?_⟩
  · exact ((((HB.out).set (i := 4) (v := .int .i64 (kc : Int))).congr (show _ = mArr { m with place := kc } by simp [mArr])).alloc _)
  · exact ((Only.refl _ _).set).trans (Only.below ((Below.refl _ _).alloc (Nat.le_refl _) _))

set_option maxHeartbeats 4000000 in
theorem compute_less (p ka kb kc : Nat) (m : MS) (w : World) (hb : Blk w p 92 (mArr m)) (hka : ka < 4) (hkb : kb < 4) :
    Calls Try.prog 57 #[.pointer (some ⟨p, 0, none⟩), .agg #[.int .i64 6, .int .i64 (ka : Int), .int .i64 (kb : Int), .int .i64 (kc : Int)]] w fun e w' => e = .returned (.tuple #[]) ∧ Blk w' p 92 (mArr (if m.regs.getD ka 0 < m.regs.getD kb 0 then { m with place := kc } else m)) ∧ Only p w w' := by
  have HB : Hid (Blk w p 92 (mArr m)) := hb
  have h4 : w.cell? ⟨p, 4, none⟩ = some (.int .i64 m.place) := by rw [hb.cell]; rfl
  have hf := hb.frozen 4
  have hlt := hb.lt
  have hra := mArr_reg hb ka hka
  have hrb := mArr_reg hb kb hkb
  have hk0 : (0 : Int) ≤ (ka : Int) := by omega
  have hk1 : (ka : Int) < 4 := by omega
  have hk2 : (0 : Int) ≤ (kb : Int) := by omega
  have hk3 : (kb : Int) < 4 := by omega
  clear hb
  by_cases hlt2 : m.regs.getD ka 0 < m.regs.getD kb 0
  · rw [if_pos hlt2]
    generalize m.regs.getD ka 0 = va at *
    generalize m.regs.getD kb 0 = vb at *
    go_enter Try.func57, Try.ntmps57
    go_wp2_with fail
    go_quiet (fail)
    go_wp2
    go_end0
    refine ⟨rfl, ?_, ?_⟩
    · exact ((((HB.out).alloc _).drewN nq).set (i := 4) (v := .int .i64 (kc : Int))).congr (by simp [mArr])
    · exact ((Only.below ((Below.refl _ _).alloc (Nat.le_refl _) _)).drewN nq).set
  · rw [if_neg hlt2]
    generalize m.regs.getD ka 0 = va at *
    generalize m.regs.getD kb 0 = vb at *
    go_enter Try.func57, Try.ntmps57
    go_wp2_with fail
    go_quiet (fail)
    go_wp2
    go_end0
    refine ⟨rfl, ?_, ?_⟩
    · exact ((HB.out).alloc _).drewN nq
    · exact (Only.below ((Below.refl _ _).alloc (Nat.le_refl _) _)).drewN nq

end Go.Proofs.Ytejadojilncbjaa
