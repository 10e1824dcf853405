import Derived.Test.YtejadojilncbjabGreatK24
namespace Go.Proofs.YtejadojilncbjabGreat
open Go.RowKit
set_option linter.unusedVariables false
attribute [local go_sem ↓] Go.wp_at_zero Go.wp_at_succ
theorem z_compute_any (z : Nat) (T : TypeId) (A B : List Value) (p : Nat) (m : MS) (i : InsD) (n : Int) (w : World) (hb : MAt w p z T A B m) (hm : MOk m) (hf : formedB i n = true) (ho : 2 ≤ i.op ∧ i.op ≤ 6) :
  Calls Tryz.prog 125 #[.pointer (some ⟨p, z, none⟩), .agg #[.int .i64 i.op, .int .i64 i.a, .int .i64 i.b, .int .i64 i.c]] w fun e w' => e = .returned (.tuple #[]) ∧ MAt w' p z T A B (pComp m i) ∧ Only p w w' := by
 obtain ⟨op, a, b, c⟩ := i
 simp only at ho
 by_cases o2 : op = 2
 ·subst o2
  obtain ⟨⟨a0, a1⟩, _⟩ := formed2 hf rfl
  obtain ⟨ka, rfl⟩ := Int.eq_ofNat_of_zero_le a0
  exact z_compute_set z T A B p ka m b c w hb hm.1 (by simp only at a1; omega)
 by_cases o3 : op = 3
 ·subst o3
  obtain ⟨⟨a0, a1⟩, ⟨b0, b1⟩, ⟨c0, c1⟩⟩ := formed34 hf (Or.inl rfl)
  obtain ⟨ka, rfl⟩ := Int.eq_ofNat_of_zero_le a0
  obtain ⟨kb, rfl⟩ := Int.eq_ofNat_of_zero_le b0
  obtain ⟨kc, rfl⟩ := Int.eq_ofNat_of_zero_le c0
  exact z_compute_add z T A B p ka kb kc m w hb hm.1 hm.2 (by simp only at a1; omega) (by simp only at b1; omega) (by simp only at c1; omega)
 by_cases o4 : op = 4
 ·subst o4
  obtain ⟨⟨a0, a1⟩, ⟨b0, b1⟩, ⟨c0, c1⟩⟩ := formed34 hf (Or.inr rfl)
  obtain ⟨ka, rfl⟩ := Int.eq_ofNat_of_zero_le a0
  obtain ⟨kb, rfl⟩ := Int.eq_ofNat_of_zero_le b0
  obtain ⟨kc, rfl⟩ := Int.eq_ofNat_of_zero_le c0
  exact z_compute_sub z T A B p ka kb kc m w hb hm.1 hm.2 (by simp only at a1; omega) (by simp only at b1; omega) (by simp only at c1; omega)
 by_cases o5 : op = 5
 ·subst o5
  obtain ⟨c0, c1⟩ := formed5 hf rfl
  obtain ⟨kc, rfl⟩ := Int.eq_ofNat_of_zero_le c0
  exact z_compute_jump z T A B p kc m a b w hb
 ·have o6 : op = 6 := by omega
  subst o6
  obtain ⟨⟨a0, a1⟩, ⟨b0, b1⟩, ⟨c0, c1⟩⟩ := formed6 hf rfl
  obtain ⟨ka, rfl⟩ := Int.eq_ofNat_of_zero_le a0
  obtain ⟨kb, rfl⟩ := Int.eq_ofNat_of_zero_le b0
  obtain ⟨kc, rfl⟩ := Int.eq_ofNat_of_zero_le c0
  exact z_compute_less z T A B p ka kb kc m w hb (by simp only at a1; omega) (by simp only at b1; omega)
theorem z_word_any (z : Nat) (T : TypeId) (A B : List Value) (p : Nat) (m : MS) (i : InsD) (n wd : Int) (w : World) (hb : MAt w p z T A B m) (hf : formedB i n = true) (ho : i.op = 7 ∨ i.op = 8) (hw1 : 1 ≤ wd) (hw2 : wd ≤ 8) :
  Calls Tryz.prog 124 #[.pointer (some ⟨p, z, none⟩), .agg #[.int .i64 i.op, .int .i64 i.a, .int .i64 i.b, .int .i64 i.c], .int .i64 wd] w fun e w' => e = .returned (.agg (turnCells (pWord wd m i).1)) ∧ MAt w' p z T A B (pWord wd m i).2 ∧ Only p w w' := by
 obtain ⟨op, a, b, c⟩ := i
 obtain ⟨⟨a0, a1⟩, ⟨b0, b1⟩⟩ := formed78 hf ho
 obtain ⟨ka, rfl⟩ := Int.eq_ofNat_of_zero_le a0
 obtain ⟨kb, rfl⟩ := Int.eq_ofNat_of_zero_le b0
 simp only at ho a1 b1
 rcases ho with rfl | rfl
 ·refine (z_word_read z T A B p ka kb m c wd w hb (by omega) hw1 hw2).mono ?_
  rintro e w' ⟨rfl, h1, h2⟩
  refine ⟨?_, h1, h2⟩
  unfold pWord turnCells mReg
  simp only [if_true, Int.toNat_natCast]
  split <;> rfl
 ·refine (z_word_write z T A B p ka kb m c wd w hb (by omega) (by omega) hw1 hw2).mono ?_
  rintro e w' ⟨rfl, h1, h2⟩
  have e : pWord wd m ⟨8, (ka : Int), (kb : Int), c⟩ = ((if inB (m.regs.getD ka 0) 0 (wd - 1) then ⟨0, 8, m.regs.getD ka 0, m.regs.getD kb 0⟩ else ⟨3, 0, 0, 0⟩), m) := if_neg (by simp)
  rw [e]
  refine ⟨?_, h1, h2⟩
  by_cases hin : inB (m.regs.getD ka 0) 0 (wd - 1) = true
  ·simp only [hin, if_true]
   rfl
  ·simp only [hin]
   rfl
end Go.Proofs.YtejadojilncbjabGreat
