import Derived.Test.YtejadojilncbjabGreatK15
namespace Go.Proofs.YtejadojilncbjabGreat
open Go.RowKit
set_option linter.unusedVariables false
attribute [local go_sem ↓] Go.wp_at_zero Go.wp_at_succ
set_option maxHeartbeats 8000000 in
theorem compute_add (p ka kb kc : Nat) (m : MS) (w : World) (hb : Blk w p 130 (mArr m)) (hl : m.regs.length = 4) (hr : ∀ v ∈ m.regs, 0 ≤ v ∧ v ≤ 65535) (hka : ka < 4) (hkb : kb < 4) (hkc : kc < 4) :
  Calls Tryz.prog 125 #[.pointer (some ⟨p, 0, none⟩), .agg #[.int .i64 3, .int .i64 (ka : Int), .int .i64 (kb : Int), .int .i64 (kc : Int)]] w fun e w' => e = .returned (.tuple #[]) ∧ Blk w' p 130 (mArr { m with regs := m.regs.set ka ((m.regs.getD kb 0 + m.regs.getD kc 0).tmod 65536) }) ∧ Only p w w' := by
 have HB : Hid (Blk w p 130 (mArr m)) := hb
 have hlt := hb.lt
 have hvb : 0 ≤ m.regs.getD kb 0 ∧ m.regs.getD kb 0 ≤ 65535 := by
  rw [show m.regs.getD kb 0 = m.regs[kb]'(by omega) from by simp [List.getD, List.getElem?_eq_getElem (show kb < m.regs.length by omega)]]
  exact hr _ (List.getElem_mem _)
 have hvc : 0 ≤ m.regs.getD kc 0 ∧ m.regs.getD kc 0 ≤ 65535 := by
  rw [show m.regs.getD kc 0 = m.regs[kc]'(by omega) from by simp [List.getD, List.getElem?_eq_getElem (show kc < m.regs.length by omega)]]
  exact hr _ (List.getElem_mem _)
 have hka0 : (0 : Int) ≤ (ka : Int) := by omega
 have hka1 : (ka : Int) < 4 := by omega
 have hkb0 : (0 : Int) ≤ (kb : Int) := by omega
 have hkb1 : (kb : Int) < 4 := by omega
 have hkc0 : (0 : Int) ≤ (kc : Int) := by omega
 have hkc1 : (kc : Int) < 4 := by omega
 obtain ⟨ra, HRA⟩ : ∃ ra, Hid (m.regs.getD ka 0 = ra) := ⟨_, rfl⟩
 obtain ⟨rb, HRB⟩ : ∃ rb, Hid (m.regs.getD kb 0 = rb) := ⟨_, rfl⟩
 obtain ⟨rc, HRC⟩ : ∃ rc, Hid (m.regs.getD kc 0 = rc) := ⟨_, rfl⟩
 rw [show m.regs.getD kb 0 = rb from HRB.out] at hvb ⊢
 rw [show m.regs.getD kc 0 = rc from HRC.out] at hvc ⊢
 clear hb hr
 go_enter Tryz.func125, Tryz.ntmps125
 go_wp2_with fail
 obtain ⟨w0, hw0⟩ : ∃ w0, w0 = w.alloc (.cells (#[.int .i64 3, .int .i64 (ka : Int), .int .i64 (kb : Int), .int .i64 (kc : Int)] : Array Value) 110) := ⟨_, rfl⟩
 obtain ⟨ib, hib⟩ : ∃ ib, ib = w.heap.size := ⟨_, rfl⟩
 have hbi : Blk w0 ib 110 (#[.int .i64 3, .int .i64 (ka : Int), .int .i64 (kb : Int), .int .i64 (kc : Int)] : Array Value) := by rw [hw0, hib]; exact Blk.new w 110 _
 have hbp : Blk w0 p 130 (mArr m) := by rw [hw0]; exact (HB.out).alloc _
 have hne : ib ≠ p := by omega
 have HS0 : Hid (∀ j, w0.cell? ⟨ib, j, none⟩ = (#[.int .i64 3, .int .i64 (ka : Int), .int .i64 (kb : Int), .int .i64 (kc : Int)] : Array Value)[j]?) := hbi.cell
 have HS1 : Hid (∀ v : Value, ∀ j, (w0.setCell ⟨p, ka, none⟩ v).drew.cell? ⟨ib, j, none⟩ = (#[.int .i64 3, .int .i64 (ka : Int), .int .i64 (kb : Int), .int .i64 (kc : Int)] : Array Value)[j]?) := fun v => (hbi.only ((Only.refl _ _).set) hne).cell
 have hra := mArr_reg hbp ka hka
 have hrb := mArr_reg hbp kb hkb
 have hrc := mArr_reg hbp kc hkc
 have hf := hbp.frozen ka
 rw [show m.regs.getD ka 0 = ra from HRA.out] at hra
 rw [show m.regs.getD kb 0 = rb from HRB.out] at hrb
 rw [show m.regs.getD kc 0 = rc from HRC.out] at hrc
 have HF : Hid (Blk (w0.setCell ⟨p, ka, none⟩ (.int .i64 ((rb + rc).tmod 65536))) p 130 (mArr { m with regs := m.regs.set ka ((rb + rc).tmod 65536) }) ∧ Only p w (w0.setCell ⟨p, ka, none⟩ (.int .i64 ((rb + rc).tmod 65536)))) := by
  refine ⟨mArr_set hbp hl ka hka _, ?_⟩
  have : Only p w w0 := by rw [hw0]; exact Only.below ((Below.refl _ _).alloc (Nat.le_refl _) _)
  exact this.set
 have HV : Hid ((0 ≤ rb ∧ rb ≤ 65535) ∧ (0 ≤ rc ∧ rc ≤ 65535)) := ⟨hvb, hvc⟩
 rw [← hw0, ← hib]
 clear hw0 hib hlt hvb hvc hbi hbp hne
 clear HS1 HRA HRB HRC
 have hins := HS0.out
 clear HS0
 go_region_with (go_at_call 139; refine (sum_any _ _ _ (HV.out).1 (HV.out).2).mono ?_; rintro e w' ⟨rfl, rfl⟩)
 all_goals
  go_wp2
  go_end0
  exact ⟨rfl, (HF.out).1, (HF.out).2.drew⟩
end Go.Proofs.YtejadojilncbjabGreat
