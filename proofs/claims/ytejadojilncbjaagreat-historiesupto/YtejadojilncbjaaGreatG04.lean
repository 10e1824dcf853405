import Derived.Test.YtejadojilncbjaaGreatG03
namespace Go.Proofs.YtejadojilncbjaaGreat
open Go.RowKit
set_option linter.unusedVariables false
attribute [local go_sem ↓] Go.wp_at_zero Go.wp_at_succ
theorem wrapP (n : Int) (h1 : -1152921504606846976 ≤ n) (h2 : n ≤ 1152921504606846976) : IntKind.i64.wrap n = n := by rw [IntKind.wrap_i64]; omega
theorem isReg_any (v : Int) (w : World) : Calls Tryz.prog 171 #[.int .i64 v] w fun e w' => e = .returned (.bool (inB v 0 3)) ∧ w' = w := by
 go_enter Tryz.func171, Tryz.ntmps171
 go_wp2_with (go_at_call 75; refine (within_any _ _ _ _).mono ?_; rintro e w' ⟨rfl, rfl⟩)
 go_ret
 exact ⟨rfl, rfl⟩
theorem sum_any (a b : Int) (w : World) (h1 : 0 ≤ a ∧ a ≤ 65535) (h2 : 0 ≤ b ∧ b ≤ 65535) : Calls Tryz.prog 172 #[.int .i64 a, .int .i64 b] w fun e w' => e = .returned (.int .i64 ((a + b).tmod 65536)) ∧ w' = w := by
 obtain ⟨h1, h1'⟩ := h1
 obtain ⟨h2, h2'⟩ := h2
 have hw : IntKind.i64.wrap (a + b) = a + b := wrapP _ (by omega) (by omega)
 have hw2 : IntKind.i64.wrap (a + b - 65536) = a + b - 65536 := wrapP _ (by omega) (by omega)
 have he : (a + b).tmod 65536 = if 65535 < a + b then a + b - 65536 else a + b := by
  rw [Int.tmod_eq_emod_of_nonneg (by omega)]
  split <;> omega
 have HE : Hid ((a + b).tmod 65536 = if 65535 < a + b then a + b - 65536 else a + b) := he
 clear he
 by_cases h : 65535 < a + b
 ·go_enter Tryz.func172, Tryz.ntmps172
  go_wp2
  go_ret
  exact ⟨by rw [HE.out, if_pos h]; rfl, rfl⟩
 ·go_enter Tryz.func172, Tryz.ntmps172
  go_wp2
  go_ret
  exact ⟨by rw [HE.out, if_neg (by omega)]; rfl, rfl⟩
theorem diff_any (a b : Int) (w : World) (h1 : 0 ≤ a ∧ a ≤ 65535) (h2 : 0 ≤ b ∧ b ≤ 65535) : Calls Tryz.prog 173 #[.int .i64 a, .int .i64 b] w fun e w' => e = .returned (.int .i64 ((a + 65535 + 1 - b).tmod 65536)) ∧ w' = w := by
 obtain ⟨h1, h1'⟩ := h1
 obtain ⟨h2, h2'⟩ := h2
 have hw : IntKind.i64.wrap (a - b) = a - b := wrapP _ (by omega) (by omega)
 have hw2 : IntKind.i64.wrap (a - b + 65536) = a - b + 65536 := wrapP _ (by omega) (by omega)
 have he : (a + 65535 + 1 - b).tmod 65536 = if a - b < 0 then a - b + 65536 else a - b := by
  rw [Int.tmod_eq_emod_of_nonneg (by omega)]
  split <;> omega
 have HE : Hid ((a + 65535 + 1 - b).tmod 65536 = if a - b < 0 then a - b + 65536 else a - b) := he
 clear he
 by_cases h : a - b < 0
 ·go_enter Tryz.func173, Tryz.ntmps173
  go_wp2
  go_ret
  exact ⟨by rw [HE.out, if_pos h]; rfl, rfl⟩
 ·go_enter Tryz.func173, Tryz.ntmps173
  go_wp2
  go_ret
  exact ⟨by rw [HE.out, if_neg (by omega)]; rfl, rfl⟩
set_option maxHeartbeats 2000000 in
theorem wellFormed_core (op a b c n : Int) (w : World) :
  Calls Tryz.prog 156 #[.agg #[.int .i64 op, .int .i64 a, .int .i64 b, .int .i64 c], .int .i64 n] w fun e w' =>
   e = .returned (.bool (formedB ⟨op, a, b, c⟩ n)) ∧ Below w.heap.size w w' := by
 by_cases h0 : op = 0
 ·subst h0
  go_enter Tryz.func156, Tryz.ntmps156
  go_wp2_with (first | (go_at_call 75; refine (within_any _ _ _ _).mono ?_; rintro e w' ⟨rfl, rfl⟩) | (go_at_call 171; refine (isReg_any _ _).mono ?_; rintro e w' ⟨rfl, rfl⟩))
  all_goals
   go_ret
   exact ⟨by simp [formedB, *], (Below.refl _ _).alloc (Nat.le_refl _) _⟩
 by_cases h1 : op = 1
 ·subst h1
  go_enter Tryz.func156, Tryz.ntmps156
  go_wp2_with (first | (go_at_call 75; refine (within_any _ _ _ _).mono ?_; rintro e w' ⟨rfl, rfl⟩) | (go_at_call 171; refine (isReg_any _ _).mono ?_; rintro e w' ⟨rfl, rfl⟩))
  all_goals
   go_ret
   exact ⟨by simp [formedB, *], (Below.refl _ _).alloc (Nat.le_refl _) _⟩
 by_cases h2 : op = 2
 ·subst h2
  go_enter Tryz.func156, Tryz.ntmps156
  go_wp2_with (first | (go_at_call 75; refine (within_any _ _ _ _).mono ?_; rintro e w' ⟨rfl, rfl⟩) | (go_at_call 171; refine (isReg_any _ _).mono ?_; rintro e w' ⟨rfl, rfl⟩))
  all_goals
   go_ret
   exact ⟨by simp [formedB, *], (Below.refl _ _).alloc (Nat.le_refl _) _⟩
 by_cases h3 : op = 3
 ·subst h3
  go_enter Tryz.func156, Tryz.ntmps156
  go_wp2_with (first | (go_at_call 75; refine (within_any _ _ _ _).mono ?_; rintro e w' ⟨rfl, rfl⟩) | (go_at_call 171; refine (isReg_any _ _).mono ?_; rintro e w' ⟨rfl, rfl⟩))
  all_goals
   go_ret
   exact ⟨by simp [formedB, *], (Below.refl _ _).alloc (Nat.le_refl _) _⟩
 by_cases h4 : op = 4
 ·subst h4
  go_enter Tryz.func156, Tryz.ntmps156
  go_wp2_with (first | (go_at_call 75; refine (within_any _ _ _ _).mono ?_; rintro e w' ⟨rfl, rfl⟩) | (go_at_call 171; refine (isReg_any _ _).mono ?_; rintro e w' ⟨rfl, rfl⟩))
  all_goals
   go_ret
   exact ⟨by simp [formedB, *], (Below.refl _ _).alloc (Nat.le_refl _) _⟩
 by_cases h5 : op = 5
 ·subst h5
  go_enter Tryz.func156, Tryz.ntmps156
  go_wp2_with (first | (go_at_call 75; refine (within_any _ _ _ _).mono ?_; rintro e w' ⟨rfl, rfl⟩) | (go_at_call 171; refine (isReg_any _ _).mono ?_; rintro e w' ⟨rfl, rfl⟩))
  all_goals
   go_ret
   exact ⟨by simp [formedB, *], (Below.refl _ _).alloc (Nat.le_refl _) _⟩
 by_cases h6 : op = 6
 ·subst h6
  go_enter Tryz.func156, Tryz.ntmps156
  go_wp2_with (first | (go_at_call 75; refine (within_any _ _ _ _).mono ?_; rintro e w' ⟨rfl, rfl⟩) | (go_at_call 171; refine (isReg_any _ _).mono ?_; rintro e w' ⟨rfl, rfl⟩))
  all_goals
   go_ret
   exact ⟨by simp [formedB, *], (Below.refl _ _).alloc (Nat.le_refl _) _⟩
 by_cases h7 : op = 7
 ·subst h7
  go_enter Tryz.func156, Tryz.ntmps156
  go_wp2_with (first | (go_at_call 75; refine (within_any _ _ _ _).mono ?_; rintro e w' ⟨rfl, rfl⟩) | (go_at_call 171; refine (isReg_any _ _).mono ?_; rintro e w' ⟨rfl, rfl⟩))
  all_goals
   go_ret
   exact ⟨by simp [formedB, *], (Below.refl _ _).alloc (Nat.le_refl _) _⟩
 by_cases h8 : op = 8
 ·subst h8
  go_enter Tryz.func156, Tryz.ntmps156
  go_wp2_with (first | (go_at_call 75; refine (within_any _ _ _ _).mono ?_; rintro e w' ⟨rfl, rfl⟩) | (go_at_call 171; refine (isReg_any _ _).mono ?_; rintro e w' ⟨rfl, rfl⟩))
  all_goals
   go_ret
   exact ⟨by simp [formedB, *], (Below.refl _ _).alloc (Nat.le_refl _) _⟩
 have HF : Hid (formedB ⟨op, a, b, c⟩ n = false) := by
  show formedB _ _ = false
  simp [formedB, h0, h1, h2, h3, h4, h5, h6, h7, h8]
 have g0 : (op == 0) = false := by simpa using h0
 have g1 : (op == 1) = false := by simpa using h1
 have g2 : (op == 2) = false := by simpa using h2
 have g3 : (op == 3) = false := by simpa using h3
 have g4 : (op == 4) = false := by simpa using h4
 have g5 : (op == 5) = false := by simpa using h5
 have g6 : (op == 6) = false := by simpa using h6
 have g7 : (op == 7) = false := by simpa using h7
 have g8 : (op == 8) = false := by simpa using h8
 clear h0 h1 h2 h3 h4 h5 h6 h7 h8
 go_enter Tryz.func156, Tryz.ntmps156
 go_wp2
 go_ret
 exact ⟨by rw [HF.out]; rfl, (Below.refl _ _).alloc (Nat.le_refl _) _⟩
end Go.Proofs.YtejadojilncbjaaGreat
