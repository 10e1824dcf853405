import Derived.Test.YtejadojilncbjaaModel
namespace Go.Proofs.Ytejadojilncbjaa
open Go.RowKit
set_option linter.unusedVariables false

set_option maxHeartbeats 2000000 in
theorem formed_core (op a b c n : Int) (w : World) :
    Calls Try.prog 76 #[.agg #[.int .i64 op, .int .i64 a, .int .i64 b, .int .i64 c], .int .i64 n] w fun e w' =>
      e = .returned (.bool (formedB ⟨op, a, b, c⟩ n)) ∧ Below w.heap.size w w' := by
  by_cases h0 : op = 0
  · subst h0
    go_enter Try.func76, Try.ntmps76
    go_wp2_with (go_at_call 29; refine (is_any _ _ _ _).mono ?_; rintro e w' ⟨rfl, rfl⟩)
    all_goals
      go_ret
      exact ⟨by simp [formedB, *], (Below.refl _ _).alloc (Nat.le_refl _) _⟩
  by_cases h1 : op = 1
  · subst h1
    go_enter Try.func76, Try.ntmps76
    go_wp2_with (go_at_call 29; refine (is_any _ _ _ _).mono ?_; rintro e w' ⟨rfl, rfl⟩)
    all_goals
      go_ret
      exact ⟨by simp [formedB, *], (Below.refl _ _).alloc (Nat.le_refl _) _⟩
  by_cases h2 : op = 2
  · subst h2
    go_enter Try.func76, Try.ntmps76
    go_wp2_with (go_at_call 29; refine (is_any _ _ _ _).mono ?_; rintro e w' ⟨rfl, rfl⟩)
    all_goals
      go_ret
      exact ⟨by simp [formedB, *], (Below.refl _ _).alloc (Nat.le_refl _) _⟩
  by_cases h3 : op = 3
  · subst h3
    go_enter Try.func76, Try.ntmps76
    go_wp2_with (go_at_call 29; refine (is_any _ _ _ _).mono ?_; rintro e w' ⟨rfl, rfl⟩)
    all_goals
      go_ret
      exact ⟨by simp [formedB, *], (Below.refl _ _).alloc (Nat.le_refl _) _⟩
  by_cases h4 : op = 4
  · subst h4
    go_enter Try.func76, Try.ntmps76
    go_wp2_with (go_at_call 29; refine (is_any _ _ _ _).mono ?_; rintro e w' ⟨rfl, rfl⟩)
    all_goals
      go_ret
      exact ⟨by simp [formedB, *], (Below.refl _ _).alloc (Nat.le_refl _) _⟩
  by_cases h5 : op = 5
  · subst h5
    go_enter Try.func76, Try.ntmps76
    go_wp2_with (go_at_call 29; refine (is_any _ _ _ _).mono ?_; rintro e w' ⟨rfl, rfl⟩)
    all_goals
      go_ret
      exact ⟨by simp [formedB, *], (Below.refl _ _).alloc (Nat.le_refl _) _⟩
  by_cases h6 : op = 6
  · subst h6
    go_enter Try.func76, Try.ntmps76
    go_wp2_with (go_at_call 29; refine (is_any _ _ _ _).mono ?_; rintro e w' ⟨rfl, rfl⟩)
    all_goals
      go_ret
      exact ⟨by simp [formedB, *], (Below.refl _ _).alloc (Nat.le_refl _) _⟩
  by_cases h7 : op = 7
  · subst h7
    go_enter Try.func76, Try.ntmps76
    go_wp2_with (go_at_call 29; refine (is_any _ _ _ _).mono ?_; rintro e w' ⟨rfl, rfl⟩)
    all_goals
      go_ret
      exact ⟨by simp [formedB, *], (Below.refl _ _).alloc (Nat.le_refl _) _⟩
  by_cases h8 : op = 8
  · subst h8
    go_enter Try.func76, Try.ntmps76
    go_wp2_with (go_at_call 29; refine (is_any _ _ _ _).mono ?_; rintro e w' ⟨rfl, rfl⟩)
    all_goals
      go_ret
      exact ⟨by simp [formedB, *], (Below.refl _ _).alloc (Nat.le_refl _) _⟩
  have HF : Hid (formedB ⟨op, a, b, c⟩ n = false) := by
    show formedB _ _ = false
    simp [formedB, h0, h1, h2, h3, h4, h5, h6, h7, h8]
  have g0 : (op == 0) = false := by simpa using h0
  have g1 : (op == 1) = false := by simpa using h1
  have g2 : (op == 2) = false := by simpa using h2
  have g3 : (op == 3) = false := by simpa using h3
  have g4 : (op == 4) = false := by simpa using h4
  have g5 : (op == 5) = false := by simpa using h5
  have g6 : (op == 6) = false := by simpa using h6
  have g7 : (op == 7) = false := by simpa using h7
  have g8 : (op == 8) = false := by simpa using h8
  clear h0 h1 h2 h3 h4 h5 h6 h7 h8
  go_enter Try.func76, Try.ntmps76
  go_wp2
  go_ret
  exact ⟨by rw [HF.out]; rfl, (Below.refl _ _).alloc (Nat.le_refl _) _⟩

end Go.Proofs.Ytejadojilncbjaa
