import Derived.Test.YtejadojilncbjaaLeaf
namespace Go.Proofs.Ytejadojilncbjaa
open Go.RowKit
set_option linter.unusedVariables false

/-- A config's seven numbers. -/
structure Cfg where
  t : Int
  wd : Int
  s : Int
  g : Int
  r : Int
  cp : Int
  f : Int

def Cfg.val (c : Cfg) : Value := .agg #[.int .i64 c.t, .int .i64 c.wd, .int .i64 c.s, .int .i64 c.g, .int .i64 c.r, .int .i64 c.cp, .int .i64 c.f]

def cfgB (c : Cfg) : Bool := inB c.t 1 4 && inB c.wd 1 8 && inB c.s 1 8 && inB c.g 0 8 && inB c.r 0 4 && inB c.cp 0 8 && inB c.f 1 40

set_option maxHeartbeats 1000000 in
theorem refConfig_core (t wd s g r cp f : Int) (w : World) :
    Calls Try.prog 43 #[.agg #[.int .i64 t, .int .i64 wd, .int .i64 s, .int .i64 g, .int .i64 r, .int .i64 cp, .int .i64 f]] w fun e w' =>
      e = .returned (.bool (cfgB ⟨t, wd, s, g, r, cp, f⟩)) ∧ Below w.heap.size w w' := by
  go_enter Try.func43, Try.ntmps43
  go_wp2_with (go_at_call 29; refine (is_any _ _ _ _).mono ?_; rintro e w' ⟨rfl, rfl⟩)
  all_goals
    go_ret
    exact ⟨by simp [cfgB, *], (Below.refl _ _).alloc (Nat.le_refl _) _⟩

set_option maxHeartbeats 1000000 in
theorem configFits_core (t wd s g r cp f : Int) (w : World) :
    Calls Try.prog 52 #[.agg #[.int .i64 t, .int .i64 wd, .int .i64 s, .int .i64 g, .int .i64 r, .int .i64 cp, .int .i64 f]] w fun e w' =>
      e = .returned (.bool (cfgB ⟨t, wd, s, g, r, cp, f⟩)) ∧ Below w.heap.size w w' := by
  go_enter Try.func52, Try.ntmps52
  go_wp2_with (go_at_call 54; refine (within_any _ _ _ _).mono ?_; rintro e w' ⟨rfl, rfl⟩)
  all_goals
    go_ret
    exact ⟨by simp [cfgB, *], (Below.refl _ _).alloc (Nat.le_refl _) _⟩

end Go.Proofs.Ytejadojilncbjaa
