import Derived.Test.YtgdfmmfkdmhdgaaH49
namespace Go.Proofs.Ytgdfmmfkdmhdgaa
open Go.RowKit
set_option linter.unusedVariables false
attribute [local go_sem ↓] Go.wp_at_zero Go.wp_at_succ

/-- The keepers' world, as it lies. -/
def wArr (c : Cfg) (ma : Option Addr) (ml mc : Nat) (ja : Option Addr) (jl jc g zl cap : Nat) (s0 s1 s2 s3 k0 k1 k2 k3 : Int) : Array Value :=
  #[.int .i64 c.t, .int .i64 c.wd, .int .i64 c.s, .int .i64 c.g, .int .i64 c.r, .int .i64 c.cp, .int .i64 c.f, .slice ma ml mc, .slice ja jl jc, .slice (some ⟨g, 0, none⟩) zl cap, .int .i64 s0, .int .i64 s1, .int .i64 s2, .int .i64 s3, .int .i64 k0, .int .i64 k1, .int .i64 k2, .int .i64 k3]

def mOf (cs : List Int) : Int → Int := fun x => cs.getD x.toNat 0
def four (s0 s1 s2 s3 : Int) : Int → Int := fun t => if t = 0 then s0 else if t = 1 then s1 else if t = 2 then s2 else s3

set_option maxRecDepth 100000 in
set_option maxHeartbeats 4000000 in
theorem versioned_any (c : Cfg) (hc : cfgB c = true) (ma ja : Option Addr) (ml mc jl jc g cap base wb : Nat) (cs : List Int) (s0 s1 s2 s3 k0 k1 k2 k3 : Int) (a : AccD) (t : Nat) (ht : t < 4) (w : World)
    (hw : Blk w wb 55 (wArr c ma ml mc ja jl jc g cs.length cap s0 s1 s2 s3 k0 k1 k2 k3)) (hr : CRow w base g cap cs) (hn : cs.length ≤ 1000) (h2 : 2 < cs.length) (hl : 0 ≤ a.cell) (hh : a.cell + c.s < (cs.length : Int)) (hok : versionedB c (mOf cs) (four s0 s1 s2 s3) (t : Int) a = true) :
    Calls Try.prog 38 #[.pointer (some ⟨wb, 0, none⟩), .int .i64 (t : Int), .agg #[.int .i64 a.kind, .int .i64 a.cell, .int .i64 a.seen, .int .i64 a.put]] w fun e w' => e = .returned (.bool true) ∧ Below w.heap.size w w' := by
  obtain ⟨kind, cell, seen, put⟩ := a
  obtain ⟨_, _, ⟨z1, z2⟩, _⟩ := cfgB_true hc
  simp only at hl hh
  obtain ⟨n, rfl⟩ : ∃ n : Nat, cell = (n : Int) := ⟨cell.toNat, by omega⟩
  obtain ⟨sN, hsN⟩ : ∃ sN : Nat, c.s = (sN : Int) := ⟨c.s.toNat, by omega⟩
  unfold versionedB at hok
  simp only at hok
  by_cases hbad : kind ≠ 2 ∨ mOf cs ((n : Int) + c.s) ≠ (t : Int) + 1
  · rw [if_pos hbad] at hok; cases hok
  rw [if_neg hbad] at hok
  have hk : kind = 2 := Decidable.byContradiction fun e => hbad (Or.inl e)
  have ho : mOf cs ((n : Int) + c.s) = (t : Int) + 1 := Decidable.byContradiction fun e => hbad (Or.inr e)
  subst hk
  obtain ⟨w0, hw0⟩ : ∃ w0, w0 = w.alloc (.cells #[.int .i64 2, .int .i64 (n : Int), .int .i64 seen, .int .i64 put] 51) := ⟨_, rfl⟩
  have hB0 : Below w.heap.size w w0 := by rw [hw0]; exact (Below.refl w.heap.size w).alloc (Nat.le_refl _) _
  have hAb : Blk w0 w.heap.size 51 #[.int .i64 2, .int .i64 (n : Int), .int .i64 seen, .int .i64 put] := by rw [hw0]; exact Blk.new w 51 _
  have hr0 : CRow w0 base g cap cs := hr.below hB0 (by have := hr.lt; omega)
  have hwc := (hw.below hB0 hw.lt).cell
  have hac := hAb.cell
  have hns : (n : Int) + c.s = ((n + sN : Nat) : Int) := by omega
  have hoc : w0.cell? ⟨g, n + sN, none⟩ = some (.int .i64 ((t : Int) + 1)) := by
    rw [hr0.cell (by omega)]
    unfold mOf at ho
    rw [show ((n : Int) + c.s).toNat = n + sN from by omega] at ho
    rw [ho]
  have hgc : w0.cell? ⟨g, 2, none⟩ = some (.int .i64 (cs.getD 2 0)) := hr0.cell h2
  have x1 : IntKind.i64.wrap ((n : Int) + c.s) = ((n + sN : Nat) : Int) := by rw [hns]; exact wrapF _ (by omega) (by omega)
  have x2 : IntKind.i64.wrap ((t : Int) + 1) = (t : Int) + 1 := wrapF _ (by omega) (by omega)
  have x3 : (0 : Int) ≤ ((n + sN : Nat) : Int) := by omega
  have x4 : ((n + sN : Nat) : Int) < (cs.length : Int) := by omega
  have x5 : (2 : Int) < (cs.length : Int) := by omega
  have x6 : (0 : Int) ≤ (t : Int) := by omega
  have x7 : (t : Int) < 4 := by omega
  have HW0 : Hid (w0 = w.alloc (.cells #[.int .i64 2, .int .i64 (n : Int), .int .i64 seen, .int .i64 put] 51)) := hw0
  have HB0 : Hid (Below w.heap.size w w0) := hB0
  unfold wArr at hwc
  generalize hNS : n + sN = ns at *
  clear hw hr hB0 hAb hr0 hw0 hbad ho hns hsN hc hNS
  by_cases hp : put = -1
  · rw [if_pos hp] at hok
    simp only [Bool.and_eq_true, bne_iff_ne, ne_eq, beq_iff_eq] at hok
    have hg2 : cs.getD 2 0 = (t : Int) + 1 := hok.2
    rw [hg2] at hgc
    have bs : (seen == -1) = false := by simp [hok.1]
    have bs' : (seen != -1) = true := by simp [hok.1]
    subst hp
    clear hok hg2
    go_enter Try.func38, Try.ntmps38
    go_upto_region 1 with fail
    rw [← show w0 = _ from HW0.out]
    clear HW0
    go_wp2
    go_quiet (fail)
    go_wp2
    go_ret
    exact ⟨by simp, belowDrewN HB0.out _⟩
  · rw [if_neg hp] at hok
    simp only [Bool.and_eq_true, beq_iff_eq, decide_eq_true_eq] at hok
    obtain ⟨⟨h1, h3⟩, h4⟩ := hok
    have bp : (put == -1) = false := by simp [hp]
    have hst : w0.cell? ⟨wb, 10 + t, none⟩ = some (.int .i64 put) := by
      rw [hwc, h3]
      have : t = 0 ∨ t = 1 ∨ t = 2 ∨ t = 3 := by omega
      rcases this with rfl | rfl | rfl | rfl <;> rfl
    have hw2 : w0.cell? ⟨wb, 2, none⟩ = some (.int .i64 c.s) := hwc 2
    have hw9 : w0.cell? ⟨wb, 9, none⟩ = some (.slice (some ⟨g, 0, none⟩) cs.length cap) := hwc 9
    subst h1
    clear hp h3 hwc
    go_enter Try.func38, Try.ntmps38
    go_upto_region 1 with fail
    rw [← show w0 = _ from HW0.out]
    clear HW0
    go_wp2
    go_quiet (fail)
    go_wp2
    go_quiet (fail)
    go_wp2
    go_ret
    exact ⟨by simp, belowDrewN (belowDrewN HB0.out _) _⟩

end Go.Proofs.Ytgdfmmfkdmhdgaa
