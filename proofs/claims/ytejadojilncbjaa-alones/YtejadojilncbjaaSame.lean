import Derived.Test.YtejadojilncbjaaValue
namespace Go.Proofs.Ytejadojilncbjaa
open Go.RowKit
set_option linter.unusedVariables false
attribute [local go_sem ↓] Go.wp_at_zero Go.wp_at_succ

theorem belowDrewN {n : Nat} {w w' : World} (h : Below n w w') (k : Nat) : Below n w (w'.drewN k) := ⟨h.os, h.tape, h.output, h.size, h.block⟩

set_option maxHeartbeats 2000000 in
theorem sameInts_any (a b : Option Addr) (ca cb : Nat) (zs : List Int) (w : World) (hn : zs.length ≤ 2 ^ 40) (ha : Ints w w.heap.size a zs) (hb : Ints w w.heap.size b zs) :
    Calls Try.prog 14 #[.slice a zs.length ca, .slice b zs.length cb] w fun e w' => e = .returned (.bool true) ∧ Below w.heap.size w w' := by
  have HA : Hid (Ints w w.heap.size a zs) := ha
  have HB : Hid (Ints w w.heap.size b zs) := hb
  clear ha hb
  go_enter Try.func14, Try.ntmps14
  go_wp2
  go_loopg [5] (zs.length + 1) (fun m t wr => ∃ k : Nat, t = .int .i64 (k : Int) ∧ k ≤ zs.length ∧ m = zs.length + 1 - k ∧ Hid (Below w.heap.size w wr))
  case atStart => exact ⟨0, rfl, by omega, by omega, Below.refl _ _⟩
  case round =>
    obtain ⟨k, rfl, hk, hgk, HBk⟩ := hrel
    by_cases hlt : k < zs.length
    · obtain ⟨b1, o1, hA1, hb1, hc1⟩ := HA.out k hlt
      obtain ⟨b2, o2, hB1, hb2, hc2⟩ := HB.out k hlt
      have hd1 : wr.cell? ⟨b1, o1 + k, none⟩ = some (.int .i64 (zs.getD k 0)) := (World.cell?_of_block ((HBk.out).block b1 hb1)).trans hc1
      have hd2 : wr.cell? ⟨b2, o2 + k, none⟩ = some (.int .i64 (zs.getD k 0)) := (World.cell?_of_block ((HBk.out).block b2 hb2)).trans hc2
      have hk0 : (0 : Int) ≤ (k : Int) := by omega
      have hk1 : (k : Int) < (zs.length : Int) := by omega
      have hwk : IntKind.i64.wrap ((k : Int) + 1) = (k : Int) + 1 := wrapF _ (by omega) (by omega)
      subst hA1 hB1
      generalize zs.getD k 0 = z at *
      clear hc1 hc2 HA HB
      go_wp2
      go_quiet (fail)
      go_wp2
      go_roundg (gk - 1)
      case rel => exact ⟨k + 1, by simp, by omega, by omega, belowDrewN HBk.out nq⟩
      case measure => omega
    · have hke : ¬ (k : Int) < (zs.length : Int) := by omega
      go_wp2
      go_ret
      exact ⟨rfl, HBk.out⟩

set_option maxHeartbeats 2000000 in
theorem sameResult_any (f r0 r1 r2 r3 : Int) (w : World) :
    Calls Try.prog 13 #[.agg #[.int .i64 f, .int .i64 r0, .int .i64 r1, .int .i64 r2, .int .i64 r3], .agg #[.int .i64 f, .int .i64 r0, .int .i64 r1, .int .i64 r2, .int .i64 r3]] w fun e w' => e = .returned (.bool true) ∧ Below w.heap.size w w' := by
  go_enter Try.func13, Try.ntmps13
  go_wp2
  obtain ⟨w0, hw0⟩ : ∃ w0, w0 = (w.alloc (.cells #[.int .i64 f, .int .i64 r0, .int .i64 r1, .int .i64 r2, .int .i64 r3] 35)).alloc (.cells #[.int .i64 f, .int .i64 r0, .int .i64 r1, .int .i64 r2, .int .i64 r3] 35) := ⟨_, rfl⟩
  have HA : Hid (Blk w0 w.heap.size 35 #[.int .i64 f, .int .i64 r0, .int .i64 r1, .int .i64 r2, .int .i64 r3]) := by rw [hw0]; exact (Blk.new w 35 _).alloc _
  have HB : Hid (Blk w0 (w.heap.size + 1) 35 #[.int .i64 f, .int .i64 r0, .int .i64 r1, .int .i64 r2, .int .i64 r3]) := by
    rw [hw0]
    have := Blk.new (w.alloc (.cells #[.int .i64 f, .int .i64 r0, .int .i64 r1, .int .i64 r2, .int .i64 r3] 35)) 35 #[.int .i64 f, .int .i64 r0, .int .i64 r1, .int .i64 r2, .int .i64 r3]
    exact (by simpa using this : Blk _ _ _ _)
  have HBw : Hid (Below w.heap.size w w0) := by rw [hw0]; exact ((Below.refl w.heap.size w).alloc (Nat.le_refl _) _).alloc (by simp) _
  have hsz : w0.heap.size = w.heap.size + 2 := by rw [hw0]; simp
  rw [← hw0]
  clear hw0
  go_loopg [5] 5 (fun m t wr => ∃ k : Nat, t = .int .i64 (k : Int) ∧ k ≤ 4 ∧ m = 5 - k ∧ Hid (Below w0.heap.size w0 wr))
  case atStart => exact ⟨0, rfl, by omega, by omega, Below.refl _ _⟩
  case round =>
    obtain ⟨k, rfl, hk, hgk, HBk⟩ := hrel
    have hcA := ((HA.out).below HBk.out (by omega)).cell
    have hcB := ((HB.out).below HBk.out (by omega)).cell
    have hk4 : k = 0 ∨ k = 1 ∨ k = 2 ∨ k = 3 ∨ k = 4 := by omega
    rcases hk4 with rfl | rfl | rfl | rfl | rfl
    · go_wp2
      go_quiet (fail)
      go_wp2
      go_roundg (gk - 1)
      case rel => exact ⟨1, by first | rfl | simp, by omega, by omega, belowDrewN HBk.out nq⟩
      case measure => omega
    · go_wp2
      go_quiet (fail)
      go_wp2
      go_roundg (gk - 1)
      case rel => exact ⟨2, by first | rfl | simp, by omega, by omega, belowDrewN HBk.out nq⟩
      case measure => omega
    · go_wp2
      go_quiet (fail)
      go_wp2
      go_roundg (gk - 1)
      case rel => exact ⟨3, by first | rfl | simp, by omega, by omega, belowDrewN HBk.out nq⟩
      case measure => omega
    · go_wp2
      go_quiet (fail)
      go_wp2
      go_roundg (gk - 1)
      case rel => exact ⟨4, by first | rfl | simp, by omega, by omega, belowDrewN HBk.out nq⟩
      case measure => omega
    · go_wp2
      go_ret
      exact ⟨by simp, (HBw.out).trans ((HBk.out).mono (by omega))⟩

/-- The error that Alone tells. -/
def errN (c : Cfg) (mem : List Int) (code : List InsD) : Int := if machN c mem ≠ 0 then machN c mem else if (code.length : Int) ≤ 20 then 0 else 4

set_option maxHeartbeats 2000000 in
theorem single_any (c : Cfg) (a ca : Option Addr) (cap cc : Nat) (mem : List Int) (code : List InsD) (w : World) (hm : mem.length ≤ maxLen) (h : Ints w w.heap.size a mem) :
    Calls Try.prog 30 #[.agg #[.int .i64 c.t, .int .i64 c.wd, .int .i64 c.s, .int .i64 c.g, .int .i64 c.r, .int .i64 c.cp, .int .i64 c.f], .slice a mem.length cap, .slice ca code.length cc] w fun e w' =>
      e = .returned (.int .i64 (errN c mem code)) ∧ Below w.heap.size w w' := by
  have HI : Hid (Ints w w.heap.size a mem) := h
  clear h
  obtain ⟨R, HR⟩ : ∃ R, Hid (errN c mem code = R) := ⟨_, rfl⟩
  rw [show errN c mem code = R from HR.out]
  go_enter Try.func30, Try.ntmps30
  go_wp2_with fail
  refine (world_core _ _ _ _ _ _ _ _ _ _ mem _ rfl hm (by exact (HI.out).alloc _)).mono ?_
  rintro e w1 ⟨rfl, hb1⟩
  have HB : Hid (Below w.heap.size w w1) := ((Below.refl _ _).alloc (Nat.le_refl _) _).trans (hb1.mono (by simp))
  clear hb1
  have HU : Hid (R = if machN c mem ≠ 0 then machN c mem else if (code.length : Int) ≤ 20 then 0 else 4) := (HR.out).symm
  clear HR
  rw [show (⟨c.t, c.wd, c.s, c.g, c.r, c.cp, c.f⟩ : Cfg) = c from rfl]
  generalize machN c mem = e1 at *
  by_cases he : e1 = 0
  · have hbe : (e1 != 0) = false := by simp [he]
    have HU2 : Hid (R = if (code.length : Int) ≤ 20 then 0 else 4) := (HU.out).trans (if_neg (by simp [he]))
    clear HU he
    by_cases hl : (code.length : Int) ≤ 20
    · have HF : Hid (R = 0) := (HU2.out).trans (if_pos hl)
      have hd : decide ((code.length : Int) ≤ 20) = true := by simpa using hl
      clear HU2 hl
      go_wp2_with (go_at_call 42; refine (codeFits_any _ _ _ _).mono ?_; rintro e w' ⟨rfl, rfl⟩; simp only [hd])
      go_ret
      exact ⟨by rw [HF.out]; rfl, HB.out⟩
    · have HF : Hid (R = 4) := (HU2.out).trans (if_neg hl)
      have hd : decide ((code.length : Int) ≤ 20) = false := by simpa using hl
      clear HU2 hl
      go_wp2_with (go_at_call 42; refine (codeFits_any _ _ _ _).mono ?_; rintro e w' ⟨rfl, rfl⟩; simp only [hd])
      go_ret
      exact ⟨by rw [HF.out]; rfl, HB.out⟩
  · have hbe : (e1 != 0) = true := by simpa using he
    have HF : Hid (R = e1) := (HU.out).trans (if_pos he)
    clear HU he
    go_wp2
    go_ret
    exact ⟨by rw [HF.out]; rfl, HB.out⟩

end Go.Proofs.Ytejadojilncbjaa
