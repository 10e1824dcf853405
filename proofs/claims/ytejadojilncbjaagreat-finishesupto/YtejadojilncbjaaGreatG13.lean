import Derived.Test.YtejadojilncbjaaGreatG01
import Derived.Test.YtejadojilncbjaaGreatG12
import Derived.Test.YtejadojilncbjaaGreatG08
namespace Go.Proofs.YtejadojilncbjaaGreat
open Go.RowKit
set_option linter.unusedVariables false
set_option maxHeartbeats 2000000 in
theorem formed_core (op a b c n : Int) (w : World) :
  Calls Tryz.prog 95 #[.agg #[.int .i64 op, .int .i64 a, .int .i64 b, .int .i64 c], .int .i64 n] w fun e w' =>
   e = .returned (.bool (formedB ⟨op, a, b, c⟩ n)) ∧ Below w.heap.size w w' := by
 by_cases h0 : op = 0
 ·subst h0
  go_enter Tryz.func95, Tryz.ntmps95
  go_wp2_with (go_at_call 63; refine (is_any _ _ _ _).mono ?_; rintro e w' ⟨rfl, rfl⟩)
  all_goals
   go_ret
   exact ⟨by simp [formedB, *], (Below.refl _ _).alloc (Nat.le_refl _) _⟩
 by_cases h1 : op = 1
 ·subst h1
  go_enter Tryz.func95, Tryz.ntmps95
  go_wp2_with (go_at_call 63; refine (is_any _ _ _ _).mono ?_; rintro e w' ⟨rfl, rfl⟩)
  all_goals
   go_ret
   exact ⟨by simp [formedB, *], (Below.refl _ _).alloc (Nat.le_refl _) _⟩
 by_cases h2 : op = 2
 ·subst h2
  go_enter Tryz.func95, Tryz.ntmps95
  go_wp2_with (go_at_call 63; refine (is_any _ _ _ _).mono ?_; rintro e w' ⟨rfl, rfl⟩)
  all_goals
   go_ret
   exact ⟨by simp [formedB, *], (Below.refl _ _).alloc (Nat.le_refl _) _⟩
 by_cases h3 : op = 3
 ·subst h3
  go_enter Tryz.func95, Tryz.ntmps95
  go_wp2_with (go_at_call 63; refine (is_any _ _ _ _).mono ?_; rintro e w' ⟨rfl, rfl⟩)
  all_goals
   go_ret
   exact ⟨by simp [formedB, *], (Below.refl _ _).alloc (Nat.le_refl _) _⟩
 by_cases h4 : op = 4
 ·subst h4
  go_enter Tryz.func95, Tryz.ntmps95
  go_wp2_with (go_at_call 63; refine (is_any _ _ _ _).mono ?_; rintro e w' ⟨rfl, rfl⟩)
  all_goals
   go_ret
   exact ⟨by simp [formedB, *], (Below.refl _ _).alloc (Nat.le_refl _) _⟩
 by_cases h5 : op = 5
 ·subst h5
  go_enter Tryz.func95, Tryz.ntmps95
  go_wp2_with (go_at_call 63; refine (is_any _ _ _ _).mono ?_; rintro e w' ⟨rfl, rfl⟩)
  all_goals
   go_ret
   exact ⟨by simp [formedB, *], (Below.refl _ _).alloc (Nat.le_refl _) _⟩
 by_cases h6 : op = 6
 ·subst h6
  go_enter Tryz.func95, Tryz.ntmps95
  go_wp2_with (go_at_call 63; refine (is_any _ _ _ _).mono ?_; rintro e w' ⟨rfl, rfl⟩)
  all_goals
   go_ret
   exact ⟨by simp [formedB, *], (Below.refl _ _).alloc (Nat.le_refl _) _⟩
 by_cases h7 : op = 7
 ·subst h7
  go_enter Tryz.func95, Tryz.ntmps95
  go_wp2_with (go_at_call 63; refine (is_any _ _ _ _).mono ?_; rintro e w' ⟨rfl, rfl⟩)
  all_goals
   go_ret
   exact ⟨by simp [formedB, *], (Below.refl _ _).alloc (Nat.le_refl _) _⟩
 by_cases h8 : op = 8
 ·subst h8
  go_enter Tryz.func95, Tryz.ntmps95
  go_wp2_with (go_at_call 63; refine (is_any _ _ _ _).mono ?_; rintro e w' ⟨rfl, rfl⟩)
  all_goals
   go_ret
   exact ⟨by simp [formedB, *], (Below.refl _ _).alloc (Nat.le_refl _) _⟩
 have HF : Hid (formedB ⟨op, a, b, c⟩ n = false) := by
  show formedB _ _ = false
  simp [formedB, h0, h1, h2, h3, h4, h5, h6, h7, h8]
 have g0 : (op == 0) = false := by simpa using h0
 have g1 : (op == 1) = false := by simpa using h1
 have g2 : (op == 2) = false := by simpa using h2
 have g3 : (op == 3) = false := by simpa using h3
 have g4 : (op == 4) = false := by simpa using h4
 have g5 : (op == 5) = false := by simpa using h5
 have g6 : (op == 6) = false := by simpa using h6
 have g7 : (op == 7) = false := by simpa using h7
 have g8 : (op == 8) = false := by simpa using h8
 clear h0 h1 h2 h3 h4 h5 h6 h7 h8
 go_enter Tryz.func95, Tryz.ntmps95
 go_wp2
 go_ret
 exact ⟨by rw [HF.out]; rfl, (Below.refl _ _).alloc (Nat.le_refl _) _⟩
end Go.Proofs.YtejadojilncbjaaGreat
namespace Go.Proofs.YtejadojilncbjaaGreat
open Go.RowKit
set_option linter.unusedVariables false
attribute [local go_sem ↓] Go.wp_at_zero Go.wp_at_succ
theorem TryR.nums {B p eb xb : Nat} {w : World} {x : TS} (hT : TryR B p eb xb w x) : ∃ ca cc, w.cell? ⟨xb, 0, none⟩ = some (.slice ca x.code.length cc) ∧ w.cell? ⟨xb, 5, none⟩ = some (.int .i64 x.place) ∧ w.cell? ⟨xb, 6, none⟩ = some (.int .i64 x.begun) ∧
  CodeIn w B ca x.code ∧ FarC B p eb ca x.code ∧ (∀ i, w.frozen? ⟨xb, i, none⟩ = false) := by
 obtain ⟨ca, cc, ra, rc, wa, wc, ha, hc, hb, hcd, hcf, _⟩ := hT.blk
 exact ⟨ca, cc, by rw [hb.cell]; rfl, by rw [hb.cell]; rfl, by rw [hb.cell]; rfl, hcd, hcf, hb.frozen⟩
def mDo (E : Env) (s : LS) (x2 : TS) (i : InsD) : Int × LS × TS :=
 if i.op = 0 then (1, s, x2)
 else if i.op = 1 then (2, s, x2)
 else if i.op = 2 then (0, s, setReg x2 i.a i.b)
 else if i.op = 3 then (0, s, setReg x2 i.a ((regOf x2 i.b + regOf x2 i.c).tmod 65536))
 else if i.op = 4 then (0, s, setReg x2 i.a ((regOf x2 i.b + 65535 + 1 - regOf x2 i.c).tmod 65536))
 else if i.op = 5 then (0, s, { x2 with place := i.c.toNat })
 else if i.op = 6 then (0, s, if regOf x2 i.a < regOf x2 i.b then { x2 with place := i.c.toNat } else x2)
 else if i.op = 7 then mRead E s x2 i
 else mWrite E s x2 i
theorem mStep_eq (E : Env) (s : LS) (x : TS) : mStep E s x = (if x.place = x.code.length then (1, s, x) else if (x.begun : Int) = E.c.f then (4, s, x) else
     if formedB (insAt x.code x.place) x.code.length = false then (3, s, { x with begun := x.begun + 1 }) else mDo E s { x with begun := x.begun + 1, place := x.place + 1 } (insAt x.code x.place)) := rfl
set_option maxRecDepth 100000 in
set_option maxHeartbeats 8000000 in
theorem step_any (E : Env) (hE : EnvOk E) (H : Hd) (B p eb xb n m : Nat) (s : LS) (x : TS) (w : World) (hL : LifeR E H B p eb w s) (hT : TryR B p eb xb w x) (hpos : s.pos ≤ E.seen.length) (hN : NotesOk m s) (hmn : m ≤ 2 ^ 40) (hX : TsOk n x) (hn : n ≤ 2 ^ 39)
  (hr0 : 0 ≤ s.rank) (hr1 : s.rank ≤ 1125899906842625) (hpl : x.place ≤ x.code.length) (hcl : x.code.length ≤ 20) (hbg : (x.begun : Int) ≤ E.c.f) :
  Calls Tryz.prog 83 #[.pointer (some ⟨p, 0, none⟩), .pointer (some ⟨xb, 0, none⟩)] w fun e w' =>
   e = .returned (.int .i64 (mStep E s x).1) ∧ LifeR E H B p eb w' (mStep E s x).2.1 ∧ TryR B p eb xb w' (mStep E s x).2.2 ∧ Kp [88, 145, 63, 160, 95, 3] B p eb w w' := by
 have HE : Hid (EnvOk E) := hE
 obtain ⟨_, _, _, _, _, _, ⟨hf1, hf2⟩⟩ := cfgB_true hE.cfg
 have HL : Hid (LifeR E H B p eb w s) := hL
 have HT : Hid (TryR B p eb xb w x) := hT
 have HN : Hid (NotesOk m s) := hN
 have HX : Hid (TsOk n x) := hX
 have hhd := hL.head
 obtain ⟨ca, cc, hx0, hx5, hx6, hcd, hcf, hfz⟩ := hT.nums
 have HCD : Hid (CodeIn w B ca x.code ∧ FarC B p eb ca x.code) := ⟨hcd, hcf⟩
 clear hE hL hT hN hX hcd hcf
 obtain ⟨R, HR⟩ : ∃ R, Hid (mStep E s x = R) := ⟨_, rfl⟩
 rw [show mStep E s x = R from HR.out]
 have HU : Hid (R = _) := (HR.out).symm.trans (mStep_eq E s x)
 clear HR
 go_enter Tryz.func83, Tryz.ntmps83
 by_cases hend : x.place = x.code.length
 ·have HF : Hid (R = (1, s, x)) := (HU.out).trans (if_pos hend)
  have hbe : ((x.place : Int) == (x.code.length : Int)) = true := by simp [hend]
  clear HU hend
  go_wp2_with fail
  go_quiet (fail)
  go_wp2
  go_ret
  exact ⟨by rw [HF.out]; rfl, by rw [HF.out]; exact (HL.out).drewN _, by rw [HF.out]; exact (HT.out).drewN _, (Kp.refl _ _ _ _ _).drewN _⟩
 have HU2 : Hid (R = _) := (HU.out).trans (if_neg hend)
 clear HU
 have hbe : ((x.place : Int) == (x.code.length : Int)) = false := by simp; omega
 have hplt : x.place < x.code.length := by omega
 clear hend
 by_cases hfu : (x.begun : Int) = E.c.f
 ·have HF : Hid (R = (4, s, x)) := (HU2.out).trans (if_pos hfu)
  have hbf : ((x.begun : Int) == E.c.f) = true := by simp [hfu]
  clear HU2 hfu
  go_wp2_with fail
  go_quiet (fail)
  go_wp2_with fail
  go_quiet (fail)
  go_wp2
  go_ret
  exact ⟨by rw [HF.out]; rfl, by rw [HF.out]; exact ((HL.out).drewN _).drewN _, by rw [HF.out]; exact ((HT.out).drewN _).drewN _, ((Kp.refl _ _ _ _ _).drewN _).drewN _⟩
 have HU3 : Hid (R = _) := (HU2.out).trans (if_neg hfu)
 clear HU2
 have hbf : ((x.begun : Int) == E.c.f) = false := by simpa using hfu
 clear hfu
 obtain ⟨i, hi⟩ : ∃ i, i = insAt x.code x.place := ⟨_, rfl⟩
 rw [← hi] at HU3
 obtain ⟨cb, coff, hca, hcb, hi0, hi1, hi2, hi3⟩ := (HCD.out).1 x.place hplt
 rw [← hi] at hi0 hi1 hi2 hi3
 have hcne := (HCD.out).2 (fun e => by rw [e] at hplt; simp at hplt) cb coff hca
 rw [hca] at hx0
 have HCF : Hid (ca = some ⟨cb, coff, none⟩) := hca
 have HI : Hid (insAt x.code x.place = i) := hi.symm
 clear hi hca
 have hp0 : (0 : Int) ≤ (x.place : Int) := Int.natCast_nonneg _
 have hp1 : (x.place : Int) < (x.code.length : Int) := by omega
 have hwb : IntKind.i64.wrap ((x.begun : Int) + 1) = (x.begun : Int) + 1 := wrapI _ (by omega) (by omega)
 go_wp2_with fail
 go_quiet (fail)
 obtain ⟨w1, hw1⟩ : ∃ w1, w1 = w.drewN nq := ⟨_, rfl⟩
 have HL1 : Hid (LifeR E H B p eb w1 s) := by rw [hw1]; exact (HL.out).drewN nq
 have HT1 : Hid (TryR B p eb xb w1 x) := by rw [hw1]; exact (HT.out).drewN nq
 have HK1 : Hid (Kp [88, 145, 63, 160, 95, 3] B p eb w w1) := by rw [hw1]; exact (Kp.refl _ _ _ _ _).drewN nq
 have HC1 : Hid (CodeIn w1 B (some ⟨cb, coff, none⟩) x.code) := by rw [hw1, ← show ca = some ⟨cb, coff, none⟩ from HCF.out]; exact (HCD.out).1
 rw [← hw1]
 clear hw1 HL HT HCD hx0 hx5 hx6 hfz hi0 hi1 hi2 hi3 hhd
 obtain ⟨ca1, cc1, hx0, hx5, hx6, _, _, hfz⟩ := (HT1.out).nums
 have hhd := (HL1.out).head
 go_wp2_with fail
 go_quiet (fail)
 obtain ⟨w2, hw2⟩ : ∃ w2, w2 = w1.drewN nq := ⟨_, rfl⟩
 have HL2 : Hid (LifeR E H B p eb w2 s) := by rw [hw2]; exact (HL1.out).drewN nq
 have HT2 : Hid (TryR B p eb xb w2 x) := by rw [hw2]; exact (HT1.out).drewN nq
 have HK2 : Hid (Kp [88, 145, 63, 160, 95, 3] B p eb w w2) := by rw [hw2]; exact (HK1.out).drewN nq
 rw [← hw2]
 clear hw2 HL1 HT1 HK1 HC1 hx0 hx5 hx6 hfz hhd
 obtain ⟨ca2, cc2, hx0, hx5, hx6, hcd2, hcf2, hfz⟩ := (HT2.out).nums
 have hfz6 := hfz 6
 have hTK := (HT2.out).set (x' := { x with begun := x.begun + 1 }) (i := 6) (v := .int .i64 ((x.begun : Int) + 1)) (HL2.out).stat.size rfl rfl rfl rfl (HT2.out).regs (fun _ _ _ _ _ _ _ _ => by simp [tryArr])
 have HL3 : Hid (LifeR E H B p eb (w2.setCell ⟨xb, 6, none⟩ (.int .i64 ((x.begun : Int) + 1))) s) := (HL2.out).keep hTK.2 (by simp) (by simp) (by simp) (by simp)
 have HT3 : Hid (TryR B p eb xb (w2.setCell ⟨xb, 6, none⟩ (.int .i64 ((x.begun : Int) + 1))) { x with begun := x.begun + 1 }) := hTK.1
 have HK3 : Hid (Kp [88, 145, 63, 160, 95, 3] B p eb w (w2.setCell ⟨xb, 6, none⟩ (.int .i64 ((x.begun : Int) + 1)))) := (HK2.out).trans (hTK.2.wide (by simp))
 clear hTK hcd2 hcf2
 go_wp2_with fail
 obtain ⟨w3, hw3⟩ : ∃ w3, w3 = w2.setCell ⟨xb, 6, none⟩ (.int .i64 ((x.begun : Int) + 1)) := ⟨_, rfl⟩
 rw [← hw3] at HL3 HT3 HK3
 rw [← hw3]
 clear hw3 HL2 HT2 HK2 hx0 hx5 hx6 hfz hfz6
 obtain ⟨y, hy⟩ : ∃ y : TS, y = { x with begun := x.begun + 1 } := ⟨_, rfl⟩
 rw [← hy] at HT3
 have HY : Hid (y.code = x.code ∧ y.place = x.place ∧ y.regs = x.regs ∧ TsOk n y ∧ y.begun = x.begun + 1) := by rw [hy]; exact ⟨rfl, rfl, rfl, ⟨(HX.out).rd, (HX.out).wr, (HX.out).hd, (HX.out).rg, (HX.out).rl, (HX.out).wl, (HX.out).hl, (HX.out).way0, (HX.out).way1, (HX.out).four⟩, rfl⟩
 have HUY : Hid (R = if formedB i y.code.length = false then (3, s, y) else mDo E s { y with place := y.place + 1 } i) := by rw [hy]; exact HU3
 clear HU3 hy
 obtain ⟨ca3, cc3, hx0, hx5, hx6, hcd3, hcf3, hfz⟩ := (HT3.out).nums
 obtain ⟨cb3, coff3, hca3, hcb3, hi0, hi1, hi2, hi3⟩ := hcd3 y.place (by rw [(HY.out).1, (HY.out).2.1]; exact hplt)
 have hie : insAt y.code y.place = i := by rw [(HY.out).1, (HY.out).2.1]; exact HI.out
 rw [hie] at hi0 hi1 hi2 hi3
 rw [hca3] at hx0
 have hp0' : (0 : Int) ≤ (y.place : Int) := Int.natCast_nonneg _
 have hp1' : (y.place : Int) < (y.code.length : Int) := by rw [(HY.out).1, (HY.out).2.1]; exact hp1
 have hxlt := block_lt hx0
 have hclt := block_lt hi0
 have hpl20 : y.place < 20 ∧ y.code.length ≤ 20 := by rw [(HY.out).1, (HY.out).2.1]; exact ⟨by omega, hcl⟩
 clear hie hcd3 hcf3 hca3 hfz hx6 hbe hbf hwb HCF hcne hcb hp0 hp1 hbg
 go_region
 all_goals
  obtain ⟨w4, hw4⟩ : ∃ w4, w4 = (w3.alloc (.cells #[.int .i64 i.op, .int .i64 i.a, .int .i64 i.b, .int .i64 i.c] 155)).drew := ⟨_, rfl⟩
  have hbx := ((Below.refl w3.heap.size w3).alloc (Nat.le_refl _) (.cells #[.int .i64 i.op, .int .i64 i.a, .int .i64 i.b, .int .i64 i.c] 155)).drew
  have HL4 : Hid (LifeR E H B p eb w4 s) := by rw [hw4]; exact (HL3.out).below hbx
  have HT4 : Hid (TryR B p eb xb w4 y) := by rw [hw4]; exact (HT3.out).below hbx (HL3.out).stat.size
  have HK4 : Hid (Kp [88, 145, 63, 160, 95, 3] B p eb w w4) := by rw [hw4]; exact (HK3.out).trans (Kp.below hbx (HL3.out).stat.size)
  obtain ⟨ib, hib⟩ : ∃ ib, ib = w3.heap.size := ⟨_, rfl⟩
  have HB4 : Hid (Blk w4 ib 155 #[.int .i64 i.op, .int .i64 i.a, .int .i64 i.b, .int .i64 i.c]) := by rw [hw4, hib]; exact Blk.new _ _ _
  rw [← hw4, ← hib]
  clear hw4 hib hbx HL3 HT3 HK3 hx0 hx5 hi0 hi1 hi2 hi3 hxlt hclt
  obtain ⟨ca4, cc4, hx0, hx5, hx6, _, _, hfz⟩ := (HT4.out).nums
  have hci := (HB4.out).cell
  have HS0 : Hid ((∀ j, w4.drew.cell? ⟨ib, j, none⟩ = (#[.int .i64 i.op, .int .i64 i.a, .int .i64 i.b, .int .i64 i.c] : Array Value)[j]?) ∧ w4.drew.cell? ⟨xb, 0, none⟩ = some (.slice ca4 y.code.length cc4)) := ⟨hci, hx0⟩
  go_wp2_with fail
  go_region_held3 (fun w' => (∀ j, w'.cell? ⟨ib, j, none⟩ = (#[.int .i64 i.op, .int .i64 i.a, .int .i64 i.b, .int .i64 i.c] : Array Value)[j]?) ∧ w'.cell? ⟨xb, 0, none⟩ = some (.slice ca4 y.code.length cc4))
   (first | exact HS1.out | exact HS0.out)
   (first
       | (go_at_call 95; refine (formed_core _ _ _ _ _ _).mono ?_; rintro e w5 ⟨rfl, hb5⟩; have HL5 : Hid (LifeR E H B p eb w5 s) := (HL4.out).drew.below hb5; have HT5 : Hid (TryR B p eb xb w5 y) := (HT4.out).drew.below hb5 (HL4.out).drew.stat.size; have HK5 : Hid (Kp [88, 145, 63, 160, 95, 3] B p eb w w5) := (HK4.out).drew.trans (Kp.below hb5 (HL4.out).drew.stat.size);
          have HB5 : Hid (Blk w5 ib 155 #[.int .i64 i.op, .int .i64 i.a, .int .i64 i.b, .int .i64 i.c]) := (show Blk w4.drew ib 155 _ from HB4.out).below hb5 (HB4.out).lt;
          have HS1 : Hid ((∀ j, w5.cell? ⟨ib, j, none⟩ = (#[.int .i64 i.op, .int .i64 i.a, .int .i64 i.b, .int .i64 i.c] : Array Value)[j]?) ∧ w5.cell? ⟨xb, 0, none⟩ = some (.slice ca4 y.code.length cc4)) := ⟨(HB5.out).cell, (hb5.cell (p := ⟨xb, 0, none⟩) (block_lt hx0)).trans hx0⟩; clear hb5))
  clear HS0 HS1 HL4 HT4 HK4 HB4 hx0 hx5 hx6 hfz hci
  cases hfm : formedB i y.code.length with
  | false =>
   have HF : Hid (R = (3, s, y)) := (HUY.out).trans (if_pos hfm)
   clear HUY
   go_wp2
   go_ret
   exact ⟨by rw [HF.out]; rfl, by rw [HF.out]; exact HL5.out, by rw [HF.out]; exact HT5.out, HK5.out⟩
  | true =>
   have HUZ : Hid (R = mDo E s { y with place := y.place + 1 } i) := (HUY.out).trans (if_neg (by simp [hfm]))
   have HFM : Hid (formedB i y.code.length = true) := hfm
   clear HUY
   obtain ⟨ca5, cc5, hx0, hx5, hx6, _, _, hfz⟩ := (HT5.out).nums
   have hfz5 := hfz 5
   have hci := (HB5.out).cell
   have hix : ib ≠ xb := by obtain ⟨_, _, _, _, _, _, _, _, hxb, _⟩ := (HT5.out).blk; exact Blk.ne HB5.out hxb (by decide)
   have hxi : xb ≠ ib := fun e => hix e.symm
   obtain ⟨hq1, hq2⟩ := hpl20
   have hwp : IntKind.i64.wrap ((y.place : Int) + 1) = (y.place : Int) + 1 := wrapI _ (by omega) (by omega)
   have hTK := (HT5.out).set (x' := { y with place := y.place + 1 }) (i := 5) (v := .int .i64 ((y.place : Int) + 1)) (HL5.out).stat.size rfl rfl rfl rfl (HT5.out).regs (fun _ _ _ _ _ _ _ _ => by simp [tryArr])
   obtain ⟨w6, hw6⟩ : ∃ w6, w6 = w5.setCell ⟨xb, 5, none⟩ (.int .i64 ((y.place : Int) + 1)) := ⟨_, rfl⟩
   obtain ⟨z, hz⟩ : ∃ z : TS, z = { y with place := y.place + 1 } := ⟨_, rfl⟩
   have HL6 : Hid (LifeR E H B p eb w6 s) := by rw [hw6]; exact (HL5.out).keep hTK.2 (by simp) (by simp) (by simp) (by simp)
   have HT6 : Hid (TryR B p eb xb w6 z) := by rw [hw6, hz]; exact hTK.1
   have HK6 : Hid (Kp [88, 145, 63, 160, 95, 3] B p eb w w6) := by rw [hw6]; exact (HK5.out).trans (hTK.2.wide (by simp))
   have HB6 : Hid (Blk w6 ib 155 #[.int .i64 i.op, .int .i64 i.a, .int .i64 i.b, .int .i64 i.c]) := by rw [hw6]; exact (HB5.out).keep hTK.2 (by simp)
   have HXZ : Hid (TsOk n z ∧ z.code.length = y.code.length) := by rw [hz]; exact ⟨⟨(HY.out).2.2.2.1.rd, (HY.out).2.2.2.1.wr, (HY.out).2.2.2.1.hd, (HY.out).2.2.2.1.rg, (HY.out).2.2.2.1.rl, (HY.out).2.2.2.1.wl, (HY.out).2.2.2.1.hl, (HY.out).2.2.2.1.way0, (HY.out).2.2.2.1.way1, (HY.out).2.2.2.1.four⟩, rfl⟩
   rw [← hz] at HUZ
   clear hTK hz
   by_cases ho0 : i.op = 0
   ·have HF : Hid (R = (1, s, z)) := (HUZ.out).trans (if_pos ho0)
    have hb0 : (i.op == 0) = true := by simp [ho0]
    clear HUZ ho0
    go_wp2
    rw [← hw6]
    go_ret
    exact ⟨by rw [HF.out]; rfl, by rw [HF.out]; exact HL6.out, by rw [HF.out]; exact HT6.out, HK6.out⟩
   have HU0 : Hid (R = _) := (HUZ.out).trans (if_neg ho0)
   have hb0 : (i.op == 0) = false := by simpa using ho0
   clear HUZ
   by_cases ho1 : i.op = 1
   ·have HF : Hid (R = (2, s, z)) := (HU0.out).trans (if_pos ho1)
    have hb1 : (i.op == 1) = true := by simp [ho1]
    clear HU0 ho0 ho1
    go_wp2
    rw [← hw6]
    go_ret
    exact ⟨by rw [HF.out]; rfl, by rw [HF.out]; exact HL6.out, by rw [HF.out]; exact HT6.out, HK6.out⟩
   have HU1 : Hid (R = _) := (HU0.out).trans (if_neg ho1)
   have hb1 : (i.op == 1) = false := by simpa using ho1
   clear HU0
   have hci6 := (HB6.out).cell
   have hBs := (HL6.out).stat.size
   by_cases ho2 : i.op = 2
   ·have HF0 : Hid (R = (0, s, setReg z i.a i.b)) := (HU1.out).trans (if_pos ho2)
    have hb2 : (i.op == 2) = true := by simp [ho2]
    have hfo : inB i.a 0 3 = true ∧ inB i.b 0 65535 = true := by
     have h := HFM.out
     unfold formedB at h
     rw [if_neg (by omega), if_pos ho2] at h
     simpa using h
    obtain ⟨hfa, hfb⟩ := hfo
    obtain ⟨ka, hka⟩ := Int.eq_ofNat_of_zero_le (inB_true hfa).1
    have hka4 : ka < 4 := by have := (inB_true hfa).2; omega
    have hka0 : (0 : Int) ≤ (ka : Int) := Int.natCast_nonneg _
    have hka1 : (ka : Int) < 4 := by omega
    obtain ⟨hra, hrf⟩ := (HT6.out).reg ka hka4
    have hTK := (HT6.out).setReg hBs ka hka4 i.b
    have HF : Hid (R = (0, s, { z with regs := z.regs.set ka i.b })) := by
     have h := HF0.out
     unfold setReg at h
     rw [hka] at h
     exact h
    clear HU1 ho0 ho1 ho2 hfa hfb HF0
    go_wp2_with fail
    rw [← hw6]
    clear hw6 hci hx0 hx5 hx6 hfz hfz5
    go_region
    all_goals
     go_wp2
     go_ret
     have HL7 : Hid (LifeR E H B p eb _ s) := ((HL6.out).keep hTK.2 (by simp) (by simp) (by simp) (by simp)).drew
     have HT7 : Hid (TryR B p eb xb _ { z with regs := z.regs.set ka i.b }) := hTK.1.drew
     have HK7 : Hid (Kp [88, 145, 63, 160, 95, 3] B p eb w _) := ((HK6.out).trans (hTK.2.wide (by simp))).drew
     exact ⟨by rw [HF.out]; rfl, by rw [HF.out]; exact HL7.out, by rw [HF.out]; exact HT7.out, HK7.out⟩
   have HU2' : Hid (R = _) := (HU1.out).trans (if_neg ho2)
   have hb2 : (i.op == 2) = false := by simpa using ho2
   clear HU1
   by_cases ho3 : i.op = 3
   ·have HF0 : Hid (R = (0, s, setReg z i.a ((regOf z i.b + regOf z i.c).tmod 65536))) := (HU2'.out).trans (if_pos ho3)
    have hb3 : (i.op == 3) = true := by simp [ho3]
    have hfo : (inB i.a 0 3 = true ∧ inB i.b 0 3 = true) ∧ inB i.c 0 3 = true := by
     have h := HFM.out
     unfold formedB at h
     rw [if_neg (by omega), if_neg ho2, if_pos (Or.inl ho3)] at h
     simpa using h
    obtain ⟨⟨hfa, hfb⟩, hfc⟩ := hfo
    obtain ⟨ka, hka⟩ := Int.eq_ofNat_of_zero_le (inB_true hfa).1
    have hka4 : ka < 4 := by have := (inB_true hfa).2; omega
    have hka0 : (0 : Int) ≤ (ka : Int) := Int.natCast_nonneg _
    have hka1 : (ka : Int) < 4 := by omega
    obtain ⟨kb, hkb⟩ := Int.eq_ofNat_of_zero_le (inB_true hfb).1
    have hkb4 : kb < 4 := by have := (inB_true hfb).2; omega
    have hkb0 : (0 : Int) ≤ (kb : Int) := Int.natCast_nonneg _
    have hkb1 : (kb : Int) < 4 := by omega
    obtain ⟨kc, hkc⟩ := Int.eq_ofNat_of_zero_le (inB_true hfc).1
    have hkc4 : kc < 4 := by have := (inB_true hfc).2; omega
    have hkc0 : (0 : Int) ≤ (kc : Int) := Int.natCast_nonneg _
    have hkc1 : (kc : Int) < 4 := by omega
    obtain ⟨hra, hrf⟩ := (HT6.out).reg ka hka4
    obtain ⟨rb, hrb⟩ : ∃ rb, rb = regOf z i.b := ⟨_, rfl⟩
    obtain ⟨rc, hrc⟩ : ∃ rc, rc = regOf z i.c := ⟨_, rfl⟩
    obtain ⟨hrb1, hrb2⟩ := (HXZ.out).1.reg i.b
    obtain ⟨hrc1, hrc2⟩ := (HXZ.out).1.reg i.c
    rw [← hrb] at hrb1 hrb2 HF0
    rw [← hrc] at hrc1 hrc2 HF0
    have hcrb : w6.cell? ⟨xb, 1 + kb, none⟩ = some (.int .i64 rb) := by rw [((HT6.out).reg kb hkb4).1, hrb, hkb]; rfl
    have hcrc : w6.cell? ⟨xb, 1 + kc, none⟩ = some (.int .i64 rc) := by rw [((HT6.out).reg kc hkc4).1, hrc, hkc]; rfl
    have hws : IntKind.i64.wrap (rb + rc) = rb + rc := wrapI _ (by omega) (by omega)
    have hTK := (HT6.out).setReg hBs ka hka4 ((rb + rc).tmod 65536)
    have HF : Hid (R = (0, s, { z with regs := z.regs.set ka ((rb + rc).tmod 65536) })) := by
     have h := HF0.out
     unfold setReg at h
     rw [hka] at h
     exact h
    clear HU2' ho0 ho1 ho2 ho3 hfa hfb hfc HF0 hrb hrc hrb1 hrb2 hrc1 hrc2
    go_wp2_with fail
    rw [← hw6]
    clear hw6 hci hx0 hx5 hx6 hfz hfz5
    go_region
    all_goals
     go_wp2
     go_ret
     have HL7 : Hid (LifeR E H B p eb _ s) := ((HL6.out).keep hTK.2 (by simp) (by simp) (by simp) (by simp)).drew
     have HT7 : Hid (TryR B p eb xb _ { z with regs := z.regs.set ka ((rb + rc).tmod 65536) }) := hTK.1.drew
     have HK7 : Hid (Kp [88, 145, 63, 160, 95, 3] B p eb w _) := ((HK6.out).trans (hTK.2.wide (by simp))).drew
     exact ⟨by rw [HF.out]; rfl, by rw [HF.out]; exact HL7.out, by rw [HF.out]; exact HT7.out, HK7.out⟩
   have HU3' : Hid (R = _) := (HU2'.out).trans (if_neg ho3)
   have hb3 : (i.op == 3) = false := by simpa using ho3
   clear HU2'
   by_cases ho4 : i.op = 4
   ·have HF0 : Hid (R = (0, s, setReg z i.a ((regOf z i.b + 65535 + 1 - regOf z i.c).tmod 65536))) := (HU3'.out).trans (if_pos ho4)
    have hb4 : (i.op == 4) = true := by simp [ho4]
    have hfo : (inB i.a 0 3 = true ∧ inB i.b 0 3 = true) ∧ inB i.c 0 3 = true := by
     have h := HFM.out
     unfold formedB at h
     rw [if_neg (by omega), if_neg ho2, if_pos (Or.inr ho4)] at h
     simpa using h
    obtain ⟨⟨hfa, hfb⟩, hfc⟩ := hfo
    obtain ⟨ka, hka⟩ := Int.eq_ofNat_of_zero_le (inB_true hfa).1
    have hka4 : ka < 4 := by have := (inB_true hfa).2; omega
    have hka0 : (0 : Int) ≤ (ka : Int) := Int.natCast_nonneg _
    have hka1 : (ka : Int) < 4 := by omega
    obtain ⟨kb, hkb⟩ := Int.eq_ofNat_of_zero_le (inB_true hfb).1
    have hkb4 : kb < 4 := by have := (inB_true hfb).2; omega
    have hkb0 : (0 : Int) ≤ (kb : Int) := Int.natCast_nonneg _
    have hkb1 : (kb : Int) < 4 := by omega
    obtain ⟨kc, hkc⟩ := Int.eq_ofNat_of_zero_le (inB_true hfc).1
    have hkc4 : kc < 4 := by have := (inB_true hfc).2; omega
    have hkc0 : (0 : Int) ≤ (kc : Int) := Int.natCast_nonneg _
    have hkc1 : (kc : Int) < 4 := by omega
    obtain ⟨hra, hrf⟩ := (HT6.out).reg ka hka4
    obtain ⟨rb, hrb⟩ : ∃ rb, rb = regOf z i.b := ⟨_, rfl⟩
    obtain ⟨rc, hrc⟩ : ∃ rc, rc = regOf z i.c := ⟨_, rfl⟩
    obtain ⟨hrb1, hrb2⟩ := (HXZ.out).1.reg i.b
    obtain ⟨hrc1, hrc2⟩ := (HXZ.out).1.reg i.c
    rw [← hrb] at hrb1 hrb2 HF0
    rw [← hrc] at hrc1 hrc2 HF0
    have hcrb : w6.cell? ⟨xb, 1 + kb, none⟩ = some (.int .i64 rb) := by rw [((HT6.out).reg kb hkb4).1, hrb, hkb]; rfl
    have hcrc : w6.cell? ⟨xb, 1 + kc, none⟩ = some (.int .i64 rc) := by rw [((HT6.out).reg kc hkc4).1, hrc, hkc]; rfl
    have hws1 : IntKind.i64.wrap (rb + 65535) = rb + 65535 := wrapI _ (by omega) (by omega)
    have hws2 : IntKind.i64.wrap (rb + 65535 + 1) = rb + 65535 + 1 := wrapI _ (by omega) (by omega)
    have hws3 : IntKind.i64.wrap (rb + 65535 + 1 - rc) = rb + 65535 + 1 - rc := wrapI _ (by omega) (by omega)
    have hTK := (HT6.out).setReg hBs ka hka4 ((rb + 65535 + 1 - rc).tmod 65536)
    have HF : Hid (R = (0, s, { z with regs := z.regs.set ka ((rb + 65535 + 1 - rc).tmod 65536) })) := by
     have h := HF0.out
     unfold setReg at h
     rw [hka] at h
     exact h
    clear HU3' ho0 ho1 ho2 ho3 ho4 hfa hfb hfc HF0 hrb hrc hrb1 hrb2 hrc1 hrc2
    go_wp2_with fail
    rw [← hw6]
    clear hw6 hci hx0 hx5 hx6 hfz hfz5
    go_region
    all_goals
     go_wp2
     go_ret
     have HL7 : Hid (LifeR E H B p eb _ s) := ((HL6.out).keep hTK.2 (by simp) (by simp) (by simp) (by simp)).drew
     have HT7 : Hid (TryR B p eb xb _ { z with regs := z.regs.set ka ((rb + 65535 + 1 - rc).tmod 65536) }) := hTK.1.drew
     have HK7 : Hid (Kp [88, 145, 63, 160, 95, 3] B p eb w _) := ((HK6.out).trans (hTK.2.wide (by simp))).drew
     exact ⟨by rw [HF.out]; rfl, by rw [HF.out]; exact HL7.out, by rw [HF.out]; exact HT7.out, HK7.out⟩
   have HU4' : Hid (R = _) := (HU3'.out).trans (if_neg ho4)
   have hb4 : (i.op == 4) = false := by simpa using ho4
   clear HU3'
   by_cases ho5 : i.op = 5
   ·have HF0 : Hid (R = (0, s, { z with place := i.c.toNat })) := (HU4'.out).trans (if_pos ho5)
    have hb5 : (i.op == 5) = true := by simp [ho5]
    have hfc : inB i.c 0 y.code.length = true := by
     have h := HFM.out
     unfold formedB at h
     rw [if_neg (by omega), if_neg ho2, if_neg (by omega), if_pos ho5] at h
     exact h
    obtain ⟨kc, hkc⟩ := Int.eq_ofNat_of_zero_le (inB_true hfc).1
    obtain ⟨_, _, _, hz5, _, _, _, hzf⟩ := (HT6.out).nums
    have hzf5 := hzf 5
    have hTK := (HT6.out).set (x' := { z with place := kc }) (i := 5) (v := .int .i64 (kc : Int)) hBs rfl rfl rfl rfl (HT6.out).regs (fun _ _ _ _ _ _ _ _ => by simp [tryArr])
    have HF : Hid (R = (0, s, { z with place := kc })) := by
     have h := HF0.out
     rw [hkc] at h
     exact h
    have HL7 : Hid (LifeR E H B p eb (w6.setCell ⟨xb, 5, none⟩ (.int .i64 (kc : Int))) s) := (HL6.out).keep hTK.2 (by simp) (by simp) (by simp) (by simp)
    have HT7 : Hid (TryR B p eb xb (w6.setCell ⟨xb, 5, none⟩ (.int .i64 (kc : Int))) { z with place := kc }) := hTK.1
    have HK7 : Hid (Kp [88, 145, 63, 160, 95, 3] B p eb w (w6.setCell ⟨xb, 5, none⟩ (.int .i64 (kc : Int)))) := (HK6.out).trans (hTK.2.wide (by simp))
    clear HU4' ho0 ho1 ho2 ho3 ho4 ho5 hfc HF0 hTK hzf
    rw [hw6] at HL7 HT7 HK7
    clear hci6 hz5 hzf5
    go_wp2
    go_ret
    exact ⟨by rw [HF.out]; rfl, by rw [HF.out]; exact HL7.out, by rw [HF.out]; exact HT7.out, HK7.out⟩
   have HU5' : Hid (R = _) := (HU4'.out).trans (if_neg ho5)
   have hb5 : (i.op == 5) = false := by simpa using ho5
   clear HU4'
   by_cases ho6 : i.op = 6
   ·have HF0 : Hid (R = (0, s, if regOf z i.a < regOf z i.b then { z with place := i.c.toNat } else z)) := (HU5'.out).trans (if_pos ho6)
    have hb6 : (i.op == 6) = true := by simp [ho6]
    have hfo : (inB i.a 0 3 = true ∧ inB i.b 0 3 = true) ∧ inB i.c 0 y.code.length = true := by
     have h := HFM.out
     unfold formedB at h
     rw [if_neg (by omega), if_neg ho2, if_neg (by omega), if_neg ho5, if_pos ho6] at h
     simpa using h
    obtain ⟨⟨hfa, hfb⟩, hfc⟩ := hfo
    obtain ⟨ka, hka⟩ := Int.eq_ofNat_of_zero_le (inB_true hfa).1
    have hka4 : ka < 4 := by have := (inB_true hfa).2; omega
    have hka0 : (0 : Int) ≤ (ka : Int) := Int.natCast_nonneg _
    have hka1 : (ka : Int) < 4 := by omega
    obtain ⟨kb, hkb⟩ := Int.eq_ofNat_of_zero_le (inB_true hfb).1
    have hkb4 : kb < 4 := by have := (inB_true hfb).2; omega
    have hkb0 : (0 : Int) ≤ (kb : Int) := Int.natCast_nonneg _
    have hkb1 : (kb : Int) < 4 := by omega
    obtain ⟨kc, hkc⟩ := Int.eq_ofNat_of_zero_le (inB_true hfc).1
    obtain ⟨ra, hra⟩ : ∃ ra, ra = regOf z i.a := ⟨_, rfl⟩
    obtain ⟨rb, hrb⟩ : ∃ rb, rb = regOf z i.b := ⟨_, rfl⟩
    rw [← hra, ← hrb] at HF0
    have hcra : w6.cell? ⟨xb, 1 + ka, none⟩ = some (.int .i64 ra) := by rw [((HT6.out).reg ka hka4).1, hra, hka]; rfl
    have hcrb : w6.cell? ⟨xb, 1 + kb, none⟩ = some (.int .i64 rb) := by rw [((HT6.out).reg kb hkb4).1, hrb, hkb]; rfl
    obtain ⟨_, _, _, hz5, _, _, _, hzf⟩ := (HT6.out).nums
    have hzf5 := hzf 5
    have hTK := (HT6.out).set (x' := { z with place := kc }) (i := 5) (v := .int .i64 (kc : Int)) hBs rfl rfl rfl rfl (HT6.out).regs (fun _ _ _ _ _ _ _ _ => by simp [tryArr])
    have HF1 : Hid (R = (0, s, if ra < rb then { z with place := kc } else z)) := by
     have h := HF0.out
     rw [hkc] at h
     exact h
    clear HU5' ho0 ho1 ho2 ho3 ho4 ho5 ho6 hfa hfb hfc HF0 hra hrb hzf
    go_wp2_with fail
    rw [← hw6]
    clear hw6 hci hx0 hx5 hx6 hfz hfz5
    go_quiet (fail)
    by_cases hlt : ra < rb
    ·have HF : Hid (R = (0, s, { z with place := kc })) := by
      show _ = _
      rw [HF1.out, if_pos hlt]
     clear HF1
     go_wp2
     go_ret
     have HL7 : Hid (LifeR E H B p eb _ s) := ((HL6.out).keep hTK.2 (by simp) (by simp) (by simp) (by simp)).drewN nq
     have HT7 : Hid (TryR B p eb xb _ { z with place := kc }) := hTK.1.drewN nq
     have HK7 : Hid (Kp [88, 145, 63, 160, 95, 3] B p eb w _) := ((HK6.out).trans (hTK.2.wide (by simp))).drewN nq
     exact ⟨by rw [HF.out]; rfl, by rw [HF.out]; exact HL7.out, by rw [HF.out]; exact HT7.out, HK7.out⟩
    ·have HF : Hid (R = (0, s, z)) := by
      show _ = _
      rw [HF1.out, if_neg hlt]
     clear HF1
     go_wp2
     go_ret
     exact ⟨by rw [HF.out]; rfl, by rw [HF.out]; exact (HL6.out).drewN _, by rw [HF.out]; exact (HT6.out).drewN _, (HK6.out).drewN _⟩
   have HU6' : Hid (R = _) := (HU5'.out).trans (if_neg ho6)
   have hb6 : (i.op == 6) = false := by simpa using ho6
   clear HU5'
   have hfo : inB i.a 0 3 = true ∧ inB i.b 0 3 = true ∧ (i.op = 7 ∨ i.op = 8) := by
    have h := HFM.out
    unfold formedB at h
    rw [if_neg (by omega), if_neg ho2, if_neg (by omega), if_neg ho5, if_neg ho6] at h
    split at h
    ·rename_i h78
     simp at h
     exact ⟨h.1, h.2, h78⟩
    ·cases h
   obtain ⟨hfa, hfb, h78⟩ := hfo
   obtain ⟨hfa1, hfa2⟩ := inB_true hfa
   obtain ⟨hfb1, hfb2⟩ := inB_true hfb
   have HIe : Hid ((⟨i.op, i.a, i.b, i.c⟩ : InsD) = i) := rfl
   by_cases ho7 : i.op = 7
   ·have HF0 : Hid (R = mRead E s z i) := (HU6'.out).trans (if_pos ho7)
    have hb7 : (i.op == 7) = true := by simp [ho7]
    clear HU6' ho0 ho1 ho2 ho3 ho4 ho5 ho6 ho7 hfa hfb h78
    go_wp2_with fail
    rw [← hw6]
    clear hw6 hci hx0 hx5 hx6 hfz hfz5
    refine (read_any E HE.out H B p eb xb n m s z i.op i.a i.b i.c _ HL6.out HT6.out hpos HN.out hmn (HXZ.out).1 hn hfa1 hfa2 hfb1 hfb2).mono ?_
    rintro e w7 ⟨rfl, hL7, hT7, hK7⟩
    rw [show mRead E s z ⟨i.op, i.a, i.b, i.c⟩ = R from (HF0.out).symm] at hL7 hT7 ⊢
    have HL7 : Hid (LifeR E H B p eb w7 R.2.1) := hL7
    have HT7 : Hid (TryR B p eb xb w7 R.2.2) := hT7
    have HK7 : Hid (Kp [88, 145, 63, 160, 95, 3] B p eb w w7) := (HK6.out).trans (hK7.wide (by simp))
    clear hL7 hT7 hK7 HF0
    go_wp2_with fail
    go_ret
    exact ⟨rfl, HL7.out, HT7.out, HK7.out⟩
   ·have HF0 : Hid (R = mWrite E s z i) := (HU6'.out).trans (if_neg ho7)
    have hb7 : (i.op == 7) = false := by simpa using ho7
    have hb8 : (i.op == 8) = true := by simp; omega
    clear HU6' ho0 ho1 ho2 ho3 ho4 ho5 ho6 ho7 hfa hfb h78
    go_wp2_with fail
    rw [← hw6]
    clear hw6 hci hx0 hx5 hx6 hfz hfz5
    refine (write_any E HE.out H B p eb xb n m s z i.op i.a i.b i.c _ HL6.out HT6.out hpos HN.out hmn (HXZ.out).1 hn hfa1 hfa2 hfb1 hfb2 hr0 hr1).mono ?_
    rintro e w7 ⟨rfl, hL7, hT7, hK7⟩
    rw [show mWrite E s z ⟨i.op, i.a, i.b, i.c⟩ = R from (HF0.out).symm] at hL7 hT7 ⊢
    have HL7 : Hid (LifeR E H B p eb w7 R.2.1) := hL7
    have HT7 : Hid (TryR B p eb xb w7 R.2.2) := hT7
    have HK7 : Hid (Kp [88, 145, 63, 160, 95, 3] B p eb w w7) := (HK6.out).trans hK7
    clear hL7 hT7 hK7 HF0
    go_wp2_with fail
    go_ret
    exact ⟨rfl, HL7.out, HT7.out, HK7.out⟩
theorem LifeR.nums {E : Env} {H : Hd} {B p eb : Nat} {w : World} {s : LS} (h : LifeR E H B p eb w s) : w.cell? ⟨p, 19, none⟩ = some (.int .i64 s.rank) ∧ w.cell? ⟨p, 20, none⟩ = some (.int .i64 s.fails) ∧ w.cell? ⟨p, 14, none⟩ = some (.bool s.over) := by
 obtain ⟨la, lc, hb, _⟩ := h.life
 exact ⟨by rw [hb.cell]; rfl, by rw [hb.cell]; rfl, by rw [hb.cell]; rfl⟩
theorem tdiv8b (v : Int) (h1 : -1 ≤ v) (h2 : v ≤ 1125899906842624) : wrap64 (v.tdiv 8) = v.tdiv 8 := by
 have : 0 ≤ v.tdiv 8 ∧ v.tdiv 8 ≤ 1125899906842624 := by
  by_cases h : 0 ≤ v
  ·rw [Int.tdiv_eq_ediv_of_nonneg h]; omega
  ·have : v = -1 := by omega
   subst this
   decide
 unfold wrap64
 omega
set_option maxRecDepth 100000 in
set_option maxHeartbeats 2000000 in
theorem wait_any (E : Env) (hE : EnvOk E) (H : Hd) (B p eb : Nat) (s : LS) (win : Int) (w : World) (hL : LifeR E H B p eb w s) (hpos : s.pos ≤ E.seen.length) (hw1 : -8 ≤ win) (hw2 : win ≤ 1125899906842624) :
  Calls Tryz.prog 101 #[.pointer (some ⟨p, 0, none⟩), .int .i64 win] w fun e w' =>
   e = .returned (.tuple #[]) ∧ LifeR E H B p eb w' (mWait E win (loopFuel E s) s) ∧ Kp [88] B p eb w w' := by
 have HE : Hid (EnvOk E) := hE
 have HL : Hid (LifeR E H B p eb w s) := hL
 obtain ⟨_, _, ⟨hs1, hs2⟩, _⟩ := cfgB_true hE.cfg
 clear hE hL
 obtain ⟨R, HR⟩ : ∃ R, Hid (mWait E win (loopFuel E s) s = R) := ⟨_, rfl⟩
 rw [show mWait E win (loopFuel E s) s = R from HR.out]
 go_enter Tryz.func101, Tryz.ntmps101
 go_wp2
 go_loopg [4] (loopFuel E s) (fun n t wr => ∃ sk : LS, Hid (mWait E win n sk = R) ∧ Hid (enough E sk n) ∧ Hid (LifeR E H B p eb wr sk) ∧ Hid (Kp [88] B p eb w wr) ∧ sk.pos ≤ E.seen.length)
 case atStart => exact ⟨s, HR, enough_fuel E s, HL, Kp.refl _ _ _ _ _, hpos⟩
 case round =>
  obtain ⟨sk, HM, HEn, HL1, HK1, hpk⟩ := hrel
  obtain ⟨n, rfl⟩ : ∃ n, gk = n + 1 := ⟨gk - 1, by have := HEn.out.1; omega⟩
  have hov := (HL1.out).over
  cases hso : sk.over with
  | true =>
   have HF : Hid (R = sk) := by show _ = _; rw [← HM.out, mWait]; simp [hso]
   go_wp2
   go_end0
   exact ⟨rfl, by rw [HF.out]; exact HL1.out, HK1.out⟩
  | false =>
   have hhd := (HL1.out).head
   go_wp2_with fail
   refine (statusV _ _ _ _ _ _ _ _ _ _ _ _ _ _ _ hs1 hs2 (by omega) (by omega)).mono ?_
   rintro e w1 ⟨rfl, hb1⟩
   clear hhd hov
   have hLa := (HL1.out).below hb1
   have HKa : Hid (Kp [] B p eb wr w1) := Kp.below hb1 (HL1.out).stat.size
   clear hb1
   go_wp2_with fail
   refine (loadL E HE.out H B p eb sk _ _ hLa hpk).mono ?_
   rintro e w2 ⟨rfl, hLb, hKb⟩
   have HKb : Hid (Kp [88] B p eb w w2) := ((HK1.out).trans (HKa.out).up).trans hKb
   have hp1 : (mLoad E sk (3 + 2 * E.c.s + win)).2.pos ≤ E.seen.length := (mAsk_pos E sk _ hpk).2
   have HA1 : Hid ((mLoad E sk (3 + 2 * E.c.s + win)).2.over = true ∨ ((mLoad E sk (3 + 2 * E.c.s + win)).2.over = false ∧ (mLoad E sk (3 + 2 * E.c.s + win)).2.pos = sk.pos + 1)) := mAsk_adv E sk _ hso hpk
   have hval : -1 ≤ (mLoad E sk (3 + 2 * E.c.s + win)).1 ∧ (mLoad E sk (3 + 2 * E.c.s + win)).1 ≤ 1125899906842624 := mAsk_val E HE.out sk _
   have HU : Hid (R = (if (mLoad E sk (3 + 2 * E.c.s + win)).1.tdiv 8 = 0 ∨ (0 < (mLoad E sk (3 + 2 * E.c.s + win)).2.rank ∧ (mLoad E sk (3 + 2 * E.c.s + win)).2.rank < (mLoad E sk (3 + 2 * E.c.s + win)).1.tdiv 8) then (mLoad E sk (3 + 2 * E.c.s + win)).2 else mWait E win n (mLoad E sk (3 + 2 * E.c.s + win)).2)) := by
    show _ = _
    rw [← HM.out, mWait]
    simp only [hso]
    rfl
   clear hLa hKb HKa
   generalize hq : mLoad E sk (3 + 2 * E.c.s + win) = q at *
   obtain ⟨v, s1⟩ := q
   clear hq
   have HLb : Hid (LifeR E H B p eb w2 s1) := hLb
   have hnm := hLb.nums
   obtain ⟨hrk, _, _⟩ := hnm
   have hwq : wrap64 (v.tdiv 8) = v.tdiv 8 := tdiv8b v hval.1 hval.2
   have HSO : Hid (sk.over = false) := hso
   clear hLb hval hso
   simp only at hp1 hrk
   have HF2 : Hid (∀ h : ¬ (v.tdiv 8 = 0 ∨ (0 < s1.rank ∧ s1.rank < v.tdiv 8)), mWait E win n s1 = R) := fun h => (HU.out.trans (if_neg h)).symm
   have HF1 : Hid (∀ h : (v.tdiv 8 = 0 ∨ (0 < s1.rank ∧ s1.rank < v.tdiv 8)), R = s1) := fun h => HU.out.trans (if_pos h)
   have HEn2 : Hid (enough E s1 n) := enough_next HEn.out HSO.out ((HA1.out).imp id (fun h => by have : s1.pos = sk.pos + 1 := h.2; omega)) hp1
   clear HU
   by_cases h0 : v.tdiv 8 = 0
   ·have hb0 : (v.tdiv 8 == 0) = true := by simp [h0]
    have HF : Hid (R = s1) := HF1.out (Or.inl h0)
    clear h0
    go_wp2
    exact bodyPost_ret (v := .tuple #[]) (by simp [results, Tryz.results101, go_sem]) rfl ⟨rfl, by rw [HF.out]; exact HLb.out, HKb.out⟩
   ·have hb0 : (v.tdiv 8 == 0) = false := by simpa using h0
    by_cases hr0 : 0 < s1.rank
    ·by_cases hr1 : s1.rank < v.tdiv 8
     ·have HF : Hid (R = s1) := HF1.out (Or.inr ⟨hr0, hr1⟩)
      clear h0
      go_wp2
      exact bodyPost_ret (v := .tuple #[]) (by simp [results, Tryz.results101, go_sem]) rfl ⟨rfl, by rw [HF.out]; exact HLb.out, HKb.out⟩
     ·have HF : Hid (mWait E win n s1 = R) := HF2.out (fun h => h.elim h0 (fun h => hr1 h.2))
      clear h0
      go_wp2
      go_roundg n
      case rel => exact ⟨s1, HF, HEn2, HLb, HKb, hp1⟩
      case measure => omega
    ·have HF : Hid (mWait E win n s1 = R) := HF2.out (fun h => h.elim h0 (fun h => hr0 h.1))
     clear h0
     go_wp2
     go_roundg n
     case rel => exact ⟨s1, HF, HEn2, HLb, HKb, hp1⟩
     case measure => omega
theorem mNones_pos (E : Env) : ∀ (n : Nat) (s : LS), s.pos ≤ E.seen.length → (mNones E n s).pos ≤ E.seen.length
 | 0, s, h => h
 | n + 1, s, h => mNones_pos E n _ (mAsk_pos E s _ h).2
theorem mNones_succ (E : Env) : ∀ (n : Nat) (s : LS), mNones E (n + 1) s = (mAsk E (mNones E n s) ⟨0, 0, 0, 0⟩).2
 | 0, s => rfl
 | n + 1, s => by
  show mNones E (n + 1) (mAsk E s ⟨0, 0, 0, 0⟩).2 = _
  rw [mNones_succ E n (mAsk E s ⟨0, 0, 0, 0⟩).2]
  rfl
set_option maxRecDepth 100000 in
set_option maxHeartbeats 2000000 in
theorem rest_any (E : Env) (hE : EnvOk E) (H : Hd) (B p eb : Nat) (s : LS) (draw : Int) (w : World) (hL : LifeR E H B p eb w s) (hpos : s.pos ≤ E.seen.length) (hf0 : 0 ≤ s.fails) :
  Calls Tryz.prog 102 #[.pointer (some ⟨p, 0, none⟩), .int .i64 draw] w fun e w' =>
   e = .returned (.tuple #[]) ∧ LifeR E H B p eb w' (mRest E draw s) ∧ Kp [88] B p eb w w' := by
 have HE : Hid (EnvOk E) := hE
 have HL : Hid (LifeR E H B p eb w s) := hL
 obtain ⟨_, _, _, _, _, ⟨hcp1, hcp2⟩, _⟩ := cfgB_true hE.cfg
 have hhd := hL.head
 obtain ⟨_, hfl, _⟩ := hL.nums
 clear hE hL
 obtain ⟨n, hn⟩ : ∃ n : Int, n = (if s.fails < E.c.cp then s.fails else E.c.cp) := ⟨_, rfl⟩
 have hn0 : 0 ≤ n := by rw [hn]; split <;> omega
 have hn8 : n ≤ 8 := by rw [hn]; split <;> omega
 by_cases hd : 0 < draw
 ·obtain ⟨m, hm⟩ : ∃ m : Nat, (m : Int) = draw.tmod (n + 1) := ⟨(draw.tmod (n + 1)).toNat, by
      rw [Int.tmod_eq_emod_of_nonneg (by omega)]
      exact Int.toNat_of_nonneg (Int.emod_nonneg _ (by omega))⟩
  have hm8 : m ≤ 8 := by
   have : draw.tmod (n + 1) < n + 1 := by rw [Int.tmod_eq_emod_of_nonneg (by omega)]; exact Int.emod_lt_of_pos _ (by omega)
   omega
  have HF : Hid (mRest E draw s = mNones E m s) := by
   show _ = _
   unfold mRest
   rw [← hn]
   simp only [hd, if_true]
   rw [← hm]
   rfl
  have hmm : draw % (n + 1) = (m : Int) := by rw [hm, Int.tmod_eq_emod_of_nonneg (by omega)]
  have HM0 : Hid ((m : Int) = draw.tmod (n + 1)) := hm
  have hm8' : (m : Int) ≤ 8 := by omega
  clear hm
  rcases (show (s.fails < E.c.cp ∧ n = s.fails) ∨ (¬ s.fails < E.c.cp ∧ n = E.c.cp) from by
      by_cases h : s.fails < E.c.cp
      ·exact Or.inl ⟨h, hn.trans (if_pos h)⟩
      ·exact Or.inr ⟨h, hn.trans (if_neg h)⟩) with ⟨hcf, hnn⟩ | ⟨hcf, hnn⟩
  all_goals
   clear hn
   subst hnn
   go_enter Tryz.func102, Tryz.ntmps102
   go_wp2
   go_loopw [5] (fun i wr => ∃ k : Nat, k ≤ m ∧ i = .int .i64 k ∧ Hid (LifeR E H B p eb wr (mNones E k s)) ∧ Hid (Kp [88] B p eb w wr)) (fun i wr => m - (intOf i).toNat)
   case atStart => exact ⟨0, Nat.zero_le _, rfl, HL, Kp.refl _ _ _ _ _⟩
   case round =>
    obtain ⟨k, hk, rfl, HL1, HK1⟩ := hrel
    by_cases hlt : k < m
    ·have hlt' : (k : Int) < (m : Int) := by omega
     have hpk := mNones_pos E k s hpos
     go_wp2_with fail
     refine (askL E HE.out H B p eb _ _ _ _ _ _ HL1.out hpk).mono ?_
     rintro e w1 ⟨rfl, hLa, hKa⟩
     have HLa : Hid (LifeR E H B p eb w1 (mNones E (k + 1) s)) := by
      show LifeR E H B p eb w1 (mNones E (k + 1) s)
      rw [mNones_succ]; exact hLa
     have HKa : Hid (Kp [88] B p eb w w1) := (HK1.out).trans hKa
     clear hLa hKa hpk
     go_wp2
     go_roundw
     case rel => exact ⟨k + 1, by omega, by go_num, HLa, HKa⟩
     case measure => simp [intOf]; omega
    ·have hke : k = m := by omega
     subst hke
     have hlt' : ¬ (k : Int) < (k : Int) := by omega
     go_wp2
     go_end0
     exact ⟨rfl, by rw [HF.out]; exact HL1.out, HK1.out⟩
 ·have HF : Hid (mRest E draw s = s) := by
   show _ = _
   unfold mRest
   simp [hd]
  clear hn
  by_cases hcf : s.fails < E.c.cp
  all_goals
   go_enter Tryz.func102, Tryz.ntmps102
   go_wp2
   go_end0
   exact ⟨rfl, by rw [HF.out]; exact HL.out, Kp.refl _ _ _ _ _⟩
end Go.Proofs.YtejadojilncbjaaGreat
