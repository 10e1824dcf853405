import Derived.Test.YtejadojilncbjabGreatD28
namespace Go.Proofs.YtejadojilncbjabGreat
open Go.RowKit
set_option linter.unusedVariables false
attribute [local go_sem ↓] Go.wp_at_zero Go.wp_at_succ
structure FOk (t : PT) (seen put draw : Int) : Prop where
 step : 2 ≤ t.step ∧ t.step ≤ 32
 fl : t.fails + 1 ≤ 2 ^ 40
 regs : t.m.regs.length = 4
 sn : -1 ≤ seen ∧ seen ≤ 1125899906842624
 ad : 3 ≤ t.step ∧ t.step ≤ 11 → 0 ≤ t.turn.addr ∧ t.turn.addr ≤ 100
 into : (3 ≤ t.step ∧ t.step ≤ 6) ∨ ((t.step = 12 ∨ t.step = 13) ∧ t.turn.op = 7) → 0 ≤ t.m.into ∧ t.m.into ≤ 3
 hl : 7 ≤ t.step ∧ t.step ≤ 11 → t.held.length ≤ 99
 s8 : t.step = 8 → 0 ≤ seen ∧ seen ≤ 100
 s0 : t.step = 9 ∨ t.step = 31 ∨ t.step = 32 → 0 ≤ seen
 riv : t.step = 9 → 0 ≤ t.rival ∧ t.rival ≤ 100
 rat : t.step = 13 ∨ t.step = 19 → t.at_ < t.reads.length
 hat : t.step = 24 → t.at_ < t.held.length
 at' : 20 ≤ t.step ∧ t.step ≤ 30 ∧ t.step ≠ 27 → t.at_ ≤ 1000
 clk : 16 ≤ t.step ∧ t.step ≤ 25 → -1 ≤ t.clock ∧ t.clock ≤ 2 ^ 50
 put : t.step = 14 ∨ (28 ≤ t.step ∧ t.step ≤ 30) → 0 ≤ put ∧ put ≤ 2 ^ 40
 way : t.step = 31 → 0 ≤ t.wayTo ∧ t.wayTo ≤ 100
theorem lists_store (t : PT) : Lists t (yFollowStore t) := by
 unfold yFollowStore yShut yPut yRelease
 repeat' split
 all_goals exact ⟨rfl, rfl, rfl, rfl, rfl, rfl⟩
theorem lists_check : ∀ (n : Nat) (t : PT), Lists t (yCheckN n t)
 | 0, t => by unfold yCheckN yShut; split <;> exact ⟨rfl, rfl, rfl, rfl, rfl, rfl⟩
 | n + 1, t => by
  unfold yCheckN
  split
  ·split
   ·exact lists_check n { t with at_ := t.at_ + 1 }
   ·exact ⟨rfl, rfl, rfl, rfl, rfl, rfl⟩
  ·unfold yShut; split <;> exact ⟨rfl, rfl, rfl, rfl, rfl, rfl⟩
theorem lists_commit (s : Int) (t : PT) : Lists t (yFollowCommit s t) := by
 unfold yFollowCommit
 split
 ·split
  ·exact lists_fail t
  ·exact ⟨rfl, rfl, rfl, rfl, rfl, rfl⟩
 split
 ·split <;> exact ⟨rfl, rfl, rfl, rfl, rfl, rfl⟩
 split
 ·exact lists_check _ { t with clock := s, at_ := 0 }
 split
 ·split
  ·exact ⟨rfl, rfl, rfl, rfl, rfl, rfl⟩
  ·exact lists_check _ { t with at_ := t.at_ + 1 }
 ·exact ⟨rfl, rfl, rfl, rfl, rfl, rfl⟩
theorem lists_ticket (s q : Int) (t : PT) : Lists t (yFollowTicket s q t) := by
 unfold yFollowTicket
 split
 ·exact ⟨rfl, rfl, rfl, rfl, rfl, rfl⟩
 split
 ·split
  ·exact lists_fail t
  ·exact ⟨rfl, rfl, rfl, rfl, rfl, rfl⟩
 ·exact ⟨rfl, rfl, rfl, rfl, rfl, rfl⟩
theorem lists_undo (t : PT) : Lists t (yUndo t) := by
 unfold yUndo yGiveBack yCount yShow
 split
 ·exact ⟨rfl, rfl, rfl, rfl, rfl, rfl⟩
 ·split <;> exact ⟨rfl, rfl, rfl, rfl, rfl, rfl⟩
theorem lists_ffail (q : Int) (t : PT) : Lists t (yFollowFail q t) := by
 unfold yFollowFail
 split
 ·exact lists_fail t
 split
 ·exact lists_undo { t with at_ := t.at_ + 1 }
 split <;> exact ⟨rfl, rfl, rfl, rfl, rfl, rfl⟩
theorem lists_begin (t : PT) : Lists t (yBegin t) := by
 unfold yBegin
 split <;> exact ⟨rfl, rfl, rfl, rfl, rfl, rfl⟩
theorem lists_lose (s d : Int) (t : PT) : Lists t (yLose s d t) := by
 unfold yLose
 split
 ·exact ⟨rfl, rfl, rfl, rfl, rfl, rfl⟩
 ·exact lists_begin { t with rest := yRestBy t d }
theorem lists_await (s : Int) (t : PT) : Lists t (yAwait s t) := by
 unfold yAwait
 split
 ·exact lists_begin t
 ·exact ⟨rfl, rfl, rfl, rfl, rfl, rfl⟩
section
variable (base p z : Nat) (A B : List Value) (t : PT) (L : Ls) (w : World)
set_option maxRecDepth 100000 in
set_option maxHeartbeats 2000000 in
theorem t_followBegin (R : TR base p z A B w t L) (hcur : t.cur < t.mine.length) (hs : t.step = 2) (kind cell seen put num draw : Int) :
  Calls Tryz.prog 136 #[.pointer (some ⟨p, z, none⟩), .agg #[.int .i64 kind, .int .i64 cell, .int .i64 seen, .int .i64 put], .int .i64 num, .int .i64 draw] w (DidN base p z A B 2 (yNew t seen num) L w) := by
 have h13 := R.tt.cStep
 rw [hs] at h13
 have hlt := R.tt.lt
 have hne : p ≠ w.heap.size := by omega
 have hB0 : Below w.heap.size w (w.alloc (.cells #[.int .i64 kind, .int .i64 cell, .int .i64 seen, .int .i64 put] 158)) := (Below.refl _ _).alloc (Nat.le_refl _) _
 have HRa : Hid (TR base p z A B (w.alloc (.cells #[.int .i64 kind, .int .i64 cell, .int .i64 seen, .int .i64 put] 158)) t L) := R.below hB0
 have HB0 : Hid (Below w.heap.size w (w.alloc (.cells #[.int .i64 kind, .int .i64 cell, .int .i64 seen, .int .i64 put] 158))) := hB0
 have HCu : Hid (t.cur < t.mine.length) := hcur
 have HOw : Hid (∀ k, oB L.na = some k → k < w.heap.size) := fun k hk => (RowsOwn R k (Or.inr (Or.inr (Or.inr (Or.inr (Or.inl hk)))))).2
 clear R hB0 hcur
 go_enter Tryz.func136, Tryz.ntmps136
 go_wp2_with fail
 refine (t_start base p z A B t L _ HRa.out HCu.out seen num).mono ?_
 rintro e w2 ⟨rfl, L1, a1, a2, a3⟩
 go_wp2
 go_end0
 exact ⟨rfl, L1, a1, (Goes.only (Only.below HB0.out)).trans a2, fun q k hk => ⟨(a3 trivial k hk).1, (a3 trivial k hk).2.trans ((HB0.out).block k (HOw.out k hk))⟩⟩
set_option maxRecDepth 100000 in
set_option maxHeartbeats 2000000 in
theorem t_follow3 (R : TR base p z A B w t L) (ok : TOk t) (hbs : base ≤ w.heap.size) (kind cell seen put num draw : Int) (F : FOk t seen put draw) (hs : t.step = 3) :
  Calls Tryz.prog 136 #[.pointer (some ⟨p, z, none⟩), .agg #[.int .i64 kind, .int .i64 cell, .int .i64 seen, .int .i64 put], .int .i64 num, .int .i64 draw] w (Dids base p z A B (yFollowRead seen t) L w) := by
 have h13 := R.tt.cStep
 rw [hs] at h13
 have hlt := R.tt.lt
 have hne : p ≠ w.heap.size := by omega
 have hB0 : Below w.heap.size w (w.alloc (.cells #[.int .i64 kind, .int .i64 cell, .int .i64 seen, .int .i64 put] 158)) := (Below.refl _ _).alloc (Nat.le_refl _) _
 have HRa : Hid (TR base p z A B (w.alloc (.cells #[.int .i64 kind, .int .i64 cell, .int .i64 seen, .int .i64 put] 158)) t L) := R.below hB0
 have HOa : Hid (Only p w (w.alloc (.cells #[.int .i64 kind, .int .i64 cell, .int .i64 seen, .int .i64 put] 158))) := Only.below hB0
 have HK : Hid (TOk t) := ok
 have HF : Hid (t.fails + 1 ≤ 2 ^ 40) := F.fl
 have hrg := F.regs
 have HBS : Hid (base ≤ (w.alloc (.cells #[.int .i64 kind, .int .i64 cell, .int .i64 seen, .int .i64 put] 158)).heap.size) := Nat.le_trans hbs hB0.size
 have HAd : Hid (0 ≤ t.turn.addr ∧ t.turn.addr ≤ 100) := F.ad (by omega)
 have HIn : Hid (0 ≤ t.m.into ∧ t.m.into ≤ 3) := F.into (by omega)
 clear R ok hbs F hB0
 go_enter Tryz.func136, Tryz.ntmps136
 go_wp2_with fail
 refine (t_followRead base p z A B t L _ HRa.out HK.out HBS.out HAd.out hrg HIn.out seen (by omega)).mono ?_
 rintro e w2 ⟨rfl, L1, a1, a2⟩
 go_wp2
 go_end0
 exact ⟨rfl, L1, a1, (Goes.only HOa.out).trans a2⟩
set_option maxRecDepth 100000 in
set_option maxHeartbeats 2000000 in
theorem t_follow4 (R : TR base p z A B w t L) (ok : TOk t) (hbs : base ≤ w.heap.size) (kind cell seen put num draw : Int) (F : FOk t seen put draw) (hs : t.step = 4) :
  Calls Tryz.prog 136 #[.pointer (some ⟨p, z, none⟩), .agg #[.int .i64 kind, .int .i64 cell, .int .i64 seen, .int .i64 put], .int .i64 num, .int .i64 draw] w (Dids base p z A B (yFollowRead seen t) L w) := by
 have h13 := R.tt.cStep
 rw [hs] at h13
 have hlt := R.tt.lt
 have hne : p ≠ w.heap.size := by omega
 have hB0 : Below w.heap.size w (w.alloc (.cells #[.int .i64 kind, .int .i64 cell, .int .i64 seen, .int .i64 put] 158)) := (Below.refl _ _).alloc (Nat.le_refl _) _
 have HRa : Hid (TR base p z A B (w.alloc (.cells #[.int .i64 kind, .int .i64 cell, .int .i64 seen, .int .i64 put] 158)) t L) := R.below hB0
 have HOa : Hid (Only p w (w.alloc (.cells #[.int .i64 kind, .int .i64 cell, .int .i64 seen, .int .i64 put] 158))) := Only.below hB0
 have HK : Hid (TOk t) := ok
 have HF : Hid (t.fails + 1 ≤ 2 ^ 40) := F.fl
 have hrg := F.regs
 have HBS : Hid (base ≤ (w.alloc (.cells #[.int .i64 kind, .int .i64 cell, .int .i64 seen, .int .i64 put] 158)).heap.size) := Nat.le_trans hbs hB0.size
 have HAd : Hid (0 ≤ t.turn.addr ∧ t.turn.addr ≤ 100) := F.ad (by omega)
 have HIn : Hid (0 ≤ t.m.into ∧ t.m.into ≤ 3) := F.into (by omega)
 clear R ok hbs F hB0
 go_enter Tryz.func136, Tryz.ntmps136
 go_wp2_with fail
 refine (t_followRead base p z A B t L _ HRa.out HK.out HBS.out HAd.out hrg HIn.out seen (by omega)).mono ?_
 rintro e w2 ⟨rfl, L1, a1, a2⟩
 go_wp2
 go_end0
 exact ⟨rfl, L1, a1, (Goes.only HOa.out).trans a2⟩
set_option maxRecDepth 100000 in
set_option maxHeartbeats 2000000 in
theorem t_follow5 (R : TR base p z A B w t L) (ok : TOk t) (hbs : base ≤ w.heap.size) (kind cell seen put num draw : Int) (F : FOk t seen put draw) (hs : t.step = 5) :
  Calls Tryz.prog 136 #[.pointer (some ⟨p, z, none⟩), .agg #[.int .i64 kind, .int .i64 cell, .int .i64 seen, .int .i64 put], .int .i64 num, .int .i64 draw] w (Dids base p z A B (yFollowRead seen t) L w) := by
 have h13 := R.tt.cStep
 rw [hs] at h13
 have hlt := R.tt.lt
 have hne : p ≠ w.heap.size := by omega
 have hB0 : Below w.heap.size w (w.alloc (.cells #[.int .i64 kind, .int .i64 cell, .int .i64 seen, .int .i64 put] 158)) := (Below.refl _ _).alloc (Nat.le_refl _) _
 have HRa : Hid (TR base p z A B (w.alloc (.cells #[.int .i64 kind, .int .i64 cell, .int .i64 seen, .int .i64 put] 158)) t L) := R.below hB0
 have HOa : Hid (Only p w (w.alloc (.cells #[.int .i64 kind, .int .i64 cell, .int .i64 seen, .int .i64 put] 158))) := Only.below hB0
 have HK : Hid (TOk t) := ok
 have HF : Hid (t.fails + 1 ≤ 2 ^ 40) := F.fl
 have hrg := F.regs
 have HBS : Hid (base ≤ (w.alloc (.cells #[.int .i64 kind, .int .i64 cell, .int .i64 seen, .int .i64 put] 158)).heap.size) := Nat.le_trans hbs hB0.size
 have HAd : Hid (0 ≤ t.turn.addr ∧ t.turn.addr ≤ 100) := F.ad (by omega)
 have HIn : Hid (0 ≤ t.m.into ∧ t.m.into ≤ 3) := F.into (by omega)
 clear R ok hbs F hB0
 go_enter Tryz.func136, Tryz.ntmps136
 go_wp2_with fail
 refine (t_followRead base p z A B t L _ HRa.out HK.out HBS.out HAd.out hrg HIn.out seen (by omega)).mono ?_
 rintro e w2 ⟨rfl, L1, a1, a2⟩
 go_wp2
 go_end0
 exact ⟨rfl, L1, a1, (Goes.only HOa.out).trans a2⟩
set_option maxRecDepth 100000 in
set_option maxHeartbeats 2000000 in
theorem t_follow6 (R : TR base p z A B w t L) (ok : TOk t) (hbs : base ≤ w.heap.size) (kind cell seen put num draw : Int) (F : FOk t seen put draw) (hs : t.step = 6) :
  Calls Tryz.prog 136 #[.pointer (some ⟨p, z, none⟩), .agg #[.int .i64 kind, .int .i64 cell, .int .i64 seen, .int .i64 put], .int .i64 num, .int .i64 draw] w (Dids base p z A B (yFollowRead seen t) L w) := by
 have h13 := R.tt.cStep
 rw [hs] at h13
 have hlt := R.tt.lt
 have hne : p ≠ w.heap.size := by omega
 have hB0 : Below w.heap.size w (w.alloc (.cells #[.int .i64 kind, .int .i64 cell, .int .i64 seen, .int .i64 put] 158)) := (Below.refl _ _).alloc (Nat.le_refl _) _
 have HRa : Hid (TR base p z A B (w.alloc (.cells #[.int .i64 kind, .int .i64 cell, .int .i64 seen, .int .i64 put] 158)) t L) := R.below hB0
 have HOa : Hid (Only p w (w.alloc (.cells #[.int .i64 kind, .int .i64 cell, .int .i64 seen, .int .i64 put] 158))) := Only.below hB0
 have HK : Hid (TOk t) := ok
 have HF : Hid (t.fails + 1 ≤ 2 ^ 40) := F.fl
 have hrg := F.regs
 have HBS : Hid (base ≤ (w.alloc (.cells #[.int .i64 kind, .int .i64 cell, .int .i64 seen, .int .i64 put] 158)).heap.size) := Nat.le_trans hbs hB0.size
 have HAd : Hid (0 ≤ t.turn.addr ∧ t.turn.addr ≤ 100) := F.ad (by omega)
 have HIn : Hid (0 ≤ t.m.into ∧ t.m.into ≤ 3) := F.into (by omega)
 clear R ok hbs F hB0
 go_enter Tryz.func136, Tryz.ntmps136
 go_wp2_with fail
 refine (t_followRead base p z A B t L _ HRa.out HK.out HBS.out HAd.out hrg HIn.out seen (by omega)).mono ?_
 rintro e w2 ⟨rfl, L1, a1, a2⟩
 go_wp2
 go_end0
 exact ⟨rfl, L1, a1, (Goes.only HOa.out).trans a2⟩
set_option maxRecDepth 100000 in
set_option maxHeartbeats 2000000 in
theorem t_follow7 (R : TR base p z A B w t L) (ok : TOk t) (hbs : base ≤ w.heap.size) (kind cell seen put num draw : Int) (F : FOk t seen put draw) (hs : t.step = 7) :
  Calls Tryz.prog 136 #[.pointer (some ⟨p, z, none⟩), .agg #[.int .i64 kind, .int .i64 cell, .int .i64 seen, .int .i64 put], .int .i64 num, .int .i64 draw] w (Dids base p z A B (yFollowGet seen t) L w) := by
 have h13 := R.tt.cStep
 rw [hs] at h13
 have hlt := R.tt.lt
 have hne : p ≠ w.heap.size := by omega
 have hB0 : Below w.heap.size w (w.alloc (.cells #[.int .i64 kind, .int .i64 cell, .int .i64 seen, .int .i64 put] 158)) := (Below.refl _ _).alloc (Nat.le_refl _) _
 have HRa : Hid (TR base p z A B (w.alloc (.cells #[.int .i64 kind, .int .i64 cell, .int .i64 seen, .int .i64 put] 158)) t L) := R.below hB0
 have HOa : Hid (Only p w (w.alloc (.cells #[.int .i64 kind, .int .i64 cell, .int .i64 seen, .int .i64 put] 158))) := Only.below hB0
 have HK : Hid (TOk t) := ok
 have HF : Hid (t.fails + 1 ≤ 2 ^ 40) := F.fl
 have hrg := F.regs
 have HBS : Hid (base ≤ (w.alloc (.cells #[.int .i64 kind, .int .i64 cell, .int .i64 seen, .int .i64 put] 158)).heap.size) := Nat.le_trans hbs hB0.size
 have HAd : Hid (0 ≤ t.turn.addr ∧ t.turn.addr ≤ 100) := F.ad (by omega)
 have HHl : Hid (t.held.length ≤ 99) := F.hl (by omega)
 have HS8 : Hid (t.step = 8 → 0 ≤ seen ∧ seen ≤ 100) := F.s8
 have HS9 : Hid (t.step = 9 → 0 ≤ seen ∧ seen ≤ 1125899906842624) := fun q => ⟨F.s0 (Or.inl q), F.sn.2⟩
 have HRv : Hid (t.step = 9 → 0 ≤ t.rival ∧ t.rival ≤ 100) := F.riv
 clear R ok hbs F hB0
 go_enter Tryz.func136, Tryz.ntmps136
 go_wp2_with fail
 refine (t_followGet base p z A B t L _ HRa.out HK.out HF.out HBS.out seen (by omega) (HAd.out).1 HHl.out HS8.out HS9.out HRv.out).mono ?_
 rintro e w2 ⟨rfl, L1, a1, a2⟩
 go_wp2
 go_end0
 exact ⟨rfl, L1, a1, (Goes.only HOa.out).trans a2⟩
set_option maxRecDepth 100000 in
set_option maxHeartbeats 2000000 in
theorem t_follow8 (R : TR base p z A B w t L) (ok : TOk t) (hbs : base ≤ w.heap.size) (kind cell seen put num draw : Int) (F : FOk t seen put draw) (hs : t.step = 8) :
  Calls Tryz.prog 136 #[.pointer (some ⟨p, z, none⟩), .agg #[.int .i64 kind, .int .i64 cell, .int .i64 seen, .int .i64 put], .int .i64 num, .int .i64 draw] w (Dids base p z A B (yFollowGet seen t) L w) := by
 have h13 := R.tt.cStep
 rw [hs] at h13
 have hlt := R.tt.lt
 have hne : p ≠ w.heap.size := by omega
 have hB0 : Below w.heap.size w (w.alloc (.cells #[.int .i64 kind, .int .i64 cell, .int .i64 seen, .int .i64 put] 158)) := (Below.refl _ _).alloc (Nat.le_refl _) _
 have HRa : Hid (TR base p z A B (w.alloc (.cells #[.int .i64 kind, .int .i64 cell, .int .i64 seen, .int .i64 put] 158)) t L) := R.below hB0
 have HOa : Hid (Only p w (w.alloc (.cells #[.int .i64 kind, .int .i64 cell, .int .i64 seen, .int .i64 put] 158))) := Only.below hB0
 have HK : Hid (TOk t) := ok
 have HF : Hid (t.fails + 1 ≤ 2 ^ 40) := F.fl
 have hrg := F.regs
 have HBS : Hid (base ≤ (w.alloc (.cells #[.int .i64 kind, .int .i64 cell, .int .i64 seen, .int .i64 put] 158)).heap.size) := Nat.le_trans hbs hB0.size
 have HAd : Hid (0 ≤ t.turn.addr ∧ t.turn.addr ≤ 100) := F.ad (by omega)
 have HHl : Hid (t.held.length ≤ 99) := F.hl (by omega)
 have HS8 : Hid (t.step = 8 → 0 ≤ seen ∧ seen ≤ 100) := F.s8
 have HS9 : Hid (t.step = 9 → 0 ≤ seen ∧ seen ≤ 1125899906842624) := fun q => ⟨F.s0 (Or.inl q), F.sn.2⟩
 have HRv : Hid (t.step = 9 → 0 ≤ t.rival ∧ t.rival ≤ 100) := F.riv
 clear R ok hbs F hB0
 go_enter Tryz.func136, Tryz.ntmps136
 go_wp2_with fail
 refine (t_followGet base p z A B t L _ HRa.out HK.out HF.out HBS.out seen (by omega) (HAd.out).1 HHl.out HS8.out HS9.out HRv.out).mono ?_
 rintro e w2 ⟨rfl, L1, a1, a2⟩
 go_wp2
 go_end0
 exact ⟨rfl, L1, a1, (Goes.only HOa.out).trans a2⟩
set_option maxRecDepth 100000 in
set_option maxHeartbeats 2000000 in
theorem t_follow9 (R : TR base p z A B w t L) (ok : TOk t) (hbs : base ≤ w.heap.size) (kind cell seen put num draw : Int) (F : FOk t seen put draw) (hs : t.step = 9) :
  Calls Tryz.prog 136 #[.pointer (some ⟨p, z, none⟩), .agg #[.int .i64 kind, .int .i64 cell, .int .i64 seen, .int .i64 put], .int .i64 num, .int .i64 draw] w (Dids base p z A B (yFollowGet seen t) L w) := by
 have h13 := R.tt.cStep
 rw [hs] at h13
 have hlt := R.tt.lt
 have hne : p ≠ w.heap.size := by omega
 have hB0 : Below w.heap.size w (w.alloc (.cells #[.int .i64 kind, .int .i64 cell, .int .i64 seen, .int .i64 put] 158)) := (Below.refl _ _).alloc (Nat.le_refl _) _
 have HRa : Hid (TR base p z A B (w.alloc (.cells #[.int .i64 kind, .int .i64 cell, .int .i64 seen, .int .i64 put] 158)) t L) := R.below hB0
 have HOa : Hid (Only p w (w.alloc (.cells #[.int .i64 kind, .int .i64 cell, .int .i64 seen, .int .i64 put] 158))) := Only.below hB0
 have HK : Hid (TOk t) := ok
 have HF : Hid (t.fails + 1 ≤ 2 ^ 40) := F.fl
 have hrg := F.regs
 have HBS : Hid (base ≤ (w.alloc (.cells #[.int .i64 kind, .int .i64 cell, .int .i64 seen, .int .i64 put] 158)).heap.size) := Nat.le_trans hbs hB0.size
 have HAd : Hid (0 ≤ t.turn.addr ∧ t.turn.addr ≤ 100) := F.ad (by omega)
 have HHl : Hid (t.held.length ≤ 99) := F.hl (by omega)
 have HS8 : Hid (t.step = 8 → 0 ≤ seen ∧ seen ≤ 100) := F.s8
 have HS9 : Hid (t.step = 9 → 0 ≤ seen ∧ seen ≤ 1125899906842624) := fun q => ⟨F.s0 (Or.inl q), F.sn.2⟩
 have HRv : Hid (t.step = 9 → 0 ≤ t.rival ∧ t.rival ≤ 100) := F.riv
 clear R ok hbs F hB0
 go_enter Tryz.func136, Tryz.ntmps136
 go_wp2_with fail
 refine (t_followGet base p z A B t L _ HRa.out HK.out HF.out HBS.out seen (by omega) (HAd.out).1 HHl.out HS8.out HS9.out HRv.out).mono ?_
 rintro e w2 ⟨rfl, L1, a1, a2⟩
 go_wp2
 go_end0
 exact ⟨rfl, L1, a1, (Goes.only HOa.out).trans a2⟩
set_option maxRecDepth 100000 in
set_option maxHeartbeats 2000000 in
theorem t_follow10 (R : TR base p z A B w t L) (ok : TOk t) (hbs : base ≤ w.heap.size) (kind cell seen put num draw : Int) (F : FOk t seen put draw) (hs : t.step = 10) :
  Calls Tryz.prog 136 #[.pointer (some ⟨p, z, none⟩), .agg #[.int .i64 kind, .int .i64 cell, .int .i64 seen, .int .i64 put], .int .i64 num, .int .i64 draw] w (Dids base p z A B (yFollowGet seen t) L w) := by
 have h13 := R.tt.cStep
 rw [hs] at h13
 have hlt := R.tt.lt
 have hne : p ≠ w.heap.size := by omega
 have hB0 : Below w.heap.size w (w.alloc (.cells #[.int .i64 kind, .int .i64 cell, .int .i64 seen, .int .i64 put] 158)) := (Below.refl _ _).alloc (Nat.le_refl _) _
 have HRa : Hid (TR base p z A B (w.alloc (.cells #[.int .i64 kind, .int .i64 cell, .int .i64 seen, .int .i64 put] 158)) t L) := R.below hB0
 have HOa : Hid (Only p w (w.alloc (.cells #[.int .i64 kind, .int .i64 cell, .int .i64 seen, .int .i64 put] 158))) := Only.below hB0
 have HK : Hid (TOk t) := ok
 have HF : Hid (t.fails + 1 ≤ 2 ^ 40) := F.fl
 have hrg := F.regs
 have HBS : Hid (base ≤ (w.alloc (.cells #[.int .i64 kind, .int .i64 cell, .int .i64 seen, .int .i64 put] 158)).heap.size) := Nat.le_trans hbs hB0.size
 have HAd : Hid (0 ≤ t.turn.addr ∧ t.turn.addr ≤ 100) := F.ad (by omega)
 have HHl : Hid (t.held.length ≤ 99) := F.hl (by omega)
 have HS8 : Hid (t.step = 8 → 0 ≤ seen ∧ seen ≤ 100) := F.s8
 have HS9 : Hid (t.step = 9 → 0 ≤ seen ∧ seen ≤ 1125899906842624) := fun q => ⟨F.s0 (Or.inl q), F.sn.2⟩
 have HRv : Hid (t.step = 9 → 0 ≤ t.rival ∧ t.rival ≤ 100) := F.riv
 clear R ok hbs F hB0
 go_enter Tryz.func136, Tryz.ntmps136
 go_wp2_with fail
 refine (t_followGet base p z A B t L _ HRa.out HK.out HF.out HBS.out seen (by omega) (HAd.out).1 HHl.out HS8.out HS9.out HRv.out).mono ?_
 rintro e w2 ⟨rfl, L1, a1, a2⟩
 go_wp2
 go_end0
 exact ⟨rfl, L1, a1, (Goes.only HOa.out).trans a2⟩
set_option maxRecDepth 100000 in
set_option maxHeartbeats 2000000 in
theorem t_follow11 (R : TR base p z A B w t L) (ok : TOk t) (hbs : base ≤ w.heap.size) (kind cell seen put num draw : Int) (F : FOk t seen put draw) (hs : t.step = 11) :
  Calls Tryz.prog 136 #[.pointer (some ⟨p, z, none⟩), .agg #[.int .i64 kind, .int .i64 cell, .int .i64 seen, .int .i64 put], .int .i64 num, .int .i64 draw] w (Dids base p z A B (yFollowGet seen t) L w) := by
 have h13 := R.tt.cStep
 rw [hs] at h13
 have hlt := R.tt.lt
 have hne : p ≠ w.heap.size := by omega
 have hB0 : Below w.heap.size w (w.alloc (.cells #[.int .i64 kind, .int .i64 cell, .int .i64 seen, .int .i64 put] 158)) := (Below.refl _ _).alloc (Nat.le_refl _) _
 have HRa : Hid (TR base p z A B (w.alloc (.cells #[.int .i64 kind, .int .i64 cell, .int .i64 seen, .int .i64 put] 158)) t L) := R.below hB0
 have HOa : Hid (Only p w (w.alloc (.cells #[.int .i64 kind, .int .i64 cell, .int .i64 seen, .int .i64 put] 158))) := Only.below hB0
 have HK : Hid (TOk t) := ok
 have HF : Hid (t.fails + 1 ≤ 2 ^ 40) := F.fl
 have hrg := F.regs
 have HBS : Hid (base ≤ (w.alloc (.cells #[.int .i64 kind, .int .i64 cell, .int .i64 seen, .int .i64 put] 158)).heap.size) := Nat.le_trans hbs hB0.size
 have HAd : Hid (0 ≤ t.turn.addr ∧ t.turn.addr ≤ 100) := F.ad (by omega)
 have HHl : Hid (t.held.length ≤ 99) := F.hl (by omega)
 have HS8 : Hid (t.step = 8 → 0 ≤ seen ∧ seen ≤ 100) := F.s8
 have HS9 : Hid (t.step = 9 → 0 ≤ seen ∧ seen ≤ 1125899906842624) := fun q => ⟨F.s0 (Or.inl q), F.sn.2⟩
 have HRv : Hid (t.step = 9 → 0 ≤ t.rival ∧ t.rival ≤ 100) := F.riv
 clear R ok hbs F hB0
 go_enter Tryz.func136, Tryz.ntmps136
 go_wp2_with fail
 refine (t_followGet base p z A B t L _ HRa.out HK.out HF.out HBS.out seen (by omega) (HAd.out).1 HHl.out HS8.out HS9.out HRv.out).mono ?_
 rintro e w2 ⟨rfl, L1, a1, a2⟩
 go_wp2
 go_end0
 exact ⟨rfl, L1, a1, (Goes.only HOa.out).trans a2⟩
set_option maxRecDepth 100000 in
set_option maxHeartbeats 2000000 in
theorem t_follow12 (R : TR base p z A B w t L) (ok : TOk t) (hbs : base ≤ w.heap.size) (kind cell seen put num draw : Int) (F : FOk t seen put draw) (hs : t.step = 12) :
  Calls Tryz.prog 136 #[.pointer (some ⟨p, z, none⟩), .agg #[.int .i64 kind, .int .i64 cell, .int .i64 seen, .int .i64 put], .int .i64 num, .int .i64 draw] w (Dids base p z A B (yFollowExt seen t) L w) := by
 have h13 := R.tt.cStep
 rw [hs] at h13
 have hlt := R.tt.lt
 have hne : p ≠ w.heap.size := by omega
 have hB0 : Below w.heap.size w (w.alloc (.cells #[.int .i64 kind, .int .i64 cell, .int .i64 seen, .int .i64 put] 158)) := (Below.refl _ _).alloc (Nat.le_refl _) _
 have HRa : Hid (TR base p z A B (w.alloc (.cells #[.int .i64 kind, .int .i64 cell, .int .i64 seen, .int .i64 put] 158)) t L) := R.below hB0
 have HOa : Hid (Only p w (w.alloc (.cells #[.int .i64 kind, .int .i64 cell, .int .i64 seen, .int .i64 put] 158))) := Only.below hB0
 have HK : Hid (TOk t) := ok
 have HF : Hid (t.fails + 1 ≤ 2 ^ 40) := F.fl
 have hrg := F.regs
 have HBS : Hid (base ≤ (w.alloc (.cells #[.int .i64 kind, .int .i64 cell, .int .i64 seen, .int .i64 put] 158)).heap.size) := Nat.le_trans hbs hB0.size
 have HIn : Hid (t.turn.op = 7 → 0 ≤ t.m.into ∧ t.m.into ≤ 3) := fun q => F.into (Or.inr ⟨by omega, q⟩)
 have HAt : Hid (t.step = 13 → t.at_ < t.reads.length) := fun q => F.rat (Or.inl q)
 clear R ok hbs F hB0
 go_enter Tryz.func136, Tryz.ntmps136
 go_wp2_with fail
 refine (t_followExt base p z A B t L _ HRa.out HK.out HF.out HBS.out hrg HIn.out seen (by omega) HAt.out).mono ?_
 rintro e w2 ⟨rfl, L1, a1, a2⟩
 go_wp2
 go_end0
 exact ⟨rfl, L1, a1, (Goes.only HOa.out).trans a2⟩
set_option maxRecDepth 100000 in
set_option maxHeartbeats 2000000 in
theorem t_follow13 (R : TR base p z A B w t L) (ok : TOk t) (hbs : base ≤ w.heap.size) (kind cell seen put num draw : Int) (F : FOk t seen put draw) (hs : t.step = 13) :
  Calls Tryz.prog 136 #[.pointer (some ⟨p, z, none⟩), .agg #[.int .i64 kind, .int .i64 cell, .int .i64 seen, .int .i64 put], .int .i64 num, .int .i64 draw] w (Dids base p z A B (yFollowExt seen t) L w) := by
 have h13 := R.tt.cStep
 rw [hs] at h13
 have hlt := R.tt.lt
 have hne : p ≠ w.heap.size := by omega
 have hB0 : Below w.heap.size w (w.alloc (.cells #[.int .i64 kind, .int .i64 cell, .int .i64 seen, .int .i64 put] 158)) := (Below.refl _ _).alloc (Nat.le_refl _) _
 have HRa : Hid (TR base p z A B (w.alloc (.cells #[.int .i64 kind, .int .i64 cell, .int .i64 seen, .int .i64 put] 158)) t L) := R.below hB0
 have HOa : Hid (Only p w (w.alloc (.cells #[.int .i64 kind, .int .i64 cell, .int .i64 seen, .int .i64 put] 158))) := Only.below hB0
 have HK : Hid (TOk t) := ok
 have HF : Hid (t.fails + 1 ≤ 2 ^ 40) := F.fl
 have hrg := F.regs
 have HBS : Hid (base ≤ (w.alloc (.cells #[.int .i64 kind, .int .i64 cell, .int .i64 seen, .int .i64 put] 158)).heap.size) := Nat.le_trans hbs hB0.size
 have HIn : Hid (t.turn.op = 7 → 0 ≤ t.m.into ∧ t.m.into ≤ 3) := fun q => F.into (Or.inr ⟨by omega, q⟩)
 have HAt : Hid (t.step = 13 → t.at_ < t.reads.length) := fun q => F.rat (Or.inl q)
 clear R ok hbs F hB0
 go_enter Tryz.func136, Tryz.ntmps136
 go_wp2_with fail
 refine (t_followExt base p z A B t L _ HRa.out HK.out HF.out HBS.out hrg HIn.out seen (by omega) HAt.out).mono ?_
 rintro e w2 ⟨rfl, L1, a1, a2⟩
 go_wp2
 go_end0
 exact ⟨rfl, L1, a1, (Goes.only HOa.out).trans a2⟩
set_option maxRecDepth 100000 in
set_option maxHeartbeats 2000000 in
theorem t_follow14 (R : TR base p z A B w t L) (ok : TOk t) (hbs : base ≤ w.heap.size) (kind cell seen put num draw : Int) (F : FOk t seen put draw) (hs : t.step = 14) :
  Calls Tryz.prog 136 #[.pointer (some ⟨p, z, none⟩), .agg #[.int .i64 kind, .int .i64 cell, .int .i64 seen, .int .i64 put], .int .i64 num, .int .i64 draw] w (Dids base p z A B (yFollowTicket seen put t) L w) := by
 have h13 := R.tt.cStep
 rw [hs] at h13
 have hlt := R.tt.lt
 have hne : p ≠ w.heap.size := by omega
 have hB0 : Below w.heap.size w (w.alloc (.cells #[.int .i64 kind, .int .i64 cell, .int .i64 seen, .int .i64 put] 158)) := (Below.refl _ _).alloc (Nat.le_refl _) _
 have HRa : Hid (TR base p z A B (w.alloc (.cells #[.int .i64 kind, .int .i64 cell, .int .i64 seen, .int .i64 put] 158)) t L) := R.below hB0
 have HOa : Hid (Only p w (w.alloc (.cells #[.int .i64 kind, .int .i64 cell, .int .i64 seen, .int .i64 put] 158))) := Only.below hB0
 have HK : Hid (TOk t) := ok
 have HF : Hid (t.fails + 1 ≤ 2 ^ 40) := F.fl
 have hrg := F.regs
 have HBS : Hid (base ≤ (w.alloc (.cells #[.int .i64 kind, .int .i64 cell, .int .i64 seen, .int .i64 put] 158)).heap.size) := Nat.le_trans hbs hB0.size
 have HPu : Hid (t.step = 14 → 0 ≤ put ∧ put ≤ 2 ^ 40) := fun q => F.put (Or.inl q)
 clear R ok hbs F hB0
 go_enter Tryz.func136, Tryz.ntmps136
 go_wp2_with fail
 refine (t_ticket base p z A B t L _ HRa.out HK.out HF.out (by omega) kind cell seen put HPu.out).mono ?_
 rintro e w2 ⟨rfl, a1, a2⟩
 go_wp2
 go_end0
 exact ⟨rfl, L, (HRa.out).by a1 a2 (lists_ticket seen put t), Goes.only ((HOa.out).trans a2)⟩
set_option maxRecDepth 100000 in
set_option maxHeartbeats 2000000 in
theorem t_follow15 (R : TR base p z A B w t L) (ok : TOk t) (hbs : base ≤ w.heap.size) (kind cell seen put num draw : Int) (F : FOk t seen put draw) (hs : t.step = 15) :
  Calls Tryz.prog 136 #[.pointer (some ⟨p, z, none⟩), .agg #[.int .i64 kind, .int .i64 cell, .int .i64 seen, .int .i64 put], .int .i64 num, .int .i64 draw] w (Dids base p z A B (yFollowTicket seen put t) L w) := by
 have h13 := R.tt.cStep
 rw [hs] at h13
 have hlt := R.tt.lt
 have hne : p ≠ w.heap.size := by omega
 have hB0 : Below w.heap.size w (w.alloc (.cells #[.int .i64 kind, .int .i64 cell, .int .i64 seen, .int .i64 put] 158)) := (Below.refl _ _).alloc (Nat.le_refl _) _
 have HRa : Hid (TR base p z A B (w.alloc (.cells #[.int .i64 kind, .int .i64 cell, .int .i64 seen, .int .i64 put] 158)) t L) := R.below hB0
 have HOa : Hid (Only p w (w.alloc (.cells #[.int .i64 kind, .int .i64 cell, .int .i64 seen, .int .i64 put] 158))) := Only.below hB0
 have HK : Hid (TOk t) := ok
 have HF : Hid (t.fails + 1 ≤ 2 ^ 40) := F.fl
 have hrg := F.regs
 have HBS : Hid (base ≤ (w.alloc (.cells #[.int .i64 kind, .int .i64 cell, .int .i64 seen, .int .i64 put] 158)).heap.size) := Nat.le_trans hbs hB0.size
 have HPu : Hid (t.step = 14 → 0 ≤ put ∧ put ≤ 2 ^ 40) := fun q => F.put (Or.inl q)
 clear R ok hbs F hB0
 go_enter Tryz.func136, Tryz.ntmps136
 go_wp2_with fail
 refine (t_ticket base p z A B t L _ HRa.out HK.out HF.out (by omega) kind cell seen put HPu.out).mono ?_
 rintro e w2 ⟨rfl, a1, a2⟩
 go_wp2
 go_end0
 exact ⟨rfl, L, (HRa.out).by a1 a2 (lists_ticket seen put t), Goes.only ((HOa.out).trans a2)⟩
set_option maxRecDepth 100000 in
set_option maxHeartbeats 2000000 in
theorem t_follow19 (R : TR base p z A B w t L) (ok : TOk t) (hbs : base ≤ w.heap.size) (kind cell seen put num draw : Int) (F : FOk t seen put draw) (hs : t.step = 19) :
  Calls Tryz.prog 136 #[.pointer (some ⟨p, z, none⟩), .agg #[.int .i64 kind, .int .i64 cell, .int .i64 seen, .int .i64 put], .int .i64 num, .int .i64 draw] w (Dids base p z A B (yFollowCommit seen t) L w) := by
 have h13 := R.tt.cStep
 rw [hs] at h13
 have hlt := R.tt.lt
 have hne : p ≠ w.heap.size := by omega
 have hB0 : Below w.heap.size w (w.alloc (.cells #[.int .i64 kind, .int .i64 cell, .int .i64 seen, .int .i64 put] 158)) := (Below.refl _ _).alloc (Nat.le_refl _) _
 have HRa : Hid (TR base p z A B (w.alloc (.cells #[.int .i64 kind, .int .i64 cell, .int .i64 seen, .int .i64 put] 158)) t L) := R.below hB0
 have HOa : Hid (Only p w (w.alloc (.cells #[.int .i64 kind, .int .i64 cell, .int .i64 seen, .int .i64 put] 158))) := Only.below hB0
 have HK : Hid (TOk t) := ok
 have HF : Hid (t.fails + 1 ≤ 2 ^ 40) := F.fl
 have hrg := F.regs
 have HBS : Hid (base ≤ (w.alloc (.cells #[.int .i64 kind, .int .i64 cell, .int .i64 seen, .int .i64 put] 158)).heap.size) := Nat.le_trans hbs hB0.size
 have HSn : Hid (-1 ≤ seen ∧ seen ≤ 2 ^ 50) := ⟨F.sn.1, by have := F.sn.2; omega⟩
 have HCl : Hid (-1 ≤ t.clock ∧ t.clock ≤ 2 ^ 50) := F.clk (by omega)
 have HAt : Hid (t.step = 19 → t.at_ < t.reads.length) := fun q => F.rat (Or.inr q)
 clear R ok hbs F hB0
 go_enter Tryz.func136, Tryz.ntmps136
 go_wp2_with fail
 refine (t_followCommit base p z A B t L _ HRa.out HK.out HF.out seen HSn.out HCl.out (by omega) HAt.out).mono ?_
 rintro e w2 ⟨rfl, a1, a2⟩
 go_wp2
 go_end0
 exact ⟨rfl, L, (HRa.out).by a1 a2 (lists_commit seen t), Goes.only ((HOa.out).trans a2)⟩
set_option maxRecDepth 100000 in
set_option maxHeartbeats 2000000 in
theorem t_follow20 (R : TR base p z A B w t L) (ok : TOk t) (hbs : base ≤ w.heap.size) (kind cell seen put num draw : Int) (F : FOk t seen put draw) (hs : t.step = 20) :
  Calls Tryz.prog 136 #[.pointer (some ⟨p, z, none⟩), .agg #[.int .i64 kind, .int .i64 cell, .int .i64 seen, .int .i64 put], .int .i64 num, .int .i64 draw] w (Dids base p z A B (yFollowStore t) L w) := by
 have h13 := R.tt.cStep
 rw [hs] at h13
 have hlt := R.tt.lt
 have hne : p ≠ w.heap.size := by omega
 have hB0 : Below w.heap.size w (w.alloc (.cells #[.int .i64 kind, .int .i64 cell, .int .i64 seen, .int .i64 put] 158)) := (Below.refl _ _).alloc (Nat.le_refl _) _
 have HRa : Hid (TR base p z A B (w.alloc (.cells #[.int .i64 kind, .int .i64 cell, .int .i64 seen, .int .i64 put] 158)) t L) := R.below hB0
 have HOa : Hid (Only p w (w.alloc (.cells #[.int .i64 kind, .int .i64 cell, .int .i64 seen, .int .i64 put] 158))) := Only.below hB0
 have HK : Hid (TOk t) := ok
 have HF : Hid (t.fails + 1 ≤ 2 ^ 40) := F.fl
 have hrg := F.regs
 have HBS : Hid (base ≤ (w.alloc (.cells #[.int .i64 kind, .int .i64 cell, .int .i64 seen, .int .i64 put] 158)).heap.size) := Nat.le_trans hbs hB0.size
 have HCl : Hid (-1 ≤ t.clock ∧ t.clock ≤ 2 ^ 50) := F.clk (by omega)
 have HAt : Hid (t.at_ ≤ 1000) := F.at' (by omega)
 have HHt : Hid (t.step = 24 → t.at_ < t.held.length) := F.hat
 clear R ok hbs F hB0
 go_enter Tryz.func136, Tryz.ntmps136
 go_wp2_with fail
 refine (t_followStore base p z A B t L _ HRa.out HK.out HCl.out (by omega) HAt.out HHt.out).mono ?_
 rintro e w2 ⟨rfl, a1, a2⟩
 go_wp2
 go_end0
 exact ⟨rfl, L, (HRa.out).by a1 a2 (lists_store t), Goes.only ((HOa.out).trans a2)⟩
set_option maxRecDepth 100000 in
set_option maxHeartbeats 2000000 in
theorem t_follow23 (R : TR base p z A B w t L) (ok : TOk t) (hbs : base ≤ w.heap.size) (kind cell seen put num draw : Int) (F : FOk t seen put draw) (hs : t.step = 23) :
  Calls Tryz.prog 136 #[.pointer (some ⟨p, z, none⟩), .agg #[.int .i64 kind, .int .i64 cell, .int .i64 seen, .int .i64 put], .int .i64 num, .int .i64 draw] w (Dids base p z A B (yFollowStore t) L w) := by
 have h13 := R.tt.cStep
 rw [hs] at h13
 have hlt := R.tt.lt
 have hne : p ≠ w.heap.size := by omega
 have hB0 : Below w.heap.size w (w.alloc (.cells #[.int .i64 kind, .int .i64 cell, .int .i64 seen, .int .i64 put] 158)) := (Below.refl _ _).alloc (Nat.le_refl _) _
 have HRa : Hid (TR base p z A B (w.alloc (.cells #[.int .i64 kind, .int .i64 cell, .int .i64 seen, .int .i64 put] 158)) t L) := R.below hB0
 have HOa : Hid (Only p w (w.alloc (.cells #[.int .i64 kind, .int .i64 cell, .int .i64 seen, .int .i64 put] 158))) := Only.below hB0
 have HK : Hid (TOk t) := ok
 have HF : Hid (t.fails + 1 ≤ 2 ^ 40) := F.fl
 have hrg := F.regs
 have HBS : Hid (base ≤ (w.alloc (.cells #[.int .i64 kind, .int .i64 cell, .int .i64 seen, .int .i64 put] 158)).heap.size) := Nat.le_trans hbs hB0.size
 have HCl : Hid (-1 ≤ t.clock ∧ t.clock ≤ 2 ^ 50) := F.clk (by omega)
 have HAt : Hid (t.at_ ≤ 1000) := F.at' (by omega)
 have HHt : Hid (t.step = 24 → t.at_ < t.held.length) := F.hat
 clear R ok hbs F hB0
 go_enter Tryz.func136, Tryz.ntmps136
 go_wp2_with fail
 refine (t_followStore base p z A B t L _ HRa.out HK.out HCl.out (by omega) HAt.out HHt.out).mono ?_
 rintro e w2 ⟨rfl, a1, a2⟩
 go_wp2
 go_end0
 exact ⟨rfl, L, (HRa.out).by a1 a2 (lists_store t), Goes.only ((HOa.out).trans a2)⟩
set_option maxRecDepth 100000 in
set_option maxHeartbeats 2000000 in
theorem t_follow24 (R : TR base p z A B w t L) (ok : TOk t) (hbs : base ≤ w.heap.size) (kind cell seen put num draw : Int) (F : FOk t seen put draw) (hs : t.step = 24) :
  Calls Tryz.prog 136 #[.pointer (some ⟨p, z, none⟩), .agg #[.int .i64 kind, .int .i64 cell, .int .i64 seen, .int .i64 put], .int .i64 num, .int .i64 draw] w (Dids base p z A B (yFollowStore t) L w) := by
 have h13 := R.tt.cStep
 rw [hs] at h13
 have hlt := R.tt.lt
 have hne : p ≠ w.heap.size := by omega
 have hB0 : Below w.heap.size w (w.alloc (.cells #[.int .i64 kind, .int .i64 cell, .int .i64 seen, .int .i64 put] 158)) := (Below.refl _ _).alloc (Nat.le_refl _) _
 have HRa : Hid (TR base p z A B (w.alloc (.cells #[.int .i64 kind, .int .i64 cell, .int .i64 seen, .int .i64 put] 158)) t L) := R.below hB0
 have HOa : Hid (Only p w (w.alloc (.cells #[.int .i64 kind, .int .i64 cell, .int .i64 seen, .int .i64 put] 158))) := Only.below hB0
 have HK : Hid (TOk t) := ok
 have HF : Hid (t.fails + 1 ≤ 2 ^ 40) := F.fl
 have hrg := F.regs
 have HBS : Hid (base ≤ (w.alloc (.cells #[.int .i64 kind, .int .i64 cell, .int .i64 seen, .int .i64 put] 158)).heap.size) := Nat.le_trans hbs hB0.size
 have HCl : Hid (-1 ≤ t.clock ∧ t.clock ≤ 2 ^ 50) := F.clk (by omega)
 have HAt : Hid (t.at_ ≤ 1000) := F.at' (by omega)
 have HHt : Hid (t.step = 24 → t.at_ < t.held.length) := F.hat
 clear R ok hbs F hB0
 go_enter Tryz.func136, Tryz.ntmps136
 go_wp2_with fail
 refine (t_followStore base p z A B t L _ HRa.out HK.out HCl.out (by omega) HAt.out HHt.out).mono ?_
 rintro e w2 ⟨rfl, a1, a2⟩
 go_wp2
 go_end0
 exact ⟨rfl, L, (HRa.out).by a1 a2 (lists_store t), Goes.only ((HOa.out).trans a2)⟩
set_option maxRecDepth 100000 in
set_option maxHeartbeats 2000000 in
theorem t_follow25 (R : TR base p z A B w t L) (ok : TOk t) (hbs : base ≤ w.heap.size) (kind cell seen put num draw : Int) (F : FOk t seen put draw) (hs : t.step = 25) :
  Calls Tryz.prog 136 #[.pointer (some ⟨p, z, none⟩), .agg #[.int .i64 kind, .int .i64 cell, .int .i64 seen, .int .i64 put], .int .i64 num, .int .i64 draw] w (Dids base p z A B (yFollowStore t) L w) := by
 have h13 := R.tt.cStep
 rw [hs] at h13
 have hlt := R.tt.lt
 have hne : p ≠ w.heap.size := by omega
 have hB0 : Below w.heap.size w (w.alloc (.cells #[.int .i64 kind, .int .i64 cell, .int .i64 seen, .int .i64 put] 158)) := (Below.refl _ _).alloc (Nat.le_refl _) _
 have HRa : Hid (TR base p z A B (w.alloc (.cells #[.int .i64 kind, .int .i64 cell, .int .i64 seen, .int .i64 put] 158)) t L) := R.below hB0
 have HOa : Hid (Only p w (w.alloc (.cells #[.int .i64 kind, .int .i64 cell, .int .i64 seen, .int .i64 put] 158))) := Only.below hB0
 have HK : Hid (TOk t) := ok
 have HF : Hid (t.fails + 1 ≤ 2 ^ 40) := F.fl
 have hrg := F.regs
 have HBS : Hid (base ≤ (w.alloc (.cells #[.int .i64 kind, .int .i64 cell, .int .i64 seen, .int .i64 put] 158)).heap.size) := Nat.le_trans hbs hB0.size
 have HCl : Hid (-1 ≤ t.clock ∧ t.clock ≤ 2 ^ 50) := F.clk (by omega)
 have HAt : Hid (t.at_ ≤ 1000) := F.at' (by omega)
 have HHt : Hid (t.step = 24 → t.at_ < t.held.length) := F.hat
 clear R ok hbs F hB0
 go_enter Tryz.func136, Tryz.ntmps136
 go_wp2_with fail
 refine (t_followStore base p z A B t L _ HRa.out HK.out HCl.out (by omega) HAt.out HHt.out).mono ?_
 rintro e w2 ⟨rfl, a1, a2⟩
 go_wp2
 go_end0
 exact ⟨rfl, L, (HRa.out).by a1 a2 (lists_store t), Goes.only ((HOa.out).trans a2)⟩
set_option maxRecDepth 100000 in
set_option maxHeartbeats 2000000 in
theorem t_follow27 (R : TR base p z A B w t L) (ok : TOk t) (hbs : base ≤ w.heap.size) (kind cell seen put num draw : Int) (F : FOk t seen put draw) (hs : t.step = 27) :
  Calls Tryz.prog 136 #[.pointer (some ⟨p, z, none⟩), .agg #[.int .i64 kind, .int .i64 cell, .int .i64 seen, .int .i64 put], .int .i64 num, .int .i64 draw] w (Dids base p z A B (yNextJob num t) L w) := by
 have h13 := R.tt.cStep
 rw [hs] at h13
 have hlt := R.tt.lt
 have hne : p ≠ w.heap.size := by omega
 have hB0 : Below w.heap.size w (w.alloc (.cells #[.int .i64 kind, .int .i64 cell, .int .i64 seen, .int .i64 put] 158)) := (Below.refl _ _).alloc (Nat.le_refl _) _
 have HRa : Hid (TR base p z A B (w.alloc (.cells #[.int .i64 kind, .int .i64 cell, .int .i64 seen, .int .i64 put] 158)) t L) := R.below hB0
 have HOa : Hid (Only p w (w.alloc (.cells #[.int .i64 kind, .int .i64 cell, .int .i64 seen, .int .i64 put] 158))) := Only.below hB0
 have HK : Hid (TOk t) := ok
 have HF : Hid (t.fails + 1 ≤ 2 ^ 40) := F.fl
 have hrg := F.regs
 have HBS : Hid (base ≤ (w.alloc (.cells #[.int .i64 kind, .int .i64 cell, .int .i64 seen, .int .i64 put] 158)).heap.size) := Nat.le_trans hbs hB0.size
 clear R ok hbs F hB0
 go_enter Tryz.func136, Tryz.ntmps136
 go_wp2_with fail
 refine (t_nextJob base p z A B t L _ HRa.out HK.out HBS.out num).mono ?_
 rintro e w2 ⟨rfl, L1, a1, a2⟩
 go_wp2
 go_end0
 exact ⟨rfl, L1, a1, (Goes.only HOa.out).trans a2⟩
set_option maxRecDepth 100000 in
set_option maxHeartbeats 2000000 in
theorem t_follow29 (R : TR base p z A B w t L) (ok : TOk t) (hbs : base ≤ w.heap.size) (kind cell seen put num draw : Int) (F : FOk t seen put draw) (hs : t.step = 29) :
  Calls Tryz.prog 136 #[.pointer (some ⟨p, z, none⟩), .agg #[.int .i64 kind, .int .i64 cell, .int .i64 seen, .int .i64 put], .int .i64 num, .int .i64 draw] w (Dids base p z A B (yFollowFail put t) L w) := by
 have h13 := R.tt.cStep
 rw [hs] at h13
 have hlt := R.tt.lt
 have hne : p ≠ w.heap.size := by omega
 have hB0 : Below w.heap.size w (w.alloc (.cells #[.int .i64 kind, .int .i64 cell, .int .i64 seen, .int .i64 put] 158)) := (Below.refl _ _).alloc (Nat.le_refl _) _
 have HRa : Hid (TR base p z A B (w.alloc (.cells #[.int .i64 kind, .int .i64 cell, .int .i64 seen, .int .i64 put] 158)) t L) := R.below hB0
 have HOa : Hid (Only p w (w.alloc (.cells #[.int .i64 kind, .int .i64 cell, .int .i64 seen, .int .i64 put] 158))) := Only.below hB0
 have HK : Hid (TOk t) := ok
 have HF : Hid (t.fails + 1 ≤ 2 ^ 40) := F.fl
 have hrg := F.regs
 have HBS : Hid (base ≤ (w.alloc (.cells #[.int .i64 kind, .int .i64 cell, .int .i64 seen, .int .i64 put] 158)).heap.size) := Nat.le_trans hbs hB0.size
 have HAt : Hid (t.at_ ≤ 1000) := F.at' (by omega)
 have HPu : Hid (0 ≤ put ∧ put ≤ 2 ^ 40) := F.put (by omega)
 clear R ok hbs F hB0
 go_enter Tryz.func136, Tryz.ntmps136
 go_wp2_with fail
 refine (t_followFail base p z A B t L _ HRa.out HK.out HF.out (by omega) HAt.out put HPu.out).mono ?_
 rintro e w2 ⟨rfl, a1, a2⟩
 go_wp2
 go_end0
 exact ⟨rfl, L, (HRa.out).by a1 a2 (lists_ffail put t), Goes.only ((HOa.out).trans a2)⟩
set_option maxRecDepth 100000 in
set_option maxHeartbeats 2000000 in
theorem t_follow31 (R : TR base p z A B w t L) (ok : TOk t) (hbs : base ≤ w.heap.size) (kind cell seen put num draw : Int) (F : FOk t seen put draw) (hs : t.step = 31) :
  Calls Tryz.prog 136 #[.pointer (some ⟨p, z, none⟩), .agg #[.int .i64 kind, .int .i64 cell, .int .i64 seen, .int .i64 put], .int .i64 num, .int .i64 draw] w (Dids base p z A B (yLose seen draw (yConc 5 num t)) L w) := by
 have h13 := R.tt.cStep
 rw [hs] at h13
 have hlt := R.tt.lt
 have hne : p ≠ w.heap.size := by omega
 have hB0 : Below w.heap.size w (w.alloc (.cells #[.int .i64 kind, .int .i64 cell, .int .i64 seen, .int .i64 put] 158)) := (Below.refl _ _).alloc (Nat.le_refl _) _
 have HRa : Hid (TR base p z A B (w.alloc (.cells #[.int .i64 kind, .int .i64 cell, .int .i64 seen, .int .i64 put] 158)) t L) := R.below hB0
 have HOa : Hid (Only p w (w.alloc (.cells #[.int .i64 kind, .int .i64 cell, .int .i64 seen, .int .i64 put] 158))) := Only.below hB0
 have HK : Hid (TOk t) := ok
 have HF : Hid (t.fails + 1 ≤ 2 ^ 40) := F.fl
 have hrg := F.regs
 have HBS : Hid (base ≤ (w.alloc (.cells #[.int .i64 kind, .int .i64 cell, .int .i64 seen, .int .i64 put] 158)).heap.size) := Nat.le_trans hbs hB0.size
 have HS0 : Hid (0 ≤ seen) := F.s0 (by omega)
 have HWy : Hid (0 ≤ t.wayTo ∧ t.wayTo ≤ 100) := F.way (by omega)
 clear R ok hbs F hB0
 go_enter Tryz.func136, Tryz.ntmps136
 go_wp2_with fail
 refine (t_conclude p z A B t L _ (HRa.out).tt 5 num).mono ?_
 rintro e w1 ⟨rfl, b1, b2⟩
 have HR1 : Hid (TR base p z A B w1 (yConc 5 num t) L) := (HRa.out).by b1 b2 ⟨rfl, rfl, rfl, rfl, rfl, rfl⟩
 have HO1 : Hid (Only p w w1) := (HOa.out).trans b2
 have hbx : ∀ i, w1.cell? ⟨w.heap.size, i, none⟩ = (#[.int .i64 kind, .int .i64 cell, .int .i64 seen, .int .i64 put] : Array Value)[i]? := (Blk.only (Blk.new w 158 #[.int .i64 kind, .int .i64 cell, .int .i64 seen, .int .i64 put]) b2 (Ne.symm hne)).cell
 clear b1 b2 HRa HOa
 go_wp2_with fail
 refine (t_lose p z A B (yConc 5 num t) L _ (HR1.out).tt HK.out seen draw HS0.out HWy.out).mono ?_
 rintro e w2 ⟨rfl, a1, a2⟩
 go_wp2
 go_end0
 exact ⟨rfl, L, (HR1.out).by a1 a2 (lists_lose seen draw (yConc 5 num t)), Goes.only ((HO1.out).trans a2)⟩
set_option maxRecDepth 100000 in
set_option maxHeartbeats 2000000 in
theorem t_follow26 (R : TR base p z A B w t L) (ok : TOk t) (hbs : base ≤ w.heap.size) (kind cell seen put num draw : Int) (F : FOk t seen put draw) (hs : t.step = 26) :
  Calls Tryz.prog 136 #[.pointer (some ⟨p, z, none⟩), .agg #[.int .i64 kind, .int .i64 cell, .int .i64 seen, .int .i64 put], .int .i64 num, .int .i64 draw] w (Dids base p z A B (yLetGo { t with at_ := t.at_ + 1 }) L w) := by
 have h13 := R.tt.cStep
 rw [hs] at h13
 have h38 := R.tt.cAt
 have hf := R.tt.froz
 have hlt := R.tt.lt
 have hne : p ≠ w.heap.size := by omega
 have hat := F.at' (by omega)
 have hwk : IntKind.i64.wrap ((t.at_ : Int) + 1) = ((t.at_ + 1 : Nat) : Int) := by rw [wrapP _ (by omega) (by omega)]; omega
 have hb1 : TAt ((w.setCell ⟨p, z + 19 + 27, none⟩ (.int .i64 ((t.at_ + 1 : Nat) : Int))).alloc (.cells #[.int .i64 kind, .int .i64 cell, .int .i64 seen, .int .i64 put] 158)) p z A B { t with at_ := t.at_ + 1 } L := TAt.below (R.tt.set (t' := { t with at_ := t.at_ + 1 }) 46 (by decide) (.int .i64 ((t.at_ + 1 : Nat) : Int)) rfl) ((Below.refl _ _).alloc (Nat.le_refl _) _)
 have ho1 : Only p w ((w.setCell ⟨p, z + 19 + 27, none⟩ (.int .i64 ((t.at_ + 1 : Nat) : Int))).alloc (.cells #[.int .i64 kind, .int .i64 cell, .int .i64 seen, .int .i64 put] 158)) := ((Only.refl _ _).set).trans (Only.below ((Below.refl _ _).alloc (Nat.le_refl _) _))
 have HRa : Hid (TR base p z A B ((w.setCell ⟨p, z + 19 + 27, none⟩ (.int .i64 ((t.at_ + 1 : Nat) : Int))).alloc (.cells #[.int .i64 kind, .int .i64 cell, .int .i64 seen, .int .i64 put] 158)) { t with at_ := t.at_ + 1 } L) := R.next hb1 ho1 rfl rfl rfl rfl rfl rfl
 have HOa : Hid (Only p w ((w.setCell ⟨p, z + 19 + 27, none⟩ (.int .i64 ((t.at_ + 1 : Nat) : Int))).alloc (.cells #[.int .i64 kind, .int .i64 cell, .int .i64 seen, .int .i64 put] 158))) := ho1
 have HK : Hid (TOk t) := ok
 clear R ok hbs F hb1 ho1 hat
 go_enter Tryz.func136, Tryz.ntmps136
 go_wp2_with fail
 refine (t_letGo base p z A B { t with at_ := t.at_ + 1 } L _ HRa.out HK.out).mono ?_
 rintro e w2 ⟨rfl, a1, a2⟩
 go_wp2
 go_end0
 exact ⟨rfl, L, (HRa.out).by a1 a2 (lists_letgo _), Goes.only ((HOa.out).trans a2)⟩
theorem t_follow (R : TR base p z A B w t L) (ok : TOk t) (hbs : base ≤ w.heap.size) (kind cell seen put num draw : Int) (F : FOk t seen put draw) (h2 : t.step ≠ 2) (h32 : t.step ≠ 32) (h21 : t.step ≠ 21) (h22 : t.step ≠ 22) (h28 : t.step ≠ 28) (h30 : t.step ≠ 30) (h16 : t.step ≠ 16) (h17 : t.step ≠ 17) (h18 : t.step ≠ 18) :
  Calls Tryz.prog 136 #[.pointer (some ⟨p, z, none⟩), .agg #[.int .i64 kind, .int .i64 cell, .int .i64 seen, .int .i64 put], .int .i64 num, .int .i64 draw] w (Dids base p z A B (yFollow seen put num draw t) L w) := by
 have hst : t.step = 3 ∨ t.step = 4 ∨ t.step = 5 ∨ t.step = 6 ∨ t.step = 7 ∨ t.step = 8 ∨ t.step = 9 ∨ t.step = 10 ∨ t.step = 11 ∨ t.step = 12 ∨ t.step = 13 ∨ t.step = 14 ∨ t.step = 15 ∨ t.step = 19 ∨ t.step = 20 ∨ t.step = 23 ∨ t.step = 24 ∨ t.step = 25 ∨ t.step = 26 ∨ t.step = 27 ∨ t.step = 29 ∨ t.step = 31 := by have := F.step; omega
 rcases hst with hs | hs | hs | hs | hs | hs | hs | hs | hs | hs | hs | hs | hs | hs | hs | hs | hs | hs | hs | hs | hs | hs
 ·rw [show yFollow seen put num draw t = yFollowRead seen t from by simp [yFollow, hs]]
  exact t_follow3 base p z A B t L w R ok hbs kind cell seen put num draw F hs
 ·rw [show yFollow seen put num draw t = yFollowRead seen t from by simp [yFollow, hs]]
  exact t_follow4 base p z A B t L w R ok hbs kind cell seen put num draw F hs
 ·rw [show yFollow seen put num draw t = yFollowRead seen t from by simp [yFollow, hs]]
  exact t_follow5 base p z A B t L w R ok hbs kind cell seen put num draw F hs
 ·rw [show yFollow seen put num draw t = yFollowRead seen t from by simp [yFollow, hs]]
  exact t_follow6 base p z A B t L w R ok hbs kind cell seen put num draw F hs
 ·rw [show yFollow seen put num draw t = yFollowGet seen t from by simp [yFollow, hs]]
  exact t_follow7 base p z A B t L w R ok hbs kind cell seen put num draw F hs
 ·rw [show yFollow seen put num draw t = yFollowGet seen t from by simp [yFollow, hs]]
  exact t_follow8 base p z A B t L w R ok hbs kind cell seen put num draw F hs
 ·rw [show yFollow seen put num draw t = yFollowGet seen t from by simp [yFollow, hs]]
  exact t_follow9 base p z A B t L w R ok hbs kind cell seen put num draw F hs
 ·rw [show yFollow seen put num draw t = yFollowGet seen t from by simp [yFollow, hs]]
  exact t_follow10 base p z A B t L w R ok hbs kind cell seen put num draw F hs
 ·rw [show yFollow seen put num draw t = yFollowGet seen t from by simp [yFollow, hs]]
  exact t_follow11 base p z A B t L w R ok hbs kind cell seen put num draw F hs
 ·rw [show yFollow seen put num draw t = yFollowExt seen t from by simp [yFollow, hs]]
  exact t_follow12 base p z A B t L w R ok hbs kind cell seen put num draw F hs
 ·rw [show yFollow seen put num draw t = yFollowExt seen t from by simp [yFollow, hs]]
  exact t_follow13 base p z A B t L w R ok hbs kind cell seen put num draw F hs
 ·rw [show yFollow seen put num draw t = yFollowTicket seen put t from by simp [yFollow, hs]]
  exact t_follow14 base p z A B t L w R ok hbs kind cell seen put num draw F hs
 ·rw [show yFollow seen put num draw t = yFollowTicket seen put t from by simp [yFollow, hs]]
  exact t_follow15 base p z A B t L w R ok hbs kind cell seen put num draw F hs
 ·rw [show yFollow seen put num draw t = yFollowCommit seen t from by simp [yFollow, hs]]
  exact t_follow19 base p z A B t L w R ok hbs kind cell seen put num draw F hs
 ·rw [show yFollow seen put num draw t = yFollowStore t from by simp [yFollow, hs]]
  exact t_follow20 base p z A B t L w R ok hbs kind cell seen put num draw F hs
 ·rw [show yFollow seen put num draw t = yFollowStore t from by simp [yFollow, hs]]
  exact t_follow23 base p z A B t L w R ok hbs kind cell seen put num draw F hs
 ·rw [show yFollow seen put num draw t = yFollowStore t from by simp [yFollow, hs]]
  exact t_follow24 base p z A B t L w R ok hbs kind cell seen put num draw F hs
 ·rw [show yFollow seen put num draw t = yFollowStore t from by simp [yFollow, hs]]
  exact t_follow25 base p z A B t L w R ok hbs kind cell seen put num draw F hs
 ·rw [show yFollow seen put num draw t = yLetGo { t with at_ := t.at_ + 1 } from by simp [yFollow, hs]]
  exact t_follow26 base p z A B t L w R ok hbs kind cell seen put num draw F hs
 ·rw [show yFollow seen put num draw t = yNextJob num t from by simp [yFollow, hs]]
  exact t_follow27 base p z A B t L w R ok hbs kind cell seen put num draw F hs
 ·rw [show yFollow seen put num draw t = yFollowFail put t from by simp [yFollow, hs]]
  exact t_follow29 base p z A B t L w R ok hbs kind cell seen put num draw F hs
 ·rw [show yFollow seen put num draw t = yLose seen draw (yConc 5 num t) from by simp [yFollow, hs]]
  exact t_follow31 base p z A B t L w R ok hbs kind cell seen put num draw F hs
end
end Go.Proofs.YtejadojilncbjabGreat
