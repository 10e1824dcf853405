import Derived.Test.YtejadojilncbjaaGreatG20
import Derived.Deep.DeepCutAuto
namespace Go.Proofs.YtejadojilncbjaaGreat
open Go.RowKit
set_option linter.unusedVariables false
attribute [local go_sem ↓] Go.wp_at_zero Go.wp_at_succ

section
variable (base p z : Nat) (A B : List Value) (t : PT) (L : Ls) (w : World)

set_option maxHeartbeats 2000000 in
theorem t_show (hb : TAt w p z A B t L) (ok : TOk t) : Calls Tryz.prog 151 #[.pointer (some ⟨p, z, none⟩)] w (DidT p z A B (yShow t) L w) := by
  have h10 := hb.cRank
  have hrk := ok.rank
  have hw8 : IntKind.i64.wrap (8 * t.rank) = 8 * t.rank := wrapP _ (by omega) (by omega)
  have HB : Hid (TAt w p z A B t L) := hb
  have HK : Hid (TOk t) := ok
  clear hb ok hrk
  go_enter Tryz.func151, Tryz.ntmps151
  go_wp2_with fail
  go_region_with (first
    | (go_at_call 140; refine (t_ownStatus p z A B t L _ (by exact HB.out) HK.out).mono ?_; rintro e w1 ⟨rfl, hB⟩; have hb1 : TAt w1 p z A B t L := TAt.below (by exact HB.out) hB; have h10b := hb1.cRank)
    | (go_at_call 145; refine (t_store p z A B t L 31 t.sta (8 * t.rank) _ (by assumption)).mono ?_; rintro e w2 ⟨rfl, a1, a2⟩))
  all_goals
    go_wp2
    go_end0
    exact ⟨rfl, a1, by first | exact (Only.below hB).trans a2 | exact (((Only.refl _ _).drew).trans (Only.below hB)).trans a2⟩

set_option maxHeartbeats 2000000 in
theorem t_count (hb : TAt w p z A B t L) (ok : TOk t) (hfl : t.fails + 1 ≤ 2 ^ 40) : Calls Tryz.prog 170 #[.pointer (some ⟨p, z, none⟩)] w (DidT p z A B (yCount t) L w) := by
  have h11 := hb.cFails
  have hf := hb.froz
  have hfa := ok.fails
  have hw1 : IntKind.i64.wrap (t.fails + 1) = t.fails + 1 := wrapP _ (by omega) (by omega)
  have ok1 : TOk { t with fails := t.fails + 1 } := ⟨ok.cfg, ok.num, ok.rank, ⟨by show 0 ≤ t.fails + 1; omega, hfl⟩, ok.rd, ok.wr, ok.hd, ok.rl, ok.wl, ok.hl, ok.ml, ok.cur, ok.nl, ok.sl⟩
  have HK : Hid (TOk { t with fails := t.fails + 1 }) := ok1
  have HB : Hid (TAt (w.setCell ⟨p, z + 12, none⟩ (.int .i64 (t.fails + 1))) p z A B { t with fails := t.fails + 1 } L) := hb.set 12 (by decide) _ rfl
  have HO : Hid (Only p w (w.setCell ⟨p, z + 12, none⟩ (.int .i64 (t.fails + 1)))) := (Only.refl _ _).set
  clear hb ok ok1 hfa hfl
  unfold yCount
  by_cases hr : t.rank = 0
  · have hrb : (t.rank == 0) = true := by simp [hr]
    by_cases hc : t.c.r < t.fails + 1
    · rw [if_pos ⟨hr, hc⟩]
      clear hr
      go_enter Tryz.func170, Tryz.ntmps170
      go_wp2_with fail
      generalize w.setCell ⟨p, z + 12, none⟩ (.int .i64 (t.fails + 1)) = w1 at *
      have h10b : w1.cell? ⟨p, z + 11, none⟩ = some (.int .i64 t.rank) := (HB.out).cRank
      have h11b : w1.cell? ⟨p, z + 12, none⟩ = some (.int .i64 (t.fails + 1)) := (HB.out).cFails
      have h4b : w1.cell? ⟨p, z + 4, none⟩ = some (.int .i64 t.c.r) := (HB.out).cR
      clear h11 hf hw1
      go_quiet (fail)
      go_wp2_with fail
      refine (t_take p z A B { t with fails := t.fails + 1 } L 30 1 _ (by exact HB.out)).mono ?_
      rintro e w2 ⟨rfl, a1, a2⟩
      go_wp2
      go_end0
      exact ⟨rfl, a1, ((HO.out).drewN _).trans a2⟩
    · rw [if_neg (fun q => hc q.2)]
      clear hr
      go_enter Tryz.func170, Tryz.ntmps170
      go_wp2_with fail
      generalize w.setCell ⟨p, z + 12, none⟩ (.int .i64 (t.fails + 1)) = w1 at *
      have h10b : w1.cell? ⟨p, z + 11, none⟩ = some (.int .i64 t.rank) := (HB.out).cRank
      have h11b : w1.cell? ⟨p, z + 12, none⟩ = some (.int .i64 (t.fails + 1)) := (HB.out).cFails
      have h4b : w1.cell? ⟨p, z + 4, none⟩ = some (.int .i64 t.c.r) := (HB.out).cR
      clear h11 hf hw1
      go_quiet (fail)
      go_wp2_with fail
      refine (t_show p z A B { t with fails := t.fails + 1 } L _ (by exact HB.out) HK.out).mono ?_
      rintro e w2 ⟨rfl, a1, a2⟩
      go_wp2
      go_end0
      exact ⟨rfl, a1, ((HO.out).drewN _).trans a2⟩
  · have hrb : (t.rank == 0) = false := by rw [beq_eq_false_iff_ne]; exact hr
    rw [if_neg (fun q => hr q.1)]
    clear hr
    go_enter Tryz.func170, Tryz.ntmps170
    go_wp2_with fail
    generalize w.setCell ⟨p, z + 12, none⟩ (.int .i64 (t.fails + 1)) = w1 at *
    have h10b : w1.cell? ⟨p, z + 11, none⟩ = some (.int .i64 t.rank) := (HB.out).cRank
    have h11b : w1.cell? ⟨p, z + 12, none⟩ = some (.int .i64 (t.fails + 1)) := (HB.out).cFails
    have h4b : w1.cell? ⟨p, z + 4, none⟩ = some (.int .i64 t.c.r) := (HB.out).cR
    clear h11 hf hw1
    go_quiet (fail)
    go_wp2_with fail
    refine (t_show p z A B { t with fails := t.fails + 1 } L _ (by exact HB.out) HK.out).mono ?_
    rintro e w2 ⟨rfl, a1, a2⟩
    go_wp2
    go_end0
    exact ⟨rfl, a1, ((HO.out).drewN _).trans a2⟩

set_option maxHeartbeats 1000000 in
theorem t_undo (R : TR base p z A B w t L) (ok : TOk t) (hfl : t.fails + 1 ≤ 2 ^ 40) : Calls Tryz.prog 150 #[.pointer (some ⟨p, z, none⟩)] w (DidT p z A B (yUndo t) L w) := by
  have hb := R.tt
  have h38 := hb.cAt
  have h32 := hb.cHeld
  have HR : Hid (TR base p z A B w t L) := R
  have HK : Hid (TOk t) := ok
  have HF : Hid (t.fails + 1 ≤ 2 ^ 40) := hfl
  clear hb ok R hfl
  unfold yUndo
  by_cases hc : t.at_ < t.held.length
  · rw [if_pos hc]
    have HC : Hid (t.at_ < t.held.length) := hc
    have h1 : (t.at_ : Int) < (t.held.length : Int) := by omega
    clear hc
    go_enter Tryz.func150, Tryz.ntmps150
    go_wp2_with fail
    go_quiet (fail)
    go_wp2_with fail
    refine (t_giveBack base p z A B t L _ ((HR.out).drewN _) HK.out HC.out 29).mono ?_
    rintro e w1 ⟨rfl, a1, a2⟩
    go_wp2
    go_end0
    exact ⟨rfl, a1, ((Only.refl _ _).drewN _).trans a2⟩
  · rw [if_neg hc]
    have h1 : ¬ (t.at_ : Int) < (t.held.length : Int) := by omega
    clear hc
    go_enter Tryz.func150, Tryz.ntmps150
    go_wp2_with fail
    go_quiet (fail)
    go_wp2_with fail
    refine (t_count p z A B t L _ ((HR.out).drewN _).tt HK.out HF.out).mono ?_
    rintro e w1 ⟨rfl, a1, a2⟩
    go_wp2
    go_end0
    exact ⟨rfl, a1, ((Only.refl _ _).drewN _).trans a2⟩

set_option maxHeartbeats 1000000 in
theorem t_fail (R : TR base p z A B w t L) (ok : TOk t) (hfl : t.fails + 1 ≤ 2 ^ 40) : Calls Tryz.prog 130 #[.pointer (some ⟨p, z, none⟩)] w (DidT p z A B (yFail t) L w) := by
  have hb := R.tt
  have h38 := hb.cAt
  have hf := hb.froz
  have hb1 : TAt (w.setCell ⟨p, z + 19 + 27, none⟩ (.int .i64 0)) p z A B { t with at_ := 0 } L := hb.set 46 (by decide) _ rfl
  have HO : Hid (Only p w (w.setCell ⟨p, z + 19 + 27, none⟩ (.int .i64 0))) := (Only.refl _ _).set
  have HR : Hid (TR base p z A B (w.setCell ⟨p, z + 19 + 27, none⟩ (.int .i64 0)) { t with at_ := 0 } L) := R.next hb1 HO.out rfl rfl rfl rfl rfl rfl
  have HK : Hid (TOk { t with at_ := 0 }) := ok
  have HF : Hid (t.fails + 1 ≤ 2 ^ 40) := hfl
  clear hb ok R hfl hb1
  go_enter Tryz.func130, Tryz.ntmps130
  go_wp2_with fail
  refine (t_undo base p z A B { t with at_ := 0 } L _ HR.out HK.out HF.out).mono ?_
  rintro e w1 ⟨rfl, a1, a2⟩
  go_wp2
  go_end0
  exact ⟨rfl, a1, (HO.out).trans a2⟩

theorem t_failGate (hb : TAt w p z A B t L) : Calls Tryz.prog 142 #[.pointer (some ⟨p, z, none⟩)] w (DidT p z A B (yFailGate t) L w) := by
  have HB : Hid (TAt w p z A B t L) := hb
  clear hb
  go_enter Tryz.func142, Tryz.ntmps142
  go_wp2_with fail
  refine (t_store p z A B t L 28 2 0 _ HB.out).mono ?_
  rintro e w1 ⟨rfl, a1, a2⟩
  go_wp2
  go_end0
  exact ⟨rfl, a1, a2⟩

theorem t_extend (hb : TAt w p z A B t L) : Calls Tryz.prog 137 #[.pointer (some ⟨p, z, none⟩)] w (DidT p z A B (yExtend t) L w) := by
  have HB : Hid (TAt w p z A B t L) := hb
  clear hb
  go_enter Tryz.func137, Tryz.ntmps137
  go_wp2_with fail
  refine (t_load p z A B t L 12 0 _ HB.out).mono ?_
  rintro e w1 ⟨rfl, a1, a2⟩
  go_wp2
  go_end0
  exact ⟨rfl, a1, a2⟩

theorem t_get (hb : TAt w p z A B t L) (ok : TOk t) : Calls Tryz.prog 136 #[.pointer (some ⟨p, z, none⟩)] w (DidT p z A B (yGet t) L w) := by
  have HB : Hid (TAt w p z A B t L) := hb
  have HK : Hid (TOk t) := ok
  clear hb ok
  go_enter Tryz.func136, Tryz.ntmps136
  go_wp2_with fail
  refine (t_ownStatus p z A B t L _ HB.out HK.out).mono ?_
  rintro e w1 ⟨rfl, hB⟩
  go_wp2_with fail
  refine (t_load p z A B t L 7 t.sta _ ((HB.out).below hB)).mono ?_
  rintro e w2 ⟨rfl, a1, a2⟩
  go_wp2
  go_end0
  exact ⟨rfl, a1, (Only.below hB).trans a2⟩

set_option maxHeartbeats 1000000 in
theorem t_restBy (hb : TAt w p z A B t L) (ok : TOk t) (draw : Int) : Calls Tryz.prog 154 #[.pointer (some ⟨p, z, none⟩), .int .i64 draw] w fun e w' => e = .returned (.int .i64 (yRestBy t draw)) ∧ w' = w := by
  have h11 := hb.cFails
  have h5 := hb.cCp
  have hfa := ok.fails
  obtain ⟨_, _, _, _, _, hcp, _⟩ := ok.cb
  clear hb ok
  unfold yRestBy
  by_cases h0 : draw < 0
  · rw [if_pos h0]
    go_enter Tryz.func154, Tryz.ntmps154
    go_wp2
    go_ret
    exact ⟨rfl, rfl⟩
  · rw [if_neg h0]
    by_cases hc : t.c.cp < t.fails
    · rw [if_pos hc]
      have hw : IntKind.i64.wrap (1 + t.c.cp) = 1 + t.c.cp := wrapP _ (by omega) (by omega)
      have hz : (1 + t.c.cp == 0) = false := by rw [beq_eq_false_iff_ne]; omega
      have hz2 : ¬ 1 + t.c.cp = 0 := by omega
      clear hfa hcp
      go_enter Tryz.func154, Tryz.ntmps154
      go_wp2
      go_ret
      exact ⟨by rw [Int.tmod_eq_emod_of_nonneg (by omega)]; rfl, rfl⟩
    · rw [if_neg hc]
      have hw : IntKind.i64.wrap (1 + t.fails) = 1 + t.fails := wrapP _ (by omega) (by omega)
      have hz : (1 + t.fails == 0) = false := by rw [beq_eq_false_iff_ne]; omega
      have hz2 : ¬ 1 + t.fails = 0 := by omega
      clear hfa hcp
      go_enter Tryz.func154, Tryz.ntmps154
      go_wp2
      go_ret
      exact ⟨by rw [Int.tmod_eq_emod_of_nonneg (by omega)]; rfl, rfl⟩
end

end Go.Proofs.YtejadojilncbjaaGreat

namespace Go.Proofs.YtejadojilncbjaaGreat
open Go.RowKit
set_option linter.unusedVariables false
attribute [local go_sem ↓] Go.wp_at_zero Go.wp_at_succ

theorem Only.quiet {p : Nat} {w w' w2 : World} (h : Only p w' w2) (h1 : w'.os = w.os) (h2 : w'.tape = w.tape) (h3 : w'.output = w.output) (h4 : w'.heap = w.heap) : Only p w w2 :=
  ⟨h.os.trans h1, h.tape.trans h2, h.output.trans h3, by rw [← h4]; exact h.size, fun k hk hp => (h.block k (by rw [h4]; exact hk) hp).trans (by rw [h4])⟩

section
variable (base p z : Nat) (A B : List Value) (t : PT) (L : Ls) (w : World)

/-- The machine of the thread. -/
def tHead (t : PT) (L : Ls) : List Value := (tArr t L).take 27
def tTail (t : PT) (L : Ls) : List Value := (tArr t L).drop 34

theorem TAt.mach {p z : Nat} {A B : List Value} {t : PT} {L : Ls} {w : World} (h : TAt w p z A B t L) : MAt w p (z + 19 + 8) 119 (A ++ tHead t L) (tTail t L ++ B) t.m :=
  Seg.mach (L := []) (Seg.part (L := []) (L1 := tHead t L) (L2 := (mArr t.m).toList) (L3 := tTail t L) h 27 rfl)
theorem TAt.ofMach {p z : Nat} {A B : List Value} {t : PT} {L : Ls} {w : World} {m : MS} (hz : A.length = z) (h : MAt w p (z + 19 + 8) 119 (A ++ tHead t L) (tTail t L ++ B) m) : TAt w p z A B { t with m := m } L :=
  Seg.whole (L := []) (k := 27) (L1 := tHead t L) (L2 := (mArr m).toList) (L3 := tTail t L) (MAt.seg (L := []) h) hz

set_option maxHeartbeats 1000000 in
theorem t_followFail (R : TR base p z A B w t L) (ok : TOk t) (hfl : t.fails + 1 ≤ 2 ^ 40) (hs : t.step = 29 ∨ False) (hat : t.at_ ≤ 1000) (put : Int) (hp : 0 ≤ put ∧ put ≤ 2 ^ 40) :
    Calls Tryz.prog 113 #[.pointer (some ⟨p, z, none⟩), .int .i64 put] w (DidT p z A B (yFollowFail put t) L w) := by
  have hb := R.tt
  have h13 := hb.cStep
  have h38 := hb.cAt
  have h10 := hb.cRank
  have hf := hb.froz
  have HR : Hid (TR base p z A B w t L) := R
  have HK : Hid (TOk t) := ok
  have HF : Hid (t.fails + 1 ≤ 2 ^ 40) := hfl
  unfold yFollowFail
  rcases hs with hs | hs
  · rw [if_neg (by omega), if_pos hs]
    rw [hs] at h13
    have hw : IntKind.i64.wrap ((t.at_ : Int) + 1) = ((t.at_ + 1 : Nat) : Int) := by rw [wrapP _ (by omega) (by omega)]; omega
    have hb1 : TAt (w.setCell ⟨p, z + 19 + 27, none⟩ (.int .i64 ((t.at_ + 1 : Nat) : Int))) p z A B { t with at_ := t.at_ + 1 } L := hb.set 46 (by decide) _ rfl
    have HO : Hid (Only p w (w.setCell ⟨p, z + 19 + 27, none⟩ (.int .i64 ((t.at_ + 1 : Nat) : Int)))) := (Only.refl _ _).set
    have HR1 : Hid (TR base p z A B (w.setCell ⟨p, z + 19 + 27, none⟩ (.int .i64 ((t.at_ + 1 : Nat) : Int))) { t with at_ := t.at_ + 1 } L) := R.next hb1 HO.out rfl rfl rfl rfl rfl rfl
    clear hb ok R hfl hs hp hat hb1 HR
    go_enter Tryz.func113, Tryz.ntmps113
    go_wp2_with fail
    refine (t_undo base p z A B { t with at_ := t.at_ + 1 } L _ HR1.out HK.out HF.out).mono ?_
    rintro e w1 ⟨rfl, a1, a2⟩
    go_wp2
    go_end0
    exact ⟨rfl, a1, (HO.out).trans a2⟩
  · exact hs.elim

set_option maxHeartbeats 1000000 in
theorem t_lose (hb : TAt w p z A B t L) (ok : TOk t) (status draw : Int) (h0 : 0 ≤ status) (hway : 0 ≤ t.wayTo ∧ t.wayTo ≤ 100) :
    Calls Tryz.prog 115 #[.pointer (some ⟨p, z, none⟩), .int .i64 status, .int .i64 draw] w (DidT p z A B (yLose status draw t) L w) := by
  have h36 := hb.cWay
  have h12 := hb.cRest
  have hf := hb.froz
  have HB : Hid (TAt w p z A B t L) := hb
  have HK : Hid (TOk t) := ok
  have hm0 := Int.tmod_nonneg 8 h0
  have hm8 := Int.tmod_lt_of_pos status (show (0 : Int) < 8 by decide)
  unfold yLose yWinner
  by_cases hz : status.tmod 8 = 0
  · rw [if_pos hz]
    by_cases hw : t.wayTo = 0
    · rw [if_neg (fun q => q hw)]
      rw [hw] at h36
      clear hb ok hm0 hm8 hway h0
      go_enter Tryz.func115, Tryz.ntmps115
      go_wp2_with fail
      refine (t_markIn _ _).mono ?_
      rintro e w1 ⟨rfl, rfl⟩
      rw [hz]
      go_wp2_with fail
      refine (t_restBy p z A B t L _ HB.out HK.out draw).mono ?_
      rintro e w1 ⟨rfl, rfl⟩
      go_wp2_with fail
      refine (t_begin p z A B { t with rest := yRestBy t draw } L _ ((HB.out).set 13 (by decide) _ rfl)).mono ?_
      rintro e w2 ⟨rfl, a1, a2⟩
      go_wp2
      go_end0
      exact ⟨rfl, a1, ((Only.refl _ _).set).trans a2⟩
    · rw [if_pos hw]
      have HW : Hid (0 ≤ t.wayTo ∧ t.wayTo ≤ 100) := hway
      have hwb : (t.wayTo != 0) = true := by simpa using hw
      have hwb2 : (t.wayTo == 0) = false := by simpa using hw
      clear hb ok hm0 hm8 hway h0
      go_enter Tryz.func115, Tryz.ntmps115
      go_wp2_with fail
      refine (t_markIn _ _).mono ?_
      rintro e w1 ⟨rfl, rfl⟩
      rw [hz]
      go_wp2_with fail
      refine (t_statusOf p z A B t L _ HB.out HK.out t.wayTo (HW.out).1 (HW.out).2).mono ?_
      rintro e w1 ⟨rfl, hB⟩
      go_wp2_with fail
      refine (t_load p z A B t L 32 (t.staOf t.wayTo) _ ((HB.out).below hB)).mono ?_
      rintro e w2 ⟨rfl, a1, a2⟩
      go_wp2
      refine bodyPost_ret (results_none rfl _ _ _) rfl ?_
      exact ⟨rfl, a1, (Only.below hB).trans a2⟩
  · rw [if_neg hz, if_pos hz]
    have HW : Hid (0 ≤ status.tmod 8 ∧ status.tmod 8 ≤ 100) := ⟨hm0, by omega⟩
    obtain ⟨m, hm⟩ : ∃ m, m = status.tmod 8 := ⟨_, rfl⟩
    have HM : Hid (∀ w, Calls Tryz.prog 152 #[.int .i64 status] w fun e w' => e = .returned (.int .i64 m) ∧ w' = w) := fun w => by rw [hm]; exact t_markIn status w
    rw [← hm] at HW hz ⊢
    have hwb : (m != 0) = true := by simpa using hz
    have hwb2 : (m == 0) = false := by simpa using hz
    clear hb ok hm0 hm8 hway h0 hm
    go_enter Tryz.func115, Tryz.ntmps115
    go_wp2_with fail
    refine (HM.out _).mono ?_
    rintro e w1 ⟨rfl, rfl⟩
    go_wp2_with fail
    refine (t_statusOf p z A B t L _ HB.out HK.out m (HW.out).1 (HW.out).2).mono ?_
    rintro e w1 ⟨rfl, hB⟩
    go_wp2_with fail
    refine (t_load p z A B t L 32 (t.staOf m) _ ((HB.out).below hB)).mono ?_
    rintro e w2 ⟨rfl, a1, a2⟩
    go_wp2
    refine bodyPost_ret (results_none rfl _ _ _) rfl ?_
    exact ⟨rfl, a1, (Only.below hB).trans a2⟩

set_option maxHeartbeats 1000000 in
theorem t_meet (R : TR base p z A B w t L) (ok : TOk t) (hfl : t.fails + 1 ≤ 2 ^ 40) (u : Int) (hu : 0 ≤ u ∧ u ≤ 100) :
    Calls Tryz.prog 134 #[.pointer (some ⟨p, z, none⟩), .int .i64 u] w (DidT p z A B (yMeet u t) L w) := by
  have hb := R.tt
  have h10 := hb.cRank
  have h35 := hb.cRival
  have hf := hb.froz
  have HR : Hid (TR base p z A B w t L) := R
  have HK : Hid (TOk t) := ok
  have HF : Hid (t.fails + 1 ≤ 2 ^ 40) := hfl
  have HU : Hid (0 ≤ u ∧ u ≤ 100) := hu
  unfold yMeet
  by_cases hr : t.rank = 0
  · rw [if_pos hr]
    rw [hr] at h10
    clear hb ok R hfl hr hu
    go_enter Tryz.func134, Tryz.ntmps134
    go_wp2_with fail
    refine (t_fail base p z A B t L _ HR.out HK.out HF.out).mono ?_
    rintro e w1 ⟨rfl, a1, a2⟩
    go_wp2
    refine bodyPost_ret (results_none rfl _ _ _) rfl ?_
    exact ⟨rfl, a1, a2⟩
  · rw [if_neg hr]
    have hrb : (t.rank == 0) = false := by rw [beq_eq_false_iff_ne]; exact hr
    have hb1 : TAt (w.setCell ⟨p, z + 19 + 24, none⟩ (.int .i64 u)) p z A B { t with rival := u } L := hb.set 43 (by decide) _ rfl
    have HB1 : Hid (TAt (w.setCell ⟨p, z + 19 + 24, none⟩ (.int .i64 u)) p z A B { t with rival := u } L) := hb1
    have HO : Hid (Only p w (w.setCell ⟨p, z + 19 + 24, none⟩ (.int .i64 u))) := (Only.refl _ _).set
    clear hb ok R hfl hr hu hb1
    go_enter Tryz.func134, Tryz.ntmps134
    go_wp2_with fail
    refine (t_statusOf p z A B { t with rival := u } L _ HB1.out HK.out u (HU.out).1 (HU.out).2).mono ?_
    rintro e w1 ⟨rfl, hB⟩
    go_wp2_with fail
    refine (t_load p z A B { t with rival := u } L 9 (t.staOf u) _ ((HB1.out).below hB)).mono ?_
    rintro e w2 ⟨rfl, a1, a2⟩
    go_wp2
    go_end0
    exact ⟨rfl, a1, ((HO.out).trans (Only.below hB)).trans a2⟩
end

end Go.Proofs.YtejadojilncbjaaGreat

namespace Go.Proofs.YtejadojilncbjaaGreat
open Go.RowKit
set_option linter.unusedVariables false
attribute [local go_sem ↓] Go.wp_at_zero Go.wp_at_succ

section
variable (base p z : Nat) (A B : List Value) (t : PT) (L : Ls) (w : World)

set_option maxHeartbeats 1000000 in
theorem t_weigh (R : TR base p z A B w t L) (ok : TOk t) (hfl : t.fails + 1 ≤ 2 ^ 40) (status : Int) (h0 : 0 ≤ status) (h1 : status ≤ 1125899906842624) (hu : 0 ≤ t.rival ∧ t.rival ≤ 100) :
    Calls Tryz.prog 135 #[.pointer (some ⟨p, z, none⟩), .int .i64 status] w (DidT p z A B (yWeigh status t) L w) := by
  have hb := R.tt
  have h10 := hb.cRank
  have h35 := hb.cRival
  have h36 := hb.cWay
  have hf := hb.froz
  have HB : Hid (TAt w p z A B t L) := hb
  have HK : Hid (TOk t) := ok
  have HF : Hid (t.fails + 1 ≤ 2 ^ 40) := hfl
  have HU : Hid (0 ≤ t.rival ∧ t.rival ≤ 100) := hu
  have hn := ok.num
  have ht := ok.cb.1
  have hws : IntKind.i64.wrap (status + (t.num + 1)) = status + (t.num + 1) := wrapP _ (by omega) (by omega)
  obtain ⟨q, hq⟩ : ∃ q, q = status.tdiv 8 := ⟨_, rfl⟩
  have HM : Hid (∀ w, Calls Tryz.prog 155 #[.int .i64 status] w fun e w' => e = .returned (.int .i64 q) ∧ w' = w) := fun w => by rw [hq]; exact t_rankIn status w (by omega) h1
  unfold yWeigh
  rw [← hq]
  by_cases hc : 0 < q ∧ q < t.rank
  · rw [if_pos hc]
    obtain ⟨hc1, hc2⟩ := hc
    have hb1 : TAt (w.setCell ⟨p, z + 19 + 25, none⟩ (.int .i64 t.rival)) p z A B { t with wayTo := t.rival } L := hb.set 44 (by decide) _ rfl
    have HO : Hid (Only p w (w.setCell ⟨p, z + 19 + 25, none⟩ (.int .i64 t.rival))) := (Only.refl _ _).set
    have HR1 : Hid (TR base p z A B (w.setCell ⟨p, z + 19 + 25, none⟩ (.int .i64 t.rival)) { t with wayTo := t.rival } L) := R.next hb1 HO.out rfl rfl rfl rfl rfl rfl
    clear hb ok R hfl hu h0 h1 hq hb1 hn ht
    go_enter Tryz.func135, Tryz.ntmps135
    go_wp2_with fail
    refine (HM.out _).mono ?_
    rintro e w1 ⟨rfl, rfl⟩
    go_wp2_with fail
    refine (t_fail base p z A B { t with wayTo := t.rival } L _ HR1.out HK.out HF.out).mono ?_
    rintro e w1 ⟨rfl, a1, a2⟩
    go_wp2
    refine bodyPost_ret (results_none rfl _ _ _) rfl ?_
    exact ⟨rfl, a1, (HO.out).trans a2⟩
  · rw [if_neg hc]
    have HMk : Hid (∀ w, Calls Tryz.prog 129 #[.int .i64 status] w fun e w' => e = .returned (.bool (status.tmod 8 != 0)) ∧ w' = w) := fun w => t_marked status w
    have hg : (0 < q) = False ∨ (0 < q) = True ∧ (q < t.rank) = False := by
      by_cases h : 0 < q
      · exact Or.inr ⟨by simp [h], by simp; omega⟩
      · exact Or.inl (by simp [h])
    by_cases hm : status.tmod 8 = 0
    · rw [if_neg (fun q => q hm)]
      have hmb : (status.tmod 8 != 0) = false := by simp [hm]
      rw [hmb] at HMk
      clear hb ok R hfl hu h0 h1 hq hn ht hc hmb hm
      rcases hg with hg | ⟨hg1, hg2⟩
      all_goals
        go_enter Tryz.func135, Tryz.ntmps135
        go_wp2_with fail
        refine (HM.out _).mono ?_
        rintro e w1 ⟨rfl, rfl⟩
        go_wp2_with fail
        refine (HMk.out _).mono ?_
        rintro e w1 ⟨rfl, rfl⟩
        go_wp2_with fail
        refine (t_statusOf p z A B t L _ HB.out HK.out t.rival (HU.out).1 (HU.out).2).mono ?_
        rintro e w1 ⟨rfl, hB⟩
        go_wp2_with fail
        refine (t_name p z A B t L _ ((HB.out).below hB) HK.out).mono ?_
        rintro e w2 ⟨rfl, rfl⟩
        go_wp2_with fail
        refine (t_swap p z A B t L 10 (t.staOf t.rival) status (status + (t.num + 1)) _ ((HB.out).below hB)).mono ?_
        rintro e w3 ⟨rfl, a1, a2⟩
        go_wp2
        go_end0
        exact ⟨rfl, a1, (Only.below hB).trans a2⟩
    · rw [if_pos hm]
      have hmb : (status.tmod 8 != 0) = true := by simpa using hm
      rw [hmb] at HMk
      clear hb ok R hfl hu h0 h1 hq hn ht hc hmb hm
      rcases hg with hg | ⟨hg1, hg2⟩
      all_goals
        go_enter Tryz.func135, Tryz.ntmps135
        go_wp2_with fail
        refine (HM.out _).mono ?_
        rintro e w1 ⟨rfl, rfl⟩
        go_wp2_with fail
        refine (HMk.out _).mono ?_
        rintro e w1 ⟨rfl, rfl⟩
        go_wp2_with fail
        refine (t_get p z A B t L _ HB.out HK.out).mono ?_
        rintro e w3 ⟨rfl, a1, a2⟩
        go_wp2
        refine bodyPost_ret (results_none rfl _ _ _) rfl ?_
        exact ⟨rfl, a1, a2⟩

set_option maxHeartbeats 2000000 in
theorem t_ticket (R : TR base p z A B w t L) (ok : TOk t) (hfl : t.fails + 1 ≤ 2 ^ 40) (hs : t.step = 14 ∨ t.step = 15) (kind cell seen put : Int) (hp : t.step = 14 → 0 ≤ put ∧ put ≤ 2 ^ 40) :
    Calls Tryz.prog 108 #[.pointer (some ⟨p, z, none⟩), .agg #[.int .i64 kind, .int .i64 cell, .int .i64 seen, .int .i64 put]] w (DidT p z A B (yFollowTicket seen put t) L w) := by
  have hB1 : Below w.heap.size w (w.alloc (.cells #[.int .i64 kind, .int .i64 cell, .int .i64 seen, .int .i64 put] 40)) := (Below.refl _ _).alloc (Nat.le_refl _) _
  have R1 := R.below hB1
  have h13 := R.tt.cStep
  have h10 := R.tt.cRank
  have hf := R.tt.froz
  have hlt := R.tt.lt
  have hne : p ≠ w.heap.size := by omega
  have HR : Hid (TR base p z A B (w.alloc (.cells #[.int .i64 kind, .int .i64 cell, .int .i64 seen, .int .i64 put] 40)) t L) := R1
  have HK : Hid (TOk t) := ok
  have HF : Hid (t.fails + 1 ≤ 2 ^ 40) := hfl
  have HOn : Hid (Only p w (w.alloc (.cells #[.int .i64 kind, .int .i64 cell, .int .i64 seen, .int .i64 put] 40))) := Only.below hB1
  unfold yFollowTicket
  rcases hs with hs | hs
  · rw [if_pos hs]
    rw [hs] at h13
    have hp' := hp hs
    have hw8 : IntKind.i64.wrap (8 * put) = 8 * put := wrapP _ (by omega) (by omega)
    have HB2 : Hid (TAt ((w.setCell ⟨p, z + 11, none⟩ (.int .i64 put)).alloc (.cells #[.int .i64 kind, .int .i64 cell, .int .i64 seen, .int .i64 put] 40)) p z A B { t with rank := put } L) := TAt.below (R.tt.set (t' := { t with rank := put }) 11 (by decide) (.int .i64 put) rfl) ((Below.refl _ _).alloc (Nat.le_refl _) _)
    have HO2 : Hid (Only p w ((w.setCell ⟨p, z + 11, none⟩ (.int .i64 put)).alloc (.cells #[.int .i64 kind, .int .i64 cell, .int .i64 seen, .int .i64 put] 40))) := ((Only.refl _ _).set).trans (Only.below ((Below.refl _ _).alloc (Nat.le_refl _) _))
    have HK1 : Hid (TOk { t with rank := put }) := ⟨ok.cfg, ok.num, hp', ok.fails, ok.rd, ok.wr, ok.hd, ok.rl, ok.wl, ok.hl, ok.ml, ok.cur, ok.nl, ok.sl⟩
    clear ok R hfl hs hp hp' R1 hB1 HR HF HK HOn
    go_enter Tryz.func108, Tryz.ntmps108
    go_wp2_with fail
    generalize (w.setCell ⟨p, z + 11, none⟩ (.int .i64 put)).alloc (.cells #[.int .i64 kind, .int .i64 cell, .int .i64 seen, .int .i64 put] 40) = w2 at *
    have h10b : w2.cell? ⟨p, z + 11, none⟩ = some (.int .i64 put) := (HB2.out).cRank
    clear h10 h13 hf hlt hne
    go_region_with (first
      | (go_at_call 140; refine (t_ownStatus p z A B { t with rank := put } L _ (by exact HB2.out) HK1.out).mono ?_; rintro e w3 ⟨rfl, hB⟩; have hb3 : TAt w3 p z A B { t with rank := put } L := TAt.below (by exact HB2.out) hB; have h10c : w3.cell? ⟨p, z + 11, none⟩ = some (.int .i64 put) := hb3.cRank)
      | (go_at_call 131; refine (t_swap p z A B { t with rank := put } L 15 t.sta 0 (8 * put) _ (by assumption)).mono ?_; rintro e w4 ⟨rfl, a1, a2⟩))
    all_goals
      go_wp2
      go_end0
      exact ⟨rfl, a1, (HO2.out).trans (Only.trans (by first | exact Only.below hB | exact ((Only.refl _ _).drew).trans (Only.below hB)) a2)⟩
  · rw [if_neg (by omega), if_pos hs]
    rw [hs] at h13
    by_cases hz : seen = 0
    · rw [if_neg (fun q => q hz)]
      have HB : Hid (TAt w p z A B t L) := R.tt
      clear ok R hfl hs hp R1 hB1 HR
      subst hz
      go_enter Tryz.func108, Tryz.ntmps108
      go_wp2
      go_end0
      exact ⟨rfl, TAt.below ((HB.out).set (t' := { t with step := 1 }) 14 (by decide) (.int .i64 1) rfl) ((Below.refl _ _).alloc (Nat.le_refl _) _), ((Only.refl _ _).set).trans (Only.below ((Below.refl _ _).alloc (Nat.le_refl _) _))⟩
    · rw [if_pos hz]
      have hzb : (seen != 0) = true := by simpa using hz
      have hzb2 : (seen == 0) = false := by simpa using hz
      clear ok R hfl hs hp R1 hB1
      go_enter Tryz.func108, Tryz.ntmps108
      go_wp2_with fail
      refine (t_fail base p z A B t L _ HR.out HK.out HF.out).mono ?_
      rintro e w2 ⟨rfl, a1, a2⟩
      go_wp2
      refine bodyPost_ret (results_none rfl _ _ _) rfl ?_
      exact ⟨rfl, a1, (HOn.out).trans a2⟩

theorem t_version (s : Int) (w : World) (h : 0 ≤ s ∧ s ≤ 100) : Calls Tryz.prog 126 #[.int .i64 s] w fun e w' => e = .returned (.int .i64 (hVer s)) ∧ w' = w := version_any s w h.1 (by omega)

set_option maxHeartbeats 2000000 in
theorem t_shut (R : TR base p z A B w t L) (ok : TOk t) (hcl : -1 ≤ t.clock ∧ t.clock ≤ 2 ^ 50) : Calls Tryz.prog 143 #[.pointer (some ⟨p, z, none⟩)] w (DidT p z A B (yShut t) L w) := by
  have hb := R.tt
  have h38 := hb.cAt
  have h32 := hb.cHeld
  have HB : Hid (TAt w p z A B t L) := hb
  have HC : Hid (-1 ≤ t.clock ∧ t.clock ≤ 2 ^ 50) := hcl
  unfold yShut
  by_cases hc : t.at_ < t.held.length
  · rw [if_pos hc]
    have h1 : (t.at_ : Int) < (t.held.length : Int) := by omega
    have hk0 : (0 : Int) ≤ (t.at_ : Int) := by omega
    obtain ⟨g, hg, hgc⟩ := nums_at R.hd t.at_ hc
    rw [hg] at h32
    have hm : t.held.getD t.at_ 0 ∈ t.held := by rw [show t.held.getD t.at_ 0 = t.held[t.at_] from by simp [List.getD, List.getElem?_eq_getElem hc]]; exact List.getElem_mem hc
    have hsr := ok.hd _ hm
    have hs8 := ok.cb.2.2.1
    obtain ⟨s, hs⟩ : ∃ s, s = t.held.getD t.at_ 0 := ⟨_, rfl⟩
    rw [← hs] at hgc hsr ⊢
    have HS8 : Hid (0 ≤ s ∧ s ≤ 100) := ⟨hsr.1, by omega⟩
    clear hb ok R hm hsr hs8 hs hc hcl
    go_enter Tryz.func143, Tryz.ntmps143
    go_wp2_with fail
    go_quiet (fail)
    go_wp2_with fail
    go_region_with (first
      | (go_at_call 126; refine (t_version s _ HS8.out).mono ?_; rintro e w' ⟨rfl, rfl⟩)
      | (go_at_call 145; refine (t_store p z A B t L 20 (hVer s) (-1) _ (by exact HB.out)).mono ?_; rintro e w2 ⟨rfl, a1, a2⟩))
    all_goals
      go_wp2
      go_end0
      exact ⟨rfl, a1, a2.quiet rfl rfl rfl rfl⟩
  · rw [if_neg hc]
    have h1 : ¬ (t.at_ : Int) < (t.held.length : Int) := by omega
    clear hb ok R hc hcl
    go_enter Tryz.func143, Tryz.ntmps143
    go_wp2_with fail
    go_quiet (fail)
    go_wp2_with fail
    refine (t_stamp p z A B t L _ (by exact HB.out) (HC.out).1 (HC.out).2).mono ?_
    rintro e w1 ⟨rfl, rfl⟩
    go_wp2_with fail
    refine (t_store p z A B t L 21 0 (t.clock + 1) _ (by exact HB.out)).mono ?_
    rintro e w2 ⟨rfl, a1, a2⟩
    go_wp2
    go_end0
    exact ⟨rfl, a1, a2.quiet rfl rfl rfl rfl⟩

set_option maxHeartbeats 4000000 in
theorem t_release (R : TR base p z A B w t L) (ok : TOk t) (hcl : -1 ≤ t.clock ∧ t.clock ≤ 2 ^ 50) : Calls Tryz.prog 147 #[.pointer (some ⟨p, z, none⟩)] w (DidT p z A B (yRelease t) L w) := by
  have hb := R.tt
  have h38 := hb.cAt
  have h32 := hb.cHeld
  have HB : Hid (TAt w p z A B t L) := hb
  have HK : Hid (TOk t) := ok
  have HC : Hid (-1 ≤ t.clock ∧ t.clock ≤ 2 ^ 50) := hcl
  unfold yRelease
  by_cases hc : t.at_ < t.held.length
  · rw [if_pos hc]
    have h1 : (t.at_ : Int) < (t.held.length : Int) := by omega
    have hk0 : (0 : Int) ≤ (t.at_ : Int) := by omega
    obtain ⟨g, hg, hgc⟩ := nums_at R.hd t.at_ hc
    rw [hg] at h32
    have hm : t.held.getD t.at_ 0 ∈ t.held := by rw [show t.held.getD t.at_ 0 = t.held[t.at_] from by simp [List.getD, List.getElem?_eq_getElem hc]]; exact List.getElem_mem hc
    have hsr := ok.hd _ hm
    have hs8 := ok.cb.2.2.1
    obtain ⟨s, hs⟩ : ∃ s, s = t.held.getD t.at_ 0 := ⟨_, rfl⟩
    rw [← hs] at hgc hsr ⊢
    have HS8 : Hid (0 ≤ s ∧ s ≤ 100) := ⟨hsr.1, by omega⟩
    clear hb ok R hm hsr hs8 hs hc hcl
    go_enter Tryz.func147, Tryz.ntmps147
    go_wp2_with fail
    go_quiet (fail)
    go_wp2_with fail
    go_region_with (first
      | (go_at_call 126; refine (t_version s _ HS8.out).mono ?_; rintro e w' ⟨rfl, rfl⟩)
      | (go_at_call 144; refine (t_stamp p z A B t L _ (by exact HB.out) (HC.out).1 (HC.out).2).mono ?_; rintro e w' ⟨rfl, rfl⟩)
      | (go_at_call 145; refine (t_store p z A B t L 24 (hVer s) (t.clock + 1) _ (by exact HB.out)).mono ?_; rintro e w2 ⟨rfl, a1, a2⟩))
    all_goals
      go_wp2
      go_end0
      exact ⟨rfl, a1, a2.quiet rfl rfl rfl rfl⟩
  · rw [if_neg hc]
    have h1 : ¬ (t.at_ : Int) < (t.held.length : Int) := by omega
    clear hb ok R hc hcl
    go_enter Tryz.func147, Tryz.ntmps147
    go_wp2_with fail
    go_quiet (fail)
    go_wp2_with fail
    refine (t_end p z A B t L _ (by exact HB.out) HK.out).mono ?_
    rintro e w2 ⟨rfl, a1, a2⟩
    go_wp2
    go_end0
    exact ⟨rfl, a1, a2.quiet rfl rfl rfl rfl⟩
end

end Go.Proofs.YtejadojilncbjaaGreat

namespace Go.Proofs.YtejadojilncbjaaGreat
open Go.RowKit
set_option linter.unusedVariables false
attribute [local go_sem ↓] Go.wp_at_zero Go.wp_at_succ

section
variable (base p z : Nat) (A B : List Value) (t : PT) (L : Ls) (w : World)

theorem t_word (ok : TOk t) (a : Int) (w : World) (h : 0 ≤ a ∧ a ≤ 100) : Calls Tryz.prog 90 #[.agg #[.int .i64 t.c.t, .int .i64 t.c.wd, .int .i64 t.c.s, .int .i64 t.c.g, .int .i64 t.c.r, .int .i64 t.c.cp, .int .i64 t.c.f], .int .i64 a] w fun e w' => e = .returned (.int .i64 (cWrdOf t.c a)) ∧ Below w.heap.size w w' := by
  obtain ⟨ht, _, hs, _⟩ := ok.cb
  exact wordCell_any t.c ⟨t.c, 0, []⟩ rfl a w h.1 (by omega) (by omega) (by omega) (by omega) (by omega)

set_option maxHeartbeats 4000000 in
theorem t_put (R : TR base p z A B w t L) (ok : TOk t) (hcl : -1 ≤ t.clock ∧ t.clock ≤ 2 ^ 50) : Calls Tryz.prog 146 #[.pointer (some ⟨p, z, none⟩)] w (DidT p z A B (yPut t) L w) := by
  have hb := R.tt
  have h38 := hb.cAt
  have h31 := hb.cWrites
  have hf := hb.froz
  have HK : Hid (TOk t) := ok
  have HC : Hid (-1 ≤ t.clock ∧ t.clock ≤ 2 ^ 50) := hcl
  unfold yPut
  by_cases hc : t.at_ < t.writes.length
  · rw [if_pos hc]
    have h1 : (t.at_ : Int) < (t.writes.length : Int) := by omega
    have hk0 : (0 : Int) ≤ (t.at_ : Int) := by omega
    obtain ⟨g, hg, hg1, hg2, _⟩ := ents_at R.wr t.at_ hc
    rw [hg] at h31
    have hm : t.writes.getD t.at_ ⟨0, 0⟩ ∈ t.writes := by rw [show t.writes.getD t.at_ ⟨0, 0⟩ = t.writes[t.at_] from by simp [List.getD, List.getElem?_eq_getElem hc]]; exact List.getElem_mem hc
    have hsr := ok.wr _ hm
    have hs8 := ok.cb.2.1
    obtain ⟨a, ha⟩ : ∃ a, a = (t.writes.getD t.at_ ⟨0, 0⟩).what := ⟨_, rfl⟩
    obtain ⟨u, hu⟩ : ∃ u, u = (t.writes.getD t.at_ ⟨0, 0⟩).val := ⟨_, rfl⟩
    rw [← ha] at hg1 hsr ⊢
    rw [← hu] at hg2 ⊢
    have HS8 : Hid (0 ≤ a ∧ a ≤ 100) := ⟨hsr.1, by omega⟩
    have HB : Hid (TAt w p z A B t L) := hb
    have hlt := hb.lt
    clear hb ok R hm hsr hs8 ha hu hc hcl hf
    go_enter Tryz.func146, Tryz.ntmps146
    go_wp2_with fail
    go_quiet (fail)
    go_wp2_with fail
    have k38 : (w.drewN nq).cell? ⟨p, z + 19 + 27, none⟩ = some (.int .i64 (t.at_ : Int)) := h38
    have k31 : (w.drewN nq).cell? ⟨p, z + 19 + 20, none⟩ = some (.slice (some ⟨g, 0, none⟩) t.writes.length L.wc) := h31
    have k1 : (w.drewN nq).cell? ⟨g, t.at_ * 2, none⟩ = some (.int .i64 a) := hg1
    have k2 : (w.drewN nq).cell? ⟨g, t.at_ * 2 + 1, none⟩ = some (.int .i64 u) := hg2
    have kl : p < (w.drewN nq).heap.size := hlt
    have kg : g < (w.drewN nq).heap.size := block_lt hg1
    have HB1 : Hid (TAt (w.drewN nq) p z A B t L) := (HB.out).drewN nq
    have HO1 : Hid (Only p w (w.drewN nq)) := (Only.refl _ _).drewN nq
    clear h38 h31 hg1 hg2 hlt HB
    generalize w.drewN nq = w1 at *
    have kp : p ≠ w1.heap.size := by omega
    have kq : g ≠ w1.heap.size := by omega
    go_cut [3] (fun t3 wx => t3 = .pointer (some ⟨w1.heap.size, 0, none⟩) ∧ Hid (TAt wx p z A B t L) ∧ Hid (Blk wx w1.heap.size 180 #[.int .i64 a, .int .i64 u]) ∧ Hid (Only p w wx))
    case first =>
      go_region
      all_goals
        go_wp2
        go_meet
        case rel =>
          refine ⟨rfl, ?_, ?_, ?_⟩
          · exact TAt.below (HB1.out) ((Below.refl _ _).alloc (Nat.le_refl _) _).drew
          · exact Blk.new w1 180 _
          · exact (HO1.out).trans (Only.below ((Below.refl _ _).alloc (Nat.le_refl _) _).drew)
    case rest =>
      obtain ⟨rfl, HB2, HX2, HO2⟩ := hcut
      have h0 := (HB2.out).cT
      have h1b := (HB2.out).cWd
      have h2 := (HB2.out).cS
      have h3 := (HB2.out).cG
      have h4 := (HB2.out).cR
      have h5 := (HB2.out).cCp
      have h6 := (HB2.out).cF
      have hx := (HX2.out).cell
      have HXL : Hid (w1.heap.size < wc.heap.size) := (HX2.out).lt
      clear k38 k31 k1 k2 kl kg kp kq
      go_wp2_with fail
      go_region_with (first
        | (go_at_call 90; refine (t_word t HK.out a _ HS8.out).mono ?_; rintro e w3 ⟨rfl, hB⟩; have hb3 : TAt w3 p z A B t L := TAt.below (by exact HB2.out) hB; have hx3 : Blk w3 w1.heap.size 180 #[.int .i64 a, .int .i64 u] := Blk.below (by exact HX2.out) hB HXL.out; have hx3c := hx3.cell)
        | (go_at_call 145; refine (t_store p z A B t L 23 (cWrdOf t.c a) u _ (by assumption)).mono ?_; rintro e w4 ⟨rfl, a1, a2⟩))
      all_goals
        go_wp2
        go_end0
        exact ⟨rfl, a1, (HO2.out).trans (Only.trans (by first | exact Only.below hB | exact ((Only.refl _ _).drew).trans (Only.below hB)) a2)⟩
  · rw [if_neg hc]
    have h1 : ¬ (t.at_ : Int) < (t.writes.length : Int) := by omega
    have hb1 : ∀ n, TAt ((w.drewN n).setCell ⟨p, z + 19 + 27, none⟩ (.int .i64 0)) p z A B { t with at_ := 0 } L := fun n => (hb.drewN n).set 46 (by decide) _ rfl
    have hO1 : ∀ n, Only p w ((w.drewN n).setCell ⟨p, z + 19 + 27, none⟩ (.int .i64 0)) := fun n => ((Only.refl _ _).drewN n).set
    have HO : Hid (∀ n, Only p w ((w.drewN n).setCell ⟨p, z + 19 + 27, none⟩ (.int .i64 0))) := hO1
    have HR1 : Hid (∀ n, TR base p z A B ((w.drewN n).setCell ⟨p, z + 19 + 27, none⟩ (.int .i64 0)) { t with at_ := 0 } L) := fun n => R.next (hb1 n) (hO1 n) rfl rfl rfl rfl rfl rfl
    clear hb ok R hc hcl hb1 hO1
    go_enter Tryz.func146, Tryz.ntmps146
    go_wp2_with fail
    go_quiet (fail)
    go_wp2_with fail
    refine (t_release base p z A B { t with at_ := 0 } L _ ((HR1.out) _) HK.out HC.out).mono ?_
    rintro e w2 ⟨rfl, a1, a2⟩
    go_wp2
    go_end0
    exact ⟨rfl, a1, ((HO.out) _).trans a2⟩
end

end Go.Proofs.YtejadojilncbjaaGreat
