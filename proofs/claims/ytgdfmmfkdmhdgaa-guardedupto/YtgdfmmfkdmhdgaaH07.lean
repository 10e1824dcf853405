import Derived.Test.YtgdfmmfkdmhdgaaH06
namespace Go.Proofs.Ytgdfmmfkdmhdgaa
open Go.RowKit
set_option linter.unusedVariables false
attribute [local go_sem ↓] Go.wp_at_zero Go.wp_at_succ

section
variable (base p z : Nat) (A B : List Value) (t : PT) (L : Ls) (w : World)

set_option maxHeartbeats 2000000 in
theorem t_show (hb : TAt w p z A B t L) (ok : TOk t) : Calls Try.prog 132 #[.pointer (some ⟨p, z, none⟩)] w (DidT p z A B (yShow t) L w) := by
  have h10 := hb.cRank
  have hrk := ok.rank
  have hw8 : IntKind.i64.wrap (8 * t.rank) = 8 * t.rank := wrapP _ (by omega) (by omega)
  have HB : Hid (TAt w p z A B t L) := hb
  have HK : Hid (TOk t) := ok
  clear hb ok hrk
  go_enter Try.func132, Try.ntmps132
  go_wp2_with fail
  go_region_with (first
    | (go_at_call 122; refine (t_ownStatus p z A B t L _ (by exact HB.out) HK.out).mono ?_; rintro e w1 ⟨rfl, hB⟩; have hb1 : TAt w1 p z A B t L := TAt.below (by exact HB.out) hB; have h10b := hb1.cRank)
    | (go_at_call 126; refine (t_store p z A B t L 31 t.sta (8 * t.rank) _ (by assumption)).mono ?_; rintro e w2 ⟨rfl, a1, a2⟩))
  all_goals
    go_wp2
    go_end0
    exact ⟨rfl, a1, by first | exact (Only.below hB).trans a2 | exact (((Only.refl _ _).drew).trans (Only.below hB)).trans a2⟩

set_option maxHeartbeats 2000000 in
theorem t_count (hb : TAt w p z A B t L) (ok : TOk t) (hfl : t.fails + 1 ≤ 2 ^ 40) : Calls Try.prog 147 #[.pointer (some ⟨p, z, none⟩)] w (DidT p z A B (yCount t) L w) := by
  have h11 := hb.cFails
  have hf := hb.froz
  have hfa := ok.fails
  have hw1 : IntKind.i64.wrap (t.fails + 1) = t.fails + 1 := wrapP _ (by omega) (by omega)
  have ok1 : TOk { t with fails := t.fails + 1 } := ⟨ok.cfg, ok.num, ok.rank, ⟨by show 0 ≤ t.fails + 1; omega, hfl⟩, ok.rd, ok.wr, ok.hd, ok.rl, ok.wl, ok.hl, ok.ml, ok.cur⟩
  have HK : Hid (TOk { t with fails := t.fails + 1 }) := ok1
  have HB : Hid (TAt (w.setCell ⟨p, z + 11, none⟩ (.int .i64 (t.fails + 1))) p z A B { t with fails := t.fails + 1 } L) := hb.set 11 (by decide) _ rfl
  have HO : Hid (Only p w (w.setCell ⟨p, z + 11, none⟩ (.int .i64 (t.fails + 1)))) := (Only.refl _ _).set
  clear hb ok ok1 hfa hfl
  unfold yCount
  by_cases hr : t.rank = 0
  · have hrb : (t.rank == 0) = true := by simp [hr]
    by_cases hc : t.c.r < t.fails + 1
    · rw [if_pos ⟨hr, hc⟩]
      clear hr
      go_enter Try.func147, Try.ntmps147
      go_wp2_with fail
      generalize w.setCell ⟨p, z + 11, none⟩ (.int .i64 (t.fails + 1)) = w1 at *
      have h10b : w1.cell? ⟨p, z + 10, none⟩ = some (.int .i64 t.rank) := (HB.out).cRank
      have h11b : w1.cell? ⟨p, z + 11, none⟩ = some (.int .i64 (t.fails + 1)) := (HB.out).cFails
      have h4b : w1.cell? ⟨p, z + 4, none⟩ = some (.int .i64 t.c.r) := (HB.out).cR
      clear h11 hf hw1
      go_quiet (fail)
      go_wp2_with fail
      refine (t_take p z A B { t with fails := t.fails + 1 } L 30 1 _ (by exact HB.out)).mono ?_
      rintro e w2 ⟨rfl, a1, a2⟩
      go_wp2
      go_end0
      exact ⟨rfl, a1, ((HO.out).drewN _).trans a2⟩
    · rw [if_neg (fun q => hc q.2)]
      clear hr
      go_enter Try.func147, Try.ntmps147
      go_wp2_with fail
      generalize w.setCell ⟨p, z + 11, none⟩ (.int .i64 (t.fails + 1)) = w1 at *
      have h10b : w1.cell? ⟨p, z + 10, none⟩ = some (.int .i64 t.rank) := (HB.out).cRank
      have h11b : w1.cell? ⟨p, z + 11, none⟩ = some (.int .i64 (t.fails + 1)) := (HB.out).cFails
      have h4b : w1.cell? ⟨p, z + 4, none⟩ = some (.int .i64 t.c.r) := (HB.out).cR
      clear h11 hf hw1
      go_quiet (fail)
      go_wp2_with fail
      refine (t_show p z A B { t with fails := t.fails + 1 } L _ (by exact HB.out) HK.out).mono ?_
      rintro e w2 ⟨rfl, a1, a2⟩
      go_wp2
      go_end0
      exact ⟨rfl, a1, ((HO.out).drewN _).trans a2⟩
  · have hrb : (t.rank == 0) = false := by rw [beq_eq_false_iff_ne]; exact hr
    rw [if_neg (fun q => hr q.1)]
    clear hr
    go_enter Try.func147, Try.ntmps147
    go_wp2_with fail
    generalize w.setCell ⟨p, z + 11, none⟩ (.int .i64 (t.fails + 1)) = w1 at *
    have h10b : w1.cell? ⟨p, z + 10, none⟩ = some (.int .i64 t.rank) := (HB.out).cRank
    have h11b : w1.cell? ⟨p, z + 11, none⟩ = some (.int .i64 (t.fails + 1)) := (HB.out).cFails
    have h4b : w1.cell? ⟨p, z + 4, none⟩ = some (.int .i64 t.c.r) := (HB.out).cR
    clear h11 hf hw1
    go_quiet (fail)
    go_wp2_with fail
    refine (t_show p z A B { t with fails := t.fails + 1 } L _ (by exact HB.out) HK.out).mono ?_
    rintro e w2 ⟨rfl, a1, a2⟩
    go_wp2
    go_end0
    exact ⟨rfl, a1, ((HO.out).drewN _).trans a2⟩

set_option maxHeartbeats 1000000 in
theorem t_undo (R : TR base p z A B w t L) (ok : TOk t) (hfl : t.fails + 1 ≤ 2 ^ 40) : Calls Try.prog 131 #[.pointer (some ⟨p, z, none⟩)] w (DidT p z A B (yUndo t) L w) := by
  have hb := R.tt
  have h38 := hb.cAt
  have h32 := hb.cHeld
  have HR : Hid (TR base p z A B w t L) := R
  have HK : Hid (TOk t) := ok
  have HF : Hid (t.fails + 1 ≤ 2 ^ 40) := hfl
  clear hb ok R hfl
  unfold yUndo
  by_cases hc : t.at_ < t.held.length
  · rw [if_pos hc]
    have HC : Hid (t.at_ < t.held.length) := hc
    have h1 : (t.at_ : Int) < (t.held.length : Int) := by omega
    clear hc
    go_enter Try.func131, Try.ntmps131
    go_wp2_with fail
    go_quiet (fail)
    go_wp2_with fail
    refine (t_giveBack base p z A B t L _ ((HR.out).drewN _) HK.out HC.out 29).mono ?_
    rintro e w1 ⟨rfl, a1, a2⟩
    go_wp2
    go_end0
    exact ⟨rfl, a1, ((Only.refl _ _).drewN _).trans a2⟩
  · rw [if_neg hc]
    have h1 : ¬ (t.at_ : Int) < (t.held.length : Int) := by omega
    clear hc
    go_enter Try.func131, Try.ntmps131
    go_wp2_with fail
    go_quiet (fail)
    go_wp2_with fail
    refine (t_count p z A B t L _ ((HR.out).drewN _).tt HK.out HF.out).mono ?_
    rintro e w1 ⟨rfl, a1, a2⟩
    go_wp2
    go_end0
    exact ⟨rfl, a1, ((Only.refl _ _).drewN _).trans a2⟩

set_option maxHeartbeats 1000000 in
theorem t_fail (R : TR base p z A B w t L) (ok : TOk t) (hfl : t.fails + 1 ≤ 2 ^ 40) : Calls Try.prog 112 #[.pointer (some ⟨p, z, none⟩)] w (DidT p z A B (yFail t) L w) := by
  have hb := R.tt
  have h38 := hb.cAt
  have hf := hb.froz
  have hb1 : TAt (w.setCell ⟨p, z + 18 + 20, none⟩ (.int .i64 0)) p z A B { t with at_ := 0 } L := hb.set 38 (by decide) _ rfl
  have HO : Hid (Only p w (w.setCell ⟨p, z + 18 + 20, none⟩ (.int .i64 0))) := (Only.refl _ _).set
  have HR : Hid (TR base p z A B (w.setCell ⟨p, z + 18 + 20, none⟩ (.int .i64 0)) { t with at_ := 0 } L) := R.next hb1 HO.out rfl rfl rfl rfl
  have HK : Hid (TOk { t with at_ := 0 }) := ok
  have HF : Hid (t.fails + 1 ≤ 2 ^ 40) := hfl
  clear hb ok R hfl hb1
  go_enter Try.func112, Try.ntmps112
  go_wp2_with fail
  refine (t_undo base p z A B { t with at_ := 0 } L _ HR.out HK.out HF.out).mono ?_
  rintro e w1 ⟨rfl, a1, a2⟩
  go_wp2
  go_end0
  exact ⟨rfl, a1, (HO.out).trans a2⟩

theorem t_failGate (hb : TAt w p z A B t L) : Calls Try.prog 124 #[.pointer (some ⟨p, z, none⟩)] w (DidT p z A B (yFailGate t) L w) := by
  have HB : Hid (TAt w p z A B t L) := hb
  clear hb
  go_enter Try.func124, Try.ntmps124
  go_wp2_with fail
  refine (t_store p z A B t L 28 2 0 _ HB.out).mono ?_
  rintro e w1 ⟨rfl, a1, a2⟩
  go_wp2
  go_end0
  exact ⟨rfl, a1, a2⟩

theorem t_extend (hb : TAt w p z A B t L) : Calls Try.prog 119 #[.pointer (some ⟨p, z, none⟩)] w (DidT p z A B (yExtend t) L w) := by
  have HB : Hid (TAt w p z A B t L) := hb
  clear hb
  go_enter Try.func119, Try.ntmps119
  go_wp2_with fail
  refine (t_load p z A B t L 12 0 _ HB.out).mono ?_
  rintro e w1 ⟨rfl, a1, a2⟩
  go_wp2
  go_end0
  exact ⟨rfl, a1, a2⟩

theorem t_get (hb : TAt w p z A B t L) (ok : TOk t) : Calls Try.prog 118 #[.pointer (some ⟨p, z, none⟩)] w (DidT p z A B (yGet t) L w) := by
  have HB : Hid (TAt w p z A B t L) := hb
  have HK : Hid (TOk t) := ok
  clear hb ok
  go_enter Try.func118, Try.ntmps118
  go_wp2_with fail
  refine (t_ownStatus p z A B t L _ HB.out HK.out).mono ?_
  rintro e w1 ⟨rfl, hB⟩
  go_wp2_with fail
  refine (t_load p z A B t L 7 t.sta _ ((HB.out).below hB)).mono ?_
  rintro e w2 ⟨rfl, a1, a2⟩
  go_wp2
  go_end0
  exact ⟨rfl, a1, (Only.below hB).trans a2⟩

set_option maxHeartbeats 1000000 in
theorem t_restBy (hb : TAt w p z A B t L) (ok : TOk t) (draw : Int) : Calls Try.prog 135 #[.pointer (some ⟨p, z, none⟩), .int .i64 draw] w fun e w' => e = .returned (.int .i64 (yRestBy t draw)) ∧ w' = w := by
  have h11 := hb.cFails
  have h5 := hb.cCp
  have hfa := ok.fails
  obtain ⟨_, _, _, _, _, hcp, _⟩ := ok.cb
  clear hb ok
  unfold yRestBy
  by_cases h0 : draw < 0
  · rw [if_pos h0]
    go_enter Try.func135, Try.ntmps135
    go_wp2
    go_ret
    exact ⟨rfl, rfl⟩
  · rw [if_neg h0]
    by_cases hc : t.c.cp < t.fails
    · rw [if_pos hc]
      have hw : IntKind.i64.wrap (1 + t.c.cp) = 1 + t.c.cp := wrapP _ (by omega) (by omega)
      have hz : (1 + t.c.cp == 0) = false := by rw [beq_eq_false_iff_ne]; omega
      have hz2 : ¬ 1 + t.c.cp = 0 := by omega
      clear hfa hcp
      go_enter Try.func135, Try.ntmps135
      go_wp2
      go_ret
      exact ⟨by rw [Int.tmod_eq_emod_of_nonneg (by omega)]; rfl, rfl⟩
    · rw [if_neg hc]
      have hw : IntKind.i64.wrap (1 + t.fails) = 1 + t.fails := wrapP _ (by omega) (by omega)
      have hz : (1 + t.fails == 0) = false := by rw [beq_eq_false_iff_ne]; omega
      have hz2 : ¬ 1 + t.fails = 0 := by omega
      clear hfa hcp
      go_enter Try.func135, Try.ntmps135
      go_wp2
      go_ret
      exact ⟨by rw [Int.tmod_eq_emod_of_nonneg (by omega)]; rfl, rfl⟩
end

end Go.Proofs.Ytgdfmmfkdmhdgaa

namespace Go.Proofs.Ytgdfmmfkdmhdgaa
open Go.RowKit
set_option linter.unusedVariables false
attribute [local go_sem ↓] Go.wp_at_zero Go.wp_at_succ

theorem Only.quiet {p : Nat} {w w' w2 : World} (h : Only p w' w2) (h1 : w'.os = w.os) (h2 : w'.tape = w.tape) (h3 : w'.output = w.output) (h4 : w'.heap = w.heap) : Only p w w2 :=
  ⟨h.os.trans h1, h.tape.trans h2, h.output.trans h3, by rw [← h4]; exact h.size, fun k hk hp => (h.block k (by rw [h4]; exact hk) hp).trans (by rw [h4])⟩

section
variable (base p z : Nat) (A B : List Value) (t : PT) (L : Ls) (w : World)

/-- The machine of the thread. -/
def tHead (t : PT) (L : Ls) : List Value := (tArr t L).take 18
def tTail (t : PT) (L : Ls) : List Value := (tArr t L).drop 25

theorem TAt.mach {p z : Nat} {A B : List Value} {t : PT} {L : Ls} {w : World} (h : TAt w p z A B t L) : MAt w p (z + 18) 120 (A ++ tHead t L) (tTail t L ++ B) t.m :=
  Seg.mach (L := []) (Seg.part (L := []) (L1 := tHead t L) (L2 := (mArr t.m).toList) (L3 := tTail t L) h 18 rfl)
theorem TAt.ofMach {p z : Nat} {A B : List Value} {t : PT} {L : Ls} {w : World} {m : MS} (hz : A.length = z) (h : MAt w p (z + 18) 120 (A ++ tHead t L) (tTail t L ++ B) m) : TAt w p z A B { t with m := m } L :=
  Seg.whole (L := []) (L1 := tHead t L) (L2 := (mArr m).toList) (L3 := tTail t L) (MAt.seg (L := []) h) hz

set_option maxHeartbeats 1000000 in
theorem t_give (hb : TAt w p z A B t L) (hm : t.m.regs.length = 4) (hi : 0 ≤ t.m.into ∧ t.m.into ≤ 3) (v : Int) : Calls Try.prog 107 #[.pointer (some ⟨p, z, none⟩), .int .i64 v] w (DidT p z A B (yGive v t) L w) := by
  obtain ⟨ki, hk⟩ := Int.eq_ofNat_of_zero_le hi.1
  have hk4 : ki < 4 := by omega
  have HM : Hid (MAt w p (z + 18) 120 (A ++ tHead t L) (tTail t L ++ B) t.m) := hb.mach
  have hz : A.length = z := hb.1
  have HG : Hid (∀ w', TAt w' p z A B { t with m := { t.m with regs := t.m.regs.set ki v }, step := 1 } L → TAt w' p z A B (yGive v t) L) := fun w' h => by
    unfold yGive
    rw [hk]
    exact h
  have HK : Hid (t.m.into = (ki : Int)) := hk
  clear hb hi hk
  go_enter Try.func107, Try.ntmps107
  go_wp2_with fail
  refine (z_give_any (z + 18) 120 (A ++ tHead t L) (tTail t L ++ B) p ki t.m v _ HM.out hm HK.out hk4).mono ?_
  rintro e w1 ⟨rfl, h1, h2⟩
  have hb1 : TAt w1 p z A B { t with m := { t.m with regs := t.m.regs.set ki v } } L := TAt.ofMach hz h1
  have h13 := hb1.cStep
  have hf := hb1.froz
  have HB1 : Hid (TAt w1 p z A B { t with m := { t.m with regs := t.m.regs.set ki v } } L) := hb1
  clear hb1 h1
  go_wp2
  go_end0
  exact ⟨rfl, HG.out _ ((HB1.out).set 13 (by decide) _ rfl), h2.set⟩

set_option maxHeartbeats 1000000 in
theorem t_followFail (R : TR base p z A B w t L) (ok : TOk t) (hfl : t.fails + 1 ≤ 2 ^ 40) (hs : t.step = 28 ∨ t.step = 29 ∨ t.step = 30) (hat : t.at_ ≤ 1000) (put : Int) (hp : 0 ≤ put ∧ put ≤ 2 ^ 40) :
    Calls Try.prog 97 #[.pointer (some ⟨p, z, none⟩), .int .i64 put] w (DidT p z A B (yFollowFail put t) L w) := by
  have hb := R.tt
  have h13 := hb.cStep
  have h38 := hb.cAt
  have h10 := hb.cRank
  have hf := hb.froz
  have HR : Hid (TR base p z A B w t L) := R
  have HK : Hid (TOk t) := ok
  have HF : Hid (t.fails + 1 ≤ 2 ^ 40) := hfl
  unfold yFollowFail
  rcases hs with hs | hs | hs
  · rw [if_pos hs]
    rw [hs] at h13
    clear hb ok R hfl hs hp hat
    go_enter Try.func97, Try.ntmps97
    go_wp2_with fail
    refine (t_fail base p z A B t L _ HR.out HK.out HF.out).mono ?_
    rintro e w1 ⟨rfl, a1, a2⟩
    go_wp2
    go_end0
    exact ⟨rfl, a1, a2⟩
  · rw [if_neg (by omega), if_pos hs]
    rw [hs] at h13
    have hw : IntKind.i64.wrap ((t.at_ : Int) + 1) = ((t.at_ + 1 : Nat) : Int) := by rw [wrapP _ (by omega) (by omega)]; omega
    have hb1 : TAt (w.setCell ⟨p, z + 18 + 20, none⟩ (.int .i64 ((t.at_ + 1 : Nat) : Int))) p z A B { t with at_ := t.at_ + 1 } L := hb.set 38 (by decide) _ rfl
    have HO : Hid (Only p w (w.setCell ⟨p, z + 18 + 20, none⟩ (.int .i64 ((t.at_ + 1 : Nat) : Int)))) := (Only.refl _ _).set
    have HR1 : Hid (TR base p z A B (w.setCell ⟨p, z + 18 + 20, none⟩ (.int .i64 ((t.at_ + 1 : Nat) : Int))) { t with at_ := t.at_ + 1 } L) := R.next hb1 HO.out rfl rfl rfl rfl
    clear hb ok R hfl hs hp hat hb1 HR
    go_enter Try.func97, Try.ntmps97
    go_wp2_with fail
    refine (t_undo base p z A B { t with at_ := t.at_ + 1 } L _ HR1.out HK.out HF.out).mono ?_
    rintro e w1 ⟨rfl, a1, a2⟩
    go_wp2
    go_end0
    exact ⟨rfl, a1, (HO.out).trans a2⟩
  · rw [if_neg (by omega), if_neg (by omega), if_pos hs]
    rw [hs] at h13
    have hb1 : TAt (w.setCell ⟨p, z + 10, none⟩ (.int .i64 put)) p z A B { t with rank := put } L := hb.set 10 (by decide) _ rfl
    have HB1 : Hid (TAt (w.setCell ⟨p, z + 10, none⟩ (.int .i64 put)) p z A B { t with rank := put } L) := hb1
    have HO : Hid (Only p w (w.setCell ⟨p, z + 10, none⟩ (.int .i64 put))) := (Only.refl _ _).set
    have HK1 : Hid (TOk { t with rank := put }) := ⟨ok.cfg, ok.num, hp, ok.fails, ok.rd, ok.wr, ok.hd, ok.rl, ok.wl, ok.hl, ok.ml, ok.cur⟩
    clear hb ok R hfl hs hp hat hb1 HR
    go_enter Try.func97, Try.ntmps97
    go_wp2_with fail
    refine (t_show p z A B { t with rank := put } L _ HB1.out HK1.out).mono ?_
    rintro e w1 ⟨rfl, a1, a2⟩
    go_wp2
    go_end0
    exact ⟨rfl, a1, (HO.out).trans a2⟩

set_option maxHeartbeats 1000000 in
theorem t_lose (hb : TAt w p z A B t L) (ok : TOk t) (status draw : Int) (h0 : 0 ≤ status) (hway : 0 ≤ t.wayTo ∧ t.wayTo ≤ 100) :
    Calls Try.prog 98 #[.pointer (some ⟨p, z, none⟩), .int .i64 status, .int .i64 draw] w (DidT p z A B (yLose status draw t) L w) := by
  have h36 := hb.cWay
  have h12 := hb.cRest
  have hf := hb.froz
  have HB : Hid (TAt w p z A B t L) := hb
  have HK : Hid (TOk t) := ok
  have hm0 := Int.tmod_nonneg 8 h0
  have hm8 := Int.tmod_lt_of_pos status (show (0 : Int) < 8 by decide)
  unfold yLose yWinner
  by_cases hz : status.tmod 8 = 0
  · rw [if_pos hz]
    by_cases hw : t.wayTo = 0
    · rw [if_neg (fun q => q hw)]
      rw [hw] at h36
      clear hb ok hm0 hm8 hway h0
      go_enter Try.func98, Try.ntmps98
      go_wp2_with fail
      refine (t_markIn _ _).mono ?_
      rintro e w1 ⟨rfl, rfl⟩
      rw [hz]
      go_wp2_with fail
      refine (t_restBy p z A B t L _ HB.out HK.out draw).mono ?_
      rintro e w1 ⟨rfl, rfl⟩
      go_wp2_with fail
      refine (t_begin p z A B { t with rest := yRestBy t draw } L _ ((HB.out).set 12 (by decide) _ rfl)).mono ?_
      rintro e w2 ⟨rfl, a1, a2⟩
      go_wp2
      go_end0
      exact ⟨rfl, a1, ((Only.refl _ _).set).trans a2⟩
    · rw [if_pos hw]
      have HW : Hid (0 ≤ t.wayTo ∧ t.wayTo ≤ 100) := hway
      have hwb : (t.wayTo != 0) = true := by simpa using hw
      have hwb2 : (t.wayTo == 0) = false := by simpa using hw
      clear hb ok hm0 hm8 hway h0
      go_enter Try.func98, Try.ntmps98
      go_wp2_with fail
      refine (t_markIn _ _).mono ?_
      rintro e w1 ⟨rfl, rfl⟩
      rw [hz]
      go_wp2_with fail
      refine (t_statusOf p z A B t L _ HB.out HK.out t.wayTo (HW.out).1 (HW.out).2).mono ?_
      rintro e w1 ⟨rfl, hB⟩
      go_wp2_with fail
      refine (t_load p z A B t L 32 (t.staOf t.wayTo) _ ((HB.out).below hB)).mono ?_
      rintro e w2 ⟨rfl, a1, a2⟩
      go_wp2
      refine bodyPost_ret (results_none rfl _ _ _) rfl ?_
      exact ⟨rfl, a1, (Only.below hB).trans a2⟩
  · rw [if_neg hz, if_pos hz]
    have HW : Hid (0 ≤ status.tmod 8 ∧ status.tmod 8 ≤ 100) := ⟨hm0, by omega⟩
    obtain ⟨m, hm⟩ : ∃ m, m = status.tmod 8 := ⟨_, rfl⟩
    have HM : Hid (∀ w, Calls Try.prog 133 #[.int .i64 status] w fun e w' => e = .returned (.int .i64 m) ∧ w' = w) := fun w => by rw [hm]; exact t_markIn status w
    rw [← hm] at HW hz ⊢
    have hwb : (m != 0) = true := by simpa using hz
    have hwb2 : (m == 0) = false := by simpa using hz
    clear hb ok hm0 hm8 hway h0 hm
    go_enter Try.func98, Try.ntmps98
    go_wp2_with fail
    refine (HM.out _).mono ?_
    rintro e w1 ⟨rfl, rfl⟩
    go_wp2_with fail
    refine (t_statusOf p z A B t L _ HB.out HK.out m (HW.out).1 (HW.out).2).mono ?_
    rintro e w1 ⟨rfl, hB⟩
    go_wp2_with fail
    refine (t_load p z A B t L 32 (t.staOf m) _ ((HB.out).below hB)).mono ?_
    rintro e w2 ⟨rfl, a1, a2⟩
    go_wp2
    refine bodyPost_ret (results_none rfl _ _ _) rfl ?_
    exact ⟨rfl, a1, (Only.below hB).trans a2⟩

set_option maxHeartbeats 1000000 in
theorem t_await (hb : TAt w p z A B t L) (ok : TOk t) (status : Int) (h0 : 0 ≤ status) (h1 : status ≤ 1125899906842624) :
    Calls Try.prog 99 #[.pointer (some ⟨p, z, none⟩), .int .i64 status] w (DidT p z A B (yAwait status t) L w) := by
  have h10 := hb.cRank
  have HB : Hid (TAt w p z A B t L) := hb
  obtain ⟨q, hq⟩ : ∃ q, q = status.tdiv 8 := ⟨_, rfl⟩
  have HM : Hid (∀ w, Calls Try.prog 136 #[.int .i64 status] w fun e w' => e = .returned (.int .i64 q) ∧ w' = w) := fun w => by rw [hq]; exact t_rankIn status w (by omega) h1
  unfold yAwait
  rw [← hq]
  clear hb ok h0 h1 hq
  by_cases hc : q = 0 ∨ (0 < t.rank ∧ t.rank < q)
  · rw [if_pos hc]
    rcases hc with hc | ⟨hc1, hc2⟩
    · subst hc
      go_enter Try.func99, Try.ntmps99
      go_wp2_with fail
      refine (HM.out _).mono ?_
      rintro e w1 ⟨rfl, rfl⟩
      go_wp2_with fail
      refine (t_begin p z A B t L _ HB.out).mono ?_
      rintro e w1 ⟨rfl, a1, a2⟩
      go_wp2
      go_end0
      exact ⟨rfl, a1, a2⟩
    · have hqb : (q == 0) = false := by rw [beq_eq_false_iff_ne]; omega
      go_enter Try.func99, Try.ntmps99
      go_wp2_with fail
      refine (HM.out _).mono ?_
      rintro e w1 ⟨rfl, rfl⟩
      go_wp2_with fail
      refine (t_begin p z A B t L _ HB.out).mono ?_
      rintro e w1 ⟨rfl, a1, a2⟩
      go_wp2
      go_end0
      exact ⟨rfl, a1, a2⟩
  · rw [if_neg hc]
    have hqb : (q == 0) = false := by rw [beq_eq_false_iff_ne]; exact fun h => hc (Or.inl h)
    by_cases hr : 0 < t.rank
    · have hr2 : ¬ t.rank < q := fun h => hc (Or.inr ⟨hr, h⟩)
      clear hc
      go_enter Try.func99, Try.ntmps99
      go_wp2_with fail
      refine (HM.out _).mono ?_
      rintro e w1 ⟨rfl, rfl⟩
      go_wp2
      go_end0
      exact ⟨rfl, HB.out, Only.refl _ _⟩
    · clear hc
      go_enter Try.func99, Try.ntmps99
      go_wp2_with fail
      refine (HM.out _).mono ?_
      rintro e w1 ⟨rfl, rfl⟩
      go_wp2
      go_end0
      exact ⟨rfl, HB.out, Only.refl _ _⟩

set_option maxHeartbeats 1000000 in
theorem t_meet (R : TR base p z A B w t L) (ok : TOk t) (hfl : t.fails + 1 ≤ 2 ^ 40) (u : Int) (hu : 0 ≤ u ∧ u ≤ 100) :
    Calls Try.prog 116 #[.pointer (some ⟨p, z, none⟩), .int .i64 u] w (DidT p z A B (yMeet u t) L w) := by
  have hb := R.tt
  have h10 := hb.cRank
  have h35 := hb.cRival
  have hf := hb.froz
  have HR : Hid (TR base p z A B w t L) := R
  have HK : Hid (TOk t) := ok
  have HF : Hid (t.fails + 1 ≤ 2 ^ 40) := hfl
  have HU : Hid (0 ≤ u ∧ u ≤ 100) := hu
  unfold yMeet
  by_cases hr : t.rank = 0
  · rw [if_pos hr]
    rw [hr] at h10
    clear hb ok R hfl hr hu
    go_enter Try.func116, Try.ntmps116
    go_wp2_with fail
    refine (t_fail base p z A B t L _ HR.out HK.out HF.out).mono ?_
    rintro e w1 ⟨rfl, a1, a2⟩
    go_wp2
    refine bodyPost_ret (results_none rfl _ _ _) rfl ?_
    exact ⟨rfl, a1, a2⟩
  · rw [if_neg hr]
    have hrb : (t.rank == 0) = false := by rw [beq_eq_false_iff_ne]; exact hr
    have hb1 : TAt (w.setCell ⟨p, z + 18 + 17, none⟩ (.int .i64 u)) p z A B { t with rival := u } L := hb.set 35 (by decide) _ rfl
    have HB1 : Hid (TAt (w.setCell ⟨p, z + 18 + 17, none⟩ (.int .i64 u)) p z A B { t with rival := u } L) := hb1
    have HO : Hid (Only p w (w.setCell ⟨p, z + 18 + 17, none⟩ (.int .i64 u))) := (Only.refl _ _).set
    clear hb ok R hfl hr hu hb1
    go_enter Try.func116, Try.ntmps116
    go_wp2_with fail
    refine (t_statusOf p z A B { t with rival := u } L _ HB1.out HK.out u (HU.out).1 (HU.out).2).mono ?_
    rintro e w1 ⟨rfl, hB⟩
    go_wp2_with fail
    refine (t_load p z A B { t with rival := u } L 9 (t.staOf u) _ ((HB1.out).below hB)).mono ?_
    rintro e w2 ⟨rfl, a1, a2⟩
    go_wp2
    go_end0
    exact ⟨rfl, a1, ((HO.out).trans (Only.below hB)).trans a2⟩
end

end Go.Proofs.Ytgdfmmfkdmhdgaa
