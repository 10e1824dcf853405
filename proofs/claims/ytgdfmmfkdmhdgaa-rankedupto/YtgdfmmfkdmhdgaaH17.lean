import Derived.Test.YtgdfmmfkdmhdgaaH16
namespace Go.Proofs.Ytgdfmmfkdmhdgaa
open Go.RowKit
set_option linter.unusedVariables false
attribute [local go_sem ↓] Go.wp_at_zero Go.wp_at_succ

section
variable (base p z : Nat) (A B : List Value) (t : PT) (L : Ls) (w : World)

set_option maxRecDepth 100000 in
set_option maxHeartbeats 8000000 in
theorem t_read (R : TR base p z A B w t L) (ok : TOk t) (ha : 0 ≤ t.turn.addr ∧ t.turn.addr ≤ 100) (hm : t.m.regs.length = 4) (hi : 0 ≤ t.m.into ∧ t.m.into ≤ 3) :
    Calls Try.prog 137 #[.pointer (some ⟨p, z, none⟩)] w (DidT p z A B (yRead t) L w) := by
  have h27 := R.tt.cAddr
  have HR : Hid (TR base p z A B w t L) := R
  have HB : Hid (TAt w p z A B t L) := R.tt
  have HK : Hid (TOk t) := ok
  have HI : Hid (0 ≤ t.m.into ∧ t.m.into ≤ 3) := hi
  have HA : Hid (0 ≤ t.turn.addr ∧ t.turn.addr ≤ 100) := ha
  have HSt : Hid (∀ w', TAt w' p z A B t L → Calls Try.prog 109 #[.pointer (some ⟨p, z, none⟩)] w' fun e w'' => e = .returned (.int .i64 t.stripe) ∧ ∃ n, w'' = w'.drewN n) := fun w' h => t_stripe p z A B t L w' h ok
  have hsr := tmodP ok.cb.2.2.1.1 ha.1
  have hs8 := ok.cb.2.2.1
  have HS8 : Hid (0 ≤ t.stripe ∧ t.stripe ≤ 100) := ⟨hsr.1, by unfold PT.stripe; omega⟩
  have HFd : Hid (Calls Try.prog 148 #[.pointer (some ⟨p, z + 18, none⟩), .int .i64 t.turn.addr] w fun e w' => e = .returned (.int .i64 (findN t.writes t.turn.addr)) ∧ Below w.heap.size w w') := t_find p z A B t L w R.tt ok.wl (ents_at R.wr) t.turn.addr
  unfold yRead
  cases hE : entIdx t.writes t.turn.addr with
  | some k =>
    simp only
    have hkl := (entIn hE).1
    have hfn : findN t.writes t.turn.addr = k := by unfold findN; rw [hE]; rfl
    rw [hfn] at HFd
    have hk1 : (k : Int) < (t.writes.length : Int) := by omega
    have hk0 : (0 : Int) ≤ (k : Int) := by omega
    have HKL : Hid (k < t.writes.length) := hkl
    clear R ok ha hi hsr hs8 hE hkl hfn
    go_enter Try.func137, Try.ntmps137
    go_wp2_with fail
    refine (HFd.out).mono ?_
    rintro e w1 ⟨rfl, hB⟩
    have R1 := (HR.out).below hB
    obtain ⟨g, hg, hg1, hg2, hg3⟩ := ents_at R1.wr k HKL.out
    have h31 := R1.tt.cWrites
    rw [hg] at h31
    have HB1 : Hid (TAt w1 p z A B t L) := R1.tt
    have HOn : Hid (Only p w w1) := Only.below hB
    clear R1 hg hB
    go_wp2_with fail
    refine (t_give p z A B t L _ HB1.out hm HI.out _).mono ?_
    rintro e w2 ⟨rfl, a1, a2⟩
    go_wp2
    refine bodyPost_ret (results_none rfl _ _ _) rfl ?_
    exact ⟨rfl, a1, (HOn.out).trans a2⟩
  | none =>
    simp only
    have hfn : findN t.writes t.turn.addr = t.writes.length := by unfold findN; rw [hE]; rfl
    rw [hfn] at HFd
    cases hH : t.holds t.stripe with
    | true =>
      rw [if_pos rfl]
      have HHd : Hid (∀ w', TR base p z A B w' t L → Calls Try.prog 145 #[.pointer (some ⟨p, z + 18, none⟩), .int .i64 t.stripe] w' fun e w'' => e = .returned (.bool true) ∧ w'' = w') := fun w' h => by rw [← hH]; exact t_holds p z A B t L w' h.tt ok.hl (nums_at h.hd) t.stripe
      clear R ok ha hi hsr hs8 hE hfn hH
      go_enter Try.func137, Try.ntmps137
      go_wp2_with fail
      refine (HFd.out).mono ?_
      rintro e w1 ⟨rfl, hB⟩
      have R1 := (HR.out).below hB
      have h31 := R1.tt.cWrites
      have HR1 : Hid (TR base p z A B w1 t L) := R1
      have HOn : Hid (Only p w w1) := Only.below hB
      clear R1 hB
      go_wp2_with fail
      refine (HSt.out _ (HR1.out).tt).mono ?_
      rintro e w' ⟨rfl, n, rfl⟩
      go_wp2_with fail
      refine (HHd.out _ ((HR1.out).drewN n)).mono ?_
      rintro e w' ⟨rfl, rfl⟩
      have HB2 : Hid (TAt (w1.drewN n) p z A B t L) := ((HR1.out).drewN n).tt
      have HO2 : Hid (Only p w (w1.drewN n)) := (HOn.out).drewN n
      clear HR1 HOn h31 h27
      generalize w1.drewN n = w2 at *
      have k0 := (HB2.out).cT
      have k1 := (HB2.out).cWd
      have k2 := (HB2.out).cS
      have k3 := (HB2.out).cG
      have k4 := (HB2.out).cR
      have k5 := (HB2.out).cCp
      have k6 := (HB2.out).cF
      have k27 := (HB2.out).cAddr
      go_wp2_with fail
      go_region_with (first
        | (go_at_call 75; refine (t_word t HK.out t.turn.addr _ HA.out).mono ?_; rintro e w3 ⟨rfl, hB⟩; have hb3 : TAt w3 p z A B t L := TAt.below (by exact HB2.out) hB; have HO3 : Only p w2 w3 := (Only.below hB).quiet rfl rfl rfl rfl)
        | (go_at_call 88; refine (t_load p z A B t L 3 (cWrdOf t.c t.turn.addr) _ (by assumption)).mono ?_; rintro e w4 ⟨rfl, a1, a2⟩))
      all_goals
        go_wp2
        refine bodyPost_ret (results_none rfl _ _ _) rfl ?_
        exact ⟨rfl, a1, (HO2.out).trans (HO3.trans a2)⟩
    | false =>
      rw [if_neg (by decide)]
      have HHd : Hid (∀ w', TR base p z A B w' t L → Calls Try.prog 145 #[.pointer (some ⟨p, z + 18, none⟩), .int .i64 t.stripe] w' fun e w'' => e = .returned (.bool false) ∧ w'' = w') := fun w' h => by rw [← hH]; exact t_holds p z A B t L w' h.tt ok.hl (nums_at h.hd) t.stripe
      clear R ok ha hi hsr hs8 hE hfn hH
      go_enter Try.func137, Try.ntmps137
      go_wp2_with fail
      refine (HFd.out).mono ?_
      rintro e w1 ⟨rfl, hB⟩
      have R1 := (HR.out).below hB
      have h31 := R1.tt.cWrites
      have HR1 : Hid (TR base p z A B w1 t L) := R1
      have HOn : Hid (Only p w w1) := Only.below hB
      clear R1 hB
      go_wp2_with fail
      refine (HSt.out _ (HR1.out).tt).mono ?_
      rintro e w' ⟨rfl, n, rfl⟩
      go_wp2_with fail
      refine (HHd.out _ ((HR1.out).drewN n)).mono ?_
      rintro e w' ⟨rfl, rfl⟩
      go_wp2_with fail
      refine (HSt.out _ ((HR1.out).drewN n).tt).mono ?_
      rintro e w' ⟨rfl, n2, rfl⟩
      go_wp2_with fail
      refine (t_version t.stripe _ HS8.out).mono ?_
      rintro e w3 ⟨rfl, rfl⟩
      go_wp2_with fail
      refine (t_load p z A B t L 4 (hVer t.stripe) _ (by exact (HR1.out).tt)).mono ?_
      rintro e w3 ⟨rfl, a1, a2⟩
      go_wp2
      go_end0
      exact ⟨rfl, a1, (HOn.out).trans (a2.quiet rfl rfl rfl rfl)⟩
end

theorem lists_read (t : PT) : Lists t (yRead t) := by
  unfold yRead
  split
  · exact ⟨rfl, rfl, rfl, rfl⟩
  · split <;> exact ⟨rfl, rfl, rfl, rfl⟩

section
variable (base p z : Nat) (A B : List Value) (t : PT) (L : Ls) (w : World)

set_option maxRecDepth 100000 in
set_option maxHeartbeats 8000000 in
theorem t_followRead (R : TR base p z A B w t L) (ok : TOk t) (hbs : base ≤ w.heap.size) (ha : 0 ≤ t.turn.addr ∧ t.turn.addr ≤ 100) (hm : t.m.regs.length = 4) (hi : 0 ≤ t.m.into ∧ t.m.into ≤ 3) (seen : Int)
    (hs : t.step = 3 ∨ t.step = 4 ∨ t.step = 5 ∨ t.step = 6) :
    Calls Try.prog 89 #[.pointer (some ⟨p, z, none⟩), .int .i64 seen] w (Dids base p z A B (yFollowRead seen t) L w) := by
  have h13 := R.tt.cStep
  have h33 := R.tt.cVersion
  have h34 := R.tt.cValue
  have hf := R.tt.froz
  have HR : Hid (TR base p z A B w t L) := R
  have HB : Hid (TAt w p z A B t L) := R.tt
  have HK : Hid (TOk t) := ok
  have HBS : Hid (base ≤ w.heap.size) := hbs
  have HI : Hid (0 ≤ t.m.into ∧ t.m.into ≤ 3) := hi
  have HA : Hid (0 ≤ t.turn.addr ∧ t.turn.addr ≤ 100) := ha
  have hsr := tmodP ok.cb.2.2.1.1 ha.1
  have hs8 := ok.cb.2.2.1
  have HS8 : Hid (0 ≤ t.stripe ∧ t.stripe ≤ 100) := ⟨hsr.1, by unfold PT.stripe; omega⟩
  unfold yFollowRead
  rcases hs with hs | hs | hs | hs
  · rw [if_pos hs]
    rw [hs] at h13
    clear R ok hbs ha hi hsr hs8 hs
    go_enter Try.func89, Try.ntmps89
    go_wp2_with fail
    refine (t_give p z A B t L _ HB.out hm HI.out seen).mono ?_
    rintro e w1 ⟨rfl, a1, a2⟩
    go_wp2
    go_end0
    exact ⟨rfl, L, (HR.out).next a1 a2 rfl rfl rfl rfl, Goes.only a2⟩
  · rw [if_neg (by omega), if_pos hs]
    rw [hs] at h13
    by_cases hz : seen = -1
    · rw [if_neg (fun q => q hz)]
      subst hz
      clear R ok hbs ha hi hsr hs8 hs
      go_enter Try.func89, Try.ntmps89
      go_wp2
      go_end0
      exact ⟨rfl, L, HR.out, Goes.refl _ _ _⟩
    · rw [if_pos hz]
      have hzb : (seen != -1) = true := by simpa using hz
      have hzb2 : (seen == -1) = false := by simpa using hz
      have HB2 : Hid (TAt (w.setCell ⟨p, z + 18 + 15, none⟩ (.int .i64 seen)) p z A B { t with version := seen } L) := R.tt.set 33 (by decide) _ rfl
      have HO2 : Hid (Only p w (w.setCell ⟨p, z + 18 + 15, none⟩ (.int .i64 seen))) := (Only.refl _ _).set
      clear R ok hbs ha hi hsr hs8 hs hz HB
      go_enter Try.func89, Try.ntmps89
      go_wp2_with fail
      generalize w.setCell ⟨p, z + 18 + 15, none⟩ (.int .i64 seen) = w2 at *
      have k0 : w2.cell? ⟨p, z, none⟩ = some (.int .i64 t.c.t) := (HB2.out).cT
      have k1 : w2.cell? ⟨p, z + 1, none⟩ = some (.int .i64 t.c.wd) := (HB2.out).cWd
      have k2 : w2.cell? ⟨p, z + 2, none⟩ = some (.int .i64 t.c.s) := (HB2.out).cS
      have k3 : w2.cell? ⟨p, z + 3, none⟩ = some (.int .i64 t.c.g) := (HB2.out).cG
      have k4 : w2.cell? ⟨p, z + 4, none⟩ = some (.int .i64 t.c.r) := (HB2.out).cR
      have k5 : w2.cell? ⟨p, z + 5, none⟩ = some (.int .i64 t.c.cp) := (HB2.out).cCp
      have k6 : w2.cell? ⟨p, z + 6, none⟩ = some (.int .i64 t.c.f) := (HB2.out).cF
      have k27 : w2.cell? ⟨p, z + 18 + 7 + 2, none⟩ = some (.int .i64 t.turn.addr) := (HB2.out).cAddr
      go_region_with (first
        | (go_at_call 75; refine (t_word t HK.out t.turn.addr _ HA.out).mono ?_; rintro e w3 ⟨rfl, hB⟩; have hb3 : TAt w3 p z A B { t with version := seen } L := TAt.below (by exact HB2.out) hB; have HO3 : Only p w2 w3 := (Only.below hB).quiet rfl rfl rfl rfl)
        | (go_at_call 88; refine (t_load p z A B { t with version := seen } L 5 (cWrdOf t.c t.turn.addr) _ (by assumption)).mono ?_; rintro e w4 ⟨rfl, a1, a2⟩))
      all_goals
        go_wp2
        go_end0
        have a3 := (HO2.out).trans (HO3.trans a2)
        exact ⟨rfl, L, (HR.out).next a1 a3 rfl rfl rfl rfl, Goes.only a3⟩
  · rw [if_neg (by omega), if_neg (by omega), if_pos hs]
    rw [hs] at h13
    have HB2 : Hid (TAt (w.setCell ⟨p, z + 18 + 16, none⟩ (.int .i64 seen)) p z A B { t with value := seen } L) := R.tt.set 34 (by decide) _ rfl
    have HO2 : Hid (Only p w (w.setCell ⟨p, z + 18 + 16, none⟩ (.int .i64 seen))) := (Only.refl _ _).set
    clear R ok hbs ha hi hsr hs8 hs HB
    go_enter Try.func89, Try.ntmps89
    go_wp2_with fail
    refine (t_stripe p z A B { t with value := seen } L _ HB2.out HK.out).mono ?_
    rintro e w' ⟨rfl, n, rfl⟩
    go_wp2_with fail
    refine (t_version t.stripe _ HS8.out).mono ?_
    rintro e w3 ⟨rfl, rfl⟩
    go_wp2_with fail
    refine (t_load p z A B { t with value := seen } L 6 (hVer t.stripe) _ ((HB2.out).drewN _)).mono ?_
    rintro e w3 ⟨rfl, a1, a2⟩
    go_wp2
    go_end0
    have a3 := (HO2.out).trans (a2.quiet rfl rfl rfl rfl)
    exact ⟨rfl, L, (HR.out).next a1 a3 rfl rfl rfl rfl, Goes.only a3⟩
  · rw [if_neg (by omega), if_neg (by omega), if_neg (by omega), if_pos hs]
    rw [hs] at h13
    clear R ok hbs ha hi hsr hs8 hs
    go_enter Try.func89, Try.ntmps89
    go_wp2_with fail
    refine (t_trust base p z A B t L _ HR.out HK.out HBS.out (HA.out).1 hm HI.out seen).mono ?_
    rintro e w1 ⟨rfl, L1, a1, a2⟩
    go_wp2
    go_end0
    exact ⟨rfl, L1, a1, a2⟩

set_option maxRecDepth 100000 in
set_option maxHeartbeats 8000000 in
theorem t_write (R : TR base p z A B w t L) (ok : TOk t) (hbs : base ≤ w.heap.size) (ha : 0 ≤ t.turn.addr ∧ t.turn.addr ≤ 100) :
    Calls Try.prog 138 #[.pointer (some ⟨p, z, none⟩)] w (Dids base p z A B (yWrite t) L w) := by
  have HR : Hid (TR base p z A B w t L) := R
  have HK : Hid (TOk t) := ok
  have HBS : Hid (base ≤ w.heap.size) := hbs
  have HSt : Hid (∀ w', TAt w' p z A B t L → Calls Try.prog 109 #[.pointer (some ⟨p, z, none⟩)] w' fun e w'' => e = .returned (.int .i64 t.stripe) ∧ ∃ n, w'' = w'.drewN n) := fun w' h => t_stripe p z A B t L w' h ok
  unfold yWrite
  cases hH : t.holds t.stripe with
  | true =>
    rw [if_pos rfl]
    have HHd : Hid (∀ w', TR base p z A B w' t L → Calls Try.prog 145 #[.pointer (some ⟨p, z + 18, none⟩), .int .i64 t.stripe] w' fun e w'' => e = .returned (.bool true) ∧ w'' = w') := fun w' h => by rw [← hH]; exact t_holds p z A B t L w' h.tt ok.hl (nums_at h.hd) t.stripe
    have HLg0 : ∀ w', TR base p z A B w' t L → base ≤ w'.heap.size → Calls Try.prog 141 #[.pointer (some ⟨p, z + 18, none⟩), .int .i64 t.turn.addr, .int .i64 t.turn.val] w' (Dids base p z A B (yLog t.turn.addr t.turn.val t) L w') := fun w' h hb => t_log base p z A B t L w' h ok hb _ _
    obtain ⟨t1, ht1⟩ : ∃ t1, t1 = yLog t.turn.addr t.turn.val t := ⟨_, rfl⟩
    rw [← ht1] at HLg0 ⊢
    have HLg : Hid (∀ w', TR base p z A B w' t L → base ≤ w'.heap.size → Calls Try.prog 141 #[.pointer (some ⟨p, z + 18, none⟩), .int .i64 t.turn.addr, .int .i64 t.turn.val] w' (Dids base p z A B t1 L w')) := HLg0
    clear R ok hbs ha hH HLg0 ht1
    go_enter Try.func138, Try.ntmps138
    go_wp2_with fail
    refine (HSt.out _ (HR.out).tt).mono ?_
    rintro e w' ⟨rfl, n, rfl⟩
    go_wp2_with fail
    refine (HHd.out _ ((HR.out).drewN n)).mono ?_
    rintro e w' ⟨rfl, rfl⟩
    have HR2 : Hid (TR base p z A B (w.drewN n) t L) := (HR.out).drewN n
    have HO2 : Hid (Only p w (w.drewN n)) := (Only.refl _ _).drewN n
    have HBS2 : Hid (base ≤ (w.drewN n).heap.size) := HBS.out
    clear HR HBS
    generalize w.drewN n = w2 at *
    have k27 := (HR2.out).tt.cAddr
    have k28 := (HR2.out).tt.cVal
    go_wp2_with fail
    go_region_with (go_at_call 141; refine (HLg.out _ (HR2.out).drew HBS2.out).mono ?_; rintro e w1 ⟨rfl, L1, R1, G1⟩; have kf := R1.tt.froz; have k13 := R1.tt.cStep; have HR1 : Hid (TR base p z A B w1 t1 L1) := R1; have HG1 : Hid (Goes p L w L1 w1) := (Goes.only ((HO2.out).drew)).trans G1; clear R1 G1)
    all_goals
      go_wp2
      refine bodyPost_ret (results_none rfl _ _ _) rfl ?_
      have hb2 := (HR1.out).tt.set (t' := { t1 with step := 1 }) 13 (by decide) (.int .i64 1) rfl
      exact ⟨rfl, L1, (HR1.out).next hb2 ((Only.refl _ _).set) rfl rfl rfl rfl, (HG1.out).trans (Goes.only ((Only.refl _ _).set))⟩
  | false =>
    rw [if_neg (by decide)]
    have HHd : Hid (∀ w', TR base p z A B w' t L → Calls Try.prog 145 #[.pointer (some ⟨p, z + 18, none⟩), .int .i64 t.stripe] w' fun e w'' => e = .returned (.bool false) ∧ w'' = w') := fun w' h => by rw [← hH]; exact t_holds p z A B t L w' h.tt ok.hl (nums_at h.hd) t.stripe
    clear R ok hbs ha hH
    go_enter Try.func138, Try.ntmps138
    go_wp2_with fail
    refine (HSt.out _ (HR.out).tt).mono ?_
    rintro e w' ⟨rfl, n, rfl⟩
    go_wp2_with fail
    refine (HHd.out _ ((HR.out).drewN n)).mono ?_
    rintro e w' ⟨rfl, rfl⟩
    go_wp2_with fail
    refine (t_get p z A B t L _ ((HR.out).drewN n).tt HK.out).mono ?_
    rintro e w1 ⟨rfl, a1, a2⟩
    go_wp2
    go_end0
    have a3 := a2.quiet (w := w) rfl rfl rfl rfl
    exact ⟨rfl, L, (HR.out).next a1 a3 rfl rfl rfl rfl, Goes.only a3⟩

set_option maxHeartbeats 2000000 in
theorem t_touch (R : TR base p z A B w t L) (ok : TOk t) (hbs : base ≤ w.heap.size) (ha : 0 ≤ t.turn.addr ∧ t.turn.addr ≤ 100) (hm : t.m.regs.length = 4) (hi : t.turn.op = 7 → 0 ≤ t.m.into ∧ t.m.into ≤ 3) :
    Calls Try.prog 100 #[.pointer (some ⟨p, z, none⟩)] w (Dids base p z A B (yTouch t) L w) := by
  have h26 := R.tt.cOp
  have HR : Hid (TR base p z A B w t L) := R
  have HK : Hid (TOk t) := ok
  have HBS : Hid (base ≤ w.heap.size) := hbs
  have HA : Hid (0 ≤ t.turn.addr ∧ t.turn.addr ≤ 100) := ha
  unfold yTouch
  by_cases ho : t.turn.op = 7
  · rw [if_pos ho]
    rw [ho] at h26
    have HI : Hid (0 ≤ t.m.into ∧ t.m.into ≤ 3) := hi ho
    clear R ok hbs hi ho ha
    go_enter Try.func100, Try.ntmps100
    go_wp2_with fail
    refine (t_read base p z A B t L _ HR.out HK.out HA.out hm HI.out).mono ?_
    rintro e w1 ⟨rfl, a1, a2⟩
    go_wp2
    go_end0
    exact ⟨rfl, L, (HR.out).by a1 a2 (lists_read t), Goes.only a2⟩
  · rw [if_neg ho]
    have hob : (t.turn.op == 7) = false := by rw [beq_eq_false_iff_ne]; exact ho
    clear R ok hbs hi ho ha
    go_enter Try.func100, Try.ntmps100
    go_wp2_with fail
    refine (t_write base p z A B t L _ HR.out HK.out HBS.out HA.out).mono ?_
    rintro e w1 ⟨rfl, L1, a1, a2⟩
    go_wp2
    go_end0
    exact ⟨rfl, L1, a1, a2⟩
end

end Go.Proofs.Ytgdfmmfkdmhdgaa
