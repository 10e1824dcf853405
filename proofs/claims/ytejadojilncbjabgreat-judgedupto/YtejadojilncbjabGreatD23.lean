import Derived.Test.YtejadojilncbjabGreatD22
import Derived.Test.YtejadojilncbjabGreatD18
namespace Go.Proofs.YtejadojilncbjabGreat
open Go.RowKit
set_option linter.unusedVariables false
attribute [local go_sem ↓] Go.wp_at_zero Go.wp_at_succ
section
variable (base p z : Nat) (A B : List Value) (t : PT) (L : Ls) (w : World)
set_option maxRecDepth 100000 in
set_option maxHeartbeats 8000000 in
theorem t_read (R : TR base p z A B w t L) (ok : TOk t) (hbs : base ≤ w.heap.size) (ha : 0 ≤ t.turn.addr ∧ t.turn.addr ≤ 100) (hm : t.m.regs.length = 4) (hi : 0 ≤ t.m.into ∧ t.m.into ≤ 3) :
  Calls Tryz.prog 208 #[.pointer (some ⟨p, z, none⟩)] w (Dids base p z A B (yRead t) L w) := by
 have h27 := R.tt.cAddr
 have HR : Hid (TR base p z A B w t L) := R
 have HB : Hid (TAt w p z A B t L) := R.tt
 have HK : Hid (TOk t) := ok
 have HBS : Hid (base ≤ w.heap.size) := hbs
 have HI : Hid (0 ≤ t.m.into ∧ t.m.into ≤ 3) := hi
 have HA : Hid (0 ≤ t.turn.addr ∧ t.turn.addr ≤ 100) := ha
 have HSt : Hid (∀ w', TAt w' p z A B t L → Calls Tryz.prog 179 #[.pointer (some ⟨p, z, none⟩)] w' fun e w'' => e = .returned (.int .i64 t.stripe) ∧ ∃ n, w'' = w'.drewN n) := fun w' h => t_stripe p z A B t L w' h ok
 have hsr := tmodP ok.cb.2.2.1.1 ha.1
 have hs8 := ok.cb.2.2.1
 have HS8 : Hid (0 ≤ t.stripe ∧ t.stripe ≤ 100) := ⟨hsr.1, by unfold PT.stripe; omega⟩
 have HFd : Hid (Calls Tryz.prog 223 #[.pointer (some ⟨p, z + 19, none⟩), .int .i64 t.turn.addr] w fun e w' => e = .returned (.int .i64 (findN t.writes t.turn.addr)) ∧ Below w.heap.size w w') := t_find p z A B t L w R.tt ok.wl (ents_at R.wr) t.turn.addr
 unfold yRead
 cases hE : entIdx t.writes t.turn.addr with
 | some k =>
  simp only
  have hkl := (entIn hE).1
  have hfn : findN t.writes t.turn.addr = k := by unfold findN; rw [hE]; rfl
  rw [hfn] at HFd
  have hk1 : (k : Int) < (t.writes.length : Int) := by omega
  have hk0 : (0 : Int) ≤ (k : Int) := by omega
  have HKL : Hid (k < t.writes.length) := hkl
  clear R ok hbs ha hi hsr hs8 hE hkl hfn
  go_enter Tryz.func208, Tryz.ntmps208
  go_wp2_with fail
  refine (HFd.out).mono ?_
  rintro e w1 ⟨rfl, hB⟩
  have R1 := (HR.out).below hB
  obtain ⟨g, hg, hg1, hg2, hg3⟩ := ents_at R1.wr k HKL.out
  have h31 := R1.tt.cWrites
  rw [hg] at h31
  have HR1 : Hid (TR base p z A B w1 t L) := R1
  have HBs1 : Hid (base ≤ w1.heap.size) := Nat.le_trans HBS.out hB.size
  have HOn : Hid (Only p w w1) := Only.below hB
  clear R1 hg hB
  go_wp2_with fail
  refine (t_give base p z A B t L _ HR1.out (by have := (HK.out).nl; omega) HBs1.out hm HI.out _).mono ?_
  rintro e w2 ⟨rfl, L2, a1, a2⟩
  go_wp2
  refine bodyPost_ret (results_none rfl _ _ _) rfl ?_
  exact ⟨rfl, L2, a1, (Goes.only HOn.out).trans a2⟩
 | none =>
  simp only
  have hfn : findN t.writes t.turn.addr = t.writes.length := by unfold findN; rw [hE]; rfl
  rw [hfn] at HFd
  cases hH : t.holds t.stripe with
  | true =>
   rw [if_pos rfl]
   have HHd : Hid (∀ w', TR base p z A B w' t L → Calls Tryz.prog 221 #[.pointer (some ⟨p, z + 19, none⟩), .int .i64 t.stripe] w' fun e w'' => e = .returned (.bool true) ∧ w'' = w') := fun w' h => by rw [← hH]; exact t_holds p z A B t L w' h.tt ok.hl (nums_at h.hd) t.stripe
   clear R ok hbs ha hi hsr hs8 hE hfn hH
   go_enter Tryz.func208, Tryz.ntmps208
   go_wp2_with fail
   refine (HFd.out).mono ?_
   rintro e w1 ⟨rfl, hB⟩
   have R1 := (HR.out).below hB
   have h31 := R1.tt.cWrites
   have HR1 : Hid (TR base p z A B w1 t L) := R1
   have HOn : Hid (Only p w w1) := Only.below hB
   clear R1 hB
   go_wp2_with fail
   refine (HSt.out _ (HR1.out).tt).mono ?_
   rintro e w' ⟨rfl, n, rfl⟩
   go_wp2_with fail
   refine (HHd.out _ ((HR1.out).drewN n)).mono ?_
   rintro e w' ⟨rfl, rfl⟩
   have HB2 : Hid (TAt (w1.drewN n) p z A B t L) := ((HR1.out).drewN n).tt
   have HO2 : Hid (Only p w (w1.drewN n)) := (HOn.out).drewN n
   clear HR1 HOn h31 h27
   generalize w1.drewN n = w2 at *
   have k0 := (HB2.out).cT
   have k1 := (HB2.out).cWd
   have k2 := (HB2.out).cS
   have k3 := (HB2.out).cG
   have k4 := (HB2.out).cR
   have k5 := (HB2.out).cCp
   have k6 := (HB2.out).cF
   have k27 := (HB2.out).cAddr
   go_wp2_with fail
   go_region_with (first
       | (go_at_call 133; refine (t_word t HK.out t.turn.addr _ HA.out).mono ?_; rintro e w3 ⟨rfl, hB⟩; have hb3 : TAt w3 p z A B t L := TAt.below (by exact HB2.out) hB; have HO3 : Only p w2 w3 := (Only.below hB).quiet rfl rfl rfl rfl)
       | (go_at_call 153; refine (t_load p z A B t L 3 (cWrdOf t.c t.turn.addr) _ (by assumption)).mono ?_; rintro e w4 ⟨rfl, a1, a2⟩))
   all_goals
    go_wp2
    refine bodyPost_ret (results_none rfl _ _ _) rfl ?_
    exact ⟨rfl, L, (HR.out).next a1 ((HO2.out).trans (HO3.trans a2)) rfl rfl rfl rfl rfl rfl, Goes.only ((HO2.out).trans (HO3.trans a2))⟩
  | false =>
   rw [if_neg (by decide)]
   have HHd : Hid (∀ w', TR base p z A B w' t L → Calls Tryz.prog 221 #[.pointer (some ⟨p, z + 19, none⟩), .int .i64 t.stripe] w' fun e w'' => e = .returned (.bool false) ∧ w'' = w') := fun w' h => by rw [← hH]; exact t_holds p z A B t L w' h.tt ok.hl (nums_at h.hd) t.stripe
   clear R ok hbs ha hi hsr hs8 hE hfn hH
   go_enter Tryz.func208, Tryz.ntmps208
   go_wp2_with fail
   refine (HFd.out).mono ?_
   rintro e w1 ⟨rfl, hB⟩
   have R1 := (HR.out).below hB
   have h31 := R1.tt.cWrites
   have HR1 : Hid (TR base p z A B w1 t L) := R1
   have HOn : Hid (Only p w w1) := Only.below hB
   clear R1 hB
   go_wp2_with fail
   refine (HSt.out _ (HR1.out).tt).mono ?_
   rintro e w' ⟨rfl, n, rfl⟩
   go_wp2_with fail
   refine (HHd.out _ ((HR1.out).drewN n)).mono ?_
   rintro e w' ⟨rfl, rfl⟩
   go_wp2_with fail
   refine (HSt.out _ ((HR1.out).drewN n).tt).mono ?_
   rintro e w' ⟨rfl, n2, rfl⟩
   go_wp2_with fail
   refine (t_version t.stripe _ HS8.out).mono ?_
   rintro e w3 ⟨rfl, rfl⟩
   go_wp2_with fail
   refine (t_load p z A B t L 4 (hVer t.stripe) _ (by exact (HR1.out).tt)).mono ?_
   rintro e w3 ⟨rfl, a1, a2⟩
   go_wp2
   go_end0
   exact ⟨rfl, L, (HR.out).next a1 ((HOn.out).trans (a2.quiet rfl rfl rfl rfl)) rfl rfl rfl rfl rfl rfl, Goes.only ((HOn.out).trans (a2.quiet rfl rfl rfl rfl))⟩
end
section
variable (base p z : Nat) (A B : List Value) (t : PT) (L : Ls) (w : World)
set_option maxRecDepth 100000 in
set_option maxHeartbeats 8000000 in
theorem t_followRead (R : TR base p z A B w t L) (ok : TOk t) (hbs : base ≤ w.heap.size) (ha : 0 ≤ t.turn.addr ∧ t.turn.addr ≤ 100) (hm : t.m.regs.length = 4) (hi : 0 ≤ t.m.into ∧ t.m.into ≤ 3) (seen : Int)
  (hs : t.step = 3 ∨ t.step = 4 ∨ t.step = 5 ∨ t.step = 6) :
  Calls Tryz.prog 155 #[.pointer (some ⟨p, z, none⟩), .int .i64 seen] w (Dids base p z A B (yFollowRead seen t) L w) := by
 have h13 := R.tt.cStep
 have h33 := R.tt.cVersion
 have h34 := R.tt.cValue
 have hf := R.tt.froz
 have HR : Hid (TR base p z A B w t L) := R
 have HB : Hid (TAt w p z A B t L) := R.tt
 have HK : Hid (TOk t) := ok
 have HBS : Hid (base ≤ w.heap.size) := hbs
 have HI : Hid (0 ≤ t.m.into ∧ t.m.into ≤ 3) := hi
 have HA : Hid (0 ≤ t.turn.addr ∧ t.turn.addr ≤ 100) := ha
 have hsr := tmodP ok.cb.2.2.1.1 ha.1
 have hs8 := ok.cb.2.2.1
 have HS8 : Hid (0 ≤ t.stripe ∧ t.stripe ≤ 100) := ⟨hsr.1, by unfold PT.stripe; omega⟩
 unfold yFollowRead
 rcases hs with hs | hs | hs | hs
 ·rw [if_pos hs]
  rw [hs] at h13
  clear R ok hbs ha hi hsr hs8 hs
  go_enter Tryz.func155, Tryz.ntmps155
  go_wp2_with fail
  refine (t_give base p z A B t L _ HR.out (by have := (HK.out).nl; omega) HBS.out hm HI.out seen).mono ?_
  rintro e w1 ⟨rfl, L1, a1, a2⟩
  go_wp2
  go_end0
  exact ⟨rfl, L1, a1, a2⟩
 ·rw [if_neg (by omega), if_pos hs]
  rw [hs] at h13
  by_cases hz : seen = -1
  ·rw [if_neg (fun q => q hz)]
   subst hz
   clear R ok hbs ha hi hsr hs8 hs
   go_enter Tryz.func155, Tryz.ntmps155
   go_wp2
   go_end0
   exact ⟨rfl, L, HR.out, Goes.refl _ _ _⟩
  ·rw [if_pos hz]
   have hzb : (seen != -1) = true := by simpa using hz
   have hzb2 : (seen == -1) = false := by simpa using hz
   have HB2 : Hid (TAt (w.setCell ⟨p, z + 19 + 22, none⟩ (.int .i64 seen)) p z A B { t with version := seen } L) := R.tt.set 41 (by decide) _ rfl
   have HO2 : Hid (Only p w (w.setCell ⟨p, z + 19 + 22, none⟩ (.int .i64 seen))) := (Only.refl _ _).set
   clear R ok hbs ha hi hsr hs8 hs hz HB
   go_enter Tryz.func155, Tryz.ntmps155
   go_wp2_with fail
   generalize w.setCell ⟨p, z + 19 + 22, none⟩ (.int .i64 seen) = w2 at *
   have k0 : w2.cell? ⟨p, z, none⟩ = some (.int .i64 t.c.t) := (HB2.out).cT
   have k1 : w2.cell? ⟨p, z + 1, none⟩ = some (.int .i64 t.c.wd) := (HB2.out).cWd
   have k2 : w2.cell? ⟨p, z + 2, none⟩ = some (.int .i64 t.c.s) := (HB2.out).cS
   have k3 : w2.cell? ⟨p, z + 3, none⟩ = some (.int .i64 t.c.g) := (HB2.out).cG
   have k4 : w2.cell? ⟨p, z + 4, none⟩ = some (.int .i64 t.c.r) := (HB2.out).cR
   have k5 : w2.cell? ⟨p, z + 5, none⟩ = some (.int .i64 t.c.cp) := (HB2.out).cCp
   have k6 : w2.cell? ⟨p, z + 6, none⟩ = some (.int .i64 t.c.f) := (HB2.out).cF
   have k27 : w2.cell? ⟨p, z + 19 + 15 + 2, none⟩ = some (.int .i64 t.turn.addr) := (HB2.out).cAddr
   go_region_with (first
       | (go_at_call 133; refine (t_word t HK.out t.turn.addr _ HA.out).mono ?_; rintro e w3 ⟨rfl, hB⟩; have hb3 : TAt w3 p z A B { t with version := seen } L := TAt.below (by exact HB2.out) hB; have HO3 : Only p w2 w3 := (Only.below hB).quiet rfl rfl rfl rfl)
       | (go_at_call 153; refine (t_load p z A B { t with version := seen } L 5 (cWrdOf t.c t.turn.addr) _ (by assumption)).mono ?_; rintro e w4 ⟨rfl, a1, a2⟩))
   all_goals
    go_wp2
    go_end0
    have a3 := (HO2.out).trans (HO3.trans a2)
    exact ⟨rfl, L, (HR.out).next a1 a3 rfl rfl rfl rfl rfl rfl, Goes.only a3⟩
 ·rw [if_neg (by omega), if_neg (by omega), if_pos hs]
  rw [hs] at h13
  have HB2 : Hid (TAt (w.setCell ⟨p, z + 19 + 23, none⟩ (.int .i64 seen)) p z A B { t with value := seen } L) := R.tt.set 42 (by decide) _ rfl
  have HO2 : Hid (Only p w (w.setCell ⟨p, z + 19 + 23, none⟩ (.int .i64 seen))) := (Only.refl _ _).set
  clear R ok hbs ha hi hsr hs8 hs HB
  go_enter Tryz.func155, Tryz.ntmps155
  go_wp2_with fail
  refine (t_stripe p z A B { t with value := seen } L _ HB2.out HK.out).mono ?_
  rintro e w' ⟨rfl, n, rfl⟩
  go_wp2_with fail
  refine (t_version t.stripe _ HS8.out).mono ?_
  rintro e w3 ⟨rfl, rfl⟩
  go_wp2_with fail
  refine (t_load p z A B { t with value := seen } L 6 (hVer t.stripe) _ ((HB2.out).drewN _)).mono ?_
  rintro e w3 ⟨rfl, a1, a2⟩
  go_wp2
  go_end0
  have a3 := (HO2.out).trans (a2.quiet rfl rfl rfl rfl)
  exact ⟨rfl, L, (HR.out).next a1 a3 rfl rfl rfl rfl rfl rfl, Goes.only a3⟩
 ·rw [if_neg (by omega), if_neg (by omega), if_neg (by omega), if_pos hs]
  rw [hs] at h13
  clear R ok hbs ha hi hsr hs8 hs
  go_enter Tryz.func155, Tryz.ntmps155
  go_wp2_with fail
  refine (t_trust base p z A B t L _ HR.out HK.out HBS.out (HA.out).1 hm HI.out seen).mono ?_
  rintro e w1 ⟨rfl, L1, a1, a2⟩
  go_wp2
  go_end0
  exact ⟨rfl, L1, a1, a2⟩
set_option maxRecDepth 100000 in
set_option maxHeartbeats 8000000 in
theorem t_write (R : TR base p z A B w t L) (ok : TOk t) (hbs : base ≤ w.heap.size) (ha : 0 ≤ t.turn.addr ∧ t.turn.addr ≤ 100) :
  Calls Tryz.prog 209 #[.pointer (some ⟨p, z, none⟩)] w (Dids base p z A B (yWrite t) L w) := by
 have HR : Hid (TR base p z A B w t L) := R
 have HK : Hid (TOk t) := ok
 have HBS : Hid (base ≤ w.heap.size) := hbs
 have HSt : Hid (∀ w', TAt w' p z A B t L → Calls Tryz.prog 179 #[.pointer (some ⟨p, z, none⟩)] w' fun e w'' => e = .returned (.int .i64 t.stripe) ∧ ∃ n, w'' = w'.drewN n) := fun w' h => t_stripe p z A B t L w' h ok
 unfold yWrite
 cases hH : t.holds t.stripe with
 | true =>
  rw [if_pos rfl]
  have HHd : Hid (∀ w', TR base p z A B w' t L → Calls Tryz.prog 221 #[.pointer (some ⟨p, z + 19, none⟩), .int .i64 t.stripe] w' fun e w'' => e = .returned (.bool true) ∧ w'' = w') := fun w' h => by rw [← hH]; exact t_holds p z A B t L w' h.tt ok.hl (nums_at h.hd) t.stripe
  have HLg0 : ∀ w', TR base p z A B w' t L → base ≤ w'.heap.size → Calls Tryz.prog 217 #[.pointer (some ⟨p, z + 19, none⟩)] w' (Dids base p z A B (yLog t.turn.addr t.turn.val t) L w') := fun w' h hb => t_log base p z A B t L w' h ok hb
  obtain ⟨t1, ht1⟩ : ∃ t1, t1 = yLog t.turn.addr t.turn.val t := ⟨_, rfl⟩
  rw [← ht1] at HLg0 ⊢
  have HLg : Hid (∀ w', TR base p z A B w' t L → base ≤ w'.heap.size → Calls Tryz.prog 217 #[.pointer (some ⟨p, z + 19, none⟩)] w' (Dids base p z A B t1 L w')) := HLg0
  clear R ok hbs ha hH HLg0 ht1
  go_enter Tryz.func209, Tryz.ntmps209
  go_wp2_with fail
  refine (HSt.out _ (HR.out).tt).mono ?_
  rintro e w' ⟨rfl, n, rfl⟩
  go_wp2_with fail
  refine (HHd.out _ ((HR.out).drewN n)).mono ?_
  rintro e w' ⟨rfl, rfl⟩
  have HR2 : Hid (TR base p z A B (w.drewN n) t L) := (HR.out).drewN n
  have HO2 : Hid (Only p w (w.drewN n)) := (Only.refl _ _).drewN n
  have HBS2 : Hid (base ≤ (w.drewN n).heap.size) := HBS.out
  clear HR HBS
  generalize w.drewN n = w2 at *
  have k27 := (HR2.out).tt.cAddr
  have k28 := (HR2.out).tt.cVal
  go_wp2_with fail
  refine (HLg.out _ HR2.out HBS2.out).mono ?_
  rintro e w1 ⟨rfl, L1, R1, G1⟩
  have kf := R1.tt.froz
  have k13 := R1.tt.cStep
  have HR1 : Hid (TR base p z A B w1 t1 L1) := R1
  have HG1 : Hid (Goes p L w L1 w1) := (Goes.only HO2.out).trans G1
  clear R1 G1
  go_wp2
  refine bodyPost_ret (results_none rfl _ _ _) rfl ?_
  have hb2 := (HR1.out).tt.set (t' := { t1 with step := 1 }) 14 (by decide) (.int .i64 1) rfl
  exact ⟨rfl, L1, (HR1.out).next hb2 ((Only.refl _ _).set) rfl rfl rfl rfl rfl rfl, (HG1.out).trans (Goes.only ((Only.refl _ _).set))⟩
 | false =>
  rw [if_neg (by decide)]
  have HHd : Hid (∀ w', TR base p z A B w' t L → Calls Tryz.prog 221 #[.pointer (some ⟨p, z + 19, none⟩), .int .i64 t.stripe] w' fun e w'' => e = .returned (.bool false) ∧ w'' = w') := fun w' h => by rw [← hH]; exact t_holds p z A B t L w' h.tt ok.hl (nums_at h.hd) t.stripe
  clear R ok hbs ha hH
  go_enter Tryz.func209, Tryz.ntmps209
  go_wp2_with fail
  refine (HSt.out _ (HR.out).tt).mono ?_
  rintro e w' ⟨rfl, n, rfl⟩
  go_wp2_with fail
  refine (HHd.out _ ((HR.out).drewN n)).mono ?_
  rintro e w' ⟨rfl, rfl⟩
  go_wp2_with fail
  refine (t_get p z A B t L _ ((HR.out).drewN n).tt HK.out).mono ?_
  rintro e w1 ⟨rfl, a1, a2⟩
  go_wp2
  go_end0
  have a3 := a2.quiet (w := w) rfl rfl rfl rfl
  exact ⟨rfl, L, (HR.out).next a1 a3 rfl rfl rfl rfl rfl rfl, Goes.only a3⟩
set_option maxHeartbeats 2000000 in
theorem t_touch (R : TR base p z A B w t L) (ok : TOk t) (hbs : base ≤ w.heap.size) (ha : 0 ≤ t.turn.addr ∧ t.turn.addr ≤ 100) (hm : t.m.regs.length = 4) (hi : t.turn.op = 7 → 0 ≤ t.m.into ∧ t.m.into ≤ 3) :
  Calls Tryz.prog 167 #[.pointer (some ⟨p, z, none⟩)] w (Dids base p z A B (yTouch t) L w) := by
 have h26 := R.tt.cOp
 have HR : Hid (TR base p z A B w t L) := R
 have HK : Hid (TOk t) := ok
 have HBS : Hid (base ≤ w.heap.size) := hbs
 have HA : Hid (0 ≤ t.turn.addr ∧ t.turn.addr ≤ 100) := ha
 unfold yTouch
 by_cases ho : t.turn.op = 7
 ·rw [if_pos ho]
  rw [ho] at h26
  have HI : Hid (0 ≤ t.m.into ∧ t.m.into ≤ 3) := hi ho
  clear R ok hbs hi ho ha
  go_enter Tryz.func167, Tryz.ntmps167
  go_wp2_with fail
  refine (t_read base p z A B t L _ HR.out HK.out HBS.out HA.out hm HI.out).mono ?_
  rintro e w1 ⟨rfl, L1, a1, a2⟩
  go_wp2
  go_end0
  exact ⟨rfl, L1, a1, a2⟩
 ·rw [if_neg ho]
  have hob : (t.turn.op == 7) = false := by rw [beq_eq_false_iff_ne]; exact ho
  clear R ok hbs hi ho ha
  go_enter Tryz.func167, Tryz.ntmps167
  go_wp2_with fail
  refine (t_write base p z A B t L _ HR.out HK.out HBS.out HA.out).mono ?_
  rintro e w1 ⟨rfl, L1, a1, a2⟩
  go_wp2
  go_end0
  exact ⟨rfl, L1, a1, a2⟩
end
set_option maxHeartbeats 8000000 in
theorem z_compute_add (z : Nat) (T : TypeId) (A B : List Value) (p ka kb kc : Nat) (m : MS) (w : World) (hb : MAt w p z T A B m) (hl : m.regs.length = 4) (hr : ∀ v ∈ m.regs, 0 ≤ v ∧ v ≤ 65535) (hka : ka < 4) (hkb : kb < 4) (hkc : kc < 4) :
  Calls Tryz.prog 125 #[.pointer (some ⟨p, z, none⟩), .agg #[.int .i64 3, .int .i64 (ka : Int), .int .i64 (kb : Int), .int .i64 (kc : Int)]] w fun e w' => e = .returned (.tuple #[]) ∧ MAt w' p z T A B { m with regs := m.regs.set ka ((m.regs.getD kb 0 + m.regs.getD kc 0).tmod 65536) } ∧ Only p w w' := by
 have HB : Hid (MAt w p z T A B m) := hb
 have hlt := hb.lt
 have hvb : 0 ≤ m.regs.getD kb 0 ∧ m.regs.getD kb 0 ≤ 65535 := by
  rw [show m.regs.getD kb 0 = m.regs[kb]'(by omega) from by simp [List.getD, List.getElem?_eq_getElem (show kb < m.regs.length by omega)]]
  exact hr _ (List.getElem_mem _)
 have hvc : 0 ≤ m.regs.getD kc 0 ∧ m.regs.getD kc 0 ≤ 65535 := by
  rw [show m.regs.getD kc 0 = m.regs[kc]'(by omega) from by simp [List.getD, List.getElem?_eq_getElem (show kc < m.regs.length by omega)]]
  exact hr _ (List.getElem_mem _)
 have hka0 : (0 : Int) ≤ (ka : Int) := by omega
 have hka1 : (ka : Int) < 4 := by omega
 have hkb0 : (0 : Int) ≤ (kb : Int) := by omega
 have hkb1 : (kb : Int) < 4 := by omega
 have hkc0 : (0 : Int) ≤ (kc : Int) := by omega
 have hkc1 : (kc : Int) < 4 := by omega
 obtain ⟨ra, HRA⟩ : ∃ ra, Hid (m.regs.getD ka 0 = ra) := ⟨_, rfl⟩
 obtain ⟨rb, HRB⟩ : ∃ rb, Hid (m.regs.getD kb 0 = rb) := ⟨_, rfl⟩
 obtain ⟨rc, HRC⟩ : ∃ rc, Hid (m.regs.getD kc 0 = rc) := ⟨_, rfl⟩
 rw [show m.regs.getD kb 0 = rb from HRB.out] at hvb ⊢
 rw [show m.regs.getD kc 0 = rc from HRC.out] at hvc ⊢
 clear hb hr
 go_enter Tryz.func125, Tryz.ntmps125
 go_wp2_with fail
 obtain ⟨w0, hw0⟩ : ∃ w0, w0 = w.alloc (.cells (#[.int .i64 3, .int .i64 (ka : Int), .int .i64 (kb : Int), .int .i64 (kc : Int)] : Array Value) 110) := ⟨_, rfl⟩
 obtain ⟨ib, hib⟩ : ∃ ib, ib = w.heap.size := ⟨_, rfl⟩
 have hbi : Blk w0 ib 110 (#[.int .i64 3, .int .i64 (ka : Int), .int .i64 (kb : Int), .int .i64 (kc : Int)] : Array Value) := by rw [hw0, hib]; exact Blk.new w 110 _
 have hbp : MAt w0 p z T A B m := by rw [hw0]; exact (HB.out).alloc _
 have hne : ib ≠ p := by omega
 have HS0 : Hid (∀ j, w0.cell? ⟨ib, j, none⟩ = (#[.int .i64 3, .int .i64 (ka : Int), .int .i64 (kb : Int), .int .i64 (kc : Int)] : Array Value)[j]?) := hbi.cell
 have HS1 : Hid (∀ v : Value, ∀ j, (w0.setCell ⟨p, z + ka, none⟩ v).drew.cell? ⟨ib, j, none⟩ = (#[.int .i64 3, .int .i64 (ka : Int), .int .i64 (kb : Int), .int .i64 (kc : Int)] : Array Value)[j]?) := fun v => (hbi.only ((Only.refl _ _).set) hne).cell
 have hra := z_mArr_reg hbp ka hka
 have hrb := z_mArr_reg hbp kb hkb
 have hrc := z_mArr_reg hbp kc hkc
 have hf := hbp.frozen (z + ka)
 rw [show m.regs.getD ka 0 = ra from HRA.out] at hra
 rw [show m.regs.getD kb 0 = rb from HRB.out] at hrb
 rw [show m.regs.getD kc 0 = rc from HRC.out] at hrc
 have HF : Hid (MAt (w0.setCell ⟨p, z + ka, none⟩ (.int .i64 ((rb + rc).tmod 65536))) p z T A B { m with regs := m.regs.set ka ((rb + rc).tmod 65536) } ∧ Only p w (w0.setCell ⟨p, z + ka, none⟩ (.int .i64 ((rb + rc).tmod 65536)))) := by
  refine ⟨z_mArr_set hbp hl ka hka _, ?_⟩
  have : Only p w w0 := by rw [hw0]; exact Only.below ((Below.refl _ _).alloc (Nat.le_refl _) _)
  exact this.set
 have HV : Hid ((0 ≤ rb ∧ rb ≤ 65535) ∧ (0 ≤ rc ∧ rc ≤ 65535)) := ⟨hvb, hvc⟩
 rw [← hw0, ← hib]
 clear hw0 hib hlt hvb hvc hbi hbp hne
 clear HS1 HRA HRB HRC
 have hins := HS0.out
 clear HS0
 go_region_with (go_at_call 139; refine (sum_any _ _ _ (HV.out).1 (HV.out).2).mono ?_; rintro e w' ⟨rfl, rfl⟩)
 all_goals
  go_wp2
  go_end0
  exact ⟨rfl, (HF.out).1, (HF.out).2.drew⟩
set_option maxHeartbeats 8000000 in
theorem z_compute_sub (z : Nat) (T : TypeId) (A B : List Value) (p ka kb kc : Nat) (m : MS) (w : World) (hb : MAt w p z T A B m) (hl : m.regs.length = 4) (hr : ∀ v ∈ m.regs, 0 ≤ v ∧ v ≤ 65535) (hka : ka < 4) (hkb : kb < 4) (hkc : kc < 4) :
  Calls Tryz.prog 125 #[.pointer (some ⟨p, z, none⟩), .agg #[.int .i64 4, .int .i64 (ka : Int), .int .i64 (kb : Int), .int .i64 (kc : Int)]] w fun e w' => e = .returned (.tuple #[]) ∧ MAt w' p z T A B { m with regs := m.regs.set ka ((m.regs.getD kb 0 + 65535 + 1 - m.regs.getD kc 0).tmod 65536) } ∧ Only p w w' := by
 have HB : Hid (MAt w p z T A B m) := hb
 have hlt := hb.lt
 have hvb : 0 ≤ m.regs.getD kb 0 ∧ m.regs.getD kb 0 ≤ 65535 := by
  rw [show m.regs.getD kb 0 = m.regs[kb]'(by omega) from by simp [List.getD, List.getElem?_eq_getElem (show kb < m.regs.length by omega)]]
  exact hr _ (List.getElem_mem _)
 have hvc : 0 ≤ m.regs.getD kc 0 ∧ m.regs.getD kc 0 ≤ 65535 := by
  rw [show m.regs.getD kc 0 = m.regs[kc]'(by omega) from by simp [List.getD, List.getElem?_eq_getElem (show kc < m.regs.length by omega)]]
  exact hr _ (List.getElem_mem _)
 have hka0 : (0 : Int) ≤ (ka : Int) := by omega
 have hka1 : (ka : Int) < 4 := by omega
 have hkb0 : (0 : Int) ≤ (kb : Int) := by omega
 have hkb1 : (kb : Int) < 4 := by omega
 have hkc0 : (0 : Int) ≤ (kc : Int) := by omega
 have hkc1 : (kc : Int) < 4 := by omega
 obtain ⟨ra, HRA⟩ : ∃ ra, Hid (m.regs.getD ka 0 = ra) := ⟨_, rfl⟩
 obtain ⟨rb, HRB⟩ : ∃ rb, Hid (m.regs.getD kb 0 = rb) := ⟨_, rfl⟩
 obtain ⟨rc, HRC⟩ : ∃ rc, Hid (m.regs.getD kc 0 = rc) := ⟨_, rfl⟩
 rw [show m.regs.getD kb 0 = rb from HRB.out] at hvb ⊢
 rw [show m.regs.getD kc 0 = rc from HRC.out] at hvc ⊢
 clear hb hr
 go_enter Tryz.func125, Tryz.ntmps125
 go_wp2_with fail
 obtain ⟨w0, hw0⟩ : ∃ w0, w0 = w.alloc (.cells (#[.int .i64 4, .int .i64 (ka : Int), .int .i64 (kb : Int), .int .i64 (kc : Int)] : Array Value) 110) := ⟨_, rfl⟩
 obtain ⟨ib, hib⟩ : ∃ ib, ib = w.heap.size := ⟨_, rfl⟩
 have hbi : Blk w0 ib 110 (#[.int .i64 4, .int .i64 (ka : Int), .int .i64 (kb : Int), .int .i64 (kc : Int)] : Array Value) := by rw [hw0, hib]; exact Blk.new w 110 _
 have hbp : MAt w0 p z T A B m := by rw [hw0]; exact (HB.out).alloc _
 have hne : ib ≠ p := by omega
 have HS0 : Hid (∀ j, w0.cell? ⟨ib, j, none⟩ = (#[.int .i64 4, .int .i64 (ka : Int), .int .i64 (kb : Int), .int .i64 (kc : Int)] : Array Value)[j]?) := hbi.cell
 have HS1 : Hid (∀ v : Value, ∀ j, (w0.setCell ⟨p, z + ka, none⟩ v).drew.cell? ⟨ib, j, none⟩ = (#[.int .i64 4, .int .i64 (ka : Int), .int .i64 (kb : Int), .int .i64 (kc : Int)] : Array Value)[j]?) := fun v => (hbi.only ((Only.refl _ _).set) hne).cell
 have hra := z_mArr_reg hbp ka hka
 have hrb := z_mArr_reg hbp kb hkb
 have hrc := z_mArr_reg hbp kc hkc
 have hf := hbp.frozen (z + ka)
 rw [show m.regs.getD ka 0 = ra from HRA.out] at hra
 rw [show m.regs.getD kb 0 = rb from HRB.out] at hrb
 rw [show m.regs.getD kc 0 = rc from HRC.out] at hrc
 have HF : Hid (MAt (w0.setCell ⟨p, z + ka, none⟩ (.int .i64 ((rb + 65535 + 1 - rc).tmod 65536))) p z T A B { m with regs := m.regs.set ka ((rb + 65535 + 1 - rc).tmod 65536) } ∧ Only p w (w0.setCell ⟨p, z + ka, none⟩ (.int .i64 ((rb + 65535 + 1 - rc).tmod 65536)))) := by
  refine ⟨z_mArr_set hbp hl ka hka _, ?_⟩
  have : Only p w w0 := by rw [hw0]; exact Only.below ((Below.refl _ _).alloc (Nat.le_refl _) _)
  exact this.set
 have HV : Hid ((0 ≤ rb ∧ rb ≤ 65535) ∧ (0 ≤ rc ∧ rc ≤ 65535)) := ⟨hvb, hvc⟩
 rw [← hw0, ← hib]
 clear hw0 hib hlt hvb hvc hbi hbp hne
 clear HS1 HRA HRB HRC
 have hins := HS0.out
 clear HS0
 go_region_with (go_at_call 140; refine (diff_any _ _ _ (HV.out).1 (HV.out).2).mono ?_; rintro e w' ⟨rfl, rfl⟩)
 all_goals
  go_wp2
  go_end0
  exact ⟨rfl, (HF.out).1, (HF.out).2.drew⟩
set_option maxRecDepth 100000 in
set_option maxHeartbeats 8000000 in
theorem z_word_read (z : Nat) (T : TypeId) (A B : List Value) (p ka kb : Nat) (m : MS) (c wd : Int) (w : World) (hb : MAt w p z T A B m) (hkb : kb < 4) (hw1 : 1 ≤ wd) (hw2 : wd ≤ 8) :
  Calls Tryz.prog 124 #[.pointer (some ⟨p, z, none⟩), .agg #[.int .i64 7, .int .i64 (ka : Int), .int .i64 (kb : Int), .int .i64 c], .int .i64 wd] w fun e w' =>
   e = .returned (.agg (if inB (m.regs.getD kb 0) 0 (wd - 1) then #[.int .i64 0, .int .i64 7, .int .i64 (m.regs.getD kb 0), .int .i64 0] else #[.int .i64 3, .int .i64 0, .int .i64 0, .int .i64 0])) ∧
    MAt w' p z T A B { m with into := ka } ∧ Only p w w' := by
 have HB : Hid (MAt w p z T A B m) := hb
 have h6 : w.cell? ⟨p, z + 6, none⟩ = some (.int .i64 m.into) := hb.c6
 have hf := hb.frozen (z + 6)
 have hrb := z_mArr_reg hb kb hkb
 have hlt := hb.lt
 have hlt1 : p < w.heap.size + 1 := by omega
 have hlt2 : p < w.heap.size + 1 + 1 := by omega
 have hlt3 : p < w.heap.size + 2 := by omega
 have hkb0 : (0 : Int) ≤ (kb : Int) := by omega
 have hkb1 : (kb : Int) < 4 := by omega
 have hww : IntKind.i64.wrap (wd - 1) = wd - 1 := wrapP _ (by omega) (by omega)
 clear hb
 generalize m.regs.getD kb 0 = rb at *
 cases hin : inB rb 0 (wd - 1) with
 | true =>
  go_enter Tryz.func124, Tryz.ntmps124
  go_wp2_with fail
  go_region
  all_goals
   go_wp2_with (go_at_call 110; refine (within_any _ _ _ _).mono ?_; rintro e w' ⟨rfl, hw'⟩; rw [hin]; subst hw')
   refine bodyPost_ret (v := .agg #[.int .i64 0, .int .i64 7, .int .i64 rb, .int .i64 0]) (by simp [results, Tryz.results124, go_sem]) rfl ⟨rfl, ?_, ?_⟩
   ·exact ((((HB.out).into (ka : Int)).alloc _).alloc _).alloc _
   ·exact ((((Only.refl _ _).set).trans (Only.below ((((Below.refl _ _).alloc (Nat.le_refl _) _).alloc (by simp) _).alloc (by simp; omega) _)))).drew
 | false =>
  go_enter Tryz.func124, Tryz.ntmps124
  go_wp2_with fail
  go_region
  all_goals
   go_wp2_with (go_at_call 110; refine (within_any _ _ _ _).mono ?_; rintro e w' ⟨rfl, hw'⟩; rw [hin]; subst hw')
   refine bodyPost_ret (v := .agg #[.int .i64 3, .int .i64 0, .int .i64 0, .int .i64 0]) (by simp [results, Tryz.results124, go_sem]) rfl ⟨rfl, ?_, ?_⟩
   ·exact ((((HB.out).into (ka : Int)).alloc _).alloc _).alloc _
   ·exact ((((Only.refl _ _).set).trans (Only.below ((((Below.refl _ _).alloc (Nat.le_refl _) _).alloc (by simp) _).alloc (by simp; omega) _)))).drew
set_option maxRecDepth 100000 in
set_option maxHeartbeats 8000000 in
theorem z_word_write (z : Nat) (T : TypeId) (A B : List Value) (p ka kb : Nat) (m : MS) (c wd : Int) (w : World) (hb : MAt w p z T A B m) (hka : ka < 4) (hkb : kb < 4) (hw1 : 1 ≤ wd) (hw2 : wd ≤ 8) :
  Calls Tryz.prog 124 #[.pointer (some ⟨p, z, none⟩), .agg #[.int .i64 8, .int .i64 (ka : Int), .int .i64 (kb : Int), .int .i64 c], .int .i64 wd] w fun e w' =>
   e = .returned (.agg (if inB (m.regs.getD ka 0) 0 (wd - 1) then #[.int .i64 0, .int .i64 8, .int .i64 (m.regs.getD ka 0), .int .i64 (m.regs.getD kb 0)] else #[.int .i64 3, .int .i64 0, .int .i64 0, .int .i64 0])) ∧
    MAt w' p z T A B m ∧ Only p w w' := by
 have HB : Hid (MAt w p z T A B m) := hb
 have hra := z_mArr_reg hb ka hka
 have hrb := z_mArr_reg hb kb hkb
 have hlt := hb.lt
 have hlt1 : p < w.heap.size + 1 := by omega
 have hlt2 : p < w.heap.size + 1 + 1 := by omega
 have hlt3 : p < w.heap.size + 2 := by omega
 have hka0 : (0 : Int) ≤ (ka : Int) := by omega
 have hka1 : (ka : Int) < 4 := by omega
 have hkb0 : (0 : Int) ≤ (kb : Int) := by omega
 have hkb1 : (kb : Int) < 4 := by omega
 have hww : IntKind.i64.wrap (wd - 1) = wd - 1 := wrapP _ (by omega) (by omega)
 clear hb
 generalize m.regs.getD ka 0 = ra at *
 generalize m.regs.getD kb 0 = rb at *
 cases hin : inB ra 0 (wd - 1) with
 | true =>
  go_enter Tryz.func124, Tryz.ntmps124
  go_wp2_with fail
  go_region
  all_goals
   go_wp2_with fail
   go_region
   all_goals
    go_wp2_with (go_at_call 110; refine (within_any _ _ _ _).mono ?_; rintro e w' ⟨rfl, hw'⟩; rw [hin]; subst hw')
    refine bodyPost_ret (v := .agg #[.int .i64 0, .int .i64 8, .int .i64 ra, .int .i64 rb]) (by simp [results, Tryz.results124, go_sem]) rfl ⟨rfl, ?_, ?_⟩
    ·exact ((((HB.out).alloc _).alloc _).alloc _)
    ·exact (((Only.below ((((Below.refl _ _).alloc (Nat.le_refl _) _).alloc (by simp) _).alloc (by simp; omega) _)))).drew.drew
 | false =>
  go_enter Tryz.func124, Tryz.ntmps124
  go_wp2_with fail
  go_region
  all_goals
   go_wp2_with fail
   go_region
   all_goals
    go_wp2_with (go_at_call 110; refine (within_any _ _ _ _).mono ?_; rintro e w' ⟨rfl, hw'⟩; rw [hin]; subst hw')
    refine bodyPost_ret (v := .agg #[.int .i64 3, .int .i64 0, .int .i64 0, .int .i64 0]) (by simp [results, Tryz.results124, go_sem]) rfl ⟨rfl, ?_, ?_⟩
    ·exact ((((HB.out).alloc _).alloc _).alloc _)
    ·exact (((Only.below ((((Below.refl _ _).alloc (Nat.le_refl _) _).alloc (by simp) _).alloc (by simp; omega) _)))).drew.drew
theorem z_compute_any (z : Nat) (T : TypeId) (A B : List Value) (p : Nat) (m : MS) (i : InsD) (n : Int) (w : World) (hb : MAt w p z T A B m) (hm : MOk m) (hf : formedB i n = true) (ho : 2 ≤ i.op ∧ i.op ≤ 6) :
  Calls Tryz.prog 125 #[.pointer (some ⟨p, z, none⟩), .agg #[.int .i64 i.op, .int .i64 i.a, .int .i64 i.b, .int .i64 i.c]] w fun e w' => e = .returned (.tuple #[]) ∧ MAt w' p z T A B (pComp m i) ∧ Only p w w' := by
 obtain ⟨op, a, b, c⟩ := i
 simp only at ho
 by_cases o2 : op = 2
 ·subst o2
  obtain ⟨⟨a0, a1⟩, _⟩ := formed2 hf rfl
  obtain ⟨ka, rfl⟩ := Int.eq_ofNat_of_zero_le a0
  exact z_compute_set z T A B p ka m b c w hb hm.1 (by simp only at a1; omega)
 by_cases o3 : op = 3
 ·subst o3
  obtain ⟨⟨a0, a1⟩, ⟨b0, b1⟩, ⟨c0, c1⟩⟩ := formed34 hf (Or.inl rfl)
  obtain ⟨ka, rfl⟩ := Int.eq_ofNat_of_zero_le a0
  obtain ⟨kb, rfl⟩ := Int.eq_ofNat_of_zero_le b0
  obtain ⟨kc, rfl⟩ := Int.eq_ofNat_of_zero_le c0
  exact z_compute_add z T A B p ka kb kc m w hb hm.1 hm.2 (by simp only at a1; omega) (by simp only at b1; omega) (by simp only at c1; omega)
 by_cases o4 : op = 4
 ·subst o4
  obtain ⟨⟨a0, a1⟩, ⟨b0, b1⟩, ⟨c0, c1⟩⟩ := formed34 hf (Or.inr rfl)
  obtain ⟨ka, rfl⟩ := Int.eq_ofNat_of_zero_le a0
  obtain ⟨kb, rfl⟩ := Int.eq_ofNat_of_zero_le b0
  obtain ⟨kc, rfl⟩ := Int.eq_ofNat_of_zero_le c0
  exact z_compute_sub z T A B p ka kb kc m w hb hm.1 hm.2 (by simp only at a1; omega) (by simp only at b1; omega) (by simp only at c1; omega)
 by_cases o5 : op = 5
 ·subst o5
  obtain ⟨c0, c1⟩ := formed5 hf rfl
  obtain ⟨kc, rfl⟩ := Int.eq_ofNat_of_zero_le c0
  exact z_compute_jump z T A B p kc m a b w hb
 ·have o6 : op = 6 := by omega
  subst o6
  obtain ⟨⟨a0, a1⟩, ⟨b0, b1⟩, ⟨c0, c1⟩⟩ := formed6 hf rfl
  obtain ⟨ka, rfl⟩ := Int.eq_ofNat_of_zero_le a0
  obtain ⟨kb, rfl⟩ := Int.eq_ofNat_of_zero_le b0
  obtain ⟨kc, rfl⟩ := Int.eq_ofNat_of_zero_le c0
  exact z_compute_less z T A B p ka kb kc m w hb (by simp only at a1; omega) (by simp only at b1; omega)
theorem z_word_any (z : Nat) (T : TypeId) (A B : List Value) (p : Nat) (m : MS) (i : InsD) (n wd : Int) (w : World) (hb : MAt w p z T A B m) (hf : formedB i n = true) (ho : i.op = 7 ∨ i.op = 8) (hw1 : 1 ≤ wd) (hw2 : wd ≤ 8) :
  Calls Tryz.prog 124 #[.pointer (some ⟨p, z, none⟩), .agg #[.int .i64 i.op, .int .i64 i.a, .int .i64 i.b, .int .i64 i.c], .int .i64 wd] w fun e w' => e = .returned (.agg (turnCells (pWord wd m i).1)) ∧ MAt w' p z T A B (pWord wd m i).2 ∧ Only p w w' := by
 obtain ⟨op, a, b, c⟩ := i
 obtain ⟨⟨a0, a1⟩, ⟨b0, b1⟩⟩ := formed78 hf ho
 obtain ⟨ka, rfl⟩ := Int.eq_ofNat_of_zero_le a0
 obtain ⟨kb, rfl⟩ := Int.eq_ofNat_of_zero_le b0
 simp only at ho a1 b1
 rcases ho with rfl | rfl
 ·refine (z_word_read z T A B p ka kb m c wd w hb (by omega) hw1 hw2).mono ?_
  rintro e w' ⟨rfl, h1, h2⟩
  refine ⟨?_, h1, h2⟩
  unfold pWord turnCells mReg
  simp only [if_true, Int.toNat_natCast]
  split <;> rfl
 ·refine (z_word_write z T A B p ka kb m c wd w hb (by omega) (by omega) hw1 hw2).mono ?_
  rintro e w' ⟨rfl, h1, h2⟩
  have e : pWord wd m ⟨8, (ka : Int), (kb : Int), c⟩ = ((if inB (m.regs.getD ka 0) 0 (wd - 1) then ⟨0, 8, m.regs.getD ka 0, m.regs.getD kb 0⟩ else ⟨3, 0, 0, 0⟩), m) := if_neg (by simp)
  rw [e]
  refine ⟨?_, h1, h2⟩
  by_cases hin : inB (m.regs.getD ka 0) 0 (wd - 1) = true
  ·simp only [hin, if_true]
   rfl
  ·simp only [hin]
   rfl
end Go.Proofs.YtejadojilncbjabGreat
