import Derived.Test.YtejadojilncbjaaGreatG27
import Derived.Test.YtejadojilncbjaaGreatG21
namespace Go.Proofs.YtejadojilncbjaaGreat
open Go.RowKit
set_option linter.unusedVariables false
attribute [local go_sem ↓] Go.wp_at_zero Go.wp_at_succ
theorem yCheckN_off {n : Nat} {t : PT} (h : t.clock = t.valid ∨ n = 0) : yCheckN n t = yShut { t with at_ := 0 } := by
 cases n with
 | zero => rfl
 | succ n =>
  rcases h with h | h
  ·unfold yCheckN; rw [if_neg (fun q => q h)]
  ·cases h
theorem yCheckN_on {n : Nat} {t : PT} (h : t.clock ≠ t.valid) : yCheckN (n + 1) t = if t.holds (t.reads.getD t.at_ ⟨0, 0⟩).what then yCheckN n { t with at_ := t.at_ + 1 } else yLoad 19 (hVer (t.reads.getD t.at_ ⟨0, 0⟩).what) t := by
 conv => lhs; unfold yCheckN
 rw [if_pos h]
section
variable (base p z : Nat) (A B : List Value) (t : PT) (L : Ls) (w : World)
set_option maxHeartbeats 8000000 in
theorem t_check (R : TR base p z A B w t L) (ok : TOk t) (hcl : -1 ≤ t.clock ∧ t.clock ≤ 2 ^ 50) (hat : t.at_ ≤ t.reads.length) : Calls Tryz.prog 141 #[.pointer (some ⟨p, z, none⟩)] w (DidT p z A B (yCheck t) L w) := by
 have HR : Hid (TR base p z A B w t L) := R
 have HK : Hid (TOk t) := ok
 have HC : Hid (-1 ≤ t.clock ∧ t.clock ≤ 2 ^ 50) := hcl
 unfold yCheck
 obtain ⟨RR, HRR⟩ : ∃ RR, Hid (yCheckN (t.reads.length - t.at_) t = RR) := ⟨_, rfl⟩
 rw [show yCheckN (t.reads.length - t.at_) t = RR from HRR.out]
 have hrl := ok.rl
 clear R ok hcl
 go_enter Tryz.func141, Tryz.ntmps141
 go_wp2_with fail
 go_loopg [3] (t.reads.length + 1) (fun m t3 wr => ∃ k : Nat, k ≤ t.reads.length ∧ t.reads.length + 1 ≤ m + k ∧ Hid (yCheckN (t.reads.length - k) { t with at_ := k } = RR) ∧ Hid (TR base p z A B wr { t with at_ := k } L) ∧ Hid (Only p w wr))
 case atStart => exact ⟨t.at_, hat, by omega, HRR, HR, Only.refl _ _⟩
 case round =>
  obtain ⟨k, hk, hgk, HY, HRk, HOk⟩ := hrel
  have h37 : wr.cell? ⟨p, z + 19 + 26, none⟩ = some (.int .i64 t.clock) := (HRk.out).tt.cClock
  have h29 : wr.cell? ⟨p, z + 19 + 4, none⟩ = some (.int .i64 t.valid) := (HRk.out).tt.cValid
  have h38 : wr.cell? ⟨p, z + 19 + 27, none⟩ = some (.int .i64 (k : Int)) := (HRk.out).tt.cAt
  have h30 : wr.cell? ⟨p, z + 19 + 19, none⟩ = some (.slice L.ra t.reads.length L.rc) := (HRk.out).tt.cReads
  have hf : ∀ i, wr.frozen? ⟨p, i, none⟩ = false := (HRk.out).tt.froz
  by_cases hcv : t.clock = t.valid ∨ ¬ k < t.reads.length
  ·have HF : Hid (RR = yShut { t with at_ := 0 }) := by
    show RR = _
    rw [← show yCheckN (t.reads.length - k) { t with at_ := k } = RR from HY.out]
    exact yCheckN_off (t := { t with at_ := k }) (hcv.imp id (fun q => by omega))
   have hb1 : ∀ n, TAt ((wr.drewN n).setCell ⟨p, z + 19 + 27, none⟩ (.int .i64 0)) p z A B { t with at_ := 0 } L := fun n => ((HRk.out).tt.drewN n).set 46 (by decide) _ rfl
   have hO1 : ∀ n, Only p wr ((wr.drewN n).setCell ⟨p, z + 19 + 27, none⟩ (.int .i64 0)) := fun n => ((Only.refl _ _).drewN n).set
   have HR1 : Hid (∀ n, TR base p z A B ((wr.drewN n).setCell ⟨p, z + 19 + 27, none⟩ (.int .i64 0)) { t with at_ := 0 } L) := fun n => (HRk.out).next (hb1 n) (hO1 n) rfl rfl rfl rfl rfl rfl
   have HO1 : Hid (∀ n, Only p wr ((wr.drewN n).setCell ⟨p, z + 19 + 27, none⟩ (.int .i64 0))) := hO1
   have HD : Hid (∀ e w', DidT p z A B (yShut { t with at_ := 0 }) L w e w' → DidT p z A B RR L w e w') := fun e w' h => by rw [HF.out]; exact h
   clear hb1 hO1 HY HRR HR
   by_cases hce : t.clock = t.valid
   ·have hcb : (t.clock != t.valid) = false := by simp [hce]
    have hcb2 : (t.clock == t.valid) = true := by simp [hce]
    clear hcv
    go_wp2_with fail
    go_quiet (fail)
    go_wp2_with fail
    refine (t_shut base p z A B { t with at_ := 0 } L _ ((HR1.out) _) HK.out HC.out).mono ?_
    rintro e w2 ⟨rfl, a1, a2⟩
    go_wp2
    go_end0
    exact HD.out _ _ ⟨rfl, a1, (HOk.out).trans (((HO1.out) _).trans a2)⟩
   ·have hcb : (t.clock != t.valid) = true := by simpa using hce
    have hcb2 : (t.clock == t.valid) = false := by simpa using hce
    have hkl : ¬ ((k : Int) < (t.reads.length : Int)) := by
     rcases hcv with q | q
     ·exact absurd q hce
     ·omega
    clear hcv
    go_wp2_with fail
    go_quiet (fail)
    go_wp2_with fail
    refine (t_shut base p z A B { t with at_ := 0 } L _ ((HR1.out) _) HK.out HC.out).mono ?_
    rintro e w2 ⟨rfl, a1, a2⟩
    go_wp2
    go_end0
    exact HD.out _ _ ⟨rfl, a1, (HOk.out).trans (((HO1.out) _).trans a2)⟩
  ·have hce : t.clock ≠ t.valid := fun q => hcv (Or.inl q)
   have hlt : k < t.reads.length := Decidable.byContradiction fun q => hcv (Or.inr q)
   have hcb : (t.clock != t.valid) = true := by simpa using hce
   have hcb2 : (t.clock == t.valid) = false := by simpa using hce
   have hkl : (k : Int) < (t.reads.length : Int) := by omega
   have hk0 : (0 : Int) ≤ (k : Int) := by omega
   obtain ⟨g, hg, hg1, hg2, _⟩ := ents_at (HRk.out).rd k hlt
   rw [show L.ra = some ⟨g, 0, none⟩ from hg] at h30
   have hm : t.reads.getD k ⟨0, 0⟩ ∈ t.reads := by rw [show t.reads.getD k ⟨0, 0⟩ = t.reads[k] from by simp [List.getD, List.getElem?_eq_getElem hlt]]; exact List.getElem_mem hlt
   have hsr := (HK.out).rd _ hm
   have hs8 := (HK.out).cb.2.2.1
   obtain ⟨s, hs⟩ : ∃ s, s = (t.reads.getD k ⟨0, 0⟩).what := ⟨_, rfl⟩
   have hg1' : wr.cell? ⟨g, k * 2, none⟩ = some (.int .i64 s) := by rw [hs]; exact hg1
   rw [← hs] at hsr
   have HS8 : Hid (0 ≤ s ∧ s ≤ 100) := ⟨hsr.1, by omega⟩
   have HY2 : Hid ((if t.holds s then yCheckN (t.reads.length - (k + 1)) { t with at_ := k + 1 } else yLoad 19 (hVer s) { t with at_ := k }) = RR) := by
    show _ = RR
    rw [← show yCheckN (t.reads.length - k) { t with at_ := k } = RR from HY.out, show t.reads.length - k = (t.reads.length - (k + 1)) + 1 from by omega, yCheckN_on (t := { t with at_ := k }) hce, hs]
    rfl
   have hwk : IntKind.i64.wrap ((k : Int) + 1) = ((k + 1 : Nat) : Int) := by rw [wrapP _ (by omega) (by omega)]; omega
   have HH : Hid (∀ n, Calls Tryz.prog 169 #[.pointer (some ⟨p, z + 19, none⟩), .int .i64 s] (wr.drewN n) fun e w' => e = .returned (.bool (t.holds s)) ∧ w' = wr.drewN n) := fun n =>
    t_holds p z A B { t with at_ := k } L (wr.drewN n) ((HRk.out).tt.drewN n) (HK.out).hl (nums_at ((HRk.out).drewN n).hd) s
   clear hg1 hg2 hm hsr hs8 hs hcv HY HRR HR hg
   cases hhb : t.holds s with
   | true =>
    rw [hhb] at HH
    have HY3 : Hid (yCheckN (t.reads.length - (k + 1)) { t with at_ := k + 1 } = RR) := by
     have := HY2.out
     rw [hhb] at this
     exact this
    have hb1 : ∀ n, TAt ((wr.drewN n).setCell ⟨p, z + 19 + 27, none⟩ (.int .i64 ((k + 1 : Nat) : Int))) p z A B { t with at_ := k + 1 } L := fun n => ((HRk.out).tt.drewN n).set 46 (by decide) _ rfl
    have hO1 : ∀ n, Only p wr ((wr.drewN n).setCell ⟨p, z + 19 + 27, none⟩ (.int .i64 ((k + 1 : Nat) : Int))) := fun n => ((Only.refl _ _).drewN n).set
    have HR1 : Hid (∀ n, TR base p z A B ((wr.drewN n).setCell ⟨p, z + 19 + 27, none⟩ (.int .i64 ((k + 1 : Nat) : Int))) { t with at_ := k + 1 } L) := fun n => (HRk.out).next (hb1 n) (hO1 n) rfl rfl rfl rfl rfl rfl
    have HO1 : Hid (∀ n, Only p wr ((wr.drewN n).setCell ⟨p, z + 19 + 27, none⟩ (.int .i64 ((k + 1 : Nat) : Int)))) := hO1
    clear hb1 hO1 HY2
    go_wp2_with fail
    go_quiet (fail)
    go_wp2_with fail
    go_quiet (fail)
    go_wp2_with fail
    refine ((HH.out) _).mono ?_
    rintro e w1 ⟨rfl, rfl⟩
    go_wp2_with fail
    go_roundg (gk - 1)
    case rel => exact ⟨k + 1, by omega, by omega, HY3, (HR1.out) _, (HOk.out).trans ((HO1.out) _)⟩
    case measure => omega
   | false =>
    rw [hhb] at HH
    have HF : Hid (RR = yLoad 19 (hVer s) { t with at_ := k }) := by
     have := HY2.out
     rw [hhb] at this
     exact this.symm
    have HD : Hid (∀ e w', DidT p z A B (yLoad 19 (hVer s) { t with at_ := k }) L w e w' → DidT p z A B RR L w e w') := fun e w' h => by rw [HF.out]; exact h
    clear HY2
    go_wp2_with fail
    go_quiet (fail)
    go_wp2_with fail
    go_quiet (fail)
    go_wp2_with fail
    refine ((HH.out) _).mono ?_
    rintro e w1 ⟨rfl, rfl⟩
    go_wp2_with fail
    refine (t_version s _ HS8.out).mono ?_
    rintro e w1 ⟨rfl, rfl⟩
    go_wp2_with fail
    refine (t_load p z A B { t with at_ := k } L 19 (hVer s) _ ((HRk.out).tt.drewN _)).mono ?_
    rintro e w2 ⟨rfl, a1, a2⟩
    go_wp2
    refine bodyPost_ret (results_none rfl _ _ _) rfl ?_
    exact HD.out _ _ ⟨rfl, a1, (HOk.out).trans (((Only.refl _ _).drewN _).trans a2)⟩
end
section
variable (base p z : Nat) (A B : List Value) (t : PT) (L : Ls) (w : World)
set_option maxHeartbeats 4000000 in
theorem t_followCommit (R : TR base p z A B w t L) (ok : TOk t) (hfl : t.fails + 1 ≤ 2 ^ 40) (seen : Int) (hsn : -1 ≤ seen ∧ seen ≤ 2 ^ 50) (hcl : -1 ≤ t.clock ∧ t.clock ≤ 2 ^ 50)
  (hs : t.step = 19 ∨ False) (hat : t.step = 19 → t.at_ < t.reads.length) :
  Calls Tryz.prog 109 #[.pointer (some ⟨p, z, none⟩), .int .i64 seen] w (DidT p z A B (yFollowCommit seen t) L w) := by
 have hb := R.tt
 have h13 := hb.cStep
 have h38 := hb.cAt
 have h37 := hb.cClock
 have hf := hb.froz
 have HR : Hid (TR base p z A B w t L) := R
 have HB : Hid (TAt w p z A B t L) := hb
 have HK : Hid (TOk t) := ok
 have HF : Hid (t.fails + 1 ≤ 2 ^ 40) := hfl
 have HC : Hid (-1 ≤ t.clock ∧ t.clock ≤ 2 ^ 50) := hcl
 have HS : Hid (-1 ≤ seen ∧ seen ≤ 2 ^ 50) := hsn
 unfold yFollowCommit
 rcases hs with hs | hs
 ·rw [if_neg (by omega), if_neg (by omega), if_neg (by omega), if_pos hs]
  have hlt := hat hs
  rw [hs] at h13
  have h30 := hb.cReads
  have hrl := ok.rl
  obtain ⟨g, hg, hg1, hg2, _⟩ := ents_at R.rd t.at_ hlt
  rw [hg] at h30
  have hkl : (t.at_ : Int) < (t.reads.length : Int) := by omega
  have hk0 : (0 : Int) ≤ (t.at_ : Int) := by omega
  obtain ⟨v, hv⟩ : ∃ v, v = (t.reads.getD t.at_ ⟨0, 0⟩).val := ⟨_, rfl⟩
  rw [← hv] at hg2 ⊢
  have hwk : IntKind.i64.wrap ((t.at_ : Int) + 1) = ((t.at_ + 1 : Nat) : Int) := by rw [wrapP _ (by omega) (by omega)]; omega
  by_cases hm : seen = v
  ·rw [if_neg (fun q => q hm)]
   have hmb : (seen != v) = false := by simp [hm]
   have hmb2 : (seen == v) = true := by simp [hm]
   have hb1 : ∀ n, TAt ((w.drewN n).setCell ⟨p, z + 19 + 27, none⟩ (.int .i64 ((t.at_ + 1 : Nat) : Int))) p z A B { t with at_ := t.at_ + 1 } L := fun n => (hb.drewN n).set 46 (by decide) _ rfl
   have hO1 : ∀ n, Only p w ((w.drewN n).setCell ⟨p, z + 19 + 27, none⟩ (.int .i64 ((t.at_ + 1 : Nat) : Int))) := fun n => ((Only.refl _ _).drewN n).set
   have HR1 : Hid (∀ n, TR base p z A B ((w.drewN n).setCell ⟨p, z + 19 + 27, none⟩ (.int .i64 ((t.at_ + 1 : Nat) : Int))) { t with at_ := t.at_ + 1 } L) := fun n => R.next (hb1 n) (hO1 n) rfl rfl rfl rfl rfl rfl
   have HO1 : Hid (∀ n, Only p w ((w.drewN n).setCell ⟨p, z + 19 + 27, none⟩ (.int .i64 ((t.at_ + 1 : Nat) : Int)))) := hO1
   have HL : Hid (t.at_ + 1 ≤ t.reads.length) := hlt
   clear hb ok R hfl hs hat hcl hsn hb1 hO1 HR HB hg1 hlt hrl hg hv h37 hm
   go_enter Tryz.func109, Tryz.ntmps109
   go_wp2_with fail
   go_quiet (fail)
   go_wp2_with fail
   refine (t_check base p z A B { t with at_ := t.at_ + 1 } L _ (HR1.out _) HK.out HC.out HL.out).mono ?_
   rintro e w1 ⟨rfl, a1, a2⟩
   go_wp2
   go_end0
   exact ⟨rfl, a1, (HO1.out _).trans a2⟩
  ·rw [if_pos hm]
   have hmb : (seen != v) = true := by simpa using hm
   have hmb2 : (seen == v) = false := by simpa using hm
   clear hb ok R hfl hs hat hcl hsn HR hg1 hlt hrl hg hv h37 hm
   go_enter Tryz.func109, Tryz.ntmps109
   go_wp2_with fail
   go_quiet (fail)
   go_wp2_with fail
   refine (t_failGate p z A B t L _ (by exact HB.out)).mono ?_
   rintro e w1 ⟨rfl, a1, a2⟩
   go_wp2
   refine bodyPost_ret (results_none rfl _ _ _) rfl ?_
   exact ⟨rfl, a1, a2.quiet rfl rfl rfl rfl⟩
 ·exact hs.elim
set_option maxHeartbeats 4000000 in
theorem t_followStore (R : TR base p z A B w t L) (ok : TOk t) (hcl : -1 ≤ t.clock ∧ t.clock ≤ 2 ^ 50)
  (hs : t.step = 20 ∨ t.step = 23 ∨ t.step = 24 ∨ t.step = 25) (hat : t.at_ ≤ 1000) (hat2 : t.step = 24 → t.at_ < t.held.length) :
  Calls Tryz.prog 110 #[.pointer (some ⟨p, z, none⟩)] w (DidT p z A B (yFollowStore t) L w) := by
 have hb := R.tt
 have h13 := hb.cStep
 have h38 := hb.cAt
 have hf := hb.froz
 have HB : Hid (TAt w p z A B t L) := hb
 have HK : Hid (TOk t) := ok
 have HC : Hid (-1 ≤ t.clock ∧ t.clock ≤ 2 ^ 50) := hcl
 have hwk : IntKind.i64.wrap ((t.at_ : Int) + 1) = ((t.at_ + 1 : Nat) : Int) := by rw [wrapP _ (by omega) (by omega)]; omega
 have hb1 : TAt (w.setCell ⟨p, z + 19 + 27, none⟩ (.int .i64 ((t.at_ + 1 : Nat) : Int))) p z A B { t with at_ := t.at_ + 1 } L := hb.set 46 (by decide) _ rfl
 have hO1 : Only p w (w.setCell ⟨p, z + 19 + 27, none⟩ (.int .i64 ((t.at_ + 1 : Nat) : Int))) := (Only.refl _ _).set
 have HR1 : Hid (TR base p z A B (w.setCell ⟨p, z + 19 + 27, none⟩ (.int .i64 ((t.at_ + 1 : Nat) : Int))) { t with at_ := t.at_ + 1 } L) := R.next hb1 hO1 rfl rfl rfl rfl rfl rfl
 have HO1 : Hid (Only p w (w.setCell ⟨p, z + 19 + 27, none⟩ (.int .i64 ((t.at_ + 1 : Nat) : Int)))) := hO1
 unfold yFollowStore
 rcases hs with hs | hs | hs | hs
 ·rw [if_pos hs]
  rw [hs] at h13
  clear hb ok R hs hat hat2 hcl hb1 hO1
  go_enter Tryz.func110, Tryz.ntmps110
  go_wp2_with fail
  refine (t_shut base p z A B { t with at_ := t.at_ + 1 } L _ HR1.out HK.out HC.out).mono ?_
  rintro e w1 ⟨rfl, a1, a2⟩
  go_wp2
  go_end0
  exact ⟨rfl, a1, (HO1.out).trans a2⟩
 ·rw [if_neg (by omega), if_neg (by omega), if_neg (by omega), if_pos hs]
  rw [hs] at h13
  clear hb ok R hs hat hat2 hcl hb1 hO1
  go_enter Tryz.func110, Tryz.ntmps110
  go_wp2_with fail
  refine (t_put base p z A B { t with at_ := t.at_ + 1 } L _ HR1.out HK.out HC.out).mono ?_
  rintro e w1 ⟨rfl, a1, a2⟩
  go_wp2
  go_end0
  exact ⟨rfl, a1, (HO1.out).trans a2⟩
 ·rw [if_neg (by omega), if_neg (by omega), if_neg (by omega), if_neg (by omega), if_pos hs]
  have hlt := hat2 hs
  rw [hs] at h13
  have h32 := hb.cHeld
  have h0 := hb.cT
  have h1 := hb.cWd
  have h2 := hb.cS
  have h3 := hb.cG
  have h4 := hb.cR
  have h5 := hb.cCp
  have h6 := hb.cF
  obtain ⟨g, hg, hgc⟩ := nums_at R.hd t.at_ hlt
  rw [hg] at h32
  have hm : t.held.getD t.at_ 0 ∈ t.held := by rw [show t.held.getD t.at_ 0 = t.held[t.at_] from by simp [List.getD, List.getElem?_eq_getElem hlt]]; exact List.getElem_mem hlt
  have hsr := ok.hd _ hm
  have hs8 := ok.cb.2.2.1
  have hkl : (t.at_ : Int) < (t.held.length : Int) := by omega
  have hk0 : (0 : Int) ≤ (t.at_ : Int) := by omega
  obtain ⟨s, hse⟩ : ∃ s, s = t.held.getD t.at_ 0 := ⟨_, rfl⟩
  rw [← hse] at hgc hsr ⊢
  have HS8 : Hid (0 ≤ s ∧ s ≤ 100) := ⟨hsr.1, by omega⟩
  clear hb ok R hs hat hat2 hcl hb1 hO1 HR1 HO1 hm hsr hs8 hse hlt hwk
  go_enter Tryz.func110, Tryz.ntmps110
  go_wp2_with fail
  go_region_with (first
      | (go_at_call 132; refine (t_owner p z A B t L _ (by exact HB.out) HK.out s (HS8.out).1 (HS8.out).2).mono ?_; rintro e w3 ⟨rfl, hB⟩; have hb3 : TAt w3 p z A B t L := TAt.below (by exact HB.out) hB)
      | (go_at_call 145; refine (t_store p z A B t L 25 (cOwnOf t.c s) 0 _ (by assumption)).mono ?_; rintro e w4 ⟨rfl, a1, a2⟩))
  all_goals
   go_wp2
   go_end0
   exact ⟨rfl, a1, Only.trans (by first | exact Only.below hB | exact ((Only.refl _ _).drew).trans (Only.below hB)) a2⟩
 ·rw [if_neg (by omega), if_neg (by omega), if_neg (by omega), if_neg (by omega), if_neg (by omega), if_pos hs]
  rw [hs] at h13
  clear hb ok R hs hat hat2 hcl hb1 hO1
  go_enter Tryz.func110, Tryz.ntmps110
  go_wp2_with fail
  refine (t_release base p z A B { t with at_ := t.at_ + 1 } L _ HR1.out HK.out HC.out).mono ?_
  rintro e w1 ⟨rfl, a1, a2⟩
  go_wp2
  go_end0
  exact ⟨rfl, a1, (HO1.out).trans a2⟩
end
end Go.Proofs.YtejadojilncbjaaGreat
namespace Go.Proofs.YtejadojilncbjaaGreat
open Go.RowKit
set_option linter.unusedVariables false
def oB (a : Option Addr) : Option Nat := a.map (·.block)
theorem oB_eq (a : Option Addr) (n c : Nat) : (Value.slice a n c).ownBlock = oB a := by cases a <;> rfl
def Own (L : Ls) (k : Nat) : Prop := oB L.ra = some k ∨ oB L.wa = some k ∨ oB L.ha = some k ∨ oB L.ma = some k ∨ oB L.na = some k ∨ oB L.sa = some k
structure Goes (p : Nat) (L : Ls) (w : World) (L' : Ls) (w' : World) : Prop where
 os : w'.os = w.os
 tape : w'.tape = w.tape
 output : w'.output = w.output
 size : w.heap.size ≤ w'.heap.size
 block : ∀ k, k < w.heap.size → k ≠ p → ¬ Own L k → w'.heap[k]? = w.heap[k]?
 own : ∀ k, Own L' k → Own L k ∨ w.heap.size ≤ k
theorem Goes.only {p : Nat} {L : Ls} {w w' : World} (h : Only p w w') : Goes p L w L w' := ⟨h.os, h.tape, h.output, h.size, fun k hk hp _ => h.block k hk hp, fun k hk => Or.inl hk⟩
theorem Goes.refl (p : Nat) (L : Ls) (w : World) : Goes p L w L w := Goes.only (Only.refl _ _)
theorem Goes.trans {p : Nat} {L L' L'' : Ls} {w w' w'' : World} (h : Goes p L w L' w') (k : Goes p L' w' L'' w'') : Goes p L w L'' w'' :=
 ⟨k.os.trans h.os, k.tape.trans h.tape, k.output.trans h.output, Nat.le_trans h.size k.size,
     fun i hi hp ho => (k.block i (Nat.lt_of_lt_of_le hi h.size) hp (fun q => by rcases h.own i q with q | q; exact ho q; omega)).trans (h.block i hi hp ho),
     fun i hi => by
      rcases k.own i hi with q | q
      ·exact h.own i q
      ·exact Or.inr (Nat.le_trans h.size q)⟩
def Dids (base p z : Nat) (A B : List Value) (t : PT) (L : Ls) (w : World) (e : Ending) (w' : World) : Prop := e = .returned (.tuple #[]) ∧ ∃ L', TR base p z A B w' t L' ∧ Goes p L w L' w'
theorem own_ne {w : World} {base e1 e2 s1 s2 n1 n2 : Nat} {v1 v2 : Value} {x1 x2 : List Value} (h1 : w.ownsRow base e1 s1 v1 n1 x1) (h2 : w.ownsRow base e2 s2 v2 n2 x2) (hne : e1 ≠ e2) : v1.ownBlock = none ∨ v1.ownBlock ≠ v2.ownBlock := by
 rcases h1.2 with ⟨rfl, _⟩ | ⟨g, cap, cur, rfl, hb, hg, _⟩
 ·exact Or.inl rfl
 ·refine Or.inr fun q => ?_
  rcases h2.2 with ⟨rfl, _⟩ | ⟨g2, cap2, cur2, rfl, hb2, hg2, _⟩
  ·simp [Value.ownBlock] at q
  ·simp [Value.ownBlock] at q
   subst q
   rw [hg] at hg2
   simp at hg2
   exact hne hg2.2
section
variable {base p z : Nat} {A B : List Value} {t : PT} {L : Ls} {w w0 w1 : World} {g cap H : Nat}
theorem tat_grown {e : TypeId} {size n : Nat} {v : Value} {xs : List Value} (h : TAt w0 p z A B t L) (hv : w0.ownsRow base e size v n xs) (he : e ≠ 119) (hgr : w0.grownBy w1 v.ownBlock) : TAt w1 p z A B t L := by
 have hp : p < w0.heap.size := h.lt
 refine ⟨h.1, (hgr.block p hp ?_).trans h.2⟩
 intro q
 exact own_tag hv h.2 he p q.symm rfl
theorem goes_grown {L' : Ls} {row : Option Nat} {i : Nat} {u : Value} (hb0 : Below w.heap.size w w0) (hgr : w0.grownBy w1 row) (hrow : ∀ k, row = some k → Own L k) (hown : ∀ k, Own L' k → Own L k ∨ w.heap.size ≤ k) : Goes p L w L' (w1.setCell ⟨p, i, none⟩ u) := by
 have hs : Only p w1 (w1.setCell ⟨p, i, none⟩ u) := (Only.refl _ _).set
 refine ⟨?_, ?_, ?_, ?_, ?_, hown⟩
 ·exact hs.os.trans (hgr.os.trans hb0.os)
 ·exact hs.tape.trans (hgr.tape.trans hb0.tape)
 ·exact hs.output.trans (hgr.output.trans hb0.output)
 ·exact Nat.le_trans hb0.size (Nat.le_trans hgr.size hs.size)
 ·intro k hk hp ho
  have k0 : k < w0.heap.size := Nat.lt_of_lt_of_le hk hb0.size
  have k1 : k < w1.heap.size := Nat.lt_of_lt_of_le k0 hgr.size
  rw [hs.block k k1 hp, hgr.block k k0 (fun q => ho (hrow k q.symm)), hb0.block k hk]
theorem tr_addRead {st v : Int} (R : TR base p z A B w t L) (hb0 : Below w.heap.size w w0) (hgr : w0.grownBy w1 (Value.slice L.ra t.reads.length L.rc).ownBlock)
  (hown : w1.ownsRow base 175 2 (.slice (some ⟨g, 0, none⟩) (t.reads.length + 1) cap) (t.reads.length + 1) (t.reads.flatMap entCells ++ [.int .i64 st, .int .i64 v])) (hat : (Value.slice L.ra t.reads.length L.rc).ownBlock = some g ∨ g = H) (hH : w.heap.size ≤ H) :
  TR base p z A B (w1.setCell ⟨p, z + 19 + 19, none⟩ (.slice (some ⟨g, 0, none⟩) (t.reads.length + 1) cap)) { t with reads := t.reads ++ [⟨st, v⟩] } { L with ra := some ⟨g, 0, none⟩, rc := cap } ∧
  Goes p L w { L with ra := some ⟨g, 0, none⟩, rc := cap } (w1.setCell ⟨p, z + 19 + 19, none⟩ (.slice (some ⟨g, 0, none⟩) (t.reads.length + 1) cap)) := by
 have R0 := R.below hb0
 have h1 : TAt w1 p z A B t L := tat_grown R0.tt R0.rd (by decide) hgr
 have hset : TAt (w1.setCell ⟨p, z + 19 + 19, none⟩ (.slice (some ⟨g, 0, none⟩) (t.reads.length + 1) cap)) p z A B { t with reads := t.reads ++ [⟨st, v⟩] } { L with ra := some ⟨g, 0, none⟩, rc := cap } :=
  h1.set 38 (by decide) _ (by simp [tArr])
 have ho : Only p w1 (w1.setCell ⟨p, z + 19 + 19, none⟩ (.slice (some ⟨g, 0, none⟩) (t.reads.length + 1) cap)) := (Only.refl _ _).set
 have hp := h1.2
 have kw := ownsRow_only (R0.wr.kept hgr (own_ne R0.wr R0.rd (by decide))) ho (own_tag (R0.wr.kept hgr (own_ne R0.wr R0.rd (by decide))) hp (by decide))
 have kh := ownsRow_only (R0.hd.kept hgr (own_ne R0.hd R0.rd (by decide))) ho (own_tag (R0.hd.kept hgr (own_ne R0.hd R0.rd (by decide))) hp (by decide))
 have km := ownsRow_only (R0.mi.kept hgr (own_ne R0.mi R0.rd (by decide))) ho (own_tag (R0.mi.kept hgr (own_ne R0.mi R0.rd (by decide))) hp (by decide))
 have kn := ownsRow_only (R0.nt.kept hgr (own_ne R0.nt R0.rd (by decide))) ho (own_tag (R0.nt.kept hgr (own_ne R0.nt R0.rd (by decide))) hp (by decide))
 have ks := ownsRow_only (R0.sr.kept hgr (own_ne R0.sr R0.rd (by decide))) ho (own_tag (R0.sr.kept hgr (own_ne R0.sr R0.rd (by decide))) hp (by decide))
 have hTR : TR base p z A B (w1.setCell ⟨p, z + 19 + 19, none⟩ (.slice (some ⟨g, 0, none⟩) (t.reads.length + 1) cap)) { t with reads := t.reads ++ [⟨st, v⟩] } { L with ra := some ⟨g, 0, none⟩, rc := cap } := by
  refine ⟨hset, ?_, kw, kh, km, R.ne, kn, ks⟩
  have := ownsRow_only hown ho (own_tag hown hp (by decide))
  simpa [List.flatMap_append, entCells] using this
 have hOwn : ∀ k, Own { L with ra := some ⟨g, 0, none⟩, rc := cap } k → Own L k ∨ w.heap.size ≤ k := by
  intro k hk
  have hg' : some g = some k → Own L k ∨ w.heap.size ≤ k := fun q => by
   simp at q
   subst q
   rcases hat with q | q
   ·rw [oB_eq] at q; exact Or.inl (by unfold Own; simp [q])
   ·exact Or.inr (by omega)
  unfold Own at hk
  rcases hk with q | q | q | q | q | q
  ·first | exact hg' q | exact Or.inl (Or.inl q)
  ·first | exact hg' q | exact Or.inl (Or.inr (Or.inl q))
  ·first | exact hg' q | exact Or.inl (Or.inr (Or.inr (Or.inl q)))
  ·first | exact hg' q | exact Or.inl (Or.inr (Or.inr (Or.inr (Or.inl q))))
  ·first | exact hg' q | exact Or.inl (Or.inr (Or.inr (Or.inr (Or.inr (Or.inl q)))))
  ·first | exact hg' q | exact Or.inl (Or.inr (Or.inr (Or.inr (Or.inr (Or.inr q)))))
 exact ⟨hTR, goes_grown hb0 hgr (fun k q => by rw [oB_eq] at q; unfold Own; simp [q]) hOwn⟩
theorem tr_addWrite {st v : Int} (R : TR base p z A B w t L) (hb0 : Below w.heap.size w w0) (hgr : w0.grownBy w1 (Value.slice L.wa t.writes.length L.wc).ownBlock)
  (hown : w1.ownsRow base 180 2 (.slice (some ⟨g, 0, none⟩) (t.writes.length + 1) cap) (t.writes.length + 1) (t.writes.flatMap entCells ++ [.int .i64 st, .int .i64 v])) (hat : (Value.slice L.wa t.writes.length L.wc).ownBlock = some g ∨ g = H) (hH : w.heap.size ≤ H) :
  TR base p z A B (w1.setCell ⟨p, z + 19 + 20, none⟩ (.slice (some ⟨g, 0, none⟩) (t.writes.length + 1) cap)) { t with writes := t.writes ++ [⟨st, v⟩] } { L with wa := some ⟨g, 0, none⟩, wc := cap } ∧
  Goes p L w { L with wa := some ⟨g, 0, none⟩, wc := cap } (w1.setCell ⟨p, z + 19 + 20, none⟩ (.slice (some ⟨g, 0, none⟩) (t.writes.length + 1) cap)) := by
 have R0 := R.below hb0
 have h1 : TAt w1 p z A B t L := tat_grown R0.tt R0.wr (by decide) hgr
 have hset : TAt (w1.setCell ⟨p, z + 19 + 20, none⟩ (.slice (some ⟨g, 0, none⟩) (t.writes.length + 1) cap)) p z A B { t with writes := t.writes ++ [⟨st, v⟩] } { L with wa := some ⟨g, 0, none⟩, wc := cap } :=
  h1.set 39 (by decide) _ (by simp [tArr])
 have ho : Only p w1 (w1.setCell ⟨p, z + 19 + 20, none⟩ (.slice (some ⟨g, 0, none⟩) (t.writes.length + 1) cap)) := (Only.refl _ _).set
 have hp := h1.2
 have kr := ownsRow_only (R0.rd.kept hgr (own_ne R0.rd R0.wr (by decide))) ho (own_tag (R0.rd.kept hgr (own_ne R0.rd R0.wr (by decide))) hp (by decide))
 have kh := ownsRow_only (R0.hd.kept hgr (own_ne R0.hd R0.wr (by decide))) ho (own_tag (R0.hd.kept hgr (own_ne R0.hd R0.wr (by decide))) hp (by decide))
 have km := ownsRow_only (R0.mi.kept hgr (own_ne R0.mi R0.wr (by decide))) ho (own_tag (R0.mi.kept hgr (own_ne R0.mi R0.wr (by decide))) hp (by decide))
 have kn := ownsRow_only (R0.nt.kept hgr (own_ne R0.nt R0.wr (by decide))) ho (own_tag (R0.nt.kept hgr (own_ne R0.nt R0.wr (by decide))) hp (by decide))
 have ks := ownsRow_only (R0.sr.kept hgr (own_ne R0.sr R0.wr (by decide))) ho (own_tag (R0.sr.kept hgr (own_ne R0.sr R0.wr (by decide))) hp (by decide))
 have hTR : TR base p z A B (w1.setCell ⟨p, z + 19 + 20, none⟩ (.slice (some ⟨g, 0, none⟩) (t.writes.length + 1) cap)) { t with writes := t.writes ++ [⟨st, v⟩] } { L with wa := some ⟨g, 0, none⟩, wc := cap } := by
  refine ⟨hset, kr, ?_, kh, km, R.ne, kn, ks⟩
  have := ownsRow_only hown ho (own_tag hown hp (by decide))
  simpa [List.flatMap_append, entCells] using this
 have hOwn : ∀ k, Own { L with wa := some ⟨g, 0, none⟩, wc := cap } k → Own L k ∨ w.heap.size ≤ k := by
  intro k hk
  have hg' : some g = some k → Own L k ∨ w.heap.size ≤ k := fun q => by
   simp at q
   subst q
   rcases hat with q | q
   ·rw [oB_eq] at q; exact Or.inl (by unfold Own; simp [q])
   ·exact Or.inr (by omega)
  unfold Own at hk
  rcases hk with q | q | q | q | q | q
  ·first | exact hg' q | exact Or.inl (Or.inl q)
  ·first | exact hg' q | exact Or.inl (Or.inr (Or.inl q))
  ·first | exact hg' q | exact Or.inl (Or.inr (Or.inr (Or.inl q)))
  ·first | exact hg' q | exact Or.inl (Or.inr (Or.inr (Or.inr (Or.inl q))))
  ·first | exact hg' q | exact Or.inl (Or.inr (Or.inr (Or.inr (Or.inr (Or.inl q)))))
  ·first | exact hg' q | exact Or.inl (Or.inr (Or.inr (Or.inr (Or.inr (Or.inr q)))))
 exact ⟨hTR, goes_grown hb0 hgr (fun k q => by rw [oB_eq] at q; unfold Own; simp [q]) hOwn⟩
theorem tr_addHeld {st : Int} (R : TR base p z A B w t L) (hb0 : Below w.heap.size w w0) (hgr : w0.grownBy w1 (Value.slice L.ha t.held.length L.hc).ownBlock)
  (hown : w1.ownsRow base 3 1 (.slice (some ⟨g, 0, none⟩) (t.held.length + 1) cap) (t.held.length + 1) (intCells t.held ++ [.int .i64 st])) (hat : (Value.slice L.ha t.held.length L.hc).ownBlock = some g ∨ g = H) (hH : w.heap.size ≤ H) :
  TR base p z A B (w1.setCell ⟨p, z + 19 + 21, none⟩ (.slice (some ⟨g, 0, none⟩) (t.held.length + 1) cap)) { t with held := t.held ++ [st] } { L with ha := some ⟨g, 0, none⟩, hc := cap } ∧
  Goes p L w { L with ha := some ⟨g, 0, none⟩, hc := cap } (w1.setCell ⟨p, z + 19 + 21, none⟩ (.slice (some ⟨g, 0, none⟩) (t.held.length + 1) cap)) := by
 have R0 := R.below hb0
 have h1 : TAt w1 p z A B t L := tat_grown R0.tt R0.hd (by decide) hgr
 have hset : TAt (w1.setCell ⟨p, z + 19 + 21, none⟩ (.slice (some ⟨g, 0, none⟩) (t.held.length + 1) cap)) p z A B { t with held := t.held ++ [st] } { L with ha := some ⟨g, 0, none⟩, hc := cap } :=
  h1.set 40 (by decide) _ (by simp [tArr])
 have ho : Only p w1 (w1.setCell ⟨p, z + 19 + 21, none⟩ (.slice (some ⟨g, 0, none⟩) (t.held.length + 1) cap)) := (Only.refl _ _).set
 have hp := h1.2
 have hmi : (Value.slice L.ma t.mine.length L.mc).ownBlock = none ∨ (Value.slice L.ma t.mine.length L.mc).ownBlock ≠ (Value.slice L.ha t.held.length L.hc).ownBlock := by
  cases hq : (Value.slice L.ma t.mine.length L.mc).ownBlock with
  | none => exact Or.inl rfl
  | some k => exact Or.inr fun q => R.ne k q.symm hq
 have kr := ownsRow_only (R0.rd.kept hgr (own_ne R0.rd R0.hd (by decide))) ho (own_tag (R0.rd.kept hgr (own_ne R0.rd R0.hd (by decide))) hp (by decide))
 have kw := ownsRow_only (R0.wr.kept hgr (own_ne R0.wr R0.hd (by decide))) ho (own_tag (R0.wr.kept hgr (own_ne R0.wr R0.hd (by decide))) hp (by decide))
 have km := ownsRow_only (R0.mi.kept hgr (hmi)) ho (own_tag (R0.mi.kept hgr (hmi)) hp (by decide))
 have kn := ownsRow_only (R0.nt.kept hgr (own_ne R0.nt R0.hd (by decide))) ho (own_tag (R0.nt.kept hgr (own_ne R0.nt R0.hd (by decide))) hp (by decide))
 have ks := ownsRow_only (R0.sr.kept hgr (own_ne R0.sr R0.hd (by decide))) ho (own_tag (R0.sr.kept hgr (own_ne R0.sr R0.hd (by decide))) hp (by decide))
 have hTR : TR base p z A B (w1.setCell ⟨p, z + 19 + 21, none⟩ (.slice (some ⟨g, 0, none⟩) (t.held.length + 1) cap)) { t with held := t.held ++ [st] } { L with ha := some ⟨g, 0, none⟩, hc := cap } := by
  refine ⟨hset, kr, kw, ?_, km, ?_, kn, ks⟩
  ·have := ownsRow_only hown ho (own_tag hown hp (by decide))
   simpa [intCells] using this
  ·intro k hk hm
   simp [Value.ownBlock] at hk
   subst hk
   rcases hat with q | q
   ·exact R.ne _ q hm
   ·have := (R.mi.lt _ hm).2
    omega
 have hOwn : ∀ k, Own { L with ha := some ⟨g, 0, none⟩, hc := cap } k → Own L k ∨ w.heap.size ≤ k := by
  intro k hk
  have hg' : some g = some k → Own L k ∨ w.heap.size ≤ k := fun q => by
   simp at q
   subst q
   rcases hat with q | q
   ·rw [oB_eq] at q; exact Or.inl (by unfold Own; simp [q])
   ·exact Or.inr (by omega)
  unfold Own at hk
  rcases hk with q | q | q | q | q | q
  ·first | exact hg' q | exact Or.inl (Or.inl q)
  ·first | exact hg' q | exact Or.inl (Or.inr (Or.inl q))
  ·first | exact hg' q | exact Or.inl (Or.inr (Or.inr (Or.inl q)))
  ·first | exact hg' q | exact Or.inl (Or.inr (Or.inr (Or.inr (Or.inl q))))
  ·first | exact hg' q | exact Or.inl (Or.inr (Or.inr (Or.inr (Or.inr (Or.inl q)))))
  ·first | exact hg' q | exact Or.inl (Or.inr (Or.inr (Or.inr (Or.inr (Or.inr q)))))
 exact ⟨hTR, goes_grown hb0 hgr (fun k q => by rw [oB_eq] at q; unfold Own; simp [q]) hOwn⟩
theorem tr_addNote {op ad v : Int} (R : TR base p z A B w t L) (hb0 : Below w.heap.size w w0) (hgr : w0.grownBy w1 (Value.slice L.na t.notes.length L.nc).ownBlock)
  (hown : w1.ownsRow base 95 3 (.slice (some ⟨g, 0, none⟩) (t.notes.length + 1) cap) (t.notes.length + 1) (t.notes.flatMap noteCells ++ [.int .i64 op, .int .i64 ad, .int .i64 v])) (hat : (Value.slice L.na t.notes.length L.nc).ownBlock = some g ∨ g = H) (hH : w.heap.size ≤ H) :
  TR base p z A B (w1.setCell ⟨p, z + 19 + 7, none⟩ (.slice (some ⟨g, 0, none⟩) (t.notes.length + 1) cap)) { t with notes := t.notes ++ [⟨op, ad, v⟩] } { L with na := some ⟨g, 0, none⟩, nc := cap } ∧
  Goes p L w { L with na := some ⟨g, 0, none⟩, nc := cap } (w1.setCell ⟨p, z + 19 + 7, none⟩ (.slice (some ⟨g, 0, none⟩) (t.notes.length + 1) cap)) := by
 have R0 := R.below hb0
 have h1 : TAt w1 p z A B t L := tat_grown R0.tt R0.nt (by decide) hgr
 have hset : TAt (w1.setCell ⟨p, z + 19 + 7, none⟩ (.slice (some ⟨g, 0, none⟩) (t.notes.length + 1) cap)) p z A B { t with notes := t.notes ++ [⟨op, ad, v⟩] } { L with na := some ⟨g, 0, none⟩, nc := cap } :=
  h1.set 26 (by decide) _ (by simp [tArr])
 have ho : Only p w1 (w1.setCell ⟨p, z + 19 + 7, none⟩ (.slice (some ⟨g, 0, none⟩) (t.notes.length + 1) cap)) := (Only.refl _ _).set
 have hp := h1.2
 have kw := ownsRow_only (R0.wr.kept hgr (own_ne R0.wr R0.nt (by decide))) ho (own_tag (R0.wr.kept hgr (own_ne R0.wr R0.nt (by decide))) hp (by decide))
 have kh := ownsRow_only (R0.hd.kept hgr (own_ne R0.hd R0.nt (by decide))) ho (own_tag (R0.hd.kept hgr (own_ne R0.hd R0.nt (by decide))) hp (by decide))
 have km := ownsRow_only (R0.mi.kept hgr (own_ne R0.mi R0.nt (by decide))) ho (own_tag (R0.mi.kept hgr (own_ne R0.mi R0.nt (by decide))) hp (by decide))
 have kr := ownsRow_only (R0.rd.kept hgr (own_ne R0.rd R0.nt (by decide))) ho (own_tag (R0.rd.kept hgr (own_ne R0.rd R0.nt (by decide))) hp (by decide))
 have ks := ownsRow_only (R0.sr.kept hgr (own_ne R0.sr R0.nt (by decide))) ho (own_tag (R0.sr.kept hgr (own_ne R0.sr R0.nt (by decide))) hp (by decide))
 have hTR : TR base p z A B (w1.setCell ⟨p, z + 19 + 7, none⟩ (.slice (some ⟨g, 0, none⟩) (t.notes.length + 1) cap)) { t with notes := t.notes ++ [⟨op, ad, v⟩] } { L with na := some ⟨g, 0, none⟩, nc := cap } := by
  refine ⟨hset, kr, kw, kh, km, R.ne, ?_, ks⟩
  have := ownsRow_only hown ho (own_tag hown hp (by decide))
  simpa [List.flatMap_append, noteCells] using this
 have hOwn : ∀ k, Own { L with na := some ⟨g, 0, none⟩, nc := cap } k → Own L k ∨ w.heap.size ≤ k := by
  intro k hk
  have hg' : some g = some k → Own L k ∨ w.heap.size ≤ k := fun q => by
   simp at q
   subst q
   rcases hat with q | q
   ·rw [oB_eq] at q; exact Or.inl (by unfold Own; simp [q])
   ·exact Or.inr (by omega)
  unfold Own at hk
  rcases hk with q | q | q | q | q | q
  ·first | exact hg' q | exact Or.inl (Or.inl q)
  ·first | exact hg' q | exact Or.inl (Or.inr (Or.inl q))
  ·first | exact hg' q | exact Or.inl (Or.inr (Or.inr (Or.inl q)))
  ·first | exact hg' q | exact Or.inl (Or.inr (Or.inr (Or.inr (Or.inl q))))
  ·first | exact hg' q | exact Or.inl (Or.inr (Or.inr (Or.inr (Or.inr (Or.inl q)))))
  ·first | exact hg' q | exact Or.inl (Or.inr (Or.inr (Or.inr (Or.inr (Or.inr q)))))
 exact ⟨hTR, goes_grown hb0 hgr (fun k q => by rw [oB_eq] at q; unfold Own; simp [q]) hOwn⟩
theorem tr_addRes {rv : ResD} (R : TR base p z A B w t L) (hb0 : Below w.heap.size w w0) (hgr : w0.grownBy w1 (Value.slice L.sa t.res.length L.sc).ownBlock)
  (hown : w1.ownsRow base 84 5 (.slice (some ⟨g, 0, none⟩) (t.res.length + 1) cap) (t.res.length + 1) (t.res.flatMap resCells ++ [.int .i64 rv.fate, .int .i64 rv.r0, .int .i64 rv.r1, .int .i64 rv.r2, .int .i64 rv.r3])) (hat : (Value.slice L.sa t.res.length L.sc).ownBlock = some g ∨ g = H) (hH : w.heap.size ≤ H) :
  TR base p z A B (w1.setCell ⟨p, z + 10, none⟩ (.slice (some ⟨g, 0, none⟩) (t.res.length + 1) cap)) { t with res := t.res ++ [rv] } { L with sa := some ⟨g, 0, none⟩, sc := cap } ∧
  Goes p L w { L with sa := some ⟨g, 0, none⟩, sc := cap } (w1.setCell ⟨p, z + 10, none⟩ (.slice (some ⟨g, 0, none⟩) (t.res.length + 1) cap)) := by
 have R0 := R.below hb0
 have h1 : TAt w1 p z A B t L := tat_grown R0.tt R0.sr (by decide) hgr
 have hset : TAt (w1.setCell ⟨p, z + 10, none⟩ (.slice (some ⟨g, 0, none⟩) (t.res.length + 1) cap)) p z A B { t with res := t.res ++ [rv] } { L with sa := some ⟨g, 0, none⟩, sc := cap } :=
  h1.set 10 (by decide) _ (by simp [tArr])
 have ho : Only p w1 (w1.setCell ⟨p, z + 10, none⟩ (.slice (some ⟨g, 0, none⟩) (t.res.length + 1) cap)) := (Only.refl _ _).set
 have hp := h1.2
 have kw := ownsRow_only (R0.wr.kept hgr (own_ne R0.wr R0.sr (by decide))) ho (own_tag (R0.wr.kept hgr (own_ne R0.wr R0.sr (by decide))) hp (by decide))
 have kh := ownsRow_only (R0.hd.kept hgr (own_ne R0.hd R0.sr (by decide))) ho (own_tag (R0.hd.kept hgr (own_ne R0.hd R0.sr (by decide))) hp (by decide))
 have km := ownsRow_only (R0.mi.kept hgr (own_ne R0.mi R0.sr (by decide))) ho (own_tag (R0.mi.kept hgr (own_ne R0.mi R0.sr (by decide))) hp (by decide))
 have kr := ownsRow_only (R0.rd.kept hgr (own_ne R0.rd R0.sr (by decide))) ho (own_tag (R0.rd.kept hgr (own_ne R0.rd R0.sr (by decide))) hp (by decide))
 have kn := ownsRow_only (R0.nt.kept hgr (own_ne R0.nt R0.sr (by decide))) ho (own_tag (R0.nt.kept hgr (own_ne R0.nt R0.sr (by decide))) hp (by decide))
 have hTR : TR base p z A B (w1.setCell ⟨p, z + 10, none⟩ (.slice (some ⟨g, 0, none⟩) (t.res.length + 1) cap)) { t with res := t.res ++ [rv] } { L with sa := some ⟨g, 0, none⟩, sc := cap } := by
  refine ⟨hset, kr, kw, kh, km, R.ne, kn, ?_⟩
  have := ownsRow_only hown ho (own_tag hown hp (by decide))
  simpa [List.flatMap_append, resCells] using this
 have hOwn : ∀ k, Own { L with sa := some ⟨g, 0, none⟩, sc := cap } k → Own L k ∨ w.heap.size ≤ k := by
  intro k hk
  have hg' : some g = some k → Own L k ∨ w.heap.size ≤ k := fun q => by
   simp at q
   subst q
   rcases hat with q | q
   ·rw [oB_eq] at q; exact Or.inl (by unfold Own; simp [q])
   ·exact Or.inr (by omega)
  unfold Own at hk
  rcases hk with q | q | q | q | q | q
  ·first | exact hg' q | exact Or.inl (Or.inl q)
  ·first | exact hg' q | exact Or.inl (Or.inr (Or.inl q))
  ·first | exact hg' q | exact Or.inl (Or.inr (Or.inr (Or.inl q)))
  ·first | exact hg' q | exact Or.inl (Or.inr (Or.inr (Or.inr (Or.inl q))))
  ·first | exact hg' q | exact Or.inl (Or.inr (Or.inr (Or.inr (Or.inr (Or.inl q)))))
  ·first | exact hg' q | exact Or.inl (Or.inr (Or.inr (Or.inr (Or.inr (Or.inr q)))))
 exact ⟨hTR, goes_grown hb0 hgr (fun k q => by rw [oB_eq] at q; unfold Own; simp [q]) hOwn⟩
theorem RowsOwn (R : TR base p z A B w t L) (k : Nat) (h : Own L k) : base ≤ k ∧ k < w.heap.size := by
 unfold Own at h
 rcases h with q | q | q | q | q | q
 ·rw [← oB_eq L.ra t.reads.length L.rc] at q; exact R.rd.lt k q
 ·rw [← oB_eq L.wa t.writes.length L.wc] at q; exact R.wr.lt k q
 ·rw [← oB_eq L.ha t.held.length L.hc] at q; exact R.hd.lt k q
 ·rw [← oB_eq L.ma t.mine.length L.mc] at q; exact R.mi.lt k q
 ·rw [← oB_eq L.na t.notes.length L.nc] at q; exact R.nt.lt k q
 ·rw [← oB_eq L.sa t.res.length L.sc] at q; exact R.sr.lt k q
theorem tr_sameWrite {a : Int} {k : Nat} (R : TR base p z A B w t L) (hk : entIdx t.writes a = some k) (hg : L.wa = some ⟨g, 0, none⟩) :
  TR base p z A B (w.setCell ⟨g, k * 2, none⟩ (.int .i64 a)) t L ∧ Goes p L w L (w.setCell ⟨g, k * 2, none⟩ (.int .i64 a)) := by
 have hrow := R.wr
 rw [hg] at hrow
 have hin := entIn hk
 obtain ⟨hs1, hs2⟩ := hrow.stored (k * 2) (.int .i64 a)
 have hs2' : w.grownBy (w.setCell ⟨g, k * 2, none⟩ (.int .i64 a)) (Value.slice L.wa t.writes.length L.wc).ownBlock := by rw [hg]; exact hs2
 have h1 : TAt (w.setCell ⟨g, k * 2, none⟩ (.int .i64 a)) p z A B t L := tat_grown R.tt R.wr (by decide) hs2'
 have hmi : (Value.slice L.ma t.mine.length L.mc).ownBlock = none ∨ (Value.slice L.ma t.mine.length L.mc).ownBlock ≠ (Value.slice L.wa t.writes.length L.wc).ownBlock := own_ne R.mi R.wr (by decide)
 refine ⟨⟨h1, R.rd.kept hs2' (own_ne R.rd R.wr (by decide)), ?_, R.hd.kept hs2' (own_ne R.hd R.wr (by decide)), R.mi.kept hs2' hmi, R.ne, R.nt.kept hs2' (own_ne R.nt R.wr (by decide)), R.sr.kept hs2' (own_ne R.sr R.wr (by decide))⟩, ?_⟩
 ·rw [hg]
  have e : (t.writes.flatMap entCells).set (k * 2) (.int .i64 a) = t.writes.flatMap entCells := by
   apply List.ext_getElem?
   intro j
   by_cases hj : j = k * 2
   ·subst hj
    have hl : (t.writes.flatMap entCells).length = t.writes.length * 2 := flat_len (f := entCells) (n := 2) (fun _ => rfl) t.writes
    rw [List.getElem?_set_self (by have := hin.1; omega), show k * 2 = k * 2 + 0 from rfl, flat_at (n := 2) (fun _ => rfl) _ k 0 (by omega), List.getElem?_eq_getElem hin.1]
    have := hin.2.1
    simp [List.getD, List.getElem?_eq_getElem hin.1] at this
    simp [entCells, this]
   ·rw [List.getElem?_set_ne (fun q => hj q.symm)]
  rw [e] at hs1
  exact hs1
 ·refine ⟨hs2.os, hs2.tape, hs2.output, hs2.size, fun i hi hp ho => hs2.block i hi (fun q => ho ?_), fun i hi => Or.inl hi⟩
  unfold Own
  rw [hg]
  simp [oB] at q ⊢
  exact Or.inr (Or.inl q.symm)
theorem tr_putWrite {a v : Int} {k : Nat} (R : TR base p z A B w t L) (hk : entIdx t.writes a = some k) (hg : L.wa = some ⟨g, 0, none⟩) :
  TR base p z A B (w.setCell ⟨g, k * 2 + 1, none⟩ (.int .i64 v)) { t with writes := putEnt t.writes a v } L ∧ Goes p L w L (w.setCell ⟨g, k * 2 + 1, none⟩ (.int .i64 v)) := by
 have hrow := R.wr
 rw [hg] at hrow
 have hin := entIn hk
 obtain ⟨hs1, hs2⟩ := hrow.stored (k * 2 + 1) (.int .i64 v)
 have hs2' : w.grownBy (w.setCell ⟨g, k * 2 + 1, none⟩ (.int .i64 v)) (Value.slice L.wa t.writes.length L.wc).ownBlock := by rw [hg]; exact hs2
 have h1 : TAt (w.setCell ⟨g, k * 2 + 1, none⟩ (.int .i64 v)) p z A B t L := tat_grown R.tt R.wr (by decide) hs2'
 have hput : putEnt t.writes a v = t.writes.set k ⟨a, v⟩ := by unfold putEnt; rw [hk]
 have hlen : (putEnt t.writes a v).length = t.writes.length := by rw [hput, List.length_set]
 have hmi : (Value.slice L.ma t.mine.length L.mc).ownBlock = none ∨ (Value.slice L.ma t.mine.length L.mc).ownBlock ≠ (Value.slice L.wa t.writes.length L.wc).ownBlock := own_ne R.mi R.wr (by decide)
 refine ⟨⟨?_, R.rd.kept hs2' (own_ne R.rd R.wr (by decide)), ?_, R.hd.kept hs2' (own_ne R.hd R.wr (by decide)), R.mi.kept hs2' hmi, R.ne, R.nt.kept hs2' (own_ne R.nt R.wr (by decide)), R.sr.kept hs2' (own_ne R.sr R.wr (by decide))⟩, ?_⟩
 ·have : tArr { t with writes := putEnt t.writes a v } L = tArr t L := by simp [tArr, hlen]
  unfold TAt
  rw [this]
  exact h1
 ·show World.ownsRow _ base 180 2 (.slice L.wa (putEnt t.writes a v).length L.wc) (putEnt t.writes a v).length _
  rw [hlen, hg]
  have e : (t.writes.flatMap entCells).set (k * 2 + 1) (.int .i64 v) = (putEnt t.writes a v).flatMap entCells := by
   rw [hput]
   apply List.ext_getElem?
   intro j
   obtain ⟨i, r, hr, rfl⟩ : ∃ i r, r < 2 ∧ j = i * 2 + r := ⟨j / 2, j % 2, by omega, by omega⟩
   rw [flat_at (n := 2) (fun _ => rfl) _ i r hr]
   by_cases hi : i = k
   ·subst hi
    have hl : (t.writes.flatMap entCells).length = t.writes.length * 2 := flat_len (f := entCells) (n := 2) (fun _ => rfl) t.writes
    rw [List.getElem?_set_self hin.1]
    have : r = 0 ∨ r = 1 := by omega
    rcases this with rfl | rfl
    ·rw [List.getElem?_set_ne (by omega), flat_at (n := 2) (fun _ => rfl) _ i 0 (by omega), List.getElem?_eq_getElem hin.1]
     have := hin.2.1
     simp [List.getD, List.getElem?_eq_getElem hin.1] at this
     simp [entCells, this]
    ·rw [List.getElem?_set_self (by omega)]
     simp [entCells]
   ·rw [List.getElem?_set_ne (by omega), List.getElem?_set_ne (fun q => hi q.symm), flat_at (n := 2) (fun _ => rfl) _ i r hr]
  rw [← e]
  exact hs1
 ·refine ⟨hs2.os, hs2.tape, hs2.output, hs2.size, fun i hi hp ho => hs2.block i hi (fun q => ho ?_), fun i hi => Or.inl hi⟩
  unfold Own
  rw [hg]
  simp [oB] at q ⊢
  exact Or.inr (Or.inl q.symm)
end
end Go.Proofs.YtejadojilncbjaaGreat
