import Derived.Test.YtejadojilncbjabGreatD19
import Derived.Deep.DeepCutAuto
namespace Go.Proofs.YtejadojilncbjabGreat
open Go.RowKit
set_option linter.unusedVariables false
attribute [local go_sem ↓] Go.wp_at_zero Go.wp_at_succ
section
variable (base p z : Nat) (A B : List Value) (t : PT) (L : Ls) (w : World)
set_option maxHeartbeats 1000000 in
theorem t_weigh (R : TR base p z A B w t L) (ok : TOk t) (hfl : t.fails + 1 ≤ 2 ^ 40) (status : Int) (h0 : 0 ≤ status) (h1 : status ≤ 1125899906842624) (hu : 0 ≤ t.rival ∧ t.rival ≤ 100) :
  Calls Tryz.prog 187 #[.pointer (some ⟨p, z, none⟩), .int .i64 status] w (DidT p z A B (yWeigh status t) L w) := by
 have hb := R.tt
 have h10 := hb.cRank
 have h35 := hb.cRival
 have h36 := hb.cWay
 have hf := hb.froz
 have HB : Hid (TAt w p z A B t L) := hb
 have HK : Hid (TOk t) := ok
 have HF : Hid (t.fails + 1 ≤ 2 ^ 40) := hfl
 have HU : Hid (0 ≤ t.rival ∧ t.rival ≤ 100) := hu
 have hn := ok.num
 have ht := ok.cb.1
 have hws : IntKind.i64.wrap (status + (t.num + 1)) = status + (t.num + 1) := wrapP _ (by omega) (by omega)
 obtain ⟨q, hq⟩ : ∃ q, q = status.tdiv 8 := ⟨_, rfl⟩
 have HM : Hid (∀ w, Calls Tryz.prog 207 #[.int .i64 status] w fun e w' => e = .returned (.int .i64 q) ∧ w' = w) := fun w => by rw [hq]; exact t_rankIn status w (by omega) h1
 unfold yWeigh
 rw [← hq]
 by_cases hc : 0 < q ∧ q < t.rank
 ·rw [if_pos hc]
  obtain ⟨hc1, hc2⟩ := hc
  have hb1 : TAt (w.setCell ⟨p, z + 19 + 25, none⟩ (.int .i64 t.rival)) p z A B { t with wayTo := t.rival } L := hb.set 44 (by decide) _ rfl
  have HO : Hid (Only p w (w.setCell ⟨p, z + 19 + 25, none⟩ (.int .i64 t.rival))) := (Only.refl _ _).set
  have HR1 : Hid (TR base p z A B (w.setCell ⟨p, z + 19 + 25, none⟩ (.int .i64 t.rival)) { t with wayTo := t.rival } L) := R.next hb1 HO.out rfl rfl rfl rfl rfl rfl
  clear hb ok R hfl hu h0 h1 hq hb1 hn ht
  go_enter Tryz.func187, Tryz.ntmps187
  go_wp2_with fail
  refine (HM.out _).mono ?_
  rintro e w1 ⟨rfl, rfl⟩
  go_wp2_with fail
  refine (t_fail base p z A B { t with wayTo := t.rival } L _ HR1.out HK.out HF.out).mono ?_
  rintro e w1 ⟨rfl, a1, a2⟩
  go_wp2
  refine bodyPost_ret (results_none rfl _ _ _) rfl ?_
  exact ⟨rfl, a1, (HO.out).trans a2⟩
 ·rw [if_neg hc]
  have HMk : Hid (∀ w, Calls Tryz.prog 181 #[.int .i64 status] w fun e w' => e = .returned (.bool (status.tmod 8 != 0)) ∧ w' = w) := fun w => t_marked status w
  have hg : (0 < q) = False ∨ (0 < q) = True ∧ (q < t.rank) = False := by
   by_cases h : 0 < q
   ·exact Or.inr ⟨by simp [h], by simp; omega⟩
   ·exact Or.inl (by simp [h])
  by_cases hm : status.tmod 8 = 0
  ·rw [if_neg (fun q => q hm)]
   have hmb : (status.tmod 8 != 0) = false := by simp [hm]
   rw [hmb] at HMk
   clear hb ok R hfl hu h0 h1 hq hn ht hc hmb hm
   rcases hg with hg | ⟨hg1, hg2⟩
   all_goals
    go_enter Tryz.func187, Tryz.ntmps187
    go_wp2_with fail
    refine (HM.out _).mono ?_
    rintro e w1 ⟨rfl, rfl⟩
    go_wp2_with fail
    refine (HMk.out _).mono ?_
    rintro e w1 ⟨rfl, rfl⟩
    go_wp2_with fail
    refine (t_statusOf p z A B t L _ HB.out HK.out t.rival (HU.out).1 (HU.out).2).mono ?_
    rintro e w1 ⟨rfl, hB⟩
    go_wp2_with fail
    refine (t_name p z A B t L _ ((HB.out).below hB) HK.out).mono ?_
    rintro e w2 ⟨rfl, rfl⟩
    go_wp2_with fail
    refine (t_swap p z A B t L 10 (t.staOf t.rival) status (status + (t.num + 1)) _ ((HB.out).below hB)).mono ?_
    rintro e w3 ⟨rfl, a1, a2⟩
    go_wp2
    go_end0
    exact ⟨rfl, a1, (Only.below hB).trans a2⟩
  ·rw [if_pos hm]
   have hmb : (status.tmod 8 != 0) = true := by simpa using hm
   rw [hmb] at HMk
   clear hb ok R hfl hu h0 h1 hq hn ht hc hmb hm
   rcases hg with hg | ⟨hg1, hg2⟩
   all_goals
    go_enter Tryz.func187, Tryz.ntmps187
    go_wp2_with fail
    refine (HM.out _).mono ?_
    rintro e w1 ⟨rfl, rfl⟩
    go_wp2_with fail
    refine (HMk.out _).mono ?_
    rintro e w1 ⟨rfl, rfl⟩
    go_wp2_with fail
    refine (t_get p z A B t L _ HB.out HK.out).mono ?_
    rintro e w3 ⟨rfl, a1, a2⟩
    go_wp2
    refine bodyPost_ret (results_none rfl _ _ _) rfl ?_
    exact ⟨rfl, a1, a2⟩
set_option maxHeartbeats 2000000 in
theorem t_ticket (R : TR base p z A B w t L) (ok : TOk t) (hfl : t.fails + 1 ≤ 2 ^ 40) (hs : t.step = 14 ∨ t.step = 15) (kind cell seen put : Int) (hp : t.step = 14 → 0 ≤ put ∧ put ≤ 2 ^ 40) :
  Calls Tryz.prog 158 #[.pointer (some ⟨p, z, none⟩), .agg #[.int .i64 kind, .int .i64 cell, .int .i64 seen, .int .i64 put]] w (DidT p z A B (yFollowTicket seen put t) L w) := by
 have hB1 : Below w.heap.size w (w.alloc (.cells #[.int .i64 kind, .int .i64 cell, .int .i64 seen, .int .i64 put] 158)) := (Below.refl _ _).alloc (Nat.le_refl _) _
 have R1 := R.below hB1
 have h13 := R.tt.cStep
 have h10 := R.tt.cRank
 have hf := R.tt.froz
 have hlt := R.tt.lt
 have hne : p ≠ w.heap.size := by omega
 have HR : Hid (TR base p z A B (w.alloc (.cells #[.int .i64 kind, .int .i64 cell, .int .i64 seen, .int .i64 put] 158)) t L) := R1
 have HK : Hid (TOk t) := ok
 have HF : Hid (t.fails + 1 ≤ 2 ^ 40) := hfl
 have HOn : Hid (Only p w (w.alloc (.cells #[.int .i64 kind, .int .i64 cell, .int .i64 seen, .int .i64 put] 158))) := Only.below hB1
 unfold yFollowTicket
 rcases hs with hs | hs
 ·rw [if_pos hs]
  rw [hs] at h13
  have hp' := hp hs
  have hw8 : IntKind.i64.wrap (8 * put) = 8 * put := wrapP _ (by omega) (by omega)
  have HB2 : Hid (TAt ((w.setCell ⟨p, z + 11, none⟩ (.int .i64 put)).alloc (.cells #[.int .i64 kind, .int .i64 cell, .int .i64 seen, .int .i64 put] 158)) p z A B { t with rank := put } L) := TAt.below (R.tt.set (t' := { t with rank := put }) 11 (by decide) (.int .i64 put) rfl) ((Below.refl _ _).alloc (Nat.le_refl _) _)
  have HO2 : Hid (Only p w ((w.setCell ⟨p, z + 11, none⟩ (.int .i64 put)).alloc (.cells #[.int .i64 kind, .int .i64 cell, .int .i64 seen, .int .i64 put] 158))) := ((Only.refl _ _).set).trans (Only.below ((Below.refl _ _).alloc (Nat.le_refl _) _))
  have HK1 : Hid (TOk { t with rank := put }) := ⟨ok.cfg, ok.num, hp', ok.fails, ok.rd, ok.wr, ok.hd, ok.rl, ok.wl, ok.hl, ok.ml, ok.cur, ok.nl, ok.sl⟩
  clear ok R hfl hs hp hp' R1 hB1 HR HF HK HOn
  go_enter Tryz.func158, Tryz.ntmps158
  go_wp2_with fail
  generalize (w.setCell ⟨p, z + 11, none⟩ (.int .i64 put)).alloc (.cells #[.int .i64 kind, .int .i64 cell, .int .i64 seen, .int .i64 put] 158) = w2 at *
  have h10b : w2.cell? ⟨p, z + 11, none⟩ = some (.int .i64 put) := (HB2.out).cRank
  clear h10 h13 hf hlt hne
  go_region_with (first
      | (go_at_call 192; refine (t_ownStatus p z A B { t with rank := put } L _ (by exact HB2.out) HK1.out).mono ?_; rintro e w3 ⟨rfl, hB⟩; have hb3 : TAt w3 p z A B { t with rank := put } L := TAt.below (by exact HB2.out) hB; have h10c : w3.cell? ⟨p, z + 11, none⟩ = some (.int .i64 put) := hb3.cRank)
      | (go_at_call 183; refine (t_swap p z A B { t with rank := put } L 15 t.sta 0 (8 * put) _ (by assumption)).mono ?_; rintro e w4 ⟨rfl, a1, a2⟩))
  all_goals
   go_wp2
   go_end0
   exact ⟨rfl, a1, (HO2.out).trans (Only.trans (by first | exact Only.below hB | exact ((Only.refl _ _).drew).trans (Only.below hB)) a2)⟩
 ·rw [if_neg (by omega), if_pos hs]
  rw [hs] at h13
  by_cases hz : seen = 0
  ·rw [if_neg (fun q => q hz)]
   have HB : Hid (TAt w p z A B t L) := R.tt
   clear ok R hfl hs hp R1 hB1 HR
   subst hz
   go_enter Tryz.func158, Tryz.ntmps158
   go_wp2
   go_end0
   exact ⟨rfl, TAt.below ((HB.out).set (t' := { t with step := 1 }) 14 (by decide) (.int .i64 1) rfl) ((Below.refl _ _).alloc (Nat.le_refl _) _), ((Only.refl _ _).set).trans (Only.below ((Below.refl _ _).alloc (Nat.le_refl _) _))⟩
  ·rw [if_pos hz]
   have hzb : (seen != 0) = true := by simpa using hz
   have hzb2 : (seen == 0) = false := by simpa using hz
   clear ok R hfl hs hp R1 hB1
   go_enter Tryz.func158, Tryz.ntmps158
   go_wp2_with fail
   refine (t_fail base p z A B t L _ HR.out HK.out HF.out).mono ?_
   rintro e w2 ⟨rfl, a1, a2⟩
   go_wp2
   refine bodyPost_ret (results_none rfl _ _ _) rfl ?_
   exact ⟨rfl, a1, (HOn.out).trans a2⟩
theorem t_version (s : Int) (w : World) (h : 0 ≤ s ∧ s ≤ 100) : Calls Tryz.prog 178 #[.int .i64 s] w fun e w' => e = .returned (.int .i64 (hVer s)) ∧ w' = w := version_any s w h.1 (by omega)
set_option maxHeartbeats 2000000 in
theorem t_shut (R : TR base p z A B w t L) (ok : TOk t) (hcl : -1 ≤ t.clock ∧ t.clock ≤ 2 ^ 50) : Calls Tryz.prog 195 #[.pointer (some ⟨p, z, none⟩)] w (DidT p z A B (yShut t) L w) := by
 have hb := R.tt
 have h38 := hb.cAt
 have h32 := hb.cHeld
 have HB : Hid (TAt w p z A B t L) := hb
 have HC : Hid (-1 ≤ t.clock ∧ t.clock ≤ 2 ^ 50) := hcl
 unfold yShut
 by_cases hc : t.at_ < t.held.length
 ·rw [if_pos hc]
  have h1 : (t.at_ : Int) < (t.held.length : Int) := by omega
  have hk0 : (0 : Int) ≤ (t.at_ : Int) := by omega
  obtain ⟨g, hg, hgc⟩ := nums_at R.hd t.at_ hc
  rw [hg] at h32
  have hm : t.held.getD t.at_ 0 ∈ t.held := by rw [show t.held.getD t.at_ 0 = t.held[t.at_] from by simp [List.getD, List.getElem?_eq_getElem hc]]; exact List.getElem_mem hc
  have hsr := ok.hd _ hm
  have hs8 := ok.cb.2.2.1
  obtain ⟨s, hs⟩ : ∃ s, s = t.held.getD t.at_ 0 := ⟨_, rfl⟩
  rw [← hs] at hgc hsr ⊢
  have HS8 : Hid (0 ≤ s ∧ s ≤ 100) := ⟨hsr.1, by omega⟩
  clear hb ok R hm hsr hs8 hs hc hcl
  go_enter Tryz.func195, Tryz.ntmps195
  go_wp2_with fail
  go_quiet (fail)
  go_wp2_with fail
  go_region_with (first
      | (go_at_call 178; refine (t_version s _ HS8.out).mono ?_; rintro e w' ⟨rfl, rfl⟩)
      | (go_at_call 197; refine (t_store p z A B t L 20 (hVer s) (-1) _ (by exact HB.out)).mono ?_; rintro e w2 ⟨rfl, a1, a2⟩))
  all_goals
   go_wp2
   go_end0
   exact ⟨rfl, a1, a2.quiet rfl rfl rfl rfl⟩
 ·rw [if_neg hc]
  have h1 : ¬ (t.at_ : Int) < (t.held.length : Int) := by omega
  clear hb ok R hc hcl
  go_enter Tryz.func195, Tryz.ntmps195
  go_wp2_with fail
  go_quiet (fail)
  go_wp2_with fail
  refine (t_stamp p z A B t L _ (by exact HB.out) (HC.out).1 (HC.out).2).mono ?_
  rintro e w1 ⟨rfl, rfl⟩
  go_wp2_with fail
  refine (t_store p z A B t L 21 0 (t.clock + 1) _ (by exact HB.out)).mono ?_
  rintro e w2 ⟨rfl, a1, a2⟩
  go_wp2
  go_end0
  exact ⟨rfl, a1, a2.quiet rfl rfl rfl rfl⟩
set_option maxHeartbeats 4000000 in
theorem t_release (R : TR base p z A B w t L) (ok : TOk t) (hcl : -1 ≤ t.clock ∧ t.clock ≤ 2 ^ 50) : Calls Tryz.prog 199 #[.pointer (some ⟨p, z, none⟩)] w (DidT p z A B (yRelease t) L w) := by
 have hb := R.tt
 have h38 := hb.cAt
 have h32 := hb.cHeld
 have HB : Hid (TAt w p z A B t L) := hb
 have HK : Hid (TOk t) := ok
 have HC : Hid (-1 ≤ t.clock ∧ t.clock ≤ 2 ^ 50) := hcl
 unfold yRelease
 by_cases hc : t.at_ < t.held.length
 ·rw [if_pos hc]
  have h1 : (t.at_ : Int) < (t.held.length : Int) := by omega
  have hk0 : (0 : Int) ≤ (t.at_ : Int) := by omega
  obtain ⟨g, hg, hgc⟩ := nums_at R.hd t.at_ hc
  rw [hg] at h32
  have hm : t.held.getD t.at_ 0 ∈ t.held := by rw [show t.held.getD t.at_ 0 = t.held[t.at_] from by simp [List.getD, List.getElem?_eq_getElem hc]]; exact List.getElem_mem hc
  have hsr := ok.hd _ hm
  have hs8 := ok.cb.2.2.1
  obtain ⟨s, hs⟩ : ∃ s, s = t.held.getD t.at_ 0 := ⟨_, rfl⟩
  rw [← hs] at hgc hsr ⊢
  have HS8 : Hid (0 ≤ s ∧ s ≤ 100) := ⟨hsr.1, by omega⟩
  clear hb ok R hm hsr hs8 hs hc hcl
  go_enter Tryz.func199, Tryz.ntmps199
  go_wp2_with fail
  go_quiet (fail)
  go_wp2_with fail
  go_region_with (first
      | (go_at_call 178; refine (t_version s _ HS8.out).mono ?_; rintro e w' ⟨rfl, rfl⟩)
      | (go_at_call 196; refine (t_stamp p z A B t L _ (by exact HB.out) (HC.out).1 (HC.out).2).mono ?_; rintro e w' ⟨rfl, rfl⟩)
      | (go_at_call 197; refine (t_store p z A B t L 24 (hVer s) (t.clock + 1) _ (by exact HB.out)).mono ?_; rintro e w2 ⟨rfl, a1, a2⟩))
  all_goals
   go_wp2
   go_end0
   exact ⟨rfl, a1, a2.quiet rfl rfl rfl rfl⟩
 ·rw [if_neg hc]
  have h1 : ¬ (t.at_ : Int) < (t.held.length : Int) := by omega
  clear hb ok R hc hcl
  go_enter Tryz.func199, Tryz.ntmps199
  go_wp2_with fail
  go_quiet (fail)
  go_wp2_with fail
  refine (t_end p z A B t L _ (by exact HB.out) HK.out).mono ?_
  rintro e w2 ⟨rfl, a1, a2⟩
  go_wp2
  go_end0
  exact ⟨rfl, a1, a2.quiet rfl rfl rfl rfl⟩
end
section
variable (base p z : Nat) (A B : List Value) (t : PT) (L : Ls) (w : World)
theorem t_word (ok : TOk t) (a : Int) (w : World) (h : 0 ≤ a ∧ a ≤ 100) : Calls Tryz.prog 133 #[.agg #[.int .i64 t.c.t, .int .i64 t.c.wd, .int .i64 t.c.s, .int .i64 t.c.g, .int .i64 t.c.r, .int .i64 t.c.cp, .int .i64 t.c.f], .int .i64 a] w fun e w' => e = .returned (.int .i64 (cWrdOf t.c a)) ∧ Below w.heap.size w w' := by
 obtain ⟨ht, _, hs, _⟩ := ok.cb
 exact wordCell_any t.c ⟨t.c, 0, []⟩ rfl a w h.1 (by omega) (by omega) (by omega) (by omega) (by omega)
set_option maxHeartbeats 4000000 in
theorem t_put (R : TR base p z A B w t L) (ok : TOk t) (hcl : -1 ≤ t.clock ∧ t.clock ≤ 2 ^ 50) : Calls Tryz.prog 198 #[.pointer (some ⟨p, z, none⟩)] w (DidT p z A B (yPut t) L w) := by
 have hb := R.tt
 have h38 := hb.cAt
 have h31 := hb.cWrites
 have hf := hb.froz
 have HK : Hid (TOk t) := ok
 have HC : Hid (-1 ≤ t.clock ∧ t.clock ≤ 2 ^ 50) := hcl
 unfold yPut
 by_cases hc : t.at_ < t.writes.length
 ·rw [if_pos hc]
  have h1 : (t.at_ : Int) < (t.writes.length : Int) := by omega
  have hk0 : (0 : Int) ≤ (t.at_ : Int) := by omega
  obtain ⟨g, hg, hg1, hg2, _⟩ := ents_at R.wr t.at_ hc
  rw [hg] at h31
  have hm : t.writes.getD t.at_ ⟨0, 0⟩ ∈ t.writes := by rw [show t.writes.getD t.at_ ⟨0, 0⟩ = t.writes[t.at_] from by simp [List.getD, List.getElem?_eq_getElem hc]]; exact List.getElem_mem hc
  have hsr := ok.wr _ hm
  have hs8 := ok.cb.2.1
  obtain ⟨a, ha⟩ : ∃ a, a = (t.writes.getD t.at_ ⟨0, 0⟩).what := ⟨_, rfl⟩
  obtain ⟨u, hu⟩ : ∃ u, u = (t.writes.getD t.at_ ⟨0, 0⟩).val := ⟨_, rfl⟩
  rw [← ha] at hg1 hsr ⊢
  rw [← hu] at hg2 ⊢
  have HS8 : Hid (0 ≤ a ∧ a ≤ 100) := ⟨hsr.1, by omega⟩
  have HB : Hid (TAt w p z A B t L) := hb
  have hlt := hb.lt
  clear hb ok R hm hsr hs8 ha hu hc hcl hf
  go_enter Tryz.func198, Tryz.ntmps198
  go_wp2_with fail
  go_quiet (fail)
  go_wp2_with fail
  have k38 : (w.drewN nq).cell? ⟨p, z + 19 + 27, none⟩ = some (.int .i64 (t.at_ : Int)) := h38
  have k31 : (w.drewN nq).cell? ⟨p, z + 19 + 20, none⟩ = some (.slice (some ⟨g, 0, none⟩) t.writes.length L.wc) := h31
  have k1 : (w.drewN nq).cell? ⟨g, t.at_ * 2, none⟩ = some (.int .i64 a) := hg1
  have k2 : (w.drewN nq).cell? ⟨g, t.at_ * 2 + 1, none⟩ = some (.int .i64 u) := hg2
  have kl : p < (w.drewN nq).heap.size := hlt
  have kg : g < (w.drewN nq).heap.size := block_lt hg1
  have HB1 : Hid (TAt (w.drewN nq) p z A B t L) := (HB.out).drewN nq
  have HO1 : Hid (Only p w (w.drewN nq)) := (Only.refl _ _).drewN nq
  clear h38 h31 hg1 hg2 hlt HB
  generalize w.drewN nq = w1 at *
  have kp : p ≠ w1.heap.size := by omega
  have kq : g ≠ w1.heap.size := by omega
  go_cut [3] (fun t3 wx => t3 = .pointer (some ⟨w1.heap.size, 0, none⟩) ∧ Hid (TAt wx p z A B t L) ∧ Hid (Blk wx w1.heap.size 230 #[.int .i64 a, .int .i64 u]) ∧ Hid (Only p w wx))
  case first =>
   go_region
   all_goals
    go_wp2
    go_meet
    case rel =>
     refine ⟨rfl, ?_, ?_, ?_⟩
     ·exact TAt.below (HB1.out) ((Below.refl _ _).alloc (Nat.le_refl _) _).drew
     ·exact Blk.new w1 230 _
     ·exact (HO1.out).trans (Only.below ((Below.refl _ _).alloc (Nat.le_refl _) _).drew)
  case rest =>
   obtain ⟨rfl, HB2, HX2, HO2⟩ := hcut
   have h0 := (HB2.out).cT
   have h1b := (HB2.out).cWd
   have h2 := (HB2.out).cS
   have h3 := (HB2.out).cG
   have h4 := (HB2.out).cR
   have h5 := (HB2.out).cCp
   have h6 := (HB2.out).cF
   have hx := (HX2.out).cell
   have HXL : Hid (w1.heap.size < wc.heap.size) := (HX2.out).lt
   clear k38 k31 k1 k2 kl kg kp kq
   go_wp2_with fail
   go_region_with (first
       | (go_at_call 133; refine (t_word t HK.out a _ HS8.out).mono ?_; rintro e w3 ⟨rfl, hB⟩; have hb3 : TAt w3 p z A B t L := TAt.below (by exact HB2.out) hB; have hx3 : Blk w3 w1.heap.size 230 #[.int .i64 a, .int .i64 u] := Blk.below (by exact HX2.out) hB HXL.out; have hx3c := hx3.cell)
       | (go_at_call 197; refine (t_store p z A B t L 23 (cWrdOf t.c a) u _ (by assumption)).mono ?_; rintro e w4 ⟨rfl, a1, a2⟩))
   all_goals
    go_wp2
    go_end0
    exact ⟨rfl, a1, (HO2.out).trans (Only.trans (by first | exact Only.below hB | exact ((Only.refl _ _).drew).trans (Only.below hB)) a2)⟩
 ·rw [if_neg hc]
  have h1 : ¬ (t.at_ : Int) < (t.writes.length : Int) := by omega
  have hb1 : ∀ n, TAt ((w.drewN n).setCell ⟨p, z + 19 + 27, none⟩ (.int .i64 0)) p z A B { t with at_ := 0 } L := fun n => (hb.drewN n).set 46 (by decide) _ rfl
  have hO1 : ∀ n, Only p w ((w.drewN n).setCell ⟨p, z + 19 + 27, none⟩ (.int .i64 0)) := fun n => ((Only.refl _ _).drewN n).set
  have HO : Hid (∀ n, Only p w ((w.drewN n).setCell ⟨p, z + 19 + 27, none⟩ (.int .i64 0))) := hO1
  have HR1 : Hid (∀ n, TR base p z A B ((w.drewN n).setCell ⟨p, z + 19 + 27, none⟩ (.int .i64 0)) { t with at_ := 0 } L) := fun n => R.next (hb1 n) (hO1 n) rfl rfl rfl rfl rfl rfl
  clear hb ok R hc hcl hb1 hO1
  go_enter Tryz.func198, Tryz.ntmps198
  go_wp2_with fail
  go_quiet (fail)
  go_wp2_with fail
  refine (t_release base p z A B { t with at_ := 0 } L _ ((HR1.out) _) HK.out HC.out).mono ?_
  rintro e w2 ⟨rfl, a1, a2⟩
  go_wp2
  go_end0
  exact ⟨rfl, a1, ((HO.out) _).trans a2⟩
end
theorem yCheckN_off {n : Nat} {t : PT} (h : t.clock = t.valid ∨ n = 0) : yCheckN n t = yShut { t with at_ := 0 } := by
 cases n with
 | zero => rfl
 | succ n =>
  rcases h with h | h
  ·unfold yCheckN; rw [if_neg (fun q => q h)]
  ·cases h
theorem yCheckN_on {n : Nat} {t : PT} (h : t.clock ≠ t.valid) : yCheckN (n + 1) t = if t.holds (t.reads.getD t.at_ ⟨0, 0⟩).what then yCheckN n { t with at_ := t.at_ + 1 } else yLoad 19 (hVer (t.reads.getD t.at_ ⟨0, 0⟩).what) t := by
 conv => lhs; unfold yCheckN
 rw [if_pos h]
section
variable (base p z : Nat) (A B : List Value) (t : PT) (L : Ls) (w : World)
set_option maxHeartbeats 8000000 in
theorem t_check (R : TR base p z A B w t L) (ok : TOk t) (hcl : -1 ≤ t.clock ∧ t.clock ≤ 2 ^ 50) (hat : t.at_ ≤ t.reads.length) : Calls Tryz.prog 193 #[.pointer (some ⟨p, z, none⟩)] w (DidT p z A B (yCheck t) L w) := by
 have HR : Hid (TR base p z A B w t L) := R
 have HK : Hid (TOk t) := ok
 have HC : Hid (-1 ≤ t.clock ∧ t.clock ≤ 2 ^ 50) := hcl
 unfold yCheck
 obtain ⟨RR, HRR⟩ : ∃ RR, Hid (yCheckN (t.reads.length - t.at_) t = RR) := ⟨_, rfl⟩
 rw [show yCheckN (t.reads.length - t.at_) t = RR from HRR.out]
 have hrl := ok.rl
 clear R ok hcl
 go_enter Tryz.func193, Tryz.ntmps193
 go_wp2_with fail
 go_loopg [3] (t.reads.length + 1) (fun m t3 wr => ∃ k : Nat, k ≤ t.reads.length ∧ t.reads.length + 1 ≤ m + k ∧ Hid (yCheckN (t.reads.length - k) { t with at_ := k } = RR) ∧ Hid (TR base p z A B wr { t with at_ := k } L) ∧ Hid (Only p w wr))
 case atStart => exact ⟨t.at_, hat, by omega, HRR, HR, Only.refl _ _⟩
 case round =>
  obtain ⟨k, hk, hgk, HY, HRk, HOk⟩ := hrel
  have h37 : wr.cell? ⟨p, z + 19 + 26, none⟩ = some (.int .i64 t.clock) := (HRk.out).tt.cClock
  have h29 : wr.cell? ⟨p, z + 19 + 4, none⟩ = some (.int .i64 t.valid) := (HRk.out).tt.cValid
  have h38 : wr.cell? ⟨p, z + 19 + 27, none⟩ = some (.int .i64 (k : Int)) := (HRk.out).tt.cAt
  have h30 : wr.cell? ⟨p, z + 19 + 19, none⟩ = some (.slice L.ra t.reads.length L.rc) := (HRk.out).tt.cReads
  have hf : ∀ i, wr.frozen? ⟨p, i, none⟩ = false := (HRk.out).tt.froz
  by_cases hcv : t.clock = t.valid ∨ ¬ k < t.reads.length
  ·have HF : Hid (RR = yShut { t with at_ := 0 }) := by
    show RR = _
    rw [← show yCheckN (t.reads.length - k) { t with at_ := k } = RR from HY.out]
    exact yCheckN_off (t := { t with at_ := k }) (hcv.imp id (fun q => by omega))
   have hb1 : ∀ n, TAt ((wr.drewN n).setCell ⟨p, z + 19 + 27, none⟩ (.int .i64 0)) p z A B { t with at_ := 0 } L := fun n => ((HRk.out).tt.drewN n).set 46 (by decide) _ rfl
   have hO1 : ∀ n, Only p wr ((wr.drewN n).setCell ⟨p, z + 19 + 27, none⟩ (.int .i64 0)) := fun n => ((Only.refl _ _).drewN n).set
   have HR1 : Hid (∀ n, TR base p z A B ((wr.drewN n).setCell ⟨p, z + 19 + 27, none⟩ (.int .i64 0)) { t with at_ := 0 } L) := fun n => (HRk.out).next (hb1 n) (hO1 n) rfl rfl rfl rfl rfl rfl
   have HO1 : Hid (∀ n, Only p wr ((wr.drewN n).setCell ⟨p, z + 19 + 27, none⟩ (.int .i64 0))) := hO1
   have HD : Hid (∀ e w', DidT p z A B (yShut { t with at_ := 0 }) L w e w' → DidT p z A B RR L w e w') := fun e w' h => by rw [HF.out]; exact h
   clear hb1 hO1 HY HRR HR
   by_cases hce : t.clock = t.valid
   ·have hcb : (t.clock != t.valid) = false := by simp [hce]
    have hcb2 : (t.clock == t.valid) = true := by simp [hce]
    clear hcv
    go_wp2_with fail
    go_quiet (fail)
    go_wp2_with fail
    refine (t_shut base p z A B { t with at_ := 0 } L _ ((HR1.out) _) HK.out HC.out).mono ?_
    rintro e w2 ⟨rfl, a1, a2⟩
    go_wp2
    go_end0
    exact HD.out _ _ ⟨rfl, a1, (HOk.out).trans (((HO1.out) _).trans a2)⟩
   ·have hcb : (t.clock != t.valid) = true := by simpa using hce
    have hcb2 : (t.clock == t.valid) = false := by simpa using hce
    have hkl : ¬ ((k : Int) < (t.reads.length : Int)) := by
     rcases hcv with q | q
     ·exact absurd q hce
     ·omega
    clear hcv
    go_wp2_with fail
    go_quiet (fail)
    go_wp2_with fail
    refine (t_shut base p z A B { t with at_ := 0 } L _ ((HR1.out) _) HK.out HC.out).mono ?_
    rintro e w2 ⟨rfl, a1, a2⟩
    go_wp2
    go_end0
    exact HD.out _ _ ⟨rfl, a1, (HOk.out).trans (((HO1.out) _).trans a2)⟩
  ·have hce : t.clock ≠ t.valid := fun q => hcv (Or.inl q)
   have hlt : k < t.reads.length := Decidable.byContradiction fun q => hcv (Or.inr q)
   have hcb : (t.clock != t.valid) = true := by simpa using hce
   have hcb2 : (t.clock == t.valid) = false := by simpa using hce
   have hkl : (k : Int) < (t.reads.length : Int) := by omega
   have hk0 : (0 : Int) ≤ (k : Int) := by omega
   obtain ⟨g, hg, hg1, hg2, _⟩ := ents_at (HRk.out).rd k hlt
   rw [show L.ra = some ⟨g, 0, none⟩ from hg] at h30
   have hm : t.reads.getD k ⟨0, 0⟩ ∈ t.reads := by rw [show t.reads.getD k ⟨0, 0⟩ = t.reads[k] from by simp [List.getD, List.getElem?_eq_getElem hlt]]; exact List.getElem_mem hlt
   have hsr := (HK.out).rd _ hm
   have hs8 := (HK.out).cb.2.2.1
   obtain ⟨s, hs⟩ : ∃ s, s = (t.reads.getD k ⟨0, 0⟩).what := ⟨_, rfl⟩
   have hg1' : wr.cell? ⟨g, k * 2, none⟩ = some (.int .i64 s) := by rw [hs]; exact hg1
   rw [← hs] at hsr
   have HS8 : Hid (0 ≤ s ∧ s ≤ 100) := ⟨hsr.1, by omega⟩
   have HY2 : Hid ((if t.holds s then yCheckN (t.reads.length - (k + 1)) { t with at_ := k + 1 } else yLoad 19 (hVer s) { t with at_ := k }) = RR) := by
    show _ = RR
    rw [← show yCheckN (t.reads.length - k) { t with at_ := k } = RR from HY.out, show t.reads.length - k = (t.reads.length - (k + 1)) + 1 from by omega, yCheckN_on (t := { t with at_ := k }) hce, hs]
    rfl
   have hwk : IntKind.i64.wrap ((k : Int) + 1) = ((k + 1 : Nat) : Int) := by rw [wrapP _ (by omega) (by omega)]; omega
   have HH : Hid (∀ n, Calls Tryz.prog 221 #[.pointer (some ⟨p, z + 19, none⟩), .int .i64 s] (wr.drewN n) fun e w' => e = .returned (.bool (t.holds s)) ∧ w' = wr.drewN n) := fun n =>
    t_holds p z A B { t with at_ := k } L (wr.drewN n) ((HRk.out).tt.drewN n) (HK.out).hl (nums_at ((HRk.out).drewN n).hd) s
   clear hg1 hg2 hm hsr hs8 hs hcv HY HRR HR hg
   cases hhb : t.holds s with
   | true =>
    rw [hhb] at HH
    have HY3 : Hid (yCheckN (t.reads.length - (k + 1)) { t with at_ := k + 1 } = RR) := by
     have := HY2.out
     rw [hhb] at this
     exact this
    have hb1 : ∀ n, TAt ((wr.drewN n).setCell ⟨p, z + 19 + 27, none⟩ (.int .i64 ((k + 1 : Nat) : Int))) p z A B { t with at_ := k + 1 } L := fun n => ((HRk.out).tt.drewN n).set 46 (by decide) _ rfl
    have hO1 : ∀ n, Only p wr ((wr.drewN n).setCell ⟨p, z + 19 + 27, none⟩ (.int .i64 ((k + 1 : Nat) : Int))) := fun n => ((Only.refl _ _).drewN n).set
    have HR1 : Hid (∀ n, TR base p z A B ((wr.drewN n).setCell ⟨p, z + 19 + 27, none⟩ (.int .i64 ((k + 1 : Nat) : Int))) { t with at_ := k + 1 } L) := fun n => (HRk.out).next (hb1 n) (hO1 n) rfl rfl rfl rfl rfl rfl
    have HO1 : Hid (∀ n, Only p wr ((wr.drewN n).setCell ⟨p, z + 19 + 27, none⟩ (.int .i64 ((k + 1 : Nat) : Int)))) := hO1
    clear hb1 hO1 HY2
    go_wp2_with fail
    go_quiet (fail)
    go_wp2_with fail
    go_quiet (fail)
    go_wp2_with fail
    refine ((HH.out) _).mono ?_
    rintro e w1 ⟨rfl, rfl⟩
    go_wp2_with fail
    go_roundg (gk - 1)
    case rel => exact ⟨k + 1, by omega, by omega, HY3, (HR1.out) _, (HOk.out).trans ((HO1.out) _)⟩
    case measure => omega
   | false =>
    rw [hhb] at HH
    have HF : Hid (RR = yLoad 19 (hVer s) { t with at_ := k }) := by
     have := HY2.out
     rw [hhb] at this
     exact this.symm
    have HD : Hid (∀ e w', DidT p z A B (yLoad 19 (hVer s) { t with at_ := k }) L w e w' → DidT p z A B RR L w e w') := fun e w' h => by rw [HF.out]; exact h
    clear HY2
    go_wp2_with fail
    go_quiet (fail)
    go_wp2_with fail
    go_quiet (fail)
    go_wp2_with fail
    refine ((HH.out) _).mono ?_
    rintro e w1 ⟨rfl, rfl⟩
    go_wp2_with fail
    refine (t_version s _ HS8.out).mono ?_
    rintro e w1 ⟨rfl, rfl⟩
    go_wp2_with fail
    refine (t_load p z A B { t with at_ := k } L 19 (hVer s) _ ((HRk.out).tt.drewN _)).mono ?_
    rintro e w2 ⟨rfl, a1, a2⟩
    go_wp2
    refine bodyPost_ret (results_none rfl _ _ _) rfl ?_
    exact HD.out _ _ ⟨rfl, a1, (HOk.out).trans (((Only.refl _ _).drewN _).trans a2)⟩
end
section
variable (base p z : Nat) (A B : List Value) (t : PT) (L : Ls) (w : World)
set_option maxHeartbeats 4000000 in
theorem t_followCommit (R : TR base p z A B w t L) (ok : TOk t) (hfl : t.fails + 1 ≤ 2 ^ 40) (seen : Int) (hsn : -1 ≤ seen ∧ seen ≤ 2 ^ 50) (hcl : -1 ≤ t.clock ∧ t.clock ≤ 2 ^ 50)
  (hs : t.step = 19 ∨ False) (hat : t.step = 19 → t.at_ < t.reads.length) :
  Calls Tryz.prog 159 #[.pointer (some ⟨p, z, none⟩), .int .i64 seen] w (DidT p z A B (yFollowCommit seen t) L w) := by
 have hb := R.tt
 have h13 := hb.cStep
 have h38 := hb.cAt
 have h37 := hb.cClock
 have hf := hb.froz
 have HR : Hid (TR base p z A B w t L) := R
 have HB : Hid (TAt w p z A B t L) := hb
 have HK : Hid (TOk t) := ok
 have HF : Hid (t.fails + 1 ≤ 2 ^ 40) := hfl
 have HC : Hid (-1 ≤ t.clock ∧ t.clock ≤ 2 ^ 50) := hcl
 have HS : Hid (-1 ≤ seen ∧ seen ≤ 2 ^ 50) := hsn
 unfold yFollowCommit
 rcases hs with hs | hs
 ·rw [if_neg (by omega), if_neg (by omega), if_neg (by omega), if_pos hs]
  have hlt := hat hs
  rw [hs] at h13
  have h30 := hb.cReads
  have hrl := ok.rl
  obtain ⟨g, hg, hg1, hg2, _⟩ := ents_at R.rd t.at_ hlt
  rw [hg] at h30
  have hkl : (t.at_ : Int) < (t.reads.length : Int) := by omega
  have hk0 : (0 : Int) ≤ (t.at_ : Int) := by omega
  obtain ⟨v, hv⟩ : ∃ v, v = (t.reads.getD t.at_ ⟨0, 0⟩).val := ⟨_, rfl⟩
  rw [← hv] at hg2 ⊢
  have hwk : IntKind.i64.wrap ((t.at_ : Int) + 1) = ((t.at_ + 1 : Nat) : Int) := by rw [wrapP _ (by omega) (by omega)]; omega
  by_cases hm : seen = v
  ·rw [if_neg (fun q => q hm)]
   have hmb : (seen != v) = false := by simp [hm]
   have hmb2 : (seen == v) = true := by simp [hm]
   have hb1 : ∀ n, TAt ((w.drewN n).setCell ⟨p, z + 19 + 27, none⟩ (.int .i64 ((t.at_ + 1 : Nat) : Int))) p z A B { t with at_ := t.at_ + 1 } L := fun n => (hb.drewN n).set 46 (by decide) _ rfl
   have hO1 : ∀ n, Only p w ((w.drewN n).setCell ⟨p, z + 19 + 27, none⟩ (.int .i64 ((t.at_ + 1 : Nat) : Int))) := fun n => ((Only.refl _ _).drewN n).set
   have HR1 : Hid (∀ n, TR base p z A B ((w.drewN n).setCell ⟨p, z + 19 + 27, none⟩ (.int .i64 ((t.at_ + 1 : Nat) : Int))) { t with at_ := t.at_ + 1 } L) := fun n => R.next (hb1 n) (hO1 n) rfl rfl rfl rfl rfl rfl
   have HO1 : Hid (∀ n, Only p w ((w.drewN n).setCell ⟨p, z + 19 + 27, none⟩ (.int .i64 ((t.at_ + 1 : Nat) : Int)))) := hO1
   have HL : Hid (t.at_ + 1 ≤ t.reads.length) := hlt
   clear hb ok R hfl hs hat hcl hsn hb1 hO1 HR HB hg1 hlt hrl hg hv h37 hm
   go_enter Tryz.func159, Tryz.ntmps159
   go_wp2_with fail
   go_quiet (fail)
   go_wp2_with fail
   refine (t_check base p z A B { t with at_ := t.at_ + 1 } L _ (HR1.out _) HK.out HC.out HL.out).mono ?_
   rintro e w1 ⟨rfl, a1, a2⟩
   go_wp2
   go_end0
   exact ⟨rfl, a1, (HO1.out _).trans a2⟩
  ·rw [if_pos hm]
   have hmb : (seen != v) = true := by simpa using hm
   have hmb2 : (seen == v) = false := by simpa using hm
   clear hb ok R hfl hs hat hcl hsn HR hg1 hlt hrl hg hv h37 hm
   go_enter Tryz.func159, Tryz.ntmps159
   go_wp2_with fail
   go_quiet (fail)
   go_wp2_with fail
   refine (t_failGate p z A B t L _ (by exact HB.out)).mono ?_
   rintro e w1 ⟨rfl, a1, a2⟩
   go_wp2
   refine bodyPost_ret (results_none rfl _ _ _) rfl ?_
   exact ⟨rfl, a1, a2.quiet rfl rfl rfl rfl⟩
 ·exact hs.elim
set_option maxHeartbeats 4000000 in
theorem t_followStore (R : TR base p z A B w t L) (ok : TOk t) (hcl : -1 ≤ t.clock ∧ t.clock ≤ 2 ^ 50)
  (hs : t.step = 20 ∨ t.step = 23 ∨ t.step = 24 ∨ t.step = 25) (hat : t.at_ ≤ 1000) (hat2 : t.step = 24 → t.at_ < t.held.length) :
  Calls Tryz.prog 160 #[.pointer (some ⟨p, z, none⟩)] w (DidT p z A B (yFollowStore t) L w) := by
 have hb := R.tt
 have h13 := hb.cStep
 have h38 := hb.cAt
 have hf := hb.froz
 have HB : Hid (TAt w p z A B t L) := hb
 have HK : Hid (TOk t) := ok
 have HC : Hid (-1 ≤ t.clock ∧ t.clock ≤ 2 ^ 50) := hcl
 have hwk : IntKind.i64.wrap ((t.at_ : Int) + 1) = ((t.at_ + 1 : Nat) : Int) := by rw [wrapP _ (by omega) (by omega)]; omega
 have hb1 : TAt (w.setCell ⟨p, z + 19 + 27, none⟩ (.int .i64 ((t.at_ + 1 : Nat) : Int))) p z A B { t with at_ := t.at_ + 1 } L := hb.set 46 (by decide) _ rfl
 have hO1 : Only p w (w.setCell ⟨p, z + 19 + 27, none⟩ (.int .i64 ((t.at_ + 1 : Nat) : Int))) := (Only.refl _ _).set
 have HR1 : Hid (TR base p z A B (w.setCell ⟨p, z + 19 + 27, none⟩ (.int .i64 ((t.at_ + 1 : Nat) : Int))) { t with at_ := t.at_ + 1 } L) := R.next hb1 hO1 rfl rfl rfl rfl rfl rfl
 have HO1 : Hid (Only p w (w.setCell ⟨p, z + 19 + 27, none⟩ (.int .i64 ((t.at_ + 1 : Nat) : Int)))) := hO1
 unfold yFollowStore
 rcases hs with hs | hs | hs | hs
 ·rw [if_pos hs]
  rw [hs] at h13
  clear hb ok R hs hat hat2 hcl hb1 hO1
  go_enter Tryz.func160, Tryz.ntmps160
  go_wp2_with fail
  refine (t_shut base p z A B { t with at_ := t.at_ + 1 } L _ HR1.out HK.out HC.out).mono ?_
  rintro e w1 ⟨rfl, a1, a2⟩
  go_wp2
  go_end0
  exact ⟨rfl, a1, (HO1.out).trans a2⟩
 ·rw [if_neg (by omega), if_neg (by omega), if_neg (by omega), if_pos hs]
  rw [hs] at h13
  clear hb ok R hs hat hat2 hcl hb1 hO1
  go_enter Tryz.func160, Tryz.ntmps160
  go_wp2_with fail
  refine (t_put base p z A B { t with at_ := t.at_ + 1 } L _ HR1.out HK.out HC.out).mono ?_
  rintro e w1 ⟨rfl, a1, a2⟩
  go_wp2
  go_end0
  exact ⟨rfl, a1, (HO1.out).trans a2⟩
 ·rw [if_neg (by omega), if_neg (by omega), if_neg (by omega), if_neg (by omega), if_pos hs]
  have hlt := hat2 hs
  rw [hs] at h13
  have h32 := hb.cHeld
  have h0 := hb.cT
  have h1 := hb.cWd
  have h2 := hb.cS
  have h3 := hb.cG
  have h4 := hb.cR
  have h5 := hb.cCp
  have h6 := hb.cF
  obtain ⟨g, hg, hgc⟩ := nums_at R.hd t.at_ hlt
  rw [hg] at h32
  have hm : t.held.getD t.at_ 0 ∈ t.held := by rw [show t.held.getD t.at_ 0 = t.held[t.at_] from by simp [List.getD, List.getElem?_eq_getElem hlt]]; exact List.getElem_mem hlt
  have hsr := ok.hd _ hm
  have hs8 := ok.cb.2.2.1
  have hkl : (t.at_ : Int) < (t.held.length : Int) := by omega
  have hk0 : (0 : Int) ≤ (t.at_ : Int) := by omega
  obtain ⟨s, hse⟩ : ∃ s, s = t.held.getD t.at_ 0 := ⟨_, rfl⟩
  rw [← hse] at hgc hsr ⊢
  have HS8 : Hid (0 ≤ s ∧ s ≤ 100) := ⟨hsr.1, by omega⟩
  clear hb ok R hs hat hat2 hcl hb1 hO1 HR1 HO1 hm hsr hs8 hse hlt hwk
  go_enter Tryz.func160, Tryz.ntmps160
  go_wp2_with fail
  go_region_with (first
      | (go_at_call 184; refine (t_owner p z A B t L _ (by exact HB.out) HK.out s (HS8.out).1 (HS8.out).2).mono ?_; rintro e w3 ⟨rfl, hB⟩; have hb3 : TAt w3 p z A B t L := TAt.below (by exact HB.out) hB)
      | (go_at_call 197; refine (t_store p z A B t L 25 (cOwnOf t.c s) 0 _ (by assumption)).mono ?_; rintro e w4 ⟨rfl, a1, a2⟩))
  all_goals
   go_wp2
   go_end0
   exact ⟨rfl, a1, Only.trans (by first | exact Only.below hB | exact ((Only.refl _ _).drew).trans (Only.below hB)) a2⟩
 ·rw [if_neg (by omega), if_neg (by omega), if_neg (by omega), if_neg (by omega), if_neg (by omega), if_pos hs]
  rw [hs] at h13
  clear hb ok R hs hat hat2 hcl hb1 hO1
  go_enter Tryz.func160, Tryz.ntmps160
  go_wp2_with fail
  refine (t_release base p z A B { t with at_ := t.at_ + 1 } L _ HR1.out HK.out HC.out).mono ?_
  rintro e w1 ⟨rfl, a1, a2⟩
  go_wp2
  go_end0
  exact ⟨rfl, a1, (HO1.out).trans a2⟩
end
end Go.Proofs.YtejadojilncbjabGreat
