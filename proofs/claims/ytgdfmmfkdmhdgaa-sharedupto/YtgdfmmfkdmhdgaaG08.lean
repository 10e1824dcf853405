import Derived.Test.YtgdfmmfkdmhdgaaG07
namespace Go.Proofs.Ytgdfmmfkdmhdgaa
open Go.RowKit
set_option linter.unusedVariables false
attribute [local go_sem ↓] Go.wp_at_zero Go.wp_at_succ

section
variable (base p z : Nat) (A B : List Value) (t : PT) (L : Ls) (w : World)

set_option maxHeartbeats 1000000 in
theorem t_weigh (R : TR base p z A B w t L) (ok : TOk t) (hfl : t.fails + 1 ≤ 2 ^ 40) (status : Int) (h0 : 0 ≤ status) (h1 : status ≤ 1125899906842624) (hu : 0 ≤ t.rival ∧ t.rival ≤ 100) :
    Calls Try.prog 117 #[.pointer (some ⟨p, z, none⟩), .int .i64 status] w (DidT p z A B (yWeigh status t) L w) := by
  have hb := R.tt
  have h10 := hb.cRank
  have h35 := hb.cRival
  have h36 := hb.cWay
  have hf := hb.froz
  have HB : Hid (TAt w p z A B t L) := hb
  have HK : Hid (TOk t) := ok
  have HF : Hid (t.fails + 1 ≤ 2 ^ 40) := hfl
  have HU : Hid (0 ≤ t.rival ∧ t.rival ≤ 100) := hu
  have hn := ok.num
  have ht := ok.cb.1
  have hws : IntKind.i64.wrap (status + (t.num + 1)) = status + (t.num + 1) := wrapP _ (by omega) (by omega)
  obtain ⟨q, hq⟩ : ∃ q, q = status.tdiv 8 := ⟨_, rfl⟩
  have HM : Hid (∀ w, Calls Try.prog 136 #[.int .i64 status] w fun e w' => e = .returned (.int .i64 q) ∧ w' = w) := fun w => by rw [hq]; exact t_rankIn status w (by omega) h1
  unfold yWeigh
  rw [← hq]
  by_cases hc : 0 < q ∧ q < t.rank
  · rw [if_pos hc]
    obtain ⟨hc1, hc2⟩ := hc
    have hb1 : TAt (w.setCell ⟨p, z + 18 + 18, none⟩ (.int .i64 t.rival)) p z A B { t with wayTo := t.rival } L := hb.set 36 (by decide) _ rfl
    have HO : Hid (Only p w (w.setCell ⟨p, z + 18 + 18, none⟩ (.int .i64 t.rival))) := (Only.refl _ _).set
    have HR1 : Hid (TR base p z A B (w.setCell ⟨p, z + 18 + 18, none⟩ (.int .i64 t.rival)) { t with wayTo := t.rival } L) := R.next hb1 HO.out rfl rfl rfl rfl
    clear hb ok R hfl hu h0 h1 hq hb1 hn ht
    go_enter Try.func117, Try.ntmps117
    go_wp2_with fail
    refine (HM.out _).mono ?_
    rintro e w1 ⟨rfl, rfl⟩
    go_wp2_with fail
    refine (t_fail base p z A B { t with wayTo := t.rival } L _ HR1.out HK.out HF.out).mono ?_
    rintro e w1 ⟨rfl, a1, a2⟩
    go_wp2
    refine bodyPost_ret (results_none rfl _ _ _) rfl ?_
    exact ⟨rfl, a1, (HO.out).trans a2⟩
  · rw [if_neg hc]
    have HMk : Hid (∀ w, Calls Try.prog 111 #[.int .i64 status] w fun e w' => e = .returned (.bool (status.tmod 8 != 0)) ∧ w' = w) := fun w => t_marked status w
    have hg : (0 < q) = False ∨ (0 < q) = True ∧ (q < t.rank) = False := by
      by_cases h : 0 < q
      · exact Or.inr ⟨by simp [h], by simp; omega⟩
      · exact Or.inl (by simp [h])
    by_cases hm : status.tmod 8 = 0
    · rw [if_neg (fun q => q hm)]
      have hmb : (status.tmod 8 != 0) = false := by simp [hm]
      rw [hmb] at HMk
      clear hb ok R hfl hu h0 h1 hq hn ht hc hmb hm
      rcases hg with hg | ⟨hg1, hg2⟩
      all_goals
        go_enter Try.func117, Try.ntmps117
        go_wp2_with fail
        refine (HM.out _).mono ?_
        rintro e w1 ⟨rfl, rfl⟩
        go_wp2_with fail
        refine (HMk.out _).mono ?_
        rintro e w1 ⟨rfl, rfl⟩
        go_wp2_with fail
        refine (t_statusOf p z A B t L _ HB.out HK.out t.rival (HU.out).1 (HU.out).2).mono ?_
        rintro e w1 ⟨rfl, hB⟩
        go_wp2_with fail
        refine (t_name p z A B t L _ ((HB.out).below hB) HK.out).mono ?_
        rintro e w2 ⟨rfl, rfl⟩
        go_wp2_with fail
        refine (t_swap p z A B t L 10 (t.staOf t.rival) status (status + (t.num + 1)) _ ((HB.out).below hB)).mono ?_
        rintro e w3 ⟨rfl, a1, a2⟩
        go_wp2
        go_end0
        exact ⟨rfl, a1, (Only.below hB).trans a2⟩
    · rw [if_pos hm]
      have hmb : (status.tmod 8 != 0) = true := by simpa using hm
      rw [hmb] at HMk
      clear hb ok R hfl hu h0 h1 hq hn ht hc hmb hm
      rcases hg with hg | ⟨hg1, hg2⟩
      all_goals
        go_enter Try.func117, Try.ntmps117
        go_wp2_with fail
        refine (HM.out _).mono ?_
        rintro e w1 ⟨rfl, rfl⟩
        go_wp2_with fail
        refine (HMk.out _).mono ?_
        rintro e w1 ⟨rfl, rfl⟩
        go_wp2_with fail
        refine (t_get p z A B t L _ HB.out HK.out).mono ?_
        rintro e w3 ⟨rfl, a1, a2⟩
        go_wp2
        refine bodyPost_ret (results_none rfl _ _ _) rfl ?_
        exact ⟨rfl, a1, a2⟩

set_option maxHeartbeats 2000000 in
theorem t_ticket (R : TR base p z A B w t L) (ok : TOk t) (hfl : t.fails + 1 ≤ 2 ^ 40) (hs : t.step = 14 ∨ t.step = 15) (kind cell seen put : Int) (hp : t.step = 14 → 0 ≤ put ∧ put ≤ 2 ^ 40) :
    Calls Try.prog 92 #[.pointer (some ⟨p, z, none⟩), .agg #[.int .i64 kind, .int .i64 cell, .int .i64 seen, .int .i64 put]] w (DidT p z A B (yFollowTicket seen put t) L w) := by
  have hB1 : Below w.heap.size w (w.alloc (.cells #[.int .i64 kind, .int .i64 cell, .int .i64 seen, .int .i64 put] 51)) := (Below.refl _ _).alloc (Nat.le_refl _) _
  have R1 := R.below hB1
  have h13 := R.tt.cStep
  have h10 := R.tt.cRank
  have hf := R.tt.froz
  have hlt := R.tt.lt
  have hne : p ≠ w.heap.size := by omega
  have HR : Hid (TR base p z A B (w.alloc (.cells #[.int .i64 kind, .int .i64 cell, .int .i64 seen, .int .i64 put] 51)) t L) := R1
  have HK : Hid (TOk t) := ok
  have HF : Hid (t.fails + 1 ≤ 2 ^ 40) := hfl
  have HOn : Hid (Only p w (w.alloc (.cells #[.int .i64 kind, .int .i64 cell, .int .i64 seen, .int .i64 put] 51))) := Only.below hB1
  unfold yFollowTicket
  rcases hs with hs | hs
  · rw [if_pos hs]
    rw [hs] at h13
    have hp' := hp hs
    have hw8 : IntKind.i64.wrap (8 * put) = 8 * put := wrapP _ (by omega) (by omega)
    have HB2 : Hid (TAt ((w.setCell ⟨p, z + 10, none⟩ (.int .i64 put)).alloc (.cells #[.int .i64 kind, .int .i64 cell, .int .i64 seen, .int .i64 put] 51)) p z A B { t with rank := put } L) := TAt.below (R.tt.set (t' := { t with rank := put }) 10 (by decide) (.int .i64 put) rfl) ((Below.refl _ _).alloc (Nat.le_refl _) _)
    have HO2 : Hid (Only p w ((w.setCell ⟨p, z + 10, none⟩ (.int .i64 put)).alloc (.cells #[.int .i64 kind, .int .i64 cell, .int .i64 seen, .int .i64 put] 51))) := ((Only.refl _ _).set).trans (Only.below ((Below.refl _ _).alloc (Nat.le_refl _) _))
    have HK1 : Hid (TOk { t with rank := put }) := ⟨ok.cfg, ok.num, hp', ok.fails, ok.rd, ok.wr, ok.hd, ok.rl, ok.wl, ok.hl, ok.ml, ok.cur⟩
    clear ok R hfl hs hp hp' R1 hB1 HR HF HK HOn
    go_enter Try.func92, Try.ntmps92
    go_wp2_with fail
    generalize (w.setCell ⟨p, z + 10, none⟩ (.int .i64 put)).alloc (.cells #[.int .i64 kind, .int .i64 cell, .int .i64 seen, .int .i64 put] 51) = w2 at *
    have h10b : w2.cell? ⟨p, z + 10, none⟩ = some (.int .i64 put) := (HB2.out).cRank
    clear h10 h13 hf hlt hne
    go_region_with (first
      | (go_at_call 122; refine (t_ownStatus p z A B { t with rank := put } L _ (by exact HB2.out) HK1.out).mono ?_; rintro e w3 ⟨rfl, hB⟩; have hb3 : TAt w3 p z A B { t with rank := put } L := TAt.below (by exact HB2.out) hB; have h10c : w3.cell? ⟨p, z + 10, none⟩ = some (.int .i64 put) := hb3.cRank)
      | (go_at_call 113; refine (t_swap p z A B { t with rank := put } L 15 t.sta 0 (8 * put) _ (by assumption)).mono ?_; rintro e w4 ⟨rfl, a1, a2⟩))
    all_goals
      go_wp2
      go_end0
      exact ⟨rfl, a1, (HO2.out).trans (Only.trans (by first | exact Only.below hB | exact ((Only.refl _ _).drew).trans (Only.below hB)) a2)⟩
  · rw [if_neg (by omega), if_pos hs]
    rw [hs] at h13
    by_cases hz : seen = 0
    · rw [if_neg (fun q => q hz)]
      have HB : Hid (TAt w p z A B t L) := R.tt
      clear ok R hfl hs hp R1 hB1 HR
      subst hz
      go_enter Try.func92, Try.ntmps92
      go_wp2
      go_end0
      exact ⟨rfl, TAt.below ((HB.out).set (t' := { t with step := 1 }) 13 (by decide) (.int .i64 1) rfl) ((Below.refl _ _).alloc (Nat.le_refl _) _), ((Only.refl _ _).set).trans (Only.below ((Below.refl _ _).alloc (Nat.le_refl _) _))⟩
    · rw [if_pos hz]
      have hzb : (seen != 0) = true := by simpa using hz
      have hzb2 : (seen == 0) = false := by simpa using hz
      clear ok R hfl hs hp R1 hB1
      go_enter Try.func92, Try.ntmps92
      go_wp2_with fail
      refine (t_fail base p z A B t L _ HR.out HK.out HF.out).mono ?_
      rintro e w2 ⟨rfl, a1, a2⟩
      go_wp2
      refine bodyPost_ret (results_none rfl _ _ _) rfl ?_
      exact ⟨rfl, a1, (HOn.out).trans a2⟩

theorem t_version (s : Int) (w : World) (h : 0 ≤ s ∧ s ≤ 100) : Calls Try.prog 108 #[.int .i64 s] w fun e w' => e = .returned (.int .i64 (hVer s)) ∧ w' = w := version_any s w h.1 (by omega)

set_option maxHeartbeats 2000000 in
theorem t_shut (R : TR base p z A B w t L) (ok : TOk t) (hcl : -1 ≤ t.clock ∧ t.clock ≤ 2 ^ 50) : Calls Try.prog 125 #[.pointer (some ⟨p, z, none⟩)] w (DidT p z A B (yShut t) L w) := by
  have hb := R.tt
  have h38 := hb.cAt
  have h32 := hb.cHeld
  have HB : Hid (TAt w p z A B t L) := hb
  have HC : Hid (-1 ≤ t.clock ∧ t.clock ≤ 2 ^ 50) := hcl
  unfold yShut
  by_cases hc : t.at_ < t.held.length
  · rw [if_pos hc]
    have h1 : (t.at_ : Int) < (t.held.length : Int) := by omega
    have hk0 : (0 : Int) ≤ (t.at_ : Int) := by omega
    obtain ⟨g, hg, hgc⟩ := nums_at R.hd t.at_ hc
    rw [hg] at h32
    have hm : t.held.getD t.at_ 0 ∈ t.held := by rw [show t.held.getD t.at_ 0 = t.held[t.at_] from by simp [List.getD, List.getElem?_eq_getElem hc]]; exact List.getElem_mem hc
    have hsr := ok.hd _ hm
    have hs8 := ok.cb.2.2.1
    obtain ⟨s, hs⟩ : ∃ s, s = t.held.getD t.at_ 0 := ⟨_, rfl⟩
    rw [← hs] at hgc hsr ⊢
    have HS8 : Hid (0 ≤ s ∧ s ≤ 100) := ⟨hsr.1, by omega⟩
    clear hb ok R hm hsr hs8 hs hc hcl
    go_enter Try.func125, Try.ntmps125
    go_wp2_with fail
    go_quiet (fail)
    go_wp2_with fail
    go_region_with (first
      | (go_at_call 108; refine (t_version s _ HS8.out).mono ?_; rintro e w' ⟨rfl, rfl⟩)
      | (go_at_call 126; refine (t_store p z A B t L 20 (hVer s) (-1) _ (by exact HB.out)).mono ?_; rintro e w2 ⟨rfl, a1, a2⟩))
    all_goals
      go_wp2
      go_end0
      exact ⟨rfl, a1, a2.quiet rfl rfl rfl rfl⟩
  · rw [if_neg hc]
    have h1 : ¬ (t.at_ : Int) < (t.held.length : Int) := by omega
    clear hb ok R hc hcl
    go_enter Try.func125, Try.ntmps125
    go_wp2_with fail
    go_quiet (fail)
    go_wp2_with fail
    refine (t_stamp p z A B t L _ (by exact HB.out) (HC.out).1 (HC.out).2).mono ?_
    rintro e w1 ⟨rfl, rfl⟩
    go_wp2_with fail
    refine (t_store p z A B t L 21 0 (t.clock + 1) _ (by exact HB.out)).mono ?_
    rintro e w2 ⟨rfl, a1, a2⟩
    go_wp2
    go_end0
    exact ⟨rfl, a1, a2.quiet rfl rfl rfl rfl⟩

set_option maxHeartbeats 4000000 in
theorem t_release (R : TR base p z A B w t L) (ok : TOk t) (hcl : -1 ≤ t.clock ∧ t.clock ≤ 2 ^ 50) : Calls Try.prog 128 #[.pointer (some ⟨p, z, none⟩)] w (DidT p z A B (yRelease t) L w) := by
  have hb := R.tt
  have h38 := hb.cAt
  have h32 := hb.cHeld
  have HB : Hid (TAt w p z A B t L) := hb
  have HK : Hid (TOk t) := ok
  have HC : Hid (-1 ≤ t.clock ∧ t.clock ≤ 2 ^ 50) := hcl
  unfold yRelease
  by_cases hc : t.at_ < t.held.length
  · rw [if_pos hc]
    have h1 : (t.at_ : Int) < (t.held.length : Int) := by omega
    have hk0 : (0 : Int) ≤ (t.at_ : Int) := by omega
    obtain ⟨g, hg, hgc⟩ := nums_at R.hd t.at_ hc
    rw [hg] at h32
    have hm : t.held.getD t.at_ 0 ∈ t.held := by rw [show t.held.getD t.at_ 0 = t.held[t.at_] from by simp [List.getD, List.getElem?_eq_getElem hc]]; exact List.getElem_mem hc
    have hsr := ok.hd _ hm
    have hs8 := ok.cb.2.2.1
    obtain ⟨s, hs⟩ : ∃ s, s = t.held.getD t.at_ 0 := ⟨_, rfl⟩
    rw [← hs] at hgc hsr ⊢
    have HS8 : Hid (0 ≤ s ∧ s ≤ 100) := ⟨hsr.1, by omega⟩
    clear hb ok R hm hsr hs8 hs hc hcl
    go_enter Try.func128, Try.ntmps128
    go_wp2_with fail
    go_quiet (fail)
    go_wp2_with fail
    go_region_with (first
      | (go_at_call 108; refine (t_version s _ HS8.out).mono ?_; rintro e w' ⟨rfl, rfl⟩)
      | (go_at_call 146; refine (t_stamp p z A B t L _ (by exact HB.out) (HC.out).1 (HC.out).2).mono ?_; rintro e w' ⟨rfl, rfl⟩)
      | (go_at_call 126; refine (t_store p z A B t L 24 (hVer s) (t.clock + 1) _ (by exact HB.out)).mono ?_; rintro e w2 ⟨rfl, a1, a2⟩))
    all_goals
      go_wp2
      go_end0
      exact ⟨rfl, a1, a2.quiet rfl rfl rfl rfl⟩
  · rw [if_neg hc]
    have h1 : ¬ (t.at_ : Int) < (t.held.length : Int) := by omega
    clear hb ok R hc hcl
    go_enter Try.func128, Try.ntmps128
    go_wp2_with fail
    go_quiet (fail)
    go_wp2_with fail
    refine (t_end p z A B t L _ (by exact HB.out) HK.out).mono ?_
    rintro e w2 ⟨rfl, a1, a2⟩
    go_wp2
    go_end0
    exact ⟨rfl, a1, a2.quiet rfl rfl rfl rfl⟩
end

end Go.Proofs.Ytgdfmmfkdmhdgaa
