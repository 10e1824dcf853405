import Derived.Test.YtejadojilncbjaaGreatH36
namespace Go.Proofs.YtejadojilncbjaaGreat
open Go.RowKit
set_option linter.unusedVariables false
attribute [local go_sem ↓] Go.wp_at_zero Go.wp_at_succ

section
variable (base p z : Nat) (A B : List Value) (t : PT) (L : Ls) (w : World)

set_option maxHeartbeats 1000000 in
theorem t_await2 (hb : TAt w p z A B t L) (status : Int) (h0 : 0 ≤ status) (h1 : status ≤ 1125899906842624) :
    Calls Tryz.prog 116 #[.pointer (some ⟨p, z, none⟩), .int .i64 status] w (DidT p z A B (yAwait status t) L w) := by
  have h10 := hb.cRank
  have HB : Hid (TAt w p z A B t L) := hb
  obtain ⟨q, hq⟩ : ∃ q, q = status.tdiv 8 := ⟨_, rfl⟩
  have HM : Hid (∀ w, Calls Tryz.prog 155 #[.int .i64 status] w fun e w' => e = .returned (.int .i64 q) ∧ w' = w) := fun w => by rw [hq]; exact t_rankIn status w (by omega) h1
  unfold yAwait
  rw [← hq]
  clear hb h0 h1 hq
  by_cases hc : q = 0 ∨ (0 < t.rank ∧ t.rank < q)
  · rw [if_pos hc]
    rcases hc with hc | ⟨hc1, hc2⟩
    · subst hc
      go_enter Tryz.func116, Tryz.ntmps116
      go_wp2_with fail
      refine (HM.out _).mono ?_
      rintro e w1 ⟨rfl, rfl⟩
      go_wp2_with fail
      refine (t_begin p z A B t L _ HB.out).mono ?_
      rintro e w1 ⟨rfl, a1, a2⟩
      go_wp2
      go_end0
      exact ⟨rfl, a1, a2⟩
    · have hqb : (q == 0) = false := by rw [beq_eq_false_iff_ne]; omega
      go_enter Tryz.func116, Tryz.ntmps116
      go_wp2_with fail
      refine (HM.out _).mono ?_
      rintro e w1 ⟨rfl, rfl⟩
      go_wp2_with fail
      refine (t_begin p z A B t L _ HB.out).mono ?_
      rintro e w1 ⟨rfl, a1, a2⟩
      go_wp2
      go_end0
      exact ⟨rfl, a1, a2⟩
  · rw [if_neg hc]
    have hqb : (q == 0) = false := by rw [beq_eq_false_iff_ne]; exact fun h => hc (Or.inl h)
    by_cases hr : 0 < t.rank
    · have hr2 : ¬ t.rank < q := fun h => hc (Or.inr ⟨hr, h⟩)
      clear hc
      go_enter Tryz.func116, Tryz.ntmps116
      go_wp2_with fail
      refine (HM.out _).mono ?_
      rintro e w1 ⟨rfl, rfl⟩
      go_wp2
      go_end0
      exact ⟨rfl, HB.out, Only.refl _ _⟩
    · clear hc
      go_enter Tryz.func116, Tryz.ntmps116
      go_wp2_with fail
      refine (HM.out _).mono ?_
      rintro e w1 ⟨rfl, rfl⟩
      go_wp2
      go_end0
      exact ⟨rfl, HB.out, Only.refl _ _⟩

set_option maxHeartbeats 1000000 in
theorem t_followFail2 (R : TR base p z A B w t L) (ok : TOk t) (hfl : t.fails + 1 ≤ 2 ^ 40) (hs : t.step = 28 ∨ t.step = 30) (put : Int) (hp : t.step = 30 → 0 ≤ put ∧ put ≤ 2 ^ 40) :
    Calls Tryz.prog 113 #[.pointer (some ⟨p, z, none⟩), .int .i64 put] w (DidT p z A B (yFollowFail put t) L w) := by
  have hb := R.tt
  have h13 := hb.cStep
  have h38 := hb.cAt
  have h10 := hb.cRank
  have hf := hb.froz
  have HR : Hid (TR base p z A B w t L) := R
  have HK : Hid (TOk t) := ok
  have HF : Hid (t.fails + 1 ≤ 2 ^ 40) := hfl
  unfold yFollowFail
  rcases hs with hs | hs
  · rw [if_pos hs]
    rw [hs] at h13
    clear hb ok R hfl hs hp
    go_enter Tryz.func113, Tryz.ntmps113
    go_wp2_with fail
    refine (t_fail base p z A B t L _ HR.out HK.out HF.out).mono ?_
    rintro e w1 ⟨rfl, a1, a2⟩
    go_wp2
    go_end0
    exact ⟨rfl, a1, a2⟩
  · rw [if_neg (by omega), if_neg (by omega), if_pos hs]
    have hp' := hp hs
    rw [hs] at h13
    have hb1 : TAt (w.setCell ⟨p, z + 11, none⟩ (.int .i64 put)) p z A B { t with rank := put } L := hb.set 11 (by decide) _ rfl
    have HB1 : Hid (TAt (w.setCell ⟨p, z + 11, none⟩ (.int .i64 put)) p z A B { t with rank := put } L) := hb1
    have HO : Hid (Only p w (w.setCell ⟨p, z + 11, none⟩ (.int .i64 put))) := (Only.refl _ _).set
    have HK1 : Hid (TOk { t with rank := put }) := ⟨ok.cfg, ok.num, hp', ok.fails, ok.rd, ok.wr, ok.hd, ok.rl, ok.wl, ok.hl, ok.ml, ok.cur, ok.nl, ok.sl⟩
    clear hb ok R hfl hs hp hp' hb1 HR
    go_enter Tryz.func113, Tryz.ntmps113
    go_wp2_with fail
    refine (t_show p z A B { t with rank := put } L _ HB1.out HK1.out).mono ?_
    rintro e w1 ⟨rfl, a1, a2⟩
    go_wp2
    go_end0
    exact ⟨rfl, a1, (HO.out).trans a2⟩

set_option maxHeartbeats 4000000 in
theorem t_followStore2 (R : TR base p z A B w t L) (ok : TOk t) (hcl : -1 ≤ t.clock ∧ t.clock ≤ 2 ^ 50)
    (hs : t.step = 21 ∨ t.step = 22) :
    Calls Tryz.prog 110 #[.pointer (some ⟨p, z, none⟩)] w (DidT p z A B (yFollowStore t) L w) := by
  have hb := R.tt
  have h13 := hb.cStep
  have h38 := hb.cAt
  have hf := hb.froz
  have HB : Hid (TAt w p z A B t L) := hb
  have HK : Hid (TOk t) := ok
  have HC : Hid (-1 ≤ t.clock ∧ t.clock ≤ 2 ^ 50) := hcl
  unfold yFollowStore
  rcases hs with hs | hs
  · rw [if_neg (by omega), if_pos hs]
    rw [hs] at h13
    have h24 := hb.cStamp
    have HB2 : Hid (TAt (w.setCell ⟨p, z + 19 + 5, none⟩ (.int .i64 (t.clock + 1))) p z A B { t with aStamp := t.clock + 1 } L) := hb.set 24 (by decide) _ rfl
    have HO2 : Hid (Only p w (w.setCell ⟨p, z + 19 + 5, none⟩ (.int .i64 (t.clock + 1)))) := (Only.refl _ _).set
    clear hb ok R hs hcl
    go_enter Tryz.func110, Tryz.ntmps110
    go_wp2_with fail
    refine (t_stamp p z A B t L _ HB.out (HC.out).1 (HC.out).2).mono ?_
    rintro e w1 ⟨rfl, rfl⟩
    go_wp2_with fail
    refine (t_store p z A B { t with aStamp := t.clock + 1 } L 22 2 0 _ HB2.out).mono ?_
    rintro e w1 ⟨rfl, a1, a2⟩
    go_wp2
    go_end0
    exact ⟨rfl, a1, (HO2.out).trans a2⟩
  · rw [if_neg (by omega), if_neg (by omega), if_pos hs]
    rw [hs] at h13
    have hb2 : TAt (w.setCell ⟨p, z + 19 + 27, none⟩ (.int .i64 0)) p z A B { t with at_ := 0 } L := hb.set 46 (by decide) _ rfl
    have hO2 : Only p w (w.setCell ⟨p, z + 19 + 27, none⟩ (.int .i64 0)) := (Only.refl _ _).set
    have HR2 : Hid (TR base p z A B (w.setCell ⟨p, z + 19 + 27, none⟩ (.int .i64 0)) { t with at_ := 0 } L) := R.next hb2 hO2 rfl rfl rfl rfl rfl rfl
    have HO2 : Hid (Only p w (w.setCell ⟨p, z + 19 + 27, none⟩ (.int .i64 0))) := hO2
    clear hb ok R hs hcl hb2 hO2
    go_enter Tryz.func110, Tryz.ntmps110
    go_wp2_with fail
    refine (t_put base p z A B { t with at_ := 0 } L _ HR2.out HK.out HC.out).mono ?_
    rintro e w1 ⟨rfl, a1, a2⟩
    go_wp2
    go_end0
    exact ⟨rfl, a1, (HO2.out).trans a2⟩
set_option maxRecDepth 100000 in
set_option maxHeartbeats 2000000 in
theorem t_follow32b (R : TR base p z A B w t L) (kind cell seen put num draw : Int) (hs : t.step = 32) (h0 : 0 ≤ seen) (h1 : seen ≤ 1125899906842624) :
    Calls Tryz.prog 93 #[.pointer (some ⟨p, z, none⟩), .agg #[.int .i64 kind, .int .i64 cell, .int .i64 seen, .int .i64 put], .int .i64 num, .int .i64 draw] w (Dids base p z A B (yAwait seen t) L w) := by
  have h13 := R.tt.cStep
  rw [hs] at h13
  have hlt := R.tt.lt
  have hne : p ≠ w.heap.size := by omega
  have hB0 : Below w.heap.size w (w.alloc (.cells #[.int .i64 kind, .int .i64 cell, .int .i64 seen, .int .i64 put] 40)) := (Below.refl _ _).alloc (Nat.le_refl _) _
  have HRa : Hid (TR base p z A B (w.alloc (.cells #[.int .i64 kind, .int .i64 cell, .int .i64 seen, .int .i64 put] 40)) t L) := R.below hB0
  have HOa : Hid (Only p w (w.alloc (.cells #[.int .i64 kind, .int .i64 cell, .int .i64 seen, .int .i64 put] 40))) := Only.below hB0
  have HS0 : Hid (0 ≤ seen) := h0
  have HSn : Hid (seen ≤ 1125899906842624) := h1
  clear h0 h1
  clear R hB0
  go_enter Tryz.func93, Tryz.ntmps93
  go_wp2_with fail
  refine (t_await2 p z A B t L _ (HRa.out).tt seen HS0.out HSn.out).mono ?_
  rintro e w2 ⟨rfl, a1, a2⟩
  go_wp2
  go_end0
  exact ⟨rfl, L, (HRa.out).by a1 a2 (lists_await seen t), Goes.only ((HOa.out).trans a2)⟩

set_option maxRecDepth 100000 in
set_option maxHeartbeats 2000000 in
theorem t_follow21b (R : TR base p z A B w t L) (kind cell seen put num draw : Int) (hs : t.step = 21) (ok : TOk t) (hcl : -1 ≤ t.clock ∧ t.clock ≤ 2 ^ 50) :
    Calls Tryz.prog 93 #[.pointer (some ⟨p, z, none⟩), .agg #[.int .i64 kind, .int .i64 cell, .int .i64 seen, .int .i64 put], .int .i64 num, .int .i64 draw] w (Dids base p z A B (yFollowStore t) L w) := by
  have h13 := R.tt.cStep
  rw [hs] at h13
  have hlt := R.tt.lt
  have hne : p ≠ w.heap.size := by omega
  have hB0 : Below w.heap.size w (w.alloc (.cells #[.int .i64 kind, .int .i64 cell, .int .i64 seen, .int .i64 put] 40)) := (Below.refl _ _).alloc (Nat.le_refl _) _
  have HRa : Hid (TR base p z A B (w.alloc (.cells #[.int .i64 kind, .int .i64 cell, .int .i64 seen, .int .i64 put] 40)) t L) := R.below hB0
  have HOa : Hid (Only p w (w.alloc (.cells #[.int .i64 kind, .int .i64 cell, .int .i64 seen, .int .i64 put] 40))) := Only.below hB0
  have HK : Hid (TOk t) := ok
  have HCl : Hid (-1 ≤ t.clock ∧ t.clock ≤ 2 ^ 50) := hcl
  clear ok hcl
  clear R hB0
  go_enter Tryz.func93, Tryz.ntmps93
  go_wp2_with fail
  refine (t_followStore2 base p z A B t L _ HRa.out HK.out HCl.out (by omega)).mono ?_
  rintro e w2 ⟨rfl, a1, a2⟩
  go_wp2
  go_end0
  exact ⟨rfl, L, (HRa.out).by a1 a2 (lists_store t), Goes.only ((HOa.out).trans a2)⟩

set_option maxRecDepth 100000 in
set_option maxHeartbeats 2000000 in
theorem t_follow22b (R : TR base p z A B w t L) (kind cell seen put num draw : Int) (hs : t.step = 22) (ok : TOk t) (hcl : -1 ≤ t.clock ∧ t.clock ≤ 2 ^ 50) :
    Calls Tryz.prog 93 #[.pointer (some ⟨p, z, none⟩), .agg #[.int .i64 kind, .int .i64 cell, .int .i64 seen, .int .i64 put], .int .i64 num, .int .i64 draw] w (Dids base p z A B (yFollowStore t) L w) := by
  have h13 := R.tt.cStep
  rw [hs] at h13
  have hlt := R.tt.lt
  have hne : p ≠ w.heap.size := by omega
  have hB0 : Below w.heap.size w (w.alloc (.cells #[.int .i64 kind, .int .i64 cell, .int .i64 seen, .int .i64 put] 40)) := (Below.refl _ _).alloc (Nat.le_refl _) _
  have HRa : Hid (TR base p z A B (w.alloc (.cells #[.int .i64 kind, .int .i64 cell, .int .i64 seen, .int .i64 put] 40)) t L) := R.below hB0
  have HOa : Hid (Only p w (w.alloc (.cells #[.int .i64 kind, .int .i64 cell, .int .i64 seen, .int .i64 put] 40))) := Only.below hB0
  have HK : Hid (TOk t) := ok
  have HCl : Hid (-1 ≤ t.clock ∧ t.clock ≤ 2 ^ 50) := hcl
  clear ok hcl
  clear R hB0
  go_enter Tryz.func93, Tryz.ntmps93
  go_wp2_with fail
  refine (t_followStore2 base p z A B t L _ HRa.out HK.out HCl.out (by omega)).mono ?_
  rintro e w2 ⟨rfl, a1, a2⟩
  go_wp2
  go_end0
  exact ⟨rfl, L, (HRa.out).by a1 a2 (lists_store t), Goes.only ((HOa.out).trans a2)⟩

set_option maxRecDepth 100000 in
set_option maxHeartbeats 2000000 in
theorem t_follow28b (R : TR base p z A B w t L) (kind cell seen put num draw : Int) (hs : t.step = 28) (ok : TOk t) (hfl : t.fails + 1 ≤ 2 ^ 40) (hp : t.step = 30 → 0 ≤ put ∧ put ≤ 2 ^ 40) :
    Calls Tryz.prog 93 #[.pointer (some ⟨p, z, none⟩), .agg #[.int .i64 kind, .int .i64 cell, .int .i64 seen, .int .i64 put], .int .i64 num, .int .i64 draw] w (Dids base p z A B (yFollowFail put t) L w) := by
  have h13 := R.tt.cStep
  rw [hs] at h13
  have hlt := R.tt.lt
  have hne : p ≠ w.heap.size := by omega
  have hB0 : Below w.heap.size w (w.alloc (.cells #[.int .i64 kind, .int .i64 cell, .int .i64 seen, .int .i64 put] 40)) := (Below.refl _ _).alloc (Nat.le_refl _) _
  have HRa : Hid (TR base p z A B (w.alloc (.cells #[.int .i64 kind, .int .i64 cell, .int .i64 seen, .int .i64 put] 40)) t L) := R.below hB0
  have HOa : Hid (Only p w (w.alloc (.cells #[.int .i64 kind, .int .i64 cell, .int .i64 seen, .int .i64 put] 40))) := Only.below hB0
  have HK : Hid (TOk t) := ok
  have HF : Hid (t.fails + 1 ≤ 2 ^ 40) := hfl
  have HPu : Hid (t.step = 30 → 0 ≤ put ∧ put ≤ 2 ^ 40) := hp
  clear ok hfl hp
  clear R hB0
  go_enter Tryz.func93, Tryz.ntmps93
  go_wp2_with fail
  refine (t_followFail2 base p z A B t L _ HRa.out HK.out HF.out (by omega) put HPu.out).mono ?_
  rintro e w2 ⟨rfl, a1, a2⟩
  go_wp2
  go_end0
  exact ⟨rfl, L, (HRa.out).by a1 a2 (lists_ffail put t), Goes.only ((HOa.out).trans a2)⟩

set_option maxRecDepth 100000 in
set_option maxHeartbeats 2000000 in
theorem t_follow30b (R : TR base p z A B w t L) (kind cell seen put num draw : Int) (hs : t.step = 30) (ok : TOk t) (hfl : t.fails + 1 ≤ 2 ^ 40) (hp : t.step = 30 → 0 ≤ put ∧ put ≤ 2 ^ 40) :
    Calls Tryz.prog 93 #[.pointer (some ⟨p, z, none⟩), .agg #[.int .i64 kind, .int .i64 cell, .int .i64 seen, .int .i64 put], .int .i64 num, .int .i64 draw] w (Dids base p z A B (yFollowFail put t) L w) := by
  have h13 := R.tt.cStep
  rw [hs] at h13
  have hlt := R.tt.lt
  have hne : p ≠ w.heap.size := by omega
  have hB0 : Below w.heap.size w (w.alloc (.cells #[.int .i64 kind, .int .i64 cell, .int .i64 seen, .int .i64 put] 40)) := (Below.refl _ _).alloc (Nat.le_refl _) _
  have HRa : Hid (TR base p z A B (w.alloc (.cells #[.int .i64 kind, .int .i64 cell, .int .i64 seen, .int .i64 put] 40)) t L) := R.below hB0
  have HOa : Hid (Only p w (w.alloc (.cells #[.int .i64 kind, .int .i64 cell, .int .i64 seen, .int .i64 put] 40))) := Only.below hB0
  have HK : Hid (TOk t) := ok
  have HF : Hid (t.fails + 1 ≤ 2 ^ 40) := hfl
  have HPu : Hid (t.step = 30 → 0 ≤ put ∧ put ≤ 2 ^ 40) := hp
  clear ok hfl hp
  clear R hB0
  go_enter Tryz.func93, Tryz.ntmps93
  go_wp2_with fail
  refine (t_followFail2 base p z A B t L _ HRa.out HK.out HF.out (by omega) put HPu.out).mono ?_
  rintro e w2 ⟨rfl, a1, a2⟩
  go_wp2
  go_end0
  exact ⟨rfl, L, (HRa.out).by a1 a2 (lists_ffail put t), Goes.only ((HOa.out).trans a2)⟩
end

end Go.Proofs.YtejadojilncbjaaGreat

namespace Go.Proofs.YtejadojilncbjaaGreat
open Go.RowKit
set_option linter.unusedVariables false
attribute [local go_sem ↓] Go.wp_at_zero Go.wp_at_succ

section
variable (base p z : Nat) (A B : List Value) (t : PT) (L : Ls) (w : World)

set_option maxHeartbeats 4000000 in
theorem t_followCommit2 (R : TR base p z A B w t L) (ok : TOk t) (hfl : t.fails + 1 ≤ 2 ^ 40) (seen : Int) (hsn : -1 ≤ seen ∧ seen ≤ 2 ^ 50) 
    (hs : t.step = 16 ∨ t.step = 17 ∨ t.step = 18) :
    Calls Tryz.prog 109 #[.pointer (some ⟨p, z, none⟩), .int .i64 seen] w (DidT p z A B (yFollowCommit seen t) L w) := by
  have hb := R.tt
  have h13 := hb.cStep
  have h38 := hb.cAt
  have h37 := hb.cClock
  have hf := hb.froz
  have HR : Hid (TR base p z A B w t L) := R
  have HB : Hid (TAt w p z A B t L) := hb
  have HK : Hid (TOk t) := ok
  have HF : Hid (t.fails + 1 ≤ 2 ^ 40) := hfl
  have HS : Hid (-1 ≤ seen ∧ seen ≤ 2 ^ 50) := hsn
  unfold yFollowCommit
  rcases hs with hs | hs | hs
  · rw [if_pos hs]
    rw [hs] at h13
    have HMk : Hid (∀ w, Calls Tryz.prog 129 #[.int .i64 seen] w fun e w' => e = .returned (.bool (seen.tmod 8 != 0)) ∧ w' = w) := fun w => t_marked seen w
    by_cases hm : seen.tmod 8 = 0
    · rw [if_neg (fun q => q hm)]
      have hmb : (seen.tmod 8 != 0) = false := by simp [hm]
      rw [hmb] at HMk
      clear hb ok R hfl hs hsn hmb hm h38 h37
      go_enter Tryz.func109, Tryz.ntmps109
      go_wp2_with fail
      refine (HMk.out _).mono ?_
      rintro e w1 ⟨rfl, rfl⟩
      go_wp2_with fail
      refine (t_name p z A B t L _ HB.out HK.out).mono ?_
      rintro e w1 ⟨rfl, rfl⟩
      go_wp2_with fail
      refine (t_swap p z A B t L 17 2 0 (t.num + 1) _ HB.out).mono ?_
      rintro e w1 ⟨rfl, a1, a2⟩
      go_wp2
      go_end0
      exact ⟨rfl, a1, a2⟩
    · rw [if_pos hm]
      have hmb : (seen.tmod 8 != 0) = true := by simpa using hm
      rw [hmb] at HMk
      clear hb ok R hfl hs hsn hmb hm h38 h37
      go_enter Tryz.func109, Tryz.ntmps109
      go_wp2_with fail
      refine (HMk.out _).mono ?_
      rintro e w1 ⟨rfl, rfl⟩
      go_wp2_with fail
      refine (t_fail base p z A B t L _ HR.out HK.out HF.out).mono ?_
      rintro e w1 ⟨rfl, a1, a2⟩
      go_wp2
      refine bodyPost_ret (results_none rfl _ _ _) rfl ?_
      exact ⟨rfl, a1, a2⟩
  · rw [if_neg (by omega), if_pos hs]
    rw [hs] at h13
    by_cases hm : seen = 0
    · rw [if_pos hm]
      subst hm
      clear hb ok R hfl hs hsn h38 h37
      go_enter Tryz.func109, Tryz.ntmps109
      go_wp2_with fail
      refine (t_load p z A B t L 18 0 _ HB.out).mono ?_
      rintro e w1 ⟨rfl, a1, a2⟩
      go_wp2
      go_end0
      exact ⟨rfl, a1, a2⟩
    · rw [if_neg hm]
      have hmb : (seen == 0) = false := by simpa using hm
      clear hb ok R hfl hs hsn h38 h37 hm
      go_enter Tryz.func109, Tryz.ntmps109
      go_wp2
      go_end0
      exact ⟨rfl, HB.out, Only.refl _ _⟩
  · rw [if_neg (by omega), if_neg (by omega), if_pos hs]
    rw [hs] at h13
    have hb1 : TAt ((w.setCell ⟨p, z + 19 + 26, none⟩ (.int .i64 seen)).setCell ⟨p, z + 19 + 27, none⟩ (.int .i64 0)) p z A B { t with clock := seen, at_ := 0 } L := (hb.set (t' := { t with clock := seen }) 45 (by decide) (.int .i64 seen) rfl).set 46 (by decide) _ rfl
    have hO1 : Only p w ((w.setCell ⟨p, z + 19 + 26, none⟩ (.int .i64 seen)).setCell ⟨p, z + 19 + 27, none⟩ (.int .i64 0)) := ((Only.refl _ _).set).set
    have HR1 : Hid (TR base p z A B ((w.setCell ⟨p, z + 19 + 26, none⟩ (.int .i64 seen)).setCell ⟨p, z + 19 + 27, none⟩ (.int .i64 0)) { t with clock := seen, at_ := 0 } L) := R.next hb1 hO1 rfl rfl rfl rfl rfl rfl
    have HO1 : Hid (Only p w ((w.setCell ⟨p, z + 19 + 26, none⟩ (.int .i64 seen)).setCell ⟨p, z + 19 + 27, none⟩ (.int .i64 0))) := hO1
    clear hb ok R hfl hs hsn hb1 hO1 HR HB
    go_enter Tryz.func109, Tryz.ntmps109
    go_wp2_with fail
    refine (t_check base p z A B { t with clock := seen, at_ := 0 } L _ HR1.out HK.out HS.out (Nat.zero_le _)).mono ?_
    rintro e w1 ⟨rfl, a1, a2⟩
    go_wp2
    go_end0
    exact ⟨rfl, a1, (HO1.out).trans a2⟩

set_option maxRecDepth 100000 in
set_option maxHeartbeats 2000000 in
theorem t_follow16b (R : TR base p z A B w t L) (kind cell seen put num draw : Int) (hs : t.step = 16) (ok : TOk t) (hfl : t.fails + 1 ≤ 2 ^ 40) (hsn : -1 ≤ seen ∧ seen ≤ 2 ^ 50) :
    Calls Tryz.prog 93 #[.pointer (some ⟨p, z, none⟩), .agg #[.int .i64 kind, .int .i64 cell, .int .i64 seen, .int .i64 put], .int .i64 num, .int .i64 draw] w (Dids base p z A B (yFollowCommit seen t) L w) := by
  have h13 := R.tt.cStep
  rw [hs] at h13
  have hlt := R.tt.lt
  have hne : p ≠ w.heap.size := by omega
  have hB0 : Below w.heap.size w (w.alloc (.cells #[.int .i64 kind, .int .i64 cell, .int .i64 seen, .int .i64 put] 40)) := (Below.refl _ _).alloc (Nat.le_refl _) _
  have HRa : Hid (TR base p z A B (w.alloc (.cells #[.int .i64 kind, .int .i64 cell, .int .i64 seen, .int .i64 put] 40)) t L) := R.below hB0
  have HOa : Hid (Only p w (w.alloc (.cells #[.int .i64 kind, .int .i64 cell, .int .i64 seen, .int .i64 put] 40))) := Only.below hB0
  have HK : Hid (TOk t) := ok
  have HF : Hid (t.fails + 1 ≤ 2 ^ 40) := hfl
  have HSn : Hid (-1 ≤ seen ∧ seen ≤ 2 ^ 50) := hsn
  clear ok hfl hsn
  clear R hB0
  go_enter Tryz.func93, Tryz.ntmps93
  go_wp2_with fail
  refine (t_followCommit2 base p z A B t L _ HRa.out HK.out HF.out seen HSn.out (by omega)).mono ?_
  rintro e w2 ⟨rfl, a1, a2⟩
  go_wp2
  go_end0
  exact ⟨rfl, L, (HRa.out).by a1 a2 (lists_commit seen t), Goes.only ((HOa.out).trans a2)⟩

set_option maxRecDepth 100000 in
set_option maxHeartbeats 2000000 in
theorem t_follow17b (R : TR base p z A B w t L) (kind cell seen put num draw : Int) (hs : t.step = 17) (ok : TOk t) (hfl : t.fails + 1 ≤ 2 ^ 40) (hsn : -1 ≤ seen ∧ seen ≤ 2 ^ 50) :
    Calls Tryz.prog 93 #[.pointer (some ⟨p, z, none⟩), .agg #[.int .i64 kind, .int .i64 cell, .int .i64 seen, .int .i64 put], .int .i64 num, .int .i64 draw] w (Dids base p z A B (yFollowCommit seen t) L w) := by
  have h13 := R.tt.cStep
  rw [hs] at h13
  have hlt := R.tt.lt
  have hne : p ≠ w.heap.size := by omega
  have hB0 : Below w.heap.size w (w.alloc (.cells #[.int .i64 kind, .int .i64 cell, .int .i64 seen, .int .i64 put] 40)) := (Below.refl _ _).alloc (Nat.le_refl _) _
  have HRa : Hid (TR base p z A B (w.alloc (.cells #[.int .i64 kind, .int .i64 cell, .int .i64 seen, .int .i64 put] 40)) t L) := R.below hB0
  have HOa : Hid (Only p w (w.alloc (.cells #[.int .i64 kind, .int .i64 cell, .int .i64 seen, .int .i64 put] 40))) := Only.below hB0
  have HK : Hid (TOk t) := ok
  have HF : Hid (t.fails + 1 ≤ 2 ^ 40) := hfl
  have HSn : Hid (-1 ≤ seen ∧ seen ≤ 2 ^ 50) := hsn
  clear ok hfl hsn
  clear R hB0
  go_enter Tryz.func93, Tryz.ntmps93
  go_wp2_with fail
  refine (t_followCommit2 base p z A B t L _ HRa.out HK.out HF.out seen HSn.out (by omega)).mono ?_
  rintro e w2 ⟨rfl, a1, a2⟩
  go_wp2
  go_end0
  exact ⟨rfl, L, (HRa.out).by a1 a2 (lists_commit seen t), Goes.only ((HOa.out).trans a2)⟩

set_option maxRecDepth 100000 in
set_option maxHeartbeats 2000000 in
theorem t_follow18b (R : TR base p z A B w t L) (kind cell seen put num draw : Int) (hs : t.step = 18) (ok : TOk t) (hfl : t.fails + 1 ≤ 2 ^ 40) (hsn : -1 ≤ seen ∧ seen ≤ 2 ^ 50) :
    Calls Tryz.prog 93 #[.pointer (some ⟨p, z, none⟩), .agg #[.int .i64 kind, .int .i64 cell, .int .i64 seen, .int .i64 put], .int .i64 num, .int .i64 draw] w (Dids base p z A B (yFollowCommit seen t) L w) := by
  have h13 := R.tt.cStep
  rw [hs] at h13
  have hlt := R.tt.lt
  have hne : p ≠ w.heap.size := by omega
  have hB0 : Below w.heap.size w (w.alloc (.cells #[.int .i64 kind, .int .i64 cell, .int .i64 seen, .int .i64 put] 40)) := (Below.refl _ _).alloc (Nat.le_refl _) _
  have HRa : Hid (TR base p z A B (w.alloc (.cells #[.int .i64 kind, .int .i64 cell, .int .i64 seen, .int .i64 put] 40)) t L) := R.below hB0
  have HOa : Hid (Only p w (w.alloc (.cells #[.int .i64 kind, .int .i64 cell, .int .i64 seen, .int .i64 put] 40))) := Only.below hB0
  have HK : Hid (TOk t) := ok
  have HF : Hid (t.fails + 1 ≤ 2 ^ 40) := hfl
  have HSn : Hid (-1 ≤ seen ∧ seen ≤ 2 ^ 50) := hsn
  clear ok hfl hsn
  clear R hB0
  go_enter Tryz.func93, Tryz.ntmps93
  go_wp2_with fail
  refine (t_followCommit2 base p z A B t L _ HRa.out HK.out HF.out seen HSn.out (by omega)).mono ?_
  rintro e w2 ⟨rfl, a1, a2⟩
  go_wp2
  go_end0
  exact ⟨rfl, L, (HRa.out).by a1 a2 (lists_commit seen t), Goes.only ((HOa.out).trans a2)⟩

/-- What is asked ahead of what follows an access, step by step. -/
structure FAll (t : PT) (seen put draw : Int) : Prop where
  step : 2 ≤ t.step ∧ t.step ≤ 32
  s32 : t.step = 32 → 0 ≤ seen ∧ seen ≤ 1125899906842624
  ok : t.step ≠ 2 → t.step ≠ 32 → TOk t
  f : t.step ≠ 2 → t.step ≠ 32 → t.step ≠ 21 → t.step ≠ 22 → t.step ≠ 28 → t.step ≠ 30 → t.step ≠ 16 → t.step ≠ 17 → t.step ≠ 18 → FOk t seen put draw
  clk : t.step = 21 ∨ t.step = 22 → -1 ≤ t.clock ∧ t.clock ≤ 2 ^ 50
  fl : t.step ≠ 2 → t.fails + 1 ≤ 2 ^ 40
  sn : -1 ≤ seen ∧ seen ≤ 2 ^ 50
  put : t.step = 30 → 0 ≤ put ∧ put ≤ 2 ^ 40

theorem t_followX (R : TR base p z A B w t L) (hbs : base ≤ w.heap.size) (kind cell seen put num draw : Int) (F : FAll t seen put draw) (hcur : t.cur < t.mine.length) :
    Calls Tryz.prog 93 #[.pointer (some ⟨p, z, none⟩), .agg #[.int .i64 kind, .int .i64 cell, .int .i64 seen, .int .i64 put], .int .i64 num, .int .i64 draw] w (DidN base p z A B t.step (yFollow seen put num draw t) L w) := by
  by_cases h2 : t.step = 2
  · rw [show yFollow seen put num draw t = yNew t seen num from by simp [yFollow, h2]]
    rw [h2]
    exact t_followBegin base p z A B t L w R hcur h2 kind cell seen put num draw
  by_cases h32 : t.step = 32
  · rw [show yFollow seen put num draw t = yAwait seen t from by simp [yFollow, h32]]
    exact (t_follow32b base p z A B t L w R kind cell seen put num draw h32 (F.s32 h32).1 (F.s32 h32).2).mono (fun e w' h => h.toN h2)
  have ok := F.ok h2 h32
  by_cases h21 : t.step = 21
  · rw [show yFollow seen put num draw t = yFollowStore t from by simp [yFollow, h21]]
    exact (t_follow21b base p z A B t L w R kind cell seen put num draw h21 ok (F.clk (Or.inl h21))).mono (fun e w' h => h.toN h2)
  by_cases h22 : t.step = 22
  · rw [show yFollow seen put num draw t = yFollowStore t from by simp [yFollow, h22]]
    exact (t_follow22b base p z A B t L w R kind cell seen put num draw h22 ok (F.clk (Or.inr h22))).mono (fun e w' h => h.toN h2)
  by_cases h28 : t.step = 28
  · rw [show yFollow seen put num draw t = yFollowFail put t from by simp [yFollow, h28]]
    exact (t_follow28b base p z A B t L w R kind cell seen put num draw h28 ok (F.fl h2) F.put).mono (fun e w' h => h.toN h2)
  by_cases h30 : t.step = 30
  · rw [show yFollow seen put num draw t = yFollowFail put t from by simp [yFollow, h30]]
    exact (t_follow30b base p z A B t L w R kind cell seen put num draw h30 ok (F.fl h2) F.put).mono (fun e w' h => h.toN h2)
  by_cases h16 : t.step = 16
  · rw [show yFollow seen put num draw t = yFollowCommit seen t from by simp [yFollow, h16]]
    exact (t_follow16b base p z A B t L w R kind cell seen put num draw h16 ok (F.fl h2) F.sn).mono (fun e w' h => h.toN h2)
  by_cases h17 : t.step = 17
  · rw [show yFollow seen put num draw t = yFollowCommit seen t from by simp [yFollow, h17]]
    exact (t_follow17b base p z A B t L w R kind cell seen put num draw h17 ok (F.fl h2) F.sn).mono (fun e w' h => h.toN h2)
  by_cases h18 : t.step = 18
  · rw [show yFollow seen put num draw t = yFollowCommit seen t from by simp [yFollow, h18]]
    exact (t_follow18b base p z A B t L w R kind cell seen put num draw h18 ok (F.fl h2) F.sn).mono (fun e w' h => h.toN h2)
  exact (t_follow base p z A B t L w R ok hbs kind cell seen put num draw (F.f h2 h32 h21 h22 h28 h30 h16 h17 h18) h2 h32 h21 h22 h28 h30 h16 h17 h18).mono (fun e w' h => h.toN h2)
end

end Go.Proofs.YtejadojilncbjaaGreat
