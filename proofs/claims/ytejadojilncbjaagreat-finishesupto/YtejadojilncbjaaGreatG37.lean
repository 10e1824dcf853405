import Derived.Test.YtejadojilncbjaaGreatG36
import Derived.Test.YtejadojilncbjaaGreatG33
import Derived.Test.YtejadojilncbjaaGreatG23
import Derived.Test.YtejadojilncbjaaGreatG26
namespace Go.Proofs.YtejadojilncbjaaGreat
open Go.RowKit
set_option linter.unusedVariables false
attribute [local go_sem ↓] Go.wp_at_zero Go.wp_at_succ
section
variable (base p z : Nat) (A B : List Value) (t : PT) (L : Ls) (w : World)
set_option maxHeartbeats 1000000 in
theorem t_await2 (hb : TAt w p z A B t L) (status : Int) (h0 : 0 ≤ status) (h1 : status ≤ 1125899906842624) :
  Calls Tryz.prog 116 #[.pointer (some ⟨p, z, none⟩), .int .i64 status] w (DidT p z A B (yAwait status t) L w) := by
 have h10 := hb.cRank
 have HB : Hid (TAt w p z A B t L) := hb
 obtain ⟨q, hq⟩ : ∃ q, q = status.tdiv 8 := ⟨_, rfl⟩
 have HM : Hid (∀ w, Calls Tryz.prog 155 #[.int .i64 status] w fun e w' => e = .returned (.int .i64 q) ∧ w' = w) := fun w => by rw [hq]; exact t_rankIn status w (by omega) h1
 unfold yAwait
 rw [← hq]
 clear hb h0 h1 hq
 by_cases hc : q = 0 ∨ (0 < t.rank ∧ t.rank < q)
 ·rw [if_pos hc]
  rcases hc with hc | ⟨hc1, hc2⟩
  ·subst hc
   go_enter Tryz.func116, Tryz.ntmps116
   go_wp2_with fail
   refine (HM.out _).mono ?_
   rintro e w1 ⟨rfl, rfl⟩
   go_wp2_with fail
   refine (t_begin p z A B t L _ HB.out).mono ?_
   rintro e w1 ⟨rfl, a1, a2⟩
   go_wp2
   go_end0
   exact ⟨rfl, a1, a2⟩
  ·have hqb : (q == 0) = false := by rw [beq_eq_false_iff_ne]; omega
   go_enter Tryz.func116, Tryz.ntmps116
   go_wp2_with fail
   refine (HM.out _).mono ?_
   rintro e w1 ⟨rfl, rfl⟩
   go_wp2_with fail
   refine (t_begin p z A B t L _ HB.out).mono ?_
   rintro e w1 ⟨rfl, a1, a2⟩
   go_wp2
   go_end0
   exact ⟨rfl, a1, a2⟩
 ·rw [if_neg hc]
  have hqb : (q == 0) = false := by rw [beq_eq_false_iff_ne]; exact fun h => hc (Or.inl h)
  by_cases hr : 0 < t.rank
  ·have hr2 : ¬ t.rank < q := fun h => hc (Or.inr ⟨hr, h⟩)
   clear hc
   go_enter Tryz.func116, Tryz.ntmps116
   go_wp2_with fail
   refine (HM.out _).mono ?_
   rintro e w1 ⟨rfl, rfl⟩
   go_wp2
   go_end0
   exact ⟨rfl, HB.out, Only.refl _ _⟩
  ·clear hc
   go_enter Tryz.func116, Tryz.ntmps116
   go_wp2_with fail
   refine (HM.out _).mono ?_
   rintro e w1 ⟨rfl, rfl⟩
   go_wp2
   go_end0
   exact ⟨rfl, HB.out, Only.refl _ _⟩
set_option maxHeartbeats 1000000 in
theorem t_followFail2 (R : TR base p z A B w t L) (ok : TOk t) (hfl : t.fails + 1 ≤ 2 ^ 40) (hs : t.step = 28 ∨ t.step = 30) (put : Int) (hp : t.step = 30 → 0 ≤ put ∧ put ≤ 2 ^ 40) :
  Calls Tryz.prog 113 #[.pointer (some ⟨p, z, none⟩), .int .i64 put] w (DidT p z A B (yFollowFail put t) L w) := by
 have hb := R.tt
 have h13 := hb.cStep
 have h38 := hb.cAt
 have h10 := hb.cRank
 have hf := hb.froz
 have HR : Hid (TR base p z A B w t L) := R
 have HK : Hid (TOk t) := ok
 have HF : Hid (t.fails + 1 ≤ 2 ^ 40) := hfl
 unfold yFollowFail
 rcases hs with hs | hs
 ·rw [if_pos hs]
  rw [hs] at h13
  clear hb ok R hfl hs hp
  go_enter Tryz.func113, Tryz.ntmps113
  go_wp2_with fail
  refine (t_fail base p z A B t L _ HR.out HK.out HF.out).mono ?_
  rintro e w1 ⟨rfl, a1, a2⟩
  go_wp2
  go_end0
  exact ⟨rfl, a1, a2⟩
 ·rw [if_neg (by omega), if_neg (by omega), if_pos hs]
  have hp' := hp hs
  rw [hs] at h13
  have hb1 : TAt (w.setCell ⟨p, z + 11, none⟩ (.int .i64 put)) p z A B { t with rank := put } L := hb.set 11 (by decide) _ rfl
  have HB1 : Hid (TAt (w.setCell ⟨p, z + 11, none⟩ (.int .i64 put)) p z A B { t with rank := put } L) := hb1
  have HO : Hid (Only p w (w.setCell ⟨p, z + 11, none⟩ (.int .i64 put))) := (Only.refl _ _).set
  have HK1 : Hid (TOk { t with rank := put }) := ⟨ok.cfg, ok.num, hp', ok.fails, ok.rd, ok.wr, ok.hd, ok.rl, ok.wl, ok.hl, ok.ml, ok.cur, ok.nl, ok.sl⟩
  clear hb ok R hfl hs hp hp' hb1 HR
  go_enter Tryz.func113, Tryz.ntmps113
  go_wp2_with fail
  refine (t_show p z A B { t with rank := put } L _ HB1.out HK1.out).mono ?_
  rintro e w1 ⟨rfl, a1, a2⟩
  go_wp2
  go_end0
  exact ⟨rfl, a1, (HO.out).trans a2⟩
set_option maxHeartbeats 4000000 in
theorem t_followStore2 (R : TR base p z A B w t L) (ok : TOk t) (hcl : -1 ≤ t.clock ∧ t.clock ≤ 2 ^ 50)
  (hs : t.step = 21 ∨ t.step = 22) :
  Calls Tryz.prog 110 #[.pointer (some ⟨p, z, none⟩)] w (DidT p z A B (yFollowStore t) L w) := by
 have hb := R.tt
 have h13 := hb.cStep
 have h38 := hb.cAt
 have hf := hb.froz
 have HB : Hid (TAt w p z A B t L) := hb
 have HK : Hid (TOk t) := ok
 have HC : Hid (-1 ≤ t.clock ∧ t.clock ≤ 2 ^ 50) := hcl
 unfold yFollowStore
 rcases hs with hs | hs
 ·rw [if_neg (by omega), if_pos hs]
  rw [hs] at h13
  have h24 := hb.cStamp
  have HB2 : Hid (TAt (w.setCell ⟨p, z + 19 + 5, none⟩ (.int .i64 (t.clock + 1))) p z A B { t with aStamp := t.clock + 1 } L) := hb.set 24 (by decide) _ rfl
  have HO2 : Hid (Only p w (w.setCell ⟨p, z + 19 + 5, none⟩ (.int .i64 (t.clock + 1)))) := (Only.refl _ _).set
  clear hb ok R hs hcl
  go_enter Tryz.func110, Tryz.ntmps110
  go_wp2_with fail
  refine (t_stamp p z A B t L _ HB.out (HC.out).1 (HC.out).2).mono ?_
  rintro e w1 ⟨rfl, rfl⟩
  go_wp2_with fail
  refine (t_store p z A B { t with aStamp := t.clock + 1 } L 22 2 0 _ HB2.out).mono ?_
  rintro e w1 ⟨rfl, a1, a2⟩
  go_wp2
  go_end0
  exact ⟨rfl, a1, (HO2.out).trans a2⟩
 ·rw [if_neg (by omega), if_neg (by omega), if_pos hs]
  rw [hs] at h13
  have hb2 : TAt (w.setCell ⟨p, z + 19 + 27, none⟩ (.int .i64 0)) p z A B { t with at_ := 0 } L := hb.set 46 (by decide) _ rfl
  have hO2 : Only p w (w.setCell ⟨p, z + 19 + 27, none⟩ (.int .i64 0)) := (Only.refl _ _).set
  have HR2 : Hid (TR base p z A B (w.setCell ⟨p, z + 19 + 27, none⟩ (.int .i64 0)) { t with at_ := 0 } L) := R.next hb2 hO2 rfl rfl rfl rfl rfl rfl
  have HO2 : Hid (Only p w (w.setCell ⟨p, z + 19 + 27, none⟩ (.int .i64 0))) := hO2
  clear hb ok R hs hcl hb2 hO2
  go_enter Tryz.func110, Tryz.ntmps110
  go_wp2_with fail
  refine (t_put base p z A B { t with at_ := 0 } L _ HR2.out HK.out HC.out).mono ?_
  rintro e w1 ⟨rfl, a1, a2⟩
  go_wp2
  go_end0
  exact ⟨rfl, a1, (HO2.out).trans a2⟩
set_option maxRecDepth 100000 in
set_option maxHeartbeats 2000000 in
theorem t_follow32b (R : TR base p z A B w t L) (kind cell seen put num draw : Int) (hs : t.step = 32) (h0 : 0 ≤ seen) (h1 : seen ≤ 1125899906842624) :
  Calls Tryz.prog 93 #[.pointer (some ⟨p, z, none⟩), .agg #[.int .i64 kind, .int .i64 cell, .int .i64 seen, .int .i64 put], .int .i64 num, .int .i64 draw] w (Dids base p z A B (yAwait seen t) L w) := by
 have h13 := R.tt.cStep
 rw [hs] at h13
 have hlt := R.tt.lt
 have hne : p ≠ w.heap.size := by omega
 have hB0 : Below w.heap.size w (w.alloc (.cells #[.int .i64 kind, .int .i64 cell, .int .i64 seen, .int .i64 put] 40)) := (Below.refl _ _).alloc (Nat.le_refl _) _
 have HRa : Hid (TR base p z A B (w.alloc (.cells #[.int .i64 kind, .int .i64 cell, .int .i64 seen, .int .i64 put] 40)) t L) := R.below hB0
 have HOa : Hid (Only p w (w.alloc (.cells #[.int .i64 kind, .int .i64 cell, .int .i64 seen, .int .i64 put] 40))) := Only.below hB0
 have HS0 : Hid (0 ≤ seen) := h0
 have HSn : Hid (seen ≤ 1125899906842624) := h1
 clear h0 h1
 clear R hB0
 go_enter Tryz.func93, Tryz.ntmps93
 go_wp2_with fail
 refine (t_await2 p z A B t L _ (HRa.out).tt seen HS0.out HSn.out).mono ?_
 rintro e w2 ⟨rfl, a1, a2⟩
 go_wp2
 go_end0
 exact ⟨rfl, L, (HRa.out).by a1 a2 (lists_await seen t), Goes.only ((HOa.out).trans a2)⟩
set_option maxRecDepth 100000 in
set_option maxHeartbeats 2000000 in
theorem t_follow21b (R : TR base p z A B w t L) (kind cell seen put num draw : Int) (hs : t.step = 21) (ok : TOk t) (hcl : -1 ≤ t.clock ∧ t.clock ≤ 2 ^ 50) :
  Calls Tryz.prog 93 #[.pointer (some ⟨p, z, none⟩), .agg #[.int .i64 kind, .int .i64 cell, .int .i64 seen, .int .i64 put], .int .i64 num, .int .i64 draw] w (Dids base p z A B (yFollowStore t) L w) := by
 have h13 := R.tt.cStep
 rw [hs] at h13
 have hlt := R.tt.lt
 have hne : p ≠ w.heap.size := by omega
 have hB0 : Below w.heap.size w (w.alloc (.cells #[.int .i64 kind, .int .i64 cell, .int .i64 seen, .int .i64 put] 40)) := (Below.refl _ _).alloc (Nat.le_refl _) _
 have HRa : Hid (TR base p z A B (w.alloc (.cells #[.int .i64 kind, .int .i64 cell, .int .i64 seen, .int .i64 put] 40)) t L) := R.below hB0
 have HOa : Hid (Only p w (w.alloc (.cells #[.int .i64 kind, .int .i64 cell, .int .i64 seen, .int .i64 put] 40))) := Only.below hB0
 have HK : Hid (TOk t) := ok
 have HCl : Hid (-1 ≤ t.clock ∧ t.clock ≤ 2 ^ 50) := hcl
 clear ok hcl
 clear R hB0
 go_enter Tryz.func93, Tryz.ntmps93
 go_wp2_with fail
 refine (t_followStore2 base p z A B t L _ HRa.out HK.out HCl.out (by omega)).mono ?_
 rintro e w2 ⟨rfl, a1, a2⟩
 go_wp2
 go_end0
 exact ⟨rfl, L, (HRa.out).by a1 a2 (lists_store t), Goes.only ((HOa.out).trans a2)⟩
set_option maxRecDepth 100000 in
set_option maxHeartbeats 2000000 in
theorem t_follow22b (R : TR base p z A B w t L) (kind cell seen put num draw : Int) (hs : t.step = 22) (ok : TOk t) (hcl : -1 ≤ t.clock ∧ t.clock ≤ 2 ^ 50) :
  Calls Tryz.prog 93 #[.pointer (some ⟨p, z, none⟩), .agg #[.int .i64 kind, .int .i64 cell, .int .i64 seen, .int .i64 put], .int .i64 num, .int .i64 draw] w (Dids base p z A B (yFollowStore t) L w) := by
 have h13 := R.tt.cStep
 rw [hs] at h13
 have hlt := R.tt.lt
 have hne : p ≠ w.heap.size := by omega
 have hB0 : Below w.heap.size w (w.alloc (.cells #[.int .i64 kind, .int .i64 cell, .int .i64 seen, .int .i64 put] 40)) := (Below.refl _ _).alloc (Nat.le_refl _) _
 have HRa : Hid (TR base p z A B (w.alloc (.cells #[.int .i64 kind, .int .i64 cell, .int .i64 seen, .int .i64 put] 40)) t L) := R.below hB0
 have HOa : Hid (Only p w (w.alloc (.cells #[.int .i64 kind, .int .i64 cell, .int .i64 seen, .int .i64 put] 40))) := Only.below hB0
 have HK : Hid (TOk t) := ok
 have HCl : Hid (-1 ≤ t.clock ∧ t.clock ≤ 2 ^ 50) := hcl
 clear ok hcl
 clear R hB0
 go_enter Tryz.func93, Tryz.ntmps93
 go_wp2_with fail
 refine (t_followStore2 base p z A B t L _ HRa.out HK.out HCl.out (by omega)).mono ?_
 rintro e w2 ⟨rfl, a1, a2⟩
 go_wp2
 go_end0
 exact ⟨rfl, L, (HRa.out).by a1 a2 (lists_store t), Goes.only ((HOa.out).trans a2)⟩
set_option maxRecDepth 100000 in
set_option maxHeartbeats 2000000 in
theorem t_follow28b (R : TR base p z A B w t L) (kind cell seen put num draw : Int) (hs : t.step = 28) (ok : TOk t) (hfl : t.fails + 1 ≤ 2 ^ 40) (hp : t.step = 30 → 0 ≤ put ∧ put ≤ 2 ^ 40) :
  Calls Tryz.prog 93 #[.pointer (some ⟨p, z, none⟩), .agg #[.int .i64 kind, .int .i64 cell, .int .i64 seen, .int .i64 put], .int .i64 num, .int .i64 draw] w (Dids base p z A B (yFollowFail put t) L w) := by
 have h13 := R.tt.cStep
 rw [hs] at h13
 have hlt := R.tt.lt
 have hne : p ≠ w.heap.size := by omega
 have hB0 : Below w.heap.size w (w.alloc (.cells #[.int .i64 kind, .int .i64 cell, .int .i64 seen, .int .i64 put] 40)) := (Below.refl _ _).alloc (Nat.le_refl _) _
 have HRa : Hid (TR base p z A B (w.alloc (.cells #[.int .i64 kind, .int .i64 cell, .int .i64 seen, .int .i64 put] 40)) t L) := R.below hB0
 have HOa : Hid (Only p w (w.alloc (.cells #[.int .i64 kind, .int .i64 cell, .int .i64 seen, .int .i64 put] 40))) := Only.below hB0
 have HK : Hid (TOk t) := ok
 have HF : Hid (t.fails + 1 ≤ 2 ^ 40) := hfl
 have HPu : Hid (t.step = 30 → 0 ≤ put ∧ put ≤ 2 ^ 40) := hp
 clear ok hfl hp
 clear R hB0
 go_enter Tryz.func93, Tryz.ntmps93
 go_wp2_with fail
 refine (t_followFail2 base p z A B t L _ HRa.out HK.out HF.out (by omega) put HPu.out).mono ?_
 rintro e w2 ⟨rfl, a1, a2⟩
 go_wp2
 go_end0
 exact ⟨rfl, L, (HRa.out).by a1 a2 (lists_ffail put t), Goes.only ((HOa.out).trans a2)⟩
set_option maxRecDepth 100000 in
set_option maxHeartbeats 2000000 in
theorem t_follow30b (R : TR base p z A B w t L) (kind cell seen put num draw : Int) (hs : t.step = 30) (ok : TOk t) (hfl : t.fails + 1 ≤ 2 ^ 40) (hp : t.step = 30 → 0 ≤ put ∧ put ≤ 2 ^ 40) :
  Calls Tryz.prog 93 #[.pointer (some ⟨p, z, none⟩), .agg #[.int .i64 kind, .int .i64 cell, .int .i64 seen, .int .i64 put], .int .i64 num, .int .i64 draw] w (Dids base p z A B (yFollowFail put t) L w) := by
 have h13 := R.tt.cStep
 rw [hs] at h13
 have hlt := R.tt.lt
 have hne : p ≠ w.heap.size := by omega
 have hB0 : Below w.heap.size w (w.alloc (.cells #[.int .i64 kind, .int .i64 cell, .int .i64 seen, .int .i64 put] 40)) := (Below.refl _ _).alloc (Nat.le_refl _) _
 have HRa : Hid (TR base p z A B (w.alloc (.cells #[.int .i64 kind, .int .i64 cell, .int .i64 seen, .int .i64 put] 40)) t L) := R.below hB0
 have HOa : Hid (Only p w (w.alloc (.cells #[.int .i64 kind, .int .i64 cell, .int .i64 seen, .int .i64 put] 40))) := Only.below hB0
 have HK : Hid (TOk t) := ok
 have HF : Hid (t.fails + 1 ≤ 2 ^ 40) := hfl
 have HPu : Hid (t.step = 30 → 0 ≤ put ∧ put ≤ 2 ^ 40) := hp
 clear ok hfl hp
 clear R hB0
 go_enter Tryz.func93, Tryz.ntmps93
 go_wp2_with fail
 refine (t_followFail2 base p z A B t L _ HRa.out HK.out HF.out (by omega) put HPu.out).mono ?_
 rintro e w2 ⟨rfl, a1, a2⟩
 go_wp2
 go_end0
 exact ⟨rfl, L, (HRa.out).by a1 a2 (lists_ffail put t), Goes.only ((HOa.out).trans a2)⟩
end
section
variable (base p z : Nat) (A B : List Value) (t : PT) (L : Ls) (w : World)
set_option maxHeartbeats 4000000 in
theorem t_followCommit2 (R : TR base p z A B w t L) (ok : TOk t) (hfl : t.fails + 1 ≤ 2 ^ 40) (seen : Int) (hsn : -1 ≤ seen ∧ seen ≤ 2 ^ 50)
  (hs : t.step = 16 ∨ t.step = 17 ∨ t.step = 18) :
  Calls Tryz.prog 109 #[.pointer (some ⟨p, z, none⟩), .int .i64 seen] w (DidT p z A B (yFollowCommit seen t) L w) := by
 have hb := R.tt
 have h13 := hb.cStep
 have h38 := hb.cAt
 have h37 := hb.cClock
 have hf := hb.froz
 have HR : Hid (TR base p z A B w t L) := R
 have HB : Hid (TAt w p z A B t L) := hb
 have HK : Hid (TOk t) := ok
 have HF : Hid (t.fails + 1 ≤ 2 ^ 40) := hfl
 have HS : Hid (-1 ≤ seen ∧ seen ≤ 2 ^ 50) := hsn
 unfold yFollowCommit
 rcases hs with hs | hs | hs
 ·rw [if_pos hs]
  rw [hs] at h13
  have HMk : Hid (∀ w, Calls Tryz.prog 129 #[.int .i64 seen] w fun e w' => e = .returned (.bool (seen.tmod 8 != 0)) ∧ w' = w) := fun w => t_marked seen w
  by_cases hm : seen.tmod 8 = 0
  ·rw [if_neg (fun q => q hm)]
   have hmb : (seen.tmod 8 != 0) = false := by simp [hm]
   rw [hmb] at HMk
   clear hb ok R hfl hs hsn hmb hm h38 h37
   go_enter Tryz.func109, Tryz.ntmps109
   go_wp2_with fail
   refine (HMk.out _).mono ?_
   rintro e w1 ⟨rfl, rfl⟩
   go_wp2_with fail
   refine (t_name p z A B t L _ HB.out HK.out).mono ?_
   rintro e w1 ⟨rfl, rfl⟩
   go_wp2_with fail
   refine (t_swap p z A B t L 17 2 0 (t.num + 1) _ HB.out).mono ?_
   rintro e w1 ⟨rfl, a1, a2⟩
   go_wp2
   go_end0
   exact ⟨rfl, a1, a2⟩
  ·rw [if_pos hm]
   have hmb : (seen.tmod 8 != 0) = true := by simpa using hm
   rw [hmb] at HMk
   clear hb ok R hfl hs hsn hmb hm h38 h37
   go_enter Tryz.func109, Tryz.ntmps109
   go_wp2_with fail
   refine (HMk.out _).mono ?_
   rintro e w1 ⟨rfl, rfl⟩
   go_wp2_with fail
   refine (t_fail base p z A B t L _ HR.out HK.out HF.out).mono ?_
   rintro e w1 ⟨rfl, a1, a2⟩
   go_wp2
   refine bodyPost_ret (results_none rfl _ _ _) rfl ?_
   exact ⟨rfl, a1, a2⟩
 ·rw [if_neg (by omega), if_pos hs]
  rw [hs] at h13
  by_cases hm : seen = 0
  ·rw [if_pos hm]
   subst hm
   clear hb ok R hfl hs hsn h38 h37
   go_enter Tryz.func109, Tryz.ntmps109
   go_wp2_with fail
   refine (t_load p z A B t L 18 0 _ HB.out).mono ?_
   rintro e w1 ⟨rfl, a1, a2⟩
   go_wp2
   go_end0
   exact ⟨rfl, a1, a2⟩
  ·rw [if_neg hm]
   have hmb : (seen == 0) = false := by simpa using hm
   clear hb ok R hfl hs hsn h38 h37 hm
   go_enter Tryz.func109, Tryz.ntmps109
   go_wp2
   go_end0
   exact ⟨rfl, HB.out, Only.refl _ _⟩
 ·rw [if_neg (by omega), if_neg (by omega), if_pos hs]
  rw [hs] at h13
  have hb1 : TAt ((w.setCell ⟨p, z + 19 + 26, none⟩ (.int .i64 seen)).setCell ⟨p, z + 19 + 27, none⟩ (.int .i64 0)) p z A B { t with clock := seen, at_ := 0 } L := (hb.set (t' := { t with clock := seen }) 45 (by decide) (.int .i64 seen) rfl).set 46 (by decide) _ rfl
  have hO1 : Only p w ((w.setCell ⟨p, z + 19 + 26, none⟩ (.int .i64 seen)).setCell ⟨p, z + 19 + 27, none⟩ (.int .i64 0)) := ((Only.refl _ _).set).set
  have HR1 : Hid (TR base p z A B ((w.setCell ⟨p, z + 19 + 26, none⟩ (.int .i64 seen)).setCell ⟨p, z + 19 + 27, none⟩ (.int .i64 0)) { t with clock := seen, at_ := 0 } L) := R.next hb1 hO1 rfl rfl rfl rfl rfl rfl
  have HO1 : Hid (Only p w ((w.setCell ⟨p, z + 19 + 26, none⟩ (.int .i64 seen)).setCell ⟨p, z + 19 + 27, none⟩ (.int .i64 0))) := hO1
  clear hb ok R hfl hs hsn hb1 hO1 HR HB
  go_enter Tryz.func109, Tryz.ntmps109
  go_wp2_with fail
  refine (t_check base p z A B { t with clock := seen, at_ := 0 } L _ HR1.out HK.out HS.out (Nat.zero_le _)).mono ?_
  rintro e w1 ⟨rfl, a1, a2⟩
  go_wp2
  go_end0
  exact ⟨rfl, a1, (HO1.out).trans a2⟩
set_option maxRecDepth 100000 in
set_option maxHeartbeats 2000000 in
theorem t_follow16b (R : TR base p z A B w t L) (kind cell seen put num draw : Int) (hs : t.step = 16) (ok : TOk t) (hfl : t.fails + 1 ≤ 2 ^ 40) (hsn : -1 ≤ seen ∧ seen ≤ 2 ^ 50) :
  Calls Tryz.prog 93 #[.pointer (some ⟨p, z, none⟩), .agg #[.int .i64 kind, .int .i64 cell, .int .i64 seen, .int .i64 put], .int .i64 num, .int .i64 draw] w (Dids base p z A B (yFollowCommit seen t) L w) := by
 have h13 := R.tt.cStep
 rw [hs] at h13
 have hlt := R.tt.lt
 have hne : p ≠ w.heap.size := by omega
 have hB0 : Below w.heap.size w (w.alloc (.cells #[.int .i64 kind, .int .i64 cell, .int .i64 seen, .int .i64 put] 40)) := (Below.refl _ _).alloc (Nat.le_refl _) _
 have HRa : Hid (TR base p z A B (w.alloc (.cells #[.int .i64 kind, .int .i64 cell, .int .i64 seen, .int .i64 put] 40)) t L) := R.below hB0
 have HOa : Hid (Only p w (w.alloc (.cells #[.int .i64 kind, .int .i64 cell, .int .i64 seen, .int .i64 put] 40))) := Only.below hB0
 have HK : Hid (TOk t) := ok
 have HF : Hid (t.fails + 1 ≤ 2 ^ 40) := hfl
 have HSn : Hid (-1 ≤ seen ∧ seen ≤ 2 ^ 50) := hsn
 clear ok hfl hsn
 clear R hB0
 go_enter Tryz.func93, Tryz.ntmps93
 go_wp2_with fail
 refine (t_followCommit2 base p z A B t L _ HRa.out HK.out HF.out seen HSn.out (by omega)).mono ?_
 rintro e w2 ⟨rfl, a1, a2⟩
 go_wp2
 go_end0
 exact ⟨rfl, L, (HRa.out).by a1 a2 (lists_commit seen t), Goes.only ((HOa.out).trans a2)⟩
set_option maxRecDepth 100000 in
set_option maxHeartbeats 2000000 in
theorem t_follow17b (R : TR base p z A B w t L) (kind cell seen put num draw : Int) (hs : t.step = 17) (ok : TOk t) (hfl : t.fails + 1 ≤ 2 ^ 40) (hsn : -1 ≤ seen ∧ seen ≤ 2 ^ 50) :
  Calls Tryz.prog 93 #[.pointer (some ⟨p, z, none⟩), .agg #[.int .i64 kind, .int .i64 cell, .int .i64 seen, .int .i64 put], .int .i64 num, .int .i64 draw] w (Dids base p z A B (yFollowCommit seen t) L w) := by
 have h13 := R.tt.cStep
 rw [hs] at h13
 have hlt := R.tt.lt
 have hne : p ≠ w.heap.size := by omega
 have hB0 : Below w.heap.size w (w.alloc (.cells #[.int .i64 kind, .int .i64 cell, .int .i64 seen, .int .i64 put] 40)) := (Below.refl _ _).alloc (Nat.le_refl _) _
 have HRa : Hid (TR base p z A B (w.alloc (.cells #[.int .i64 kind, .int .i64 cell, .int .i64 seen, .int .i64 put] 40)) t L) := R.below hB0
 have HOa : Hid (Only p w (w.alloc (.cells #[.int .i64 kind, .int .i64 cell, .int .i64 seen, .int .i64 put] 40))) := Only.below hB0
 have HK : Hid (TOk t) := ok
 have HF : Hid (t.fails + 1 ≤ 2 ^ 40) := hfl
 have HSn : Hid (-1 ≤ seen ∧ seen ≤ 2 ^ 50) := hsn
 clear ok hfl hsn
 clear R hB0
 go_enter Tryz.func93, Tryz.ntmps93
 go_wp2_with fail
 refine (t_followCommit2 base p z A B t L _ HRa.out HK.out HF.out seen HSn.out (by omega)).mono ?_
 rintro e w2 ⟨rfl, a1, a2⟩
 go_wp2
 go_end0
 exact ⟨rfl, L, (HRa.out).by a1 a2 (lists_commit seen t), Goes.only ((HOa.out).trans a2)⟩
set_option maxRecDepth 100000 in
set_option maxHeartbeats 2000000 in
theorem t_follow18b (R : TR base p z A B w t L) (kind cell seen put num draw : Int) (hs : t.step = 18) (ok : TOk t) (hfl : t.fails + 1 ≤ 2 ^ 40) (hsn : -1 ≤ seen ∧ seen ≤ 2 ^ 50) :
  Calls Tryz.prog 93 #[.pointer (some ⟨p, z, none⟩), .agg #[.int .i64 kind, .int .i64 cell, .int .i64 seen, .int .i64 put], .int .i64 num, .int .i64 draw] w (Dids base p z A B (yFollowCommit seen t) L w) := by
 have h13 := R.tt.cStep
 rw [hs] at h13
 have hlt := R.tt.lt
 have hne : p ≠ w.heap.size := by omega
 have hB0 : Below w.heap.size w (w.alloc (.cells #[.int .i64 kind, .int .i64 cell, .int .i64 seen, .int .i64 put] 40)) := (Below.refl _ _).alloc (Nat.le_refl _) _
 have HRa : Hid (TR base p z A B (w.alloc (.cells #[.int .i64 kind, .int .i64 cell, .int .i64 seen, .int .i64 put] 40)) t L) := R.below hB0
 have HOa : Hid (Only p w (w.alloc (.cells #[.int .i64 kind, .int .i64 cell, .int .i64 seen, .int .i64 put] 40))) := Only.below hB0
 have HK : Hid (TOk t) := ok
 have HF : Hid (t.fails + 1 ≤ 2 ^ 40) := hfl
 have HSn : Hid (-1 ≤ seen ∧ seen ≤ 2 ^ 50) := hsn
 clear ok hfl hsn
 clear R hB0
 go_enter Tryz.func93, Tryz.ntmps93
 go_wp2_with fail
 refine (t_followCommit2 base p z A B t L _ HRa.out HK.out HF.out seen HSn.out (by omega)).mono ?_
 rintro e w2 ⟨rfl, a1, a2⟩
 go_wp2
 go_end0
 exact ⟨rfl, L, (HRa.out).by a1 a2 (lists_commit seen t), Goes.only ((HOa.out).trans a2)⟩
structure FAll (t : PT) (seen put draw : Int) : Prop where
 step : 2 ≤ t.step ∧ t.step ≤ 32
 s32 : t.step = 32 → 0 ≤ seen ∧ seen ≤ 1125899906842624
 ok : t.step ≠ 2 → t.step ≠ 32 → TOk t
 f : t.step ≠ 2 → t.step ≠ 32 → t.step ≠ 21 → t.step ≠ 22 → t.step ≠ 28 → t.step ≠ 30 → t.step ≠ 16 → t.step ≠ 17 → t.step ≠ 18 → FOk t seen put draw
 clk : t.step = 21 ∨ t.step = 22 → -1 ≤ t.clock ∧ t.clock ≤ 2 ^ 50
 fl : t.step ≠ 2 → t.fails + 1 ≤ 2 ^ 40
 sn : -1 ≤ seen ∧ seen ≤ 2 ^ 50
 put : t.step = 30 → 0 ≤ put ∧ put ≤ 2 ^ 40
theorem t_followX (R : TR base p z A B w t L) (hbs : base ≤ w.heap.size) (kind cell seen put num draw : Int) (F : FAll t seen put draw) (hcur : t.cur < t.mine.length) :
  Calls Tryz.prog 93 #[.pointer (some ⟨p, z, none⟩), .agg #[.int .i64 kind, .int .i64 cell, .int .i64 seen, .int .i64 put], .int .i64 num, .int .i64 draw] w (DidN base p z A B t.step (yFollow seen put num draw t) L w) := by
 by_cases h2 : t.step = 2
 ·rw [show yFollow seen put num draw t = yNew t seen num from by simp [yFollow, h2]]
  rw [h2]
  exact t_followBegin base p z A B t L w R hcur h2 kind cell seen put num draw
 by_cases h32 : t.step = 32
 ·rw [show yFollow seen put num draw t = yAwait seen t from by simp [yFollow, h32]]
  exact (t_follow32b base p z A B t L w R kind cell seen put num draw h32 (F.s32 h32).1 (F.s32 h32).2).mono (fun e w' h => h.toN h2)
 have ok := F.ok h2 h32
 by_cases h21 : t.step = 21
 ·rw [show yFollow seen put num draw t = yFollowStore t from by simp [yFollow, h21]]
  exact (t_follow21b base p z A B t L w R kind cell seen put num draw h21 ok (F.clk (Or.inl h21))).mono (fun e w' h => h.toN h2)
 by_cases h22 : t.step = 22
 ·rw [show yFollow seen put num draw t = yFollowStore t from by simp [yFollow, h22]]
  exact (t_follow22b base p z A B t L w R kind cell seen put num draw h22 ok (F.clk (Or.inr h22))).mono (fun e w' h => h.toN h2)
 by_cases h28 : t.step = 28
 ·rw [show yFollow seen put num draw t = yFollowFail put t from by simp [yFollow, h28]]
  exact (t_follow28b base p z A B t L w R kind cell seen put num draw h28 ok (F.fl h2) F.put).mono (fun e w' h => h.toN h2)
 by_cases h30 : t.step = 30
 ·rw [show yFollow seen put num draw t = yFollowFail put t from by simp [yFollow, h30]]
  exact (t_follow30b base p z A B t L w R kind cell seen put num draw h30 ok (F.fl h2) F.put).mono (fun e w' h => h.toN h2)
 by_cases h16 : t.step = 16
 ·rw [show yFollow seen put num draw t = yFollowCommit seen t from by simp [yFollow, h16]]
  exact (t_follow16b base p z A B t L w R kind cell seen put num draw h16 ok (F.fl h2) F.sn).mono (fun e w' h => h.toN h2)
 by_cases h17 : t.step = 17
 ·rw [show yFollow seen put num draw t = yFollowCommit seen t from by simp [yFollow, h17]]
  exact (t_follow17b base p z A B t L w R kind cell seen put num draw h17 ok (F.fl h2) F.sn).mono (fun e w' h => h.toN h2)
 by_cases h18 : t.step = 18
 ·rw [show yFollow seen put num draw t = yFollowCommit seen t from by simp [yFollow, h18]]
  exact (t_follow18b base p z A B t L w R kind cell seen put num draw h18 ok (F.fl h2) F.sn).mono (fun e w' h => h.toN h2)
 exact (t_follow base p z A B t L w R ok hbs kind cell seen put num draw (F.f h2 h32 h21 h22 h28 h30 h16 h17 h18) h2 h32 h21 h22 h28 h30 h16 h17 h18).mono (fun e w' h => h.toN h2)
end
end Go.Proofs.YtejadojilncbjaaGreat
namespace Go.Proofs.YtejadojilncbjaaGreat
set_option linter.unusedVariables false
theorem nodup_len : ∀ (n : Nat) (l : List Int), l.Nodup → (∀ v ∈ l, 0 ≤ v ∧ v < (n : Int)) → l.length ≤ n
 | 0, l, hn, hb => by
  cases l with
  | nil => simp
  | cons a l => have := hb a (List.mem_cons_self ..); omega
 | n + 1, l, hn, hb => by
  have h1 : (l.erase (n : Int)).length ≤ n := by
   refine nodup_len n (l.erase (n : Int)) (hn.erase _) ?_
   intro v hv
   have hm := hn.mem_erase_iff.1 hv
   have := hb v hm.2
   have := hm.1
   omega
  have h2 : l.length ≤ (l.erase (n : Int)).length + 1 := by
   rw [List.length_erase]
   split <;> omega
  omega
theorem xlens {K : Cx} (hc : cfgB K.c = true) {k : Int} {x : TS} (X : XOk K k x) : x.reads.length ≤ 8 ∧ x.writes.length ≤ 8 ∧ x.held.length ≤ 8 := by
 obtain ⟨_, ⟨w1, w2⟩, ⟨s1, s2⟩, _⟩ := cfgB_true hc
 refine ⟨?_, ?_, ?_⟩
 ·have := nodup_len 8 (x.reads.map (·.what)) X.rn (fun v hv => by
      obtain ⟨e, he, rfl⟩ := List.mem_map.1 hv
      have := X.rd e he
      omega)
  simpa using this
 ·have := nodup_len 8 (x.writes.map (·.what)) X.wn (fun v hv => by
      obtain ⟨e, he, rfl⟩ := List.mem_map.1 hv
      have := X.wr e he
      omega)
  simpa using this
 ·exact nodup_len 8 x.held X.hn (fun v hv => by have := X.hd v hv; omega)
structure Side (K : Cx) (k : Int) (t : PT) : Prop where
 kb : 0 ≤ k ∧ k ≤ 2 ^ 30
 me : 0 ≤ K.me ∧ K.me < K.c.t
 fails : 0 ≤ t.fails ∧ t.fails ≤ k
 mine : t.mine.length ≤ 100
 cur : t.cur ≤ t.mine.length
 notes : t.notes.length ≤ 2 ^ 37
theorem tok_of {K : Cx} (hc : cfgB K.c = true) {k : Int} {t : PT} {h : Th} (b : Bax K t h) (A : Onn K k h) (D : Side K k t) : TOk t := by
 obtain ⟨l1, l2, l3⟩ := xlens hc A.x
 have X := A.x
 have hk := D.kb
 refine ⟨by rw [b.1.c]; exact hc, by rw [b.1.c, b.1.num]; exact D.me, by rw [b.1.rank]; have := A.rank; omega, by have := D.fails; omega, ?_, ?_, ?_, ?_, ?_, ?_, D.mine, by have := D.mine; have := D.cur; omega, D.notes, by have := D.mine; have := D.cur; have := b.1.tol.rl; omega⟩
 ·intro e he; rw [b.2.reads] at he; rw [b.1.c]; have := X.rd e he; exact ⟨this.1, this.2.1⟩
 ·intro e he; rw [b.2.writes] at he; rw [b.1.c]; have := X.wr e he; exact ⟨this.1, this.2.1⟩
 ·intro e he; rw [b.2.held] at he; rw [b.1.c]; exact X.hd e he
 ·rw [b.2.reads]; omega
 ·rw [b.2.writes]; omega
 ·rw [b.2.held]; omega
theorem w_turn {K : Cx} (hc : cfgB K.c = true) {code : List InsD} {k : Int} {t : PT} {h : Th} (r : RunI K code k t h) (hs : t.step = 1) :
  (MOk t.m ∧ (t.m.begun : Int) ≤ t.c.f ∧ t.m.place ≤ code.length) ∧ ∃ u, pNext t.c.f t.c.wd code yRounds t.m = u ∧ u.2.regs.length = 4 ∧ (u.1.fate = 0 → (0 ≤ u.1.addr ∧ u.1.addr ≤ 100) ∧ (u.1.op = 7 → 0 ≤ u.2.into ∧ u.2.into ≤ 3)) ∧
   ((yTurn code t).step ≠ 1 ∨ ∃ h', RunI K code k (yTurn code t) h' ∧ h.x.begun + 1 ≤ h'.x.begun) ∧ (yTurn code t).fails = t.fails ∧ (yTurn code t).mine = t.mine ∧ (yTurn code t).cur = t.cur ∧ (yTurn code t).notes.length ≤ t.notes.length + 1 := by
 obtain ⟨b, hg, A, hcd⟩ := r
 obtain ⟨⟨t1, t2⟩, ⟨w1, w2⟩, ⟨s1, s2⟩, ⟨g1, g2⟩, _, _, ⟨f1, f2⟩⟩ := cfgB_true hc
 have hM : MOk t.m := ⟨by rw [b.2.regs]; exact A.x.four, by rw [b.2.regs]; exact A.x.rg⟩
 have hP : t.m.place ≤ code.length := by rw [b.2.place, ← hcd]; exact A.x.plc
 have hBg : (t.m.begun : Int) ≤ K.c.f := by rw [b.2.begun]; exact A.x.bg
 have V := adv_sim K code h hcd yRounds t.m (K.c.f.toNat + 1) hM hP hBg (by unfold yRounds; omega) (by omega)
 refine ⟨⟨hM, by rw [b.1.c]; exact hBg, hP⟩, pNext t.c.f t.c.wd code yRounds t.m, rfl, ?_⟩
 unfold yTurn
 rw [b.1.c]
 have V1 := V.cs
 have Vo := V.ok
 have Vp := V.place
 have Vb := V.begun
 clear V
 generalize pNext K.c.f K.c.wd code yRounds t.m = u at *
 have b1 := bax_m b u.2 u.1
 have A1 := onn_m A u.2 Vo (by rw [hcd]; exact Vp) Vb
 have hkeep : (yTurned u t).fails = t.fails ∧ (yTurned u t).mine = t.mine ∧ (yTurned u t).cur = t.cur ∧ (yTurned u t).notes.length ≤ t.notes.length + 1 := by
  unfold yTurned yTouch yRead yWrite yFinish yLetGo
  repeat' split
  all_goals exact ⟨rfl, rfl, rfl, by first | exact Nat.le_succ _ | (simp [yGive, yLog])⟩
 refine ⟨Vo.1, ?_, ?_, hkeep⟩
 ·intro h0
  rcases V1 with ⟨q, _⟩ | ⟨_, i, N1, q1, q2, qa, qb, a0, a1, hcs⟩
  ·exact absurd h0 q
  ·refine ⟨⟨a0, by omega⟩, fun o7 => ?_⟩
   rcases hcs with ⟨_, hi, _⟩ | ⟨o8, _⟩
   ·rw [hi]; exact qa
   ·omega
 ·unfold yTurned
  rcases V1 with ⟨h0, h1⟩ | ⟨h0, i, N1, q1, q2, qa, qb, a0, a1, hcs⟩
  ·rw [if_neg h0]
   exact Or.inl (sim_close (t := { t with m := u.2, turn := u.1 }) (h := thM h u.2) b1 hg _ h0 rfl).step_ne
  ·rw [if_pos h0]
   rw [b.2.begun] at q1
   obtain ⟨th, hth⟩ : ∃ th, th = ({ t with m := u.2, turn := u.1 } : PT) := ⟨_, rfl⟩
   obtain ⟨hh, hhh⟩ : ∃ hh, hh = thM h u.2 := ⟨_, rfl⟩
   have e1 : th.turn = u.1 := by rw [hth]
   have e2 : th.m = u.2 := by rw [hth]
   have e3 : hh.x.begun = u.2.begun := by rw [hhh]; rfl
   have e4 : hh.x.inGate = false := by rw [hhh]; exact hg
   have e5 : hh.x.code = code := by rw [hhh]; exact hcd
   have e6 : ∀ r, mReg u.2 r = regOf hh.x r := fun r => by rw [hhh]; rfl
   rw [← hth, ← hhh] at b1
   rw [← hhh] at A1
   rw [← hth]
   clear hth
   rw [← e1] at hcs a0 a1
   rw [← e2] at hcs
   unfold yTouch
   rcases hcs with ⟨o7, hi, ha, _⟩ | ⟨o8, ha, hv, _⟩
   ·rw [if_pos o7]
    rw [e2, e6] at ha
    rcases w_read b1 e4 i o7 hi ha.symm a1 with ⟨v, ⟨e, hem, hev⟩, r1, r2⟩ | ⟨h', r1, r2⟩
    ·rw [r1]
     have hval := A1.x.wr _ hem
     rw [← hev] at hval
     exact Or.inr ⟨_, ⟨bax_give b1 i.a v hi 7 th.turn.addr o7 rfl, e4, (A1.setx _ (A1.x.setReg _ _ hval.2.2.1 hval.2.2.2)).noted _ _ _, e5⟩, by show h.x.begun + 1 ≤ hh.x.begun; rw [e3]; exact q1⟩
    ·exact Or.inl r2.step_ne
   ·rw [if_neg (by omega)]
    rw [e2, e6] at ha hv
    rcases w_write b1 e4 i o8 ha.symm hv a1 with ⟨r1, r2⟩ | ⟨h', r1, r2⟩
    ·rw [r1]
     exact Or.inr ⟨_, ⟨bax_log b1 i _ o8 rfl hv, e4, put_ok A1 a0 a1, e5⟩, by show h.x.begun + 1 ≤ hh.x.begun; rw [e3]; exact q1⟩
    ·exact Or.inl r2.step_ne
end Go.Proofs.YtejadojilncbjaaGreat
namespace Go.Proofs.YtejadojilncbjaaGreat
open Go.RowKit
set_option linter.unusedVariables false
theorem drop_lt {α : Type} {l r : List α} {a : α} {j : Nat} (h : l.drop j = a :: r) : j < l.length := (drop_cons3 h).2.1
theorem fall_of {K : Cx} (hc : cfgB K.c = true) {k : Int} {t : PT} {h : Th} (A : ThOk K k h) (S : Sim K t h) (D : Side K k t) (h1 : h.st ≠ .idle) (h2 : ∀ n, h.st ≠ .rest n) (v : AnsD) (hv : VOk K.c k (hOut K h).cell v.seen)
  (hr : 0 ≤ (hOut K h).cell ∧ (hOut K h).cell < total K.c) : FAll t v.seen (putV (hOut K h) v.seen) v.draw := by
 have hcb := cfgB_true hc
 obtain ⟨⟨t1, t2⟩, ⟨w1, w2⟩, ⟨s1, s2⟩, ⟨g1, g2⟩, _, _, ⟨f1, f2⟩⟩ := hcb
 have hk := D.kb
 have hme := D.me
 have hfa := D.fails
 have hbd := VOk.bd hc hk.1 hv hr.1 hr.2
 rcases S with ⟨hst, q, _⟩ | ⟨hst, b, hrs, hs, ho⟩ | ⟨n, hst, b, hrs, hn, hs, ho⟩ | ⟨win, hst, b, hrs, hs, ho⟩ | ⟨b, ho, q⟩
 ·exact absurd hst h1
 ·exact ⟨by omega, fun q => by omega, fun q => absurd hs q, fun q => absurd hs q, fun q => by omega, fun q => absurd hs q, by omega, fun q => by omega⟩
 ·exact absurd hst (h2 n)
 ·have hx : 0 ≤ win ∧ win < K.c.t := by have := A.step; unfold StepOk at this; rw [hst] at this; exact this
  have hcell : (hOut K h).cell = hSta K win := by unfold hOut; rw [hst]
  rw [hcell] at hv
  have h0 := (hv.sta (by unfold hSta; omega) (by unfold hSta; omega)).1
  exact ⟨by omega, fun _ => by omega, fun _ q => absurd hs q, fun _ q => absurd hs q, fun q => by omega, fun q => by omega, by omega, fun q => by omega⟩
 ·have hon := A.on
  have ok := tok_of hc b hon D
  have X := hon.x
  obtain ⟨l1, l2, l3⟩ := xlens hc X
  have hrg : t.m.regs.length = 4 := by rw [b.2.regs]; exact X.four
  have lr : t.reads.length ≤ 8 := by rw [b.2.reads]; exact l1
  have lw : t.writes.length ≤ 8 := by rw [b.2.writes]; exact l2
  have lh : t.held.length ≤ 8 := by rw [b.2.held]; exact l3
  have hwy : t.wayTo = h.x.way + 1 := b.2.way
  have hwx := X.way
  have hx := A.step
  obtain ⟨hrank, hfails, hlist, hends, hjob, x, st⟩ := h
  have hvs : (hOut K ⟨hrank, hfails, hlist, hends, hjob, x, st⟩).cell = hSta K K.me → 0 ≤ v.seen := fun e => by
   rw [e] at hv
   exact (hv.sta (by unfold hSta; omega) (by unfold hSta; omega)).1
  cases st with
  | idle => exact q.elim
  | start => exact q.elim
  | rest n => exact q.elim
  | wait n => exact q.elim
  | rHeld i a =>
   obtain ⟨hg, hs, hrd⟩ := q
   obtain ⟨a0, a1, i0, i1, _⟩ := (show AOk K i a from hx)
   have ha := hrd.2.1
   have hi := hrd.2.2
   exact ⟨by omega, fun q => by omega, fun _ _ => ok, fun _ _ _ _ _ _ _ _ _ => (by constructor <;> first | exact hrg | omega), fun _ => by omega, fun _ => by omega, by omega, fun _ => by omega⟩
  | rVer i a =>
   obtain ⟨hg, hs, hrd⟩ := q
   obtain ⟨a0, a1, i0, i1, _⟩ := (show AOk K i a from hx)
   have ha := hrd.2.1
   have hi := hrd.2.2
   exact ⟨by omega, fun q => by omega, fun _ _ => ok, fun _ _ _ _ _ _ _ _ _ => (by constructor <;> first | exact hrg | omega), fun _ => by omega, fun _ => by omega, by omega, fun _ => by omega⟩
  | rWord i a one =>
   obtain ⟨hg, hs, hrd, _⟩ := q
   obtain ⟨⟨a0, a1, i0, i1, _⟩, _⟩ := (show AOk K i a ∧ 0 ≤ one ∧ one ≤ k from hx)
   have ha := hrd.2.1
   have hi := hrd.2.2
   exact ⟨by omega, fun q => by omega, fun _ _ => ok, fun _ _ _ _ _ _ _ _ _ => (by constructor <;> first | exact hrg | omega), fun _ => by omega, fun _ => by omega, by omega, fun _ => by omega⟩
  | rAgain i a one u =>
   obtain ⟨hg, hs, hrd, _⟩ := q
   obtain ⟨⟨a0, a1, i0, i1, _⟩, _⟩ := (show AOk K i a ∧ (0 ≤ one ∧ one ≤ k) ∧ 0 ≤ u ∧ u ≤ 65535 from hx)
   have ha := hrd.2.1
   have hi := hrd.2.2
   exact ⟨by omega, fun q => by omega, fun _ _ => ok, fun _ _ _ _ _ _ _ _ _ => (by constructor <;> first | exact hrg | omega), fun _ => by omega, fun _ => by omega, by omega, fun _ => by omega⟩
  | xClock e =>
   obtain ⟨hg, hs, he⟩ := q
   have hx' : ExOk K e := hx
   have hin : t.turn.op = 7 → 0 ≤ t.m.into ∧ t.m.into ≤ 3 := fun o => by
    cases e with
    | rd i a u => obtain ⟨⟨a0, a1, i0, i1, _⟩, _⟩ := (show AOk K i a ∧ 0 ≤ u ∧ u ≤ 65535 from hx'); have := he.1.2.2; omega
    | wr i a => have := he.1; omega
   exact ⟨by omega, fun q => by omega, fun _ _ => ok, fun _ _ _ _ _ _ _ _ _ => ⟨by omega, by omega, hrg, by omega, fun _ => by omega, fun q => by (rcases q with q | q; omega; exact hin q.2), fun _ => by omega, fun _ => by omega, fun _ => by omega, fun _ => by omega, fun _ => by omega, fun _ => by omega, fun _ => by omega, fun _ => by omega, fun _ => by omega, fun _ => by omega⟩, fun _ => by omega, fun _ => by omega, by omega, fun _ => by omega⟩
  | xVer e c r =>
   obtain ⟨hg, hs, he, hcl, hr'⟩ := q
   obtain ⟨hx', _, h3⟩ := (show ExOk K e ∧ (0 ≤ c ∧ c ≤ k) ∧ RdOk K r from hx)
   have hin : t.turn.op = 7 → 0 ≤ t.m.into ∧ t.m.into ≤ 3 := fun o => by
    cases e with
    | rd i a u => obtain ⟨⟨a0, a1, i0, i1, _⟩, _⟩ := (show AOk K i a ∧ 0 ≤ u ∧ u ≤ 65535 from hx'); have := he.1.2.2; omega
    | wr i a => have := he.1; omega
   have hlt : t.at_ < t.reads.length := by
    cases r with
    | nil => exact absurd rfl h3.1
    | cons y r => exact drop_lt hr'
   exact ⟨by omega, fun q => by omega, fun _ _ => ok, fun _ _ _ _ _ _ _ _ _ => ⟨by omega, by omega, hrg, by omega, fun _ => by omega, fun q => by (rcases q with q | q; omega; exact hin q.2), fun _ => by omega, fun _ => by omega, fun _ => by omega, fun _ => by omega, fun _ => by omega, fun _ => by omega, fun _ => by omega, fun _ => by omega, fun _ => by omega, fun _ => by omega⟩, fun _ => by omega, fun _ => by omega, by omega, fun _ => by omega⟩
  | gStat i a =>
   obtain ⟨hg, hs, hw⟩ := q
   obtain ⟨⟨a0, a1, i0, i1, _⟩, _⟩ := (show AOk K i a ∧ heldB x (a.tmod K.c.s) = false from hx)
   have h0 := hvs rfl
   have ha := hw.2.1
   exact ⟨by omega, fun q => by omega, fun _ _ => ok, fun _ _ _ _ _ _ _ _ _ => (by constructor <;> first | exact hrg | omega), fun _ => by omega, fun _ => by omega, by omega, fun _ => by omega⟩
  | gOwn i a =>
   obtain ⟨hg, hs, hw⟩ := q
   obtain ⟨⟨a0, a1, i0, i1, _⟩, _⟩ := (show AOk K i a ∧ heldB x (a.tmod K.c.s) = false from hx)
   have hm1 := tmodP s1 a0
   have h0 := (show VOk K.c k (hOwn K (a.tmod K.c.s)) v.seen from hv).own (by unfold hOwn; omega) (by unfold hOwn; omega)
   have ha := hw.2.1
   exact ⟨by omega, fun q => by omega, fun _ _ => ok, fun _ _ _ _ _ _ _ _ _ => (by constructor <;> first | exact hrg | omega), fun _ => by omega, fun _ => by omega, by omega, fun _ => by omega⟩
  | gTheir i a u =>
   obtain ⟨hg, hs, hw, hriv⟩ := q
   obtain ⟨⟨⟨a0, a1, i0, i1, _⟩, _⟩, hu⟩ := (show (AOk K i a ∧ heldB x (a.tmod K.c.s) = false) ∧ 1 ≤ u ∧ u ≤ K.c.t from hx)
   have h0 := ((show VOk K.c k (hSta K (u - 1)) v.seen from hv).sta (by unfold hSta; omega) (by unfold hSta; omega)).1
   have ha := hw.2.1
   exact ⟨by omega, fun q => by omega, fun _ _ => ok, fun _ _ _ _ _ _ _ _ _ => (by constructor <;> first | exact hrg | omega), fun _ => by omega, fun _ => by omega, by omega, fun _ => by omega⟩
  | gMark i a u th =>
   obtain ⟨hg, hs, hw⟩ := q
   obtain ⟨⟨⟨a0, a1, i0, i1, _⟩, _⟩, hu, _⟩ := (show (AOk K i a ∧ heldB x (a.tmod K.c.s) = false) ∧ (1 ≤ u ∧ u ≤ K.c.t) ∧ SOk K.c k th ∧ th % 8 = 0 from hx)
   have ha := hw.2.1
   exact ⟨by omega, fun q => by omega, fun _ _ => ok, fun _ _ _ _ _ _ _ _ _ => (by constructor <;> first | exact hrg | omega), fun _ => by omega, fun _ => by omega, by omega, fun _ => by omega⟩
  | gVer i a =>
   obtain ⟨hg, hs, hw⟩ := q
   obtain ⟨a0, a1, i0, i1, _⟩ := (show AOk K i a from hx)
   have ha := hw.2.1
   exact ⟨by omega, fun q => by omega, fun _ _ => ok, fun _ _ _ _ _ _ _ _ _ => (by constructor <;> first | exact hrg | omega), fun _ => by omega, fun _ => by omega, by omega, fun _ => by omega⟩
  | tTake =>
   obtain ⟨hg, hs⟩ := q
   have hcn := (show VOk K.c k 1 v.seen from hv).cnt (Or.inr rfl)
   have hp : putV (hOut K ⟨hrank, hfails, hlist, hends, hjob, x, .tTake⟩) v.seen = v.seen + 1 := rfl
   exact ⟨by omega, fun q => by omega, fun _ _ => ok, fun _ _ _ _ _ _ _ _ _ => (by constructor <;> first | exact hrg | omega), fun _ => by omega, fun _ => by omega, by omega, fun _ => by omega⟩
  | tShow =>
   obtain ⟨hg, hs⟩ := q
   exact ⟨by omega, fun q => by omega, fun _ _ => ok, fun _ _ _ _ _ _ _ _ _ => (by constructor <;> first | exact hrg | omega), fun _ => by omega, fun _ => by omega, by omega, fun _ => by omega⟩
  | cStat =>
   obtain ⟨hg, hs, hfe⟩ := q
   exact ⟨by omega, fun q => by omega, fun _ _ => ok, fun _ _ _ _ _ _ a b c => by omega, fun _ => by omega, fun _ => by omega, by omega, fun _ => by omega⟩
  | cGate =>
   obtain ⟨hg, hs, hfe⟩ := q
   exact ⟨by omega, fun q => by omega, fun _ _ => ok, fun _ _ _ _ _ _ a b c => by omega, fun _ => by omega, fun _ => by omega, by omega, fun _ => by omega⟩
  | cClock =>
   obtain ⟨hg, hs, hfe⟩ := q
   exact ⟨by omega, fun q => by omega, fun _ _ => ok, fun _ _ _ _ _ _ a b c => by omega, fun _ => by omega, fun _ => by omega, by omega, fun _ => by omega⟩
  | cVer c r =>
   obtain ⟨hg, hs, hfe, hcl, _, hr'⟩ := q
   obtain ⟨hcb', h3⟩ := (show (0 ≤ c ∧ c ≤ k) ∧ RdOk K r from hx)
   have hlt : t.at_ < t.reads.length := by
    cases r with
    | nil => exact absurd rfl h3.1
    | cons y r => exact drop_lt hr'
   exact ⟨by omega, fun q => by omega, fun _ _ => ok, fun _ _ _ _ _ _ _ _ _ => (by constructor <;> first | exact hrg | omega), fun _ => by omega, fun _ => by omega, by omega, fun _ => by omega⟩
  | cShut c r =>
   obtain ⟨hs, hfe, hcl, hr'⟩ := q
   obtain ⟨hcb', h3⟩ := (show (0 ≤ c ∧ c ≤ k) ∧ HdOk K r from hx)
   have hlt : t.at_ < t.held.length := by
    cases r with
    | nil => exact absurd rfl h3.1
    | cons y r => exact drop_lt hr'
   exact ⟨by omega, fun q => by omega, fun _ _ => ok, fun _ _ _ _ _ _ _ _ _ => (by constructor <;> first | exact hrg | omega), fun _ => by omega, fun _ => by omega, by omega, fun _ => by omega⟩
  | cOpen c r =>
   obtain ⟨hs, hfe, hcl, hr'⟩ := q
   obtain ⟨hcb', h3⟩ := (show (0 ≤ c ∧ c ≤ k) ∧ HdOk K r from hx)
   have hlt : t.at_ < t.held.length := by
    cases r with
    | nil => exact absurd rfl h3.1
    | cons y r => exact drop_lt hr'
   exact ⟨by omega, fun q => by omega, fun _ _ => ok, fun _ _ _ _ _ _ _ _ _ => (by constructor <;> first | exact hrg | omega), fun _ => by omega, fun _ => by omega, by omega, fun _ => by omega⟩
  | cOwn c r =>
   obtain ⟨hs, hfe, hcl, hr'⟩ := q
   obtain ⟨hcb', h3⟩ := (show (0 ≤ c ∧ c ≤ k) ∧ HdOk K r from hx)
   have hlt : t.at_ < t.held.length := by
    cases r with
    | nil => exact absurd rfl h3.1
    | cons y r => exact drop_lt hr'
   exact ⟨by omega, fun q => by omega, fun _ _ => ok, fun _ _ _ _ _ _ _ _ _ => (by constructor <;> first | exact hrg | omega), fun _ => by omega, fun _ => by omega, by omega, fun _ => by omega⟩
  | cWord c r =>
   obtain ⟨hs, hfe, hcl, hr'⟩ := q
   obtain ⟨hcb', h3⟩ := (show (0 ≤ c ∧ c ≤ k) ∧ WrOk K r from hx)
   have hlt : t.at_ < t.writes.length := by
    cases r with
    | nil => exact absurd rfl h3.1
    | cons y r => exact drop_lt hr'
   exact ⟨by omega, fun q => by omega, fun _ _ => ok, fun _ _ _ _ _ _ _ _ _ => (by constructor <;> first | exact hrg | omega), fun _ => by omega, fun _ => by omega, by omega, fun _ => by omega⟩
  | cStamp c =>
   obtain ⟨hs, hfe, hcl⟩ := q
   have hcb' : 0 ≤ c ∧ c ≤ k := hx
   exact ⟨by omega, fun q => by omega, fun _ _ => ok, fun _ _ a b c d _ _ _ => by omega, fun _ => by omega, fun _ => by omega, by omega, fun _ => by omega⟩
  | cLeave c =>
   obtain ⟨hs, hfe, hcl⟩ := q
   have hcb' : 0 ≤ c ∧ c ≤ k := hx
   exact ⟨by omega, fun q => by omega, fun _ _ => ok, fun _ _ a b c d _ _ _ => by omega, fun _ => by omega, fun _ => by omega, by omega, fun _ => by omega⟩
  | free e r =>
   obtain ⟨hs, hfe, hr'⟩ := q
   have h3 : HdOk K r := hx
   have hlt : t.at_ < t.held.length := by
    cases r with
    | nil => exact absurd rfl h3.1
    | cons y r => exact drop_lt hr'
   exact ⟨by omega, fun q => by omega, fun _ _ => ok, fun _ _ _ _ _ _ _ _ _ => (by constructor <;> first | exact hrg | omega), fun _ => by omega, fun _ => by omega, by omega, fun _ => by omega⟩
  | fin e =>
   obtain ⟨hs, hfe⟩ : t.step = 27 ∧ t.turn.fate = e := q
   exact ⟨by omega, fun q => by omega, fun _ _ => ok, fun _ _ _ _ _ _ _ _ _ => (by constructor <;> first | exact hrg | omega), fun _ => by omega, fun _ => by omega, by omega, fun _ => by omega⟩
  | fGate =>
   have hs : t.step = 28 := q
   exact ⟨by omega, fun q => by omega, fun _ _ => ok, fun _ _ a b c d _ _ _ => by omega, fun _ => by omega, fun _ => by omega, by omega, fun _ => by omega⟩
  | fOwn r =>
   obtain ⟨hs, hr'⟩ := q
   have h3 : HdOk K r := hx
   have hlt : t.at_ < t.held.length ∧ putV (hOut K ⟨hrank, hfails, hlist, hends, hjob, x, .fOwn r⟩) v.seen = 0 := by
    cases r with
    | nil => exact absurd rfl h3.1
    | cons y r => exact ⟨drop_lt hr', rfl⟩
   exact ⟨by omega, fun q => by omega, fun _ _ => ok, fun _ _ _ _ _ _ _ _ _ => (by constructor <;> first | exact hrg | omega), fun _ => by omega, fun _ => by omega, by omega, fun _ => by omega⟩
  | fTake =>
   have hs : t.step = 30 := q
   have hcn := (show VOk K.c k 1 v.seen from hv).cnt (Or.inr rfl)
   have hp : putV (hOut K ⟨hrank, hfails, hlist, hends, hjob, x, .fTake⟩) v.seen = v.seen + 1 := rfl
   exact ⟨by omega, fun q => by omega, fun _ _ => ok, fun _ _ a b c d _ _ _ => by omega, fun _ => by omega, fun _ => by omega, by omega, fun _ => by omega⟩
  | fStat =>
   have hs : t.step = 31 := q
   have h0 := hvs rfl
   have hwx' : -1 ≤ x.way ∧ x.way < K.c.t := hwx
   have hwy' : t.wayTo = x.way + 1 := hwy
   exact ⟨by omega, fun q => by omega, fun _ _ => ok, fun _ _ _ _ _ _ _ _ _ => (by constructor <;> first | exact hrg | omega), fun _ => by omega, fun _ => by omega, by omega, fun _ => by omega⟩
end Go.Proofs.YtejadojilncbjaaGreat
