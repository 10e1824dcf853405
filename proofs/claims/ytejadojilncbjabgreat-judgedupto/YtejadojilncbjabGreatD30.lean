import Derived.Test.YtejadojilncbjabGreatD29
import Derived.Test.YtejadojilncbjabGreatD26
import Derived.Test.YtejadojilncbjabGreatD08
import Derived.Test.YtejadojilncbjabGreatD19
namespace Go.Proofs.YtejadojilncbjabGreat
open Go.RowKit
set_option linter.unusedVariables false
attribute [local go_sem ↓] Go.wp_at_zero Go.wp_at_succ
section
variable (base p z : Nat) (A B : List Value) (t : PT) (L : Ls) (w : World)
set_option maxHeartbeats 1000000 in
theorem t_await2 (hb : TAt w p z A B t L) (status : Int) (h0 : 0 ≤ status) (h1 : status ≤ 1125899906842624) :
  Calls Tryz.prog 166 #[.pointer (some ⟨p, z, none⟩), .int .i64 status] w (DidT p z A B (yAwait status t) L w) := by
 have h10 := hb.cRank
 have HB : Hid (TAt w p z A B t L) := hb
 obtain ⟨q, hq⟩ : ∃ q, q = status.tdiv 8 := ⟨_, rfl⟩
 have HM : Hid (∀ w, Calls Tryz.prog 207 #[.int .i64 status] w fun e w' => e = .returned (.int .i64 q) ∧ w' = w) := fun w => by rw [hq]; exact t_rankIn status w (by omega) h1
 unfold yAwait
 rw [← hq]
 clear hb h0 h1 hq
 by_cases hc : q = 0 ∨ (0 < t.rank ∧ t.rank < q)
 ·rw [if_pos hc]
  rcases hc with hc | ⟨hc1, hc2⟩
  ·subst hc
   go_enter Tryz.func166, Tryz.ntmps166
   go_wp2_with fail
   refine (HM.out _).mono ?_
   rintro e w1 ⟨rfl, rfl⟩
   go_wp2_with fail
   refine (t_begin p z A B t L _ HB.out).mono ?_
   rintro e w1 ⟨rfl, a1, a2⟩
   go_wp2
   go_end0
   exact ⟨rfl, a1, a2⟩
  ·have hqb : (q == 0) = false := by rw [beq_eq_false_iff_ne]; omega
   go_enter Tryz.func166, Tryz.ntmps166
   go_wp2_with fail
   refine (HM.out _).mono ?_
   rintro e w1 ⟨rfl, rfl⟩
   go_wp2_with fail
   refine (t_begin p z A B t L _ HB.out).mono ?_
   rintro e w1 ⟨rfl, a1, a2⟩
   go_wp2
   go_end0
   exact ⟨rfl, a1, a2⟩
 ·rw [if_neg hc]
  have hqb : (q == 0) = false := by rw [beq_eq_false_iff_ne]; exact fun h => hc (Or.inl h)
  by_cases hr : 0 < t.rank
  ·have hr2 : ¬ t.rank < q := fun h => hc (Or.inr ⟨hr, h⟩)
   clear hc
   go_enter Tryz.func166, Tryz.ntmps166
   go_wp2_with fail
   refine (HM.out _).mono ?_
   rintro e w1 ⟨rfl, rfl⟩
   go_wp2
   go_end0
   exact ⟨rfl, HB.out, Only.refl _ _⟩
  ·clear hc
   go_enter Tryz.func166, Tryz.ntmps166
   go_wp2_with fail
   refine (HM.out _).mono ?_
   rintro e w1 ⟨rfl, rfl⟩
   go_wp2
   go_end0
   exact ⟨rfl, HB.out, Only.refl _ _⟩
set_option maxHeartbeats 1000000 in
theorem t_followFail2 (R : TR base p z A B w t L) (ok : TOk t) (hfl : t.fails + 1 ≤ 2 ^ 40) (hs : t.step = 28 ∨ t.step = 30) (put : Int) (hp : t.step = 30 → 0 ≤ put ∧ put ≤ 2 ^ 40) :
  Calls Tryz.prog 163 #[.pointer (some ⟨p, z, none⟩), .int .i64 put] w (DidT p z A B (yFollowFail put t) L w) := by
 have hb := R.tt
 have h13 := hb.cStep
 have h38 := hb.cAt
 have h10 := hb.cRank
 have hf := hb.froz
 have HR : Hid (TR base p z A B w t L) := R
 have HK : Hid (TOk t) := ok
 have HF : Hid (t.fails + 1 ≤ 2 ^ 40) := hfl
 unfold yFollowFail
 rcases hs with hs | hs
 ·rw [if_pos hs]
  rw [hs] at h13
  clear hb ok R hfl hs hp
  go_enter Tryz.func163, Tryz.ntmps163
  go_wp2_with fail
  refine (t_fail base p z A B t L _ HR.out HK.out HF.out).mono ?_
  rintro e w1 ⟨rfl, a1, a2⟩
  go_wp2
  go_end0
  exact ⟨rfl, a1, a2⟩
 ·rw [if_neg (by omega), if_neg (by omega), if_pos hs]
  have hp' := hp hs
  rw [hs] at h13
  have hb1 : TAt (w.setCell ⟨p, z + 11, none⟩ (.int .i64 put)) p z A B { t with rank := put } L := hb.set 11 (by decide) _ rfl
  have HB1 : Hid (TAt (w.setCell ⟨p, z + 11, none⟩ (.int .i64 put)) p z A B { t with rank := put } L) := hb1
  have HO : Hid (Only p w (w.setCell ⟨p, z + 11, none⟩ (.int .i64 put))) := (Only.refl _ _).set
  have HK1 : Hid (TOk { t with rank := put }) := ⟨ok.cfg, ok.num, hp', ok.fails, ok.rd, ok.wr, ok.hd, ok.rl, ok.wl, ok.hl, ok.ml, ok.cur, ok.nl, ok.sl⟩
  clear hb ok R hfl hs hp hp' hb1 HR
  go_enter Tryz.func163, Tryz.ntmps163
  go_wp2_with fail
  refine (t_show p z A B { t with rank := put } L _ HB1.out HK1.out).mono ?_
  rintro e w1 ⟨rfl, a1, a2⟩
  go_wp2
  go_end0
  exact ⟨rfl, a1, (HO.out).trans a2⟩
set_option maxHeartbeats 4000000 in
theorem t_followStore2 (R : TR base p z A B w t L) (ok : TOk t) (hcl : -1 ≤ t.clock ∧ t.clock ≤ 2 ^ 50)
  (hs : t.step = 21 ∨ t.step = 22) :
  Calls Tryz.prog 160 #[.pointer (some ⟨p, z, none⟩)] w (DidT p z A B (yFollowStore t) L w) := by
 have hb := R.tt
 have h13 := hb.cStep
 have h38 := hb.cAt
 have hf := hb.froz
 have HB : Hid (TAt w p z A B t L) := hb
 have HK : Hid (TOk t) := ok
 have HC : Hid (-1 ≤ t.clock ∧ t.clock ≤ 2 ^ 50) := hcl
 unfold yFollowStore
 rcases hs with hs | hs
 ·rw [if_neg (by omega), if_pos hs]
  rw [hs] at h13
  have h24 := hb.cStamp
  have HB2 : Hid (TAt (w.setCell ⟨p, z + 19 + 5, none⟩ (.int .i64 (t.clock + 1))) p z A B { t with aStamp := t.clock + 1 } L) := hb.set 24 (by decide) _ rfl
  have HO2 : Hid (Only p w (w.setCell ⟨p, z + 19 + 5, none⟩ (.int .i64 (t.clock + 1)))) := (Only.refl _ _).set
  clear hb ok R hs hcl
  go_enter Tryz.func160, Tryz.ntmps160
  go_wp2_with fail
  refine (t_stamp p z A B t L _ HB.out (HC.out).1 (HC.out).2).mono ?_
  rintro e w1 ⟨rfl, rfl⟩
  go_wp2_with fail
  refine (t_store p z A B { t with aStamp := t.clock + 1 } L 22 2 0 _ HB2.out).mono ?_
  rintro e w1 ⟨rfl, a1, a2⟩
  go_wp2
  go_end0
  exact ⟨rfl, a1, (HO2.out).trans a2⟩
 ·rw [if_neg (by omega), if_neg (by omega), if_pos hs]
  rw [hs] at h13
  have hb2 : TAt (w.setCell ⟨p, z + 19 + 27, none⟩ (.int .i64 0)) p z A B { t with at_ := 0 } L := hb.set 46 (by decide) _ rfl
  have hO2 : Only p w (w.setCell ⟨p, z + 19 + 27, none⟩ (.int .i64 0)) := (Only.refl _ _).set
  have HR2 : Hid (TR base p z A B (w.setCell ⟨p, z + 19 + 27, none⟩ (.int .i64 0)) { t with at_ := 0 } L) := R.next hb2 hO2 rfl rfl rfl rfl rfl rfl
  have HO2 : Hid (Only p w (w.setCell ⟨p, z + 19 + 27, none⟩ (.int .i64 0))) := hO2
  clear hb ok R hs hcl hb2 hO2
  go_enter Tryz.func160, Tryz.ntmps160
  go_wp2_with fail
  refine (t_put base p z A B { t with at_ := 0 } L _ HR2.out HK.out HC.out).mono ?_
  rintro e w1 ⟨rfl, a1, a2⟩
  go_wp2
  go_end0
  exact ⟨rfl, a1, (HO2.out).trans a2⟩
set_option maxRecDepth 100000 in
set_option maxHeartbeats 2000000 in
theorem t_follow32b (R : TR base p z A B w t L) (kind cell seen put num draw : Int) (hs : t.step = 32) (h0 : 0 ≤ seen) (h1 : seen ≤ 1125899906842624) :
  Calls Tryz.prog 136 #[.pointer (some ⟨p, z, none⟩), .agg #[.int .i64 kind, .int .i64 cell, .int .i64 seen, .int .i64 put], .int .i64 num, .int .i64 draw] w (Dids base p z A B (yAwait seen t) L w) := by
 have h13 := R.tt.cStep
 rw [hs] at h13
 have hlt := R.tt.lt
 have hne : p ≠ w.heap.size := by omega
 have hB0 : Below w.heap.size w (w.alloc (.cells #[.int .i64 kind, .int .i64 cell, .int .i64 seen, .int .i64 put] 158)) := (Below.refl _ _).alloc (Nat.le_refl _) _
 have HRa : Hid (TR base p z A B (w.alloc (.cells #[.int .i64 kind, .int .i64 cell, .int .i64 seen, .int .i64 put] 158)) t L) := R.below hB0
 have HOa : Hid (Only p w (w.alloc (.cells #[.int .i64 kind, .int .i64 cell, .int .i64 seen, .int .i64 put] 158))) := Only.below hB0
 have HS0 : Hid (0 ≤ seen) := h0
 have HSn : Hid (seen ≤ 1125899906842624) := h1
 clear h0 h1
 clear R hB0
 go_enter Tryz.func136, Tryz.ntmps136
 go_wp2_with fail
 refine (t_await2 p z A B t L _ (HRa.out).tt seen HS0.out HSn.out).mono ?_
 rintro e w2 ⟨rfl, a1, a2⟩
 go_wp2
 go_end0
 exact ⟨rfl, L, (HRa.out).by a1 a2 (lists_await seen t), Goes.only ((HOa.out).trans a2)⟩
set_option maxRecDepth 100000 in
set_option maxHeartbeats 2000000 in
theorem t_follow21b (R : TR base p z A B w t L) (kind cell seen put num draw : Int) (hs : t.step = 21) (ok : TOk t) (hcl : -1 ≤ t.clock ∧ t.clock ≤ 2 ^ 50) :
  Calls Tryz.prog 136 #[.pointer (some ⟨p, z, none⟩), .agg #[.int .i64 kind, .int .i64 cell, .int .i64 seen, .int .i64 put], .int .i64 num, .int .i64 draw] w (Dids base p z A B (yFollowStore t) L w) := by
 have h13 := R.tt.cStep
 rw [hs] at h13
 have hlt := R.tt.lt
 have hne : p ≠ w.heap.size := by omega
 have hB0 : Below w.heap.size w (w.alloc (.cells #[.int .i64 kind, .int .i64 cell, .int .i64 seen, .int .i64 put] 158)) := (Below.refl _ _).alloc (Nat.le_refl _) _
 have HRa : Hid (TR base p z A B (w.alloc (.cells #[.int .i64 kind, .int .i64 cell, .int .i64 seen, .int .i64 put] 158)) t L) := R.below hB0
 have HOa : Hid (Only p w (w.alloc (.cells #[.int .i64 kind, .int .i64 cell, .int .i64 seen, .int .i64 put] 158))) := Only.below hB0
 have HK : Hid (TOk t) := ok
 have HCl : Hid (-1 ≤ t.clock ∧ t.clock ≤ 2 ^ 50) := hcl
 clear ok hcl
 clear R hB0
 go_enter Tryz.func136, Tryz.ntmps136
 go_wp2_with fail
 refine (t_followStore2 base p z A B t L _ HRa.out HK.out HCl.out (by omega)).mono ?_
 rintro e w2 ⟨rfl, a1, a2⟩
 go_wp2
 go_end0
 exact ⟨rfl, L, (HRa.out).by a1 a2 (lists_store t), Goes.only ((HOa.out).trans a2)⟩
set_option maxRecDepth 100000 in
set_option maxHeartbeats 2000000 in
theorem t_follow22b (R : TR base p z A B w t L) (kind cell seen put num draw : Int) (hs : t.step = 22) (ok : TOk t) (hcl : -1 ≤ t.clock ∧ t.clock ≤ 2 ^ 50) :
  Calls Tryz.prog 136 #[.pointer (some ⟨p, z, none⟩), .agg #[.int .i64 kind, .int .i64 cell, .int .i64 seen, .int .i64 put], .int .i64 num, .int .i64 draw] w (Dids base p z A B (yFollowStore t) L w) := by
 have h13 := R.tt.cStep
 rw [hs] at h13
 have hlt := R.tt.lt
 have hne : p ≠ w.heap.size := by omega
 have hB0 : Below w.heap.size w (w.alloc (.cells #[.int .i64 kind, .int .i64 cell, .int .i64 seen, .int .i64 put] 158)) := (Below.refl _ _).alloc (Nat.le_refl _) _
 have HRa : Hid (TR base p z A B (w.alloc (.cells #[.int .i64 kind, .int .i64 cell, .int .i64 seen, .int .i64 put] 158)) t L) := R.below hB0
 have HOa : Hid (Only p w (w.alloc (.cells #[.int .i64 kind, .int .i64 cell, .int .i64 seen, .int .i64 put] 158))) := Only.below hB0
 have HK : Hid (TOk t) := ok
 have HCl : Hid (-1 ≤ t.clock ∧ t.clock ≤ 2 ^ 50) := hcl
 clear ok hcl
 clear R hB0
 go_enter Tryz.func136, Tryz.ntmps136
 go_wp2_with fail
 refine (t_followStore2 base p z A B t L _ HRa.out HK.out HCl.out (by omega)).mono ?_
 rintro e w2 ⟨rfl, a1, a2⟩
 go_wp2
 go_end0
 exact ⟨rfl, L, (HRa.out).by a1 a2 (lists_store t), Goes.only ((HOa.out).trans a2)⟩
set_option maxRecDepth 100000 in
set_option maxHeartbeats 2000000 in
theorem t_follow28b (R : TR base p z A B w t L) (kind cell seen put num draw : Int) (hs : t.step = 28) (ok : TOk t) (hfl : t.fails + 1 ≤ 2 ^ 40) (hp : t.step = 30 → 0 ≤ put ∧ put ≤ 2 ^ 40) :
  Calls Tryz.prog 136 #[.pointer (some ⟨p, z, none⟩), .agg #[.int .i64 kind, .int .i64 cell, .int .i64 seen, .int .i64 put], .int .i64 num, .int .i64 draw] w (Dids base p z A B (yFollowFail put t) L w) := by
 have h13 := R.tt.cStep
 rw [hs] at h13
 have hlt := R.tt.lt
 have hne : p ≠ w.heap.size := by omega
 have hB0 : Below w.heap.size w (w.alloc (.cells #[.int .i64 kind, .int .i64 cell, .int .i64 seen, .int .i64 put] 158)) := (Below.refl _ _).alloc (Nat.le_refl _) _
 have HRa : Hid (TR base p z A B (w.alloc (.cells #[.int .i64 kind, .int .i64 cell, .int .i64 seen, .int .i64 put] 158)) t L) := R.below hB0
 have HOa : Hid (Only p w (w.alloc (.cells #[.int .i64 kind, .int .i64 cell, .int .i64 seen, .int .i64 put] 158))) := Only.below hB0
 have HK : Hid (TOk t) := ok
 have HF : Hid (t.fails + 1 ≤ 2 ^ 40) := hfl
 have HPu : Hid (t.step = 30 → 0 ≤ put ∧ put ≤ 2 ^ 40) := hp
 clear ok hfl hp
 clear R hB0
 go_enter Tryz.func136, Tryz.ntmps136
 go_wp2_with fail
 refine (t_followFail2 base p z A B t L _ HRa.out HK.out HF.out (by omega) put HPu.out).mono ?_
 rintro e w2 ⟨rfl, a1, a2⟩
 go_wp2
 go_end0
 exact ⟨rfl, L, (HRa.out).by a1 a2 (lists_ffail put t), Goes.only ((HOa.out).trans a2)⟩
set_option maxRecDepth 100000 in
set_option maxHeartbeats 2000000 in
theorem t_follow30b (R : TR base p z A B w t L) (kind cell seen put num draw : Int) (hs : t.step = 30) (ok : TOk t) (hfl : t.fails + 1 ≤ 2 ^ 40) (hp : t.step = 30 → 0 ≤ put ∧ put ≤ 2 ^ 40) :
  Calls Tryz.prog 136 #[.pointer (some ⟨p, z, none⟩), .agg #[.int .i64 kind, .int .i64 cell, .int .i64 seen, .int .i64 put], .int .i64 num, .int .i64 draw] w (Dids base p z A B (yFollowFail put t) L w) := by
 have h13 := R.tt.cStep
 rw [hs] at h13
 have hlt := R.tt.lt
 have hne : p ≠ w.heap.size := by omega
 have hB0 : Below w.heap.size w (w.alloc (.cells #[.int .i64 kind, .int .i64 cell, .int .i64 seen, .int .i64 put] 158)) := (Below.refl _ _).alloc (Nat.le_refl _) _
 have HRa : Hid (TR base p z A B (w.alloc (.cells #[.int .i64 kind, .int .i64 cell, .int .i64 seen, .int .i64 put] 158)) t L) := R.below hB0
 have HOa : Hid (Only p w (w.alloc (.cells #[.int .i64 kind, .int .i64 cell, .int .i64 seen, .int .i64 put] 158))) := Only.below hB0
 have HK : Hid (TOk t) := ok
 have HF : Hid (t.fails + 1 ≤ 2 ^ 40) := hfl
 have HPu : Hid (t.step = 30 → 0 ≤ put ∧ put ≤ 2 ^ 40) := hp
 clear ok hfl hp
 clear R hB0
 go_enter Tryz.func136, Tryz.ntmps136
 go_wp2_with fail
 refine (t_followFail2 base p z A B t L _ HRa.out HK.out HF.out (by omega) put HPu.out).mono ?_
 rintro e w2 ⟨rfl, a1, a2⟩
 go_wp2
 go_end0
 exact ⟨rfl, L, (HRa.out).by a1 a2 (lists_ffail put t), Goes.only ((HOa.out).trans a2)⟩
end
section
variable (base p z : Nat) (A B : List Value) (t : PT) (L : Ls) (w : World)
set_option maxHeartbeats 4000000 in
theorem t_followCommit2 (R : TR base p z A B w t L) (ok : TOk t) (hfl : t.fails + 1 ≤ 2 ^ 40) (seen : Int) (hsn : -1 ≤ seen ∧ seen ≤ 2 ^ 50)
  (hs : t.step = 16 ∨ t.step = 17 ∨ t.step = 18) :
  Calls Tryz.prog 159 #[.pointer (some ⟨p, z, none⟩), .int .i64 seen] w (DidT p z A B (yFollowCommit seen t) L w) := by
 have hb := R.tt
 have h13 := hb.cStep
 have h38 := hb.cAt
 have h37 := hb.cClock
 have hf := hb.froz
 have HR : Hid (TR base p z A B w t L) := R
 have HB : Hid (TAt w p z A B t L) := hb
 have HK : Hid (TOk t) := ok
 have HF : Hid (t.fails + 1 ≤ 2 ^ 40) := hfl
 have HS : Hid (-1 ≤ seen ∧ seen ≤ 2 ^ 50) := hsn
 unfold yFollowCommit
 rcases hs with hs | hs | hs
 ·rw [if_pos hs]
  rw [hs] at h13
  have HMk : Hid (∀ w, Calls Tryz.prog 181 #[.int .i64 seen] w fun e w' => e = .returned (.bool (seen.tmod 8 != 0)) ∧ w' = w) := fun w => t_marked seen w
  by_cases hm : seen.tmod 8 = 0
  ·rw [if_neg (fun q => q hm)]
   have hmb : (seen.tmod 8 != 0) = false := by simp [hm]
   rw [hmb] at HMk
   clear hb ok R hfl hs hsn hmb hm h38 h37
   go_enter Tryz.func159, Tryz.ntmps159
   go_wp2_with fail
   refine (HMk.out _).mono ?_
   rintro e w1 ⟨rfl, rfl⟩
   go_wp2_with fail
   refine (t_name p z A B t L _ HB.out HK.out).mono ?_
   rintro e w1 ⟨rfl, rfl⟩
   go_wp2_with fail
   refine (t_swap p z A B t L 17 2 0 (t.num + 1) _ HB.out).mono ?_
   rintro e w1 ⟨rfl, a1, a2⟩
   go_wp2
   go_end0
   exact ⟨rfl, a1, a2⟩
  ·rw [if_pos hm]
   have hmb : (seen.tmod 8 != 0) = true := by simpa using hm
   rw [hmb] at HMk
   clear hb ok R hfl hs hsn hmb hm h38 h37
   go_enter Tryz.func159, Tryz.ntmps159
   go_wp2_with fail
   refine (HMk.out _).mono ?_
   rintro e w1 ⟨rfl, rfl⟩
   go_wp2_with fail
   refine (t_fail base p z A B t L _ HR.out HK.out HF.out).mono ?_
   rintro e w1 ⟨rfl, a1, a2⟩
   go_wp2
   refine bodyPost_ret (results_none rfl _ _ _) rfl ?_
   exact ⟨rfl, a1, a2⟩
 ·rw [if_neg (by omega), if_pos hs]
  rw [hs] at h13
  by_cases hm : seen = 0
  ·rw [if_pos hm]
   subst hm
   clear hb ok R hfl hs hsn h38 h37
   go_enter Tryz.func159, Tryz.ntmps159
   go_wp2_with fail
   refine (t_load p z A B t L 18 0 _ HB.out).mono ?_
   rintro e w1 ⟨rfl, a1, a2⟩
   go_wp2
   go_end0
   exact ⟨rfl, a1, a2⟩
  ·rw [if_neg hm]
   have hmb : (seen == 0) = false := by simpa using hm
   clear hb ok R hfl hs hsn h38 h37 hm
   go_enter Tryz.func159, Tryz.ntmps159
   go_wp2
   go_end0
   exact ⟨rfl, HB.out, Only.refl _ _⟩
 ·rw [if_neg (by omega), if_neg (by omega), if_pos hs]
  rw [hs] at h13
  have hb1 : TAt ((w.setCell ⟨p, z + 19 + 26, none⟩ (.int .i64 seen)).setCell ⟨p, z + 19 + 27, none⟩ (.int .i64 0)) p z A B { t with clock := seen, at_ := 0 } L := (hb.set (t' := { t with clock := seen }) 45 (by decide) (.int .i64 seen) rfl).set 46 (by decide) _ rfl
  have hO1 : Only p w ((w.setCell ⟨p, z + 19 + 26, none⟩ (.int .i64 seen)).setCell ⟨p, z + 19 + 27, none⟩ (.int .i64 0)) := ((Only.refl _ _).set).set
  have HR1 : Hid (TR base p z A B ((w.setCell ⟨p, z + 19 + 26, none⟩ (.int .i64 seen)).setCell ⟨p, z + 19 + 27, none⟩ (.int .i64 0)) { t with clock := seen, at_ := 0 } L) := R.next hb1 hO1 rfl rfl rfl rfl rfl rfl
  have HO1 : Hid (Only p w ((w.setCell ⟨p, z + 19 + 26, none⟩ (.int .i64 seen)).setCell ⟨p, z + 19 + 27, none⟩ (.int .i64 0))) := hO1
  clear hb ok R hfl hs hsn hb1 hO1 HR HB
  go_enter Tryz.func159, Tryz.ntmps159
  go_wp2_with fail
  refine (t_check base p z A B { t with clock := seen, at_ := 0 } L _ HR1.out HK.out HS.out (Nat.zero_le _)).mono ?_
  rintro e w1 ⟨rfl, a1, a2⟩
  go_wp2
  go_end0
  exact ⟨rfl, a1, (HO1.out).trans a2⟩
set_option maxRecDepth 100000 in
set_option maxHeartbeats 2000000 in
theorem t_follow16b (R : TR base p z A B w t L) (kind cell seen put num draw : Int) (hs : t.step = 16) (ok : TOk t) (hfl : t.fails + 1 ≤ 2 ^ 40) (hsn : -1 ≤ seen ∧ seen ≤ 2 ^ 50) :
  Calls Tryz.prog 136 #[.pointer (some ⟨p, z, none⟩), .agg #[.int .i64 kind, .int .i64 cell, .int .i64 seen, .int .i64 put], .int .i64 num, .int .i64 draw] w (Dids base p z A B (yFollowCommit seen t) L w) := by
 have h13 := R.tt.cStep
 rw [hs] at h13
 have hlt := R.tt.lt
 have hne : p ≠ w.heap.size := by omega
 have hB0 : Below w.heap.size w (w.alloc (.cells #[.int .i64 kind, .int .i64 cell, .int .i64 seen, .int .i64 put] 158)) := (Below.refl _ _).alloc (Nat.le_refl _) _
 have HRa : Hid (TR base p z A B (w.alloc (.cells #[.int .i64 kind, .int .i64 cell, .int .i64 seen, .int .i64 put] 158)) t L) := R.below hB0
 have HOa : Hid (Only p w (w.alloc (.cells #[.int .i64 kind, .int .i64 cell, .int .i64 seen, .int .i64 put] 158))) := Only.below hB0
 have HK : Hid (TOk t) := ok
 have HF : Hid (t.fails + 1 ≤ 2 ^ 40) := hfl
 have HSn : Hid (-1 ≤ seen ∧ seen ≤ 2 ^ 50) := hsn
 clear ok hfl hsn
 clear R hB0
 go_enter Tryz.func136, Tryz.ntmps136
 go_wp2_with fail
 refine (t_followCommit2 base p z A B t L _ HRa.out HK.out HF.out seen HSn.out (by omega)).mono ?_
 rintro e w2 ⟨rfl, a1, a2⟩
 go_wp2
 go_end0
 exact ⟨rfl, L, (HRa.out).by a1 a2 (lists_commit seen t), Goes.only ((HOa.out).trans a2)⟩
set_option maxRecDepth 100000 in
set_option maxHeartbeats 2000000 in
theorem t_follow17b (R : TR base p z A B w t L) (kind cell seen put num draw : Int) (hs : t.step = 17) (ok : TOk t) (hfl : t.fails + 1 ≤ 2 ^ 40) (hsn : -1 ≤ seen ∧ seen ≤ 2 ^ 50) :
  Calls Tryz.prog 136 #[.pointer (some ⟨p, z, none⟩), .agg #[.int .i64 kind, .int .i64 cell, .int .i64 seen, .int .i64 put], .int .i64 num, .int .i64 draw] w (Dids base p z A B (yFollowCommit seen t) L w) := by
 have h13 := R.tt.cStep
 rw [hs] at h13
 have hlt := R.tt.lt
 have hne : p ≠ w.heap.size := by omega
 have hB0 : Below w.heap.size w (w.alloc (.cells #[.int .i64 kind, .int .i64 cell, .int .i64 seen, .int .i64 put] 158)) := (Below.refl _ _).alloc (Nat.le_refl _) _
 have HRa : Hid (TR base p z A B (w.alloc (.cells #[.int .i64 kind, .int .i64 cell, .int .i64 seen, .int .i64 put] 158)) t L) := R.below hB0
 have HOa : Hid (Only p w (w.alloc (.cells #[.int .i64 kind, .int .i64 cell, .int .i64 seen, .int .i64 put] 158))) := Only.below hB0
 have HK : Hid (TOk t) := ok
 have HF : Hid (t.fails + 1 ≤ 2 ^ 40) := hfl
 have HSn : Hid (-1 ≤ seen ∧ seen ≤ 2 ^ 50) := hsn
 clear ok hfl hsn
 clear R hB0
 go_enter Tryz.func136, Tryz.ntmps136
 go_wp2_with fail
 refine (t_followCommit2 base p z A B t L _ HRa.out HK.out HF.out seen HSn.out (by omega)).mono ?_
 rintro e w2 ⟨rfl, a1, a2⟩
 go_wp2
 go_end0
 exact ⟨rfl, L, (HRa.out).by a1 a2 (lists_commit seen t), Goes.only ((HOa.out).trans a2)⟩
set_option maxRecDepth 100000 in
set_option maxHeartbeats 2000000 in
theorem t_follow18b (R : TR base p z A B w t L) (kind cell seen put num draw : Int) (hs : t.step = 18) (ok : TOk t) (hfl : t.fails + 1 ≤ 2 ^ 40) (hsn : -1 ≤ seen ∧ seen ≤ 2 ^ 50) :
  Calls Tryz.prog 136 #[.pointer (some ⟨p, z, none⟩), .agg #[.int .i64 kind, .int .i64 cell, .int .i64 seen, .int .i64 put], .int .i64 num, .int .i64 draw] w (Dids base p z A B (yFollowCommit seen t) L w) := by
 have h13 := R.tt.cStep
 rw [hs] at h13
 have hlt := R.tt.lt
 have hne : p ≠ w.heap.size := by omega
 have hB0 : Below w.heap.size w (w.alloc (.cells #[.int .i64 kind, .int .i64 cell, .int .i64 seen, .int .i64 put] 158)) := (Below.refl _ _).alloc (Nat.le_refl _) _
 have HRa : Hid (TR base p z A B (w.alloc (.cells #[.int .i64 kind, .int .i64 cell, .int .i64 seen, .int .i64 put] 158)) t L) := R.below hB0
 have HOa : Hid (Only p w (w.alloc (.cells #[.int .i64 kind, .int .i64 cell, .int .i64 seen, .int .i64 put] 158))) := Only.below hB0
 have HK : Hid (TOk t) := ok
 have HF : Hid (t.fails + 1 ≤ 2 ^ 40) := hfl
 have HSn : Hid (-1 ≤ seen ∧ seen ≤ 2 ^ 50) := hsn
 clear ok hfl hsn
 clear R hB0
 go_enter Tryz.func136, Tryz.ntmps136
 go_wp2_with fail
 refine (t_followCommit2 base p z A B t L _ HRa.out HK.out HF.out seen HSn.out (by omega)).mono ?_
 rintro e w2 ⟨rfl, a1, a2⟩
 go_wp2
 go_end0
 exact ⟨rfl, L, (HRa.out).by a1 a2 (lists_commit seen t), Goes.only ((HOa.out).trans a2)⟩
structure FAll (t : PT) (seen put draw : Int) : Prop where
 step : 2 ≤ t.step ∧ t.step ≤ 32
 s32 : t.step = 32 → 0 ≤ seen ∧ seen ≤ 1125899906842624
 ok : t.step ≠ 2 → t.step ≠ 32 → TOk t
 f : t.step ≠ 2 → t.step ≠ 32 → t.step ≠ 21 → t.step ≠ 22 → t.step ≠ 28 → t.step ≠ 30 → t.step ≠ 16 → t.step ≠ 17 → t.step ≠ 18 → FOk t seen put draw
 clk : t.step = 21 ∨ t.step = 22 → -1 ≤ t.clock ∧ t.clock ≤ 2 ^ 50
 fl : t.step ≠ 2 → t.fails + 1 ≤ 2 ^ 40
 sn : -1 ≤ seen ∧ seen ≤ 2 ^ 50
 put : t.step = 30 → 0 ≤ put ∧ put ≤ 2 ^ 40
theorem t_followX (R : TR base p z A B w t L) (hbs : base ≤ w.heap.size) (kind cell seen put num draw : Int) (F : FAll t seen put draw) (hcur : t.cur < t.mine.length) :
  Calls Tryz.prog 136 #[.pointer (some ⟨p, z, none⟩), .agg #[.int .i64 kind, .int .i64 cell, .int .i64 seen, .int .i64 put], .int .i64 num, .int .i64 draw] w (DidN base p z A B t.step (yFollow seen put num draw t) L w) := by
 by_cases h2 : t.step = 2
 ·rw [show yFollow seen put num draw t = yNew t seen num from by simp [yFollow, h2]]
  rw [h2]
  exact t_followBegin base p z A B t L w R hcur h2 kind cell seen put num draw
 by_cases h32 : t.step = 32
 ·rw [show yFollow seen put num draw t = yAwait seen t from by simp [yFollow, h32]]
  exact (t_follow32b base p z A B t L w R kind cell seen put num draw h32 (F.s32 h32).1 (F.s32 h32).2).mono (fun e w' h => h.toN h2)
 have ok := F.ok h2 h32
 by_cases h21 : t.step = 21
 ·rw [show yFollow seen put num draw t = yFollowStore t from by simp [yFollow, h21]]
  exact (t_follow21b base p z A B t L w R kind cell seen put num draw h21 ok (F.clk (Or.inl h21))).mono (fun e w' h => h.toN h2)
 by_cases h22 : t.step = 22
 ·rw [show yFollow seen put num draw t = yFollowStore t from by simp [yFollow, h22]]
  exact (t_follow22b base p z A B t L w R kind cell seen put num draw h22 ok (F.clk (Or.inr h22))).mono (fun e w' h => h.toN h2)
 by_cases h28 : t.step = 28
 ·rw [show yFollow seen put num draw t = yFollowFail put t from by simp [yFollow, h28]]
  exact (t_follow28b base p z A B t L w R kind cell seen put num draw h28 ok (F.fl h2) F.put).mono (fun e w' h => h.toN h2)
 by_cases h30 : t.step = 30
 ·rw [show yFollow seen put num draw t = yFollowFail put t from by simp [yFollow, h30]]
  exact (t_follow30b base p z A B t L w R kind cell seen put num draw h30 ok (F.fl h2) F.put).mono (fun e w' h => h.toN h2)
 by_cases h16 : t.step = 16
 ·rw [show yFollow seen put num draw t = yFollowCommit seen t from by simp [yFollow, h16]]
  exact (t_follow16b base p z A B t L w R kind cell seen put num draw h16 ok (F.fl h2) F.sn).mono (fun e w' h => h.toN h2)
 by_cases h17 : t.step = 17
 ·rw [show yFollow seen put num draw t = yFollowCommit seen t from by simp [yFollow, h17]]
  exact (t_follow17b base p z A B t L w R kind cell seen put num draw h17 ok (F.fl h2) F.sn).mono (fun e w' h => h.toN h2)
 by_cases h18 : t.step = 18
 ·rw [show yFollow seen put num draw t = yFollowCommit seen t from by simp [yFollow, h18]]
  exact (t_follow18b base p z A B t L w R kind cell seen put num draw h18 ok (F.fl h2) F.sn).mono (fun e w' h => h.toN h2)
 exact (t_follow base p z A B t L w R ok hbs kind cell seen put num draw (F.f h2 h32 h21 h22 h28 h30 h16 h17 h18) h2 h32 h21 h22 h28 h30 h16 h17 h18).mono (fun e w' h => h.toN h2)
end
end Go.Proofs.YtejadojilncbjabGreat
namespace Go.Proofs.YtejadojilncbjabGreat
set_option linter.unusedVariables false
theorem nodup_len : ∀ (n : Nat) (l : List Int), l.Nodup → (∀ v ∈ l, 0 ≤ v ∧ v < (n : Int)) → l.length ≤ n
 | 0, l, hn, hb => by
  cases l with
  | nil => simp
  | cons a l => have := hb a (List.mem_cons_self ..); omega
 | n + 1, l, hn, hb => by
  have h1 : (l.erase (n : Int)).length ≤ n := by
   refine nodup_len n (l.erase (n : Int)) (hn.erase _) ?_
   intro v hv
   have hm := hn.mem_erase_iff.1 hv
   have := hb v hm.2
   have := hm.1
   omega
  have h2 : l.length ≤ (l.erase (n : Int)).length + 1 := by
   rw [List.length_erase]
   split <;> omega
  omega
theorem xlens {K : Cx} (hc : cfgB K.c = true) {k : Int} {x : TS} (X : XOk K k x) : x.reads.length ≤ 8 ∧ x.writes.length ≤ 8 ∧ x.held.length ≤ 8 := by
 obtain ⟨_, ⟨w1, w2⟩, ⟨s1, s2⟩, _⟩ := cfgB_true hc
 refine ⟨?_, ?_, ?_⟩
 ·have := nodup_len 8 (x.reads.map (·.what)) X.rn (fun v hv => by
      obtain ⟨e, he, rfl⟩ := List.mem_map.1 hv
      have := X.rd e he
      omega)
  simpa using this
 ·have := nodup_len 8 (x.writes.map (·.what)) X.wn (fun v hv => by
      obtain ⟨e, he, rfl⟩ := List.mem_map.1 hv
      have := X.wr e he
      omega)
  simpa using this
 ·exact nodup_len 8 x.held X.hn (fun v hv => by have := X.hd v hv; omega)
structure Side (K : Cx) (k : Int) (t : PT) : Prop where
 kb : 0 ≤ k ∧ k ≤ 2 ^ 30
 me : 0 ≤ K.me ∧ K.me < K.c.t
 fails : 0 ≤ t.fails ∧ t.fails ≤ k
 mine : t.mine.length ≤ 100
 cur : t.cur ≤ t.mine.length
 notes : t.notes.length ≤ 2 ^ 37
theorem tok_of {K : Cx} (hc : cfgB K.c = true) {k : Int} {t : PT} {h : Th} (b : Bax K t h) (A : Onn K k h) (D : Side K k t) : TOk t := by
 obtain ⟨l1, l2, l3⟩ := xlens hc A.x
 have X := A.x
 have hk := D.kb
 refine ⟨by rw [b.1.c]; exact hc, by rw [b.1.c, b.1.num]; exact D.me, by rw [b.1.rank]; have := A.rank; omega, by have := D.fails; omega, ?_, ?_, ?_, ?_, ?_, ?_, D.mine, by have := D.mine; have := D.cur; omega, D.notes, by have := D.mine; have := D.cur; have := b.1.tol.rl; omega⟩
 ·intro e he; rw [b.2.reads] at he; rw [b.1.c]; have := X.rd e he; exact ⟨this.1, this.2.1⟩
 ·intro e he; rw [b.2.writes] at he; rw [b.1.c]; have := X.wr e he; exact ⟨this.1, this.2.1⟩
 ·intro e he; rw [b.2.held] at he; rw [b.1.c]; exact X.hd e he
 ·rw [b.2.reads]; omega
 ·rw [b.2.writes]; omega
 ·rw [b.2.held]; omega
theorem w_turn {K : Cx} (hc : cfgB K.c = true) {code : List InsD} {k : Int} {t : PT} {h : Th} (r : RunI K code k t h) (hs : t.step = 1) :
  (MOk t.m ∧ (t.m.begun : Int) ≤ t.c.f ∧ t.m.place ≤ code.length) ∧ ∃ u, pNext t.c.f t.c.wd code yRounds t.m = u ∧ u.2.regs.length = 4 ∧ (u.1.fate = 0 → (0 ≤ u.1.addr ∧ u.1.addr ≤ 100) ∧ (u.1.op = 7 → 0 ≤ u.2.into ∧ u.2.into ≤ 3)) ∧
   ((yTurn code t).step ≠ 1 ∨ ∃ h', RunI K code k (yTurn code t) h' ∧ h.x.begun + 1 ≤ h'.x.begun) ∧ (yTurn code t).fails = t.fails ∧ (yTurn code t).mine = t.mine ∧ (yTurn code t).cur = t.cur ∧ (yTurn code t).notes.length ≤ t.notes.length + 1 := by
 obtain ⟨b, hg, A, hcd⟩ := r
 obtain ⟨⟨t1, t2⟩, ⟨w1, w2⟩, ⟨s1, s2⟩, ⟨g1, g2⟩, _, _, ⟨f1, f2⟩⟩ := cfgB_true hc
 have hM : MOk t.m := ⟨by rw [b.2.regs]; exact A.x.four, by rw [b.2.regs]; exact A.x.rg⟩
 have hP : t.m.place ≤ code.length := by rw [b.2.place, ← hcd]; exact A.x.plc
 have hBg : (t.m.begun : Int) ≤ K.c.f := by rw [b.2.begun]; exact A.x.bg
 have V := adv_sim K code h hcd yRounds t.m (K.c.f.toNat + 1) hM hP hBg (by unfold yRounds; omega) (by omega)
 refine ⟨⟨hM, by rw [b.1.c]; exact hBg, hP⟩, pNext t.c.f t.c.wd code yRounds t.m, rfl, ?_⟩
 unfold yTurn
 rw [b.1.c]
 have V1 := V.cs
 have Vo := V.ok
 have Vp := V.place
 have Vb := V.begun
 clear V
 generalize pNext K.c.f K.c.wd code yRounds t.m = u at *
 have b1 := bax_m b u.2 u.1
 have A1 := onn_m A u.2 Vo (by rw [hcd]; exact Vp) Vb
 have hkeep : (yTurned u t).fails = t.fails ∧ (yTurned u t).mine = t.mine ∧ (yTurned u t).cur = t.cur ∧ (yTurned u t).notes.length ≤ t.notes.length + 1 := by
  unfold yTurned yTouch yRead yWrite yFinish yLetGo
  repeat' split
  all_goals exact ⟨rfl, rfl, rfl, by first | exact Nat.le_succ _ | (simp [yGive, yLog])⟩
 refine ⟨Vo.1, ?_, ?_, hkeep⟩
 ·intro h0
  rcases V1 with ⟨q, _⟩ | ⟨_, i, N1, q1, q2, qa, qb, a0, a1, hcs⟩
  ·exact absurd h0 q
  ·refine ⟨⟨a0, by omega⟩, fun o7 => ?_⟩
   rcases hcs with ⟨_, hi, _⟩ | ⟨o8, _⟩
   ·rw [hi]; exact qa
   ·omega
 ·unfold yTurned
  rcases V1 with ⟨h0, h1⟩ | ⟨h0, i, N1, q1, q2, qa, qb, a0, a1, hcs⟩
  ·rw [if_neg h0]
   exact Or.inl (sim_close (t := { t with m := u.2, turn := u.1 }) (h := thM h u.2) b1 hg _ h0 rfl).step_ne
  ·rw [if_pos h0]
   rw [b.2.begun] at q1
   obtain ⟨th, hth⟩ : ∃ th, th = ({ t with m := u.2, turn := u.1 } : PT) := ⟨_, rfl⟩
   obtain ⟨hh, hhh⟩ : ∃ hh, hh = thM h u.2 := ⟨_, rfl⟩
   have e1 : th.turn = u.1 := by rw [hth]
   have e2 : th.m = u.2 := by rw [hth]
   have e3 : hh.x.begun = u.2.begun := by rw [hhh]; rfl
   have e4 : hh.x.inGate = false := by rw [hhh]; exact hg
   have e5 : hh.x.code = code := by rw [hhh]; exact hcd
   have e6 : ∀ r, mReg u.2 r = regOf hh.x r := fun r => by rw [hhh]; rfl
   rw [← hth, ← hhh] at b1
   rw [← hhh] at A1
   rw [← hth]
   clear hth
   rw [← e1] at hcs a0 a1
   rw [← e2] at hcs
   unfold yTouch
   rcases hcs with ⟨o7, hi, ha, _⟩ | ⟨o8, ha, hv, _⟩
   ·rw [if_pos o7]
    rw [e2, e6] at ha
    rcases w_read b1 e4 i o7 hi ha.symm a1 with ⟨v, ⟨e, hem, hev⟩, r1, r2⟩ | ⟨h', r1, r2⟩
    ·rw [r1]
     have hval := A1.x.wr _ hem
     rw [← hev] at hval
     exact Or.inr ⟨_, ⟨bax_give b1 i.a v hi 7 th.turn.addr o7 rfl, e4, (A1.setx _ (A1.x.setReg _ _ hval.2.2.1 hval.2.2.2)).noted _ _ _, e5⟩, by show h.x.begun + 1 ≤ hh.x.begun; rw [e3]; exact q1⟩
    ·exact Or.inl r2.step_ne
   ·rw [if_neg (by omega)]
    rw [e2, e6] at ha hv
    rcases w_write b1 e4 i o8 ha.symm hv a1 with ⟨r1, r2⟩ | ⟨h', r1, r2⟩
    ·rw [r1]
     exact Or.inr ⟨_, ⟨bax_log b1 i _ o8 rfl hv, e4, put_ok A1 a0 a1, e5⟩, by show h.x.begun + 1 ≤ hh.x.begun; rw [e3]; exact q1⟩
    ·exact Or.inl r2.step_ne
end Go.Proofs.YtejadojilncbjabGreat
