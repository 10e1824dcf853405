import Derived.Test.YtejadojilncbjaaGreatE21
import Derived.Test.YtejadojilncbjaaGreatE08
import Derived.Deep.DeepCutAuto
import Derived.Test.YtejadojilncbjaaGreatE07
import Derived.Test.YtejadojilncbjaaGreatE09
import Derived.Test.YtejadojilncbjaaGreatE17
namespace Go.Proofs.YtejadojilncbjaaGreat
open Go.RowKit
set_option linter.unusedVariables false
attribute [local go_sem ↓] Go.wp_at_zero Go.wp_at_succ

section
variable (base p z : Nat) (A B : List Value) (t : PT) (L : Ls) (w : World)

set_option maxHeartbeats 1000000 in
theorem t_await2 (hb : TAt w p z A B t L) (status : Int) (h0 : 0 ≤ status) (h1 : status ≤ 1125899906842624) :
    Calls Tryz.prog 116 #[.pointer (some ⟨p, z, none⟩), .int .i64 status] w (DidT p z A B (yAwait status t) L w) := by
  have h10 := hb.cRank
  have HB : Hid (TAt w p z A B t L) := hb
  obtain ⟨q, hq⟩ : ∃ q, q = status.tdiv 8 := ⟨_, rfl⟩
  have HM : Hid (∀ w, Calls Tryz.prog 155 #[.int .i64 status] w fun e w' => e = .returned (.int .i64 q) ∧ w' = w) := fun w => by rw [hq]; exact t_rankIn status w (by omega) h1
  unfold yAwait
  rw [← hq]
  clear hb h0 h1 hq
  by_cases hc : q = 0 ∨ (0 < t.rank ∧ t.rank < q)
  · rw [if_pos hc]
    rcases hc with hc | ⟨hc1, hc2⟩
    · subst hc
      go_enter Tryz.func116, Tryz.ntmps116
      go_wp2_with fail
      refine (HM.out _).mono ?_
      rintro e w1 ⟨rfl, rfl⟩
      go_wp2_with fail
      refine (t_begin p z A B t L _ HB.out).mono ?_
      rintro e w1 ⟨rfl, a1, a2⟩
      go_wp2
      go_end0
      exact ⟨rfl, a1, a2⟩
    · have hqb : (q == 0) = false := by rw [beq_eq_false_iff_ne]; omega
      go_enter Tryz.func116, Tryz.ntmps116
      go_wp2_with fail
      refine (HM.out _).mono ?_
      rintro e w1 ⟨rfl, rfl⟩
      go_wp2_with fail
      refine (t_begin p z A B t L _ HB.out).mono ?_
      rintro e w1 ⟨rfl, a1, a2⟩
      go_wp2
      go_end0
      exact ⟨rfl, a1, a2⟩
  · rw [if_neg hc]
    have hqb : (q == 0) = false := by rw [beq_eq_false_iff_ne]; exact fun h => hc (Or.inl h)
    by_cases hr : 0 < t.rank
    · have hr2 : ¬ t.rank < q := fun h => hc (Or.inr ⟨hr, h⟩)
      clear hc
      go_enter Tryz.func116, Tryz.ntmps116
      go_wp2_with fail
      refine (HM.out _).mono ?_
      rintro e w1 ⟨rfl, rfl⟩
      go_wp2
      go_end0
      exact ⟨rfl, HB.out, Only.refl _ _⟩
    · clear hc
      go_enter Tryz.func116, Tryz.ntmps116
      go_wp2_with fail
      refine (HM.out _).mono ?_
      rintro e w1 ⟨rfl, rfl⟩
      go_wp2
      go_end0
      exact ⟨rfl, HB.out, Only.refl _ _⟩

set_option maxHeartbeats 1000000 in
theorem t_followFail2 (R : TR base p z A B w t L) (ok : TOk t) (hfl : t.fails + 1 ≤ 2 ^ 40) (hs : t.step = 28 ∨ t.step = 30) (put : Int) (hp : t.step = 30 → 0 ≤ put ∧ put ≤ 2 ^ 40) :
    Calls Tryz.prog 113 #[.pointer (some ⟨p, z, none⟩), .int .i64 put] w (DidT p z A B (yFollowFail put t) L w) := by
  have hb := R.tt
  have h13 := hb.cStep
  have h38 := hb.cAt
  have h10 := hb.cRank
  have hf := hb.froz
  have HR : Hid (TR base p z A B w t L) := R
  have HK : Hid (TOk t) := ok
  have HF : Hid (t.fails + 1 ≤ 2 ^ 40) := hfl
  unfold yFollowFail
  rcases hs with hs | hs
  · rw [if_pos hs]
    rw [hs] at h13
    clear hb ok R hfl hs hp
    go_enter Tryz.func113, Tryz.ntmps113
    go_wp2_with fail
    refine (t_fail base p z A B t L _ HR.out HK.out HF.out).mono ?_
    rintro e w1 ⟨rfl, a1, a2⟩
    go_wp2
    go_end0
    exact ⟨rfl, a1, a2⟩
  · rw [if_neg (by omega), if_neg (by omega), if_pos hs]
    have hp' := hp hs
    rw [hs] at h13
    have hb1 : TAt (w.setCell ⟨p, z + 11, none⟩ (.int .i64 put)) p z A B { t with rank := put } L := hb.set 11 (by decide) _ rfl
    have HB1 : Hid (TAt (w.setCell ⟨p, z + 11, none⟩ (.int .i64 put)) p z A B { t with rank := put } L) := hb1
    have HO : Hid (Only p w (w.setCell ⟨p, z + 11, none⟩ (.int .i64 put))) := (Only.refl _ _).set
    have HK1 : Hid (TOk { t with rank := put }) := ⟨ok.cfg, ok.num, hp', ok.fails, ok.rd, ok.wr, ok.hd, ok.rl, ok.wl, ok.hl, ok.ml, ok.cur, ok.nl, ok.sl⟩
    clear hb ok R hfl hs hp hp' hb1 HR
    go_enter Tryz.func113, Tryz.ntmps113
    go_wp2_with fail
    refine (t_show p z A B { t with rank := put } L _ HB1.out HK1.out).mono ?_
    rintro e w1 ⟨rfl, a1, a2⟩
    go_wp2
    go_end0
    exact ⟨rfl, a1, (HO.out).trans a2⟩

set_option maxHeartbeats 4000000 in
theorem t_followStore2 (R : TR base p z A B w t L) (ok : TOk t) (hcl : -1 ≤ t.clock ∧ t.clock ≤ 2 ^ 50)
    (hs : t.step = 21 ∨ t.step = 22) :
    Calls Tryz.prog 110 #[.pointer (some ⟨p, z, none⟩)] w (DidT p z A B (yFollowStore t) L w) := by
  have hb := R.tt
  have h13 := hb.cStep
  have h38 := hb.cAt
  have hf := hb.froz
  have HB : Hid (TAt w p z A B t L) := hb
  have HK : Hid (TOk t) := ok
  have HC : Hid (-1 ≤ t.clock ∧ t.clock ≤ 2 ^ 50) := hcl
  unfold yFollowStore
  rcases hs with hs | hs
  · rw [if_neg (by omega), if_pos hs]
    rw [hs] at h13
    have h24 := hb.cStamp
    have HB2 : Hid (TAt (w.setCell ⟨p, z + 19 + 5, none⟩ (.int .i64 (t.clock + 1))) p z A B { t with aStamp := t.clock + 1 } L) := hb.set 24 (by decide) _ rfl
    have HO2 : Hid (Only p w (w.setCell ⟨p, z + 19 + 5, none⟩ (.int .i64 (t.clock + 1)))) := (Only.refl _ _).set
    clear hb ok R hs hcl
    go_enter Tryz.func110, Tryz.ntmps110
    go_wp2_with fail
    refine (t_stamp p z A B t L _ HB.out (HC.out).1 (HC.out).2).mono ?_
    rintro e w1 ⟨rfl, rfl⟩
    go_wp2_with fail
    refine (t_store p z A B { t with aStamp := t.clock + 1 } L 22 2 0 _ HB2.out).mono ?_
    rintro e w1 ⟨rfl, a1, a2⟩
    go_wp2
    go_end0
    exact ⟨rfl, a1, (HO2.out).trans a2⟩
  · rw [if_neg (by omega), if_neg (by omega), if_pos hs]
    rw [hs] at h13
    have hb2 : TAt (w.setCell ⟨p, z + 19 + 27, none⟩ (.int .i64 0)) p z A B { t with at_ := 0 } L := hb.set 46 (by decide) _ rfl
    have hO2 : Only p w (w.setCell ⟨p, z + 19 + 27, none⟩ (.int .i64 0)) := (Only.refl _ _).set
    have HR2 : Hid (TR base p z A B (w.setCell ⟨p, z + 19 + 27, none⟩ (.int .i64 0)) { t with at_ := 0 } L) := R.next hb2 hO2 rfl rfl rfl rfl rfl rfl
    have HO2 : Hid (Only p w (w.setCell ⟨p, z + 19 + 27, none⟩ (.int .i64 0))) := hO2
    clear hb ok R hs hcl hb2 hO2
    go_enter Tryz.func110, Tryz.ntmps110
    go_wp2_with fail
    refine (t_put base p z A B { t with at_ := 0 } L _ HR2.out HK.out HC.out).mono ?_
    rintro e w1 ⟨rfl, a1, a2⟩
    go_wp2
    go_end0
    exact ⟨rfl, a1, (HO2.out).trans a2⟩
set_option maxRecDepth 100000 in
set_option maxHeartbeats 2000000 in
theorem t_follow32b (R : TR base p z A B w t L) (kind cell seen put num draw : Int) (hs : t.step = 32) (h0 : 0 ≤ seen) (h1 : seen ≤ 1125899906842624) :
    Calls Tryz.prog 93 #[.pointer (some ⟨p, z, none⟩), .agg #[.int .i64 kind, .int .i64 cell, .int .i64 seen, .int .i64 put], .int .i64 num, .int .i64 draw] w (Dids base p z A B (yAwait seen t) L w) := by
  have h13 := R.tt.cStep
  rw [hs] at h13
  have hlt := R.tt.lt
  have hne : p ≠ w.heap.size := by omega
  have hB0 : Below w.heap.size w (w.alloc (.cells #[.int .i64 kind, .int .i64 cell, .int .i64 seen, .int .i64 put] 40)) := (Below.refl _ _).alloc (Nat.le_refl _) _
  have HRa : Hid (TR base p z A B (w.alloc (.cells #[.int .i64 kind, .int .i64 cell, .int .i64 seen, .int .i64 put] 40)) t L) := R.below hB0
  have HOa : Hid (Only p w (w.alloc (.cells #[.int .i64 kind, .int .i64 cell, .int .i64 seen, .int .i64 put] 40))) := Only.below hB0
  have HS0 : Hid (0 ≤ seen) := h0
  have HSn : Hid (seen ≤ 1125899906842624) := h1
  clear h0 h1
  clear R hB0
  go_enter Tryz.func93, Tryz.ntmps93
  go_wp2_with fail
  refine (t_await2 p z A B t L _ (HRa.out).tt seen HS0.out HSn.out).mono ?_
  rintro e w2 ⟨rfl, a1, a2⟩
  go_wp2
  go_end0
  exact ⟨rfl, L, (HRa.out).by a1 a2 (lists_await seen t), Goes.only ((HOa.out).trans a2)⟩

set_option maxRecDepth 100000 in
set_option maxHeartbeats 2000000 in
theorem t_follow21b (R : TR base p z A B w t L) (kind cell seen put num draw : Int) (hs : t.step = 21) (ok : TOk t) (hcl : -1 ≤ t.clock ∧ t.clock ≤ 2 ^ 50) :
    Calls Tryz.prog 93 #[.pointer (some ⟨p, z, none⟩), .agg #[.int .i64 kind, .int .i64 cell, .int .i64 seen, .int .i64 put], .int .i64 num, .int .i64 draw] w (Dids base p z A B (yFollowStore t) L w) := by
  have h13 := R.tt.cStep
  rw [hs] at h13
  have hlt := R.tt.lt
  have hne : p ≠ w.heap.size := by omega
  have hB0 : Below w.heap.size w (w.alloc (.cells #[.int .i64 kind, .int .i64 cell, .int .i64 seen, .int .i64 put] 40)) := (Below.refl _ _).alloc (Nat.le_refl _) _
  have HRa : Hid (TR base p z A B (w.alloc (.cells #[.int .i64 kind, .int .i64 cell, .int .i64 seen, .int .i64 put] 40)) t L) := R.below hB0
  have HOa : Hid (Only p w (w.alloc (.cells #[.int .i64 kind, .int .i64 cell, .int .i64 seen, .int .i64 put] 40))) := Only.below hB0
  have HK : Hid (TOk t) := ok
  have HCl : Hid (-1 ≤ t.clock ∧ t.clock ≤ 2 ^ 50) := hcl
  clear ok hcl
  clear R hB0
  go_enter Tryz.func93, Tryz.ntmps93
  go_wp2_with fail
  refine (t_followStore2 base p z A B t L _ HRa.out HK.out HCl.out (by omega)).mono ?_
  rintro e w2 ⟨rfl, a1, a2⟩
  go_wp2
  go_end0
  exact ⟨rfl, L, (HRa.out).by a1 a2 (lists_store t), Goes.only ((HOa.out).trans a2)⟩

set_option maxRecDepth 100000 in
set_option maxHeartbeats 2000000 in
theorem t_follow22b (R : TR base p z A B w t L) (kind cell seen put num draw : Int) (hs : t.step = 22) (ok : TOk t) (hcl : -1 ≤ t.clock ∧ t.clock ≤ 2 ^ 50) :
    Calls Tryz.prog 93 #[.pointer (some ⟨p, z, none⟩), .agg #[.int .i64 kind, .int .i64 cell, .int .i64 seen, .int .i64 put], .int .i64 num, .int .i64 draw] w (Dids base p z A B (yFollowStore t) L w) := by
  have h13 := R.tt.cStep
  rw [hs] at h13
  have hlt := R.tt.lt
  have hne : p ≠ w.heap.size := by omega
  have hB0 : Below w.heap.size w (w.alloc (.cells #[.int .i64 kind, .int .i64 cell, .int .i64 seen, .int .i64 put] 40)) := (Below.refl _ _).alloc (Nat.le_refl _) _
  have HRa : Hid (TR base p z A B (w.alloc (.cells #[.int .i64 kind, .int .i64 cell, .int .i64 seen, .int .i64 put] 40)) t L) := R.below hB0
  have HOa : Hid (Only p w (w.alloc (.cells #[.int .i64 kind, .int .i64 cell, .int .i64 seen, .int .i64 put] 40))) := Only.below hB0
  have HK : Hid (TOk t) := ok
  have HCl : Hid (-1 ≤ t.clock ∧ t.clock ≤ 2 ^ 50) := hcl
  clear ok hcl
  clear R hB0
  go_enter Tryz.func93, Tryz.ntmps93
  go_wp2_with fail
  refine (t_followStore2 base p z A B t L _ HRa.out HK.out HCl.out (by omega)).mono ?_
  rintro e w2 ⟨rfl, a1, a2⟩
  go_wp2
  go_end0
  exact ⟨rfl, L, (HRa.out).by a1 a2 (lists_store t), Goes.only ((HOa.out).trans a2)⟩

set_option maxRecDepth 100000 in
set_option maxHeartbeats 2000000 in
theorem t_follow28b (R : TR base p z A B w t L) (kind cell seen put num draw : Int) (hs : t.step = 28) (ok : TOk t) (hfl : t.fails + 1 ≤ 2 ^ 40) (hp : t.step = 30 → 0 ≤ put ∧ put ≤ 2 ^ 40) :
    Calls Tryz.prog 93 #[.pointer (some ⟨p, z, none⟩), .agg #[.int .i64 kind, .int .i64 cell, .int .i64 seen, .int .i64 put], .int .i64 num, .int .i64 draw] w (Dids base p z A B (yFollowFail put t) L w) := by
  have h13 := R.tt.cStep
  rw [hs] at h13
  have hlt := R.tt.lt
  have hne : p ≠ w.heap.size := by omega
  have hB0 : Below w.heap.size w (w.alloc (.cells #[.int .i64 kind, .int .i64 cell, .int .i64 seen, .int .i64 put] 40)) := (Below.refl _ _).alloc (Nat.le_refl _) _
  have HRa : Hid (TR base p z A B (w.alloc (.cells #[.int .i64 kind, .int .i64 cell, .int .i64 seen, .int .i64 put] 40)) t L) := R.below hB0
  have HOa : Hid (Only p w (w.alloc (.cells #[.int .i64 kind, .int .i64 cell, .int .i64 seen, .int .i64 put] 40))) := Only.below hB0
  have HK : Hid (TOk t) := ok
  have HF : Hid (t.fails + 1 ≤ 2 ^ 40) := hfl
  have HPu : Hid (t.step = 30 → 0 ≤ put ∧ put ≤ 2 ^ 40) := hp
  clear ok hfl hp
  clear R hB0
  go_enter Tryz.func93, Tryz.ntmps93
  go_wp2_with fail
  refine (t_followFail2 base p z A B t L _ HRa.out HK.out HF.out (by omega) put HPu.out).mono ?_
  rintro e w2 ⟨rfl, a1, a2⟩
  go_wp2
  go_end0
  exact ⟨rfl, L, (HRa.out).by a1 a2 (lists_ffail put t), Goes.only ((HOa.out).trans a2)⟩

set_option maxRecDepth 100000 in
set_option maxHeartbeats 2000000 in
theorem t_follow30b (R : TR base p z A B w t L) (kind cell seen put num draw : Int) (hs : t.step = 30) (ok : TOk t) (hfl : t.fails + 1 ≤ 2 ^ 40) (hp : t.step = 30 → 0 ≤ put ∧ put ≤ 2 ^ 40) :
    Calls Tryz.prog 93 #[.pointer (some ⟨p, z, none⟩), .agg #[.int .i64 kind, .int .i64 cell, .int .i64 seen, .int .i64 put], .int .i64 num, .int .i64 draw] w (Dids base p z A B (yFollowFail put t) L w) := by
  have h13 := R.tt.cStep
  rw [hs] at h13
  have hlt := R.tt.lt
  have hne : p ≠ w.heap.size := by omega
  have hB0 : Below w.heap.size w (w.alloc (.cells #[.int .i64 kind, .int .i64 cell, .int .i64 seen, .int .i64 put] 40)) := (Below.refl _ _).alloc (Nat.le_refl _) _
  have HRa : Hid (TR base p z A B (w.alloc (.cells #[.int .i64 kind, .int .i64 cell, .int .i64 seen, .int .i64 put] 40)) t L) := R.below hB0
  have HOa : Hid (Only p w (w.alloc (.cells #[.int .i64 kind, .int .i64 cell, .int .i64 seen, .int .i64 put] 40))) := Only.below hB0
  have HK : Hid (TOk t) := ok
  have HF : Hid (t.fails + 1 ≤ 2 ^ 40) := hfl
  have HPu : Hid (t.step = 30 → 0 ≤ put ∧ put ≤ 2 ^ 40) := hp
  clear ok hfl hp
  clear R hB0
  go_enter Tryz.func93, Tryz.ntmps93
  go_wp2_with fail
  refine (t_followFail2 base p z A B t L _ HRa.out HK.out HF.out (by omega) put HPu.out).mono ?_
  rintro e w2 ⟨rfl, a1, a2⟩
  go_wp2
  go_end0
  exact ⟨rfl, L, (HRa.out).by a1 a2 (lists_ffail put t), Goes.only ((HOa.out).trans a2)⟩
end

end Go.Proofs.YtejadojilncbjaaGreat

namespace Go.Proofs.YtejadojilncbjaaGreat
open Go.RowKit
set_option linter.unusedVariables false
attribute [local go_sem ↓] Go.wp_at_zero Go.wp_at_succ

section
variable (base p z : Nat) (A B : List Value) (t : PT) (L : Ls) (w : World)

set_option maxHeartbeats 4000000 in
theorem t_followCommit2 (R : TR base p z A B w t L) (ok : TOk t) (hfl : t.fails + 1 ≤ 2 ^ 40) (seen : Int) (hsn : -1 ≤ seen ∧ seen ≤ 2 ^ 50) 
    (hs : t.step = 16 ∨ t.step = 17 ∨ t.step = 18) :
    Calls Tryz.prog 109 #[.pointer (some ⟨p, z, none⟩), .int .i64 seen] w (DidT p z A B (yFollowCommit seen t) L w) := by
  have hb := R.tt
  have h13 := hb.cStep
  have h38 := hb.cAt
  have h37 := hb.cClock
  have hf := hb.froz
  have HR : Hid (TR base p z A B w t L) := R
  have HB : Hid (TAt w p z A B t L) := hb
  have HK : Hid (TOk t) := ok
  have HF : Hid (t.fails + 1 ≤ 2 ^ 40) := hfl
  have HS : Hid (-1 ≤ seen ∧ seen ≤ 2 ^ 50) := hsn
  unfold yFollowCommit
  rcases hs with hs | hs | hs
  · rw [if_pos hs]
    rw [hs] at h13
    have HMk : Hid (∀ w, Calls Tryz.prog 129 #[.int .i64 seen] w fun e w' => e = .returned (.bool (seen.tmod 8 != 0)) ∧ w' = w) := fun w => t_marked seen w
    by_cases hm : seen.tmod 8 = 0
    · rw [if_neg (fun q => q hm)]
      have hmb : (seen.tmod 8 != 0) = false := by simp [hm]
      rw [hmb] at HMk
      clear hb ok R hfl hs hsn hmb hm h38 h37
      go_enter Tryz.func109, Tryz.ntmps109
      go_wp2_with fail
      refine (HMk.out _).mono ?_
      rintro e w1 ⟨rfl, rfl⟩
      go_wp2_with fail
      refine (t_name p z A B t L _ HB.out HK.out).mono ?_
      rintro e w1 ⟨rfl, rfl⟩
      go_wp2_with fail
      refine (t_swap p z A B t L 17 2 0 (t.num + 1) _ HB.out).mono ?_
      rintro e w1 ⟨rfl, a1, a2⟩
      go_wp2
      go_end0
      exact ⟨rfl, a1, a2⟩
    · rw [if_pos hm]
      have hmb : (seen.tmod 8 != 0) = true := by simpa using hm
      rw [hmb] at HMk
      clear hb ok R hfl hs hsn hmb hm h38 h37
      go_enter Tryz.func109, Tryz.ntmps109
      go_wp2_with fail
      refine (HMk.out _).mono ?_
      rintro e w1 ⟨rfl, rfl⟩
      go_wp2_with fail
      refine (t_fail base p z A B t L _ HR.out HK.out HF.out).mono ?_
      rintro e w1 ⟨rfl, a1, a2⟩
      go_wp2
      refine bodyPost_ret (results_none rfl _ _ _) rfl ?_
      exact ⟨rfl, a1, a2⟩
  · rw [if_neg (by omega), if_pos hs]
    rw [hs] at h13
    by_cases hm : seen = 0
    · rw [if_pos hm]
      subst hm
      clear hb ok R hfl hs hsn h38 h37
      go_enter Tryz.func109, Tryz.ntmps109
      go_wp2_with fail
      refine (t_load p z A B t L 18 0 _ HB.out).mono ?_
      rintro e w1 ⟨rfl, a1, a2⟩
      go_wp2
      go_end0
      exact ⟨rfl, a1, a2⟩
    · rw [if_neg hm]
      have hmb : (seen == 0) = false := by simpa using hm
      clear hb ok R hfl hs hsn h38 h37 hm
      go_enter Tryz.func109, Tryz.ntmps109
      go_wp2
      go_end0
      exact ⟨rfl, HB.out, Only.refl _ _⟩
  · rw [if_neg (by omega), if_neg (by omega), if_pos hs]
    rw [hs] at h13
    have hb1 : TAt ((w.setCell ⟨p, z + 19 + 26, none⟩ (.int .i64 seen)).setCell ⟨p, z + 19 + 27, none⟩ (.int .i64 0)) p z A B { t with clock := seen, at_ := 0 } L := (hb.set (t' := { t with clock := seen }) 45 (by decide) (.int .i64 seen) rfl).set 46 (by decide) _ rfl
    have hO1 : Only p w ((w.setCell ⟨p, z + 19 + 26, none⟩ (.int .i64 seen)).setCell ⟨p, z + 19 + 27, none⟩ (.int .i64 0)) := ((Only.refl _ _).set).set
    have HR1 : Hid (TR base p z A B ((w.setCell ⟨p, z + 19 + 26, none⟩ (.int .i64 seen)).setCell ⟨p, z + 19 + 27, none⟩ (.int .i64 0)) { t with clock := seen, at_ := 0 } L) := R.next hb1 hO1 rfl rfl rfl rfl rfl rfl
    have HO1 : Hid (Only p w ((w.setCell ⟨p, z + 19 + 26, none⟩ (.int .i64 seen)).setCell ⟨p, z + 19 + 27, none⟩ (.int .i64 0))) := hO1
    clear hb ok R hfl hs hsn hb1 hO1 HR HB
    go_enter Tryz.func109, Tryz.ntmps109
    go_wp2_with fail
    refine (t_check base p z A B { t with clock := seen, at_ := 0 } L _ HR1.out HK.out HS.out (Nat.zero_le _)).mono ?_
    rintro e w1 ⟨rfl, a1, a2⟩
    go_wp2
    go_end0
    exact ⟨rfl, a1, (HO1.out).trans a2⟩

set_option maxRecDepth 100000 in
set_option maxHeartbeats 2000000 in
theorem t_follow16b (R : TR base p z A B w t L) (kind cell seen put num draw : Int) (hs : t.step = 16) (ok : TOk t) (hfl : t.fails + 1 ≤ 2 ^ 40) (hsn : -1 ≤ seen ∧ seen ≤ 2 ^ 50) :
    Calls Tryz.prog 93 #[.pointer (some ⟨p, z, none⟩), .agg #[.int .i64 kind, .int .i64 cell, .int .i64 seen, .int .i64 put], .int .i64 num, .int .i64 draw] w (Dids base p z A B (yFollowCommit seen t) L w) := by
  have h13 := R.tt.cStep
  rw [hs] at h13
  have hlt := R.tt.lt
  have hne : p ≠ w.heap.size := by omega
  have hB0 : Below w.heap.size w (w.alloc (.cells #[.int .i64 kind, .int .i64 cell, .int .i64 seen, .int .i64 put] 40)) := (Below.refl _ _).alloc (Nat.le_refl _) _
  have HRa : Hid (TR base p z A B (w.alloc (.cells #[.int .i64 kind, .int .i64 cell, .int .i64 seen, .int .i64 put] 40)) t L) := R.below hB0
  have HOa : Hid (Only p w (w.alloc (.cells #[.int .i64 kind, .int .i64 cell, .int .i64 seen, .int .i64 put] 40))) := Only.below hB0
  have HK : Hid (TOk t) := ok
  have HF : Hid (t.fails + 1 ≤ 2 ^ 40) := hfl
  have HSn : Hid (-1 ≤ seen ∧ seen ≤ 2 ^ 50) := hsn
  clear ok hfl hsn
  clear R hB0
  go_enter Tryz.func93, Tryz.ntmps93
  go_wp2_with fail
  refine (t_followCommit2 base p z A B t L _ HRa.out HK.out HF.out seen HSn.out (by omega)).mono ?_
  rintro e w2 ⟨rfl, a1, a2⟩
  go_wp2
  go_end0
  exact ⟨rfl, L, (HRa.out).by a1 a2 (lists_commit seen t), Goes.only ((HOa.out).trans a2)⟩

set_option maxRecDepth 100000 in
set_option maxHeartbeats 2000000 in
theorem t_follow17b (R : TR base p z A B w t L) (kind cell seen put num draw : Int) (hs : t.step = 17) (ok : TOk t) (hfl : t.fails + 1 ≤ 2 ^ 40) (hsn : -1 ≤ seen ∧ seen ≤ 2 ^ 50) :
    Calls Tryz.prog 93 #[.pointer (some ⟨p, z, none⟩), .agg #[.int .i64 kind, .int .i64 cell, .int .i64 seen, .int .i64 put], .int .i64 num, .int .i64 draw] w (Dids base p z A B (yFollowCommit seen t) L w) := by
  have h13 := R.tt.cStep
  rw [hs] at h13
  have hlt := R.tt.lt
  have hne : p ≠ w.heap.size := by omega
  have hB0 : Below w.heap.size w (w.alloc (.cells #[.int .i64 kind, .int .i64 cell, .int .i64 seen, .int .i64 put] 40)) := (Below.refl _ _).alloc (Nat.le_refl _) _
  have HRa : Hid (TR base p z A B (w.alloc (.cells #[.int .i64 kind, .int .i64 cell, .int .i64 seen, .int .i64 put] 40)) t L) := R.below hB0
  have HOa : Hid (Only p w (w.alloc (.cells #[.int .i64 kind, .int .i64 cell, .int .i64 seen, .int .i64 put] 40))) := Only.below hB0
  have HK : Hid (TOk t) := ok
  have HF : Hid (t.fails + 1 ≤ 2 ^ 40) := hfl
  have HSn : Hid (-1 ≤ seen ∧ seen ≤ 2 ^ 50) := hsn
  clear ok hfl hsn
  clear R hB0
  go_enter Tryz.func93, Tryz.ntmps93
  go_wp2_with fail
  refine (t_followCommit2 base p z A B t L _ HRa.out HK.out HF.out seen HSn.out (by omega)).mono ?_
  rintro e w2 ⟨rfl, a1, a2⟩
  go_wp2
  go_end0
  exact ⟨rfl, L, (HRa.out).by a1 a2 (lists_commit seen t), Goes.only ((HOa.out).trans a2)⟩

set_option maxRecDepth 100000 in
set_option maxHeartbeats 2000000 in
theorem t_follow18b (R : TR base p z A B w t L) (kind cell seen put num draw : Int) (hs : t.step = 18) (ok : TOk t) (hfl : t.fails + 1 ≤ 2 ^ 40) (hsn : -1 ≤ seen ∧ seen ≤ 2 ^ 50) :
    Calls Tryz.prog 93 #[.pointer (some ⟨p, z, none⟩), .agg #[.int .i64 kind, .int .i64 cell, .int .i64 seen, .int .i64 put], .int .i64 num, .int .i64 draw] w (Dids base p z A B (yFollowCommit seen t) L w) := by
  have h13 := R.tt.cStep
  rw [hs] at h13
  have hlt := R.tt.lt
  have hne : p ≠ w.heap.size := by omega
  have hB0 : Below w.heap.size w (w.alloc (.cells #[.int .i64 kind, .int .i64 cell, .int .i64 seen, .int .i64 put] 40)) := (Below.refl _ _).alloc (Nat.le_refl _) _
  have HRa : Hid (TR base p z A B (w.alloc (.cells #[.int .i64 kind, .int .i64 cell, .int .i64 seen, .int .i64 put] 40)) t L) := R.below hB0
  have HOa : Hid (Only p w (w.alloc (.cells #[.int .i64 kind, .int .i64 cell, .int .i64 seen, .int .i64 put] 40))) := Only.below hB0
  have HK : Hid (TOk t) := ok
  have HF : Hid (t.fails + 1 ≤ 2 ^ 40) := hfl
  have HSn : Hid (-1 ≤ seen ∧ seen ≤ 2 ^ 50) := hsn
  clear ok hfl hsn
  clear R hB0
  go_enter Tryz.func93, Tryz.ntmps93
  go_wp2_with fail
  refine (t_followCommit2 base p z A B t L _ HRa.out HK.out HF.out seen HSn.out (by omega)).mono ?_
  rintro e w2 ⟨rfl, a1, a2⟩
  go_wp2
  go_end0
  exact ⟨rfl, L, (HRa.out).by a1 a2 (lists_commit seen t), Goes.only ((HOa.out).trans a2)⟩

/-- What is asked ahead of what follows an access, step by step. -/
structure FAll (t : PT) (seen put draw : Int) : Prop where
  step : 2 ≤ t.step ∧ t.step ≤ 32
  s32 : t.step = 32 → 0 ≤ seen ∧ seen ≤ 1125899906842624
  ok : t.step ≠ 2 → t.step ≠ 32 → TOk t
  f : t.step ≠ 2 → t.step ≠ 32 → t.step ≠ 21 → t.step ≠ 22 → t.step ≠ 28 → t.step ≠ 30 → t.step ≠ 16 → t.step ≠ 17 → t.step ≠ 18 → FOk t seen put draw
  clk : t.step = 21 ∨ t.step = 22 → -1 ≤ t.clock ∧ t.clock ≤ 2 ^ 50
  fl : t.step ≠ 2 → t.fails + 1 ≤ 2 ^ 40
  sn : -1 ≤ seen ∧ seen ≤ 2 ^ 50
  put : t.step = 30 → 0 ≤ put ∧ put ≤ 2 ^ 40

theorem t_followX (R : TR base p z A B w t L) (hbs : base ≤ w.heap.size) (kind cell seen put num draw : Int) (F : FAll t seen put draw) (hcur : t.cur < t.mine.length) :
    Calls Tryz.prog 93 #[.pointer (some ⟨p, z, none⟩), .agg #[.int .i64 kind, .int .i64 cell, .int .i64 seen, .int .i64 put], .int .i64 num, .int .i64 draw] w (DidN base p z A B t.step (yFollow seen put num draw t) L w) := by
  by_cases h2 : t.step = 2
  · rw [show yFollow seen put num draw t = yNew t seen num from by simp [yFollow, h2]]
    rw [h2]
    exact t_followBegin base p z A B t L w R hcur h2 kind cell seen put num draw
  by_cases h32 : t.step = 32
  · rw [show yFollow seen put num draw t = yAwait seen t from by simp [yFollow, h32]]
    exact (t_follow32b base p z A B t L w R kind cell seen put num draw h32 (F.s32 h32).1 (F.s32 h32).2).mono (fun e w' h => h.toN h2)
  have ok := F.ok h2 h32
  by_cases h21 : t.step = 21
  · rw [show yFollow seen put num draw t = yFollowStore t from by simp [yFollow, h21]]
    exact (t_follow21b base p z A B t L w R kind cell seen put num draw h21 ok (F.clk (Or.inl h21))).mono (fun e w' h => h.toN h2)
  by_cases h22 : t.step = 22
  · rw [show yFollow seen put num draw t = yFollowStore t from by simp [yFollow, h22]]
    exact (t_follow22b base p z A B t L w R kind cell seen put num draw h22 ok (F.clk (Or.inr h22))).mono (fun e w' h => h.toN h2)
  by_cases h28 : t.step = 28
  · rw [show yFollow seen put num draw t = yFollowFail put t from by simp [yFollow, h28]]
    exact (t_follow28b base p z A B t L w R kind cell seen put num draw h28 ok (F.fl h2) F.put).mono (fun e w' h => h.toN h2)
  by_cases h30 : t.step = 30
  · rw [show yFollow seen put num draw t = yFollowFail put t from by simp [yFollow, h30]]
    exact (t_follow30b base p z A B t L w R kind cell seen put num draw h30 ok (F.fl h2) F.put).mono (fun e w' h => h.toN h2)
  by_cases h16 : t.step = 16
  · rw [show yFollow seen put num draw t = yFollowCommit seen t from by simp [yFollow, h16]]
    exact (t_follow16b base p z A B t L w R kind cell seen put num draw h16 ok (F.fl h2) F.sn).mono (fun e w' h => h.toN h2)
  by_cases h17 : t.step = 17
  · rw [show yFollow seen put num draw t = yFollowCommit seen t from by simp [yFollow, h17]]
    exact (t_follow17b base p z A B t L w R kind cell seen put num draw h17 ok (F.fl h2) F.sn).mono (fun e w' h => h.toN h2)
  by_cases h18 : t.step = 18
  · rw [show yFollow seen put num draw t = yFollowCommit seen t from by simp [yFollow, h18]]
    exact (t_follow18b base p z A B t L w R kind cell seen put num draw h18 ok (F.fl h2) F.sn).mono (fun e w' h => h.toN h2)
  exact (t_follow base p z A B t L w R ok hbs kind cell seen put num draw (F.f h2 h32 h21 h22 h28 h30 h16 h17 h18) h2 h32 h21 h22 h28 h30 h16 h17 h18).mono (fun e w' h => h.toN h2)
end

end Go.Proofs.YtejadojilncbjaaGreat

namespace Go.Proofs.YtejadojilncbjaaGreat
open Go.RowKit
set_option linter.unusedVariables false
attribute [local go_sem ↓] Go.wp_at_zero Go.wp_at_succ

/-- Jobs in memory. -/
def JobsRep (w : World) (B : Nat) (ja : Option Addr) (jobs : List (Int × List InsD)) : Prop :=
  ∃ js : List JobD, js.length = jobs.length ∧ JobsIn w B ja js ∧ ∀ i, i < js.length → (jobAt js i).t = (jobs.getD i (0, [])).1 ∧ (jobAt js i).len = (jobs.getD i (0, [])).2.length ∧ CodeIn w B (jobAt js i).a (jobs.getD i (0, [])).2

theorem CodeIn.up {w w' : World} {n : Nat} {a : Option Addr} {is : List InsD} (h : CodeIn w n a is) (hb : Below n w w') : CodeIn w' n a is := by
  intro i hi
  obtain ⟨b, off, ha, hlt, h0, h1, h2, h3⟩ := h i hi
  have e : ∀ o, w'.cell? ⟨b, o, none⟩ = w.cell? ⟨b, o, none⟩ := fun o => World.cell?_of_block (hb.block b hlt)
  exact ⟨b, off, ha, hlt, (e _).trans h0, (e _).trans h1, (e _).trans h2, (e _).trans h3⟩
theorem JobsRep.up {w w' : World} {n : Nat} {ja : Option Addr} {jobs : List (Int × List InsD)} (h : JobsRep w n ja jobs) (hb : Below n w w') : JobsRep w' n ja jobs := by
  obtain ⟨js, h1, h2, h3⟩ := h
  refine ⟨js, h1, fun i hi => ?_, fun i hi => ⟨(h3 i hi).1, (h3 i hi).2.1, (h3 i hi).2.2.up hb⟩⟩
  obtain ⟨b, off, ha, hlt, k0, k1⟩ := h2 i hi
  have e : ∀ o, w'.cell? ⟨b, o, none⟩ = w.cell? ⟨b, o, none⟩ := fun o => World.cell?_of_block (hb.block b hlt)
  exact ⟨b, off, ha, hlt, (e _).trans k0, (e _).trans k1⟩
theorem PicksIn.up {w w' : World} {n : Nat} {a : Option Addr} {l : List PickD} (h : PicksIn w n a l) (hb : Below n w w') : PicksIn w' n a l := by
  intro i hi
  obtain ⟨b, off, ha, hlt, k0, k1⟩ := h i hi
  have e : ∀ o, w'.cell? ⟨b, o, none⟩ = w.cell? ⟨b, o, none⟩ := fun o => World.cell?_of_block (hb.block b hlt)
  exact ⟨b, off, ha, hlt, (e _).trans k0, (e _).trans k1⟩

end Go.Proofs.YtejadojilncbjaaGreat

namespace Go.Proofs.YtejadojilncbjaaGreat
open Go.RowKit
set_option linter.unusedVariables false
attribute [local go_sem ↓] Go.wp_at_zero Go.wp_at_succ

theorem belowDrewN {n : Nat} {w w' : World} (h : Below n w w') (k : Nat) : Below n w (w'.drewN k) := ⟨h.os, h.tape, h.output, h.size, h.block⟩

end Go.Proofs.YtejadojilncbjaaGreat

namespace Go.Proofs.YtejadojilncbjaaGreat
open Go.RowKit
set_option linter.unusedVariables false
attribute [local go_sem ↓] Go.wp_at_zero Go.wp_at_succ

theorem memB_get {mem : List Int} (h : memB mem = true) (i : Nat) : 0 ≤ mem.getD i 0 ∧ mem.getD i 0 ≤ 65535 := by
  by_cases hi : i < mem.length
  · unfold memB at h
    rw [List.all_eq_true] at h
    have := h mem[i] (List.getElem_mem hi)
    rw [show mem.getD i 0 = mem[i] from by simp [List.getD, List.getElem?_eq_getElem hi]]
    exact inB_true this
  · rw [show mem.getD i 0 = 0 from by simp [List.getD, List.getElem?_eq_none (Nat.le_of_not_lt hi)]]
    omega

theorem log_row {w : World} {base : Nat} {a : Option Addr} {c : Nat} {l : List AccD} (h : w.ownsRow base 40 4 (.slice a l.length c) l.length (l.flatMap accCells)) : LogIn w w.heap.size a l := by
  intro i hi
  obtain ⟨g, cap, cur, hv, hb, hg, h1, h2, h3, h4⟩ := own_block h (by omega)
  simp at hv
  obtain ⟨rfl, rfl⟩ := hv
  have hat : ∀ j, j < 4 → w.cell? ⟨g, i * 4 + j, none⟩ = (accCells (accAt l i))[j]? := by
    intro j hj
    rw [hg.cell]
    have e1 : (l.flatMap accCells)[i * 4 + j]? = (accCells (accAt l i))[j]? := by
      rw [flat_at (n := 4) (fun _ => rfl) l i j hj]
      simp [accAt, List.getElem?_eq_getElem hi]
    rw [← e1, ← h4, List.getElem?_take, if_pos (by omega), Array.getElem?_toList]
  refine ⟨g, 0, rfl, hg.lt, ?_, ?_, ?_, ?_⟩
  · have := hat 0 (by omega); simpa [accCells] using this
  · have := hat 1 (by omega); simpa [accCells] using this
  · have := hat 2 (by omega); simpa [accCells] using this
  · have := hat 3 (by omega); simpa [accCells] using this
theorem Tryz.info40 : (Tryz.prog.info? 40).map (fun i => (i.zero, i.size, i.bytes)) = some (some (.agg #[.int .i64 0, .int .i64 0, .int .i64 0, .int .i64 0]), 4, 32) := by kernel_rfl
theorem below_set {n b i : Nat} {w w' : World} {v : Value} (h : Below n w w') (hb : n ≤ b) : Below n w (w'.setCell ⟨b, i, none⟩ v) := by
  have ho : Only b w' (w'.setCell ⟨b, i, none⟩ v) := (Only.refl _ _).set
  exact ⟨ho.os.trans h.os, ho.tape.trans h.tape, ho.output.trans h.output, Nat.le_trans h.size ho.size, fun k hk => (Below.heap_setCell _ _ _ _ (by simp; omega)).trans (h.block k hk)⟩

theorem JobsRep.mono {w : World} {n m : Nat} {ja : Option Addr} {jobs : List (Int × List InsD)} (h : JobsRep w n ja jobs) (hm : n ≤ m) : JobsRep w m ja jobs := by
  obtain ⟨js, h1, h2, h3⟩ := h
  refine ⟨js, h1, fun i hi => ?_, fun i hi => ⟨(h3 i hi).1, (h3 i hi).2.1, fun j hj => ?_⟩⟩
  · obtain ⟨b, off, g1, g2, g3⟩ := h2 i hi
    exact ⟨b, off, g1, by omega, g3⟩
  · obtain ⟨b, off, g1, g2, g3⟩ := (h3 i hi).2.2 j hj
    exact ⟨b, off, g1, by omega, g3⟩

end Go.Proofs.YtejadojilncbjaaGreat

namespace Go.Proofs.YtejadojilncbjaaGreat
set_option linter.unusedVariables false

/-! What stays true of the cells and of the machines: part 4: behind any number of picks. -/

theorem VOk.bd {c : Cfg} {k x v : Int} (hc : cfgB c = true) (hk : 0 ≤ k) (h : VOk c k x v) (x0 : 0 ≤ x) (x1 : x < total c) : -1 ≤ v ∧ v ≤ 8 * k + 65535 := by
  obtain ⟨⟨t1, t2⟩, _⟩ := cfgB_true hc
  rw [total_eq] at x1
  by_cases h0 : x = 0 ∨ x = 1
  · have := h.cnt h0; omega
  by_cases h2 : x = 2
  · have := h.gate h2; omega
  by_cases h3 : x < 3 + c.s
  · have := h.ver (by omega) h3; omega
  by_cases h4 : x < 3 + 2 * c.s
  · have := h.own (by omega) h4; omega
  by_cases h5 : x < 3 + 2 * c.s + c.t
  · have := h.sta (by omega) h5
    obtain ⟨a, b, d⟩ := this
    omega
  · have := h.wrd (by omega) (by rw [total_eq]; omega)
    omega

structure GOk (c : Cfg) (jobs : List (Int × List InsD)) (k : Int) (g : Gs) : Prop where
  m : CellsOk c k g.m
  th : ∀ t, 0 ≤ t → t < c.t → ThOk (cxOf c jobs t) k (g.th t)

theorem gstart_ok {c : Cfg} (hc : cfgB c = true) {mem : List Int} (hmw : (mem.length : Int) = c.wd) (hmb : memB mem = true) (jobs : List (Int × List InsD)) : GOk c jobs 0 (gStart c mem jobs) := by
  obtain ⟨⟨t1, t2⟩, ⟨w1, w2⟩, ⟨s1, s2⟩, _, _, _, ⟨f1, f2⟩⟩ := cfgB_true hc
  refine ⟨fun x x0 x1 => ?_, fun t t0 t1' => ?_⟩
  · show VOk c 0 x (startVal c mem x)
    unfold startVal
    by_cases hx : wordBase c ≤ x
    · rw [if_pos hx]
      have := memB_get hmb (x - wordBase c).toNat
      unfold wordBase at hx
      exact ⟨(fun e => by omega), (fun e => by omega), (fun _ e => by omega), (fun _ e => by omega), (fun _ e => by omega), fun _ _ => this⟩
    · rw [if_neg hx]
      unfold wordBase at hx
      exact ⟨(fun e => by omega), (fun e => by omega), (fun _ e => by omega), (fun _ e => by omega), (fun _ e => ⟨by omega, by omega, by omega⟩), (fun e => by omega)⟩
  · show ThOk _ 0 (hInit (cxOf c jobs t))
    unfold hInit
    refine to_ok ?_ (Int.le_refl _) 0
    refine ⟨⟨Int.le_refl _, Int.le_refl _⟩, ?_⟩
    exact new_ok (by show 0 ≤ c.f; omega) t1 _ ⟨Int.le_refl _, Int.le_refl _⟩

theorem acc_none {m : Int → Int} {q : AskD} (h : q.kind = 0) : accBy m q = noAcc := if_pos h
theorem acc_some {m : Int → Int} {q : AskD} (h : q.kind ≠ 0) : accBy m q = ⟨q.kind, q.cell, m q.cell, putV q (m q.cell)⟩ := if_neg h

theorem gstep_ok {c : Cfg} (hc : cfgB c = true) {jobs : List (Int × List InsD)} {k : Int} (hk : 0 ≤ k) {g : Gs} (G : GOk c jobs k g) (n : Int) (pk : PickD) : GOk c jobs (k + 1) (gStep c jobs g n pk).1 := by
  unfold gStep
  by_cases ht : 0 ≤ pk.thread ∧ pk.thread < c.t
  · rw [if_pos ht]
    have A := G.th pk.thread ht.1 ht.2
    have hcK : cfgB (cxOf c jobs pk.thread).c = true := hc
    refine ⟨?_, fun t t0 t1 => ?_⟩
    · simp only
      by_cases h0 : (hOut (cxOf c jobs pk.thread) (g.th pk.thread)).kind = 0
      · rw [if_pos h0]
        exact fun x x0 x1 => (G.m x x0 x1).mono (by omega)
      · rw [if_neg h0]
        obtain ⟨hcell, hput⟩ := ask_ok hcK ht hk A h0
        intro x x0 x1
        by_cases hx : x = (hOut (cxOf c jobs pk.thread) (g.th pk.thread)).cell
        · rw [hx, wr_at]
          exact hput _ (G.m _ hcell.1 hcell.2)
        · rw [wr_off hx]
          exact (G.m x x0 x1).mono (by omega)
    · simp only
      by_cases htt : t = pk.thread
      · rw [if_pos htt, htt]
        refine next_ok hcK ht hk A _ (fun h0 => ?_)
        obtain ⟨hcell, _⟩ := ask_ok hcK ht hk A h0
        show VOk c k _ (gAcc c jobs g pk.thread).seen
        unfold gAcc
        rw [acc_some h0]
        exact G.m _ hcell.1 hcell.2
      · rw [if_neg htt]
        exact (G.th t t0 t1).mono (by omega)
  · rw [if_neg ht]
    exact ⟨fun x x0 x1 => (G.m x x0 x1).mono (by omega), fun t t0 t1 => (G.th t t0 t1).mono (by omega)⟩

theorem gat_ok {c : Cfg} (hc : cfgB c = true) {mem : List Int} (hmw : (mem.length : Int) = c.wd) (hmb : memB mem = true) (jobs : List (Int × List InsD)) (ps : List PickD) : ∀ k : Nat, GOk c jobs k (gAt c mem jobs ps k)
  | 0 => gstart_ok hc hmw hmb jobs
  | k + 1 => by
    have := gstep_ok hc (by omega) (gat_ok hc hmw hmb jobs ps k) ((k : Int) + 1) (pickAt ps k)
    exact this

/-- All accesses, all cells. -/
def accs (c : Cfg) (mem : List Int) (jobs : List (Int × List InsD)) (ps : List PickD) : List AccD := gLog c mem jobs ps ps.length
end Go.Proofs.YtejadojilncbjaaGreat
