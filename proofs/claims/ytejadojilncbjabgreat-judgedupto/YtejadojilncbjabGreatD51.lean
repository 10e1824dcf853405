import Derived.Test.YtejadojilncbjabGreatD50
import Derived.Test.YtejadojilncbjabGreatD41
import Derived.Test.YtejadojilncbjabGreatD42
import Derived.Test.YtejadojilncbjabGreatD39
import Derived.Test.YtejadojilncbjabGreatD45
namespace Go.Proofs.YtejadojilncbjabGreat
open Go.RowKit
set_option linter.unusedVariables false
attribute [local go_sem ↓] Go.wp_at_zero Go.wp_at_succ
theorem own_sl {w : World} {base e s n : Nat} {v : Value} {xs : List Value} (h : w.ownsRow base e s v n xs) : ∃ a c, v = Value.slice a n c := by
 rcases h.2 with ⟨rfl, rfl⟩ | ⟨g, cap, cur, rfl, _⟩
 ·exact ⟨_, _, rfl⟩
 ·exact ⟨_, _, rfl⟩
set_option maxRecDepth 100000 in
set_option maxHeartbeats 8000000 in
theorem judged_walk (G : HistoryGood) (c : Cfg) (mem : List Int) (jobs : List (Int × List InsD)) (ps : List PickD) (kk : Int) (hkk : -9223372036854775808 ≤ kk ∧ kk ≤ 9223372036854775807) (ma ja pa : Option Addr) (mc jc pc : Nat) (w : World) (hps : ps.length ≤ 2 ^ 21) (hml : mem.length ≤ maxLen) (hjl : jobs.length ≤ maxLen)
  (hm : Ints w w.heap.size ma mem) (hj : JobsRep w w.heap.size ja jobs) (hp : PicksIn w w.heap.size pa ps) :
  Calls Tryz.prog 5 #[.agg #[.int .i64 c.t, .int .i64 c.wd, .int .i64 c.s, .int .i64 c.g, .int .i64 c.r, .int .i64 c.cp, .int .i64 c.f, .slice ma mem.length mc, .slice ja jobs.length jc], .slice pa ps.length pc, .int .i64 kk] w fun e w' => e = .returned (.bool true) ∧ Below w.heap.size w w' := by
 have HM : Hid (Ints w w.heap.size ma mem) := hm
 have HJ : Hid (JobsRep w w.heap.size ja jobs) := hj
 have HP : Hid (PicksIn w w.heap.size pa ps) := hp
 have HG : Hid HistoryGood := G
 have HN : Hid (ps.length ≤ 2 ^ 21) := hps
 obtain ⟨ER, HER⟩ : ∃ ER, Hid (errS c mem jobs = ER) := ⟨_, rfl⟩
 obtain ⟨HW, HHW⟩ : ∃ HW, Hid (howN c mem jobs = HW) := ⟨_, rfl⟩
 clear hm hj hp G hps
 go_enter Tryz.func5, Tryz.ntmps5
 go_wp2_with fail
 obtain ⟨w0, hw0⟩ : ∃ w0, w0 = w.alloc (.cells #[.int .i64 c.t, .int .i64 c.wd, .int .i64 c.s, .int .i64 c.g, .int .i64 c.r, .int .i64 c.cp, .int .i64 c.f, .slice ma mem.length mc, .slice ja jobs.length jc] 27) := ⟨_, rfl⟩
 have hB0 : Below w.heap.size w w0 := by rw [hw0]; exact (Below.refl w.heap.size w).alloc (Nat.le_refl _) _
 have hSb : Blk w0 w.heap.size 27 #[.int .i64 c.t, .int .i64 c.wd, .int .i64 c.s, .int .i64 c.g, .int .i64 c.r, .int .i64 c.cp, .int .i64 c.f, .slice ma mem.length mc, .slice ja jobs.length jc] := by rw [hw0]; exact Blk.new w 27 _
 rw [← hw0]
 clear hw0
 refine (ktold_any HG.out c mem jobs ps ma ja pa mc jc pc w0 HN.out hml hjl ((HM.out).up hB0) ((HJ.out).up2 hB0) ((HP.out).up2 hB0)).mono ?_
 rintro e w1 ⟨la, lc, AN, hAN, rfl, hl1, hn1, hb1⟩
 rw [show howN c mem jobs = HW from HHW.out]
 have HB1 : Hid (Below w.heap.size w w1) := hB0.trans (hb1.mono hB0.size)
 have HSb1 : Hid (Blk w1 w.heap.size 27 #[.int .i64 c.t, .int .i64 c.wd, .int .i64 c.s, .int .i64 c.g, .int .i64 c.r, .int .i64 c.cp, .int .i64 c.f, .slice ma mem.length mc, .slice ja jobs.length jc]) := hSb.below hb1 hSb.lt
 have HAN : Hid (AN.map (·.1) = histA c mem jobs ps) := hAN
 have HHi : Hid (HistIn w1 w1.heap.size la (AN.map (·.1))) := histIn_row hl1 hn1 fun q hq => own_sl (hn1 q hq)
 clear hB0 hSb hl1 hb1 hAN hn1
 by_cases he : ER = 0
 ·have hSo : SetupOk c mem jobs ∧ ∀ j ∈ jobs, 0 ≤ j.1 ∧ j.1 < c.t := errS_ok ((HER.out).trans he)
  have hWe : HW = 2 := (HHW.out).symm.trans (if_pos ((HER.out).trans he))
  have hO : (⟨c, mem, jobs, ps⟩ : Rn).Ok := ⟨hSo.1.cfg, hSo.1.mw, hSo.1.mb⟩
  have hH : AN.map (·.1) = (⟨c, mem, jobs, ps⟩ : Rn).hist := (HAN.out).trans (if_pos ((HER.out).trans he))
  obtain ⟨L, hLe⟩ : ∃ L, L = AN.map (·.1) := ⟨_, rfl⟩
  rw [← hLe] at HHi hH
  have hNl : L.length = AN.length := by rw [hLe, List.length_map]
  have hpl : (⟨c, mem, jobs, ps⟩ : Rn).ps.length = ps.length := rfl
  have hN21 : ps.length ≤ 2097152 := HN.out
  have hNb : AN.length ≤ 2097152 := by
   have h1 := hist_len hO
   rw [← hH, hNl] at h1
   omega
  obtain ⟨_, ⟨cw1, cw2⟩, _⟩ := cfgB_true hSo.1.cfg
  have hmw := hSo.1.mw
  have hm8 : mem.length ≤ 2097152 := by omega
  have hnt : ∀ k, k < L.length → (atL L k).notes.length ≤ 125829120 := fun k hk => by
   have h1 := hist_notes hO (x := atL L k) (by rw [← hH]; exact atL_mem hk)
   omega
  have HNt : Hid (∀ k, k < AN.length → (atL L k).notes.length ≤ 1073741824) := fun k hk => Nat.le_trans (hnt k (by omega)) (by decide)
  have HGd : Hid (∀ j, ¬ Bad (atL L) L.length mem j) := fun j => by
   have h1 := hist_good hO j
   rw [← hH] at h1
   exact h1
  have HRd : Hid (∀ (j : Nat) (l : List Nat), j < L.length → l.Pairwise (Kl (atL L)) → (∀ i, i ∈ l ↔ (i < L.length ∧ Kl (atL L) i j ∧ 0 < (atL L i).stamp)) → rdN (atL L j).notes (wrL (atL L) l mem) = true) := fun j l hj h1 h2 => by
   have h3 := hist_read hO (j := j) (by rw [← hH]; exact hj) l (by rw [← hH]; exact h1) (fun i => by rw [← hH]; exact h2 i)
   rw [← hH] at h3
   exact h3
  have hrb : rdsL L ≤ 1125899906842624 := by
   have h1 := rdsL_bound (M := 125829120) hnt L.length (Nat.le_refl _)
   rw [List.take_length] at h1
   have : L.length * 125829120 ≤ 2097152 * 125829120 := Nat.mul_le_mul_right _ (by omega)
   omega
  have HNl : Hid (L.length = AN.length) := hNl
  have HJd : Hid (∀ wx, Below w1.heap.size w1 wx → Calls Tryz.prog 19 #[.slice ma mem.length mc, .slice la AN.length lc] wx (JdgIs wx (Bad (atL L) AN.length mem) AN.length)) := fun wx hb => judge_any L AN.length hNl hNb mem hm8 HNt.out ma la mc lc wx ((HM.out).up ((HB1.out).trans (hb.mono (HB1.out).size))) (((HHi.out).up hb).mono hb.size)
  have HRe : Hid (∀ wx, Below w1.heap.size w1 wx → Calls Tryz.prog 20 #[.slice la AN.length lc] wx fun e w' => e = .returned (.int .i64 (rdsL L : Int)) ∧ w' = wx) := fun wx hb => reads_any L AN.length hNl hNb HNt.out la lc wx (((HHi.out).up hb).mono hb.size)
  obtain ⟨RD, hRD⟩ : ∃ RD, RD = rdsL L := ⟨_, rfl⟩
  rw [← hRD] at hrb HRe
  have HRD : Hid (RD = rdsL L) := hRD
  obtain ⟨AL, hAL⟩ : ∃ AL, AL = AN.length := ⟨_, rfl⟩
  rw [← hAL] at hNb HNt HNl HJd HRe ⊢
  clear hLe hNl hpl hnt hH hO hSo hAL hRD cw1 cw2 hmw HAN HER HHW
  subst hWe he
  have hs7 := (HSb1.out).cell
  go_wp2_with fail
  clear hs7
  refine (HJd.out _ (Below.refl _ _)).mono ?_
  rintro e w2 ⟨x, rfl, hx, hb2⟩
  have hxN : x = AL := by
   rcases hx.2.1 with q | q
   ·exact q
   ·have h1 := HGd.out x
    rw [HNl.out] at h1
    exact absurd q h1
  have hjr : jRes AL x = -1 := if_pos hxN
  rw [hjr]
  have HB12 : Hid (Below w1.heap.size w1 w2) := hb2
  have HB2 : Hid (Below w.heap.size w w2) := (HB1.out).trans (hb2.mono (HB1.out).size)
  clear hx hb2 hxN hjr
  go_wp2_with fail
  refine (HRe.out _ HB12.out).mono ?_
  rintro e w3 ⟨rfl, rfl⟩
  by_cases hr0 : RD = 0
  ·have hr1 : ((RD : Int) == 0) = true := by simp [hr0]
   clear hr0
   go_wp2_with fail
   go_ret
   exact ⟨rfl, HB2.out⟩
  ·have hr1 : ((RD : Int) == 0) = false := by simp [hr0]
   go_wp2_with fail
   refine (kpick_any kk (RD : Int) hkk (by omega) _).mono ?_
   rintro e w4 ⟨⟨m, rfl, hmr⟩, rfl⟩
   obtain ⟨p, hp1, hp2, hp3⟩ := whr_ex L m (by rw [← HRD.out]; omega)
   have HTr : Hid (Calls Tryz.prog 21 #[.slice la AL lc, .int .i64 (m : Int)] w4 (TrnIs w4 L AL m p)) := turned_any L AL HNl.out hNb HNt.out m p (by rw [← HRD.out]; omega) (by rw [← HNl.out]; exact hp1) hp2 hp3 la lc w4 (((HHi.out).up HB12.out).mono (HB12.out).size)
   have HPp : Hid (∀ x, Lst (Bad (atL (tnL L m AL)) AL mem) AL x → x = p) := fun x hx => by
    have h1 := HNl.out
    rw [← h1] at hx
    exact turned_judged HGd.out hp1 hp2 hp3 (fun l a b => HRd.out p l hp1 a b) hx
   have hpA : p < AL := by rw [← HNl.out]; exact hp1
   clear hp1 hp2 hp3 hr1 hr0 hmr HRd HGd
   go_wp2_with fail
   refine (HTr.out).mono ?_
   rintro e w5 ⟨oa, oc, rfl, ho5, hb5⟩
   have HB5 : Hid (Below w.heap.size w w5) := (HB2.out).trans (hb5.mono (HB2.out).size)
   have HO5 : Hid (HistIn w5 w5.heap.size oa (tnL L m AL)) := ho5
   have HJ2 : Hid (Calls Tryz.prog 19 #[.slice ma mem.length mc, .slice oa AL oc] w5 (JdgIs w5 (Bad (atL (tnL L m AL)) AL mem) AL)) :=
    judge_any (tnL L m AL) AL (tnL_len L m AL) hNb mem hm8 (fun k hk => by rw [tnL_at hk]; show (tnN _ _).length ≤ _; rw [tnN_len]; exact HNt.out k hk) ma oa mc oc w5 ((HM.out).up HB5.out) HO5.out
   have HSb5 : Hid (Blk w5 w.heap.size 27 #[.int .i64 c.t, .int .i64 c.wd, .int .i64 c.s, .int .i64 c.g, .int .i64 c.r, .int .i64 c.cp, .int .i64 c.f, .slice ma mem.length mc, .slice ja jobs.length jc]) := ((HSb1.out).below HB12.out (HSb1.out).lt).below hb5 (Nat.lt_of_lt_of_le (HSb1.out).lt (HB12.out).size)
   have hs5 := (HSb5.out).cell
   clear ho5 hb5 HTr
   go_wp2_with fail
   clear hs5
   refine (HJ2.out).mono ?_
   rintro e w6 ⟨x2, rfl, hx2, hb6⟩
   have hjr : jRes AL x2 = (p : Int) := by
    rw [HPp.out x2 hx2]
    exact if_neg (by omega)
   rw [hjr]
   have HB6 : Hid (Below w.heap.size w w6) := (HB5.out).trans (hb6.mono (HB5.out).size)
   clear hx2 hb6 hjr HJ2
   go_wp2_with fail
   go_ret
   exact ⟨by first | rfl | simp, HB6.out⟩
 ·have hWe : HW = 1 := (HHW.out).symm.trans (if_neg (by rw [HER.out]; exact he))
  clear HAN HHW HHi
  subst hWe
  go_wp2_with fail
  go_ret
  exact ⟨rfl, HB1.out⟩
end Go.Proofs.YtejadojilncbjabGreat
