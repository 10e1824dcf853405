import Derived.Test.YtejadojilncbjabGreatK44
import Derived.Test.YtejadojilncbjabGreatK46
import Derived.Test.YtejadojilncbjabGreatK50
import Derived.Test.YtejadojilncbjabGreatK40
namespace Go.Proofs.YtejadojilncbjabGreat
open Go.RowKit
set_option linter.unusedVariables false
attribute [local go_sem ↓] Go.wp_at_zero Go.wp_at_succ
abbrev EndS (c : Cfg) (ma ja : Option Addr) (ML mc JL jc sb cb o wb p : Nat) (v u : Int) (w : World) : Prop :=
 (∀ i, i < 9 → w.cell? ⟨sb, i, none⟩ = (#[.int .i64 c.t, .int .i64 c.wd, .int .i64 c.s, .int .i64 c.g, .int .i64 c.r, .int .i64 c.cp, .int .i64 c.f, .slice ma ML mc, .slice ja JL jc] : Array Value)[i]?) ∧ w.cell? ⟨cb, o, none⟩ = some (.int .i64 v) ∧ w.cell? ⟨wb, p, none⟩ = some (.int .i64 u)
theorem rn_jok {c : Cfg} {mem : List Int} {jobs : List (Int × List InsD)} {ps : List PickD} (S : SetupOk c mem jobs) (h : ∀ j ∈ jobs, 0 ≤ j.1 ∧ j.1 < c.t) : (⟨c, mem, jobs, ps⟩ : Rn).Jok := by
 have key : ∀ j, j < jobs.length → jobs.getD j (0, []) ∈ jobs := fun j hj => by
  rw [List.getD_eq_getElem?_getD, List.getElem?_eq_getElem hj]
  exact List.getElem_mem hj
 exact ⟨fun j hj => h _ (key j hj), fun j hj => S.cd _ (key j hj)⟩
theorem own_slice' {w : World} {base e size n : Nat} {v : Value} {xs : List Value} (h : w.ownsRow base e size v n xs) : ∃ a m c, v = Value.slice a m c := by
 rcases h.2 with ⟨rfl, _⟩ | ⟨g, cap, cur, rfl, _⟩
 ·exact ⟨_, _, _, rfl⟩
 ·exact ⟨_, _, _, rfl⟩
set_option maxRecDepth 100000 in
set_option maxHeartbeats 8000000 in
theorem serial_walk (G : HistoryGood ∧ JobsGood ∧ CellsGood) (c : Cfg) (mem : List Int) (jobs : List (Int × List InsD)) (ps : List PickD) (ma ja pa : Option Addr) (mc jc pc : Nat) (w : World) (hps : ps.length ≤ 2 ^ 21) (hml : mem.length ≤ maxLen) (hjl : jobs.length ≤ maxLen)
  (hm : Ints w w.heap.size ma mem) (hj : JobsRep w w.heap.size ja jobs) (hp : PicksIn w w.heap.size pa ps) :
  Calls Tryz.prog 3 #[.agg #[.int .i64 c.t, .int .i64 c.wd, .int .i64 c.s, .int .i64 c.g, .int .i64 c.r, .int .i64 c.cp, .int .i64 c.f, .slice ma mem.length mc, .slice ja jobs.length jc], .slice pa ps.length pc] w fun e w' => e = .returned (.bool true) ∧ Below w.heap.size w w' := by
 have HM : Hid (Ints w w.heap.size ma mem) := hm
 have HJ : Hid (JobsRep w w.heap.size ja jobs) := hj
 have HP : Hid (PicksIn w w.heap.size pa ps) := hp
 have HG : Hid (HistoryGood ∧ JobsGood ∧ CellsGood) := G
 have HN : Hid (ps.length ≤ 2 ^ 21) := hps
 obtain ⟨ER, HER⟩ : ∃ ER, Hid (errS c mem jobs = ER) := ⟨_, rfl⟩
 obtain ⟨HW, HHW⟩ : ∃ HW, Hid (howN c mem jobs = HW) := ⟨_, rfl⟩
 clear hm hj hp G hps
 go_enter Tryz.func3, Tryz.ntmps3
 go_wp2_with fail
 obtain ⟨w0, hw0⟩ : ∃ w0, w0 = w.alloc (.cells #[.int .i64 c.t, .int .i64 c.wd, .int .i64 c.s, .int .i64 c.g, .int .i64 c.r, .int .i64 c.cp, .int .i64 c.f, .slice ma mem.length mc, .slice ja jobs.length jc] 27) := ⟨_, rfl⟩
 have hB0 : Below w.heap.size w w0 := by rw [hw0]; exact (Below.refl w.heap.size w).alloc (Nat.le_refl _) _
 have hSb : Blk w0 w.heap.size 27 #[.int .i64 c.t, .int .i64 c.wd, .int .i64 c.s, .int .i64 c.g, .int .i64 c.r, .int .i64 c.cp, .int .i64 c.f, .slice ma mem.length mc, .slice ja jobs.length jc] := by rw [hw0]; exact Blk.new w 27 _
 rw [← hw0]
 clear hw0
 refine (ktold_any (HG.out).1 c mem jobs ps ma ja pa mc jc pc w0 HN.out hml hjl ((HM.out).up hB0) ((HJ.out).up2 hB0) ((HP.out).up2 hB0)).mono ?_
 rintro e w1 ⟨la, lc, AN, hAN, rfl, hl1, hn1, hb1⟩
 rw [show howN c mem jobs = HW from HHW.out]
 have hB1 : Below w.heap.size w w1 := hB0.trans (hb1.mono hB0.size)
 have HSb1 : Hid (Blk w1 w.heap.size 27 #[.int .i64 c.t, .int .i64 c.wd, .int .i64 c.s, .int .i64 c.g, .int .i64 c.r, .int .i64 c.cp, .int .i64 c.f, .slice ma mem.length mc, .slice ja jobs.length jc]) := hSb.below hb1 hSb.lt
 have hsc := (HSb1.out).cell
 have HB1 : Hid (Below w.heap.size w w1) := hB1
 have HAN : Hid (AN.map (·.1) = histA c mem jobs ps) := hAN
 have HA1 : Hid (AttsRow w1 w0.heap.size la lc AN) := hl1
 have HSl : Hid (∀ q ∈ AN, ∃ a n c, q.2 = Value.slice a n c) := fun q hq => own_slice' (hn1 q hq)
 clear hB0 hSb hl1 hb1 hB1 hAN hn1
 go_wp2_with fail
 refine ((HG.out).2.1 c mem jobs ps ma ja pa mc jc pc w1 (Nat.le_trans HN.out (by decide)) hml hjl ((HM.out).up HB1.out) ((HJ.out).up2 HB1.out) ((HP.out).up2 HB1.out)).mono ?_
 rintro e w2 ⟨ra, rc, rfl, hr2, hb2⟩
 rw [show errS c mem jobs = ER from HER.out]
 obtain ⟨RS, hRS⟩ : ∃ RS, RS = jobsA c mem jobs ps := ⟨_, rfl⟩
 rw [← hRS] at hr2 ⊢
 have HRS : Hid (RS = jobsA c mem jobs ps) := hRS
 have HB2 : Hid (Below w.heap.size w w2) := (HB1.out).trans (hb2.mono (HB1.out).size)
 have HSb2 : Hid (Blk w2 w.heap.size 27 #[.int .i64 c.t, .int .i64 c.wd, .int .i64 c.s, .int .i64 c.g, .int .i64 c.r, .int .i64 c.cp, .int .i64 c.f, .slice ma mem.length mc, .slice ja jobs.length jc]) := (HSb1.out).below hb2 (HSb1.out).lt
 have HA2 : Hid (AttsRow w2 w0.heap.size la lc AN) := ownsRow_below HA1.out hb2
 have HR2 : Hid (ResIn w2 w2.heap.size ra RS) := resIn_row hr2
 have hsc2 := (HSb2.out).cell
 clear hr2 hb2 hRS hsc HSb1 HA1 HB1
 go_wp2_with fail
 refine ((HG.out).2.2 c mem jobs ps ma ja pa mc jc pc w2 HN.out hml hjl ((HM.out).up HB2.out) ((HJ.out).up2 HB2.out) ((HP.out).up2 HB2.out)).mono ?_
 rintro e w3 ⟨ca, cc, rfl, hc3, hb3⟩
 rw [show errS c mem jobs = ER from HER.out]
 obtain ⟨CS, hCS⟩ : ∃ CS, CS = cellsA c mem jobs ps := ⟨_, rfl⟩
 rw [← hCS] at hc3 ⊢
 have HCS : Hid (CS = cellsA c mem jobs ps) := hCS
 have HB3 : Hid (Below w.heap.size w w3) := (HB2.out).trans (hb3.mono (HB2.out).size)
 have HSb3 : Hid (Blk w3 w.heap.size 27 #[.int .i64 c.t, .int .i64 c.wd, .int .i64 c.s, .int .i64 c.g, .int .i64 c.r, .int .i64 c.cp, .int .i64 c.f, .slice ma mem.length mc, .slice ja jobs.length jc]) := (HSb2.out).below hb3 (HSb2.out).lt
 have HA3 : Hid (AttsRow w3 w0.heap.size la lc AN) := ownsRow_below HA2.out hb3
 have HR3 : Hid (ResIn w3 w3.heap.size ra RS) := (HR2.out).up hb3
 have HC3 : Hid (Ints w3 w3.heap.size ca CS) := hc3
 have hsc3 := (HSb3.out).cell
 clear hc3 hb3 hCS hsc2 HSb2 HA2 HB2 HR2 HG
 go_wp2_with fail
 refine (answered_any c mem jobs ER _ ma ja mc jc w3 hml hjl ((HM.out).up HB3.out) ((HJ.out).up2 HB3.out)).mono ?_
 rintro e w4 ⟨rfl, hb4⟩
 rw [show errS c mem jobs = ER from HER.out]
 have HB4 : Hid (Below w.heap.size w w4) := (HB3.out).trans (hb4.mono (HB3.out).size)
 have HSb4 : Hid (Blk w4 w.heap.size 27 #[.int .i64 c.t, .int .i64 c.wd, .int .i64 c.s, .int .i64 c.g, .int .i64 c.r, .int .i64 c.cp, .int .i64 c.f, .slice ma mem.length mc, .slice ja jobs.length jc]) := (HSb3.out).below hb4 (HSb3.out).lt
 have HA4 : Hid (AttsRow w4 w0.heap.size la lc AN) := ownsRow_below HA3.out hb4
 have HR4 : Hid (ResIn w4 w4.heap.size ra RS) := (HR3.out).up hb4
 have HC4 : Hid (Ints w4 w4.heap.size ca CS) := (HC3.out).up hb4
 have hsc4 := (HSb4.out).cell
 obtain ⟨A1, hA1⟩ : ∃ A1, A1 = answeredN ER ER ((RS.length : Int) == 0) := ⟨_, rfl⟩
 rw [← hA1]
 have HAq : Hid (A1 = answeredN ER ER ((RS.length : Int) == 0)) := hA1
 clear hA1
 clear hb4 hsc3 HSb3 HA3 HB3 HR3 HC3
 go_wp2_with fail
 refine (answered_any c mem jobs ER _ ma ja mc jc w4 hml hjl ((HM.out).up HB4.out) ((HJ.out).up2 HB4.out)).mono ?_
 rintro e w5 ⟨rfl, hb5⟩
 rw [show errS c mem jobs = ER from HER.out]
 have HB5 : Hid (Below w.heap.size w w5) := (HB4.out).trans (hb5.mono (HB4.out).size)
 have HSb5 : Hid (Blk w5 w.heap.size 27 #[.int .i64 c.t, .int .i64 c.wd, .int .i64 c.s, .int .i64 c.g, .int .i64 c.r, .int .i64 c.cp, .int .i64 c.f, .slice ma mem.length mc, .slice ja jobs.length jc]) := (HSb4.out).below hb5 (HSb4.out).lt
 have HA5 : Hid (AttsRow w5 w0.heap.size la lc AN) := ownsRow_below HA4.out hb5
 have HR5 : Hid (ResIn w5 w5.heap.size ra RS) := (HR4.out).up hb5
 have HC5 : Hid (Ints w5 w5.heap.size ca CS) := (HC4.out).up hb5
 obtain ⟨A2, hA2⟩ : ∃ A2, A2 = answeredN ER ER ((CS.length : Int) == 0) := ⟨_, rfl⟩
 rw [← hA2]
 clear hb5 hsc4 HSb4 HA4 HB4 HR4 HC4
 by_cases he : ER = 0
 ·have HSo : Hid (SetupOk c mem jobs ∧ ∀ j ∈ jobs, 0 ≤ j.1 ∧ j.1 < c.t) := errS_ok ((HER.out).trans he)
  have hWe : HW = 2 := (HHW.out).symm.trans (if_pos ((HER.out).trans he))
  have hRe : RS = jobsOf c mem jobs ps := (HRS.out).trans (if_pos ((HER.out).trans he))
  have hRl : RS.length = jobs.length := by rw [hRe]; simp [jobsOf]
  have hCe : CS = cellsOf c mem jobs ps := (HCS.out).trans (if_pos ((HER.out).trans he))
  have hA1' : A1 = 2 := by rw [HAq.out]; unfold answeredN; rw [if_neg (by simp), if_pos he]
  have hA2' : A2 = 2 := by rw [hA2]; unfold answeredN; rw [if_neg (by simp), if_pos he]
  have HO : Hid (⟨c, mem, jobs, ps⟩ : Rn).Ok := ⟨(HSo.out).1.cfg, (HSo.out).1.mw, (HSo.out).1.mb⟩
  have hH : AN.map (·.1) = (⟨c, mem, jobs, ps⟩ : Rn).hist := (HAN.out).trans (if_pos ((HER.out).trans he))
  have hNl : AN.length ≤ 2097152 := by
   have h1 := hist_len HO.out
   rw [← hH, List.length_map] at h1
   have h2 : (⟨c, mem, jobs, ps⟩ : Rn).ps.length = ps.length := rfl
   have := HN.out
   omega
  obtain ⟨⟨ct1, ct2⟩, ⟨cw1, cw2⟩, ⟨cs1, cs2⟩, _⟩ := cfgB_true (HSo.out).1.cfg
  have hmw := (HSo.out).1.mw
  have hj8 := (HSo.out).1.j8
  have hml8 : mem.length ≤ 8 := by omega
  have HSe : Hid (serAll (⟨c, mem, jobs, ps⟩ : Rn) mem (⟨c, mem, jobs, ps⟩ : Rn).ord) := serial_ord HO.out (rn_jok (HSo.out).1 (HSo.out).2)
  have HWl : Hid (((⟨c, mem, jobs, ps⟩ : Rn).wl ((⟨c, mem, jobs, ps⟩ : Rn).clk ps.length)).length = mem.length) := by show _ = _; rw [wl_len]; show c.wd.toNat = _; omega
  have hCl : CS.length = (total c).toNat := by rw [hCe]; simp [cellsOf]
  have htot : total c = 3 + 2 * c.s + c.t + c.wd := rfl
  have HCg : Hid (∀ i : Nat, (i : Int) < 3 + 2 * c.s + c.t + c.wd → CS.getD i 0 = (gAt c mem jobs ps ps.length).m (i : Int)) := fun i hi => by
   rw [hCe]
   unfold cellsOf
   simp only [List.getD, List.getElem?_map]
   rw [List.getElem?_range (by omega)]
   rfl
  have HWg : Hid (∀ a : Nat, (a : Int) < c.wd → CS.getD (3 + ((a : Int).tmod c.s).toNat) 0 ≠ -1 → CS.getD (3 + 2 * c.s + c.t + (a : Int)).toNat 0 = ((⟨c, mem, jobs, ps⟩ : Rn).wl ((⟨c, mem, jobs, ps⟩ : Rn).clk ps.length)).getD a 0) := fun a ha hv => by
   have hq := tmodP cs1 (show (0 : Int) ≤ (a : Int) by omega)
   rw [HCg.out _ (by omega)] at hv
   rw [HCg.out _ (by omega), show (((3 + 2 * c.s + c.t + (a : Int)).toNat : Nat) : Int) = 3 + 2 * c.s + c.t + (a : Int) by omega]
   rw [show ((3 + ((a : Int).tmod c.s).toNat : Nat) : Int) = 3 + (a : Int).tmod c.s by omega] at hv
   have h := words_end HO.out (a : Int) (by omega) ha hv
   rw [show memW _ (a : Int) = _ from rfl] at h
   exact h
  obtain ⟨WL, hWL⟩ : ∃ WL, WL = (⟨c, mem, jobs, ps⟩ : Rn).wl ((⟨c, mem, jobs, ps⟩ : Rn).clk ps.length) := ⟨_, rfl⟩
  rw [← hWL] at HWl HWg
  obtain ⟨BN, hBN⟩ : ∃ BN, BN = (ordP AN.reverse).reverse := ⟨_, rfl⟩
  have hBl : BN.length = AN.length := by rw [hBN, List.length_reverse, ordP_len, List.length_reverse]
  have HBs : Hid (∀ q ∈ BN, ∃ a n c, q.2 = Value.slice a n c) := fun q hq => HSl.out q (by rw [hBN, List.mem_reverse, ordP_mem, List.mem_reverse] at hq; exact hq)
  have hBf : BN.map (·.1) = (⟨c, mem, jobs, ps⟩ : Rn).ord := by
   rw [hBN, List.map_reverse, ordP_fst, List.map_reverse, hH]
   rfl
  have HRg : Hid (∀ j, j < jobs.length → RS.getD j noRes = (⟨c, mem, jobs, ps⟩ : Rn).res ps.length j) := fun j hj => by
   rw [hRe, jobsOf_get c mem jobs ps j hj]
   rfl
  have HSr : Hid (∀ (oa : Option Addr) (oc base : Nat) (wx : World), Below w.heap.size w wx → AttsRow wx base oa oc BN → ResIn wx wx.heap.size ra RS → Calls Tryz.prog 14 #[.agg #[.int .i64 c.t, .int .i64 c.wd, .int .i64 c.s, .int .i64 c.g, .int .i64 c.r, .int .i64 c.cp, .int .i64 c.f, .slice ma mem.length mc, .slice ja jobs.length jc], .slice oa BN.length oc, .slice ra jobs.length rc] wx (SerIs wx mem.length WL)) := fun oa oc base wx hb h1 h2 => by
   rw [hWL]
   exact serial_any ⟨c, mem, jobs, ps⟩ c rfl mem.length jobs.length rfl hml8 rfl hj8 BN (by rw [hBf]; exact HSe.out) HBs.out RS hRl HRg.out ma ja oa ra mc jc oc rc base wx (by omega) ((HM.out).up hb) ((HJ.out).up2 hb) h1 h2
  obtain ⟨RL, hRL⟩ : ∃ RL, RL = RS.length := ⟨_, rfl⟩
  have e1 : RL = jobs.length := hRL.trans hRl
  obtain ⟨CL, hCL⟩ : ∃ CL, CL = CS.length := ⟨_, rfl⟩
  have hCL2 : (CL : Int) = 3 + 2 * c.s + c.t + c.wd := by rw [hCL, hCl, htot]; omega
  have HCl : Hid (CL = CS.length) := hCL
  rw [← hRL, ← hCL]
  have HKw : Hid (∀ wx, Calls Tryz.prog 12 #[.agg #[.int .i64 c.t, .int .i64 c.wd, .int .i64 c.s, .int .i64 c.g, .int .i64 c.r, .int .i64 c.cp, .int .i64 c.f, .slice ma mem.length mc, .slice ja jobs.length jc], .int .i64 c.wd] wx fun e w' => e = .returned (.int .i64 (CL : Int)) ∧ Below wx.heap.size wx w') := fun wx => by
   have h := kword_any c (HSo.out).1.cfg c.wd ma ja mem.length mc jobs.length jc wx (by omega) (by omega)
   rw [← hCL2] at h
   exact h
  have HCL2 : Hid ((CL : Int) = 3 + 2 * c.s + c.t + c.wd) := hCL2
  clear hRe hRl hCe HAq hA2 hH hCl htot hWL hBf hRL hCL HER HHW HAN HRS HCS HSe HRg hCL2
  subst e1 hWe he hA1' hA2'
  have hsc5 := (HSb5.out).cell
  go_wp2_with fail
  clear hsc5
  refine (HKw.out _).mono ?_
  rintro e w6 ⟨rfl, hb6⟩
  have HB6 : Hid (Below w.heap.size w w6) := (HB5.out).trans (hb6.mono (HB5.out).size)
  have HSb6 : Hid (Blk w6 w.heap.size 27 #[.int .i64 c.t, .int .i64 c.wd, .int .i64 c.s, .int .i64 c.g, .int .i64 c.r, .int .i64 c.cp, .int .i64 c.f, .slice ma mem.length mc, .slice ja jobs.length jc]) := (HSb5.out).below hb6 (HSb5.out).lt
  have HA6 : Hid (AttsRow w6 w0.heap.size la lc AN) := ownsRow_below HA5.out hb6
  have HR6 : Hid (ResIn w6 w6.heap.size ra RS) := (HR5.out).up hb6
  have HC6 : Hid (Ints w6 w6.heap.size ca CS) := (HC5.out).up hb6
  clear hb6 HKw HSb5 HA5 HR5 HC5 HB5
  go_wp2_with fail
  refine (ordered_any AN la lc w0.heap.size w6 (by omega) HA6.out HSl.out).mono ?_
  rintro e w7 ⟨oa, oc, rfl, ho7, hb7⟩
  rw [← hBN] at ho7
  rw [← hBl]
  have HB7 : Hid (Below w.heap.size w w7) := (HB6.out).trans (hb7.mono (HB6.out).size)
  have HSb7 : Hid (Blk w7 w.heap.size 27 #[.int .i64 c.t, .int .i64 c.wd, .int .i64 c.s, .int .i64 c.g, .int .i64 c.r, .int .i64 c.cp, .int .i64 c.f, .slice ma mem.length mc, .slice ja jobs.length jc]) := (HSb6.out).below hb7 (HSb6.out).lt
  have HO7 : Hid (AttsRow w7 w6.heap.size oa oc BN) := ho7
  have HR7 : Hid (ResIn w7 w7.heap.size ra RS) := (HR6.out).up hb7
  have HC7 : Hid (Ints w7 w7.heap.size ca CS) := (HC6.out).up hb7
  have hsc7 := (HSb7.out).cell
  clear ho7 hb7 HSb6 HA6 HR6 HC6 HB6 hBN hBl hNl
  go_wp2_with fail
  clear hsc7
  refine (HSr.out oa oc w6.heap.size w7 HB7.out HO7.out HR7.out).mono ?_
  rintro e w8 ⟨wa, wcp, rfl, _, hw8, hb8⟩
  have HB8 : Hid (Below w.heap.size w w8) := (HB7.out).trans (hb8.mono (HB7.out).size)
  have HSb8 : Hid (Blk w8 w.heap.size 27 #[.int .i64 c.t, .int .i64 c.wd, .int .i64 c.s, .int .i64 c.g, .int .i64 c.r, .int .i64 c.cp, .int .i64 c.f, .slice ma mem.length mc, .slice ja jobs.length jc]) := (HSb7.out).below hb8 (HSb7.out).lt
  have HC8 : Hid (Ints w8 w8.heap.size ca CS) := (HC7.out).up hb8
  have HW8 : Hid (Ints w8 w8.heap.size wa WL) := hw8
  obtain ⟨sb, hsb⟩ : ∃ sb, sb = w.heap.size := ⟨_, rfl⟩
  rw [← hsb] at HSb8 ⊢
  have HSq : Hid (sb = w.heap.size) := hsb
  clear hw8 hb8 HSb7 HO7 HR7 HC7 HB7 HSr hsb HSl HBs
  go_wp2_with fail
  go_loopg [16] (mem.length + 1) (fun m t16 wr => ∃ a : Nat, t16 = .int .i64 (a : Int) ∧ a ≤ mem.length ∧ m = mem.length + 1 - a ∧ Hid (Below w8.heap.size w8 wr))
  case atStart => exact ⟨0, rfl, by omega, by omega, Below.refl _ _⟩
  case round =>
   obtain ⟨a, rfl, ha, hga, HBa⟩ := hrel
   have hsza := (HBa.out).size
   by_cases hal : a < mem.length
   ·have hq := tmodP cs1 (show (0 : Int) ≤ (a : Int) by omega)
    obtain ⟨q, hqn⟩ := Int.eq_ofNat_of_zero_le hq.1
    have hqn' : (a : Int).tmod c.s = (q : Int) := hqn
    have hCLe := HCL2.out
    obtain ⟨u, hun⟩ := Int.eq_ofNat_of_zero_le (show (0 : Int) ≤ 3 + 2 * c.s + c.t + (a : Int) by omega)
    have hun' : 3 + 2 * c.s + c.t + (a : Int) = (u : Int) := hun
    have hCLs := HCl.out
    obtain ⟨cb, co, hca, hcbl, hcv⟩ := HC8.out (3 + q) (by omega)
    obtain ⟨cb', co', hca', hcbl', hcu⟩ := HC8.out u (by omega)
    rw [hca] at hca'
    cases hca'
    obtain ⟨wb, wo, hwa, hwbl, hwv⟩ := HW8.out a (by rw [HWl.out]; exact hal)
    have hcond := HWg.out a (by omega)
    rw [hqn', hun'] at hcond
    rw [show ((q : Int)).toNat = q from Int.toNat_natCast q, show ((u : Int)).toNat = u from Int.toNat_natCast u] at hcond
    obtain ⟨vv, hvv⟩ : ∃ vv, vv = CS.getD (3 + q) 0 := ⟨_, rfl⟩
    obtain ⟨cw, hcw⟩ : ∃ cw, cw = CS.getD u 0 := ⟨_, rfl⟩
    obtain ⟨ww, hww⟩ : ∃ ww, ww = WL.getD a 0 := ⟨_, rfl⟩
    rw [← hvv] at hcv hcond
    rw [← hcw] at hcu hcond
    rw [← hww] at hwv hcond
    obtain ⟨v3, hv3⟩ : ∃ v3, v3 = 3 + q := ⟨_, rfl⟩
    rw [← hv3] at hcv
    have HVe : Hid (∀ wx, Calls Tryz.prog 15 #[.agg #[.int .i64 c.t, .int .i64 c.wd, .int .i64 c.s, .int .i64 c.g, .int .i64 c.r, .int .i64 c.cp, .int .i64 c.f, .slice ma mem.length mc, .slice ja jobs.length jc], .int .i64 (q : Int)] wx fun e w' => e = .returned (.int .i64 (v3 : Int)) ∧ Below wx.heap.size wx w') := fun wx => by
     have h := kversion_any c (q : Int) ma ja mem.length mc jobs.length jc wx (by omega) (by omega)
     rw [show (3 : Int) + (q : Int) = (v3 : Int) by omega] at h
     exact h
    have HWo : Hid (∀ wx, Calls Tryz.prog 12 #[.agg #[.int .i64 c.t, .int .i64 c.wd, .int .i64 c.s, .int .i64 c.g, .int .i64 c.r, .int .i64 c.cp, .int .i64 c.f, .slice ma mem.length mc, .slice ja jobs.length jc], .int .i64 (a : Int)] wx fun e w' => e = .returned (.int .i64 (u : Int)) ∧ Below wx.heap.size wx w') := fun wx => by
     have h := kword_any c (HSo.out).1.cfg (a : Int) ma ja mem.length mc jobs.length jc wx (by omega) (by omega)
     rw [hun'] at h
     exact h
    have hwq : IntKind.i64.wrap (q : Int) = (q : Int) := wrapF _ (by omega) (by omega)
    have hs0 : (c.s == 0) = false := by simp; omega
    have hs0' : ¬ c.s = 0 := by omega
    have v30 : (0 : Int) ≤ (v3 : Int) := by omega
    have v31 : (v3 : Int) < (CL : Int) := by omega
    have u0 : (0 : Int) ≤ (u : Int) := by omega
    have u1 : (u : Int) < (CL : Int) := by omega
    have a0 : (0 : Int) ≤ (a : Int) := by omega
    have a1 : (a : Int) < (mem.length : Int) := by omega
    have hwa2 : IntKind.i64.wrap ((a : Int) + 1) = (a : Int) + 1 := wrapF _ (by omega) (by omega)
    have up : ∀ (b o : Nat), b < w8.heap.size → wr.cell? ⟨b, o, none⟩ = w8.cell? ⟨b, o, none⟩ := fun b o hb => World.cell?_of_block ((HBa.out).block b hb)
    have dv := (up cb _ hcbl).trans hcv
    have du := (up cb _ hcbl).trans hcu
    have dw := (up wb _ hwbl).trans hwv
    have ds := ((HSb8.out).below HBa.out (HSb8.out).lt).cell
    have lc1 : cb < wr.heap.size := Nat.lt_of_lt_of_le hcbl hsza
    have lw1 : wb < wr.heap.size := Nat.lt_of_lt_of_le hwbl hsza
    have ls1 : sb < wr.heap.size := Nat.lt_of_lt_of_le (HSb8.out).lt hsza
    have HK1 : Hid (∀ wx, Below wr.heap.size wr wx → EndS c ma ja mem.length mc jobs.length jc sb cb (co + v3) wb (wo + a) vv ww wx) := fun wx hb => ⟨fun i _ => (World.cell?_of_block (hb.block _ ls1)).trans (ds i), (World.cell?_of_block (a := ⟨cb, co + v3, none⟩) (hb.block _ lc1)).trans dv, (World.cell?_of_block (a := ⟨wb, wo + a, none⟩) (hb.block _ lw1)).trans dw⟩
    have HK2 : Hid (∀ wx, Below wr.heap.size wr wx → EndS c ma ja mem.length mc jobs.length jc sb cb (co + u) wb (wo + a) cw ww wx) := fun wx hb => ⟨fun i _ => (World.cell?_of_block (hb.block _ ls1)).trans (ds i), (World.cell?_of_block (a := ⟨cb, co + u, none⟩) (hb.block _ lc1)).trans du, (World.cell?_of_block (a := ⟨wb, wo + a, none⟩) (hb.block _ lw1)).trans dw⟩
    have HCo : Hid (vv ≠ -1 → cw = ww) := hcond
    subst hca hwa
    clear hcv hcu hwv hvv hcw hww hv3 hqn hun hun' up dv du dw ds hcond hCLe hCLs lc1 lw1 ls1 hq
    have HS0 : Hid (EndS c ma ja mem.length mc jobs.length jc sb cb (co + v3) wb (wo + a) vv ww wr.drew) := HK1.out _ (below_drew wr)
    go_wp2_with fail
    go_cut [17] (fun t wx => t = .int .i64 vv ∧ Hid (Below wr.heap.size wr wx))
    case first =>
     go_region_held3 (fun w' => EndS c ma ja mem.length mc jobs.length jc sb cb (co + v3) wb (wo + a) vv ww w')
      (first | exact HS1.out | exact HS0.out)
      (first
          | (go_at_call 15; refine (HVe.out _).mono ?_; rintro e w9 ⟨rfl, hb9⟩; have HB9 : Hid (Below wr.heap.size wr w9) := of_drew hb9; clear hb9; have HS1 : Hid (EndS c ma ja mem.length mc jobs.length jc sb cb (co + v3) wb (wo + a) vv ww w9) := HK1.out _ HB9.out))
     all_goals
      go_wp2_with fail
      go_meet
      case rel => exact ⟨rfl, HB9⟩
    case rest =>
     obtain ⟨rfl, HBc⟩ := hcut
     obtain ⟨wv, hwv⟩ : ∃ wv, wv = wc := ⟨_, rfl⟩
     subst hwv
     have HBd : Hid (Below w8.heap.size w8 wv) := (HBa.out).trans ((HBc.out).mono hsza)
     clear HS0 HK1 HVe
     by_cases hv : vv = -1
     ·have hvb : (vv != -1) = false := by simp [hv]
      clear hv
      go_wp2
      go_quiet (fail)
      go_wp2
      go_roundg (mem.length + 1 - (a + 1))
      case rel => exact ⟨a + 1, by simp, by omega, by omega, belowDrewN HBd.out nq⟩
      case measure => omega
     ·have hvb : (vv != -1) = true := by simp [hv]
      have hcwe := HCo.out hv
      subst hcwe
      have hbb : (cw != cw) = false := by simp
      have HS2 : Hid (EndS c ma ja mem.length mc jobs.length jc sb cb (co + u) wb (wo + a) cw cw wv.drew) := HK2.out _ ((HBc.out).trans ((below_drew wv).mono (HBc.out).size))
      clear hv HCo
      go_wp2_with fail
      go_cut [125] (fun t wx => t = .bool false ∧ Hid (Below wv.heap.size wv wx))
      case first =>
       go_region_held3 (fun w' => EndS c ma ja mem.length mc jobs.length jc sb cb (co + u) wb (wo + a) cw cw w')
        (first | exact HS3.out | exact HS2.out)
        (first
            | (go_at_call 12; refine (HWo.out _).mono ?_; rintro e w9 ⟨rfl, hb9⟩; have HB9 : Hid (Below wv.heap.size wv w9) := of_drew hb9; clear hb9; have HS3 : Hid (EndS c ma ja mem.length mc jobs.length jc sb cb (co + u) wb (wo + a) cw cw w9) := HK2.out _ ((HBc.out).trans ((HB9.out).mono (HBc.out).size))))
       all_goals
        go_wp2_with fail
        go_meet
        case rel => exact ⟨by first | rfl | simp, HB9⟩
      case rest =>
       obtain ⟨rfl, HBe⟩ := hcut
       have HBf : Hid (Below w8.heap.size w8 wc) := (HBd.out).trans ((HBe.out).mono (HBd.out).size)
       go_wp2_with fail
       go_roundg (mem.length + 1 - (a + 1))
       case rel => exact ⟨a + 1, by simp, by omega, by omega, HBf⟩
       case measure => omega
   ·have hae : ¬ (a : Int) < (mem.length : Int) := by omega
    have HF : Hid (Below w.heap.size w wr) := (HB8.out).trans ((HBa.out).mono (HB8.out).size)
    clear HBa
    go_wp2_with fail
    go_ret
    exact ⟨rfl, HF.out⟩
 ·have hWe : HW = 1 := (HHW.out).symm.trans (if_neg (by rw [HER.out]; exact he))
  have hRe : RS = [] := (HRS.out).trans (if_neg (by rw [HER.out]; exact he))
  have hCe : CS = [] := (HCS.out).trans (if_neg (by rw [HER.out]; exact he))
  have hA1' : A1 = 1 := by rw [HAq.out]; unfold answeredN; rw [if_neg (by simp), if_neg he, hRe]; rfl
  have hA2' : A2 = 1 := by rw [hA2]; unfold answeredN; rw [if_neg (by simp), if_neg he, hCe]; rfl
  clear HAq hA2 HAN HHW HRS HCS hRe hCe
  subst hWe hA1' hA2'
  go_wp2_with fail
  go_ret
  exact ⟨rfl, HB5.out⟩
end Go.Proofs.YtejadojilncbjabGreat
