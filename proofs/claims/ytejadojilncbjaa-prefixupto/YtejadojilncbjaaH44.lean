import Derived.Test.YtejadojilncbjaaH42
import Derived.Test.YtejadojilncbjaaH43
import Derived.Test.YtejadojilncbjaaH36
import Derived.Test.YtejadojilncbjaaH30
namespace Go.Proofs.Ytejadojilncbjaa
open Go.RowKit
set_option linter.unusedVariables false
attribute [local go_sem ↓] Go.wp_at_zero Go.wp_at_succ

theorem playA_lenE {c : Cfg} {mem : List Int} {jobs : List (Int × List InsD)} (ps : List PickD) (h : errS c mem jobs = 0) : (playA c mem jobs ps).length = ps.length := by
  rw [show playA c mem jobs ps = accs c mem jobs ps from if_pos h]
  exact gLog_len c mem jobs ps ps.length
theorem run_upto41 (pa : Option Addr) (l cap n : Nat) (hn : n ≤ cap) (w : World) : (Instr.slice 41 (.slice pa l cap) none (some (.int .i64 (n : Int))) none).run Try.prog w = .ok (.slice pa n cap) w := by
  have h := run_slice_h (P := Try.prog) w 41 pa l cap (by kernel_rfl) .i64 (n : Int) (by omega) (by omega)
  rw [h]
  have hs : ((sizeOf (Try.prog.elem 41)).run Try.prog w) = .ok 2 w := by kernel_rfl
  rw [hs]
  simp only [Result.andThen, sliced]
  cases pa <;> simp [Addr.add]

set_option maxRecDepth 100000 in
set_option maxHeartbeats 1000000 in
theorem prefix_walk (G : PlayGood ∧ JobsGood) (c : Cfg) (mem : List Int) (jobs : List (Int × List InsD)) (ps : List PickD) (kk : Int) (hkk : -9223372036854775808 ≤ kk ∧ kk ≤ 9223372036854775807) (ma ja pa : Option Addr) (mc jc pc : Nat) (w : World) (hps : ps.length ≤ 2 ^ 21) (hpc : ps.length ≤ pc) (hml : mem.length ≤ maxLen) (hjl : jobs.length ≤ maxLen)
    (hm : Ints w w.heap.size ma mem) (hj : JobsRep w w.heap.size ja jobs) (hp : PicksIn w w.heap.size pa ps) :
    Calls Try.prog 7 #[.agg #[.int .i64 c.t, .int .i64 c.wd, .int .i64 c.s, .int .i64 c.g, .int .i64 c.r, .int .i64 c.cp, .int .i64 c.f, .slice ma mem.length mc, .slice ja jobs.length jc], .slice pa ps.length pc, .int .i64 kk] w fun e w' => e = .returned (.bool true) ∧ Below w.heap.size w w' := by
  have HM : Hid (Ints w w.heap.size ma mem) := hm
  have HJ : Hid (JobsRep w w.heap.size ja jobs) := hj
  have HP : Hid (PicksIn w w.heap.size pa ps) := hp
  have HG : Hid (PlayGood ∧ JobsGood) := G
  have HN : Hid (ps.length ≤ 2 ^ 21) := hps
  have HPC : Hid (ps.length ≤ pc) := hpc
  have HKK : Hid (-9223372036854775808 ≤ kk ∧ kk ≤ 9223372036854775807) := hkk
  have hps' : ps.length ≤ 2097152 := hps
  obtain ⟨L, HL⟩ : ∃ L, Hid (playA c mem jobs ps = L) := ⟨_, rfl⟩
  obtain ⟨ER, HER⟩ : ∃ ER, Hid (errS c mem jobs = ER) := ⟨_, rfl⟩
  obtain ⟨HW, HHW⟩ : ∃ HW, Hid (howN c mem jobs = HW) := ⟨_, rfl⟩
  have hwl : IntKind.i64.wrap ((ps.length : Int) + 1) = (ps.length : Int) + 1 := wrapP _ (by omega) (by omega)
  clear hm hj hp G hps hpc hkk
  go_enter Try.func7, Try.ntmps7
  go_wp2_with fail
  obtain ⟨w0, hw0⟩ : ∃ w0, w0 = w.alloc (.cells #[.int .i64 c.t, .int .i64 c.wd, .int .i64 c.s, .int .i64 c.g, .int .i64 c.r, .int .i64 c.cp, .int .i64 c.f, .slice ma mem.length mc, .slice ja jobs.length jc] 27) := ⟨_, rfl⟩
  have hB0 : Below w.heap.size w w0 := by rw [hw0]; exact (Below.refl w.heap.size w).alloc (Nat.le_refl _) _
  have hSb : Blk w0 w.heap.size 27 #[.int .i64 c.t, .int .i64 c.wd, .int .i64 c.s, .int .i64 c.g, .int .i64 c.r, .int .i64 c.cp, .int .i64 c.f, .slice ma mem.length mc, .slice ja jobs.length jc] := by rw [hw0]; exact Blk.new w 27 _
  rw [← hw0]
  clear hw0
  refine (kpick_any kk ((ps.length : Int) + 1) HKK.out ⟨by omega, by omega⟩ w0).mono ?_
  rintro e wz ⟨⟨n, rfl, hn⟩, rfl⟩
  have HB0 : Hid (Below w.heap.size w wz) := hB0
  have HSb0 : Hid (Blk wz w.heap.size 27 #[.int .i64 c.t, .int .i64 c.wd, .int .i64 c.s, .int .i64 c.g, .int .i64 c.r, .int .i64 c.cp, .int .i64 c.f, .slice ma mem.length mc, .slice ja jobs.length jc]) := hSb
  have hsc0 := hSb.cell
  have HNn : Hid (n ≤ ps.length) := by show _ ≤ _; omega
  clear hB0 hSb hn hwl HKK
  have hsl : ∀ wx, (Instr.slice 41 (.slice pa ps.length pc) none (some (.int .i64 (n : Int))) none).run Try.prog wx = .ok (.slice pa n pc) wx := fun wx => run_upto41 pa ps.length pc n (by have := HPC.out; have := HNn.out; omega) wx
  obtain ⟨L2, HL2⟩ : ∃ L2, Hid (playA c mem jobs (ps.take n) = L2) := ⟨_, rfl⟩
  obtain ⟨R1, HR1⟩ : ∃ R1, Hid (jobsA c mem jobs (ps.take n) = R1) := ⟨_, rfl⟩
  obtain ⟨R2, HR2⟩ : ∃ R2, Hid (jobsA c mem jobs ps = R2) := ⟨_, rfl⟩
  have HTl : Hid ((ps.take n).length = n) := by show _ = _; have := HNn.out; simp [Nat.min_eq_left this]
  have hAsk : ∀ (wx : World), Below w.heap.size w wx → Calls Try.prog 15 #[.agg #[.int .i64 c.t, .int .i64 c.wd, .int .i64 c.s, .int .i64 c.g, .int .i64 c.r, .int .i64 c.cp, .int .i64 c.f, .slice ma mem.length mc, .slice ja jobs.length jc], .slice pa ps.length pc] wx fun e w' => ∃ (la : Option Addr) (lc : Nat), e = .returned (.tuple #[.slice la L.length lc, .int .i64 HW]) ∧ LogIn w' w'.heap.size la L ∧ Below wx.heap.size wx w' := fun wx hb => by
    have h := asked_any (HG.out).1 c mem jobs ps ma ja pa mc jc pc wx HN.out hml hjl ((HM.out).up hb) ((HJ.out).up2 hb) ((HP.out).up2 hb)
    rw [show playA c mem jobs ps = L from HL.out, show howN c mem jobs = HW from HHW.out] at h
    exact h
  have hAsk2 : ∀ (wx : World), Below w.heap.size w wx → Calls Try.prog 15 #[.agg #[.int .i64 c.t, .int .i64 c.wd, .int .i64 c.s, .int .i64 c.g, .int .i64 c.r, .int .i64 c.cp, .int .i64 c.f, .slice ma mem.length mc, .slice ja jobs.length jc], .slice pa n pc] wx fun e w' => ∃ (la : Option Addr) (lc : Nat), e = .returned (.tuple #[.slice la L2.length lc, .int .i64 HW]) ∧ LogIn w' w'.heap.size la L2 ∧ Below wx.heap.size wx w' := fun wx hb => by
    have h := asked_any (HG.out).1 c mem jobs (ps.take n) ma ja pa mc jc pc wx (by rw [HTl.out]; have := HNn.out; have := HN.out; omega) hml hjl ((HM.out).up hb) ((HJ.out).up2 hb) (((HP.out).up2 hb).take n)
    rw [HTl.out, show playA c mem jobs (ps.take n) = L2 from HL2.out, show howN c mem jobs = HW from HHW.out] at h
    exact h
  have hJob1 : ∀ (wx : World), Below w.heap.size w wx → Calls Try.prog 25 #[.agg #[.int .i64 c.t, .int .i64 c.wd, .int .i64 c.s, .int .i64 c.g, .int .i64 c.r, .int .i64 c.cp, .int .i64 c.f, .slice ma mem.length mc, .slice ja jobs.length jc], .slice pa n pc] wx fun e w' => ∃ (la : Option Addr) (lc : Nat), e = .returned (.tuple #[.slice la R1.length lc, .int .i64 ER]) ∧ ResIn w' w'.heap.size la R1 ∧ Below wx.heap.size wx w' := fun wx hb => by
    have h := (HG.out).2 c mem jobs (ps.take n) ma ja pa mc jc pc wx (by rw [HTl.out]; have := HNn.out; have := HN.out; omega) hml hjl ((HM.out).up hb) ((HJ.out).up2 hb) (((HP.out).up2 hb).take n)
    rw [HTl.out, show jobsA c mem jobs (ps.take n) = R1 from HR1.out, show errS c mem jobs = ER from HER.out] at h
    refine Calls.mono h ?_
    rintro e w' ⟨la, lc, rfl, h1, h2⟩
    exact ⟨la, lc, rfl, resIn_row h1, h2⟩
  have hJob2 : ∀ (wx : World), Below w.heap.size w wx → Calls Try.prog 25 #[.agg #[.int .i64 c.t, .int .i64 c.wd, .int .i64 c.s, .int .i64 c.g, .int .i64 c.r, .int .i64 c.cp, .int .i64 c.f, .slice ma mem.length mc, .slice ja jobs.length jc], .slice pa ps.length pc] wx fun e w' => ∃ (la : Option Addr) (lc : Nat), e = .returned (.tuple #[.slice la R2.length lc, .int .i64 ER]) ∧ ResIn w' w'.heap.size la R2 ∧ Below wx.heap.size wx w' := fun wx hb => by
    have h := (HG.out).2 c mem jobs ps ma ja pa mc jc pc wx (by have := HN.out; omega) hml hjl ((HM.out).up hb) ((HJ.out).up2 hb) ((HP.out).up2 hb)
    rw [show jobsA c mem jobs ps = R2 from HR2.out, show errS c mem jobs = ER from HER.out] at h
    refine Calls.mono h ?_
    rintro e w' ⟨la, lc, rfl, h1, h2⟩
    exact ⟨la, lc, rfl, resIn_row h1, h2⟩
  have HAsk : Hid (∀ (wx : World), Below w.heap.size w wx → Calls Try.prog 15 #[.agg #[.int .i64 c.t, .int .i64 c.wd, .int .i64 c.s, .int .i64 c.g, .int .i64 c.r, .int .i64 c.cp, .int .i64 c.f, .slice ma mem.length mc, .slice ja jobs.length jc], .slice pa ps.length pc] wx fun e w' => ∃ (la : Option Addr) (lc : Nat), e = .returned (.tuple #[.slice la L.length lc, .int .i64 HW]) ∧ LogIn w' w'.heap.size la L ∧ Below wx.heap.size wx w') := hAsk
  have HAsk2 : Hid (∀ (wx : World), Below w.heap.size w wx → Calls Try.prog 15 #[.agg #[.int .i64 c.t, .int .i64 c.wd, .int .i64 c.s, .int .i64 c.g, .int .i64 c.r, .int .i64 c.cp, .int .i64 c.f, .slice ma mem.length mc, .slice ja jobs.length jc], .slice pa n pc] wx fun e w' => ∃ (la : Option Addr) (lc : Nat), e = .returned (.tuple #[.slice la L2.length lc, .int .i64 HW]) ∧ LogIn w' w'.heap.size la L2 ∧ Below wx.heap.size wx w') := hAsk2
  have HJob1 : Hid (∀ (wx : World), Below w.heap.size w wx → Calls Try.prog 25 #[.agg #[.int .i64 c.t, .int .i64 c.wd, .int .i64 c.s, .int .i64 c.g, .int .i64 c.r, .int .i64 c.cp, .int .i64 c.f, .slice ma mem.length mc, .slice ja jobs.length jc], .slice pa n pc] wx fun e w' => ∃ (la : Option Addr) (lc : Nat), e = .returned (.tuple #[.slice la R1.length lc, .int .i64 ER]) ∧ ResIn w' w'.heap.size la R1 ∧ Below wx.heap.size wx w') := hJob1
  have HJob2 : Hid (∀ (wx : World), Below w.heap.size w wx → Calls Try.prog 25 #[.agg #[.int .i64 c.t, .int .i64 c.wd, .int .i64 c.s, .int .i64 c.g, .int .i64 c.r, .int .i64 c.cp, .int .i64 c.f, .slice ma mem.length mc, .slice ja jobs.length jc], .slice pa ps.length pc] wx fun e w' => ∃ (la : Option Addr) (lc : Nat), e = .returned (.tuple #[.slice la R2.length lc, .int .i64 ER]) ∧ ResIn w' w'.heap.size la R2 ∧ Below wx.heap.size wx w') := hJob2
  clear hAsk hAsk2 hJob1 hJob2
  go_wp2_with fail
  refine (HAsk.out wz HB0.out).mono ?_
  rintro e w1 ⟨la, lc, rfl, hl1, hb1⟩
  have HB1 : Hid (Below w.heap.size w w1) := (HB0.out).trans (hb1.mono (HB0.out).size)
  have HSb1 : Hid (Blk w1 w.heap.size 27 #[.int .i64 c.t, .int .i64 c.wd, .int .i64 c.s, .int .i64 c.g, .int .i64 c.r, .int .i64 c.cp, .int .i64 c.f, .slice ma mem.length mc, .slice ja jobs.length jc]) := (HSb0.out).below hb1 (HSb0.out).lt
  have HL1 : Hid (LogIn w1 w1.heap.size la L) := hl1
  have hsc1 := (HSb1.out).cell
  clear hl1 hb1 hsc0 HSb0 HB0 HAsk
  go_upto_region 3 with fail
  go_cut [10, 11] (fun ta tb wx => ∃ (la2 : Option Addr) (lc2 : Nat), ta = .slice la2 L2.length lc2 ∧ tb = .int .i64 HW ∧ Hid (LogIn wx wx.heap.size la2 L2 ∧ Below w1.heap.size w1 wx))
  case first =>
    go_region_with (go_at_call 15; refine (HAsk2.out _ (by first | exact HB1.out | exact (HB1.out).trans ((below_drew w1).mono (HB1.out).size))).mono ?_; rintro e w4 ⟨la2, lc2, rfl, hl4, hb4⟩; have HL4 : Hid (LogIn w4 w4.heap.size la2 L2 ∧ Below w1.heap.size w1 w4) := ⟨hl4, by first | exact hb4 | exact of_drew hb4⟩; clear hl4 hb4)
    all_goals
      go_wp2
      go_meet
      case rel => exact ⟨la2, lc2, rfl, rfl, HL4⟩
  case rest =>
    obtain ⟨la2, lc2, rfl, rfl, HL4⟩ := hcut
    obtain ⟨w2, hw2⟩ : ∃ w2, w2 = wc := ⟨_, rfl⟩
    subst hw2
    have hb2 := (HL4.out).2
    have HB2 : Hid (Below w.heap.size w w2) := (HB1.out).trans (hb2.mono (HB1.out).size)
    have HSb2 : Hid (Blk w2 w.heap.size 27 #[.int .i64 c.t, .int .i64 c.wd, .int .i64 c.s, .int .i64 c.g, .int .i64 c.r, .int .i64 c.cp, .int .i64 c.f, .slice ma mem.length mc, .slice ja jobs.length jc]) := (HSb1.out).below hb2 (HSb1.out).lt
    have HL12 : Hid (LogIn w2 w2.heap.size la L) := (HL1.out).up hb2
    have HL22 : Hid (LogIn w2 w2.heap.size la2 L2) := (HL4.out).1
    have hsc2 := (HSb2.out).cell
    clear hb2 hsc1 HSb1 HB1 HAsk2 HL4 HL1
    go_upto_region 4 with fail
    go_cut [12, 13] (fun ta tb wx => ∃ (ra1 : Option Addr) (rc1 : Nat), ta = .slice ra1 R1.length rc1 ∧ tb = .int .i64 ER ∧ Hid (ResIn wx wx.heap.size ra1 R1 ∧ Below w2.heap.size w2 wx))
    case first =>
      go_region_with (go_at_call 25; refine (HJob1.out _ (by first | exact HB2.out | exact (HB2.out).trans ((below_drew w2).mono (HB2.out).size))).mono ?_; rintro e w4 ⟨ra1, rc1, rfl, hl4, hb4⟩; have HL4 : Hid (ResIn w4 w4.heap.size ra1 R1 ∧ Below w2.heap.size w2 w4) := ⟨hl4, by first | exact hb4 | exact of_drew hb4⟩; clear hl4 hb4)
      all_goals
        go_wp2
        go_meet
        case rel => exact ⟨ra1, rc1, rfl, rfl, HL4⟩
    case rest =>
      obtain ⟨ra1, rc1, rfl, rfl, HL4⟩ := hcut
      obtain ⟨w3, hw3⟩ : ∃ w3, w3 = wc := ⟨_, rfl⟩
      subst hw3
      have hb3 := (HL4.out).2
      have HB3 : Hid (Below w.heap.size w w3) := (HB2.out).trans (hb3.mono (HB2.out).size)
      have HSb3 : Hid (Blk w3 w.heap.size 27 #[.int .i64 c.t, .int .i64 c.wd, .int .i64 c.s, .int .i64 c.g, .int .i64 c.r, .int .i64 c.cp, .int .i64 c.f, .slice ma mem.length mc, .slice ja jobs.length jc]) := (HSb2.out).below hb3 (HSb2.out).lt
      have HL13 : Hid (LogIn w3 w3.heap.size la L) := (HL12.out).up hb3
      have HL23 : Hid (LogIn w3 w3.heap.size la2 L2) := (HL22.out).up hb3
      have HR13 : Hid (ResIn w3 w3.heap.size ra1 R1) := (HL4.out).1
      have hsc3 := (HSb3.out).cell
      clear hb3 hsc2 HSb2 HB2 HJob1 HL4 HL12 HL22 hsl
      go_wp2_with fail
      refine (HJob2.out w3 HB3.out).mono ?_
      rintro e w4 ⟨ra2, rc2, rfl, hl4, hb4⟩
      have HB4 : Hid (Below w.heap.size w w4) := (HB3.out).trans (hb4.mono (HB3.out).size)
      have HSb4 : Hid (Blk w4 w.heap.size 27 #[.int .i64 c.t, .int .i64 c.wd, .int .i64 c.s, .int .i64 c.g, .int .i64 c.r, .int .i64 c.cp, .int .i64 c.f, .slice ma mem.length mc, .slice ja jobs.length jc]) := (HSb3.out).below hb4 (HSb3.out).lt
      have HL14 : Hid (LogIn w4 w4.heap.size la L) := (HL13.out).up hb4
      have HL24 : Hid (LogIn w4 w4.heap.size la2 L2) := (HL23.out).up hb4
      have HR14 : Hid (ResIn w4 w4.heap.size ra1 R1) := (HR13.out).up hb4
      have HR24 : Hid (ResIn w4 w4.heap.size ra2 R2) := hl4
      clear hb4 hl4 hsc3 HSb3 HB3 HJob2 HL13 HL23 HR13
      have hsc4 := (HSb4.out).cell
      have hbe : (ER != ER) = false := by simp
      have hbw : (HW != HW) = false := by simp
      by_cases he : ER = 0
      · have hWe : HW = 2 := (HHW.out).symm.trans (if_pos ((HER.out).trans he))
        have HSo : Hid (SetupOk c mem jobs ∧ ∀ j ∈ jobs, 0 ≤ j.1 ∧ j.1 < c.t) := errS_ok ((HER.out).trans he)
        have hR1 : R1 = jobsOf c mem jobs (ps.take n) := (HR1.out).symm.trans (if_pos ((HER.out).trans he))
        have hR2 : R2 = jobsOf c mem jobs ps := (HR2.out).symm.trans (if_pos ((HER.out).trans he))
        have hR1l : R1.length = jobs.length := by rw [hR1]; simp [jobsOf]
        have hR2l : R2.length = jobs.length := by rw [hR2]; simp [jobsOf]
        have hLl : L.length = ps.length := by rw [← show playA c mem jobs ps = L from HL.out]; exact playA_lenE ps ((HER.out).trans he)
        have hL2l : L2.length = n := by rw [← show playA c mem jobs (ps.take n) = L2 from HL2.out, playA_lenE (ps.take n) ((HER.out).trans he)]; exact HTl.out
        have HEq : Hid (∀ i, i < n → accAt L2 i = accAt L i) := fun i hi => by
          rw [← show playA c mem jobs (ps.take n) = L2 from HL2.out, ← show playA c mem jobs ps = L from HL.out, show playA c mem jobs (ps.take n) = accs c mem jobs (ps.take n) from if_pos ((HER.out).trans he), show playA c mem jobs ps = accs c mem jobs ps from if_pos ((HER.out).trans he)]
          exact accs_take c mem jobs ps n HNn.out i hi
        have HRq : Hid (∀ j, j < jobs.length → (R1.getD j noRes).fate ≠ 0 → R2.getD j noRes = R1.getD j noRes) := fun j hj h => by
          rw [hR1] at h ⊢
          rw [hR2]
          exact jobs_prefix (ps := ps) ⟨(HSo.out).1.cfg, (HSo.out).1.mw, (HSo.out).1.mb⟩ (HSo.out).2 n HNn.out j hj h
        have HJ8 : Hid (jobs.length ≤ 8) := (HSo.out).1.j8
        clear hR1 hR2 HHW HER HL HL2 HR1 HR2 HG HM HJ HP HSo
        obtain ⟨JN, hJN⟩ : ∃ JN, JN = R1.length := ⟨_, rfl⟩
        obtain ⟨JM, hJM⟩ : ∃ JM, JM = R2.length := ⟨_, rfl⟩
        rw [← hJN, ← hJM]
        have e1 : JN = jobs.length := hJN.trans hR1l
        have e2 : JM = jobs.length := hJM.trans hR2l
        have HR1l : Hid (R1.length = jobs.length) := hR1l
        have HR2l : Hid (R2.length = jobs.length) := hR2l
        obtain ⟨LN, hLN⟩ : ∃ LN, LN = L.length := ⟨_, rfl⟩
        obtain ⟨LM, hLM⟩ : ∃ LM, LM = L2.length := ⟨_, rfl⟩
        rw [← hLN, ← hLM]
        have e3 : LN = ps.length := hLN.trans hLl
        have e4 : LM = n := hLM.trans hL2l
        have HLl : Hid (L.length = ps.length) := hLl
        have HL2l : Hid (L2.length = n) := hL2l
        clear hJN hJM hLN hLM hR1l hR2l hLl hL2l
        subst e1 e2 e3 e4 he hWe
        go_wp2_with fail
        clear hsc4 hbe hbw
        go_loopg [17] (LM + 1) (fun m t17 wr => ∃ (k : Nat), t17 = .int .i64 (k : Int) ∧ k ≤ LM ∧ m = LM + 1 - k ∧ Hid (Below w4.heap.size w4 wr))
        case atStart => exact ⟨0, rfl, by omega, by omega, Below.refl _ _⟩
        case round =>
          obtain ⟨k, rfl, hk, hgk, HBk⟩ := hrel
          have hnn := HNn.out
          by_cases hlt : k < LM
          · obtain ⟨b1, o1, hA1, hb1, hc10, hc11, hc12, hc13⟩ := HL14.out k (by rw [HLl.out]; omega)
            obtain ⟨b2, o2, hB1, hb2, hc20, hc21, hc22, hc23⟩ := HL24.out k (by rw [HL2l.out]; exact hlt)
            have up : ∀ (b o : Nat), b < w4.heap.size → wr.cell? ⟨b, o, none⟩ = w4.cell? ⟨b, o, none⟩ := fun b o hb => World.cell?_of_block ((HBk.out).block b hb)
            have d10 := (up b1 _ hb1).trans hc10
            have d11 := (up b1 _ hb1).trans hc11
            have d12 := (up b1 _ hb1).trans hc12
            have d13 := (up b1 _ hb1).trans hc13
            have d20 := (up b2 _ hb2).trans hc20
            have d21 := (up b2 _ hb2).trans hc21
            have d22 := (up b2 _ hb2).trans hc22
            have d23 := (up b2 _ hb2).trans hc23
            rw [HEq.out k hlt] at d20 d21 d22 d23
            have hk0 : (0 : Int) ≤ (k : Int) := by omega
            have hk1 : (k : Int) < (LM : Int) := by omega
            have hk2 : (k : Int) < (ps.length : Int) := by omega
            have hwk : IntKind.i64.wrap ((k : Int) + 1) = (k : Int) + 1 := wrapP _ (by omega) (by omega)
            clear hc10 hc11 hc12 hc13 hc20 hc21 hc22 hc23 up
            subst hA1 hB1
            generalize accAt L k = z at *
            go_wp2
            go_quiet (fail)
            go_wp2
            go_roundg (gk - 1)
            case rel => exact ⟨k + 1, by simp, by omega, by omega, belowDrewN HBk.out nq⟩
            case measure => omega
          · have hke : ¬ (k : Int) < (LM : Int) := by omega
            obtain ⟨w5, hw5⟩ : ∃ w5, w5 = wr := ⟨_, rfl⟩
            subst hw5
            have HR15 : Hid (ResIn w5 w5.heap.size ra1 R1) := (HR14.out).up HBk.out
            have HR25 : Hid (ResIn w5 w5.heap.size ra2 R2) := (HR24.out).up HBk.out
            have HB5 : Hid (Below w.heap.size w w5) := (HB4.out).trans ((HBk.out).mono (HB4.out).size)
            clear HR14 HR24 HL14 HL24 HBk HB4 HEq HSb4
            go_wp2_with fail
            go_loopg [18] (jobs.length + 1) (fun m t18 wr => ∃ (j : Nat), t18 = .int .i64 (j : Int) ∧ j ≤ jobs.length ∧ m = jobs.length + 1 - j ∧ Hid (Below w5.heap.size w5 wr))
            case atStart => exact ⟨0, rfl, by omega, by omega, Below.refl _ _⟩
            case round =>
              obtain ⟨j, rfl, hj, hgj, HBj⟩ := hrel
              have hj8 := HJ8.out
              by_cases hjl2 : j < jobs.length
              · obtain ⟨b1, hA1, hb1, hc10, hc11, hc12, hc13, hc14⟩ := HR15.out j (by rw [HR1l.out]; exact hjl2)
                obtain ⟨b2, hB1, hb2, hc20, hc21, hc22, hc23, hc24⟩ := HR25.out j (by rw [HR2l.out]; exact hjl2)
                have up : ∀ (b o : Nat), b < w5.heap.size → wr.cell? ⟨b, o, none⟩ = w5.cell? ⟨b, o, none⟩ := fun b o hb => World.cell?_of_block ((HBj.out).block b hb)
                have d10 := (up b1 _ hb1).trans hc10
                have d11 := (up b1 _ hb1).trans hc11
                have d12 := (up b1 _ hb1).trans hc12
                have d13 := (up b1 _ hb1).trans hc13
                have d14 := (up b1 _ hb1).trans hc14
                have d20 := (up b2 _ hb2).trans hc20
                have d21 := (up b2 _ hb2).trans hc21
                have d22 := (up b2 _ hb2).trans hc22
                have d23 := (up b2 _ hb2).trans hc23
                have d24 := (up b2 _ hb2).trans hc24
                have hq := HRq.out j hjl2
                have hj0 : (0 : Int) ≤ (j : Int) := by omega
                have hj1 : (j : Int) < (jobs.length : Int) := by omega
                have hwj : IntKind.i64.wrap ((j : Int) + 1) = (j : Int) + 1 := wrapP _ (by omega) (by omega)
                have hszj := (HBj.out).size
                have hb1w : b1 < wr.heap.size := by omega
                obtain ⟨x, hx⟩ : ∃ x, x = R1.getD j noRes := ⟨_, rfl⟩
                obtain ⟨y, hy⟩ : ∃ y, y = R2.getD j noRes := ⟨_, rfl⟩
                rw [← hx] at d10 d11 d12 d13 d14 hq
                rw [← hy] at d20 d21 d22 d23 d24 hq
                have HQ : Hid (x.fate ≠ 0 → y = x) := hq
                subst hA1 hB1
                clear hc10 hc11 hc12 hc13 hc14 hc20 hc21 hc22 hc23 hc24 up hq hx hy hj8
                go_wp2_with fail
                go_cut [19] (fun t wx => ∃ b : Bool, t = .bool b ∧ Hid (x.fate = y.fate ∧ x.r0 = y.r0 ∧ x.r1 = y.r1 ∧ x.r2 = y.r2 ∧ x.r3 = y.r3 → b = true) ∧ Hid (Below wr.heap.size wr wx))
                case first =>
                  go_region_with (go_at_call 26; refine (keepRes_any _ _ _ _ _ _ _ _ _ _ _).mono ?_; rintro e w6 ⟨b, rfl, hbb, hb6⟩; have HBB : Hid (x.fate = y.fate ∧ x.r0 = y.r0 ∧ x.r1 = y.r1 ∧ x.r2 = y.r2 ∧ x.r3 = y.r3 → b = true) := hbb; clear hbb)
                  all_goals
                    go_wp2
                    go_meet
                    case rel => exact ⟨b, rfl, HBB, by first | assumption | exact of_drew (by assumption)⟩
                case rest =>
                  obtain ⟨b, rfl, HBB, HBc⟩ := hcut
                  have d1c : wc.cell? ⟨b1, j * 5, none⟩ = some (.int .i64 x.fate) := (World.cell?_of_block ((HBc.out).block b1 hb1w)).trans d10
                  clear d10 d11 d12 d13 d14 d20 d21 d22 d23 d24
                  by_cases hf : x.fate = 0
                  · have hfb : (x.fate != 0) = false := by simp [hf]
                    clear HQ HBB hf
                    go_wp2_with fail
                    go_roundg (jobs.length + 1 - (j + 1))
                    case rel => exact ⟨j + 1, by simp, by omega, by omega, (HBj.out).trans ((HBc.out).mono hszj)⟩
                    case measure => omega
                  · have hfb : (x.fate != 0) = true := by simp [hf]
                    have hbt : b = true := HBB.out (by rw [HQ.out hf]; exact ⟨rfl, rfl, rfl, rfl, rfl⟩)
                    subst hbt
                    clear HQ HBB hf
                    go_wp2_with fail
                    go_roundg (jobs.length + 1 - (j + 1))
                    case rel => exact ⟨j + 1, by simp, by omega, by omega, (HBj.out).trans ((HBc.out).mono hszj)⟩
                    case measure => omega
              · have hje : ¬ (j : Int) < (jobs.length : Int) := by omega
                have HF : Hid (Below w.heap.size w wr) := (HB5.out).trans ((HBj.out).mono (HB5.out).size)
                clear HBj HB5
                go_wp2_with fail
                go_ret
                exact ⟨rfl, HF.out⟩
      · have hWe : HW = 1 := (HHW.out).symm.trans (if_neg (by rw [HER.out]; exact he))
        have hR1 : R1 = [] := (HR1.out).symm.trans (if_neg (by rw [HER.out]; exact he))
        have hR2 : R2 = [] := (HR2.out).symm.trans (if_neg (by rw [HER.out]; exact he))
        have hAn : answeredN ER ER true = 1 := by unfold answeredN; rw [if_neg (by simp), if_neg he]; rfl
        have HAn : Hid (answeredN ER ER true = 1) := hAn
        clear HHW HR1 HR2 HL HL2 hAn
        subst hWe hR1 hR2
        simp only [List.length_nil]
        go_wp2_with fail
        refine (answered_any c mem jobs ER _ ma ja mc jc w4 hml hjl ((HM.out).up HB4.out) ((HJ.out).up2 HB4.out)).mono ?_
        rintro e w5 ⟨rfl, hb5⟩
        rw [show errS c mem jobs = ER from HER.out]
        have HF : Hid (Below w.heap.size w w5) := (HB4.out).trans (hb5.mono (HB4.out).size)
        clear hb5
        first
          | rw [show answeredN ER ER true = 1 from HAn.out]
          | rw [show answeredN ER ER ((0 : Int) == 0 && (0 : Int) == 0) = 1 from HAn.out]
          | rw [show answeredN ER ER ((((0 : Nat) : Int)) == 0) = 1 from HAn.out]
        go_wp2_with fail
        go_ret
        exact ⟨rfl, HF.out⟩

end Go.Proofs.Ytejadojilncbjaa

namespace Go.Proofs.Ytejadojilncbjaa
open Go.RowKit
set_option linter.unusedVariables false
attribute [local go_sem ↓] Go.wp_at_zero Go.wp_at_succ

/-! The program's Jobs. -/

theorem WR.apart2 {base p nb cb cap tcap rb : Nat} {pn : Int} {X : List Value} {w w' : World} {q : List (PT × Ls)} {Ds : List Int} (W : WR base p nb cb cap tcap pn X w q Ds) (o : Only rb w w') (h1 : p ≠ rb) (h2 : nb ≠ rb) (h3 : cb ≠ rb) (h4 : ¬ OwnW q rb) : WR base p nb cb cap tcap pn X w' q Ds :=
  ⟨W.thr.only o h1, fun i hi => (W.rows i hi).kept (fun k ok => o.block k ((W.rows i hi).own k ok).2 (fun e => h4 ⟨i, hi, e ▸ ok⟩)), W.dis, W.num.only o h2, W.nown, W.wst.only o h3, W.pb, W.nbb, W.cbb, Nat.le_trans W.bs o.size⟩

end Go.Proofs.Ytejadojilncbjaa

namespace Go.Proofs.Ytejadojilncbjaa
open Go.RowKit
set_option linter.unusedVariables false

theorem res_cells {w : World} {b : Nat} {l : List ResD} (h : Blk w b 35 (l.flatMap resCells).toArray) (k : Nat) (hk : k < l.length) :
    w.cell? ⟨b, k * 5, none⟩ = some (.int .i64 (l.getD k noRes).fate) ∧ w.cell? ⟨b, k * 5 + 1, none⟩ = some (.int .i64 (l.getD k noRes).r0) ∧ w.cell? ⟨b, k * 5 + 2, none⟩ = some (.int .i64 (l.getD k noRes).r1) ∧ w.cell? ⟨b, k * 5 + 3, none⟩ = some (.int .i64 (l.getD k noRes).r2) ∧ w.cell? ⟨b, k * 5 + 4, none⟩ = some (.int .i64 (l.getD k noRes).r3) := by
  have e : ∀ j, j < 5 → w.cell? ⟨b, k * 5 + j, none⟩ = (resCells (l.getD k noRes))[j]? := fun j hj => by
    rw [h.cell]
    simp only [List.getElem?_toArray]
    rw [flat_at (n := 5) (fun _ => rfl) _ k j hj, List.getElem?_eq_getElem hk]
    simp [List.getD, List.getElem?_eq_getElem hk]
  exact ⟨e 0 (by omega), e 1 (by omega), e 2 (by omega), e 3 (by omega), e 4 (by omega)⟩
theorem res_store {w : World} {b : Nat} {l : List ResD} (h : Blk w b 35 (l.flatMap resCells).toArray) (k : Nat) (hk : k < l.length) (r : ResD) :
    Blk (((((w.setCell ⟨b, k * 5, none⟩ (.int .i64 r.fate)).setCell ⟨b, k * 5 + 1, none⟩ (.int .i64 r.r0)).setCell ⟨b, k * 5 + 2, none⟩ (.int .i64 r.r1)).setCell ⟨b, k * 5 + 3, none⟩ (.int .i64 r.r2)).setCell ⟨b, k * 5 + 4, none⟩ (.int .i64 r.r3)) b 35 ((l.set k r).flatMap resCells).toArray := by
  refine (((((h.set).set).set).set).set).congr ?_
  rw [res_set l k hk r]
  simp

end Go.Proofs.Ytejadojilncbjaa
