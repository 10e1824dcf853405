import Derived.Test.YtejadojilncbjaaGreatG44
import Derived.Test.YtejadojilncbjaaGreatG46
import Derived.Test.YtejadojilncbjaaGreatG48
import Derived.Test.YtejadojilncbjaaGreatG40
import Derived.Test.YtejadojilncbjaaGreatG35
import Derived.Test.YtejadojilncbjaaGreatG28
import Derived.Test.YtejadojilncbjaaGreatG10
namespace Go.Proofs.YtejadojilncbjaaGreat
open Go.RowKit
set_option linter.unusedVariables false
attribute [local go_sem ↓] Go.wp_at_zero Go.wp_at_succ

/-- What the keepers' asked tells: the accesses, how it was answered. -/
def AskedIs (w : World) (l : List AccD) (how : Int) (e : Ending) (w' : World) : Prop :=
  ∃ (la : Option Addr) (lc : Nat), e = .returned (.tuple #[.slice la l.length lc, .int .i64 how]) ∧ LogIn w' w'.heap.size la l ∧ Below w.heap.size w w'
def howN (c : Cfg) (mem : List Int) (jobs : List (Int × List InsD)) : Int := if errS c mem jobs = 0 then 2 else 1

set_option maxRecDepth 100000 in
set_option maxHeartbeats 8000000 in
theorem asked_any (G : PlayGood) (c : Cfg) (mem : List Int) (jobs : List (Int × List InsD)) (ps : List PickD) (ma ja pa : Option Addr) (mc jc pc : Nat) (w : World) (hps : ps.length ≤ 2 ^ 21) (hml : mem.length ≤ maxLen) (hjl : jobs.length ≤ maxLen)
    (hm : Ints w w.heap.size ma mem) (hj : JobsRep w w.heap.size ja jobs) (hp : PicksIn w w.heap.size pa ps) :
    Calls Tryz.prog 13 #[.agg #[.int .i64 c.t, .int .i64 c.wd, .int .i64 c.s, .int .i64 c.g, .int .i64 c.r, .int .i64 c.cp, .int .i64 c.f, .slice ma mem.length mc, .slice ja jobs.length jc], .slice pa ps.length pc] w (AskedIs w (playA c mem jobs ps) (howN c mem jobs)) := by
  have HM : Hid (Ints w w.heap.size ma mem) := hm
  have HJ : Hid (JobsRep w w.heap.size ja jobs) := hj
  have HP : Hid (PicksIn w w.heap.size pa ps) := hp
  have HG : Hid PlayGood := G
  have HN : Hid (ps.length ≤ 2 ^ 21) := hps
  have hps' : ps.length ≤ 2097152 := hps
  obtain ⟨L, HL⟩ : ∃ L, Hid (playA c mem jobs ps = L) := ⟨_, rfl⟩
  obtain ⟨ER, HER⟩ : ∃ ER, Hid (errS c mem jobs = ER) := ⟨_, rfl⟩
  obtain ⟨HW, HHW⟩ : ∃ HW, Hid (howN c mem jobs = HW) := ⟨_, rfl⟩
  rw [show playA c mem jobs ps = L from HL.out, show howN c mem jobs = HW from HHW.out]
  clear hm hj hp G hps
  go_enter Tryz.func13, Tryz.ntmps13
  go_wp2_with fail
  obtain ⟨w0, hw0⟩ : ∃ w0, w0 = w.alloc (.cells #[.int .i64 c.t, .int .i64 c.wd, .int .i64 c.s, .int .i64 c.g, .int .i64 c.r, .int .i64 c.cp, .int .i64 c.f, .slice ma mem.length mc, .slice ja jobs.length jc] 27) := ⟨_, rfl⟩
  have hB0 : Below w.heap.size w w0 := by rw [hw0]; exact (Below.refl w.heap.size w).alloc (Nat.le_refl _) _
  have hSb : Blk w0 w.heap.size 27 #[.int .i64 c.t, .int .i64 c.wd, .int .i64 c.s, .int .i64 c.g, .int .i64 c.r, .int .i64 c.cp, .int .i64 c.f, .slice ma mem.length mc, .slice ja jobs.length jc] := by rw [hw0]; exact Blk.new w 27 _
  rw [← hw0]
  clear hw0
  refine (HG.out c mem jobs ps ma ja pa mc jc pc w0 HN.out hml hjl ((HM.out).up hB0) ((HJ.out).up2 hB0) ((HP.out).up2 hB0)).mono ?_
  rintro e w1 ⟨la, lc, rfl, hl1, hb1⟩
  rw [show playA c mem jobs ps = L from HL.out] at hl1
  rw [show playA c mem jobs ps = L from HL.out, show errS c mem jobs = ER from HER.out]
  have hB1 : Below w.heap.size w w1 := hB0.trans (hb1.mono hB0.size)
  have HSb1 : Hid (Blk w1 w.heap.size 27 #[.int .i64 c.t, .int .i64 c.wd, .int .i64 c.s, .int .i64 c.g, .int .i64 c.r, .int .i64 c.cp, .int .i64 c.f, .slice ma mem.length mc, .slice ja jobs.length jc]) := hSb.below hb1 hSb.lt
  have hsc := (HSb1.out).cell
  have HB1 : Hid (Below w.heap.size w w1) := hB1
  have HL1 : Hid (LogIn w1 w1.heap.size la L) := hl1
  have HM1 : Hid (Ints w1 w1.heap.size ma mem) := (HM.out).up hB1
  have HJ1 : Hid (JobsRep w1 w1.heap.size ja jobs) := (HJ.out).up2 hB1
  have HP1 : Hid (PicksIn w1 w1.heap.size pa ps) := (HP.out).up2 hB1
  clear hB0 hSb hl1 hb1 hB1 HM HJ HP HG
  go_wp2_with fail
  refine (answered_any c mem jobs ER _ ma ja mc jc w1 hml hjl HM1.out HJ1.out).mono ?_
  rintro e w2 ⟨rfl, hb2⟩
  rw [show errS c mem jobs = ER from HER.out]
  have HB2 : Hid (Below w.heap.size w w2) := (HB1.out).trans (hb2.mono (HB1.out).size)
  have HSb2 : Hid (Blk w2 w.heap.size 27 #[.int .i64 c.t, .int .i64 c.wd, .int .i64 c.s, .int .i64 c.g, .int .i64 c.r, .int .i64 c.cp, .int .i64 c.f, .slice ma mem.length mc, .slice ja jobs.length jc]) := (HSb1.out).below hb2 (HSb1.out).lt
  have HL2 : Hid (LogIn w2 w2.heap.size la L) := (HL1.out).up hb2
  have HJ2 : Hid (JobsRep w2 w2.heap.size ja jobs) := (HJ1.out).up2 hb2
  have HP2 : Hid (PicksIn w2 w2.heap.size pa ps) := (HP1.out).up2 hb2
  clear hb2 hsc HSb1 HL1 HM1 HJ1 HP1 HB1
  by_cases he : ER = 0
  · have hLa : L = accs c mem jobs ps := (HL.out).symm.trans (if_pos ((HER.out).trans he))
    have hSo := errS_ok ((HER.out).trans he)
    have hLl : L.length = ps.length := by rw [hLa]; exact gLog_len c mem jobs ps ps.length
    have HLl : Hid (L.length = ps.length) := hLl
    have HWe : Hid (HW = 2) := (HHW.out).symm.trans (if_pos ((HER.out).trans he))
    have hAn : answeredN ER ER ((L.length : Int) == 0) = 2 := by unfold answeredN; rw [if_neg (by simp), if_pos he]
    rw [hAn]
    obtain ⟨LN, hLN⟩ : ∃ LN, LN = L.length := ⟨_, rfl⟩
    have HLN : Hid (LN = L.length) := hLN
    have hLNp : LN = ps.length := hLN.trans hLl
    rw [← hLN]
    subst hLNp
    have HLa : Hid (L = accs c mem jobs ps) := hLa
    have HSo : Hid (SetupOk c mem jobs ∧ ∀ j ∈ jobs, 0 ≤ j.1 ∧ j.1 < c.t) := hSo
    have ht4 : c.t ≤ 4 := (cfgB_true hSo.1.cfg).1.2
    have HJ8 : Hid (jobs.length ≤ 2 ^ 40) := Nat.le_trans hSo.1.j8 (by decide)
    clear hLa hSo hLl hAn he hLN
    go_wp2_with fail
    obtain ⟨w3, hw3⟩ : ∃ w3, w3 = w2.alloc (.cells #[.bool false, .bool false, .bool false, .bool false] 74) := ⟨_, rfl⟩
    obtain ⟨mb, hmb⟩ : ∃ mb, mb = w2.heap.size := ⟨_, rfl⟩
    have hMb : Blk w3 mb 74 (([false, false, false, false].map (Value.bool ·)).toArray) := by rw [hw3, hmb]; exact Blk.new w2 74 _
    have hB23 : Below w2.heap.size w2 w3 := by rw [hw3]; exact (Below.refl _ _).alloc (Nat.le_refl _) _
    have HMb3 : Hid (Blk w3 mb 74 (([false, false, false, false].map (Value.bool ·)).toArray)) := hMb
    have HB23 : Hid (Below w2.heap.size w2 w3) := hB23
    have hmbw : w2.heap.size ≤ mb := by omega
    rw [← hw3, ← hmb]
    clear hw3 hmb hMb hB23
    go_loopg [10] (ps.length + 1) (fun m t10 wr => ∃ (k : Nat) (mt : List Bool), t10 = .int .i64 (k : Int) ∧ k ≤ ps.length ∧ m = ps.length + 1 - k ∧ Hid (Blk wr mb 74 ((mt.map (Value.bool ·)).toArray)) ∧ Hid (MetOk c mem jobs ps k mt) ∧ Hid (Below w2.heap.size w2 wr))
    case atStart => exact ⟨0, _, rfl, by omega, by omega, HMb3, met_start c mem jobs ps, HB23⟩
    case round =>
      obtain ⟨k, mt, rfl, hk, hgk, HMb, HMt, HBx⟩ := hrel
      clear HMb3 HB23
      by_cases hkl : k < ps.length
      · obtain ⟨pb, poff, hpa, hpb, hpc0, _⟩ := HP2.out k hkl
        obtain ⟨lb, loff, hla, hlb, hlc0, hlc1, _, _⟩ := HL2.out k (by rw [show L.length = ps.length from HLl.out]; exact hkl)
        have up : ∀ (b o : Nat), b < w2.heap.size → wr.cell? ⟨b, o, none⟩ = w2.cell? ⟨b, o, none⟩ := fun b o hb => World.cell?_of_block ((HBx.out).block b hb)
        have hq0 := (up pb _ hpb).trans hpc0
        have hk0 : (0 : Int) ≤ (k : Int) := by omega
        have hk1 : (k : Int) < (ps.length : Int) := by omega
        have hwk : IntKind.i64.wrap ((k : Int) + 1) = (k : Int) + 1 := wrapF _ (by omega) (by omega)
        have hsx : ∀ i, wr.cell? ⟨w.heap.size, i, none⟩ = (#[.int .i64 c.t, .int .i64 c.wd, .int .i64 c.s, .int .i64 c.g, .int .i64 c.r, .int .i64 c.cp, .int .i64 c.f, .slice ma mem.length mc, .slice ja jobs.length jc] : Array Value)[i]? := ((HSb2.out).below HBx.out (HSb2.out).lt).cell
        have hszx : w2.heap.size ≤ wr.heap.size := (HBx.out).size
        have HWK : Hid _ := works_any c mem jobs (pickAt ps k).thread ma ja mem.length mc jc wr HJ8.out (((HJ2.out).up HBx.out).mono hszx)
        subst hpa hla
        have HLK : Hid (accAt L k = accAt (accs c mem jobs ps) k) := by rw [HLa.out]; rfl
        have HPt : Hid (pickAt ps k = pickAt ps k) := rfl
        obtain ⟨th, hth⟩ : ∃ th, th = (pickAt ps k).thread := ⟨_, rfl⟩
        have HTH : Hid (th = (pickAt ps k).thread) := hth
        rw [← hth] at hq0 HWK
        clear hpc0 hth HPt up
        go_wp2_with fail
        refine Calls.mono HWK.out ?_
        rintro e w5 ⟨rfl, hb5⟩
        have HB5 : Hid (Below w2.heap.size w2 w5) := (HBx.out).trans (hb5.mono hszx)
        have hlk0 : w5.cell? ⟨lb, loff + k * 4, none⟩ = some (.int .i64 (accAt L k).kind) := (World.cell?_of_block ((HB5.out).block lb hlb)).trans hlc0
        have hlk1 : w5.cell? ⟨lb, loff + k * 4 + 1, none⟩ = some (.int .i64 (accAt L k).cell) := (World.cell?_of_block ((HB5.out).block lb hlb)).trans hlc1
        have HMb5 : Hid (Blk w5 mb 74 ((mt.map (Value.bool ·)).toArray)) := (HMb.out).below hb5 (HMb.out).lt
        clear hb5 HWK hsx hq0 hlc0 hlc1 HMb HBx hszx
        cases hwj : worksB jobs th with
        | false =>
          have hnone : accAt L k = noAcc := (HLK.out).trans (acc_idle hkl (by rw [← show th = _ from HTH.out]; exact hwj))
          have hkk : (accAt L k).kind = 0 := by rw [hnone]; rfl
          have HMt2 : Hid (MetOk c mem jobs ps (k + 1) mt) := met_skip HMt.out (fun i hi hf hw e => by
            rw [← show th = _ from HTH.out] at e
            rw [e, hw] at hwj
            cases hwj)
          rw [hkk] at hlk0
          clear hnone hkk hwj HMt HTH HLK hlk1
          go_wp2
          go_roundg (gk - 1)
          case rel => exact ⟨k + 1, mt, by simp, by omega, by omega, HMb5, HMt2, HB5⟩
          case measure => omega
        | true =>
          obtain ⟨jb, hjb, hje⟩ := works_true hwj
          have hr := (HSo.out).2 jb hjb
          rw [hje] at hr
          obtain ⟨n, hn⟩ : ∃ n : Nat, th = (n : Int) := ⟨th.toNat, by omega⟩
          have hn4 : n < 4 := by omega
          have HTN : Hid ((pickAt ps k).thread = (n : Int)) := (HTH.out).symm.trans hn
          have hmtl := (HMt.out).1
          have hmc : w5.cell? ⟨mb, n, none⟩ = some (.bool (mt.getD n false)) := by
            rw [(HMb5.out).cell]
            simp [List.getD, List.getElem?_eq_getElem (show n < mt.length by omega)]
          have hmf : w5.frozen? ⟨mb, n, none⟩ = false := (HMb5.out).frozen n
          have hn0 : (0 : Int) ≤ (n : Int) := by omega
          have hn4' : (n : Int) < 4 := by omega
          have HWJ : Hid (worksB jobs (n : Int) = true) := by rw [hn] at hwj; exact hwj
          have HRg : Hid (0 ≤ (pickAt ps k).thread ∧ (pickAt ps k).thread < c.t) := by rw [HTN.out, ← hn]; exact hr
          subst hn
          cases hmt : mt.getD n false with
          | true =>
            have HMt2 : Hid (MetOk c mem jobs ps (k + 1) mt) := met_skip HMt.out (fun i hi hf hw e => by
              rw [HTN.out] at e
              have : i = n := by omega
              rw [this, hmt] at hf
              cases hf)
            rw [hmt] at hmc
            clear hwj hjb hje hr hmt HMt HTH HTN HLK hmtl HWJ HRg
            go_wp2
            go_roundg (gk - 1)
            case rel => exact ⟨k + 1, mt, by simp, by omega, by omega, HMb5, HMt2, HB5⟩
            case measure => omega
          | false =>
            have HMt2 : Hid (MetOk c mem jobs ps (k + 1) (mt.set n true)) := met_set HMt.out hn4 HTN.out
            have hfst := acc_first (c := c) (mem := mem) hkl HRg.out (by rw [HTN.out]; exact HWJ.out) (by rw [HTN.out]; exact (HMt.out).2 n hn4 hmt HWJ.out)
            rw [← show accAt L k = _ from HLK.out] at hfst
            rw [hfst.1] at hlk0
            rw [hfst.2] at hlk1
            rw [hmt] at hmc
            have HMbS : Hid (Blk (w5.setCell ⟨mb, n, none⟩ (.bool true)) mb 74 (((mt.set n true).map (Value.bool ·)).toArray)) := ((HMb5.out).set (i := n) (v := .bool true)).congr (by
              rw [List.map_set]
              simp)
            have HBS : Hid (Below w2.heap.size w2 (w5.setCell ⟨mb, n, none⟩ (.bool true))) := below_set HB5.out hmbw
            have hlne : lb ≠ mb := by omega
            clear hwj hjb hje hr hmt HMt HTH HTN HLK hmtl HWJ HRg hfst HMb5 HB5
            go_wp2
            go_roundg (gk - 1)
            case rel => exact ⟨k + 1, mt.set n true, by simp, by omega, by omega, HMbS, HMt2, HBS⟩
            case measure => omega
      · have hk1 : ¬ (k : Int) < (ps.length : Int) := by omega
        have HLx : Hid (LogIn wr wr.heap.size la L) := (HL2.out).up HBx.out
        have HF : Hid (Below w.heap.size w wr) := (HB2.out).trans ((HBx.out).mono (HB2.out).size)
        clear HMb HMt HBx
        go_wp2
        exact bodyPost_ret (v := .tuple #[.slice la ps.length lc, .int .i64 2]) (by simp [results, Tryz.results13, go_sem]) rfl ⟨la, lc, by rw [HWe.out, HLl.out], HLx.out, HF.out⟩
  · have hLa : L = [] := (HL.out).symm.trans (if_neg (by rw [HER.out]; exact he))
    have HWe : Hid (HW = 1) := (HHW.out).symm.trans (if_neg (by rw [HER.out]; exact he))
    subst hLa
    have hAn : answeredN ER ER ((([] : List AccD).length : Int) == 0) = 1 := by unfold answeredN; rw [if_neg (by simp), if_neg he, if_pos (by simp)]
    rw [hAn]
    clear he hAn
    go_wp2
    exact bodyPost_ret (v := .tuple #[.slice none 0 0, .int .i64 1]) (by simp [results, Tryz.results13, go_sem]) rfl ⟨none, 0, by rw [HWe.out]; rfl, fun i hi => absurd hi (by simp), HB2.out⟩

end Go.Proofs.YtejadojilncbjaaGreat

namespace Go.Proofs.YtejadojilncbjaaGreat
open Go.RowKit
set_option linter.unusedVariables false
attribute [local go_sem ↓] Go.wp_at_zero Go.wp_at_succ

/-- What the keepers' told tells: the attempts, how it was answered. -/
def KToldIs (w : World) (l : List AttD) (how : Int) (e : Ending) (w' : World) : Prop :=
  ∃ (la : Option Addr) (lc : Nat) (AN : List (AttD × Value)), AN.map (·.1) = l ∧ e = .returned (.tuple #[.slice la AN.length lc, .int .i64 how]) ∧ AttsRow w' w.heap.size la lc AN ∧ NotesOf w' AN ∧ Below w.heap.size w w'

set_option maxRecDepth 100000 in
set_option maxHeartbeats 1000000 in
theorem ktold_any (G : HistoryGood) (c : Cfg) (mem : List Int) (jobs : List (Int × List InsD)) (ps : List PickD) (ma ja pa : Option Addr) (mc jc pc : Nat) (w : World) (hps : ps.length ≤ 2 ^ 21) (hml : mem.length ≤ maxLen) (hjl : jobs.length ≤ maxLen)
    (hm : Ints w w.heap.size ma mem) (hj : JobsRep w w.heap.size ja jobs) (hp : PicksIn w w.heap.size pa ps) :
    Calls Tryz.prog 24 #[.agg #[.int .i64 c.t, .int .i64 c.wd, .int .i64 c.s, .int .i64 c.g, .int .i64 c.r, .int .i64 c.cp, .int .i64 c.f, .slice ma mem.length mc, .slice ja jobs.length jc], .slice pa ps.length pc] w (KToldIs w (histA c mem jobs ps) (howN c mem jobs)) := by
  have HM : Hid (Ints w w.heap.size ma mem) := hm
  have HJ : Hid (JobsRep w w.heap.size ja jobs) := hj
  have HP : Hid (PicksIn w w.heap.size pa ps) := hp
  have HG : Hid HistoryGood := G
  have HN : Hid (ps.length ≤ 2 ^ 21) := hps
  have hps' : ps.length ≤ 2097152 := hps
  obtain ⟨ER, HER⟩ : ∃ ER, Hid (errS c mem jobs = ER) := ⟨_, rfl⟩
  obtain ⟨HW, HHW⟩ : ∃ HW, Hid (howN c mem jobs = HW) := ⟨_, rfl⟩
  obtain ⟨L, HL⟩ : ∃ L, Hid (histA c mem jobs ps = L) := ⟨_, rfl⟩
  rw [show histA c mem jobs ps = L from HL.out, show howN c mem jobs = HW from HHW.out]
  clear hm hj hp G hps
  go_enter Tryz.func24, Tryz.ntmps24
  go_wp2_with fail
  obtain ⟨w0, hw0⟩ : ∃ w0, w0 = w.alloc (.cells #[.int .i64 c.t, .int .i64 c.wd, .int .i64 c.s, .int .i64 c.g, .int .i64 c.r, .int .i64 c.cp, .int .i64 c.f, .slice ma mem.length mc, .slice ja jobs.length jc] 27) := ⟨_, rfl⟩
  have hB0 : Below w.heap.size w w0 := by rw [hw0]; exact (Below.refl w.heap.size w).alloc (Nat.le_refl _) _
  have hSb : Blk w0 w.heap.size 27 #[.int .i64 c.t, .int .i64 c.wd, .int .i64 c.s, .int .i64 c.g, .int .i64 c.r, .int .i64 c.cp, .int .i64 c.f, .slice ma mem.length mc, .slice ja jobs.length jc] := by rw [hw0]; exact Blk.new w 27 _
  rw [← hw0]
  clear hw0
  refine (HG.out c mem jobs ps ma ja pa mc jc pc w0 (Nat.le_trans HN.out (by decide)) hml hjl ((HM.out).up hB0) ((HJ.out).up2 hB0) ((HP.out).up2 hB0)).mono ?_
  rintro e w1 ⟨la, lc, AN, hAN, rfl, hl1, hn1, hb1⟩
  rw [show errS c mem jobs = ER from HER.out]
  have hB1 : Below w.heap.size w w1 := hB0.trans (hb1.mono hB0.size)
  have HSb1 : Hid (Blk w1 w.heap.size 27 #[.int .i64 c.t, .int .i64 c.wd, .int .i64 c.s, .int .i64 c.g, .int .i64 c.r, .int .i64 c.cp, .int .i64 c.f, .slice ma mem.length mc, .slice ja jobs.length jc]) := hSb.below hb1 hSb.lt
  have hsc := (HSb1.out).cell
  have HB1 : Hid (Below w.heap.size w w1) := hB1
  have HA1 : Hid (AN.map (·.1) = histA c mem jobs ps ∧ AttsRow w1 w.heap.size la lc AN ∧ NotesOf w1 AN) := ⟨hAN, ownsRow_low hl1 hB0.size, hn1⟩
  have HM1 : Hid (Ints w1 w1.heap.size ma mem) := (HM.out).up hB1
  have HJ1 : Hid (JobsRep w1 w1.heap.size ja jobs) := (HJ.out).up2 hB1
  have HP1 : Hid (PicksIn w1 w1.heap.size pa ps) := (HP.out).up2 hB1
  clear hB0 hSb hl1 hb1 hB1 HM HJ HP hAN hn1 HG
  go_wp2_with fail
  refine (answered_any c mem jobs ER _ ma ja mc jc w1 hml hjl HM1.out HJ1.out).mono ?_
  rintro e w2 ⟨rfl, hb2⟩
  rw [show errS c mem jobs = ER from HER.out]
  have HB2 : Hid (Below w.heap.size w w2) := (HB1.out).trans (hb2.mono (HB1.out).size)
  have HSb2 : Hid (Blk w2 w.heap.size 27 #[.int .i64 c.t, .int .i64 c.wd, .int .i64 c.s, .int .i64 c.g, .int .i64 c.r, .int .i64 c.cp, .int .i64 c.f, .slice ma mem.length mc, .slice ja jobs.length jc]) := (HSb1.out).below hb2 (HSb1.out).lt
  have HA2 : Hid (AN.map (·.1) = histA c mem jobs ps ∧ AttsRow w2 w.heap.size la lc AN ∧ NotesOf w2 AN) := ⟨(HA1.out).1, ownsRow_below (HA1.out).2.1 hb2, ((HA1.out).2.2).below hb2⟩
  have HJ2 : Hid (JobsRep w2 w2.heap.size ja jobs) := (HJ1.out).up2 hb2
  have HP2 : Hid (PicksIn w2 w2.heap.size pa ps) := (HP1.out).up2 hb2
  clear hb2 hsc HSb1 HM1 HJ1 HP1 HB1 HA1
  by_cases he : ER = 0
  · have HSo : Hid (SetupOk c mem jobs ∧ ∀ j ∈ jobs, 0 ≤ j.1 ∧ j.1 < c.t) := errS_ok ((HER.out).trans he)
    have HWe : Hid (HW = 2) := (HHW.out).symm.trans (if_pos ((HER.out).trans he))
    have hAn : answeredN ER ER ((AN.length : Int) == 0) = 2 := by unfold answeredN; rw [if_neg (by simp), if_pos he]
    have HNe : Hid (∀ k, k < ps.length → worksB jobs (pickAt ps k).thread = true → AN.length ≠ 0) := fun k hk hw e => by
      have h1 := hist_some (R := ⟨c, mem, jobs, ps⟩) ⟨(HSo.out).1.cfg, (HSo.out).1.mw, (HSo.out).1.mb⟩ (HSo.out).2 hk hw
      have h2 := (HA2.out).1
      rw [show histA c mem jobs ps = (⟨c, mem, jobs, ps⟩ : Rn).hist from if_pos ((HER.out).trans he)] at h2
      rw [List.length_eq_zero_iff.1 e] at h2
      exact h1 h2.symm
    have HJ8 : Hid (jobs.length ≤ 2 ^ 40) := Nat.le_trans (HSo.out).1.j8 (by decide)
    rw [hAn]
    clear hAn he
    go_wp2_with fail
    go_loopg [9] (ps.length + 1) (fun m t9 wr => ∃ (k : Nat), t9 = .int .i64 (k : Int) ∧ k ≤ ps.length ∧ m = ps.length + 1 - k ∧ Hid (Below w2.heap.size w2 wr))
    case atStart => exact ⟨0, rfl, by omega, by omega, Below.refl _ _⟩
    case round =>
      obtain ⟨k, rfl, hk, hgk, HBx⟩ := hrel
      by_cases hkl : k < ps.length
      · obtain ⟨pb, poff, hpa, hpb, hpc0, _⟩ := HP2.out k hkl
        have hq0 := (World.cell?_of_block (a := ⟨pb, poff + k * 2, none⟩) ((HBx.out).block pb hpb)).trans hpc0
        have hk0 : (0 : Int) ≤ (k : Int) := by omega
        have hk1 : (k : Int) < (ps.length : Int) := by omega
        have hwk : IntKind.i64.wrap ((k : Int) + 1) = (k : Int) + 1 := wrapF _ (by omega) (by omega)
        have hszx : w2.heap.size ≤ wr.heap.size := (HBx.out).size
        have hsx : ∀ i, wr.cell? ⟨w.heap.size, i, none⟩ = (#[.int .i64 c.t, .int .i64 c.wd, .int .i64 c.s, .int .i64 c.g, .int .i64 c.r, .int .i64 c.cp, .int .i64 c.f, .slice ma mem.length mc, .slice ja jobs.length jc] : Array Value)[i]? := ((HSb2.out).below HBx.out (HSb2.out).lt).cell
        subst hpa
        have HNk : Hid (worksB jobs (pickAt ps k).thread = true → AN.length ≠ 0) := HNe.out k hkl
        obtain ⟨th, hth⟩ : ∃ th, th = (pickAt ps k).thread := ⟨_, rfl⟩
        rw [← hth] at hq0 HNk
        have HWK : Hid (∀ wx, Below wr.heap.size wr wx → Calls Tryz.prog 35 #[.agg #[.int .i64 c.t, .int .i64 c.wd, .int .i64 c.s, .int .i64 c.g, .int .i64 c.r, .int .i64 c.cp, .int .i64 c.f, .slice ma mem.length mc, .slice ja jobs.length jc], .int .i64 th] wx fun e w' => e = .returned (.bool (worksB jobs th)) ∧ Below wx.heap.size wx w') := fun wx hb => works_any c mem jobs th ma ja mem.length mc jc wx HJ8.out ((((HJ2.out).up HBx.out).mono hszx).up2 hb)
        clear hpc0 hth
        go_wp2_with fail
        go_cut [10] (fun t wx => t = .bool (worksB jobs th) ∧ Hid (Below wr.heap.size wr wx))
        case first =>
          go_region_with (go_at_call 35; refine (HWK.out _ (by first | exact Below.refl _ _ | exact below_drew wr)).mono ?_; rintro e w4 ⟨rfl, hb4⟩)
          all_goals
            go_wp2
            go_meet
            case rel => exact ⟨rfl, by first | assumption | exact of_drew (by assumption)⟩
        case rest =>
          obtain ⟨rfl, HBc⟩ := hcut
          clear hq0 hsx HWK
          cases hwj : worksB jobs th with
          | false =>
            clear HNk
            go_wp2_with fail
            go_roundg (gk - 1)
            case rel => exact ⟨k + 1, by simp, by omega, by omega, (HBx.out).trans ((HBc.out).mono hszx)⟩
            case measure => omega
          | true =>
            have hn0 := HNk.out hwj
            have hnb : ((AN.length : Int) == 0) = false := by rw [beq_eq_false_iff_ne]; omega
            go_wp2_with fail
            go_roundg (gk - 1)
            case rel => exact ⟨k + 1, by simp, by omega, by omega, (HBx.out).trans ((HBc.out).mono hszx)⟩
            case measure => omega
      · have hke : ¬ (k : Int) < (ps.length : Int) := by omega
        have HF : Hid (AN.map (·.1) = L ∧ AttsRow wr w.heap.size la lc AN ∧ NotesOf wr AN ∧ Below w.heap.size w wr) := ⟨(HA2.out).1.trans HL.out, ownsRow_below (HA2.out).2.1 HBx.out, ((HA2.out).2.2).below HBx.out, (HB2.out).trans ((HBx.out).mono (HB2.out).size)⟩
        clear HA2 HL HBx HB2 HNe HP2 HJ2 HSb2
        go_wp2_with fail
        exact bodyPost_ret (v := .tuple #[.slice la AN.length lc, .int .i64 2]) (by simp [results, Tryz.results24, go_sem]) rfl ⟨la, lc, AN, (HF.out).1, by rw [HWe.out], (HF.out).2⟩
  · have hA : AN = [] := by
      have h2 := (HA2.out).1
      rw [show histA c mem jobs ps = [] from if_neg (by rw [HER.out]; exact he)] at h2
      exact List.map_eq_nil_iff.1 h2
    have HLe : Hid (L = []) := (HL.out).symm.trans (if_neg (by rw [HER.out]; exact he))
    have HWe : Hid (HW = 1) := (HHW.out).symm.trans (if_neg (by rw [HER.out]; exact he))
    have hAn : answeredN ER ER ((AN.length : Int) == 0) = 1 := by unfold answeredN; rw [if_neg (by simp), if_neg he, hA]; rfl
    rw [hAn]
    clear hA hAn he HL HER HHW HA2
    go_wp2_with fail
    exact bodyPost_ret (v := .tuple #[.slice none 0 0, .int .i64 1]) (by simp [results, Tryz.results24, go_sem]) rfl ⟨none, 0, [], by rw [HLe.out]; rfl, by rw [HWe.out]; rfl, World.ownsRow_nil _ _ _ _, fun q hq => absurd hq (by simp), HB2.out⟩

end Go.Proofs.YtejadojilncbjaaGreat

namespace Go.Proofs.YtejadojilncbjaaGreat
open Go.RowKit
set_option linter.unusedVariables false
attribute [local go_sem ↓] Go.wp_at_zero Go.wp_at_succ

/-- Results in memory. -/
def ResIn (w : World) (B : Nat) (a : Option Addr) (l : List ResD) : Prop :=
  ∀ k, k < l.length → ∃ b, a = some ⟨b, 0, none⟩ ∧ b < B ∧ w.cell? ⟨b, k * 5, none⟩ = some (.int .i64 (l.getD k noRes).fate) ∧ w.cell? ⟨b, k * 5 + 1, none⟩ = some (.int .i64 (l.getD k noRes).r0) ∧ w.cell? ⟨b, k * 5 + 2, none⟩ = some (.int .i64 (l.getD k noRes).r1) ∧ w.cell? ⟨b, k * 5 + 3, none⟩ = some (.int .i64 (l.getD k noRes).r2) ∧ w.cell? ⟨b, k * 5 + 4, none⟩ = some (.int .i64 (l.getD k noRes).r3)

theorem ResIn.up {w w' : World} {a : Option Addr} {l : List ResD} (h : ResIn w w.heap.size a l) (hb : Below w.heap.size w w') : ResIn w' w'.heap.size a l := fun k hk => by
  obtain ⟨b, ha, hB, h0, h1, h2, h3, h4⟩ := h k hk
  have e := hb.block b hB
  have := hb.size
  exact ⟨b, ha, by omega, (World.cell?_of_block e).trans h0, (World.cell?_of_block e).trans h1, (World.cell?_of_block e).trans h2, (World.cell?_of_block e).trans h3, (World.cell?_of_block e).trans h4⟩

end Go.Proofs.YtejadojilncbjaaGreat

namespace Go.Proofs.YtejadojilncbjaaGreat
open Go.RowKit
set_option linter.unusedVariables false
attribute [local go_sem ↓] Go.wp_at_zero Go.wp_at_succ

theorem fst_at {AN : List (AttD × Value)} {k : Nat} {x : AttD × Value} (h : AN[k]? = some x) : (AN.map (·.1))[k]? = some x.1 := by rw [List.getElem?_map, h]; rfl

end Go.Proofs.YtejadojilncbjaaGreat
