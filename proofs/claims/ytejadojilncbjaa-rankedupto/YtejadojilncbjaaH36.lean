import Derived.Test.YtejadojilncbjaaH35
import Derived.Test.YtejadojilncbjaaH24
import Derived.Test.YtejadojilncbjaaH22
import Derived.Test.YtejadojilncbjaaRows
import Derived.ShutString
import Derived.ChangeOld
import Derived.JoinedCond
namespace Go.Proofs.Ytejadojilncbjaa
open Go.RowKit
set_option linter.unusedVariables false
attribute [local go_sem ↓] Go.wp_at_zero Go.wp_at_succ

/-- What the keepers' asked tells: the accesses, how it was answered. -/
def AskedIs (w : World) (l : List AccD) (how : Int) (e : Ending) (w' : World) : Prop :=
  ∃ (la : Option Addr) (lc : Nat), e = .returned (.tuple #[.slice la l.length lc, .int .i64 how]) ∧ LogIn w' w'.heap.size la l ∧ Below w.heap.size w w'
def howN (c : Cfg) (mem : List Int) (jobs : List (Int × List InsD)) : Int := if errS c mem jobs = 0 then 2 else 1

set_option maxRecDepth 100000 in
set_option maxHeartbeats 8000000 in
theorem asked_any (G : PlayGood) (c : Cfg) (mem : List Int) (jobs : List (Int × List InsD)) (ps : List PickD) (ma ja pa : Option Addr) (mc jc pc : Nat) (w : World) (hps : ps.length ≤ 2 ^ 21) (hml : mem.length ≤ maxLen) (hjl : jobs.length ≤ maxLen)
    (hm : Ints w w.heap.size ma mem) (hj : JobsRep w w.heap.size ja jobs) (hp : PicksIn w w.heap.size pa ps) :
    Calls Try.prog 15 #[.agg #[.int .i64 c.t, .int .i64 c.wd, .int .i64 c.s, .int .i64 c.g, .int .i64 c.r, .int .i64 c.cp, .int .i64 c.f, .slice ma mem.length mc, .slice ja jobs.length jc], .slice pa ps.length pc] w (AskedIs w (playA c mem jobs ps) (howN c mem jobs)) := by
  have HM : Hid (Ints w w.heap.size ma mem) := hm
  have HJ : Hid (JobsRep w w.heap.size ja jobs) := hj
  have HP : Hid (PicksIn w w.heap.size pa ps) := hp
  have HG : Hid PlayGood := G
  have HN : Hid (ps.length ≤ 2 ^ 21) := hps
  have hps' : ps.length ≤ 2097152 := hps
  obtain ⟨L, HL⟩ : ∃ L, Hid (playA c mem jobs ps = L) := ⟨_, rfl⟩
  obtain ⟨ER, HER⟩ : ∃ ER, Hid (errS c mem jobs = ER) := ⟨_, rfl⟩
  obtain ⟨HW, HHW⟩ : ∃ HW, Hid (howN c mem jobs = HW) := ⟨_, rfl⟩
  rw [show playA c mem jobs ps = L from HL.out, show howN c mem jobs = HW from HHW.out]
  clear hm hj hp G hps
  go_enter Try.func15, Try.ntmps15
  go_wp2_with fail
  obtain ⟨w0, hw0⟩ : ∃ w0, w0 = w.alloc (.cells #[.int .i64 c.t, .int .i64 c.wd, .int .i64 c.s, .int .i64 c.g, .int .i64 c.r, .int .i64 c.cp, .int .i64 c.f, .slice ma mem.length mc, .slice ja jobs.length jc] 27) := ⟨_, rfl⟩
  have hB0 : Below w.heap.size w w0 := by rw [hw0]; exact (Below.refl w.heap.size w).alloc (Nat.le_refl _) _
  have hSb : Blk w0 w.heap.size 27 #[.int .i64 c.t, .int .i64 c.wd, .int .i64 c.s, .int .i64 c.g, .int .i64 c.r, .int .i64 c.cp, .int .i64 c.f, .slice ma mem.length mc, .slice ja jobs.length jc] := by rw [hw0]; exact Blk.new w 27 _
  rw [← hw0]
  clear hw0
  refine (HG.out c mem jobs ps ma ja pa mc jc pc w0 HN.out hml hjl ((HM.out).up hB0) ((HJ.out).up2 hB0) ((HP.out).up2 hB0)).mono ?_
  rintro e w1 ⟨la, lc, rfl, hl1, hb1⟩
  rw [show playA c mem jobs ps = L from HL.out] at hl1
  rw [show playA c mem jobs ps = L from HL.out, show errS c mem jobs = ER from HER.out]
  have hB1 : Below w.heap.size w w1 := hB0.trans (hb1.mono hB0.size)
  have HSb1 : Hid (Blk w1 w.heap.size 27 #[.int .i64 c.t, .int .i64 c.wd, .int .i64 c.s, .int .i64 c.g, .int .i64 c.r, .int .i64 c.cp, .int .i64 c.f, .slice ma mem.length mc, .slice ja jobs.length jc]) := hSb.below hb1 hSb.lt
  have hsc := (HSb1.out).cell
  have HB1 : Hid (Below w.heap.size w w1) := hB1
  have HL1 : Hid (LogIn w1 w1.heap.size la L) := hl1
  have HM1 : Hid (Ints w1 w1.heap.size ma mem) := (HM.out).up hB1
  have HJ1 : Hid (JobsRep w1 w1.heap.size ja jobs) := (HJ.out).up2 hB1
  have HP1 : Hid (PicksIn w1 w1.heap.size pa ps) := (HP.out).up2 hB1
  clear hB0 hSb hl1 hb1 hB1 HM HJ HP HG
  go_wp2_with fail
  refine (answered_any c mem jobs ER _ ma ja mc jc w1 hml hjl HM1.out HJ1.out).mono ?_
  rintro e w2 ⟨rfl, hb2⟩
  rw [show errS c mem jobs = ER from HER.out]
  have HB2 : Hid (Below w.heap.size w w2) := (HB1.out).trans (hb2.mono (HB1.out).size)
  have HSb2 : Hid (Blk w2 w.heap.size 27 #[.int .i64 c.t, .int .i64 c.wd, .int .i64 c.s, .int .i64 c.g, .int .i64 c.r, .int .i64 c.cp, .int .i64 c.f, .slice ma mem.length mc, .slice ja jobs.length jc]) := (HSb1.out).below hb2 (HSb1.out).lt
  have HL2 : Hid (LogIn w2 w2.heap.size la L) := (HL1.out).up hb2
  have HJ2 : Hid (JobsRep w2 w2.heap.size ja jobs) := (HJ1.out).up2 hb2
  have HP2 : Hid (PicksIn w2 w2.heap.size pa ps) := (HP1.out).up2 hb2
  clear hb2 hsc HSb1 HL1 HM1 HJ1 HP1 HB1
  by_cases he : ER = 0
  · have hLa : L = accs c mem jobs ps := (HL.out).symm.trans (if_pos ((HER.out).trans he))
    have hSo := errS_ok ((HER.out).trans he)
    have hLl : L.length = ps.length := by rw [hLa]; exact gLog_len c mem jobs ps ps.length
    have HLl : Hid (L.length = ps.length) := hLl
    have HWe : Hid (HW = 2) := (HHW.out).symm.trans (if_pos ((HER.out).trans he))
    have hAn : answeredN ER ER ((L.length : Int) == 0) = 2 := by unfold answeredN; rw [if_neg (by simp), if_pos he]
    rw [hAn]
    obtain ⟨LN, hLN⟩ : ∃ LN, LN = L.length := ⟨_, rfl⟩
    have HLN : Hid (LN = L.length) := hLN
    have hLNp : LN = ps.length := hLN.trans hLl
    rw [← hLN]
    subst hLNp
    have HLa : Hid (L = accs c mem jobs ps) := hLa
    have HSo : Hid (SetupOk c mem jobs ∧ ∀ j ∈ jobs, 0 ≤ j.1 ∧ j.1 < c.t) := hSo
    have ht4 : c.t ≤ 4 := (cfgB_true hSo.1.cfg).1.2
    have HJ8 : Hid (jobs.length ≤ 2 ^ 40) := Nat.le_trans hSo.1.j8 (by decide)
    clear hLa hSo hLl hAn he hLN
    go_wp2_with fail
    obtain ⟨w3, hw3⟩ : ∃ w3, w3 = w2.alloc (.cells #[.bool false, .bool false, .bool false, .bool false] 83) := ⟨_, rfl⟩
    obtain ⟨mb, hmb⟩ : ∃ mb, mb = w2.heap.size := ⟨_, rfl⟩
    have hMb : Blk w3 mb 83 (([false, false, false, false].map (Value.bool ·)).toArray) := by rw [hw3, hmb]; exact Blk.new w2 83 _
    have hB23 : Below w2.heap.size w2 w3 := by rw [hw3]; exact (Below.refl _ _).alloc (Nat.le_refl _) _
    have HMb3 : Hid (Blk w3 mb 83 (([false, false, false, false].map (Value.bool ·)).toArray)) := hMb
    have HB23 : Hid (Below w2.heap.size w2 w3) := hB23
    have hmbw : w2.heap.size ≤ mb := by omega
    rw [← hw3, ← hmb]
    clear hw3 hmb hMb hB23
    go_loopg [10] (ps.length + 1) (fun m t10 wr => ∃ (k : Nat) (mt : List Bool), t10 = .int .i64 (k : Int) ∧ k ≤ ps.length ∧ m = ps.length + 1 - k ∧ Hid (Blk wr mb 83 ((mt.map (Value.bool ·)).toArray)) ∧ Hid (MetOk c mem jobs ps k mt) ∧ Hid (Below w2.heap.size w2 wr))
    case atStart => exact ⟨0, _, rfl, by omega, by omega, HMb3, met_start c mem jobs ps, HB23⟩
    case round =>
      obtain ⟨k, mt, rfl, hk, hgk, HMb, HMt, HBx⟩ := hrel
      clear HMb3 HB23
      by_cases hkl : k < ps.length
      · obtain ⟨pb, poff, hpa, hpb, hpc0, _⟩ := HP2.out k hkl
        obtain ⟨lb, loff, hla, hlb, hlc0, hlc1, _, _⟩ := HL2.out k (by rw [show L.length = ps.length from HLl.out]; exact hkl)
        have up : ∀ (b o : Nat), b < w2.heap.size → wr.cell? ⟨b, o, none⟩ = w2.cell? ⟨b, o, none⟩ := fun b o hb => World.cell?_of_block ((HBx.out).block b hb)
        have hq0 := (up pb _ hpb).trans hpc0
        have hk0 : (0 : Int) ≤ (k : Int) := by omega
        have hk1 : (k : Int) < (ps.length : Int) := by omega
        have hwk : IntKind.i64.wrap ((k : Int) + 1) = (k : Int) + 1 := wrapF _ (by omega) (by omega)
        have hsx : ∀ i, wr.cell? ⟨w.heap.size, i, none⟩ = (#[.int .i64 c.t, .int .i64 c.wd, .int .i64 c.s, .int .i64 c.g, .int .i64 c.r, .int .i64 c.cp, .int .i64 c.f, .slice ma mem.length mc, .slice ja jobs.length jc] : Array Value)[i]? := ((HSb2.out).below HBx.out (HSb2.out).lt).cell
        have hszx : w2.heap.size ≤ wr.heap.size := (HBx.out).size
        have HWK : Hid _ := works_any c mem jobs (pickAt ps k).thread ma ja mem.length mc jc wr HJ8.out (((HJ2.out).up HBx.out).mono hszx)
        subst hpa hla
        have HLK : Hid (accAt L k = accAt (accs c mem jobs ps) k) := by rw [HLa.out]; rfl
        have HPt : Hid (pickAt ps k = pickAt ps k) := rfl
        obtain ⟨th, hth⟩ : ∃ th, th = (pickAt ps k).thread := ⟨_, rfl⟩
        have HTH : Hid (th = (pickAt ps k).thread) := hth
        rw [← hth] at hq0 HWK
        clear hpc0 hth HPt up
        go_wp2_with fail
        refine Calls.mono HWK.out ?_
        rintro e w5 ⟨rfl, hb5⟩
        have HB5 : Hid (Below w2.heap.size w2 w5) := (HBx.out).trans (hb5.mono hszx)
        have hlk0 : w5.cell? ⟨lb, loff + k * 4, none⟩ = some (.int .i64 (accAt L k).kind) := (World.cell?_of_block ((HB5.out).block lb hlb)).trans hlc0
        have hlk1 : w5.cell? ⟨lb, loff + k * 4 + 1, none⟩ = some (.int .i64 (accAt L k).cell) := (World.cell?_of_block ((HB5.out).block lb hlb)).trans hlc1
        have HMb5 : Hid (Blk w5 mb 83 ((mt.map (Value.bool ·)).toArray)) := (HMb.out).below hb5 (HMb.out).lt
        clear hb5 HWK hsx hq0 hlc0 hlc1 HMb HBx hszx
        cases hwj : worksB jobs th with
        | false =>
          have hnone : accAt L k = noAcc := (HLK.out).trans (acc_idle hkl (by rw [← show th = _ from HTH.out]; exact hwj))
          have hkk : (accAt L k).kind = 0 := by rw [hnone]; rfl
          have HMt2 : Hid (MetOk c mem jobs ps (k + 1) mt) := met_skip HMt.out (fun i hi hf hw e => by
            rw [← show th = _ from HTH.out] at e
            rw [e, hw] at hwj
            cases hwj)
          rw [hkk] at hlk0
          clear hnone hkk hwj HMt HTH HLK hlk1
          go_wp2
          go_roundg (gk - 1)
          case rel => exact ⟨k + 1, mt, by simp, by omega, by omega, HMb5, HMt2, HB5⟩
          case measure => omega
        | true =>
          obtain ⟨jb, hjb, hje⟩ := works_true hwj
          have hr := (HSo.out).2 jb hjb
          rw [hje] at hr
          obtain ⟨n, hn⟩ : ∃ n : Nat, th = (n : Int) := ⟨th.toNat, by omega⟩
          have hn4 : n < 4 := by omega
          have HTN : Hid ((pickAt ps k).thread = (n : Int)) := (HTH.out).symm.trans hn
          have hmtl := (HMt.out).1
          have hmc : w5.cell? ⟨mb, n, none⟩ = some (.bool (mt.getD n false)) := by
            rw [(HMb5.out).cell]
            simp [List.getD, List.getElem?_eq_getElem (show n < mt.length by omega)]
          have hmf : w5.frozen? ⟨mb, n, none⟩ = false := (HMb5.out).frozen n
          have hn0 : (0 : Int) ≤ (n : Int) := by omega
          have hn4' : (n : Int) < 4 := by omega
          have HWJ : Hid (worksB jobs (n : Int) = true) := by rw [hn] at hwj; exact hwj
          have HRg : Hid (0 ≤ (pickAt ps k).thread ∧ (pickAt ps k).thread < c.t) := by rw [HTN.out, ← hn]; exact hr
          subst hn
          cases hmt : mt.getD n false with
          | true =>
            have HMt2 : Hid (MetOk c mem jobs ps (k + 1) mt) := met_skip HMt.out (fun i hi hf hw e => by
              rw [HTN.out] at e
              have : i = n := by omega
              rw [this, hmt] at hf
              cases hf)
            rw [hmt] at hmc
            clear hwj hjb hje hr hmt HMt HTH HTN HLK hmtl HWJ HRg
            go_wp2
            go_roundg (gk - 1)
            case rel => exact ⟨k + 1, mt, by simp, by omega, by omega, HMb5, HMt2, HB5⟩
            case measure => omega
          | false =>
            have HMt2 : Hid (MetOk c mem jobs ps (k + 1) (mt.set n true)) := met_set HMt.out hn4 HTN.out
            have hfst := acc_first (c := c) (mem := mem) hkl HRg.out (by rw [HTN.out]; exact HWJ.out) (by rw [HTN.out]; exact (HMt.out).2 n hn4 hmt HWJ.out)
            rw [← show accAt L k = _ from HLK.out] at hfst
            rw [hfst.1] at hlk0
            rw [hfst.2] at hlk1
            rw [hmt] at hmc
            have HMbS : Hid (Blk (w5.setCell ⟨mb, n, none⟩ (.bool true)) mb 83 (((mt.set n true).map (Value.bool ·)).toArray)) := ((HMb5.out).set (i := n) (v := .bool true)).congr (by
              rw [List.map_set]
              simp)
            have HBS : Hid (Below w2.heap.size w2 (w5.setCell ⟨mb, n, none⟩ (.bool true))) := below_set HB5.out hmbw
            have hlne : lb ≠ mb := by omega
            clear hwj hjb hje hr hmt HMt HTH HTN HLK hmtl HWJ HRg hfst HMb5 HB5
            go_wp2
            go_roundg (gk - 1)
            case rel => exact ⟨k + 1, mt.set n true, by simp, by omega, by omega, HMbS, HMt2, HBS⟩
            case measure => omega
      · have hk1 : ¬ (k : Int) < (ps.length : Int) := by omega
        have HLx : Hid (LogIn wr wr.heap.size la L) := (HL2.out).up HBx.out
        have HF : Hid (Below w.heap.size w wr) := (HB2.out).trans ((HBx.out).mono (HB2.out).size)
        clear HMb HMt HBx
        go_wp2
        exact bodyPost_ret (v := .tuple #[.slice la ps.length lc, .int .i64 2]) (by simp [results, Try.results15, go_sem]) rfl ⟨la, lc, by rw [HWe.out, HLl.out], HLx.out, HF.out⟩
  · have hLa : L = [] := (HL.out).symm.trans (if_neg (by rw [HER.out]; exact he))
    have HWe : Hid (HW = 1) := (HHW.out).symm.trans (if_neg (by rw [HER.out]; exact he))
    subst hLa
    have hAn : answeredN ER ER ((([] : List AccD).length : Int) == 0) = 1 := by unfold answeredN; rw [if_neg (by simp), if_neg he, if_pos (by simp)]
    rw [hAn]
    clear he hAn
    go_wp2
    exact bodyPost_ret (v := .tuple #[.slice none 0 0, .int .i64 1]) (by simp [results, Try.results15, go_sem]) rfl ⟨none, 0, by rw [HWe.out]; rfl, fun i hi => absurd hi (by simp), HB2.out⟩

end Go.Proofs.Ytejadojilncbjaa

namespace Go.Proofs.Ytejadojilncbjaa
open Go.ChangeShapes Go.WideShapes Go.ChangeAt Go.RowKit Go.Deep
set_option linter.unusedVariables false

theorem ownP : ownKnob Try.prog.godebug = none := by kernel_rfl
theorem laidOutP : laidOutB Try.prog = true := by kernel_rfl
theorem Try.cells58 : Try.prog.cellsOf 58 = 2 := by kernel_rfl

/-- The bulk of what was read bounds the picks. -/
theorem bulk_one {H : Type} (d : DataW H) : 1 ≤ Rows.uptoBulk d := by
  cases d with
  | lit l => cases l <;> simp [Rows.uptoBulk]
  | nil => simp [Rows.uptoBulk]
  | ptr d => simp [Rows.uptoBulk]
  | slice elems spare => simp [Rows.uptoBulk]
  | agg parts => simp [Rows.uptoBulk]
  | iface t d => simp [Rows.uptoBulk]
  | map entries => simp [Rows.uptoBulk]
  | held h => simp [Rows.uptoBulk]
theorem bulk_len {H : Type} : ∀ (l : List (DataW H)), l.length ≤ Rows.uptoBulkAll l
  | [] => by simp [Rows.uptoBulkAll]
  | x :: r => by
    have := bulk_one x
    have := bulk_len r
    simp only [Rows.uptoBulkAll, List.length_cons]
    omega

section
variable {H : Type} {enc : TypeId × Value → H} {w : World} {spare : Nat → Bool} {held : Bool}

/-- Picks opened. -/
theorem picks_open {fuel : Nat} {cs : List Value} {x : DataW H × List MemPlace} (h : DataW.trod enc Try.prog w 0 spare held fuel 41 cs = some x) :
    ∃ a len cap, ∃ ps : List PickD, cs = [.slice a len cap] ∧ ps.length = len ∧ PicksIn w w.heap.size a ps ∧ len ≤ Rows.uptoBulk x.1 := by
  rcases open_slice_pairs Try.underlying41 Try.underlying58 Try.cells58 rfl rfl Try.cells3 Try.cells3 h with ⟨hcs, _⟩ | ⟨x, l, c, m, n, V0, V1, D0, D1, P0, P1, hcs, _, hl, hm, hmm, rfl, hel⟩
  · exact ⟨none, 0, 0, [], hcs, rfl, fun i hi => by simp at hi, Nat.zero_le _⟩
  · have hle : l ≤ m := by rw [hmm]; split <;> omega
    have each : ∀ i, i < l → ∃ q : PickD, w.cell? (x.add (i * 2)) = some (.int .i64 q.thread) ∧ w.cell? (x.add (i * 2 + 1)) = some (.int .i64 q.draw) := by
      intro i hi
      obtain ⟨h0, h1, h2, h3⟩ := hel i (by omega)
      obtain ⟨n0, e0, _, w0⟩ := DataW.trod_int Try.underlying3 h2
      obtain ⟨n1, e1, _, w1⟩ := DataW.trod_int Try.underlying3 h3
      simp at e0 e1
      exact ⟨⟨n0, n1⟩, by rw [h0, e0], by rw [h1, e1]⟩
    have hin : Inhabited PickD := ⟨⟨0, 0⟩⟩
    obtain ⟨q, hq⟩ := choose_lt each
    obtain ⟨b, off, spot⟩ := x
    refine ⟨some ⟨b, off, spot⟩, l, c, (List.range l).map q, hcs, by simp, fun i hi => ?_, ?_⟩
    · have hi' : i < l := by simpa using hi
      obtain ⟨h0, h1⟩ := hq i hi'
      have hspot : spot = none := by simpa [Addr.add] using World.cell?_spot (hq 0 (by omega)).1
      subst hspot
      rw [add_plain] at h0 h1
      have hat : pickAt ((List.range l).map q) i = q i := by simp [pickAt, List.getD, hi']
      rw [hat]
      exact ⟨b, off, rfl, block_lt h0, h0, h1⟩
    · simp only [Rows.uptoBulk]
      have := bulk_len ((List.range l).map fun i => (DataW.agg [D0 i, D1 i] : DataW H))
      simp only [List.length_map, List.length_range] at this
      omega

/-- The jobs opened, with their codes, as a list. -/
theorem jobs_rep {w : World} {ja : Option Addr} {js : List JobD} (hj : JobsIn w w.heap.size ja js) (hc : ∀ j ∈ js, (Lit.int .i64 j.t).wf = true ∧ j.len ≤ maxLen ∧ ∃ is : List InsD, is.length = j.len ∧ CodeIn w w.heap.size j.a is ∧ ∀ i ∈ is, i.wf) :
    ∃ jobs : List (Int × List InsD), jobs.length = js.length ∧ JobsRep w w.heap.size ja jobs := by
  have each : ∀ i, i < js.length → ∃ is : List InsD, is.length = (jobAt js i).len ∧ CodeIn w w.heap.size (jobAt js i).a is := by
    intro i hi
    have hmem : jobAt js i ∈ js := by
      rw [show jobAt js i = js[i] from by simp [jobAt, List.getD, List.getElem?_eq_getElem hi]]
      exact List.getElem_mem hi
    obtain ⟨_, _, is, h1, h2, _⟩ := hc _ hmem
    exact ⟨is, h1, h2⟩
  obtain ⟨q, hq⟩ := choose_lt each
  refine ⟨(List.range js.length).map fun i => ((jobAt js i).t, q i), by simp, js, by simp, hj, fun i hi => ?_⟩
  have e : ((List.range js.length).map fun i => ((jobAt js i).t, q i)).getD i (0, []) = ((jobAt js i).t, q i) := by simp [List.getD, hi]
  rw [e]
  exact ⟨rfl, (hq i hi).1.symm, (hq i hi).2⟩
end

end Go.Proofs.Ytejadojilncbjaa
