import Derived.Test.YtejadojilncbjabGreatK47
import Derived.Test.YtejadojilncbjabGreatK49
import Derived.Test.YtejadojilncbjabGreatK40
import Derived.Test.YtejadojilncbjabGreatK35
import Derived.Test.YtejadojilncbjabGreatK08
import Derived.Test.YtejadojilncbjabGreatRows
import Derived.ShutString
import Derived.ChangeOld
import Derived.JoinedCond
import Derived.Test.YtejadojilncbjabGreatK48
import Derived.Test.YtejadojilncbjabGreatK19
import Derived.Test.YtejadojilncbjabGreatK34
namespace Go.Proofs.YtejadojilncbjabGreat
open Go.RowKit
set_option linter.unusedVariables false
attribute [local go_sem ↓] Go.wp_at_zero Go.wp_at_succ
def KToldIs (w : World) (l : List AttD) (how : Int) (e : Ending) (w' : World) : Prop :=
 ∃ (la : Option Addr) (lc : Nat) (AN : List (AttD × Value)), AN.map (·.1) = l ∧ e = .returned (.tuple #[.slice la AN.length lc, .int .i64 how]) ∧ AttsRow w' w.heap.size la lc AN ∧ NotesOf w' AN ∧ Below w.heap.size w w'
set_option maxRecDepth 100000 in
set_option maxHeartbeats 1000000 in
theorem ktold_any (G : HistoryGood) (c : Cfg) (mem : List Int) (jobs : List (Int × List InsD)) (ps : List PickD) (ma ja pa : Option Addr) (mc jc pc : Nat) (w : World) (hps : ps.length ≤ 2 ^ 21) (hml : mem.length ≤ maxLen) (hjl : jobs.length ≤ maxLen)
  (hm : Ints w w.heap.size ma mem) (hj : JobsRep w w.heap.size ja jobs) (hp : PicksIn w w.heap.size pa ps) :
  Calls Tryz.prog 8 #[.agg #[.int .i64 c.t, .int .i64 c.wd, .int .i64 c.s, .int .i64 c.g, .int .i64 c.r, .int .i64 c.cp, .int .i64 c.f, .slice ma mem.length mc, .slice ja jobs.length jc], .slice pa ps.length pc] w (KToldIs w (histA c mem jobs ps) (howN c mem jobs)) := by
 have HM : Hid (Ints w w.heap.size ma mem) := hm
 have HJ : Hid (JobsRep w w.heap.size ja jobs) := hj
 have HP : Hid (PicksIn w w.heap.size pa ps) := hp
 have HG : Hid HistoryGood := G
 have HN : Hid (ps.length ≤ 2 ^ 21) := hps
 have hps' : ps.length ≤ 2097152 := hps
 obtain ⟨ER, HER⟩ : ∃ ER, Hid (errS c mem jobs = ER) := ⟨_, rfl⟩
 obtain ⟨HW, HHW⟩ : ∃ HW, Hid (howN c mem jobs = HW) := ⟨_, rfl⟩
 obtain ⟨L, HL⟩ : ∃ L, Hid (histA c mem jobs ps = L) := ⟨_, rfl⟩
 rw [show histA c mem jobs ps = L from HL.out, show howN c mem jobs = HW from HHW.out]
 clear hm hj hp G hps
 go_enter Tryz.func8, Tryz.ntmps8
 go_wp2_with fail
 obtain ⟨w0, hw0⟩ : ∃ w0, w0 = w.alloc (.cells #[.int .i64 c.t, .int .i64 c.wd, .int .i64 c.s, .int .i64 c.g, .int .i64 c.r, .int .i64 c.cp, .int .i64 c.f, .slice ma mem.length mc, .slice ja jobs.length jc] 27) := ⟨_, rfl⟩
 have hB0 : Below w.heap.size w w0 := by rw [hw0]; exact (Below.refl w.heap.size w).alloc (Nat.le_refl _) _
 have hSb : Blk w0 w.heap.size 27 #[.int .i64 c.t, .int .i64 c.wd, .int .i64 c.s, .int .i64 c.g, .int .i64 c.r, .int .i64 c.cp, .int .i64 c.f, .slice ma mem.length mc, .slice ja jobs.length jc] := by rw [hw0]; exact Blk.new w 27 _
 rw [← hw0]
 clear hw0
 refine (HG.out c mem jobs ps ma ja pa mc jc pc w0 (Nat.le_trans HN.out (by decide)) hml hjl ((HM.out).up hB0) ((HJ.out).up2 hB0) ((HP.out).up2 hB0)).mono ?_
 rintro e w1 ⟨la, lc, AN, hAN, rfl, hl1, hn1, hb1⟩
 rw [show errS c mem jobs = ER from HER.out]
 have hB1 : Below w.heap.size w w1 := hB0.trans (hb1.mono hB0.size)
 have HSb1 : Hid (Blk w1 w.heap.size 27 #[.int .i64 c.t, .int .i64 c.wd, .int .i64 c.s, .int .i64 c.g, .int .i64 c.r, .int .i64 c.cp, .int .i64 c.f, .slice ma mem.length mc, .slice ja jobs.length jc]) := hSb.below hb1 hSb.lt
 have hsc := (HSb1.out).cell
 have HB1 : Hid (Below w.heap.size w w1) := hB1
 have HA1 : Hid (AN.map (·.1) = histA c mem jobs ps ∧ AttsRow w1 w.heap.size la lc AN ∧ NotesOf w1 AN) := ⟨hAN, ownsRow_low hl1 hB0.size, hn1⟩
 have HM1 : Hid (Ints w1 w1.heap.size ma mem) := (HM.out).up hB1
 have HJ1 : Hid (JobsRep w1 w1.heap.size ja jobs) := (HJ.out).up2 hB1
 have HP1 : Hid (PicksIn w1 w1.heap.size pa ps) := (HP.out).up2 hB1
 clear hB0 hSb hl1 hb1 hB1 HM HJ HP hAN hn1 HG
 go_wp2_with fail
 refine (answered_any c mem jobs ER _ ma ja mc jc w1 hml hjl HM1.out HJ1.out).mono ?_
 rintro e w2 ⟨rfl, hb2⟩
 rw [show errS c mem jobs = ER from HER.out]
 have HB2 : Hid (Below w.heap.size w w2) := (HB1.out).trans (hb2.mono (HB1.out).size)
 have HSb2 : Hid (Blk w2 w.heap.size 27 #[.int .i64 c.t, .int .i64 c.wd, .int .i64 c.s, .int .i64 c.g, .int .i64 c.r, .int .i64 c.cp, .int .i64 c.f, .slice ma mem.length mc, .slice ja jobs.length jc]) := (HSb1.out).below hb2 (HSb1.out).lt
 have HA2 : Hid (AN.map (·.1) = histA c mem jobs ps ∧ AttsRow w2 w.heap.size la lc AN ∧ NotesOf w2 AN) := ⟨(HA1.out).1, ownsRow_below (HA1.out).2.1 hb2, ((HA1.out).2.2).below hb2⟩
 have HJ2 : Hid (JobsRep w2 w2.heap.size ja jobs) := (HJ1.out).up2 hb2
 have HP2 : Hid (PicksIn w2 w2.heap.size pa ps) := (HP1.out).up2 hb2
 clear hb2 hsc HSb1 HM1 HJ1 HP1 HB1 HA1
 by_cases he : ER = 0
 ·have HSo : Hid (SetupOk c mem jobs ∧ ∀ j ∈ jobs, 0 ≤ j.1 ∧ j.1 < c.t) := errS_ok ((HER.out).trans he)
  have HWe : Hid (HW = 2) := (HHW.out).symm.trans (if_pos ((HER.out).trans he))
  have hAn : answeredN ER ER ((AN.length : Int) == 0) = 2 := by unfold answeredN; rw [if_neg (by simp), if_pos he]
  have HNe : Hid (∀ k, k < ps.length → worksB jobs (pickAt ps k).thread = true → AN.length ≠ 0) := fun k hk hw e => by
   have h1 := hist_some (R := ⟨c, mem, jobs, ps⟩) ⟨(HSo.out).1.cfg, (HSo.out).1.mw, (HSo.out).1.mb⟩ (HSo.out).2 hk hw
   have h2 := (HA2.out).1
   rw [show histA c mem jobs ps = (⟨c, mem, jobs, ps⟩ : Rn).hist from if_pos ((HER.out).trans he)] at h2
   rw [List.length_eq_zero_iff.1 e] at h2
   exact h1 h2.symm
  have HJ8 : Hid (jobs.length ≤ 2 ^ 40) := Nat.le_trans (HSo.out).1.j8 (by decide)
  rw [hAn]
  clear hAn he
  go_wp2_with fail
  go_loopg [9] (ps.length + 1) (fun m t9 wr => ∃ (k : Nat), t9 = .int .i64 (k : Int) ∧ k ≤ ps.length ∧ m = ps.length + 1 - k ∧ Hid (Below w2.heap.size w2 wr))
  case atStart => exact ⟨0, rfl, by omega, by omega, Below.refl _ _⟩
  case round =>
   obtain ⟨k, rfl, hk, hgk, HBx⟩ := hrel
   by_cases hkl : k < ps.length
   ·obtain ⟨pb, poff, hpa, hpb, hpc0, _⟩ := HP2.out k hkl
    have hq0 := (World.cell?_of_block (a := ⟨pb, poff + k * 2, none⟩) ((HBx.out).block pb hpb)).trans hpc0
    have hk0 : (0 : Int) ≤ (k : Int) := by omega
    have hk1 : (k : Int) < (ps.length : Int) := by omega
    have hwk : IntKind.i64.wrap ((k : Int) + 1) = (k : Int) + 1 := wrapF _ (by omega) (by omega)
    have hszx : w2.heap.size ≤ wr.heap.size := (HBx.out).size
    have hsx : ∀ i, wr.cell? ⟨w.heap.size, i, none⟩ = (#[.int .i64 c.t, .int .i64 c.wd, .int .i64 c.s, .int .i64 c.g, .int .i64 c.r, .int .i64 c.cp, .int .i64 c.f, .slice ma mem.length mc, .slice ja jobs.length jc] : Array Value)[i]? := ((HSb2.out).below HBx.out (HSb2.out).lt).cell
    subst hpa
    have HNk : Hid (worksB jobs (pickAt ps k).thread = true → AN.length ≠ 0) := HNe.out k hkl
    obtain ⟨th, hth⟩ : ∃ th, th = (pickAt ps k).thread := ⟨_, rfl⟩
    rw [← hth] at hq0 HNk
    have HWK : Hid (∀ wx, Below wr.heap.size wr wx → Calls Tryz.prog 31 #[.agg #[.int .i64 c.t, .int .i64 c.wd, .int .i64 c.s, .int .i64 c.g, .int .i64 c.r, .int .i64 c.cp, .int .i64 c.f, .slice ma mem.length mc, .slice ja jobs.length jc], .int .i64 th] wx fun e w' => e = .returned (.bool (worksB jobs th)) ∧ Below wx.heap.size wx w') := fun wx hb => works_any c mem jobs th ma ja mem.length mc jc wx HJ8.out ((((HJ2.out).up HBx.out).mono hszx).up2 hb)
    clear hpc0 hth
    go_wp2_with fail
    go_cut [10] (fun t wx => t = .bool (worksB jobs th) ∧ Hid (Below wr.heap.size wr wx))
    case first =>
     go_region_with (go_at_call 31; refine (HWK.out _ (by first | exact Below.refl _ _ | exact below_drew wr)).mono ?_; rintro e w4 ⟨rfl, hb4⟩)
     all_goals
      go_wp2
      go_meet
      case rel => exact ⟨rfl, by first | assumption | exact of_drew (by assumption)⟩
    case rest =>
     obtain ⟨rfl, HBc⟩ := hcut
     clear hq0 hsx HWK
     cases hwj : worksB jobs th with
     | false =>
      clear HNk
      go_wp2_with fail
      go_roundg (gk - 1)
      case rel => exact ⟨k + 1, by simp, by omega, by omega, (HBx.out).trans ((HBc.out).mono hszx)⟩
      case measure => omega
     | true =>
      have hn0 := HNk.out hwj
      have hnb : ((AN.length : Int) == 0) = false := by rw [beq_eq_false_iff_ne]; omega
      go_wp2_with fail
      go_roundg (gk - 1)
      case rel => exact ⟨k + 1, by simp, by omega, by omega, (HBx.out).trans ((HBc.out).mono hszx)⟩
      case measure => omega
   ·have hke : ¬ (k : Int) < (ps.length : Int) := by omega
    have HF : Hid (AN.map (·.1) = L ∧ AttsRow wr w.heap.size la lc AN ∧ NotesOf wr AN ∧ Below w.heap.size w wr) := ⟨(HA2.out).1.trans HL.out, ownsRow_below (HA2.out).2.1 HBx.out, ((HA2.out).2.2).below HBx.out, (HB2.out).trans ((HBx.out).mono (HB2.out).size)⟩
    clear HA2 HL HBx HB2 HNe HP2 HJ2 HSb2
    go_wp2_with fail
    exact bodyPost_ret (v := .tuple #[.slice la AN.length lc, .int .i64 2]) (by simp [results, Tryz.results8, go_sem]) rfl ⟨la, lc, AN, (HF.out).1, by rw [HWe.out], (HF.out).2⟩
 ·have hA : AN = [] := by
   have h2 := (HA2.out).1
   rw [show histA c mem jobs ps = [] from if_neg (by rw [HER.out]; exact he)] at h2
   exact List.map_eq_nil_iff.1 h2
  have HLe : Hid (L = []) := (HL.out).symm.trans (if_neg (by rw [HER.out]; exact he))
  have HWe : Hid (HW = 1) := (HHW.out).symm.trans (if_neg (by rw [HER.out]; exact he))
  have hAn : answeredN ER ER ((AN.length : Int) == 0) = 1 := by unfold answeredN; rw [if_neg (by simp), if_neg he, hA]; rfl
  rw [hAn]
  clear hA hAn he HL HER HHW HA2
  go_wp2_with fail
  exact bodyPost_ret (v := .tuple #[.slice none 0 0, .int .i64 1]) (by simp [results, Tryz.results8, go_sem]) rfl ⟨none, 0, [], by rw [HLe.out]; rfl, by rw [HWe.out]; rfl, World.ownsRow_nil _ _ _ _, fun q hq => absurd hq (by simp), HB2.out⟩
end Go.Proofs.YtejadojilncbjabGreat
namespace Go.Proofs.YtejadojilncbjabGreat
open Go.ChangeShapes Go.WideShapes Go.ChangeAt Go.RowKit Go.Deep
set_option linter.unusedVariables false
theorem ownP : ownKnob Tryz.prog.godebug = none := by kernel_rfl
theorem laidOutP : laidOutB Tryz.prog = true := by kernel_rfl
theorem Tryz.cells76 : Tryz.prog.cellsOf 76 = 2 := by kernel_rfl
theorem bulk_one {H : Type} (d : DataW H) : 1 ≤ Rows.uptoBulk d := by
 cases d with
 | lit l => cases l <;> simp [Rows.uptoBulk]
 | nil => simp [Rows.uptoBulk]
 | ptr d => simp [Rows.uptoBulk]
 | slice elems spare => simp [Rows.uptoBulk]
 | agg parts => simp [Rows.uptoBulk]
 | iface t d => simp [Rows.uptoBulk]
 | map entries => simp [Rows.uptoBulk]
 | held h => simp [Rows.uptoBulk]
theorem bulk_len {H : Type} : ∀ (l : List (DataW H)), l.length ≤ Rows.uptoBulkAll l
 | [] => by simp [Rows.uptoBulkAll]
 | x :: r => by
  have := bulk_one x
  have := bulk_len r
  simp only [Rows.uptoBulkAll, List.length_cons]
  omega
section
variable {H : Type} {enc : TypeId × Value → H} {w : World} {spare : Nat → Bool} {held : Bool}
theorem picks_open {fuel : Nat} {cs : List Value} {x : DataW H × List MemPlace} (h : DataW.trod enc Tryz.prog w 0 spare held fuel 28 cs = some x) :
  ∃ a len cap, ∃ ps : List PickD, cs = [.slice a len cap] ∧ ps.length = len ∧ PicksIn w w.heap.size a ps ∧ len ≤ Rows.uptoBulk x.1 := by
 rcases open_slice_pairs Tryz.underlying28 Tryz.underlying76 Tryz.cells76 rfl rfl Tryz.cells3 Tryz.cells3 h with ⟨hcs, _⟩ | ⟨x, l, c, m, n, V0, V1, D0, D1, P0, P1, hcs, _, hl, hm, hmm, rfl, hel⟩
 ·exact ⟨none, 0, 0, [], hcs, rfl, fun i hi => by simp at hi, Nat.zero_le _⟩
 ·have hle : l ≤ m := by rw [hmm]; split <;> omega
  have each : ∀ i, i < l → ∃ q : PickD, w.cell? (x.add (i * 2)) = some (.int .i64 q.thread) ∧ w.cell? (x.add (i * 2 + 1)) = some (.int .i64 q.draw) := by
   intro i hi
   obtain ⟨h0, h1, h2, h3⟩ := hel i (by omega)
   obtain ⟨n0, e0, _, w0⟩ := DataW.trod_int Tryz.underlying3 h2
   obtain ⟨n1, e1, _, w1⟩ := DataW.trod_int Tryz.underlying3 h3
   simp at e0 e1
   exact ⟨⟨n0, n1⟩, by rw [h0, e0], by rw [h1, e1]⟩
  have hin : Inhabited PickD := ⟨⟨0, 0⟩⟩
  obtain ⟨q, hq⟩ := choose_lt each
  obtain ⟨b, off, spot⟩ := x
  refine ⟨some ⟨b, off, spot⟩, l, c, (List.range l).map q, hcs, by simp, fun i hi => ?_, ?_⟩
  ·have hi' : i < l := by simpa using hi
   obtain ⟨h0, h1⟩ := hq i hi'
   have hspot : spot = none := by simpa [Addr.add] using World.cell?_spot (hq 0 (by omega)).1
   subst hspot
   rw [add_plain] at h0 h1
   have hat : pickAt ((List.range l).map q) i = q i := by simp [pickAt, List.getD, hi']
   rw [hat]
   exact ⟨b, off, rfl, block_lt h0, h0, h1⟩
  ·simp only [Rows.uptoBulk]
   have := bulk_len ((List.range l).map fun i => (DataW.agg [D0 i, D1 i] : DataW H))
   simp only [List.length_map, List.length_range] at this
   omega
theorem jobs_rep {w : World} {ja : Option Addr} {js : List JobD} (hj : JobsIn w w.heap.size ja js) (hc : ∀ j ∈ js, (Lit.int .i64 j.t).wf = true ∧ j.len ≤ maxLen ∧ ∃ is : List InsD, is.length = j.len ∧ CodeIn w w.heap.size j.a is ∧ ∀ i ∈ is, i.wf) :
  ∃ jobs : List (Int × List InsD), jobs.length = js.length ∧ JobsRep w w.heap.size ja jobs := by
 have each : ∀ i, i < js.length → ∃ is : List InsD, is.length = (jobAt js i).len ∧ CodeIn w w.heap.size (jobAt js i).a is := by
  intro i hi
  have hmem : jobAt js i ∈ js := by
   rw [show jobAt js i = js[i] from by simp [jobAt, List.getD, List.getElem?_eq_getElem hi]]
   exact List.getElem_mem hi
  obtain ⟨_, _, is, h1, h2, _⟩ := hc _ hmem
  exact ⟨is, h1, h2⟩
 obtain ⟨q, hq⟩ := choose_lt each
 refine ⟨(List.range js.length).map fun i => ((jobAt js i).t, q i), by simp, js, by simp, hj, fun i hi => ?_⟩
 have e : ((List.range js.length).map fun i => ((jobAt js i).t, q i)).getD i (0, []) = ((jobAt js i).t, q i) := by simp [List.getD, hi]
 rw [e]
 exact ⟨rfl, (hq i hi).1.symm, (hq i hi).2⟩
end
end Go.Proofs.YtejadojilncbjabGreat
namespace Go.Proofs.YtejadojilncbjabGreat
open Go.RowKit
set_option linter.unusedVariables false
attribute [local go_sem ↓] Go.wp_at_zero Go.wp_at_succ
theorem WS.apart {base p nb cb cap tcap : Nat} {X : List Value} {c : Cfg} {mem : List Int} {jobs : List (Int × List InsD)} {ps : List PickD} {k ab : Nat} {w w' : World} {cs : Array Value} (h : WS base p nb cb cap tcap X c mem jobs ps k w) (hb : Blk w ab 158 cs) (ho : Only ab w w') : WS base p nb cb cap tcap X c mem jobs ps k w' := by
 obtain ⟨q, Ds, R, M⟩ := h
 exact ⟨q, Ds, R.apart hb ho (by decide) (by decide) (by decide) (by decide) (by decide) (by decide) (by decide), M⟩
end Go.Proofs.YtejadojilncbjabGreat
namespace Go.Proofs.YtejadojilncbjabGreat
theorem cellsGood : CellsGood := cellsGood_of (fun S ps hps ma ja pa mc jc pc w hm hj hp => playCells_any S ps hps ma ja pa mc jc pc w hm hj hp)
end Go.Proofs.YtejadojilncbjabGreat
namespace Go.Proofs.YtejadojilncbjabGreat
open Go.RowKit
set_option linter.unusedVariables false
attribute [local go_sem ↓] Go.wp_at_zero Go.wp_at_succ
set_option maxHeartbeats 400000 in
theorem kversion_any (c : Cfg) (n : Int) (a b : Option Addr) (l d m f : Nat) (w : World) (h3 : -70000 ≤ n) (h4 : n ≤ 1125899906842634) :
  Calls Tryz.prog 15 #[.agg #[.int .i64 c.t, .int .i64 c.wd, .int .i64 c.s, .int .i64 c.g, .int .i64 c.r, .int .i64 c.cp, .int .i64 c.f, .slice a l d, .slice b m f], .int .i64 n] w fun e w' =>
   e = .returned (.int .i64 (3 + n)) ∧ Below w.heap.size w w' := by
 have x4 : IntKind.i64.wrap (3 + n) = 3 + n := wrapF _ (by omega) (by omega)
 go_enter Tryz.func15, Tryz.ntmps15
 go_wp2
 go_ret
 exact ⟨by simp, (Below.refl _ _).alloc (Nat.le_refl _) _⟩
end Go.Proofs.YtejadojilncbjabGreat
