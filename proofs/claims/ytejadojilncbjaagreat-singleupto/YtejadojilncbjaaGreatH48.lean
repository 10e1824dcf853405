import Derived.Test.YtejadojilncbjaaGreatH40
import Derived.Test.YtejadojilncbjaaGreatH47
namespace Go.Proofs.YtejadojilncbjaaGreat
open Go.RowKit
set_option linter.unusedVariables false
attribute [local go_sem ↓] Go.wp_at_zero Go.wp_at_succ

theorem setup_rep (c : Cfg) (mem : List Int) (jobs : List (Int × List InsD)) (ma ja : Option Addr) (mc jc : Nat) (w : World) (hml : mem.length ≤ maxLen) (hjl : jobs.length ≤ maxLen) (hm : Ints w w.heap.size ma mem) (hj : JobsRep w w.heap.size ja jobs) :
    Calls Tryz.prog 41 #[.agg #[.int .i64 c.t, .int .i64 c.wd, .int .i64 c.s, .int .i64 c.g, .int .i64 c.r, .int .i64 c.cp, .int .i64 c.f, .slice ma mem.length mc, .slice ja jobs.length jc]] w fun e w' =>
      e = .returned (.int .i64 (errS c mem jobs)) ∧ Below w.heap.size w w' := by
  obtain ⟨js, h1, h2, h3⟩ := hj
  have := setup_core c.t c.wd c.s c.g c.r c.cp c.f ma mem.length mc mem ja jobs.length jc js w rfl hml hm h1 hjl h2
  rw [show (⟨c.t, c.wd, c.s, c.g, c.r, c.cp, c.f⟩ : Cfg) = c from rfl, check_err h1 (fun i hi => ⟨(h3 i hi).1, (h3 i hi).2.1⟩)] at this
  exact this

def AccsGood : Prop := ∀ {c : Cfg} {mem : List Int} {jobs : List (Int × List InsD)} (S : SetupOk c mem jobs) (ps : List PickD) (hps : ps.length ≤ 2 ^ 21) (ma ja pa : Option Addr) (mc jc pc : Nat) (w : World)
    (hm : Ints w w.heap.size ma mem) (hj : JobsRep w w.heap.size ja jobs) (hp : PicksIn w w.heap.size pa ps),
    Calls Tryz.prog 53 #[.agg #[.int .i64 c.t, .int .i64 c.wd, .int .i64 c.s, .int .i64 c.g, .int .i64 c.r, .int .i64 c.cp, .int .i64 c.f, .slice ma mem.length mc, .slice ja jobs.length jc], .slice pa ps.length pc] w (AccIs w (accs c mem jobs ps))
def NumsGood : Prop := ∀ {c : Cfg} {mem : List Int} {jobs : List (Int × List InsD)} (S : SetupOk c mem jobs) (ps : List PickD) (hps : ps.length ≤ 2 ^ 21) (ma ja pa : Option Addr) (mc jc pc : Nat) (w : World)
    (hm : Ints w w.heap.size ma mem) (hj : JobsRep w w.heap.size ja jobs) (hp : PicksIn w w.heap.size pa ps),
    Calls Tryz.prog 54 #[.agg #[.int .i64 c.t, .int .i64 c.wd, .int .i64 c.s, .int .i64 c.g, .int .i64 c.r, .int .i64 c.cp, .int .i64 c.f, .slice ma mem.length mc, .slice ja jobs.length jc], .slice pa ps.length pc] w fun e w' =>
      ∃ (la : Option Addr) (lc : Nat), e = .returned (.slice la (cellsOf c mem jobs ps).length lc) ∧ Ints w' w'.heap.size la (cellsOf c mem jobs ps) ∧ Below w.heap.size w w'

set_option maxRecDepth 100000 in
set_option maxHeartbeats 4000000 in
theorem playGood_of (G : AccsGood) : PlayGood := by
  intro c mem jobs ps ma ja pa mc jc pc w hps hml hjl hm hj hp
  have HG : Hid AccsGood := G
  have HM : Hid (Ints w w.heap.size ma mem) := hm
  have HJ : Hid (JobsRep w w.heap.size ja jobs) := hj
  have HP : Hid (PicksIn w w.heap.size pa ps) := hp
  have HPS : Hid (ps.length ≤ 2 ^ 21) := hps
  obtain ⟨L, HL⟩ : ∃ L, Hid (playA c mem jobs ps = L) := ⟨_, rfl⟩
  obtain ⟨ER, HER⟩ : ∃ ER, Hid (errS c mem jobs = ER) := ⟨_, rfl⟩
  rw [show playA c mem jobs ps = L from HL.out, show errS c mem jobs = ER from HER.out]
  clear hm hj hp hps G
  go_enter Tryz.func28, Tryz.ntmps28
  go_wp2_with fail
  obtain ⟨w0, hw0⟩ : ∃ w0, w0 = w.alloc (.cells #[.int .i64 c.t, .int .i64 c.wd, .int .i64 c.s, .int .i64 c.g, .int .i64 c.r, .int .i64 c.cp, .int .i64 c.f, .slice ma mem.length mc, .slice ja jobs.length jc] 27) := ⟨_, rfl⟩
  have hB0 : Below w.heap.size w w0 := by rw [hw0]; exact (Below.refl w.heap.size w).alloc (Nat.le_refl _) _
  have hSb : Blk w0 w.heap.size 27 #[.int .i64 c.t, .int .i64 c.wd, .int .i64 c.s, .int .i64 c.g, .int .i64 c.r, .int .i64 c.cp, .int .i64 c.f, .slice ma mem.length mc, .slice ja jobs.length jc] := by rw [hw0]; exact Blk.new w 27 _
  have hs0 : w0.heap.size = w.heap.size + 1 := by rw [hw0]; simp
  rw [← hw0]
  clear hw0
  refine (setup_rep c mem jobs ma ja mc jc w0 hml hjl ((HM.out).up hB0) ((HJ.out).up2 hB0)).mono ?_
  rintro e w1 ⟨rfl, hb1⟩
  have hB1 : Below w.heap.size w w1 := hB0.trans (hb1.mono hB0.size)
  have hsc : ∀ i, w1.cell? ⟨w.heap.size, i, none⟩ = (#[.int .i64 c.t, .int .i64 c.wd, .int .i64 c.s, .int .i64 c.g, .int .i64 c.r, .int .i64 c.cp, .int .i64 c.f, .slice ma mem.length mc, .slice ja jobs.length jc] : Array Value)[i]? := (hSb.below hb1 (by omega)).cell
  have HB1 : Hid (Below w.heap.size w w1) := hB1
  have HM1 : Hid (Ints w1 w1.heap.size ma mem) := (HM.out).up hB1
  have HJ1 : Hid (JobsRep w1 w1.heap.size ja jobs) := (HJ.out).up2 hB1
  have HP1 : Hid (PicksIn w1 w1.heap.size pa ps) := (HP.out).up2 hB1
  clear hB0 hSb hs0 hb1 hB1 HM HJ HP
  rw [show errS c mem jobs = ER from HER.out]
  by_cases he : ER = 0
  · have hbn : (ER != 0) = false := by simp [he]
    have HLe : Hid (L = accs c mem jobs ps) := (HL.out).symm.trans (if_pos ((HER.out).trans he))
    have HSo : Hid (SetupOk c mem jobs) := (errS_ok ((HER.out).trans he)).1
    have HE0 : Hid (ER = 0) := he
    clear he HL HER
    go_wp2_with fail
    refine ((HG.out) HSo.out ps HPS.out ma ja pa mc jc pc w1 HM1.out HJ1.out HP1.out).mono ?_
    rintro e w2 ⟨la, lc, rfl, hl2, hb2⟩
    have HL2 : Hid (LogIn w2 w2.heap.size la (accs c mem jobs ps)) := hl2
    have HB2 : Hid (Below w.heap.size w w2) := (HB1.out).trans (hb2.mono (HB1.out).size)
    clear hl2 hb2 hsc hbn
    go_wp2
    exact bodyPost_ret (v := .tuple #[.slice la (accs c mem jobs ps).length lc, .int .i64 0]) (by simp [results, Tryz.results28, go_sem]) rfl ⟨la, lc, by rw [HLe.out, HE0.out], by rw [HLe.out]; exact HL2.out, HB2.out⟩
  · have hbn : (ER != 0) = true := by simp [he]
    have HLe : Hid (L = []) := (HL.out).symm.trans (if_neg (by rw [HER.out]; exact he))
    clear he HL HER hsc
    go_wp2
    exact bodyPost_ret (v := .tuple #[.slice none 0 0, .int .i64 ER]) (by simp [results, Tryz.results28, go_sem]) rfl ⟨none, 0, by rw [HLe.out]; rfl, by rw [HLe.out]; exact fun i hi => absurd hi (by simp), HB1.out⟩

set_option maxRecDepth 100000 in
set_option maxHeartbeats 4000000 in
theorem cellsGood_of (G : NumsGood) : CellsGood := by
  intro c mem jobs ps ma ja pa mc jc pc w hps hml hjl hm hj hp
  have HG : Hid NumsGood := G
  have HM : Hid (Ints w w.heap.size ma mem) := hm
  have HJ : Hid (JobsRep w w.heap.size ja jobs) := hj
  have HP : Hid (PicksIn w w.heap.size pa ps) := hp
  have HPS : Hid (ps.length ≤ 2 ^ 21) := hps
  obtain ⟨L, HL⟩ : ∃ L, Hid (cellsA c mem jobs ps = L) := ⟨_, rfl⟩
  obtain ⟨ER, HER⟩ : ∃ ER, Hid (errS c mem jobs = ER) := ⟨_, rfl⟩
  rw [show cellsA c mem jobs ps = L from HL.out, show errS c mem jobs = ER from HER.out]
  clear hm hj hp hps G
  go_enter Tryz.func31, Tryz.ntmps31
  go_wp2_with fail
  obtain ⟨w0, hw0⟩ : ∃ w0, w0 = w.alloc (.cells #[.int .i64 c.t, .int .i64 c.wd, .int .i64 c.s, .int .i64 c.g, .int .i64 c.r, .int .i64 c.cp, .int .i64 c.f, .slice ma mem.length mc, .slice ja jobs.length jc] 27) := ⟨_, rfl⟩
  have hB0 : Below w.heap.size w w0 := by rw [hw0]; exact (Below.refl w.heap.size w).alloc (Nat.le_refl _) _
  have hSb : Blk w0 w.heap.size 27 #[.int .i64 c.t, .int .i64 c.wd, .int .i64 c.s, .int .i64 c.g, .int .i64 c.r, .int .i64 c.cp, .int .i64 c.f, .slice ma mem.length mc, .slice ja jobs.length jc] := by rw [hw0]; exact Blk.new w 27 _
  have hs0 : w0.heap.size = w.heap.size + 1 := by rw [hw0]; simp
  rw [← hw0]
  clear hw0
  refine (setup_rep c mem jobs ma ja mc jc w0 hml hjl ((HM.out).up hB0) ((HJ.out).up2 hB0)).mono ?_
  rintro e w1 ⟨rfl, hb1⟩
  have hB1 : Below w.heap.size w w1 := hB0.trans (hb1.mono hB0.size)
  have hsc : ∀ i, w1.cell? ⟨w.heap.size, i, none⟩ = (#[.int .i64 c.t, .int .i64 c.wd, .int .i64 c.s, .int .i64 c.g, .int .i64 c.r, .int .i64 c.cp, .int .i64 c.f, .slice ma mem.length mc, .slice ja jobs.length jc] : Array Value)[i]? := (hSb.below hb1 (by omega)).cell
  have HB1 : Hid (Below w.heap.size w w1) := hB1
  have HM1 : Hid (Ints w1 w1.heap.size ma mem) := (HM.out).up hB1
  have HJ1 : Hid (JobsRep w1 w1.heap.size ja jobs) := (HJ.out).up2 hB1
  have HP1 : Hid (PicksIn w1 w1.heap.size pa ps) := (HP.out).up2 hB1
  clear hB0 hSb hs0 hb1 hB1 HM HJ HP
  rw [show errS c mem jobs = ER from HER.out]
  by_cases he : ER = 0
  · have hbn : (ER != 0) = false := by simp [he]
    have HLe : Hid (L = cellsOf c mem jobs ps) := (HL.out).symm.trans (if_pos ((HER.out).trans he))
    have HSo : Hid (SetupOk c mem jobs) := (errS_ok ((HER.out).trans he)).1
    have HE0 : Hid (ER = 0) := he
    clear he HL HER
    go_wp2_with fail
    refine ((HG.out) HSo.out ps HPS.out ma ja pa mc jc pc w1 HM1.out HJ1.out HP1.out).mono ?_
    rintro e w2 ⟨la, lc, rfl, hl2, hb2⟩
    have HL2 : Hid (Ints w2 w2.heap.size la (cellsOf c mem jobs ps)) := hl2
    have HB2 : Hid (Below w.heap.size w w2) := (HB1.out).trans (hb2.mono (HB1.out).size)
    clear hl2 hb2 hsc hbn
    go_wp2
    exact bodyPost_ret (v := .tuple #[.slice la (cellsOf c mem jobs ps).length lc, .int .i64 0]) (by simp [results, Tryz.results31, go_sem]) rfl ⟨la, lc, by rw [HLe.out, HE0.out], by rw [HLe.out]; exact HL2.out, HB2.out⟩
  · have hbn : (ER != 0) = true := by simp [he]
    have HLe : Hid (L = []) := (HL.out).symm.trans (if_neg (by rw [HER.out]; exact he))
    clear he HL HER hsc
    go_wp2
    exact bodyPost_ret (v := .tuple #[.slice none 0 0, .int .i64 ER]) (by simp [results, Tryz.results31, go_sem]) rfl ⟨none, 0, by rw [HLe.out]; rfl, by rw [HLe.out]; exact fun i hi => absurd hi (by simp), HB1.out⟩

end Go.Proofs.YtejadojilncbjaaGreat

namespace Go.Proofs.YtejadojilncbjaaGreat

theorem playGood : PlayGood := playGood_of (fun S ps hps ma ja pa mc jc pc w hm hj hp => playAccesses_any S ps hps ma ja pa mc jc pc w hm hj hp)
theorem cellsGood : CellsGood := cellsGood_of (fun S ps hps ma ja pa mc jc pc w hm hj hp => playCells_any S ps hps ma ja pa mc jc pc w hm hj hp)

end Go.Proofs.YtejadojilncbjaaGreat

namespace Go.Proofs.YtejadojilncbjaaGreat
open Go.RowKit
set_option linter.unusedVariables false
attribute [local go_sem ↓] Go.wp_at_zero Go.wp_at_succ

set_option maxRecDepth 100000 in
set_option maxHeartbeats 8000000 in
theorem accesses_any {c : Cfg} {mem : List Int} {jobs : List (Int × List InsD)} (S : SetupOk c mem jobs) (ps : List PickD) (hps : ps.length ≤ 2 ^ 33) (ma ja pa : Option Addr) (mc jc pc : Nat) (w : World)
    (hm : Ints w w.heap.size ma mem) (hj : JobsRep w w.heap.size ja jobs) (hp : PicksIn w w.heap.size pa ps) :
    Calls Tryz.prog 44 #[.agg #[.int .i64 c.t, .int .i64 c.wd, .int .i64 c.s, .int .i64 c.g, .int .i64 c.r, .int .i64 c.cp, .int .i64 c.f, .slice ma mem.length mc, .slice ja jobs.length jc], .slice pa ps.length pc] w (AccIs w (accs c mem jobs ps)) := by
  have HM : Hid (Ints w w.heap.size ma mem) := hm
  have HJ : Hid (JobsRep w w.heap.size ja jobs) := hj
  have HP : Hid (PicksIn w w.heap.size pa ps) := hp
  have HS : Hid (SetupOk c mem jobs) := S
  obtain ⟨⟨ht1, ht2⟩, _⟩ := cfgB_true S.cfg
  obtain ⟨A, HA⟩ : ∃ A, Hid (accs c mem jobs ps = A) := ⟨_, rfl⟩
  rw [show accs c mem jobs ps = A from HA.out]
  have hps' : ps.length ≤ 8589934592 := hps
  obtain ⟨i4, hi4, hz40, hz41, hz42⟩ := info_parts Tryz.info40
  clear hm hj hp S hps
  go_enter Tryz.func44, Tryz.ntmps44
  go_wp2_with fail
  obtain ⟨w1, hw1⟩ : ∃ w1, w1 = w.alloc (.cells #[.int .i64 c.t, .int .i64 c.wd, .int .i64 c.s, .int .i64 c.g, .int .i64 c.r, .int .i64 c.cp, .int .i64 c.f, .slice ma mem.length mc, .slice ja jobs.length jc] 27) := ⟨_, rfl⟩
  have HB1 : Hid (Below w.heap.size w w1) := by rw [hw1]; exact (Below.refl w.heap.size w).alloc (Nat.le_refl _) _
  have HSb : Hid (Blk w1 w.heap.size 27 #[.int .i64 c.t, .int .i64 c.wd, .int .i64 c.s, .int .i64 c.g, .int .i64 c.r, .int .i64 c.cp, .int .i64 c.f, .slice ma mem.length mc, .slice ja jobs.length jc]) := by rw [hw1]; exact Blk.new w 27 _
  have hs1 : w1.heap.size = w.heap.size + 1 := by rw [hw1]; simp
  rw [← hw1]
  clear hw1
  have HM1 : Hid (Ints w1 w1.heap.size ma mem) := (HM.out).up HB1.out
  have HJ1 : Hid (JobsRep w1 w1.heap.size ja jobs) := ((HJ.out).up HB1.out).mono (by omega)
  have HP1 : Hid (PicksIn w1 w1.heap.size pa ps) := by
    intro i hi
    obtain ⟨b, off, h1, h2, h3, h4⟩ := (HP.out).up HB1.out i hi
    exact ⟨b, off, h1, by omega, h3, h4⟩
  clear HM HJ HP
  go_loopg [5, 6] (ps.length + 1) (fun m t5 t6 wr => ∃ (k : Nat) (la : Option Addr) (lc : Nat), t5 = .slice la k lc ∧ t6 = .int .i64 (k : Int) ∧ k ≤ ps.length ∧ m = ps.length + 1 - k ∧ Hid (wr.ownsRow w1.heap.size 40 4 (.slice la k lc) k ((gLog c mem jobs ps k).flatMap accCells)) ∧ Hid (Below w1.heap.size w1 wr))
  case atStart => exact ⟨0, none, 0, rfl, rfl, by omega, by omega, World.ownsRow_nil _ _ _ _, Below.refl _ _⟩
  case round =>
    obtain ⟨k, la, lc, rfl, rfl, hk, hgk, HR, HB⟩ := hrel
    by_cases hkl : k < ps.length
    · obtain ⟨pb, poff, hpa, hpb, hpc0, hpc1⟩ := HP1.out k hkl
      have hk0 : (0 : Int) ≤ (k : Int) := by omega
      have hk1 : (k : Int) < (ps.length : Int) := by omega
      have hwk : IntKind.i64.wrap ((k : Int) + 1) = (k : Int) + 1 := wrapF _ (by omega) (by omega)
      have hszk : w1.heap.size ≤ wr.heap.size := (HB.out).size
      have hq0 : wr.cell? ⟨pb, poff + k * 2, none⟩ = some (.int .i64 (pickAt ps k).thread) := (World.cell?_of_block ((HB.out).block pb hpb)).trans hpc0
      have hpbl : pb < wr.heap.size := by omega
      have hsbl : w.heap.size < wr.heap.size := by omega
      have hsc : ∀ i, wr.cell? ⟨w.heap.size, i, none⟩ = (#[.int .i64 c.t, .int .i64 c.wd, .int .i64 c.s, .int .i64 c.g, .int .i64 c.r, .int .i64 c.cp, .int .i64 c.f, .slice ma mem.length mc, .slice ja jobs.length jc] : Array Value)[i]? := ((HSb.out).below HB.out (by omega)).cell
      have HG : Hid (∀ a : AccD, a = (gStep c jobs (gAt c mem jobs ps k) ((k : Int) + 1) (pickAt ps k)).2 → (gLog c mem jobs ps (k + 1)).flatMap accCells = (gLog c mem jobs ps k).flatMap accCells ++ [.int .i64 a.kind, .int .i64 a.cell, .int .i64 a.seen, .int .i64 a.put]) := fun a ha => glog_next c mem jobs ps k a ha
      obtain ⟨th, hth⟩ : ∃ th, th = (pickAt ps k).thread := ⟨_, rfl⟩
      rw [← hth] at hq0
      subst hpa
      clear hpc0 hpc1
      have HTH : Hid (th = (pickAt ps k).thread) := hth
      clear hth
      have hBa : Below wr.heap.size wr (wr.alloc (.cells #[.int .i64 0, .int .i64 0, .int .i64 0, .int .i64 0] 40)) := (Below.refl wr.heap.size wr).alloc (Nat.le_refl _) _
      have hBb : Below w1.heap.size w1 (wr.alloc (.cells #[.int .i64 0, .int .i64 0, .int .i64 0, .int .i64 0] 40)) := (HB.out).trans (hBa.mono hszk)
      have HBa : Hid (Below wr.heap.size wr (wr.alloc (.cells #[.int .i64 0, .int .i64 0, .int .i64 0, .int .i64 0] 40))) := hBa
      have HJa : Hid (JobsRep (wr.alloc (.cells #[.int .i64 0, .int .i64 0, .int .i64 0, .int .i64 0] 40)) (wr.alloc (.cells #[.int .i64 0, .int .i64 0, .int .i64 0, .int .i64 0] 40)).heap.size ja jobs) := ((HJ1.out).up hBb).mono hBb.size
      have HPa : Hid (PicksIn (wr.alloc (.cells #[.int .i64 0, .int .i64 0, .int .i64 0, .int .i64 0] 40)) (wr.alloc (.cells #[.int .i64 0, .int .i64 0, .int .i64 0, .int .i64 0] 40)).heap.size (some ⟨pb, poff, none⟩) ps) := by
        intro i hi
        obtain ⟨b, off, g1, g2, g3, g4⟩ := (HP1.out).up hBb i hi
        exact ⟨b, off, g1, Nat.lt_of_lt_of_le g2 hBb.size, g3, g4⟩
      have HLa : Hid (LogIn (wr.alloc (.cells #[.int .i64 0, .int .i64 0, .int .i64 0, .int .i64 0] 40)) (wr.alloc (.cells #[.int .i64 0, .int .i64 0, .int .i64 0, .int .i64 0] 40)).heap.size la (gLog c mem jobs ps k)) := (logIn_row HR.out).up hBa
      have HMa : Hid (Ints (wr.alloc (.cells #[.int .i64 0, .int .i64 0, .int .i64 0, .int .i64 0] 40)) (wr.alloc (.cells #[.int .i64 0, .int .i64 0, .int .i64 0, .int .i64 0] 40)).heap.size ma mem) := (HM1.out).up hBb
      have HSa : Hid (Blk (wr.alloc (.cells #[.int .i64 0, .int .i64 0, .int .i64 0, .int .i64 0] 40)) w.heap.size 27 #[.int .i64 c.t, .int .i64 c.wd, .int .i64 c.s, .int .i64 c.g, .int .i64 c.r, .int .i64 c.cp, .int .i64 c.f, .slice ma mem.length mc, .slice ja jobs.length jc]) := (HSb.out).below hBb (by omega)
      have HAa : Hid (Blk (wr.alloc (.cells #[.int .i64 0, .int .i64 0, .int .i64 0, .int .i64 0] 40)) wr.heap.size 40 #[.int .i64 0, .int .i64 0, .int .i64 0, .int .i64 0]) := Blk.new wr 40 _
      have hsza : (wr.alloc (.cells #[.int .i64 0, .int .i64 0, .int .i64 0, .int .i64 0] 40)).heap.size = wr.heap.size + 1 := by simp
      clear hBa hBb
      by_cases hin : 0 ≤ th ∧ th < c.t
      · obtain ⟨h0, h1⟩ := hin
        have HGs : Hid ((gStep c jobs (gAt c mem jobs ps k) ((k : Int) + 1) (pickAt ps k)).2 = gAcc c jobs (gAt c mem jobs ps k) th) := by
          show _ = _
          unfold gStep
          rw [if_pos (by rw [← show th = _ from HTH.out]; exact ⟨h0, h1⟩), ← show th = _ from HTH.out]
        go_wp2_with fail
        clear hq0 hsc
        refine (told_at HS.out ps hps' k hk th h0 h1 ma ja _ la mc jc pc lc _ HJa.out HPa.out HLa.out).mono ?_
        rintro e w4 ⟨rfl, hN4, hb4⟩
        rw [hsza] at hN4 hb4 ⊢
        have hB4 : Below wr.heap.size wr w4 := (HBa.out).trans (hb4.mono (by omega))
        have hs4 : wr.heap.size + 1 ≤ w4.heap.size := by have := hb4.size; omega
        have HB4 : Hid (Below wr.heap.size wr w4) := hB4
        have HA4 : Hid (Blk w4 wr.heap.size 40 #[.int .i64 0, .int .i64 0, .int .i64 0, .int .i64 0]) := (HAa.out).below hb4 (by omega)
        have hsc4 : ∀ i, w4.cell? ⟨w.heap.size, i, none⟩ = (#[.int .i64 c.t, .int .i64 c.wd, .int .i64 c.s, .int .i64 c.g, .int .i64 c.r, .int .i64 c.cp, .int .i64 c.f, .slice ma mem.length mc, .slice ja jobs.length jc] : Array Value)[i]? := ((HSa.out).below hb4 (by omega)).cell
        have HL4 : Hid (LogIn w4 w4.heap.size la (gLog c mem jobs ps k)) := (HLa.out).up (by rw [hsza]; exact hb4)
        have HM4 : Hid (Ints w4 w4.heap.size ma mem) := (HMa.out).up (by rw [hsza]; exact hb4)
        obtain ⟨q, hq⟩ : ∃ q, q = hOut (cxOf c jobs th) ((gAt c mem jobs ps k).th th) := ⟨_, rfl⟩
        rw [← hq] at hN4
        obtain ⟨ac, hac⟩ : ∃ ac, ac = gAcc c jobs (gAt c mem jobs ps k) th := ⟨_, rfl⟩
        have HMK : Hid (∀ wx : World, Ints wx wx.heap.size ma mem → LogIn wx wx.heap.size la (gLog c mem jobs ps k) → Calls Tryz.prog 64 #[.agg #[.int .i64 c.t, .int .i64 c.wd, .int .i64 c.s, .int .i64 c.g, .int .i64 c.r, .int .i64 c.cp, .int .i64 c.f, .slice ma mem.length mc, .slice ja jobs.length jc], .slice la k lc, .agg #[.int .i64 q.kind, .int .i64 q.cell, .int .i64 q.frm, .int .i64 q.to]] wx (fun e w' => e = .returned (.agg #[.int .i64 ac.kind, .int .i64 ac.cell, .int .i64 ac.seen, .int .i64 ac.put]) ∧ Below wx.heap.size wx w')) := fun wx g1 g2 => by
          rw [hac]
          exact made_at HS.out ps hps' k hk th h0 h1 ma ja la mc jobs.length jc lc wx g1 g2 q hq
        have HGn : Hid ((gLog c mem jobs ps (k + 1)).flatMap accCells = (gLog c mem jobs ps k).flatMap accCells ++ [.int .i64 ac.kind, .int .i64 ac.cell, .int .i64 ac.seen, .int .i64 ac.put]) := HG.out ac (hac.trans (HGs.out).symm)
        obtain ⟨h15, h16, h17, h18⟩ := hN4
        have hplt : wr.heap.size + 1 + 2 < w4.heap.size := block_lt h15
        have hpne : wr.heap.size + 1 + 2 ≠ wr.heap.size := by omega
        generalize wr.heap.size + 1 + 2 = p at *
        clear HG HGs hq hac HTH hb4 HJa HPa HLa HMa HSa HAa HBa hsza
        go_wp2_with fail
        go_cut [] (fun wx => Hid (Blk wx wr.heap.size 40 #[.int .i64 ac.kind, .int .i64 ac.cell, .int .i64 ac.seen, .int .i64 ac.put]) ∧ Hid (Below wr.heap.size wr wx))
        case first =>
          have HS0 : Hid ((∀ i, w4.drew.cell? ⟨w.heap.size, i, none⟩ = (#[.int .i64 c.t, .int .i64 c.wd, .int .i64 c.s, .int .i64 c.g, .int .i64 c.r, .int .i64 c.cp, .int .i64 c.f, .slice ma mem.length mc, .slice ja jobs.length jc] : Array Value)[i]?) ∧ w4.drew.cell? ⟨p, 15, none⟩ = some (.int .i64 q.kind) ∧ w4.drew.cell? ⟨p, 16, none⟩ = some (.int .i64 q.cell) ∧ w4.drew.cell? ⟨p, 17, none⟩ = some (.int .i64 q.frm) ∧ w4.drew.cell? ⟨p, 18, none⟩ = some (.int .i64 q.to)) := ⟨hsc4, h15, h16, h17, h18⟩
          have HHS : Hid (∀ wx : World, Below w4.heap.size w4 wx → ((∀ i, wx.cell? ⟨w.heap.size, i, none⟩ = (#[.int .i64 c.t, .int .i64 c.wd, .int .i64 c.s, .int .i64 c.g, .int .i64 c.r, .int .i64 c.cp, .int .i64 c.f, .slice ma mem.length mc, .slice ja jobs.length jc] : Array Value)[i]?) ∧ wx.cell? ⟨p, 15, none⟩ = some (.int .i64 q.kind) ∧ wx.cell? ⟨p, 16, none⟩ = some (.int .i64 q.cell) ∧ wx.cell? ⟨p, 17, none⟩ = some (.int .i64 q.frm) ∧ wx.cell? ⟨p, 18, none⟩ = some (.int .i64 q.to))) := fun wx hb => ⟨fun i => (World.cell?_of_block (hb.block _ (by show w.heap.size < _; omega))).trans (hsc4 i), (World.cell?_of_block (hb.block p hplt)).trans h15, (World.cell?_of_block (hb.block p hplt)).trans h16, (World.cell?_of_block (hb.block p hplt)).trans h17, (World.cell?_of_block (hb.block p hplt)).trans h18⟩
          have HSO : Hid (∀ wx wy : World, w4.heap.size ≤ wy.heap.size → Only wr.heap.size wy wx → ((∀ i, wy.cell? ⟨w.heap.size, i, none⟩ = (#[.int .i64 c.t, .int .i64 c.wd, .int .i64 c.s, .int .i64 c.g, .int .i64 c.r, .int .i64 c.cp, .int .i64 c.f, .slice ma mem.length mc, .slice ja jobs.length jc] : Array Value)[i]?) ∧ wy.cell? ⟨p, 15, none⟩ = some (.int .i64 q.kind) ∧ wy.cell? ⟨p, 16, none⟩ = some (.int .i64 q.cell) ∧ wy.cell? ⟨p, 17, none⟩ = some (.int .i64 q.frm) ∧ wy.cell? ⟨p, 18, none⟩ = some (.int .i64 q.to)) → ((∀ i, wx.cell? ⟨w.heap.size, i, none⟩ = (#[.int .i64 c.t, .int .i64 c.wd, .int .i64 c.s, .int .i64 c.g, .int .i64 c.r, .int .i64 c.cp, .int .i64 c.f, .slice ma mem.length mc, .slice ja jobs.length jc] : Array Value)[i]?) ∧ wx.cell? ⟨p, 15, none⟩ = some (.int .i64 q.kind) ∧ wx.cell? ⟨p, 16, none⟩ = some (.int .i64 q.cell) ∧ wx.cell? ⟨p, 17, none⟩ = some (.int .i64 q.frm) ∧ wx.cell? ⟨p, 18, none⟩ = some (.int .i64 q.to))) := fun wx wy hs ho h => ⟨fun i => (World.cell?_of_block (ho.block w.heap.size (by omega) (by omega))).trans (h.1 i), (World.cell?_of_block (ho.block p (by omega) (by omega))).trans h.2.1, (World.cell?_of_block (ho.block p (by omega) (by omega))).trans h.2.2.1, (World.cell?_of_block (ho.block p (by omega) (by omega))).trans h.2.2.2.1, (World.cell?_of_block (ho.block p (by omega) (by omega))).trans h.2.2.2.2⟩
          have HM0 : Hid (Ints w4.drew w4.drew.heap.size ma mem) := HM4
          have HL0 : Hid (LogIn w4.drew w4.drew.heap.size la (gLog c mem jobs ps k)) := HL4
          clear hsc4 h15 h16 h17 h18 HR HGn HA HP1 HJ1 HM1 HM4 HL4
          go_region_held3 (fun w' => (∀ i, w'.cell? ⟨w.heap.size, i, none⟩ = (#[.int .i64 c.t, .int .i64 c.wd, .int .i64 c.s, .int .i64 c.g, .int .i64 c.r, .int .i64 c.cp, .int .i64 c.f, .slice ma mem.length mc, .slice ja jobs.length jc] : Array Value)[i]?) ∧ w'.cell? ⟨p, 15, none⟩ = some (.int .i64 q.kind) ∧ w'.cell? ⟨p, 16, none⟩ = some (.int .i64 q.cell) ∧ w'.cell? ⟨p, 17, none⟩ = some (.int .i64 q.frm) ∧ w'.cell? ⟨p, 18, none⟩ = some (.int .i64 q.to))
            (first | exact HS1.out | exact HS0.out | exact HST.out _ ((((Only.refl _ _).set).set).set).set)
            (first | (go_at_call 64; refine (HMK.out _ HM0.out HL0.out).mono ?_; rintro e w5 ⟨rfl, hb5⟩; have HB5 : Hid (Below wr.heap.size wr w5) := (HB4.out).trans ((Below.refl _ _).drew.trans (hb5.mono (HB4.out).size)); have HA5 : Hid (Blk w5 wr.heap.size 40 #[.int .i64 0, .int .i64 0, .int .i64 0, .int .i64 0]) := (HA4.out).below ((Below.refl w4.heap.size w4).drew.trans hb5) (HA4.out).lt; have HS1 : Hid ((∀ i, w5.cell? ⟨w.heap.size, i, none⟩ = (#[.int .i64 c.t, .int .i64 c.wd, .int .i64 c.s, .int .i64 c.g, .int .i64 c.r, .int .i64 c.cp, .int .i64 c.f, .slice ma mem.length mc, .slice ja jobs.length jc] : Array Value)[i]?) ∧ w5.cell? ⟨p, 15, none⟩ = some (.int .i64 q.kind) ∧ w5.cell? ⟨p, 16, none⟩ = some (.int .i64 q.cell) ∧ w5.cell? ⟨p, 17, none⟩ = some (.int .i64 q.frm) ∧ w5.cell? ⟨p, 18, none⟩ = some (.int .i64 q.to)) := HHS.out _ ((Below.refl w4.heap.size w4).drew.trans hb5); have h5s : w4.heap.size ≤ w5.heap.size := hb5.size; clear hb5; have HST : Hid (∀ wx : World, Only wr.heap.size w5 wx → ((∀ i, wx.cell? ⟨w.heap.size, i, none⟩ = (#[.int .i64 c.t, .int .i64 c.wd, .int .i64 c.s, .int .i64 c.g, .int .i64 c.r, .int .i64 c.cp, .int .i64 c.f, .slice ma mem.length mc, .slice ja jobs.length jc] : Array Value)[i]?) ∧ wx.cell? ⟨p, 15, none⟩ = some (.int .i64 q.kind) ∧ wx.cell? ⟨p, 16, none⟩ = some (.int .i64 q.cell) ∧ wx.cell? ⟨p, 17, none⟩ = some (.int .i64 q.frm) ∧ wx.cell? ⟨p, 18, none⟩ = some (.int .i64 q.to))) := (fun wx ho => HSO.out wx w5 h5s ho HS1.out); have hzc := (HA5.out).cell; have hzf := (HA5.out).frozen))
          all_goals
            go_wp2
            go_meet
            case rel => exact ⟨((((HA5.out).set).set).set).set.congr (by simp), below_set (below_set (below_set (below_set HB5.out (Nat.le_refl _)) (Nat.le_refl _)) (Nat.le_refl _)) (Nat.le_refl _)⟩
        case rest =>
          obtain ⟨HAx, HBx⟩ := hcut
          have hax := (HAx.out).cell
          have hszx : w1.heap.size ≤ wc.heap.size := Nat.le_trans hszk (HBx.out).size
          have HRx : Hid (wc.ownsRow w1.heap.size 40 4 (.slice la k lc) k ((gLog c mem jobs ps k).flatMap accCells)) := ownsRow_keep HR.out (Kp.below (chg := []) (p := w1.heap.size) (eb := w1.heap.size) HBx.out hszk) (by simp)
          have HBz : Hid (Below w1.heap.size w1 wc) := (HB.out).trans ((HBx.out).mono hszk)
          clear HR HBx HMK hsc4 h15 h16 h17 h18 HB4 HA4 HL4 HM4 HB
          generalize (gLog c mem jobs ps k).flatMap accCells = LG at *
          go_wp2_with
            (at_builtin;
             refine wpList_append_lies _ (by rfl) _ _ _ (by rfl) w1.heap.size 40 i4 _ 4 32 Tryz.underlying31 hi4 hz40 hz41 hz42 rfl (by omega) (.slice la k lc) k LG (by rfl) ((HRx.out).alloc _)
               ⟨wc.heap.size, 0, none⟩ 1 1 [.int .i64 ac.kind, .int .i64 ac.cell, .int .i64 ac.seen, .int .i64 ac.put] (by rfl) (by rfl) (World.news_of_block (cs := #[.int .i64 ac.kind, .int .i64 ac.cell, .int .i64 ac.seen, .int .i64 ac.put]) (t := 40) (fr := (0, 0)) (heap_alloc_new wc _)) (by simp [Value.oneCell'])
               (by omega) (by unfold maxLen; omega) (by omega) (by simp; omega) (wc.heap.size + 1) (by simp) ?_;
             intro gg cap wz hown1 hgrow hat hlt;
             have HKz : Hid (Kp [40] w1.heap.size w1.heap.size w1.heap.size wc wz) := ((Kp.below ((Below.refl _ _).alloc (Nat.le_refl _) _) hszx).trans (Kp.grown hgrow (by simp; omega) ((HRx.out).alloc _) (by simp)));
             have HRz : Hid (wz.ownsRow w1.heap.size 40 4 (.slice (some ⟨gg, 0, none⟩) (k + 1) cap) (k + 1) (LG ++ [.int .i64 ac.kind, .int .i64 ac.cell, .int .i64 ac.seen, .int .i64 ac.put])) := hown1;
             clear hown1 hgrow hat hlt)
          go_roundg (gk - 1)
          case rel =>
            refine ⟨k + 1, _, _, rfl, by simp, by omega, by omega, by rw [HGn.out]; exact HRz, ?_⟩
            have hk := HKz.out
            have h := HBz.out
            exact ⟨hk.os.trans h.os, hk.tape.trans h.tape, hk.output.trans h.output, Nat.le_trans h.size hk.size, fun b hb => (hk.low b hb (by omega) (by omega)).trans (h.block b hb)⟩
          case measure => omega
      · have hin1 : ¬ (0 ≤ th) ∨ (0 ≤ th ∧ ¬ (th < c.t)) := by omega
        have HGn : Hid ((gLog c mem jobs ps (k + 1)).flatMap accCells = (gLog c mem jobs ps k).flatMap accCells ++ [.int .i64 0, .int .i64 0, .int .i64 0, .int .i64 0]) := HG.out noAcc (by
          unfold gStep
          rw [if_neg (by rw [← show th = _ from HTH.out]; exact hin)])
        have HRx : Hid ((wr.alloc (.cells #[.int .i64 0, .int .i64 0, .int .i64 0, .int .i64 0] 40)).ownsRow w1.heap.size 40 4 (.slice la k lc) k ((gLog c mem jobs ps k).flatMap accCells)) := (HR.out).alloc _
        have HBz : Hid (Below w1.heap.size w1 (wr.alloc (.cells #[.int .i64 0, .int .i64 0, .int .i64 0, .int .i64 0] 40))) := (HB.out).trans ((HBa.out).mono hszk)
        have HSy : Hid (∀ i, (wr.alloc (.cells #[.int .i64 0, .int .i64 0, .int .i64 0, .int .i64 0] 40)).cell? ⟨w.heap.size, i, none⟩ = (#[.int .i64 c.t, .int .i64 c.wd, .int .i64 c.s, .int .i64 c.g, .int .i64 c.r, .int .i64 c.cp, .int .i64 c.f, .slice ma mem.length mc, .slice ja jobs.length jc] : Array Value)[i]?) := (HSa.out).cell
        have HAy : Hid (∀ i, (wr.alloc (.cells #[.int .i64 0, .int .i64 0, .int .i64 0, .int .i64 0] 40)).cell? ⟨wr.heap.size, i, none⟩ = (#[.int .i64 0, .int .i64 0, .int .i64 0, .int .i64 0] : Array Value)[i]?) := (HAa.out).cell
        clear HG HTH HJa HPa HLa HMa HSa HAa HR HB
        generalize (gLog c mem jobs ps k).flatMap accCells = LG at *
        go_upto_region 6 with fail
        go_cut [8] (fun t wx => t = .int .i64 th ∧ wx = wr.alloc (.cells #[.int .i64 0, .int .i64 0, .int .i64 0, .int .i64 0] 40))
        case first =>
          clear HSy HAy HRx HBz HBa
          go_wp2
          go_meet
          case rel => exact ⟨rfl, rfl⟩
        case rest =>
          obtain ⟨rfl, hwc⟩ := hcut
          rw [← hwc] at HSy HAy HRx HBz hsza
          have hsy := HSy.out
          have hay := HAy.out
          have hszx : w1.heap.size ≤ wc.heap.size := by omega
          have HRy : Hid (wc.ownsRow w1.heap.size 40 4 (.slice la k lc) k LG) := HRx
          have HBy : Hid (Below w1.heap.size w1 wc) := HBz
          clear HSy HAy HRx HBz hwc HBa hq0 hsc hsza
          rcases hin1 with hA | ⟨h0, hB⟩
          · clear hin
            go_wp2_with
              (at_builtin;
               refine wpList_append_lies _ (by rfl) _ _ _ (by rfl) w1.heap.size 40 i4 _ 4 32 Tryz.underlying31 hi4 hz40 hz41 hz42 rfl (by omega) (.slice la k lc) k LG (by rfl) ((HRy.out).alloc _)
                 ⟨wc.heap.size, 0, none⟩ 1 1 [.int .i64 0, .int .i64 0, .int .i64 0, .int .i64 0] (by rfl) (by rfl) (World.news_of_block (cs := #[.int .i64 0, .int .i64 0, .int .i64 0, .int .i64 0]) (t := 40) (fr := (0, 0)) (heap_alloc_new wc _)) (by simp [Value.oneCell'])
                 (by omega) (by unfold maxLen; omega) (by omega) (by simp; omega) (wc.heap.size + 1) (by simp) ?_;
               intro gg cap wz hown1 hgrow hat hlt;
               have HKz : Hid (Kp [40] w1.heap.size w1.heap.size w1.heap.size wc wz) := ((Kp.below ((Below.refl _ _).alloc (Nat.le_refl _) _) hszx).trans (Kp.grown hgrow (by simp; omega) ((HRy.out).alloc _) (by simp)));
               have HRz : Hid (wz.ownsRow w1.heap.size 40 4 (.slice (some ⟨gg, 0, none⟩) (k + 1) cap) (k + 1) (LG ++ [.int .i64 0, .int .i64 0, .int .i64 0, .int .i64 0])) := hown1;
               clear hown1 hgrow hat hlt)
            go_roundg (gk - 1)
            case rel =>
              refine ⟨k + 1, _, _, rfl, by simp, by omega, by omega, by rw [HGn.out]; exact HRz, ?_⟩
              have hk := HKz.out
              have h := HBy.out
              exact ⟨hk.os.trans h.os, hk.tape.trans h.tape, hk.output.trans h.output, Nat.le_trans h.size hk.size, fun b hb => (hk.low b hb (by omega) (by omega)).trans (h.block b hb)⟩
            case measure => omega
          · clear hin
            go_wp2_with
              (at_builtin;
               refine wpList_append_lies _ (by rfl) _ _ _ (by rfl) w1.heap.size 40 i4 _ 4 32 Tryz.underlying31 hi4 hz40 hz41 hz42 rfl (by omega) (.slice la k lc) k LG (by rfl) ((HRy.out).alloc _)
                 ⟨wc.heap.size, 0, none⟩ 1 1 [.int .i64 0, .int .i64 0, .int .i64 0, .int .i64 0] (by rfl) (by rfl) (World.news_of_block (cs := #[.int .i64 0, .int .i64 0, .int .i64 0, .int .i64 0]) (t := 40) (fr := (0, 0)) (heap_alloc_new wc _)) (by simp [Value.oneCell'])
                 (by omega) (by unfold maxLen; omega) (by omega) (by simp; omega) (wc.heap.size + 1) (by simp) ?_;
               intro gg cap wz hown1 hgrow hat hlt;
               have HKz : Hid (Kp [40] w1.heap.size w1.heap.size w1.heap.size wc wz) := ((Kp.below ((Below.refl _ _).alloc (Nat.le_refl _) _) hszx).trans (Kp.grown hgrow (by simp; omega) ((HRy.out).alloc _) (by simp)));
               have HRz : Hid (wz.ownsRow w1.heap.size 40 4 (.slice (some ⟨gg, 0, none⟩) (k + 1) cap) (k + 1) (LG ++ [.int .i64 0, .int .i64 0, .int .i64 0, .int .i64 0])) := hown1;
               clear hown1 hgrow hat hlt)
            go_roundg (gk - 1)
            case rel =>
              refine ⟨k + 1, _, _, rfl, by simp, by omega, by omega, by rw [HGn.out]; exact HRz, ?_⟩
              have hk := HKz.out
              have h := HBy.out
              exact ⟨hk.os.trans h.os, hk.tape.trans h.tape, hk.output.trans h.output, Nat.le_trans h.size hk.size, fun b hb => (hk.low b hb (by omega) (by omega)).trans (h.block b hb)⟩
            case measure => omega
    · have hke : k = ps.length := by omega
      have HL : Hid (LogIn wr wr.heap.size la A) := by
        have h := logIn_row HR.out
        rw [hke] at h
        rw [← show accs c mem jobs ps = A from HA.out]
        exact h
      have hlen : A.length = k := by rw [← show accs c mem jobs ps = A from HA.out, hke]; exact gLog_len c mem jobs ps ps.length
      have HF : Hid (Below w.heap.size w wr) := (HB1.out).trans ((HB.out).mono (by omega))
      have hk1 : ¬ (k : Int) < (ps.length : Int) := by omega
      have HLen : Hid (A.length = k) := hlen
      clear HR HB hke hlen
      go_wp2
      go_ret
      exact ⟨la, lc, by rw [HLen.out]; rfl, HL.out, HF.out⟩

end Go.Proofs.YtejadojilncbjaaGreat
