import Derived.Test.YtejadojilncbjaaH24
import Derived.Test.YtejadojilncbjaaH30
import Derived.Test.YtejadojilncbjaaH22
import Derived.Test.YtejadojilncbjaaRows
import Derived.ShutString
import Derived.ChangeOld
import Derived.JoinedCond
import Derived.Laws.OwnMore
namespace Go.Proofs.Ytejadojilncbjaa
open Go.RowKit
set_option linter.unusedVariables false
attribute [local go_sem ↓] Go.wp_at_zero Go.wp_at_succ

theorem setup_rep (c : Cfg) (mem : List Int) (jobs : List (Int × List InsD)) (ma ja : Option Addr) (mc jc : Nat) (w : World) (hml : mem.length ≤ maxLen) (hjl : jobs.length ≤ maxLen) (hm : Ints w w.heap.size ma mem) (hj : JobsRep w w.heap.size ja jobs) :
    Calls Try.prog 27 #[.agg #[.int .i64 c.t, .int .i64 c.wd, .int .i64 c.s, .int .i64 c.g, .int .i64 c.r, .int .i64 c.cp, .int .i64 c.f, .slice ma mem.length mc, .slice ja jobs.length jc]] w fun e w' =>
      e = .returned (.int .i64 (errS c mem jobs)) ∧ Below w.heap.size w w' := by
  obtain ⟨js, h1, h2, h3⟩ := hj
  have := setup_core c.t c.wd c.s c.g c.r c.cp c.f ma mem.length mc mem ja jobs.length jc js w rfl hml hm h1 hjl h2
  rw [show (⟨c.t, c.wd, c.s, c.g, c.r, c.cp, c.f⟩ : Cfg) = c from rfl, check_err h1 (fun i hi => ⟨(h3 i hi).1, (h3 i hi).2.1⟩)] at this
  exact this

def AccsGood : Prop := ∀ {c : Cfg} {mem : List Int} {jobs : List (Int × List InsD)} (S : SetupOk c mem jobs) (ps : List PickD) (hps : ps.length ≤ 2 ^ 21) (ma ja pa : Option Addr) (mc jc pc : Nat) (w : World)
    (hm : Ints w w.heap.size ma mem) (hj : JobsRep w w.heap.size ja jobs) (hp : PicksIn w w.heap.size pa ps),
    Calls Try.prog 48 #[.agg #[.int .i64 c.t, .int .i64 c.wd, .int .i64 c.s, .int .i64 c.g, .int .i64 c.r, .int .i64 c.cp, .int .i64 c.f, .slice ma mem.length mc, .slice ja jobs.length jc], .slice pa ps.length pc] w (AccIs w (accs c mem jobs ps))
def NumsGood : Prop := ∀ {c : Cfg} {mem : List Int} {jobs : List (Int × List InsD)} (S : SetupOk c mem jobs) (ps : List PickD) (hps : ps.length ≤ 2 ^ 21) (ma ja pa : Option Addr) (mc jc pc : Nat) (w : World)
    (hm : Ints w w.heap.size ma mem) (hj : JobsRep w w.heap.size ja jobs) (hp : PicksIn w w.heap.size pa ps),
    Calls Try.prog 38 #[.agg #[.int .i64 c.t, .int .i64 c.wd, .int .i64 c.s, .int .i64 c.g, .int .i64 c.r, .int .i64 c.cp, .int .i64 c.f, .slice ma mem.length mc, .slice ja jobs.length jc], .slice pa ps.length pc] w fun e w' =>
      ∃ (la : Option Addr) (lc : Nat), e = .returned (.slice la (cellsOf c mem jobs ps).length lc) ∧ Ints w' w'.heap.size la (cellsOf c mem jobs ps) ∧ Below w.heap.size w w'

set_option maxRecDepth 100000 in
set_option maxHeartbeats 4000000 in
theorem playGood_of (G : AccsGood) : PlayGood := by
  intro c mem jobs ps ma ja pa mc jc pc w hps hml hjl hm hj hp
  have HG : Hid AccsGood := G
  have HM : Hid (Ints w w.heap.size ma mem) := hm
  have HJ : Hid (JobsRep w w.heap.size ja jobs) := hj
  have HP : Hid (PicksIn w w.heap.size pa ps) := hp
  have HPS : Hid (ps.length ≤ 2 ^ 21) := hps
  obtain ⟨L, HL⟩ : ∃ L, Hid (playA c mem jobs ps = L) := ⟨_, rfl⟩
  obtain ⟨ER, HER⟩ : ∃ ER, Hid (errS c mem jobs = ER) := ⟨_, rfl⟩
  rw [show playA c mem jobs ps = L from HL.out, show errS c mem jobs = ER from HER.out]
  clear hm hj hp hps G
  go_enter Try.func36, Try.ntmps36
  go_wp2_with fail
  obtain ⟨w0, hw0⟩ : ∃ w0, w0 = w.alloc (.cells #[.int .i64 c.t, .int .i64 c.wd, .int .i64 c.s, .int .i64 c.g, .int .i64 c.r, .int .i64 c.cp, .int .i64 c.f, .slice ma mem.length mc, .slice ja jobs.length jc] 27) := ⟨_, rfl⟩
  have hB0 : Below w.heap.size w w0 := by rw [hw0]; exact (Below.refl w.heap.size w).alloc (Nat.le_refl _) _
  have hSb : Blk w0 w.heap.size 27 #[.int .i64 c.t, .int .i64 c.wd, .int .i64 c.s, .int .i64 c.g, .int .i64 c.r, .int .i64 c.cp, .int .i64 c.f, .slice ma mem.length mc, .slice ja jobs.length jc] := by rw [hw0]; exact Blk.new w 27 _
  have hs0 : w0.heap.size = w.heap.size + 1 := by rw [hw0]; simp
  rw [← hw0]
  clear hw0
  refine (setup_rep c mem jobs ma ja mc jc w0 hml hjl ((HM.out).up hB0) ((HJ.out).up2 hB0)).mono ?_
  rintro e w1 ⟨rfl, hb1⟩
  have hB1 : Below w.heap.size w w1 := hB0.trans (hb1.mono hB0.size)
  have hsc : ∀ i, w1.cell? ⟨w.heap.size, i, none⟩ = (#[.int .i64 c.t, .int .i64 c.wd, .int .i64 c.s, .int .i64 c.g, .int .i64 c.r, .int .i64 c.cp, .int .i64 c.f, .slice ma mem.length mc, .slice ja jobs.length jc] : Array Value)[i]? := (hSb.below hb1 (by omega)).cell
  have HB1 : Hid (Below w.heap.size w w1) := hB1
  have HM1 : Hid (Ints w1 w1.heap.size ma mem) := (HM.out).up hB1
  have HJ1 : Hid (JobsRep w1 w1.heap.size ja jobs) := (HJ.out).up2 hB1
  have HP1 : Hid (PicksIn w1 w1.heap.size pa ps) := (HP.out).up2 hB1
  clear hB0 hSb hs0 hb1 hB1 HM HJ HP
  rw [show errS c mem jobs = ER from HER.out]
  by_cases he : ER = 0
  · have hbn : (ER != 0) = false := by simp [he]
    have HLe : Hid (L = accs c mem jobs ps) := (HL.out).symm.trans (if_pos ((HER.out).trans he))
    have HSo : Hid (SetupOk c mem jobs) := (errS_ok ((HER.out).trans he)).1
    have HE0 : Hid (ER = 0) := he
    clear he HL HER
    go_wp2_with fail
    refine ((HG.out) HSo.out ps HPS.out ma ja pa mc jc pc w1 HM1.out HJ1.out HP1.out).mono ?_
    rintro e w2 ⟨la, lc, rfl, hl2, hb2⟩
    have HL2 : Hid (LogIn w2 w2.heap.size la (accs c mem jobs ps)) := hl2
    have HB2 : Hid (Below w.heap.size w w2) := (HB1.out).trans (hb2.mono (HB1.out).size)
    clear hl2 hb2 hsc hbn
    go_wp2
    exact bodyPost_ret (v := .tuple #[.slice la (accs c mem jobs ps).length lc, .int .i64 0]) (by simp [results, Try.results36, go_sem]) rfl ⟨la, lc, by rw [HLe.out, HE0.out], by rw [HLe.out]; exact HL2.out, HB2.out⟩
  · have hbn : (ER != 0) = true := by simp [he]
    have HLe : Hid (L = []) := (HL.out).symm.trans (if_neg (by rw [HER.out]; exact he))
    clear he HL HER hsc
    go_wp2
    exact bodyPost_ret (v := .tuple #[.slice none 0 0, .int .i64 ER]) (by simp [results, Try.results36, go_sem]) rfl ⟨none, 0, by rw [HLe.out]; rfl, by rw [HLe.out]; exact fun i hi => absurd hi (by simp), HB1.out⟩

set_option maxRecDepth 100000 in
set_option maxHeartbeats 4000000 in
theorem cellsGood_of (G : NumsGood) : CellsGood := by
  intro c mem jobs ps ma ja pa mc jc pc w hps hml hjl hm hj hp
  have HG : Hid NumsGood := G
  have HM : Hid (Ints w w.heap.size ma mem) := hm
  have HJ : Hid (JobsRep w w.heap.size ja jobs) := hj
  have HP : Hid (PicksIn w w.heap.size pa ps) := hp
  have HPS : Hid (ps.length ≤ 2 ^ 21) := hps
  obtain ⟨L, HL⟩ : ∃ L, Hid (cellsA c mem jobs ps = L) := ⟨_, rfl⟩
  obtain ⟨ER, HER⟩ : ∃ ER, Hid (errS c mem jobs = ER) := ⟨_, rfl⟩
  rw [show cellsA c mem jobs ps = L from HL.out, show errS c mem jobs = ER from HER.out]
  clear hm hj hp hps G
  go_enter Try.func16, Try.ntmps16
  go_wp2_with fail
  obtain ⟨w0, hw0⟩ : ∃ w0, w0 = w.alloc (.cells #[.int .i64 c.t, .int .i64 c.wd, .int .i64 c.s, .int .i64 c.g, .int .i64 c.r, .int .i64 c.cp, .int .i64 c.f, .slice ma mem.length mc, .slice ja jobs.length jc] 27) := ⟨_, rfl⟩
  have hB0 : Below w.heap.size w w0 := by rw [hw0]; exact (Below.refl w.heap.size w).alloc (Nat.le_refl _) _
  have hSb : Blk w0 w.heap.size 27 #[.int .i64 c.t, .int .i64 c.wd, .int .i64 c.s, .int .i64 c.g, .int .i64 c.r, .int .i64 c.cp, .int .i64 c.f, .slice ma mem.length mc, .slice ja jobs.length jc] := by rw [hw0]; exact Blk.new w 27 _
  have hs0 : w0.heap.size = w.heap.size + 1 := by rw [hw0]; simp
  rw [← hw0]
  clear hw0
  refine (setup_rep c mem jobs ma ja mc jc w0 hml hjl ((HM.out).up hB0) ((HJ.out).up2 hB0)).mono ?_
  rintro e w1 ⟨rfl, hb1⟩
  have hB1 : Below w.heap.size w w1 := hB0.trans (hb1.mono hB0.size)
  have hsc : ∀ i, w1.cell? ⟨w.heap.size, i, none⟩ = (#[.int .i64 c.t, .int .i64 c.wd, .int .i64 c.s, .int .i64 c.g, .int .i64 c.r, .int .i64 c.cp, .int .i64 c.f, .slice ma mem.length mc, .slice ja jobs.length jc] : Array Value)[i]? := (hSb.below hb1 (by omega)).cell
  have HB1 : Hid (Below w.heap.size w w1) := hB1
  have HM1 : Hid (Ints w1 w1.heap.size ma mem) := (HM.out).up hB1
  have HJ1 : Hid (JobsRep w1 w1.heap.size ja jobs) := (HJ.out).up2 hB1
  have HP1 : Hid (PicksIn w1 w1.heap.size pa ps) := (HP.out).up2 hB1
  clear hB0 hSb hs0 hb1 hB1 HM HJ HP
  rw [show errS c mem jobs = ER from HER.out]
  by_cases he : ER = 0
  · have hbn : (ER != 0) = false := by simp [he]
    have HLe : Hid (L = cellsOf c mem jobs ps) := (HL.out).symm.trans (if_pos ((HER.out).trans he))
    have HSo : Hid (SetupOk c mem jobs) := (errS_ok ((HER.out).trans he)).1
    have HE0 : Hid (ER = 0) := he
    clear he HL HER
    go_wp2_with fail
    refine ((HG.out) HSo.out ps HPS.out ma ja pa mc jc pc w1 HM1.out HJ1.out HP1.out).mono ?_
    rintro e w2 ⟨la, lc, rfl, hl2, hb2⟩
    have HL2 : Hid (Ints w2 w2.heap.size la (cellsOf c mem jobs ps)) := hl2
    have HB2 : Hid (Below w.heap.size w w2) := (HB1.out).trans (hb2.mono (HB1.out).size)
    clear hl2 hb2 hsc hbn
    go_wp2
    exact bodyPost_ret (v := .tuple #[.slice la (cellsOf c mem jobs ps).length lc, .int .i64 0]) (by simp [results, Try.results16, go_sem]) rfl ⟨la, lc, by rw [HLe.out, HE0.out], by rw [HLe.out]; exact HL2.out, HB2.out⟩
  · have hbn : (ER != 0) = true := by simp [he]
    have HLe : Hid (L = []) := (HL.out).symm.trans (if_neg (by rw [HER.out]; exact he))
    clear he HL HER hsc
    go_wp2
    exact bodyPost_ret (v := .tuple #[.slice none 0 0, .int .i64 ER]) (by simp [results, Try.results16, go_sem]) rfl ⟨none, 0, by rw [HLe.out]; rfl, by rw [HLe.out]; exact fun i hi => absurd hi (by simp), HB1.out⟩

end Go.Proofs.Ytejadojilncbjaa

namespace Go.Proofs.Ytejadojilncbjaa

theorem playGood : PlayGood := playGood_of (fun S ps hps ma ja pa mc jc pc w hm hj hp => playAccesses_any S ps hps ma ja pa mc jc pc w hm hj hp)
theorem cellsGood : CellsGood := cellsGood_of (fun S ps hps ma ja pa mc jc pc w hm hj hp => playCells_any S ps hps ma ja pa mc jc pc w hm hj hp)

end Go.Proofs.Ytejadojilncbjaa

namespace Go.Proofs.Ytejadojilncbjaa
open Go.RowKit
set_option linter.unusedVariables false
attribute [local go_sem ↓] Go.wp_at_zero Go.wp_at_succ

/-- Has the thread a job? -/
def worksB (jobs : List (Int × List InsD)) (t : Int) : Bool := jobs.any fun j => j.1 == t

set_option maxRecDepth 100000 in
set_option maxHeartbeats 2000000 in
theorem works_any (c : Cfg) (mem : List Int) (jobs : List (Int × List InsD)) (t : Int) (ma ja : Option Addr) (ml mc jc : Nat) (w : World) (hjl : jobs.length ≤ 2 ^ 40) (hj : JobsRep w w.heap.size ja jobs) :
    Calls Try.prog 37 #[.agg #[.int .i64 c.t, .int .i64 c.wd, .int .i64 c.s, .int .i64 c.g, .int .i64 c.r, .int .i64 c.cp, .int .i64 c.f, .slice ma ml mc, .slice ja jobs.length jc], .int .i64 t] w fun e w' =>
      e = .returned (.bool (worksB jobs t)) ∧ Below w.heap.size w w' := by
  have hB0 : Below w.heap.size w (w.alloc (.cells #[.int .i64 c.t, .int .i64 c.wd, .int .i64 c.s, .int .i64 c.g, .int .i64 c.r, .int .i64 c.cp, .int .i64 c.f, .slice ma ml mc, .slice ja jobs.length jc] 27)) := (Below.refl w.heap.size w).alloc (Nat.le_refl _) _
  obtain ⟨w0, hw0⟩ : ∃ w0, w0 = w.alloc (.cells #[.int .i64 c.t, .int .i64 c.wd, .int .i64 c.s, .int .i64 c.g, .int .i64 c.r, .int .i64 c.cp, .int .i64 c.f, .slice ma ml mc, .slice ja jobs.length jc] 27) := ⟨_, rfl⟩
  have hSb : Blk w0 w.heap.size 27 #[.int .i64 c.t, .int .i64 c.wd, .int .i64 c.s, .int .i64 c.g, .int .i64 c.r, .int .i64 c.cp, .int .i64 c.f, .slice ma ml mc, .slice ja jobs.length jc] := by rw [hw0]; exact Blk.new w 27 _
  rw [← hw0] at hB0
  have HJ : Hid (JobsRep w0 w0.heap.size ja jobs) := hj.up2 hB0
  have HB0 : Hid (Below w.heap.size w w0) := hB0
  have HSb : Hid (Blk w0 w.heap.size 27 #[.int .i64 c.t, .int .i64 c.wd, .int .i64 c.s, .int .i64 c.g, .int .i64 c.r, .int .i64 c.cp, .int .i64 c.f, .slice ma ml mc, .slice ja jobs.length jc]) := hSb
  have HW0 : Hid (w0 = w.alloc (.cells #[.int .i64 c.t, .int .i64 c.wd, .int .i64 c.s, .int .i64 c.g, .int .i64 c.r, .int .i64 c.cp, .int .i64 c.f, .slice ma ml mc, .slice ja jobs.length jc] 27)) := hw0
  obtain ⟨V, HV⟩ : ∃ V, Hid (worksB jobs t = V) := ⟨_, rfl⟩
  rw [show worksB jobs t = V from HV.out]
  have hsc := hSb.cell
  clear hj hB0 hSb hw0
  go_enter Try.func37, Try.ntmps37
  go_wp2_with fail
  rw [← show w0 = _ from HW0.out]
  clear HW0
  go_loopg [5] (jobs.length + 1) (fun m t5 wr => ∃ k : Nat, t5 = .int .i64 (k : Int) ∧ k ≤ jobs.length ∧ m = jobs.length + 1 - k ∧ wr = w0 ∧ Hid (∀ i, i < k → ((jobs.getD i (0, [])).1 == t) = false))
  case atStart => exact ⟨0, rfl, by omega, by omega, rfl, fun i hi => absurd hi (Nat.not_lt_zero _)⟩
  case round =>
    obtain ⟨k, rfl, hk, hgk, rfl, HN⟩ := hrel
    by_cases hkl : k < jobs.length
    · obtain ⟨js, h1, h2, h3⟩ := HJ.out
      obtain ⟨b, off, hja, hbl, hc0, hc1⟩ := h2 k (by omega)
      have ht := (h3 k (by omega)).1
      rw [ht] at hc0
      have hk0 : (0 : Int) ≤ (k : Int) := by omega
      have hk1 : (k : Int) < (jobs.length : Int) := by omega
      have hwk : IntKind.i64.wrap ((k : Int) + 1) = (k : Int) + 1 := wrapF _ (by omega) (by omega)
      subst hja
      clear h1 h2 h3 hc1 ht
      by_cases he : (jobs.getD k (0, [])).1 = t
      · have hbe : ((jobs.getD k (0, [])).1 == t) = true := by rw [beq_iff_eq]; exact he
        have HV1 : Hid (V = true) := by
          show V = true
          rw [← show worksB jobs t = V from HV.out]
          unfold worksB
          rw [List.any_eq_true]
          refine ⟨jobs.getD k (0, []), ?_, hbe⟩
          rw [show jobs.getD k (0, []) = jobs[k] from by simp [List.getD, List.getElem?_eq_getElem hkl]]
          exact List.getElem_mem hkl
        generalize (jobs.getD k (0, [])).1 = z at *
        clear HN HV he
        go_wp2
        go_ret
        exact ⟨by rw [HV1.out]; rfl, HB0.out⟩
      · have hbe : ((jobs.getD k (0, [])).1 == t) = false := by rw [beq_eq_false_iff_ne]; exact he
        have HN2 : Hid (∀ i, i < k + 1 → ((jobs.getD i (0, [])).1 == t) = false) := fun i hi => by
          by_cases e : i = k
          · rw [e]; exact hbe
          · exact HN.out i (by omega)
        generalize (jobs.getD k (0, [])).1 = z at *
        clear HN HV he
        go_wp2
        go_roundg (gk - 1)
        case rel => exact ⟨k + 1, by simp, by omega, by omega, rfl, HN2⟩
        case measure => omega
    · have hke : k = jobs.length := by omega
      have hk1 : ¬ (k : Int) < (jobs.length : Int) := by omega
      have HV0 : Hid (V = false) := by
        show V = false
        rw [← show worksB jobs t = V from HV.out]
        unfold worksB
        rw [List.any_eq_false]
        intro x hx
        obtain ⟨i, hi, rfl⟩ := List.mem_iff_getElem.1 hx
        have := HN.out i (by omega)
        rw [show jobs.getD i (0, []) = jobs[i] from by simp [List.getD, List.getElem?_eq_getElem hi]] at this
        simpa using this
      clear HN HV hke
      go_wp2
      go_ret
      exact ⟨by rw [HV0.out]; rfl, HB0.out⟩

/-- How a call has answered. -/
def answeredN (want e : Int) (empty : Bool) : Int := if e ≠ want then 0 else if e = 0 then 2 else if empty then 1 else 0

set_option maxRecDepth 100000 in
set_option maxHeartbeats 2000000 in
theorem answered_any (c : Cfg) (mem : List Int) (jobs : List (Int × List InsD)) (er : Int) (em : Bool) (ma ja : Option Addr) (mc jc : Nat) (w : World) (hml : mem.length ≤ maxLen) (hjl : jobs.length ≤ maxLen) (hm : Ints w w.heap.size ma mem) (hj : JobsRep w w.heap.size ja jobs) :
    Calls Try.prog 17 #[.agg #[.int .i64 c.t, .int .i64 c.wd, .int .i64 c.s, .int .i64 c.g, .int .i64 c.r, .int .i64 c.cp, .int .i64 c.f, .slice ma mem.length mc, .slice ja jobs.length jc], .int .i64 er, .bool em] w fun e w' =>
      e = .returned (.int .i64 (answeredN (errS c mem jobs) er em)) ∧ Below w.heap.size w w' := by
  have hB0 : Below w.heap.size w (w.alloc (.cells #[.int .i64 c.t, .int .i64 c.wd, .int .i64 c.s, .int .i64 c.g, .int .i64 c.r, .int .i64 c.cp, .int .i64 c.f, .slice ma mem.length mc, .slice ja jobs.length jc] 27)) := (Below.refl w.heap.size w).alloc (Nat.le_refl _) _
  have HC : Hid _ := refCheck_rep c mem jobs ma ja mc jc _ hml hjl (hm.up hB0) (hj.up2 hB0)
  have HB0 : Hid (Below w.heap.size w (w.alloc (.cells #[.int .i64 c.t, .int .i64 c.wd, .int .i64 c.s, .int .i64 c.g, .int .i64 c.r, .int .i64 c.cp, .int .i64 c.f, .slice ma mem.length mc, .slice ja jobs.length jc] 27))) := hB0
  obtain ⟨N, HNN⟩ : ∃ N, Hid (answeredN (errS c mem jobs) er em = N) := ⟨_, rfl⟩
  rw [show answeredN (errS c mem jobs) er em = N from HNN.out]
  clear hm hj hB0
  go_enter Try.func17, Try.ntmps17
  go_wp2_with fail
  refine Calls.mono HC.out ?_
  rintro e w1 ⟨rfl, hb1⟩
  have HB1 : Hid (Below w.heap.size w w1) := (HB0.out).trans (hb1.mono (HB0.out).size)
  clear hb1 HC HB0
  generalize errS c mem jobs = W at *
  by_cases h1 : er = W
  · have b1 : (er == W) = true := by simp [h1]
    have b1' : (er != W) = false := by simp [h1]
    by_cases h2 : er = 0
    · have b2 : (er == 0) = true := by simp [h2]
      have HA : Hid (N = 2) := by show N = 2; rw [← show answeredN W er em = N from HNN.out]; unfold answeredN; rw [if_neg (by simp [h1]), if_pos h2]
      clear h1 h2 HNN
      go_wp2
      go_ret
      exact ⟨by rw [HA.out]; rfl, HB1.out⟩
    · have b2 : (er == 0) = false := by simp [h2]
      cases em with
      | true =>
        have HA : Hid (N = 1) := by show N = 1; rw [← show answeredN W er true = N from HNN.out]; unfold answeredN; rw [if_neg (by simp [h1]), if_neg h2, if_pos rfl]
        clear h1 h2 HNN
        go_wp2
        go_ret
        exact ⟨by rw [HA.out]; rfl, HB1.out⟩
      | false =>
        have HA : Hid (N = 0) := by show N = 0; rw [← show answeredN W er false = N from HNN.out]; unfold answeredN; rw [if_neg (by simp [h1]), if_neg h2, if_neg (by simp)]
        clear h1 h2 HNN
        go_wp2
        go_ret
        exact ⟨by rw [HA.out]; rfl, HB1.out⟩
  · have b1 : (er == W) = false := by simp [h1]
    have b1' : (er != W) = true := by simp [h1]
    have HA : Hid (N = 0) := by show N = 0; rw [← show answeredN W er em = N from HNN.out]; unfold answeredN; rw [if_pos h1]
    clear h1 HNN
    go_wp2
    go_ret
    exact ⟨by rw [HA.out]; rfl, HB1.out⟩

end Go.Proofs.Ytejadojilncbjaa

namespace Go.Proofs.Ytejadojilncbjaa
open Go.ChangeShapes Go.WideShapes Go.ChangeAt Go.RowKit Go.Deep
set_option linter.unusedVariables false
attribute [local go_sem ↓] Go.wp_at_zero Go.wp_at_succ

theorem own_mono {w : World} {base base' : Nat} {e : TypeId} {size n : Nat} {v : Value} {xs : List Value} (h : w.ownsRow base e size v n xs) (hb : base' ≤ base) : w.ownsRow base' e size v n xs :=
  ⟨h.1, h.2.elim Or.inl (fun ⟨g, cap, cur, hv, hb0, r⟩ => Or.inr ⟨g, cap, cur, hv, Nat.le_trans hb hb0, r⟩)⟩

/-- Cells in a row of the call's own. -/
def CRow (w : World) (base g cap : Nat) (cs : List Int) : Prop := w.ownsRow base 3 1 (.slice (some ⟨g, 0, none⟩) cs.length cap) cs.length (cs.map (Value.int .i64 ·))

theorem CRow.cell {w : World} {base g cap : Nat} {cs : List Int} (h : CRow w base g cap cs) {i : Nat} (hi : i < cs.length) : w.cell? ⟨g, i, none⟩ = some (.int .i64 (cs.getD i 0)) := by
  rw [World.ownsRow.cellAt h i (by omega)]
  simp [List.getElem?_map, List.getD, List.getElem?_eq_getElem hi]
theorem CRow.frozen {w : World} {base g cap : Nat} {cs : List Int} (h : CRow w base g cap cs) (i : Nat) : w.frozen? ⟨g, i, none⟩ = false := World.ownsRow.frozenAt h i
theorem CRow.lt {w : World} {base g cap : Nat} {cs : List Int} (h : CRow w base g cap cs) : base ≤ g ∧ g < w.heap.size := World.ownsRow.lt h g rfl
theorem CRow.set {w : World} {base g cap : Nat} {cs : List Int} (h : CRow w base g cap cs) (i : Nat) (v : Int) : CRow (w.setCell ⟨g, i, none⟩ (.int .i64 v)) base g cap (cs.set i v) := by
  have := (World.ownsRow.stored h i (.int .i64 v)).1
  unfold CRow
  rw [List.length_set, List.map_set]
  exact this
theorem CRow.below {w w' : World} {base g cap : Nat} {cs : List Int} (h : CRow w base g cap cs) (hb : Below w.heap.size w w') (hB : base ≤ w.heap.size) : CRow w' base g cap cs := ownsRow_keep h (Kp.below (chg := []) (p := base) (eb := base) hb hB) (by simp)
theorem CRow.ints {w : World} {base g cap : Nat} {cs : List Int} (h : CRow w base g cap cs) : Ints w w.heap.size (some ⟨g, 0, none⟩) cs := fun i hi => ⟨g, 0, rfl, h.lt.2, by have := h.cell hi; simpa using this⟩

set_option maxHeartbeats 400000 in
theorem kword_any (c : Cfg) (hc : cfgB c = true) (n : Int) (a b : Option Addr) (l d m f : Nat) (w : World) (h3 : -70000 ≤ n) (h4 : n ≤ 1125899906842634) :
    Calls Try.prog 22 #[.agg #[.int .i64 c.t, .int .i64 c.wd, .int .i64 c.s, .int .i64 c.g, .int .i64 c.r, .int .i64 c.cp, .int .i64 c.f, .slice a l d, .slice b m f], .int .i64 n] w fun e w' =>
      e = .returned (.int .i64 (3 + 2 * c.s + c.t + n)) ∧ Below w.heap.size w w' := by
  obtain ⟨⟨t1, t2⟩, _, ⟨s1, s2⟩, _⟩ := cfgB_true hc
  have x1 : IntKind.i64.wrap (2 * c.s) = 2 * c.s := wrapF _ (by omega) (by omega)
  have x2 : IntKind.i64.wrap (3 + 2 * c.s) = 3 + 2 * c.s := wrapF _ (by omega) (by omega)
  have x3 : IntKind.i64.wrap (3 + 2 * c.s + c.t) = 3 + 2 * c.s + c.t := wrapF _ (by omega) (by omega)
  have x4 : IntKind.i64.wrap (3 + 2 * c.s + c.t + n) = 3 + 2 * c.s + c.t + n := wrapF _ (by omega) (by omega)
  clear hc
  go_enter Try.func22, Try.ntmps22
  go_wp2
  go_ret
  exact ⟨by simp, (Below.refl _ _).alloc (Nat.le_refl _) _⟩

set_option maxRecDepth 100000 in
set_option maxHeartbeats 2000000 in
theorem keepSame_any (a b : Option Addr) (ca cb : Nat) (zs : List Int) (w : World) (hn : zs.length ≤ 2 ^ 40) (ha : Ints w w.heap.size a zs) (hb : Ints w w.heap.size b zs) :
    Calls Try.prog 20 #[.slice a zs.length ca, .slice b zs.length cb] w fun e w' => e = .returned (.bool true) ∧ Below w.heap.size w w' := by
  have HA : Hid (Ints w w.heap.size a zs) := ha
  have HB : Hid (Ints w w.heap.size b zs) := hb
  clear ha hb
  go_enter Try.func20, Try.ntmps20
  go_wp2
  go_loopg [5] (zs.length + 1) (fun m t wr => ∃ k : Nat, t = .int .i64 (k : Int) ∧ k ≤ zs.length ∧ m = zs.length + 1 - k ∧ Hid (Below w.heap.size w wr))
  case atStart => exact ⟨0, rfl, by omega, by omega, Below.refl _ _⟩
  case round =>
    obtain ⟨k, rfl, hk, hgk, HBk⟩ := hrel
    by_cases hlt : k < zs.length
    · obtain ⟨b1, o1, hA1, hb1, hc1⟩ := HA.out k hlt
      obtain ⟨b2, o2, hB1, hb2, hc2⟩ := HB.out k hlt
      have hd1 : wr.cell? ⟨b1, o1 + k, none⟩ = some (.int .i64 (zs.getD k 0)) := (World.cell?_of_block ((HBk.out).block b1 hb1)).trans hc1
      have hd2 : wr.cell? ⟨b2, o2 + k, none⟩ = some (.int .i64 (zs.getD k 0)) := (World.cell?_of_block ((HBk.out).block b2 hb2)).trans hc2
      have hk0 : (0 : Int) ≤ (k : Int) := by omega
      have hk1 : (k : Int) < (zs.length : Int) := by omega
      have hwk : IntKind.i64.wrap ((k : Int) + 1) = (k : Int) + 1 := wrapF _ (by omega) (by omega)
      subst hA1 hB1
      generalize zs.getD k 0 = z at *
      clear hc1 hc2 HA HB
      go_wp2
      go_quiet (fail)
      go_wp2
      go_roundg (gk - 1)
      case rel => exact ⟨k + 1, by simp, by omega, by omega, belowDrewN HBk.out nq⟩
      case measure => omega
    · have hke : ¬ (k : Int) < (zs.length : Int) := by omega
      go_wp2
      go_ret
      exact ⟨rfl, HBk.out⟩

/-- The cells at the beginning. -/
def cells0 (c : Cfg) (mem : List Int) : List Int := List.replicate (3 + 2 * c.s + c.t).toNat 0 ++ mem

set_option maxRecDepth 100000 in
set_option maxHeartbeats 4000000 in
theorem begun_any (c : Cfg) (mem : List Int) (jobs : List (Int × List InsD)) (S : SetupOk c mem jobs) (ma ja : Option Addr) (mc jc : Nat) (w : World) (hm : Ints w w.heap.size ma mem) :
    Calls Try.prog 18 #[.agg #[.int .i64 c.t, .int .i64 c.wd, .int .i64 c.s, .int .i64 c.g, .int .i64 c.r, .int .i64 c.cp, .int .i64 c.f, .slice ma mem.length mc, .slice ja jobs.length jc]] w fun e w' =>
      (∃ g cap, e = .returned (.slice (some ⟨g, 0, none⟩) (cells0 c mem).length cap) ∧ CRow w' w.heap.size g cap (cells0 c mem)) ∧ Below w.heap.size w w' := by
  obtain ⟨⟨t1, t2⟩, ⟨x1, x2⟩, ⟨s1, s2⟩, _⟩ := cfgB_true S.cfg
  have hmw := S.mw
  have HCF : Hid (cfgB c = true) := S.cfg
  obtain ⟨w0, hw0⟩ : ∃ w0, w0 = w.alloc (.cells #[.int .i64 c.t, .int .i64 c.wd, .int .i64 c.s, .int .i64 c.g, .int .i64 c.r, .int .i64 c.cp, .int .i64 c.f, .slice ma mem.length mc, .slice ja jobs.length jc] 27) := ⟨_, rfl⟩
  have hB0 : Below w.heap.size w w0 := by rw [hw0]; exact (Below.refl w.heap.size w).alloc (Nat.le_refl _) _
  have HSb : Hid (Blk w0 w.heap.size 27 #[.int .i64 c.t, .int .i64 c.wd, .int .i64 c.s, .int .i64 c.g, .int .i64 c.r, .int .i64 c.cp, .int .i64 c.f, .slice ma mem.length mc, .slice ja jobs.length jc]) := by rw [hw0]; exact Blk.new w 27 _
  have HM : Hid (Ints w0 w0.heap.size ma mem) := hm.up hB0
  have HB0 : Hid (Below w.heap.size w w0) := hB0
  have HW0 : Hid (w0 = w.alloc (.cells #[.int .i64 c.t, .int .i64 c.wd, .int .i64 c.s, .int .i64 c.g, .int .i64 c.r, .int .i64 c.cp, .int .i64 c.f, .slice ma mem.length mc, .slice ja jobs.length jc] 27)) := hw0
  obtain ⟨N, hN⟩ : ∃ N : Nat, N = (3 + 2 * c.s + c.t).toNat := ⟨_, rfl⟩
  have hNt : 3 + 2 * c.s + c.t + 0 = (N : Int) := by omega
  have hN23 : N ≤ 23 := by omega
  have HCS : Hid (cells0 c mem = List.replicate N 0 ++ mem) := by show cells0 c mem = _; rw [hN]; rfl
  obtain ⟨CS, hCS⟩ : ∃ CS, CS = cells0 c mem := ⟨_, rfl⟩
  have HCS2 : Hid (CS = List.replicate N 0 ++ mem) := hCS.trans HCS.out
  rw [← hCS]
  obtain ⟨i3, hi3, hz30, hz31, hz32⟩ := info_parts Try.info3
  clear hm hB0 hw0 hN hCS HCS S
  go_enter Try.func18, Try.ntmps18
  go_wp2_with fail
  rw [← show w0 = _ from HW0.out]
  refine (kword_any c HCF.out 0 _ _ _ _ _ _ w0 (by omega) (by omega)).mono ?_
  rintro e w1 ⟨rfl, hb1⟩
  rw [hNt]
  have HB1 : Hid (Below w.heap.size w w1) := (HB0.out).trans (hb1.mono (HB0.out).size)
  have HSb1 : Hid (Blk w1 w.heap.size 27 #[.int .i64 c.t, .int .i64 c.wd, .int .i64 c.s, .int .i64 c.g, .int .i64 c.r, .int .i64 c.cp, .int .i64 c.f, .slice ma mem.length mc, .slice ja jobs.length jc]) := (HSb.out).below hb1 (HSb.out).lt
  have HM1 : Hid (Ints w1 w1.heap.size ma mem) := (HM.out).up hb1
  have hsl1 := (HSb1.out).lt
  clear hb1 HSb HM HB0 HW0 HCF hNt
  go_wp2
  go_loopg [3, 5] (N + 1) (fun m t3 t5 wr => ∃ (j : Nat) (oa : Option Addr) (oc : Nat), t3 = .slice oa j oc ∧ t5 = .int .i64 (j : Int) ∧ j ≤ N ∧ m = N + 1 - j ∧ Hid (wr.ownsRow w1.heap.size 3 1 (.slice oa j oc) j ((List.replicate j (0 : Int)).map (Value.int .i64 ·))) ∧ Hid (Below w1.heap.size w1 wr))
  case atStart => exact ⟨0, none, 0, rfl, rfl, by omega, by omega, World.ownsRow_nil _ _ _ _, Below.refl _ _⟩
  case round =>
    obtain ⟨j, oa, oc, rfl, rfl, hj, hgj, HRo, HBx⟩ := hrel
    have hszx : w1.heap.size ≤ wr.heap.size := (HBx.out).size
    obtain ⟨OT, hOT⟩ : ∃ OT, OT = (List.replicate j (0 : Int)).map (Value.int .i64 ·) := ⟨_, rfl⟩
    rw [← hOT] at HRo
    by_cases hjl : j < N
    · have hjw : (j : Int) < (N : Int) := by omega
      have hwj : IntKind.i64.wrap ((j : Int) + 1) = (j : Int) + 1 := wrapF _ (by omega) (by omega)
      have HOn : Hid ((List.replicate (j + 1) (0 : Int)).map (Value.int .i64 ·) = OT ++ [.int .i64 0]) := by
        show _ = _
        rw [hOT, List.replicate_succ']
        simp
      clear hOT
      go_wp2_with
        (at_builtin;
         refine wpList_append_lies _ (by rfl) _ _ _ (by rfl) w1.heap.size 3 i3 _ 1 8 Try.underlying24 hi3 hz30 hz31 hz32 rfl (by omega) (.slice oa j oc) j OT (by rfl) ((HRo.out).alloc _)
           ⟨wr.heap.size, 0, none⟩ 1 1 [.int .i64 0] (by rfl) (by rfl) (World.news_of_block (cs := #[.int .i64 0]) (t := 3) (fr := (0, 0)) (heap_alloc_new wr _)) (by simp [Value.oneCell'])
           (by omega) (by unfold maxLen; omega) (by omega) (by simp; omega) (wr.heap.size + 1) (by simp) ?_;
         intro gg cap wz hown1 hgrow hat hlt;
         have HKz : Hid (Kp [3] w1.heap.size w1.heap.size w1.heap.size wr wz) := ((Kp.below ((Below.refl _ _).alloc (Nat.le_refl _) _) hszx).trans (Kp.grown hgrow (by simp; omega) ((HRo.out).alloc _) (by simp)));
         have HRz : Hid (wz.ownsRow w1.heap.size 3 1 (.slice (some ⟨gg, 0, none⟩) (j + 1) cap) (j + 1) (OT ++ [.int .i64 0])) := hown1;
         clear hown1 hgrow hat hlt)
      go_roundg (gk - 1)
      case rel =>
        refine ⟨j + 1, _, _, rfl, by simp, by omega, by omega, by rw [HOn.out]; exact HRz, ?_⟩
        have hk := HKz.out
        have h := HBx.out
        exact ⟨hk.os.trans h.os, hk.tape.trans h.tape, hk.output.trans h.output, Nat.le_trans h.size hk.size, fun b hb => (hk.low b hb (by omega) (by omega)).trans (h.block b hb)⟩
      case measure => omega
    · have hje : j = N := by omega
      have hjw : ¬ (j : Int) < (N : Int) := by omega
      have HMx : Hid (Ints wr wr.heap.size ma mem) := (HM1.out).up HBx.out
      have hml : 0 < mem.length := by omega
      obtain ⟨mb, mo, hma, hmbl, _⟩ := HMx.out 0 hml
      have hsx := ((HSb1.out).below HBx.out hsl1).cell
      have HNew : Hid (∀ (q : Nat) (u : Value), (mem.map (Value.int .i64 ·))[q]? = some u → wr.cell? ((⟨mb, mo, none⟩ : Addr).add q) = some u) := fun q u hq => by
        rw [List.getElem?_map] at hq
        by_cases hql : q < mem.length
        · obtain ⟨b', o', h1, h2, h3⟩ := HMx.out q hql
          rw [hma] at h1
          cases h1
          rw [List.getElem?_eq_getElem hql] at hq
          simp at hq
          rw [add_plain, h3, ← hq]
          simp [List.getD, List.getElem?_eq_getElem hql]
        · rw [List.getElem?_eq_none (by omega)] at hq
          cases hq
      have HCSm : Hid (CS.map (Value.int .i64 ·) = OT ++ mem.map (Value.int .i64 ·)) := by
        show _ = _
        rw [HCS2.out, hOT, hje, List.map_append]
      have hCSl : CS.length = j + mem.length := by rw [HCS2.out, hje]; simp
      have HCSl : Hid (CS.length = j + mem.length) := hCSl
      subst hma
      have HMl : Hid (∀ u ∈ mem.map (Value.int .i64 ·), u.oneCell' = true) := fun u hu => by
        obtain ⟨q, _, rfl⟩ := List.mem_map.1 hu
        simp [Value.oneCell']
      obtain ⟨MM, hMM⟩ : ∃ MM, MM = mem.map (Value.int .i64 ·) := ⟨_, rfl⟩
      have hMMl : MM.length = mem.length * 1 := by rw [hMM]; simp
      have HMMl : Hid (MM.length = mem.length * 1) := hMMl
      rw [← hMM] at HNew HCSm HMl
      clear hOT hje hCSl hMM hMMl HMx HM1
      go_wp2_with
        (at_builtin;
         refine wpList_append_lies _ (by rfl) _ _ _ (by rfl) w1.heap.size 3 i3 _ 1 8 Try.underlying24 hi3 hz30 hz31 hz32 rfl (by omega) (.slice oa j oc) j OT (by rfl) HRo.out
           ⟨mb, mo, none⟩ mem.length mc MM (by rfl) HMMl.out HNew.out HMl.out
           hml (by unfold maxLen; omega) (by omega) hszx wr.heap.size rfl ?_;
         intro gg cap wz hown1 hgrow hat hlt;
         have HKz : Hid (Kp [3] w1.heap.size w1.heap.size w1.heap.size wr wz) := (Kp.grown hgrow hszx HRo.out (by simp));
         have HRz : Hid (wz.ownsRow w1.heap.size 3 1 (.slice (some ⟨gg, 0, none⟩) (j + mem.length) cap) (j + mem.length) (OT ++ MM)) := hown1;
         clear hown1 hgrow hat hlt)
      go_ret
      refine ⟨⟨gg, cap, by rw [HCSl.out]; rfl, ?_⟩, ?_⟩
      · unfold CRow
        rw [HCSl.out, HCSm.out]
        exact own_mono HRz.out (HB1.out).size
      · have hk := HKz.out
        have h := HBx.out
        exact (HB1.out).trans ((⟨hk.os.trans h.os, hk.tape.trans h.tape, hk.output.trans h.output, Nat.le_trans h.size hk.size, fun b hb => (hk.low b hb (by omega) (by omega)).trans (h.block b hb)⟩ : Below w1.heap.size w1 wz).mono (HB1.out).size)

end Go.Proofs.Ytejadojilncbjaa
