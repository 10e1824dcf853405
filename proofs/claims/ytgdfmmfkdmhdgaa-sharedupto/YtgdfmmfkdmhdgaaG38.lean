import Derived.Test.YtgdfmmfkdmhdgaaG30
import Derived.Test.YtgdfmmfkdmhdgaaG37
import Derived.Test.YtgdfmmfkdmhdgaaG27
import Derived.Test.YtgdfmmfkdmhdgaaRows
import Derived.ShutString
import Derived.ChangeOld
import Derived.JoinedCond
import Derived.Laws.OwnMore
namespace Go.Proofs.Ytgdfmmfkdmhdgaa
open Go.RowKit
set_option linter.unusedVariables false
attribute [local go_sem ↓] Go.wp_at_zero Go.wp_at_succ

theorem setup_rep (c : Cfg) (mem : List Int) (jobs : List (Int × List InsD)) (ma ja : Option Addr) (mc jc : Nat) (w : World) (hml : mem.length ≤ maxLen) (hjl : jobs.length ≤ maxLen) (hm : Ints w w.heap.size ma mem) (hj : JobsRep w w.heap.size ja jobs) :
    Calls Try.prog 25 #[.agg #[.int .i64 c.t, .int .i64 c.wd, .int .i64 c.s, .int .i64 c.g, .int .i64 c.r, .int .i64 c.cp, .int .i64 c.f, .slice ma mem.length mc, .slice ja jobs.length jc]] w fun e w' =>
      e = .returned (.int .i64 (errS c mem jobs)) ∧ Below w.heap.size w w' := by
  obtain ⟨js, h1, h2, h3⟩ := hj
  have := setup_core c.t c.wd c.s c.g c.r c.cp c.f ma mem.length mc mem ja jobs.length jc js w rfl hml hm h1 hjl h2
  rw [show (⟨c.t, c.wd, c.s, c.g, c.r, c.cp, c.f⟩ : Cfg) = c from rfl, check_err h1 (fun i hi => ⟨(h3 i hi).1, (h3 i hi).2.1⟩)] at this
  exact this

def AccsGood : Prop := ∀ {c : Cfg} {mem : List Int} {jobs : List (Int × List InsD)} (S : SetupOk c mem jobs) (ps : List PickD) (hps : ps.length ≤ 2 ^ 21) (ma ja pa : Option Addr) (mc jc pc : Nat) (w : World)
    (hm : Ints w w.heap.size ma mem) (hj : JobsRep w w.heap.size ja jobs) (hp : PicksIn w w.heap.size pa ps),
    Calls Try.prog 49 #[.agg #[.int .i64 c.t, .int .i64 c.wd, .int .i64 c.s, .int .i64 c.g, .int .i64 c.r, .int .i64 c.cp, .int .i64 c.f, .slice ma mem.length mc, .slice ja jobs.length jc], .slice pa ps.length pc] w (AccIs w (accs c mem jobs ps))
def NumsGood : Prop := ∀ {c : Cfg} {mem : List Int} {jobs : List (Int × List InsD)} (S : SetupOk c mem jobs) (ps : List PickD) (hps : ps.length ≤ 2 ^ 21) (ma ja pa : Option Addr) (mc jc pc : Nat) (w : World)
    (hm : Ints w w.heap.size ma mem) (hj : JobsRep w w.heap.size ja jobs) (hp : PicksIn w w.heap.size pa ps),
    Calls Try.prog 36 #[.agg #[.int .i64 c.t, .int .i64 c.wd, .int .i64 c.s, .int .i64 c.g, .int .i64 c.r, .int .i64 c.cp, .int .i64 c.f, .slice ma mem.length mc, .slice ja jobs.length jc], .slice pa ps.length pc] w fun e w' =>
      ∃ (la : Option Addr) (lc : Nat), e = .returned (.slice la (cellsOf c mem jobs ps).length lc) ∧ Ints w' w'.heap.size la (cellsOf c mem jobs ps) ∧ Below w.heap.size w w'

set_option maxRecDepth 100000 in
set_option maxHeartbeats 4000000 in
theorem playGood_of (G : AccsGood) : PlayGood := by
  intro c mem jobs ps ma ja pa mc jc pc w hps hml hjl hm hj hp
  have HG : Hid AccsGood := G
  have HM : Hid (Ints w w.heap.size ma mem) := hm
  have HJ : Hid (JobsRep w w.heap.size ja jobs) := hj
  have HP : Hid (PicksIn w w.heap.size pa ps) := hp
  have HPS : Hid (ps.length ≤ 2 ^ 21) := hps
  obtain ⟨L, HL⟩ : ∃ L, Hid (playA c mem jobs ps = L) := ⟨_, rfl⟩
  obtain ⟨ER, HER⟩ : ∃ ER, Hid (errS c mem jobs = ER) := ⟨_, rfl⟩
  rw [show playA c mem jobs ps = L from HL.out, show errS c mem jobs = ER from HER.out]
  clear hm hj hp hps G
  go_enter Try.func34, Try.ntmps34
  go_wp2_with fail
  obtain ⟨w0, hw0⟩ : ∃ w0, w0 = w.alloc (.cells #[.int .i64 c.t, .int .i64 c.wd, .int .i64 c.s, .int .i64 c.g, .int .i64 c.r, .int .i64 c.cp, .int .i64 c.f, .slice ma mem.length mc, .slice ja jobs.length jc] 27) := ⟨_, rfl⟩
  have hB0 : Below w.heap.size w w0 := by rw [hw0]; exact (Below.refl w.heap.size w).alloc (Nat.le_refl _) _
  have hSb : Blk w0 w.heap.size 27 #[.int .i64 c.t, .int .i64 c.wd, .int .i64 c.s, .int .i64 c.g, .int .i64 c.r, .int .i64 c.cp, .int .i64 c.f, .slice ma mem.length mc, .slice ja jobs.length jc] := by rw [hw0]; exact Blk.new w 27 _
  have hs0 : w0.heap.size = w.heap.size + 1 := by rw [hw0]; simp
  rw [← hw0]
  clear hw0
  refine (setup_rep c mem jobs ma ja mc jc w0 hml hjl ((HM.out).up hB0) ((HJ.out).up2 hB0)).mono ?_
  rintro e w1 ⟨rfl, hb1⟩
  have hB1 : Below w.heap.size w w1 := hB0.trans (hb1.mono hB0.size)
  have hsc : ∀ i, w1.cell? ⟨w.heap.size, i, none⟩ = (#[.int .i64 c.t, .int .i64 c.wd, .int .i64 c.s, .int .i64 c.g, .int .i64 c.r, .int .i64 c.cp, .int .i64 c.f, .slice ma mem.length mc, .slice ja jobs.length jc] : Array Value)[i]? := (hSb.below hb1 (by omega)).cell
  have HB1 : Hid (Below w.heap.size w w1) := hB1
  have HM1 : Hid (Ints w1 w1.heap.size ma mem) := (HM.out).up hB1
  have HJ1 : Hid (JobsRep w1 w1.heap.size ja jobs) := (HJ.out).up2 hB1
  have HP1 : Hid (PicksIn w1 w1.heap.size pa ps) := (HP.out).up2 hB1
  clear hB0 hSb hs0 hb1 hB1 HM HJ HP
  rw [show errS c mem jobs = ER from HER.out]
  by_cases he : ER = 0
  · have hbn : (ER != 0) = false := by simp [he]
    have HLe : Hid (L = accs c mem jobs ps) := (HL.out).symm.trans (if_pos ((HER.out).trans he))
    have HSo : Hid (SetupOk c mem jobs) := (errS_ok ((HER.out).trans he)).1
    have HE0 : Hid (ER = 0) := he
    clear he HL HER
    go_wp2_with fail
    refine ((HG.out) HSo.out ps HPS.out ma ja pa mc jc pc w1 HM1.out HJ1.out HP1.out).mono ?_
    rintro e w2 ⟨la, lc, rfl, hl2, hb2⟩
    have HL2 : Hid (LogIn w2 w2.heap.size la (accs c mem jobs ps)) := hl2
    have HB2 : Hid (Below w.heap.size w w2) := (HB1.out).trans (hb2.mono (HB1.out).size)
    clear hl2 hb2 hsc hbn
    go_wp2
    exact bodyPost_ret (v := .tuple #[.slice la (accs c mem jobs ps).length lc, .int .i64 0]) (by simp [results, Try.results34, go_sem]) rfl ⟨la, lc, by rw [HLe.out, HE0.out], by rw [HLe.out]; exact HL2.out, HB2.out⟩
  · have hbn : (ER != 0) = true := by simp [he]
    have HLe : Hid (L = []) := (HL.out).symm.trans (if_neg (by rw [HER.out]; exact he))
    clear he HL HER hsc
    go_wp2
    exact bodyPost_ret (v := .tuple #[.slice none 0 0, .int .i64 ER]) (by simp [results, Try.results34, go_sem]) rfl ⟨none, 0, by rw [HLe.out]; rfl, by rw [HLe.out]; exact fun i hi => absurd hi (by simp), HB1.out⟩

set_option maxRecDepth 100000 in
set_option maxHeartbeats 4000000 in
theorem cellsGood_of (G : NumsGood) : CellsGood := by
  intro c mem jobs ps ma ja pa mc jc pc w hps hml hjl hm hj hp
  have HG : Hid NumsGood := G
  have HM : Hid (Ints w w.heap.size ma mem) := hm
  have HJ : Hid (JobsRep w w.heap.size ja jobs) := hj
  have HP : Hid (PicksIn w w.heap.size pa ps) := hp
  have HPS : Hid (ps.length ≤ 2 ^ 21) := hps
  obtain ⟨L, HL⟩ : ∃ L, Hid (cellsA c mem jobs ps = L) := ⟨_, rfl⟩
  obtain ⟨ER, HER⟩ : ∃ ER, Hid (errS c mem jobs = ER) := ⟨_, rfl⟩
  rw [show cellsA c mem jobs ps = L from HL.out, show errS c mem jobs = ER from HER.out]
  clear hm hj hp hps G
  go_enter Try.func16, Try.ntmps16
  go_wp2_with fail
  obtain ⟨w0, hw0⟩ : ∃ w0, w0 = w.alloc (.cells #[.int .i64 c.t, .int .i64 c.wd, .int .i64 c.s, .int .i64 c.g, .int .i64 c.r, .int .i64 c.cp, .int .i64 c.f, .slice ma mem.length mc, .slice ja jobs.length jc] 27) := ⟨_, rfl⟩
  have hB0 : Below w.heap.size w w0 := by rw [hw0]; exact (Below.refl w.heap.size w).alloc (Nat.le_refl _) _
  have hSb : Blk w0 w.heap.size 27 #[.int .i64 c.t, .int .i64 c.wd, .int .i64 c.s, .int .i64 c.g, .int .i64 c.r, .int .i64 c.cp, .int .i64 c.f, .slice ma mem.length mc, .slice ja jobs.length jc] := by rw [hw0]; exact Blk.new w 27 _
  have hs0 : w0.heap.size = w.heap.size + 1 := by rw [hw0]; simp
  rw [← hw0]
  clear hw0
  refine (setup_rep c mem jobs ma ja mc jc w0 hml hjl ((HM.out).up hB0) ((HJ.out).up2 hB0)).mono ?_
  rintro e w1 ⟨rfl, hb1⟩
  have hB1 : Below w.heap.size w w1 := hB0.trans (hb1.mono hB0.size)
  have hsc : ∀ i, w1.cell? ⟨w.heap.size, i, none⟩ = (#[.int .i64 c.t, .int .i64 c.wd, .int .i64 c.s, .int .i64 c.g, .int .i64 c.r, .int .i64 c.cp, .int .i64 c.f, .slice ma mem.length mc, .slice ja jobs.length jc] : Array Value)[i]? := (hSb.below hb1 (by omega)).cell
  have HB1 : Hid (Below w.heap.size w w1) := hB1
  have HM1 : Hid (Ints w1 w1.heap.size ma mem) := (HM.out).up hB1
  have HJ1 : Hid (JobsRep w1 w1.heap.size ja jobs) := (HJ.out).up2 hB1
  have HP1 : Hid (PicksIn w1 w1.heap.size pa ps) := (HP.out).up2 hB1
  clear hB0 hSb hs0 hb1 hB1 HM HJ HP
  rw [show errS c mem jobs = ER from HER.out]
  by_cases he : ER = 0
  · have hbn : (ER != 0) = false := by simp [he]
    have HLe : Hid (L = cellsOf c mem jobs ps) := (HL.out).symm.trans (if_pos ((HER.out).trans he))
    have HSo : Hid (SetupOk c mem jobs) := (errS_ok ((HER.out).trans he)).1
    have HE0 : Hid (ER = 0) := he
    clear he HL HER
    go_wp2_with fail
    refine ((HG.out) HSo.out ps HPS.out ma ja pa mc jc pc w1 HM1.out HJ1.out HP1.out).mono ?_
    rintro e w2 ⟨la, lc, rfl, hl2, hb2⟩
    have HL2 : Hid (Ints w2 w2.heap.size la (cellsOf c mem jobs ps)) := hl2
    have HB2 : Hid (Below w.heap.size w w2) := (HB1.out).trans (hb2.mono (HB1.out).size)
    clear hl2 hb2 hsc hbn
    go_wp2
    exact bodyPost_ret (v := .tuple #[.slice la (cellsOf c mem jobs ps).length lc, .int .i64 0]) (by simp [results, Try.results16, go_sem]) rfl ⟨la, lc, by rw [HLe.out, HE0.out], by rw [HLe.out]; exact HL2.out, HB2.out⟩
  · have hbn : (ER != 0) = true := by simp [he]
    have HLe : Hid (L = []) := (HL.out).symm.trans (if_neg (by rw [HER.out]; exact he))
    clear he HL HER hsc
    go_wp2
    exact bodyPost_ret (v := .tuple #[.slice none 0 0, .int .i64 ER]) (by simp [results, Try.results16, go_sem]) rfl ⟨none, 0, by rw [HLe.out]; rfl, by rw [HLe.out]; exact fun i hi => absurd hi (by simp), HB1.out⟩

end Go.Proofs.Ytgdfmmfkdmhdgaa

namespace Go.Proofs.Ytgdfmmfkdmhdgaa

theorem playGood : PlayGood := playGood_of (fun S ps hps ma ja pa mc jc pc w hm hj hp => playAccesses_any S ps hps ma ja pa mc jc pc w hm hj hp)
theorem cellsGood : CellsGood := cellsGood_of (fun S ps hps ma ja pa mc jc pc w hm hj hp => playCells_any S ps hps ma ja pa mc jc pc w hm hj hp)

end Go.Proofs.Ytgdfmmfkdmhdgaa

namespace Go.Proofs.Ytgdfmmfkdmhdgaa
open Go.RowKit
set_option linter.unusedVariables false
attribute [local go_sem ↓] Go.wp_at_zero Go.wp_at_succ

/-- Has the thread a job? -/
def worksB (jobs : List (Int × List InsD)) (t : Int) : Bool := jobs.any fun j => j.1 == t

set_option maxRecDepth 100000 in
set_option maxHeartbeats 2000000 in
theorem works_any (c : Cfg) (mem : List Int) (jobs : List (Int × List InsD)) (t : Int) (ma ja : Option Addr) (ml mc jc : Nat) (w : World) (hjl : jobs.length ≤ 2 ^ 40) (hj : JobsRep w w.heap.size ja jobs) :
    Calls Try.prog 35 #[.agg #[.int .i64 c.t, .int .i64 c.wd, .int .i64 c.s, .int .i64 c.g, .int .i64 c.r, .int .i64 c.cp, .int .i64 c.f, .slice ma ml mc, .slice ja jobs.length jc], .int .i64 t] w fun e w' =>
      e = .returned (.bool (worksB jobs t)) ∧ Below w.heap.size w w' := by
  have hB0 : Below w.heap.size w (w.alloc (.cells #[.int .i64 c.t, .int .i64 c.wd, .int .i64 c.s, .int .i64 c.g, .int .i64 c.r, .int .i64 c.cp, .int .i64 c.f, .slice ma ml mc, .slice ja jobs.length jc] 27)) := (Below.refl w.heap.size w).alloc (Nat.le_refl _) _
  obtain ⟨w0, hw0⟩ : ∃ w0, w0 = w.alloc (.cells #[.int .i64 c.t, .int .i64 c.wd, .int .i64 c.s, .int .i64 c.g, .int .i64 c.r, .int .i64 c.cp, .int .i64 c.f, .slice ma ml mc, .slice ja jobs.length jc] 27) := ⟨_, rfl⟩
  have hSb : Blk w0 w.heap.size 27 #[.int .i64 c.t, .int .i64 c.wd, .int .i64 c.s, .int .i64 c.g, .int .i64 c.r, .int .i64 c.cp, .int .i64 c.f, .slice ma ml mc, .slice ja jobs.length jc] := by rw [hw0]; exact Blk.new w 27 _
  rw [← hw0] at hB0
  have HJ : Hid (JobsRep w0 w0.heap.size ja jobs) := hj.up2 hB0
  have HB0 : Hid (Below w.heap.size w w0) := hB0
  have HSb : Hid (Blk w0 w.heap.size 27 #[.int .i64 c.t, .int .i64 c.wd, .int .i64 c.s, .int .i64 c.g, .int .i64 c.r, .int .i64 c.cp, .int .i64 c.f, .slice ma ml mc, .slice ja jobs.length jc]) := hSb
  have HW0 : Hid (w0 = w.alloc (.cells #[.int .i64 c.t, .int .i64 c.wd, .int .i64 c.s, .int .i64 c.g, .int .i64 c.r, .int .i64 c.cp, .int .i64 c.f, .slice ma ml mc, .slice ja jobs.length jc] 27)) := hw0
  obtain ⟨V, HV⟩ : ∃ V, Hid (worksB jobs t = V) := ⟨_, rfl⟩
  rw [show worksB jobs t = V from HV.out]
  have hsc := hSb.cell
  clear hj hB0 hSb hw0
  go_enter Try.func35, Try.ntmps35
  go_wp2_with fail
  rw [← show w0 = _ from HW0.out]
  clear HW0
  go_loopg [5] (jobs.length + 1) (fun m t5 wr => ∃ k : Nat, t5 = .int .i64 (k : Int) ∧ k ≤ jobs.length ∧ m = jobs.length + 1 - k ∧ wr = w0 ∧ Hid (∀ i, i < k → ((jobs.getD i (0, [])).1 == t) = false))
  case atStart => exact ⟨0, rfl, by omega, by omega, rfl, fun i hi => absurd hi (Nat.not_lt_zero _)⟩
  case round =>
    obtain ⟨k, rfl, hk, hgk, rfl, HN⟩ := hrel
    by_cases hkl : k < jobs.length
    · obtain ⟨js, h1, h2, h3⟩ := HJ.out
      obtain ⟨b, off, hja, hbl, hc0, hc1⟩ := h2 k (by omega)
      have ht := (h3 k (by omega)).1
      rw [ht] at hc0
      have hk0 : (0 : Int) ≤ (k : Int) := by omega
      have hk1 : (k : Int) < (jobs.length : Int) := by omega
      have hwk : IntKind.i64.wrap ((k : Int) + 1) = (k : Int) + 1 := wrapF _ (by omega) (by omega)
      subst hja
      clear h1 h2 h3 hc1 ht
      by_cases he : (jobs.getD k (0, [])).1 = t
      · have hbe : ((jobs.getD k (0, [])).1 == t) = true := by rw [beq_iff_eq]; exact he
        have HV1 : Hid (V = true) := by
          show V = true
          rw [← show worksB jobs t = V from HV.out]
          unfold worksB
          rw [List.any_eq_true]
          refine ⟨jobs.getD k (0, []), ?_, hbe⟩
          rw [show jobs.getD k (0, []) = jobs[k] from by simp [List.getD, List.getElem?_eq_getElem hkl]]
          exact List.getElem_mem hkl
        generalize (jobs.getD k (0, [])).1 = z at *
        clear HN HV he
        go_wp2
        go_ret
        exact ⟨by rw [HV1.out]; rfl, HB0.out⟩
      · have hbe : ((jobs.getD k (0, [])).1 == t) = false := by rw [beq_eq_false_iff_ne]; exact he
        have HN2 : Hid (∀ i, i < k + 1 → ((jobs.getD i (0, [])).1 == t) = false) := fun i hi => by
          by_cases e : i = k
          · rw [e]; exact hbe
          · exact HN.out i (by omega)
        generalize (jobs.getD k (0, [])).1 = z at *
        clear HN HV he
        go_wp2
        go_roundg (gk - 1)
        case rel => exact ⟨k + 1, by simp, by omega, by omega, rfl, HN2⟩
        case measure => omega
    · have hke : k = jobs.length := by omega
      have hk1 : ¬ (k : Int) < (jobs.length : Int) := by omega
      have HV0 : Hid (V = false) := by
        show V = false
        rw [← show worksB jobs t = V from HV.out]
        unfold worksB
        rw [List.any_eq_false]
        intro x hx
        obtain ⟨i, hi, rfl⟩ := List.mem_iff_getElem.1 hx
        have := HN.out i (by omega)
        rw [show jobs.getD i (0, []) = jobs[i] from by simp [List.getD, List.getElem?_eq_getElem hi]] at this
        simpa using this
      clear HN HV hke
      go_wp2
      go_ret
      exact ⟨by rw [HV0.out]; rfl, HB0.out⟩

/-- How a call has answered. -/
def answeredN (want e : Int) (empty : Bool) : Int := if e ≠ want then 0 else if e = 0 then 2 else if empty then 1 else 0

set_option maxRecDepth 100000 in
set_option maxHeartbeats 2000000 in
theorem answered_any (c : Cfg) (mem : List Int) (jobs : List (Int × List InsD)) (er : Int) (em : Bool) (ma ja : Option Addr) (mc jc : Nat) (w : World) (hml : mem.length ≤ maxLen) (hjl : jobs.length ≤ maxLen) (hm : Ints w w.heap.size ma mem) (hj : JobsRep w w.heap.size ja jobs) :
    Calls Try.prog 17 #[.agg #[.int .i64 c.t, .int .i64 c.wd, .int .i64 c.s, .int .i64 c.g, .int .i64 c.r, .int .i64 c.cp, .int .i64 c.f, .slice ma mem.length mc, .slice ja jobs.length jc], .int .i64 er, .bool em] w fun e w' =>
      e = .returned (.int .i64 (answeredN (errS c mem jobs) er em)) ∧ Below w.heap.size w w' := by
  have hB0 : Below w.heap.size w (w.alloc (.cells #[.int .i64 c.t, .int .i64 c.wd, .int .i64 c.s, .int .i64 c.g, .int .i64 c.r, .int .i64 c.cp, .int .i64 c.f, .slice ma mem.length mc, .slice ja jobs.length jc] 27)) := (Below.refl w.heap.size w).alloc (Nat.le_refl _) _
  have HC : Hid _ := refCheck_rep c mem jobs ma ja mc jc _ hml hjl (hm.up hB0) (hj.up2 hB0)
  have HB0 : Hid (Below w.heap.size w (w.alloc (.cells #[.int .i64 c.t, .int .i64 c.wd, .int .i64 c.s, .int .i64 c.g, .int .i64 c.r, .int .i64 c.cp, .int .i64 c.f, .slice ma mem.length mc, .slice ja jobs.length jc] 27))) := hB0
  obtain ⟨N, HNN⟩ : ∃ N, Hid (answeredN (errS c mem jobs) er em = N) := ⟨_, rfl⟩
  rw [show answeredN (errS c mem jobs) er em = N from HNN.out]
  clear hm hj hB0
  go_enter Try.func17, Try.ntmps17
  go_wp2_with fail
  refine Calls.mono HC.out ?_
  rintro e w1 ⟨rfl, hb1⟩
  have HB1 : Hid (Below w.heap.size w w1) := (HB0.out).trans (hb1.mono (HB0.out).size)
  clear hb1 HC HB0
  generalize errS c mem jobs = W at *
  by_cases h1 : er = W
  · have b1 : (er == W) = true := by simp [h1]
    have b1' : (er != W) = false := by simp [h1]
    by_cases h2 : er = 0
    · have b2 : (er == 0) = true := by simp [h2]
      have HA : Hid (N = 2) := by show N = 2; rw [← show answeredN W er em = N from HNN.out]; unfold answeredN; rw [if_neg (by simp [h1]), if_pos h2]
      clear h1 h2 HNN
      go_wp2
      go_ret
      exact ⟨by rw [HA.out]; rfl, HB1.out⟩
    · have b2 : (er == 0) = false := by simp [h2]
      cases em with
      | true =>
        have HA : Hid (N = 1) := by show N = 1; rw [← show answeredN W er true = N from HNN.out]; unfold answeredN; rw [if_neg (by simp [h1]), if_neg h2, if_pos rfl]
        clear h1 h2 HNN
        go_wp2
        go_ret
        exact ⟨by rw [HA.out]; rfl, HB1.out⟩
      | false =>
        have HA : Hid (N = 0) := by show N = 0; rw [← show answeredN W er false = N from HNN.out]; unfold answeredN; rw [if_neg (by simp [h1]), if_neg h2, if_neg (by simp)]
        clear h1 h2 HNN
        go_wp2
        go_ret
        exact ⟨by rw [HA.out]; rfl, HB1.out⟩
  · have b1 : (er == W) = false := by simp [h1]
    have b1' : (er != W) = true := by simp [h1]
    have HA : Hid (N = 0) := by show N = 0; rw [← show answeredN W er em = N from HNN.out]; unfold answeredN; rw [if_pos h1]
    clear h1 HNN
    go_wp2
    go_ret
    exact ⟨by rw [HA.out]; rfl, HB1.out⟩

end Go.Proofs.Ytgdfmmfkdmhdgaa
