import Derived.Test.YtejadojilncbjabH49
import Derived.Test.YtejadojilncbjabH24
import Derived.Test.YtejadojilncbjabH48
namespace Go.Proofs.Ytejadojilncbjab
open Go.RowKit
set_option linter.unusedVariables false
attribute [local go_sem ↓] Go.wp_at_zero Go.wp_at_succ

set_option maxRecDepth 100000 in
set_option maxHeartbeats 2000000 in
theorem playJobs_any {c : Cfg} {mem : List Int} {jobs : List (Int × List InsD)} (S : SetupOk c mem jobs) (hjt : ∀ j ∈ jobs, 0 ≤ j.1 ∧ j.1 < c.t) (ps : List PickD) (hps : ps.length ≤ 2 ^ 23) (ma ja pa : Option Addr) (mc jc pc : Nat) (w : World)
    (hm : Ints w w.heap.size ma mem) (hj : JobsRep w w.heap.size ja jobs) (hp : PicksIn w w.heap.size pa ps) :
    Calls Try.prog 15 #[.agg #[.int .i64 c.t, .int .i64 c.wd, .int .i64 c.s, .int .i64 c.g, .int .i64 c.r, .int .i64 c.cp, .int .i64 c.f, .slice ma mem.length mc, .slice ja jobs.length jc], .slice pa ps.length pc] w (ResIs w (jobsOf c mem jobs ps)) := by
  have HS : Hid (SetupOk c mem jobs ∧ ∀ j ∈ jobs, 0 ≤ j.1 ∧ j.1 < c.t) := ⟨S, hjt⟩
  obtain ⟨RS, HRS⟩ : ∃ RS, Hid (jobsOf c mem jobs ps = RS) := ⟨_, rfl⟩
  have hRl : RS.length = jobs.length := by rw [← HRS.out]; simp [jobsOf]
  have HRl : Hid (RS.length = jobs.length) := hRl
  rw [show jobsOf c mem jobs ps = RS from HRS.out]
  have hps' : ps.length ≤ 8388608 := hps
  have hB1 : Below w.heap.size w (w.alloc (.cells #[.int .i64 c.t, .int .i64 c.wd, .int .i64 c.s, .int .i64 c.g, .int .i64 c.r, .int .i64 c.cp, .int .i64 c.f, .slice ma mem.length mc, .slice ja jobs.length jc] 27)) := (Below.refl w.heap.size w).alloc (Nat.le_refl _) _
  have HB1 : Hid (Below w.heap.size w (w.alloc (.cells #[.int .i64 c.t, .int .i64 c.wd, .int .i64 c.s, .int .i64 c.g, .int .i64 c.r, .int .i64 c.cp, .int .i64 c.f, .slice ma mem.length mc, .slice ja jobs.length jc] 27))) := hB1
  have HSb : Hid (Blk (w.alloc (.cells #[.int .i64 c.t, .int .i64 c.wd, .int .i64 c.s, .int .i64 c.g, .int .i64 c.r, .int .i64 c.cp, .int .i64 c.f, .slice ma mem.length mc, .slice ja jobs.length jc] 27)) w.heap.size 27 #[.int .i64 c.t, .int .i64 c.wd, .int .i64 c.s, .int .i64 c.g, .int .i64 c.r, .int .i64 c.cp, .int .i64 c.f, .slice ma mem.length mc, .slice ja jobs.length jc]) := Blk.new w 27 _
  have HJ1 : Hid (JobsRep (w.alloc (.cells #[.int .i64 c.t, .int .i64 c.wd, .int .i64 c.s, .int .i64 c.g, .int .i64 c.r, .int .i64 c.cp, .int .i64 c.f, .slice ma mem.length mc, .slice ja jobs.length jc] 27)) (w.alloc (.cells #[.int .i64 c.t, .int .i64 c.wd, .int .i64 c.s, .int .i64 c.g, .int .i64 c.r, .int .i64 c.cp, .int .i64 c.f, .slice ma mem.length mc, .slice ja jobs.length jc] 27)).heap.size ja jobs) := hj.up2 hB1
  have HC : Hid (Calls Try.prog 22 #[.agg #[.int .i64 c.t, .int .i64 c.wd, .int .i64 c.s, .int .i64 c.g, .int .i64 c.r, .int .i64 c.cp, .int .i64 c.f, .slice ma mem.length mc, .slice ja jobs.length jc], .slice pa ps.length pc] (w.alloc (.cells #[.int .i64 c.t, .int .i64 c.wd, .int .i64 c.s, .int .i64 c.g, .int .i64 c.r, .int .i64 c.cp, .int .i64 c.f, .slice ma mem.length mc, .slice ja jobs.length jc] 27)) (BehindIs c mem jobs ps (w.alloc (.cells #[.int .i64 c.t, .int .i64 c.wd, .int .i64 c.s, .int .i64 c.g, .int .i64 c.r, .int .i64 c.cp, .int .i64 c.f, .slice ma mem.length mc, .slice ja jobs.length jc] 27)))) :=
    behind_any S ps hps ma ja pa mc jc pc _ (hm.up hB1) (hj.up2 hB1) (hp.up2 hB1)
  have hs1 : (w.alloc (.cells #[.int .i64 c.t, .int .i64 c.wd, .int .i64 c.s, .int .i64 c.g, .int .i64 c.r, .int .i64 c.cp, .int .i64 c.f, .slice ma mem.length mc, .slice ja jobs.length jc] 27)).heap.size = w.heap.size + 1 := by simp
  have hmk := run_make35 jobs.length S.j8
  have hj8 := S.j8
  clear hm hj hp S hps hB1 hjt hRl
  go_enter Try.func15, Try.ntmps15
  go_wp2_with fail
  generalize w.alloc (.cells #[.int .i64 c.t, .int .i64 c.wd, .int .i64 c.s, .int .i64 c.g, .int .i64 c.r, .int .i64 c.cp, .int .i64 c.f, .slice ma mem.length mc, .slice ja jobs.length jc] 27) = w1 at *
  refine (HC.out).mono ?_
  rintro e w2 ⟨nb, p, cap, tcap, q, Ds, X, rfl, hW, hM, hb2⟩
  obtain ⟨cb, hcb⟩ : ∃ cb, cb = w2.heap.size := ⟨_, rfl⟩
  have hB3 : Below w2.heap.size w2 (w2.alloc (.cells #[.slice (some ⟨nb, 0, none⟩) Ds.length cap, .slice (some ⟨p, 0, none⟩) q.length tcap, .int .i64 (ps.length : Int)] 60)) := (Below.refl _ _).alloc (Nat.le_refl _) _
  have W3 := hW _ cb hB3 (by rw [hcb]; exact Blk.new w2 60 _) (by rw [hcb]; exact hb2.size)
  have HW3 : Hid (WR w1.heap.size p nb cb cap tcap (ps.length : Int) X (w2.alloc (.cells #[.slice (some ⟨nb, 0, none⟩) Ds.length cap, .slice (some ⟨p, 0, none⟩) q.length tcap, .int .i64 (ps.length : Int)] 60)) q Ds) := W3
  have HM3 : Hid (SimW c jobs (ps.length : Int) (gAt c mem jobs ps ps.length) q Ds) := hM
  have HB3 : Hid (Below w1.heap.size w1 (w2.alloc (.cells #[.slice (some ⟨nb, 0, none⟩) Ds.length cap, .slice (some ⟨p, 0, none⟩) q.length tcap, .int .i64 (ps.length : Int)] 60))) := hb2.trans (hB3.mono hb2.size)
  clear hW hM hB3 hb2 W3 HC
  go_upto_region 2 with fail
  rw [← hcb]
  clear hcb
  generalize w2.alloc (.cells #[.slice (some ⟨nb, 0, none⟩) Ds.length cap, .slice (some ⟨p, 0, none⟩) q.length tcap, .int .i64 (ps.length : Int)] 60) = w3 at *
  have hs3 : ∀ i, w3.cell? ⟨w.heap.size, i, none⟩ = (#[.int .i64 c.t, .int .i64 c.wd, .int .i64 c.s, .int .i64 c.g, .int .i64 c.r, .int .i64 c.cp, .int .i64 c.f, .slice ma mem.length mc, .slice ja jobs.length jc] : Array Value)[i]? := ((HSb.out).below HB3.out (by omega)).cell
  obtain ⟨ob, hob⟩ : ∃ ob, ob = w3.heap.size := ⟨_, rfl⟩
  obtain ⟨Z, hZ⟩ : ∃ Z, Z = ((List.replicate jobs.length (⟨0, 0, 0, 0, 0⟩ : ResD)).flatMap resCells).toArray := ⟨_, rfl⟩
  rw [← hZ] at hmk
  have hB4 : Below w3.heap.size w3 (w3.alloc (.cells Z 51)) := (Below.refl _ _).alloc (Nat.le_refl _) _
  have HW4 : Hid (WR w1.heap.size p nb cb cap tcap (ps.length : Int) X (w3.alloc (.cells Z 51)) q Ds) := (HW3.out).below hB4
  have HB4 : Hid (Below w1.heap.size w1 (w3.alloc (.cells Z 51))) := (HB3.out).trans (hB4.mono (HB3.out).size)
  have HO4 : Hid (Blk (w3.alloc (.cells Z 51)) ob 51 ((resPad RS 0).flatMap resCells).toArray) := by
    show Blk _ _ _ _
    rw [hob, resPad_zero, HRl.out, ← hZ]
    exact Blk.new w3 51 _
  have HOb : Hid (w1.heap.size ≤ ob ∧ p ≠ ob ∧ nb ≠ ob ∧ cb ≠ ob ∧ ¬ OwnW q ob) := by
    have h1 := (HW3.out).thr.lt
    have h2 := (HW3.out).num.lt
    have h3 := (HW3.out).wst.lt
    exact ⟨by rw [hob]; exact (HB3.out).size, by omega, by omega, by omega, fun o => by have := (HW3.out).ownW ob o; omega⟩
  have hwn : w.heap.size ≠ ob := by have := (HB3.out).size; omega
  have hwl : w.heap.size < w3.heap.size := by have := (HB3.out).size; omega
  clear HW3 HB3 hB4 hZ
  go_upto_region 3 with fail
  rw [← hob]
  clear hob hmk
  generalize w3.alloc (.cells Z 51) = w4 at *
  have hs4 : ∀ i, w4.cell? ⟨w.heap.size, i, none⟩ = (#[.int .i64 c.t, .int .i64 c.wd, .int .i64 c.s, .int .i64 c.g, .int .i64 c.r, .int .i64 c.cp, .int .i64 c.f, .slice ma mem.length mc, .slice ja jobs.length jc] : Array Value)[i]? := ((HSb.out).below HB4.out (by omega)).cell
  clear hs3 hwl
  go_wp2_with fail
  clear hs4
  go_loopg [19] (jobs.length + 1) (fun m t19 wr => ∃ (k : Nat), t19 = .int .i64 (k : Int) ∧ k ≤ jobs.length ∧ m = jobs.length + 1 - k ∧ Hid (WR w1.heap.size p nb cb cap tcap (ps.length : Int) X wr q Ds) ∧ Hid (Below w1.heap.size w1 wr) ∧ Hid (Blk wr ob 51 ((resPad RS k).flatMap resCells).toArray))
  case atStart => exact ⟨0, rfl, by omega, by omega, HW4, HB4, HO4⟩
  case round =>
    obtain ⟨k, rfl, hk, hgk, HW, HB, HO⟩ := hrel
    clear HW4 HB4 HO4
    by_cases hkl : k < jobs.length
    · obtain ⟨js, hj1, hj2, hj3⟩ := (HJ1.out).up HB.out
      obtain ⟨jb, joff, hja, hjb, hjc0, hjc1⟩ := hj2 k (by omega)
      have hjt3 := (hj3 k (by omega)).1
      obtain ⟨th, hth⟩ : ∃ th, th = (jobs.getD k (0, [])).1 := ⟨_, rfl⟩
      rw [hjt3, ← hth] at hjc0
      have hmem : jobs.getD k (0, []) ∈ jobs := by
        rw [show jobs.getD k (0, []) = jobs[k] from by simp [List.getD, List.getElem?_eq_getElem hkl]]
        exact List.getElem_mem hkl
      have hthr := (HS.out).2 _ hmem
      rw [← hth] at hthr
      obtain ⟨ti, hti⟩ := Int.eq_ofNat_of_zero_le hthr.1
      have hql := (HM3.out).len
      have htq : ti < q.length := by omega
      have S1 := (HM3.out).sim ti htq
      have O1 := (HM3.out).own ti htq
      have hres : (Tol (cxOf c jobs ti) q[ti].1 ((gAt c mem jobs ps ps.length).th ti)) := S1.tol
      have hrk : RS.getD k noRes = ((gAt c mem jobs ps ps.length).th (ti : Int)).ends.getD k noRes := by
        rw [← HRS.out]
        unfold jobsOf
        simp only [List.getD, List.getElem?_map, List.getElem?_range hkl, Option.map_some, Option.getD_some]
        rw [show (jobs[k]?.getD (0, [])).1 = (ti : Int) from by rw [← hti, hth]; rfl]
      have hT := TolF.result hres k
      rw [← hrk] at hT
      obtain ⟨r, hr⟩ : ∃ r, r = RS.getD k noRes := ⟨_, rfl⟩
      rw [← hr] at hT
      have HNx : Hid (resPad RS (k + 1) = (resPad RS k).set k r) := by
        show _ = _
        rw [hr]
        exact resPad_next RS k (by rw [HRl.out]; exact hkl)
      obtain ⟨ca, hca⟩ : ∃ ca, ca = (jobAt js k).a := ⟨_, rfl⟩
      obtain ⟨cl, hcl⟩ : ∃ cl, cl = (jobAt js k).len := ⟨_, rfl⟩
      obtain ⟨cc, hcc⟩ : ∃ cc, cc = (jobAt js k).cap := ⟨_, rfl⟩
      rw [← hca, ← hcl, ← hcc] at hjc1
      have hBa : Below wr.heap.size wr (wr.alloc (.cells #[.int .i64 th, .slice ca cl cc] 45)) := (Below.refl _ _).alloc (Nat.le_refl _) _
      have HWa : Hid (WR w1.heap.size p nb cb cap tcap (ps.length : Int) X (wr.alloc (.cells #[.int .i64 th, .slice ca cl cc] 45)) q Ds) := (HW.out).below hBa
      have HBa : Hid (Below w1.heap.size w1 (wr.alloc (.cells #[.int .i64 th, .slice ca cl cc] 45))) := (HB.out).trans (hBa.mono (HB.out).size)
      have HOa : Hid (Blk (wr.alloc (.cells #[.int .i64 th, .slice ca cl cc] 45)) ob 51 ((resPad RS k).flatMap resCells).toArray) := (HO.out).alloc _
      have HRc : Hid (Calls Try.prog 23 #[.pointer (some ⟨p, ti * 47, none⟩), .int .i64 (k : Int)] (wr.alloc (.cells #[.int .i64 th, .slice ca cl cc] 45)) fun e w' => e = .returned (.agg #[.int .i64 r.fate, .int .i64 r.r0, .int .i64 r.r1, .int .i64 r.r2, .int .i64 r.r3]) ∧ Below (wr.alloc (.cells #[.int .i64 th, .slice ca cl cc] 45)).heap.size (wr.alloc (.cells #[.int .i64 th, .slice ca cl cc] 45)) w') :=
        t_result w1.heap.size p (ti * 47) _ _ q[ti].1 q[ti].2 _ ((HWa.out).tr ti htq) (by have := hres.rl; have := hres.cu; have := O1.mine; omega) (by have := hres.rl; have := hres.cu; omega) (k : Int) r hT.1 hT.2
      have m1 : wr.cell? ⟨cb, 1, none⟩ = some (.slice (some ⟨p, 0, none⟩) q.length tcap) := by rw [(HW.out).wst.cell]; rfl
      have hcbl : cb < wr.heap.size := (HW.out).wst.lt
      have hcbn : cb ≠ wr.heap.size := by omega
      have hk0 : (0 : Int) ≤ (k : Int) := by omega
      have hk1 : (k : Int) < (jobs.length : Int) := by omega
      have ht0 : (0 : Int) ≤ th := hthr.1
      have ht1 : th < (q.length : Int) := by omega
      have hwk : IntKind.i64.wrap ((k : Int) + 1) = (k : Int) + 1 := wrapP _ (by omega) (by omega)
      have hjbl : jb < wr.heap.size := Nat.lt_of_lt_of_le hjb (HB.out).size
      have HKr : Hid (k < RS.length) := by show _ < _; rw [HRl.out]; exact hkl
      subst hja
      have hto : th.toNat = ti := by omega
      clear HW HB HO hres hT hr hrk S1 O1 hj1 hj2 hj3 hjt3 hmem hthr hti hth hca hcl hcc hBa
      go_wp2_with fail
      clear hjc0 hjc1 m1
      refine (HRc.out).mono ?_
      rintro e w5 ⟨rfl, hb5⟩
      have HW5 : Hid (WR w1.heap.size p nb cb cap tcap (ps.length : Int) X w5 q Ds) := (HWa.out).below hb5
      have HB5 : Hid (Below w1.heap.size w1 w5) := (HBa.out).trans (hb5.mono (HBa.out).size)
      have HO5 : Hid (Blk w5 ob 51 ((resPad RS k).flatMap resCells).toArray) := (HOa.out).below hb5 (HOa.out).lt
      obtain ⟨k0, k1, k2, k3, k4⟩ := res_cells HO5.out k (by rw [resPad_len RS k (by have := HKr.out; omega)]; exact HKr.out)
      have of := (HO5.out).frozen
      clear hb5 HRc HWa HBa HOa
      go_wp2_with fail
      have ho6 : Only ob w5 (((((w5.setCell ⟨ob, k * 5, none⟩ (.int .i64 r.fate)).setCell ⟨ob, k * 5 + 1, none⟩ (.int .i64 r.r0)).setCell ⟨ob, k * 5 + 2, none⟩ (.int .i64 r.r1)).setCell ⟨ob, k * 5 + 3, none⟩ (.int .i64 r.r2)).setCell ⟨ob, k * 5 + 4, none⟩ (.int .i64 r.r3)) := (((((Only.refl _ _).set).set).set).set).set
      obtain ⟨o1, o2, o3, o4, o5⟩ := HOb.out
      go_roundg (gk - 1)
      case rel => exact ⟨k + 1, by simp, by omega, by omega, (HW5.out).apart2 ho6 o2 o3 o4 o5, below_onto HB5.out ho6 o1 (HB5.out).size, by rw [HNx.out]; exact res_store HO5.out k (by rw [resPad_len RS k (by have := HKr.out; omega)]; exact HKr.out) r⟩
      case measure => omega
    · have hkj : k = jobs.length := by omega
      subst hkj
      have hk2 : ¬ ((jobs.length : Int) < (jobs.length : Int)) := by omega
      have HR : Hid (wr.ownsRow w.heap.size 51 5 (.slice (some ⟨ob, 0, none⟩) RS.length jobs.length) RS.length (RS.flatMap resCells)) := by
        have h1 := HO.out
        rw [show jobs.length = RS.length from (HRl.out).symm, resPad_all] at h1
        rw [show jobs.length = RS.length from (HRl.out).symm]
        exact row_of_blk h1 (by have := (HOb.out).1; omega) (flat_len (f := resCells) (n := 5) (fun _ => rfl) RS) (by unfold maxLen; have := HRl.out; omega)
      have HF : Hid (Below w.heap.size w wr) := (HB1.out).trans ((HB.out).mono (HB1.out).size)
      have HLl : Hid (jobs.length = RS.length) := (HRl.out).symm
      clear HW HB HO
      go_wp2_with fail
      go_ret
      exact ⟨some ⟨ob, 0, none⟩, jobs.length, by have := HLl.out; simp [this], HR.out, HF.out⟩

end Go.Proofs.Ytejadojilncbjab

namespace Go.Proofs.Ytejadojilncbjab
open Go.RowKit
set_option linter.unusedVariables false
attribute [local go_sem ↓] Go.wp_at_zero Go.wp_at_succ

theorem setup_rep (c : Cfg) (mem : List Int) (jobs : List (Int × List InsD)) (ma ja : Option Addr) (mc jc : Nat) (w : World) (hml : mem.length ≤ maxLen) (hjl : jobs.length ≤ maxLen) (hm : Ints w w.heap.size ma mem) (hj : JobsRep w w.heap.size ja jobs) :
    Calls Try.prog 14 #[.agg #[.int .i64 c.t, .int .i64 c.wd, .int .i64 c.s, .int .i64 c.g, .int .i64 c.r, .int .i64 c.cp, .int .i64 c.f, .slice ma mem.length mc, .slice ja jobs.length jc]] w fun e w' =>
      e = .returned (.int .i64 (errS c mem jobs)) ∧ Below w.heap.size w w' := by
  obtain ⟨js, h1, h2, h3⟩ := hj
  have := setup_core c.t c.wd c.s c.g c.r c.cp c.f ma mem.length mc mem ja jobs.length jc js w rfl hml hm h1 hjl h2
  rw [show (⟨c.t, c.wd, c.s, c.g, c.r, c.cp, c.f⟩ : Cfg) = c from rfl, check_err h1 (fun i hi => ⟨(h3 i hi).1, (h3 i hi).2.1⟩)] at this
  exact this

end Go.Proofs.Ytejadojilncbjab

namespace Go.Proofs.Ytejadojilncbjab
open Go.RowKit
set_option linter.unusedVariables false
attribute [local go_sem ↓] Go.wp_at_zero Go.wp_at_succ

set_option maxRecDepth 100000 in
set_option maxHeartbeats 4000000 in
theorem jobsGood : JobsGood := by
  intro c mem jobs ps ma ja pa mc jc pc w hps hml hjl hm hj hp
  have HM : Hid (Ints w w.heap.size ma mem) := hm
  have HJ : Hid (JobsRep w w.heap.size ja jobs) := hj
  have HP : Hid (PicksIn w w.heap.size pa ps) := hp
  have HPS : Hid (ps.length ≤ 2 ^ 23) := hps
  obtain ⟨L, HL⟩ : ∃ L, Hid (jobsA c mem jobs ps = L) := ⟨_, rfl⟩
  obtain ⟨ER, HER⟩ : ∃ ER, Hid (errS c mem jobs = ER) := ⟨_, rfl⟩
  rw [show jobsA c mem jobs ps = L from HL.out, show errS c mem jobs = ER from HER.out]
  clear hm hj hp hps
  go_enter Try.func6, Try.ntmps6
  go_wp2_with fail
  obtain ⟨w0, hw0⟩ : ∃ w0, w0 = w.alloc (.cells #[.int .i64 c.t, .int .i64 c.wd, .int .i64 c.s, .int .i64 c.g, .int .i64 c.r, .int .i64 c.cp, .int .i64 c.f, .slice ma mem.length mc, .slice ja jobs.length jc] 27) := ⟨_, rfl⟩
  have hB0 : Below w.heap.size w w0 := by rw [hw0]; exact (Below.refl w.heap.size w).alloc (Nat.le_refl _) _
  have hSb : Blk w0 w.heap.size 27 #[.int .i64 c.t, .int .i64 c.wd, .int .i64 c.s, .int .i64 c.g, .int .i64 c.r, .int .i64 c.cp, .int .i64 c.f, .slice ma mem.length mc, .slice ja jobs.length jc] := by rw [hw0]; exact Blk.new w 27 _
  have hs0 : w0.heap.size = w.heap.size + 1 := by rw [hw0]; simp
  rw [← hw0]
  clear hw0
  refine (setup_rep c mem jobs ma ja mc jc w0 hml hjl ((HM.out).up hB0) ((HJ.out).up2 hB0)).mono ?_
  rintro e w1 ⟨rfl, hb1⟩
  have hB1 : Below w.heap.size w w1 := hB0.trans (hb1.mono hB0.size)
  have hsc : ∀ i, w1.cell? ⟨w.heap.size, i, none⟩ = (#[.int .i64 c.t, .int .i64 c.wd, .int .i64 c.s, .int .i64 c.g, .int .i64 c.r, .int .i64 c.cp, .int .i64 c.f, .slice ma mem.length mc, .slice ja jobs.length jc] : Array Value)[i]? := (hSb.below hb1 (by omega)).cell
  have HB1 : Hid (Below w.heap.size w w1) := hB1
  have HM1 : Hid (Ints w1 w1.heap.size ma mem) := (HM.out).up hB1
  have HJ1 : Hid (JobsRep w1 w1.heap.size ja jobs) := (HJ.out).up2 hB1
  have HP1 : Hid (PicksIn w1 w1.heap.size pa ps) := (HP.out).up2 hB1
  clear hB0 hSb hs0 hb1 hB1 HM HJ HP
  rw [show errS c mem jobs = ER from HER.out]
  by_cases he : ER = 0
  · have hbn : (ER != 0) = false := by simp [he]
    have HLe : Hid (L = jobsOf c mem jobs ps) := (HL.out).symm.trans (if_pos ((HER.out).trans he))
    have HSo : Hid (SetupOk c mem jobs ∧ ∀ j ∈ jobs, 0 ≤ j.1 ∧ j.1 < c.t) := errS_ok ((HER.out).trans he)
    have HE0 : Hid (ER = 0) := he
    clear he HL HER
    go_wp2_with fail
    refine (playJobs_any (HSo.out).1 (HSo.out).2 ps HPS.out ma ja pa mc jc pc w1 HM1.out HJ1.out HP1.out).mono ?_
    rintro e w2 ⟨la, lc, rfl, hl2, hb2⟩
    have HL2 : Hid (w2.ownsRow w.heap.size 51 5 (.slice la (jobsOf c mem jobs ps).length lc) (jobsOf c mem jobs ps).length ((jobsOf c mem jobs ps).flatMap resCells)) := ownsRow_low hl2 (HB1.out).size
    have HB2 : Hid (Below w.heap.size w w2) := (HB1.out).trans (hb2.mono (HB1.out).size)
    clear hl2 hb2 hsc hbn
    go_wp2
    exact bodyPost_ret (v := .tuple #[.slice la (jobsOf c mem jobs ps).length lc, .int .i64 0]) (by simp [results, Try.results6, go_sem]) rfl ⟨la, lc, by rw [HLe.out, HE0.out], by rw [HLe.out]; exact HL2.out, HB2.out⟩
  · have hbn : (ER != 0) = true := by simp [he]
    have HLe : Hid (L = []) := (HL.out).symm.trans (if_neg (by rw [HER.out]; exact he))
    clear he HL HER hsc
    go_wp2
    exact bodyPost_ret (v := .tuple #[.slice none 0 0, .int .i64 ER]) (by simp [results, Try.results6, go_sem]) rfl ⟨none, 0, by rw [HLe.out]; rfl, by rw [HLe.out]; exact World.ownsRow_nil _ _ _ _, HB1.out⟩

end Go.Proofs.Ytejadojilncbjab

namespace Go.Proofs.Ytejadojilncbjab
open Go.RowKit
set_option linter.unusedVariables false
attribute [local go_sem ↓] Go.wp_at_zero Go.wp_at_succ

/-- What finished tells. -/
def FinIs (R : List ResD) (w : World) (e : Ending) (w' : World) : Prop := (∃ b : Bool, e = .returned (.bool b) ∧ ((∀ j, j < R.length → 1 ≤ (R.getD j noRes).fate ∧ (R.getD j noRes).fate ≤ 4) → b = true)) ∧ w' = w

set_option maxHeartbeats 1000000 in
/-- The keepers' finished. -/
theorem finished_any (R : List ResD) (ra : Option Addr) (rc : Nat) (w : World) (hn : R.length ≤ 2 ^ 40) (hr : ResIn w w.heap.size ra R) :
    Calls Try.prog 9 #[.slice ra R.length rc] w (FinIs R w) := by
  have HR : Hid (ResIn w w.heap.size ra R) := hr
  clear hr
  go_enter Try.func9, Try.ntmps9
  go_wp2
  go_loopg [3] (R.length + 1) (fun m t wr => ∃ k : Nat, t = .int .i64 (k : Int) ∧ k ≤ R.length ∧ m = R.length + 1 - k ∧ Hid (wr = w))
  case atStart => exact ⟨0, rfl, by omega, by omega, rfl⟩
  case round =>
    obtain ⟨k, rfl, hk, hgk, HW⟩ := hrel
    obtain rfl : wr = w := HW.out
    by_cases hlt : k < R.length
    · obtain ⟨b, hb, hbl, h0, _⟩ := HR.out k hlt
      have hk0 : (0 : Int) ≤ (k : Int) := by omega
      have hk1 : (k : Int) < (R.length : Int) := by omega
      have hwk : IntKind.i64.wrap ((k : Int) + 1) = (k : Int) + 1 := wrapF _ (by omega) (by omega)
      subst hb
      obtain ⟨f, hf⟩ : ∃ f, f = (R.getD k noRes).fate := ⟨_, rfl⟩
      rw [← hf] at h0
      have HF : Hid (f = (R.getD k noRes).fate) := hf
      clear hf
      by_cases h1 : f < 1
      · go_wp2
        go_ret
        exact ⟨⟨false, rfl, fun h => by have := h k hlt; rw [← HF.out] at this; omega⟩, rfl⟩
      · by_cases h2 : f > 4
        · go_wp2
          go_ret
          exact ⟨⟨false, rfl, fun h => by have := h k hlt; rw [← HF.out] at this; omega⟩, rfl⟩
        · go_wp2
          go_roundg (gk - 1)
          case rel => exact ⟨k + 1, by simp, by omega, by omega, rfl⟩
          case measure => omega
    · have hke : ¬ (k : Int) < (R.length : Int) := by omega
      go_wp2
      go_ret
      exact ⟨⟨true, rfl, fun _ => rfl⟩, rfl⟩

set_option maxRecDepth 100000 in
set_option maxHeartbeats 1000000 in
theorem calm_walk (G : JobsGood) (c : Cfg) (mem : List Int) (jobs : List (Int × List InsD)) (ps os : List PickD) (ma ja pa qa : Option Addr) (mc jc pc qc : Nat) (w : World) (hps : ps.length ≤ 2 ^ 21) (hos : os.length ≤ 2 ^ 40) (hml : mem.length ≤ maxLen) (hjl : jobs.length ≤ maxLen)
    (hm : Ints w w.heap.size ma mem) (hj : JobsRep w w.heap.size ja jobs) (hp : PicksIn w w.heap.size pa ps) (hq : PicksIn w w.heap.size qa os) :
    Calls Try.prog 3 #[.agg #[.int .i64 c.t, .int .i64 c.wd, .int .i64 c.s, .int .i64 c.g, .int .i64 c.r, .int .i64 c.cp, .int .i64 c.f, .slice ma mem.length mc, .slice ja jobs.length jc], .slice pa ps.length pc, .slice qa os.length qc] w fun e w' => e = .returned (.bool true) ∧ Below w.heap.size w w' := by
  have HM : Hid (Ints w w.heap.size ma mem) := hm
  have HJ : Hid (JobsRep w w.heap.size ja jobs) := hj
  have HP : Hid (PicksIn w w.heap.size pa ps) := hp
  have HQ : Hid (PicksIn w w.heap.size qa os) := hq
  have HG : Hid JobsGood := G
  have HN : Hid (ps.length ≤ 2097152 ∧ os.length ≤ 2 ^ 40) := ⟨hps, hos⟩
  obtain ⟨ER, HER⟩ : ∃ ER, Hid (errS c mem jobs = ER) := ⟨_, rfl⟩
  clear hm hj hp hq G hps hos
  go_enter Try.func3, Try.ntmps3
  go_wp2_with fail
  obtain ⟨w0, hw0⟩ : ∃ w0, w0 = w.alloc (.cells #[.int .i64 c.t, .int .i64 c.wd, .int .i64 c.s, .int .i64 c.g, .int .i64 c.r, .int .i64 c.cp, .int .i64 c.f, .slice ma mem.length mc, .slice ja jobs.length jc] 27) := ⟨_, rfl⟩
  have hB0 : Below w.heap.size w w0 := by rw [hw0]; exact (Below.refl w.heap.size w).alloc (Nat.le_refl _) _
  have hSb : Blk w0 w.heap.size 27 #[.int .i64 c.t, .int .i64 c.wd, .int .i64 c.s, .int .i64 c.g, .int .i64 c.r, .int .i64 c.cp, .int .i64 c.f, .slice ma mem.length mc, .slice ja jobs.length jc] := by rw [hw0]; exact Blk.new w 27 _
  rw [← hw0]
  clear hw0
  refine (refCheck_rep c mem jobs ma ja mc jc w0 hml hjl ((HM.out).up hB0) ((HJ.out).up2 hB0)).mono ?_
  rintro e w1 ⟨rfl, hb1⟩
  rw [show errS c mem jobs = ER from HER.out]
  have hB1 : Below w.heap.size w w1 := hB0.trans (hb1.mono hB0.size)
  have HB1 : Hid (Below w.heap.size w w1) := hB1
  have HSb1 : Hid (Blk w1 w.heap.size 27 #[.int .i64 c.t, .int .i64 c.wd, .int .i64 c.s, .int .i64 c.g, .int .i64 c.r, .int .i64 c.cp, .int .i64 c.f, .slice ma mem.length mc, .slice ja jobs.length jc]) := hSb.below hb1 hSb.lt
  clear hB0 hSb hb1 hB1
  by_cases he : ER = 0
  · have HSo : Hid (SetupOk c mem jobs ∧ ∀ j ∈ jobs, 0 ≤ j.1 ∧ j.1 < c.t) := errS_ok ((HER.out).trans he)
    have HE0 : Hid (errS c mem jobs = 0) := (HER.out).trans he
    obtain ⟨⟨t1, t2⟩, _⟩ := cfgB_true (HSo.out).1.cfg
    obtain ⟨T, hT⟩ := Int.eq_ofNat_of_zero_le (show 0 ≤ c.t by omega)
    have hT' : c.t = (T : Int) := hT
    have hT4 : T ≤ 4 := by omega
    have HT : Hid (c.t = (T : Int) ∧ T ≤ 4) := ⟨hT', hT4⟩
    have hbe : (ER != 0) = false := by simp [he]
    subst he
    clear hT hT' hT4 t1 t2 HER
    go_wp2_with fail
    clear hbe
    obtain ⟨MX, HMX⟩ : ∃ MX : Nat, Hid (524288 ≤ MX) := ⟨524288, Nat.le_refl _⟩
    go_loopg [11] (MX) (fun m t11 wr => ∃ (n : Nat), t11 = .int .i64 (n : Int) ∧ 64 ≤ n ∧ n ≤ 524288 ∧ m + n = MX + 64 ∧ Hid (Below w1.heap.size w1 wr))
    case atStart => exact ⟨64, rfl, by omega, by omega, by omega, Below.refl _ _⟩
    case round =>
      obtain ⟨n, rfl, hn1, hn2, hgn, HBx⟩ := hrel
      have hszx : w1.heap.size ≤ wr.heap.size := (HBx.out).size
      have HBw : Hid (Below w.heap.size w wr) := (HB1.out).trans ((HBx.out).mono (HB1.out).size)
      have HSx : Hid (Blk wr w.heap.size 27 #[.int .i64 c.t, .int .i64 c.wd, .int .i64 c.s, .int .i64 c.g, .int .i64 c.r, .int .i64 c.cp, .int .i64 c.f, .slice ma mem.length mc, .slice ja jobs.length jc]) := (HSb1.out).below HBx.out (HSb1.out).lt
      have hsx := (HSx.out).cell
      obtain ⟨P, hP⟩ : ∃ P, P = rndL ps os T n := ⟨_, rfl⟩
      have hPl : P.length ≤ 8388608 := by
        rw [hP, rndL_len]
        have h1 : rndW os T ≤ 5 := by have := (HT.out).2; unfold rndW; split <;> omega
        have h2 : n * rndW os T ≤ 524288 * 5 := Nat.mul_le_mul hn2 h1
        have := (HN.out).1
        omega
      have HPl : Hid (P.length ≤ 2 ^ 23) := hPl
      have HDone : Hid (405920 < n → ∀ j, j < jobs.length → 1 ≤ ((jobsOf c mem jobs P).getD j noRes).fate ∧ ((jobsOf c mem jobs P).getD j noRes).fate ≤ 4) := fun hn j hj => by
        rw [hP]
        exact calm_done (HSo.out).1.cfg (HSo.out).1.mw (HSo.out).1.mb (HSo.out).1.j8 (HSo.out).2 ps os T n (HT.out).1 hn j hj
      have hRd := rounds_any c mem jobs ps os n T (HT.out).1 (HT.out).2 (HN.out).1 hn2 (HN.out).2 ma ja pa qa mc jc pc qc wr ((HP.out).up2 HBw.out) ((HQ.out).up2 HBw.out)
      rw [← hP] at hRd
      have HRd : Hid (Calls Try.prog 8 #[.agg #[.int .i64 c.t, .int .i64 c.wd, .int .i64 c.s, .int .i64 c.g, .int .i64 c.r, .int .i64 c.cp, .int .i64 c.f, .slice ma mem.length mc, .slice ja jobs.length jc], .slice pa ps.length pc, .slice qa os.length qc, .int .i64 (n : Int)] wr fun e w' => ∃ (ra : Option Addr) (rc : Nat), e = .returned (.slice ra P.length rc) ∧ PicksIn w' w'.heap.size ra P ∧ Below wr.heap.size wr w') := hRd
      clear hRd hP hPl
      go_wp2_with fail
      clear hsx
      refine (HRd.out).mono ?_
      rintro e w3 ⟨ra, rc, rfl, hp3, hb3⟩
      have HB3 : Hid (Below w.heap.size w w3) := (HBw.out).trans (hb3.mono (HBw.out).size)
      have HS3 : Hid (Blk w3 w.heap.size 27 #[.int .i64 c.t, .int .i64 c.wd, .int .i64 c.s, .int .i64 c.g, .int .i64 c.r, .int .i64 c.cp, .int .i64 c.f, .slice ma mem.length mc, .slice ja jobs.length jc]) := (HSx.out).below hb3 (HSx.out).lt
      have HP3 : Hid (PicksIn w3 w3.heap.size ra P) := hp3
      have HC3 : Hid (Below w1.heap.size w1 w3) := (HBx.out).trans (hb3.mono hszx)
      have hs3 := (HS3.out).cell
      clear hp3 hb3 HRd HSx
      go_wp2_with fail
      clear hs3
      refine (HG.out c mem jobs P ma ja ra mc jc rc w3 HPl.out hml hjl ((HM.out).up HB3.out) ((HJ.out).up2 HB3.out) HP3.out).mono ?_
      rintro e w4 ⟨ja4, jc4, rfl, hr4, hb4⟩
      rw [show errS c mem jobs = 0 from HE0.out]
      obtain ⟨R, hR⟩ : ∃ R, R = jobsA c mem jobs P := ⟨_, rfl⟩
      have hRe : R = jobsOf c mem jobs P := hR.trans (if_pos HE0.out)
      have HRl : Hid (R.length = jobs.length) := by show _ = _; rw [hRe]; simp [jobsOf]
      rw [← hR] at hr4 ⊢
      rw [← hRe] at HDone
      have HB4 : Hid (Below w.heap.size w w4) := (HB3.out).trans (hb4.mono (HB3.out).size)
      have HS4 : Hid (Blk w4 w.heap.size 27 #[.int .i64 c.t, .int .i64 c.wd, .int .i64 c.s, .int .i64 c.g, .int .i64 c.r, .int .i64 c.cp, .int .i64 c.f, .slice ma mem.length mc, .slice ja jobs.length jc]) := (HS3.out).below hb4 (HS3.out).lt
      have HR4 : Hid (ResIn w4 w4.heap.size ja4 R) := resIn_row hr4
      have HC4 : Hid (Below w1.heap.size w1 w4) := (HC3.out).trans (hb4.mono (HC3.out).size)
      have hs4 := (HS4.out).cell
      clear hr4 hb4 hR hRe HP3 HS3 HC3 HB3
      go_wp2_with fail
      clear hs4
      refine (answered_any c mem jobs 0 _ ma ja mc jc w4 hml hjl ((HM.out).up HB4.out) ((HJ.out).up2 HB4.out)).mono ?_
      rintro e w5 ⟨rfl, hb5⟩
      rw [show errS c mem jobs = 0 from HE0.out]
      have hAn : answeredN 0 0 ((R.length : Int) == 0) = 2 := by unfold answeredN; rw [if_neg (by simp), if_pos rfl]
      rw [hAn]
      obtain ⟨RN, hRN⟩ : ∃ RN, RN = R.length := ⟨_, rfl⟩
      have HRN : Hid (RN = R.length) := hRN
      have e1 : RN = jobs.length := hRN.trans HRl.out
      rw [← hRN]
      have HB5 : Hid (Below w.heap.size w w5) := (HB4.out).trans (hb5.mono (HB4.out).size)
      have HS5 : Hid (Blk w5 w.heap.size 27 #[.int .i64 c.t, .int .i64 c.wd, .int .i64 c.s, .int .i64 c.g, .int .i64 c.r, .int .i64 c.cp, .int .i64 c.f, .slice ma mem.length mc, .slice ja jobs.length jc]) := (HS4.out).below hb5 (HS4.out).lt
      have HR5 : Hid (ResIn w5 w5.heap.size ja4 R) := (HR4.out).up hb5
      have HC5 : Hid (Below w1.heap.size w1 w5) := (HC4.out).trans (hb5.mono (HC4.out).size)
      have hs5 := (HS5.out).cell
      have HF : Hid (Calls Try.prog 9 #[.slice ja4 RN jc4] w5 (FinIs R w5)) := by
        rw [hRN]
        exact finished_any R ja4 jc4 w5 (by rw [HRl.out]; exact Nat.le_trans (HSo.out).1.j8 (by decide)) HR5.out
      clear hb5 hAn hRN HS4 HC4 HB4 HR4
      subst e1
      go_wp2_with fail
      clear hs5
      refine (HF.out).mono ?_
      rintro e w6 ⟨⟨b, rfl, hb⟩, rfl⟩
      cases b with
      | true =>
        clear hb
        go_wp2_with fail
        go_ret
        exact ⟨rfl, HB5.out⟩
      | false =>
        have hnl : ¬ 405920 < n := fun h => by
          have := hb (fun j hj => (HDone.out) h j (by rw [← show R.length = jobs.length from HRl.out]; exact hj))
          cases this
        have HNN : Hid (64 ≤ n ∧ n ≤ 524288 ∧ ¬ 405920 < n ∧ gk + n = MX + 64) := ⟨hn1, hn2, hnl, hgn⟩
        obtain ⟨z, hz⟩ : ∃ z : Int, z = (n : Int) := ⟨_, rfl⟩
        have HZ : Hid (z = (n : Int)) := hz
        have hn5 : ¬ (z ≥ 524288) := by omega
        have hw8 : IntKind.i64.wrap (8 * z) = 8 * z := wrapP _ (by omega) (by omega)
        rw [← hz]
        clear hb hn1 hn2 hnl hgn hz
        by_cases h8 : (8 * z) > 524288
        · go_wp2_with fail
          go_roundg (MX + 64 - 524288)
          case rel => exact ⟨524288, rfl, by omega, by omega, by have := HMX.out; omega, HC5⟩
          case measure => (have := HMX.out; have := HNN.out; omega)
        · have HZ8 : Hid (8 * z = ((8 * n : Nat) : Int) ∧ 8 * n ≤ 524288) := by
            have := HZ.out
            exact ⟨by omega, by omega⟩
          go_wp2_with fail
          go_roundg (MX + 64 - 8 * n)
          case rel => exact ⟨8 * n, by rw [(HZ8.out).1], by have := HNN.out; omega, (HZ8.out).2, by have := HMX.out; have := HNN.out; have := (HZ8.out).2; omega, HC5⟩
          case measure => (have := HMX.out; have := HNN.out; have := (HZ8.out).2; omega)
  · have hbe : (ER != 0) = true := by simp [he]
    have HRe : Hid (jobsA c mem jobs ps = []) := if_neg (by rw [HER.out]; exact he)
    have hs1 := (HSb1.out).cell
    go_wp2_with fail
    clear hs1
    refine (HG.out c mem jobs ps ma ja pa mc jc pc w1 (by have := (HN.out).1; omega) hml hjl ((HM.out).up HB1.out) ((HJ.out).up2 HB1.out) ((HP.out).up2 HB1.out)).mono ?_
    rintro e w4 ⟨ja4, jc4, rfl, hr4, hb4⟩
    rw [show errS c mem jobs = ER from HER.out, show jobsA c mem jobs ps = [] from HRe.out]
    have HB4 : Hid (Below w.heap.size w w4) := (HB1.out).trans (hb4.mono (HB1.out).size)
    have HS4 : Hid (Blk w4 w.heap.size 27 #[.int .i64 c.t, .int .i64 c.wd, .int .i64 c.s, .int .i64 c.g, .int .i64 c.r, .int .i64 c.cp, .int .i64 c.f, .slice ma mem.length mc, .slice ja jobs.length jc]) := (HSb1.out).below hb4 (HSb1.out).lt
    have hs4 := (HS4.out).cell
    clear hr4 hb4
    go_wp2_with fail
    clear hs4
    refine (answered_any c mem jobs ER _ ma ja mc jc w4 hml hjl ((HM.out).up HB4.out) ((HJ.out).up2 HB4.out)).mono ?_
    rintro e w5 ⟨rfl, hb5⟩
    rw [show errS c mem jobs = ER from HER.out]
    have HB5 : Hid (Below w.heap.size w w5) := (HB4.out).trans (hb5.mono (HB4.out).size)
    have hAn : answeredN ER ER true = 1 := by unfold answeredN; rw [if_neg (by simp), if_neg he]; rfl
    clear hb5
    simp only [hAn]
    go_wp2_with fail
    go_ret
    exact ⟨rfl, HB5.out⟩

end Go.Proofs.Ytejadojilncbjab
