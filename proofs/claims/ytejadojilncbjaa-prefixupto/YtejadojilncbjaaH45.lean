import Derived.Test.YtejadojilncbjaaH44
import Derived.Test.YtejadojilncbjaaH31
import Derived.Test.YtejadojilncbjaaH36
namespace Go.Proofs.Ytejadojilncbjaa
open Go.RowKit
set_option linter.unusedVariables false
attribute [local go_sem ↓] Go.wp_at_zero Go.wp_at_succ

set_option maxRecDepth 100000 in
set_option maxHeartbeats 2000000 in
theorem playJobs_any {c : Cfg} {mem : List Int} {jobs : List (Int × List InsD)} (S : SetupOk c mem jobs) (hjt : ∀ j ∈ jobs, 0 ≤ j.1 ∧ j.1 < c.t) (ps : List PickD) (hps : ps.length ≤ 2 ^ 23) (ma ja pa : Option Addr) (mc jc pc : Nat) (w : World)
    (hm : Ints w w.heap.size ma mem) (hj : JobsRep w w.heap.size ja jobs) (hp : PicksIn w w.heap.size pa ps) :
    Calls Try.prog 39 #[.agg #[.int .i64 c.t, .int .i64 c.wd, .int .i64 c.s, .int .i64 c.g, .int .i64 c.r, .int .i64 c.cp, .int .i64 c.f, .slice ma mem.length mc, .slice ja jobs.length jc], .slice pa ps.length pc] w (ResIs w (jobsOf c mem jobs ps)) := by
  have HS : Hid (SetupOk c mem jobs ∧ ∀ j ∈ jobs, 0 ≤ j.1 ∧ j.1 < c.t) := ⟨S, hjt⟩
  obtain ⟨RS, HRS⟩ : ∃ RS, Hid (jobsOf c mem jobs ps = RS) := ⟨_, rfl⟩
  have hRl : RS.length = jobs.length := by rw [← HRS.out]; simp [jobsOf]
  have HRl : Hid (RS.length = jobs.length) := hRl
  rw [show jobsOf c mem jobs ps = RS from HRS.out]
  have hps' : ps.length ≤ 8388608 := hps
  have hB1 : Below w.heap.size w (w.alloc (.cells #[.int .i64 c.t, .int .i64 c.wd, .int .i64 c.s, .int .i64 c.g, .int .i64 c.r, .int .i64 c.cp, .int .i64 c.f, .slice ma mem.length mc, .slice ja jobs.length jc] 27)) := (Below.refl w.heap.size w).alloc (Nat.le_refl _) _
  have HB1 : Hid (Below w.heap.size w (w.alloc (.cells #[.int .i64 c.t, .int .i64 c.wd, .int .i64 c.s, .int .i64 c.g, .int .i64 c.r, .int .i64 c.cp, .int .i64 c.f, .slice ma mem.length mc, .slice ja jobs.length jc] 27))) := hB1
  have HSb : Hid (Blk (w.alloc (.cells #[.int .i64 c.t, .int .i64 c.wd, .int .i64 c.s, .int .i64 c.g, .int .i64 c.r, .int .i64 c.cp, .int .i64 c.f, .slice ma mem.length mc, .slice ja jobs.length jc] 27)) w.heap.size 27 #[.int .i64 c.t, .int .i64 c.wd, .int .i64 c.s, .int .i64 c.g, .int .i64 c.r, .int .i64 c.cp, .int .i64 c.f, .slice ma mem.length mc, .slice ja jobs.length jc]) := Blk.new w 27 _
  have HJ1 : Hid (JobsRep (w.alloc (.cells #[.int .i64 c.t, .int .i64 c.wd, .int .i64 c.s, .int .i64 c.g, .int .i64 c.r, .int .i64 c.cp, .int .i64 c.f, .slice ma mem.length mc, .slice ja jobs.length jc] 27)) (w.alloc (.cells #[.int .i64 c.t, .int .i64 c.wd, .int .i64 c.s, .int .i64 c.g, .int .i64 c.r, .int .i64 c.cp, .int .i64 c.f, .slice ma mem.length mc, .slice ja jobs.length jc] 27)).heap.size ja jobs) := hj.up2 hB1
  have HC : Hid (Calls Try.prog 49 #[.agg #[.int .i64 c.t, .int .i64 c.wd, .int .i64 c.s, .int .i64 c.g, .int .i64 c.r, .int .i64 c.cp, .int .i64 c.f, .slice ma mem.length mc, .slice ja jobs.length jc], .slice pa ps.length pc] (w.alloc (.cells #[.int .i64 c.t, .int .i64 c.wd, .int .i64 c.s, .int .i64 c.g, .int .i64 c.r, .int .i64 c.cp, .int .i64 c.f, .slice ma mem.length mc, .slice ja jobs.length jc] 27)) (BehindIs c mem jobs ps (w.alloc (.cells #[.int .i64 c.t, .int .i64 c.wd, .int .i64 c.s, .int .i64 c.g, .int .i64 c.r, .int .i64 c.cp, .int .i64 c.f, .slice ma mem.length mc, .slice ja jobs.length jc] 27)))) :=
    behind_any S ps hps ma ja pa mc jc pc _ (hm.up hB1) (hj.up2 hB1) (hp.up2 hB1)
  have hs1 : (w.alloc (.cells #[.int .i64 c.t, .int .i64 c.wd, .int .i64 c.s, .int .i64 c.g, .int .i64 c.r, .int .i64 c.cp, .int .i64 c.f, .slice ma mem.length mc, .slice ja jobs.length jc] 27)).heap.size = w.heap.size + 1 := by simp
  have hmk := run_make35 jobs.length S.j8
  have hj8 := S.j8
  clear hm hj hp S hps hB1 hjt hRl
  go_enter Try.func39, Try.ntmps39
  go_wp2_with fail
  generalize w.alloc (.cells #[.int .i64 c.t, .int .i64 c.wd, .int .i64 c.s, .int .i64 c.g, .int .i64 c.r, .int .i64 c.cp, .int .i64 c.f, .slice ma mem.length mc, .slice ja jobs.length jc] 27) = w1 at *
  refine (HC.out).mono ?_
  rintro e w2 ⟨nb, p, cap, tcap, q, Ds, X, rfl, hW, hM, hb2⟩
  obtain ⟨cb, hcb⟩ : ∃ cb, cb = w2.heap.size := ⟨_, rfl⟩
  have hB3 : Below w2.heap.size w2 (w2.alloc (.cells #[.slice (some ⟨nb, 0, none⟩) Ds.length cap, .slice (some ⟨p, 0, none⟩) q.length tcap, .int .i64 (ps.length : Int)] 102)) := (Below.refl _ _).alloc (Nat.le_refl _) _
  have W3 := hW _ cb hB3 (by rw [hcb]; exact Blk.new w2 102 _) (by rw [hcb]; exact hb2.size)
  have HW3 : Hid (WR w1.heap.size p nb cb cap tcap (ps.length : Int) X (w2.alloc (.cells #[.slice (some ⟨nb, 0, none⟩) Ds.length cap, .slice (some ⟨p, 0, none⟩) q.length tcap, .int .i64 (ps.length : Int)] 102)) q Ds) := W3
  have HM3 : Hid (SimW c jobs (ps.length : Int) (gAt c mem jobs ps ps.length) q Ds) := hM
  have HB3 : Hid (Below w1.heap.size w1 (w2.alloc (.cells #[.slice (some ⟨nb, 0, none⟩) Ds.length cap, .slice (some ⟨p, 0, none⟩) q.length tcap, .int .i64 (ps.length : Int)] 102))) := hb2.trans (hB3.mono hb2.size)
  clear hW hM hB3 hb2 W3 HC
  go_upto_region 2 with fail
  rw [← hcb]
  clear hcb
  generalize w2.alloc (.cells #[.slice (some ⟨nb, 0, none⟩) Ds.length cap, .slice (some ⟨p, 0, none⟩) q.length tcap, .int .i64 (ps.length : Int)] 102) = w3 at *
  have hs3 : ∀ i, w3.cell? ⟨w.heap.size, i, none⟩ = (#[.int .i64 c.t, .int .i64 c.wd, .int .i64 c.s, .int .i64 c.g, .int .i64 c.r, .int .i64 c.cp, .int .i64 c.f, .slice ma mem.length mc, .slice ja jobs.length jc] : Array Value)[i]? := ((HSb.out).below HB3.out (by omega)).cell
  obtain ⟨ob, hob⟩ : ∃ ob, ob = w3.heap.size := ⟨_, rfl⟩
  obtain ⟨Z, hZ⟩ : ∃ Z, Z = ((List.replicate jobs.length (⟨0, 0, 0, 0, 0⟩ : ResD)).flatMap resCells).toArray := ⟨_, rfl⟩
  rw [← hZ] at hmk
  have hB4 : Below w3.heap.size w3 (w3.alloc (.cells Z 35)) := (Below.refl _ _).alloc (Nat.le_refl _) _
  have HW4 : Hid (WR w1.heap.size p nb cb cap tcap (ps.length : Int) X (w3.alloc (.cells Z 35)) q Ds) := (HW3.out).below hB4
  have HB4 : Hid (Below w1.heap.size w1 (w3.alloc (.cells Z 35))) := (HB3.out).trans (hB4.mono (HB3.out).size)
  have HO4 : Hid (Blk (w3.alloc (.cells Z 35)) ob 35 ((resPad RS 0).flatMap resCells).toArray) := by
    show Blk _ _ _ _
    rw [hob, resPad_zero, HRl.out, ← hZ]
    exact Blk.new w3 35 _
  have HOb : Hid (w1.heap.size ≤ ob ∧ p ≠ ob ∧ nb ≠ ob ∧ cb ≠ ob ∧ ¬ OwnW q ob) := by
    have h1 := (HW3.out).thr.lt
    have h2 := (HW3.out).num.lt
    have h3 := (HW3.out).wst.lt
    exact ⟨by rw [hob]; exact (HB3.out).size, by omega, by omega, by omega, fun o => by have := (HW3.out).ownW ob o; omega⟩
  have hwn : w.heap.size ≠ ob := by have := (HB3.out).size; omega
  have hwl : w.heap.size < w3.heap.size := by have := (HB3.out).size; omega
  clear HW3 HB3 hB4 hZ
  go_upto_region 3 with fail
  rw [← hob]
  clear hob hmk
  generalize w3.alloc (.cells Z 35) = w4 at *
  have hs4 : ∀ i, w4.cell? ⟨w.heap.size, i, none⟩ = (#[.int .i64 c.t, .int .i64 c.wd, .int .i64 c.s, .int .i64 c.g, .int .i64 c.r, .int .i64 c.cp, .int .i64 c.f, .slice ma mem.length mc, .slice ja jobs.length jc] : Array Value)[i]? := ((HSb.out).below HB4.out (by omega)).cell
  clear hs3 hwl
  go_wp2_with fail
  clear hs4
  go_loopg [19] (jobs.length + 1) (fun m t19 wr => ∃ (k : Nat), t19 = .int .i64 (k : Int) ∧ k ≤ jobs.length ∧ m = jobs.length + 1 - k ∧ Hid (WR w1.heap.size p nb cb cap tcap (ps.length : Int) X wr q Ds) ∧ Hid (Below w1.heap.size w1 wr) ∧ Hid (Blk wr ob 35 ((resPad RS k).flatMap resCells).toArray))
  case atStart => exact ⟨0, rfl, by omega, by omega, HW4, HB4, HO4⟩
  case round =>
    obtain ⟨k, rfl, hk, hgk, HW, HB, HO⟩ := hrel
    clear HW4 HB4 HO4
    by_cases hkl : k < jobs.length
    · obtain ⟨js, hj1, hj2, hj3⟩ := (HJ1.out).up HB.out
      obtain ⟨jb, joff, hja, hjb, hjc0, hjc1⟩ := hj2 k (by omega)
      have hjt3 := (hj3 k (by omega)).1
      obtain ⟨th, hth⟩ : ∃ th, th = (jobs.getD k (0, [])).1 := ⟨_, rfl⟩
      rw [hjt3, ← hth] at hjc0
      have hmem : jobs.getD k (0, []) ∈ jobs := by
        rw [show jobs.getD k (0, []) = jobs[k] from by simp [List.getD, List.getElem?_eq_getElem hkl]]
        exact List.getElem_mem hkl
      have hthr := (HS.out).2 _ hmem
      rw [← hth] at hthr
      obtain ⟨ti, hti⟩ := Int.eq_ofNat_of_zero_le hthr.1
      have hql := (HM3.out).len
      have htq : ti < q.length := by omega
      have S1 := (HM3.out).sim ti htq
      have O1 := (HM3.out).own ti htq
      have hres : (Tol (cxOf c jobs ti) q[ti].1 ((gAt c mem jobs ps ps.length).th ti)) := S1.tol
      have hrk : RS.getD k noRes = ((gAt c mem jobs ps ps.length).th (ti : Int)).ends.getD k noRes := by
        rw [← HRS.out]
        unfold jobsOf
        simp only [List.getD, List.getElem?_map, List.getElem?_range hkl, Option.map_some, Option.getD_some]
        rw [show (jobs[k]?.getD (0, [])).1 = (ti : Int) from by rw [← hti, hth]; rfl]
      have hT := TolF.result hres k
      rw [← hrk] at hT
      obtain ⟨r, hr⟩ : ∃ r, r = RS.getD k noRes := ⟨_, rfl⟩
      rw [← hr] at hT
      have HNx : Hid (resPad RS (k + 1) = (resPad RS k).set k r) := by
        show _ = _
        rw [hr]
        exact resPad_next RS k (by rw [HRl.out]; exact hkl)
      obtain ⟨ca, hca⟩ : ∃ ca, ca = (jobAt js k).a := ⟨_, rfl⟩
      obtain ⟨cl, hcl⟩ : ∃ cl, cl = (jobAt js k).len := ⟨_, rfl⟩
      obtain ⟨cc, hcc⟩ : ∃ cc, cc = (jobAt js k).cap := ⟨_, rfl⟩
      rw [← hca, ← hcl, ← hcc] at hjc1
      have hBa : Below wr.heap.size wr (wr.alloc (.cells #[.int .i64 th, .slice ca cl cc] 68)) := (Below.refl _ _).alloc (Nat.le_refl _) _
      have HWa : Hid (WR w1.heap.size p nb cb cap tcap (ps.length : Int) X (wr.alloc (.cells #[.int .i64 th, .slice ca cl cc] 68)) q Ds) := (HW.out).below hBa
      have HBa : Hid (Below w1.heap.size w1 (wr.alloc (.cells #[.int .i64 th, .slice ca cl cc] 68))) := (HB.out).trans (hBa.mono (HB.out).size)
      have HOa : Hid (Blk (wr.alloc (.cells #[.int .i64 th, .slice ca cl cc] 68)) ob 35 ((resPad RS k).flatMap resCells).toArray) := (HO.out).alloc _
      have HRc : Hid (Calls Try.prog 51 #[.pointer (some ⟨p, ti * 47, none⟩), .int .i64 (k : Int)] (wr.alloc (.cells #[.int .i64 th, .slice ca cl cc] 68)) fun e w' => e = .returned (.agg #[.int .i64 r.fate, .int .i64 r.r0, .int .i64 r.r1, .int .i64 r.r2, .int .i64 r.r3]) ∧ Below (wr.alloc (.cells #[.int .i64 th, .slice ca cl cc] 68)).heap.size (wr.alloc (.cells #[.int .i64 th, .slice ca cl cc] 68)) w') :=
        t_result w1.heap.size p (ti * 47) _ _ q[ti].1 q[ti].2 _ ((HWa.out).tr ti htq) (by have := hres.rl; have := hres.cu; have := O1.mine; omega) (by have := hres.rl; have := hres.cu; omega) (k : Int) r hT.1 hT.2
      have m1 : wr.cell? ⟨cb, 1, none⟩ = some (.slice (some ⟨p, 0, none⟩) q.length tcap) := by rw [(HW.out).wst.cell]; rfl
      have hcbl : cb < wr.heap.size := (HW.out).wst.lt
      have hcbn : cb ≠ wr.heap.size := by omega
      have hk0 : (0 : Int) ≤ (k : Int) := by omega
      have hk1 : (k : Int) < (jobs.length : Int) := by omega
      have ht0 : (0 : Int) ≤ th := hthr.1
      have ht1 : th < (q.length : Int) := by omega
      have hwk : IntKind.i64.wrap ((k : Int) + 1) = (k : Int) + 1 := wrapP _ (by omega) (by omega)
      have hjbl : jb < wr.heap.size := Nat.lt_of_lt_of_le hjb (HB.out).size
      have HKr : Hid (k < RS.length) := by show _ < _; rw [HRl.out]; exact hkl
      subst hja
      have hto : th.toNat = ti := by omega
      clear HW HB HO hres hT hr hrk S1 O1 hj1 hj2 hj3 hjt3 hmem hthr hti hth hca hcl hcc hBa
      go_wp2_with fail
      clear hjc0 hjc1 m1
      refine (HRc.out).mono ?_
      rintro e w5 ⟨rfl, hb5⟩
      have HW5 : Hid (WR w1.heap.size p nb cb cap tcap (ps.length : Int) X w5 q Ds) := (HWa.out).below hb5
      have HB5 : Hid (Below w1.heap.size w1 w5) := (HBa.out).trans (hb5.mono (HBa.out).size)
      have HO5 : Hid (Blk w5 ob 35 ((resPad RS k).flatMap resCells).toArray) := (HOa.out).below hb5 (HOa.out).lt
      obtain ⟨k0, k1, k2, k3, k4⟩ := res_cells HO5.out k (by rw [resPad_len RS k (by have := HKr.out; omega)]; exact HKr.out)
      have of := (HO5.out).frozen
      clear hb5 HRc HWa HBa HOa
      go_wp2_with fail
      have ho6 : Only ob w5 (((((w5.setCell ⟨ob, k * 5, none⟩ (.int .i64 r.fate)).setCell ⟨ob, k * 5 + 1, none⟩ (.int .i64 r.r0)).setCell ⟨ob, k * 5 + 2, none⟩ (.int .i64 r.r1)).setCell ⟨ob, k * 5 + 3, none⟩ (.int .i64 r.r2)).setCell ⟨ob, k * 5 + 4, none⟩ (.int .i64 r.r3)) := (((((Only.refl _ _).set).set).set).set).set
      obtain ⟨o1, o2, o3, o4, o5⟩ := HOb.out
      go_roundg (gk - 1)
      case rel => exact ⟨k + 1, by simp, by omega, by omega, (HW5.out).apart2 ho6 o2 o3 o4 o5, below_onto HB5.out ho6 o1 (HB5.out).size, by rw [HNx.out]; exact res_store HO5.out k (by rw [resPad_len RS k (by have := HKr.out; omega)]; exact HKr.out) r⟩
      case measure => omega
    · have hkj : k = jobs.length := by omega
      subst hkj
      have hk2 : ¬ ((jobs.length : Int) < (jobs.length : Int)) := by omega
      have HR : Hid (wr.ownsRow w.heap.size 35 5 (.slice (some ⟨ob, 0, none⟩) RS.length jobs.length) RS.length (RS.flatMap resCells)) := by
        have h1 := HO.out
        rw [show jobs.length = RS.length from (HRl.out).symm, resPad_all] at h1
        rw [show jobs.length = RS.length from (HRl.out).symm]
        exact row_of_blk h1 (by have := (HOb.out).1; omega) (flat_len (f := resCells) (n := 5) (fun _ => rfl) RS) (by unfold maxLen; have := HRl.out; omega)
      have HF : Hid (Below w.heap.size w wr) := (HB1.out).trans ((HB.out).mono (HB1.out).size)
      have HLl : Hid (jobs.length = RS.length) := (HRl.out).symm
      clear HW HB HO
      go_wp2_with fail
      go_ret
      exact ⟨some ⟨ob, 0, none⟩, jobs.length, by have := HLl.out; simp [this], HR.out, HF.out⟩

end Go.Proofs.Ytejadojilncbjaa

namespace Go.Proofs.Ytejadojilncbjaa
open Go.RowKit
set_option linter.unusedVariables false
attribute [local go_sem ↓] Go.wp_at_zero Go.wp_at_succ

set_option maxRecDepth 100000 in
set_option maxHeartbeats 4000000 in
theorem jobsGood : JobsGood := by
  intro c mem jobs ps ma ja pa mc jc pc w hps hml hjl hm hj hp
  have HM : Hid (Ints w w.heap.size ma mem) := hm
  have HJ : Hid (JobsRep w w.heap.size ja jobs) := hj
  have HP : Hid (PicksIn w w.heap.size pa ps) := hp
  have HPS : Hid (ps.length ≤ 2 ^ 23) := hps
  obtain ⟨L, HL⟩ : ∃ L, Hid (jobsA c mem jobs ps = L) := ⟨_, rfl⟩
  obtain ⟨ER, HER⟩ : ∃ ER, Hid (errS c mem jobs = ER) := ⟨_, rfl⟩
  rw [show jobsA c mem jobs ps = L from HL.out, show errS c mem jobs = ER from HER.out]
  clear hm hj hp hps
  go_enter Try.func25, Try.ntmps25
  go_wp2_with fail
  obtain ⟨w0, hw0⟩ : ∃ w0, w0 = w.alloc (.cells #[.int .i64 c.t, .int .i64 c.wd, .int .i64 c.s, .int .i64 c.g, .int .i64 c.r, .int .i64 c.cp, .int .i64 c.f, .slice ma mem.length mc, .slice ja jobs.length jc] 27) := ⟨_, rfl⟩
  have hB0 : Below w.heap.size w w0 := by rw [hw0]; exact (Below.refl w.heap.size w).alloc (Nat.le_refl _) _
  have hSb : Blk w0 w.heap.size 27 #[.int .i64 c.t, .int .i64 c.wd, .int .i64 c.s, .int .i64 c.g, .int .i64 c.r, .int .i64 c.cp, .int .i64 c.f, .slice ma mem.length mc, .slice ja jobs.length jc] := by rw [hw0]; exact Blk.new w 27 _
  have hs0 : w0.heap.size = w.heap.size + 1 := by rw [hw0]; simp
  rw [← hw0]
  clear hw0
  refine (setup_rep c mem jobs ma ja mc jc w0 hml hjl ((HM.out).up hB0) ((HJ.out).up2 hB0)).mono ?_
  rintro e w1 ⟨rfl, hb1⟩
  have hB1 : Below w.heap.size w w1 := hB0.trans (hb1.mono hB0.size)
  have hsc : ∀ i, w1.cell? ⟨w.heap.size, i, none⟩ = (#[.int .i64 c.t, .int .i64 c.wd, .int .i64 c.s, .int .i64 c.g, .int .i64 c.r, .int .i64 c.cp, .int .i64 c.f, .slice ma mem.length mc, .slice ja jobs.length jc] : Array Value)[i]? := (hSb.below hb1 (by omega)).cell
  have HB1 : Hid (Below w.heap.size w w1) := hB1
  have HM1 : Hid (Ints w1 w1.heap.size ma mem) := (HM.out).up hB1
  have HJ1 : Hid (JobsRep w1 w1.heap.size ja jobs) := (HJ.out).up2 hB1
  have HP1 : Hid (PicksIn w1 w1.heap.size pa ps) := (HP.out).up2 hB1
  clear hB0 hSb hs0 hb1 hB1 HM HJ HP
  rw [show errS c mem jobs = ER from HER.out]
  by_cases he : ER = 0
  · have hbn : (ER != 0) = false := by simp [he]
    have HLe : Hid (L = jobsOf c mem jobs ps) := (HL.out).symm.trans (if_pos ((HER.out).trans he))
    have HSo : Hid (SetupOk c mem jobs ∧ ∀ j ∈ jobs, 0 ≤ j.1 ∧ j.1 < c.t) := errS_ok ((HER.out).trans he)
    have HE0 : Hid (ER = 0) := he
    clear he HL HER
    go_wp2_with fail
    refine (playJobs_any (HSo.out).1 (HSo.out).2 ps HPS.out ma ja pa mc jc pc w1 HM1.out HJ1.out HP1.out).mono ?_
    rintro e w2 ⟨la, lc, rfl, hl2, hb2⟩
    have HL2 : Hid (w2.ownsRow w.heap.size 35 5 (.slice la (jobsOf c mem jobs ps).length lc) (jobsOf c mem jobs ps).length ((jobsOf c mem jobs ps).flatMap resCells)) := ownsRow_low hl2 (HB1.out).size
    have HB2 : Hid (Below w.heap.size w w2) := (HB1.out).trans (hb2.mono (HB1.out).size)
    clear hl2 hb2 hsc hbn
    go_wp2
    exact bodyPost_ret (v := .tuple #[.slice la (jobsOf c mem jobs ps).length lc, .int .i64 0]) (by simp [results, Try.results25, go_sem]) rfl ⟨la, lc, by rw [HLe.out, HE0.out], by rw [HLe.out]; exact HL2.out, HB2.out⟩
  · have hbn : (ER != 0) = true := by simp [he]
    have HLe : Hid (L = []) := (HL.out).symm.trans (if_neg (by rw [HER.out]; exact he))
    clear he HL HER hsc
    go_wp2
    exact bodyPost_ret (v := .tuple #[.slice none 0 0, .int .i64 ER]) (by simp [results, Try.results25, go_sem]) rfl ⟨none, 0, by rw [HLe.out]; rfl, by rw [HLe.out]; exact World.ownsRow_nil _ _ _ _, HB1.out⟩

end Go.Proofs.Ytejadojilncbjaa

namespace Go.Proofs.Ytejadojilncbjaa
open Go.ChangeShapes Go.WideShapes Go.ChangeAt Go.RowKit Go.Deep
set_option linter.unusedVariables false

theorem picks_le {H : Type} {enc : TypeId × Value → H} {w : World} {spare : Nat → Bool} {held : Bool} {fuel : Nat} {cs : List Value} {x : DataW H × List MemPlace} (h : DataW.trod enc Try.prog w 0 spare held fuel 41 cs = some x) {a : Option Addr} {l c : Nat} (hcs : cs = [.slice a l c]) : l ≤ c := by
  rcases open_slice_pairs Try.underlying41 Try.underlying58 Try.cells58 rfl rfl Try.cells3 Try.cells3 h with ⟨h0, _⟩ | ⟨x, l', c', m, n, V0, V1, D0, D1, P0, P1, h0, _, hl, _⟩
  · rw [h0] at hcs
    cases hcs
    exact Nat.le_refl _
  · rw [h0] at hcs
    cases hcs
    exact hl

set_option maxRecDepth 100000 in
theorem prefix_lifted (G : PlayGood ∧ JobsGood) (os : Os) (started : os.Started) (H : Type) (enc : TypeId × Value → H) (F : Stop.Interp) :
    ReturnsInHanded {} Try.checked os 7 .any ((Rows.OpenSpec.upto Rows.prefixSpec).pre6 enc Try.prog Try.f7 Rows.prefixUptoRow.domain false) (((Rows.OpenSpec.upto Rows.prefixSpec).at F).post enc Try.prog Try.f7 false true false false) := by
  refine returnsInHanded_of_cond (C := Try.checked) (s := Rows.OpenSpec.upto Rows.prefixSpec) (k := Rows.uptoSmall) rfl ownP started (by kernel_rfl) Try.func7
    (OpenSpec.witness (enc := enc) (C := Try.checked) (s := Rows.OpenSpec.upto Rows.prefixSpec) (k := Rows.uptoSmall) rfl false ⟨#[], #[.agg #[.int .i64 0, .int .i64 0, .int .i64 0, .int .i64 0, .int .i64 0, .int .i64 0, .int .i64 0, .slice none 0 0, .slice none 0 0], .slice none 0 0, .int .i64 0], []⟩ 8 (by kernel_rfl) (by kernel_rfl) (by kernel_rfl)
      (x := ([.agg [.agg [.lit (.int .i64 0), .lit (.int .i64 0), .lit (.int .i64 0), .lit (.int .i64 0), .lit (.int .i64 0), .lit (.int .i64 0), .lit (.int .i64 0)], .nil, .nil], .nil, .lit (.int .i64 0)], [], [])) (by kernel_rfl) rfl (by kernel_rfl)) ?_
  intro W base args ds gs before hval0 hW hcnd hk _
  have hval : ∀ (j : Nat) t v, Try.f7.params[j]? = some t → args[j]? = some v → Value.okWide Try.prog W .any base t v := hval0
  have hW' := hW
  obtain ⟨p, q, hA0, hV, rfl, hfz, hnd⟩ := hW
  have hA : DataW.TrodAll enc Try.prog W 0 (fun _ => true) true Try.f7.params.toList args.toList ds p := hA0
  rw [Try.params7] at hA hval
  obtain ⟨v0, vs0, d0, ds0, p0, q0, hargs, rfl, rfl, h0, r0⟩ := trodAll_cons hA
  obtain ⟨v1, vs1, d1, ds1, p1, q1, hvs0, rfl, rfl, h1, r1⟩ := trodAll_cons r0
  obtain ⟨v2, vs2, d2, ds2, p2, q2, hvs1, rfl, rfl, h2, r2⟩ := trodAll_cons r1
  obtain ⟨rfl, rfl, rfl⟩ := trodAll_nil r2
  obtain rfl : args = #[v0, v1, v2] := by cases args; simp_all
  obtain ⟨rfl, rfl⟩ := trodVars_none hV
  obtain ⟨cs, rfl, hsz⟩ := okWide_struct Try.underlying27 (hval 0 27 v0 rfl rfl)
  obtain ⟨pa, pl, pc, rfl⟩ := okWide_slice Try.underlying41 (hval 1 41 v1 rfl rfl)
  obtain ⟨kk, rfl⟩ := okWide_int Try.underlying3 (hval 2 3 v2 rfl rfl)
  have k0 := h0
  have k1 := h1
  have k2 := h2
  have lt0 : ∀ x ∈ p0, x.block < W.heap.size := by obtain ⟨m, hm⟩ := k0; exact DataW.trod_lt m _ _ _ hm
  have lt1 : ∀ x ∈ p1, x.block < W.heap.size := by obtain ⟨m, hm⟩ := k1; exact DataW.trod_lt m _ _ _ hm
  have lt2 : ∀ x ∈ p2, x.block < W.heap.size := by obtain ⟨m, hm⟩ := k2; exact DataW.trod_lt m _ _ _ hm
  obtain ⟨f0, hf0⟩ := h0
  obtain ⟨f1, hf1⟩ := h1
  obtain ⟨f2, hf2⟩ := h2
  obtain ⟨t, wd, s, g, r, cp, f, a, len, cap, zs, ja, jlen, jcap, js, hcs, e1, e2, e3, e4, e5, e6, e7, e8⟩ := setup_open hf0
  obtain ⟨b, blen, bcap, ps, e9, e10, e11, e12⟩ := picks_open hf1
  have hcap := picks_le hf1 e9
  obtain ⟨kn, e13, _, e14⟩ := DataW.trod_int Try.underlying3 hf2
  have e15 : kk = kn := by simpa [Value.cells] using e13
  subst e15
  have hkk : -9223372036854775808 ≤ kk ∧ kk ≤ 9223372036854775807 := by
    simp [Lit.wf, IntKind.min, IntKind.max, IntKind.bits, IntKind.signed] at e14
    omega
  obtain rfl : cs = #[.int .i64 t, .int .i64 wd, .int .i64 s, .int .i64 g, .int .i64 r, .int .i64 cp, .int .i64 f, .slice a len cap, .slice ja jlen jcap] := by
    cases cs; simpa [Value.cells] using hcs
  have e9' : Value.slice pa pl pc = Value.slice b blen bcap := by simpa [Value.cells] using e9
  cases e9'
  obtain ⟨jobs, hjb, hjr⟩ := jobs_rep e7 e8
  have hps : ps.length ≤ 2 ^ 21 := by
    have h := of_decide_eq_true hk
    simp only [List.append_nil, Rows.uptoBulkAll] at h
    rw [e10]
    simp only at e12
    omega
  subst e1 e5
  rw [← e10] at hcap
  subst e10
  have hjl : jobs.length ≤ maxLen := by rw [hjb]; exact e6
  rw [← hjb]
  clear hA0 hval0
  refine (prefix_walk G ⟨t, wd, s, g, r, cp, f⟩ zs jobs ps kk hkk a ja pa cap jcap pc W hps hcap e2 hjl e3 hjr e11).mono fun e W' ⟨he, bel⟩ => ?_
  subst he
  rw [hjb]
  exact ⟨_, rfl, _, _, _, [], _, [], hW', trodAll_mk1 (shut_bool Try.underlying4 _), (trodAll_cons_mk (Below.trod laidOutP (by kernel_rfl) (of_decide_eq_true (by kernel_rfl)) k0 bel lt0) (trodAll_cons_mk (Below.trod laidOutP (by kernel_rfl) (of_decide_eq_true (by kernel_rfl)) k1 bel lt1) (trodAll_cons_mk (Below.trod laidOutP (by kernel_rfl) (of_decide_eq_true (by kernel_rfl)) k2 bel lt2) trodAll_mk0))), rfl, bel.frame _, fun h => by cases h⟩

set_option maxRecDepth 100000 in
theorem prefix_over (G : PlayGood ∧ JobsGood) : Rows.prefixUptoRow.holds Try.pinned (Rows.OpenSpec.upto Rows.prefixSpec) :=
  OpenClaim.holds_of_cond 7 Try.f7 rfl rfl rfl rfl rfl rfl rfl ⟨rfl, rfl, rfl, rfl, rfl⟩ rfl rfl rfl rfl rfl (by kernel_rfl) Try.func7 (by kernel_rfl)
    (of_decide_eq_true (by kernel_rfl)) (by unfold Func.isWrapper; first | (rw [if_pos (by decide +kernel)]; kernel_rfl) | (rw [if_neg (by decide +kernel)]; exact ⟨rfl, rfl⟩))
    (fun os started H enc _ F => prefix_lifted G os started H enc F)

/-- The statement, if the program's call is as it should be. -/
theorem prefix_if (G : PlayGood ∧ JobsGood) : Rows.PrefixUptoSaid := prefix_over G

theorem prefix_done : Rows.PrefixUptoSaid := prefix_if ⟨playGood, jobsGood⟩

end Go.Proofs.Ytejadojilncbjaa
