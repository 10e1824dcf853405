import Derived.Test.YtejadojilncbjabGreatH45
import Derived.Test.YtejadojilncbjabGreatH41
namespace Go.Proofs.YtejadojilncbjabGreat
open Go.RowKit
set_option linter.unusedVariables false
attribute [local go_sem ↓] Go.wp_at_zero Go.wp_at_succ

set_option maxRecDepth 100000 in
set_option maxHeartbeats 2000000 in
theorem playJobs_any {c : Cfg} {mem : List Int} {jobs : List (Int × List InsD)} (S : SetupOk c mem jobs) (hjt : ∀ j ∈ jobs, 0 ≤ j.1 ∧ j.1 < c.t) (ps : List PickD) (hps : ps.length ≤ 2 ^ 23) (ma ja pa : Option Addr) (mc jc pc : Nat) (w : World)
    (hm : Ints w w.heap.size ma mem) (hj : JobsRep w w.heap.size ja jobs) (hp : PicksIn w w.heap.size pa ps) :
    Calls Tryz.prog 33 #[.agg #[.int .i64 c.t, .int .i64 c.wd, .int .i64 c.s, .int .i64 c.g, .int .i64 c.r, .int .i64 c.cp, .int .i64 c.f, .slice ma mem.length mc, .slice ja jobs.length jc], .slice pa ps.length pc] w (ResIs w (jobsOf c mem jobs ps)) := by
  have HS : Hid (SetupOk c mem jobs ∧ ∀ j ∈ jobs, 0 ≤ j.1 ∧ j.1 < c.t) := ⟨S, hjt⟩
  obtain ⟨RS, HRS⟩ : ∃ RS, Hid (jobsOf c mem jobs ps = RS) := ⟨_, rfl⟩
  have hRl : RS.length = jobs.length := by rw [← HRS.out]; simp [jobsOf]
  have HRl : Hid (RS.length = jobs.length) := hRl
  rw [show jobsOf c mem jobs ps = RS from HRS.out]
  have hps' : ps.length ≤ 8388608 := hps
  have hB1 : Below w.heap.size w (w.alloc (.cells #[.int .i64 c.t, .int .i64 c.wd, .int .i64 c.s, .int .i64 c.g, .int .i64 c.r, .int .i64 c.cp, .int .i64 c.f, .slice ma mem.length mc, .slice ja jobs.length jc] 27)) := (Below.refl w.heap.size w).alloc (Nat.le_refl _) _
  have HB1 : Hid (Below w.heap.size w (w.alloc (.cells #[.int .i64 c.t, .int .i64 c.wd, .int .i64 c.s, .int .i64 c.g, .int .i64 c.r, .int .i64 c.cp, .int .i64 c.f, .slice ma mem.length mc, .slice ja jobs.length jc] 27))) := hB1
  have HSb : Hid (Blk (w.alloc (.cells #[.int .i64 c.t, .int .i64 c.wd, .int .i64 c.s, .int .i64 c.g, .int .i64 c.r, .int .i64 c.cp, .int .i64 c.f, .slice ma mem.length mc, .slice ja jobs.length jc] 27)) w.heap.size 27 #[.int .i64 c.t, .int .i64 c.wd, .int .i64 c.s, .int .i64 c.g, .int .i64 c.r, .int .i64 c.cp, .int .i64 c.f, .slice ma mem.length mc, .slice ja jobs.length jc]) := Blk.new w 27 _
  have HJ1 : Hid (JobsRep (w.alloc (.cells #[.int .i64 c.t, .int .i64 c.wd, .int .i64 c.s, .int .i64 c.g, .int .i64 c.r, .int .i64 c.cp, .int .i64 c.f, .slice ma mem.length mc, .slice ja jobs.length jc] 27)) (w.alloc (.cells #[.int .i64 c.t, .int .i64 c.wd, .int .i64 c.s, .int .i64 c.g, .int .i64 c.r, .int .i64 c.cp, .int .i64 c.f, .slice ma mem.length mc, .slice ja jobs.length jc] 27)).heap.size ja jobs) := hj.up2 hB1
  have HC : Hid (Calls Tryz.prog 77 #[.agg #[.int .i64 c.t, .int .i64 c.wd, .int .i64 c.s, .int .i64 c.g, .int .i64 c.r, .int .i64 c.cp, .int .i64 c.f, .slice ma mem.length mc, .slice ja jobs.length jc], .slice pa ps.length pc] (w.alloc (.cells #[.int .i64 c.t, .int .i64 c.wd, .int .i64 c.s, .int .i64 c.g, .int .i64 c.r, .int .i64 c.cp, .int .i64 c.f, .slice ma mem.length mc, .slice ja jobs.length jc] 27)) (BehindIs c mem jobs ps (w.alloc (.cells #[.int .i64 c.t, .int .i64 c.wd, .int .i64 c.s, .int .i64 c.g, .int .i64 c.r, .int .i64 c.cp, .int .i64 c.f, .slice ma mem.length mc, .slice ja jobs.length jc] 27)))) :=
    behind_any S ps hps ma ja pa mc jc pc _ (hm.up hB1) (hj.up2 hB1) (hp.up2 hB1)
  have hs1 : (w.alloc (.cells #[.int .i64 c.t, .int .i64 c.wd, .int .i64 c.s, .int .i64 c.g, .int .i64 c.r, .int .i64 c.cp, .int .i64 c.f, .slice ma mem.length mc, .slice ja jobs.length jc] 27)).heap.size = w.heap.size + 1 := by simp
  have hmk := run_make35 jobs.length S.j8
  have hj8 := S.j8
  clear hm hj hp S hps hB1 hjt hRl
  go_enter Tryz.func33, Tryz.ntmps33
  go_wp2_with fail
  generalize w.alloc (.cells #[.int .i64 c.t, .int .i64 c.wd, .int .i64 c.s, .int .i64 c.g, .int .i64 c.r, .int .i64 c.cp, .int .i64 c.f, .slice ma mem.length mc, .slice ja jobs.length jc] 27) = w1 at *
  refine (HC.out).mono ?_
  rintro e w2 ⟨nb, p, cap, tcap, q, Ds, X, rfl, hW, hM, hb2⟩
  obtain ⟨cb, hcb⟩ : ∃ cb, cb = w2.heap.size := ⟨_, rfl⟩
  have hB3 : Below w2.heap.size w2 (w2.alloc (.cells #[.slice (some ⟨nb, 0, none⟩) Ds.length cap, .slice (some ⟨p, 0, none⟩) q.length tcap, .int .i64 (ps.length : Int)] 125)) := (Below.refl _ _).alloc (Nat.le_refl _) _
  have W3 := hW _ cb hB3 (by rw [hcb]; exact Blk.new w2 125 _) (by rw [hcb]; exact hb2.size)
  have HW3 : Hid (WR w1.heap.size p nb cb cap tcap (ps.length : Int) X (w2.alloc (.cells #[.slice (some ⟨nb, 0, none⟩) Ds.length cap, .slice (some ⟨p, 0, none⟩) q.length tcap, .int .i64 (ps.length : Int)] 125)) q Ds) := W3
  have HM3 : Hid (SimW c jobs (ps.length : Int) (gAt c mem jobs ps ps.length) q Ds) := hM
  have HB3 : Hid (Below w1.heap.size w1 (w2.alloc (.cells #[.slice (some ⟨nb, 0, none⟩) Ds.length cap, .slice (some ⟨p, 0, none⟩) q.length tcap, .int .i64 (ps.length : Int)] 125))) := hb2.trans (hB3.mono hb2.size)
  clear hW hM hB3 hb2 W3 HC
  go_upto_region 2 with fail
  rw [← hcb]
  clear hcb
  generalize w2.alloc (.cells #[.slice (some ⟨nb, 0, none⟩) Ds.length cap, .slice (some ⟨p, 0, none⟩) q.length tcap, .int .i64 (ps.length : Int)] 125) = w3 at *
  have hs3 : ∀ i, w3.cell? ⟨w.heap.size, i, none⟩ = (#[.int .i64 c.t, .int .i64 c.wd, .int .i64 c.s, .int .i64 c.g, .int .i64 c.r, .int .i64 c.cp, .int .i64 c.f, .slice ma mem.length mc, .slice ja jobs.length jc] : Array Value)[i]? := ((HSb.out).below HB3.out (by omega)).cell
  obtain ⟨ob, hob⟩ : ∃ ob, ob = w3.heap.size := ⟨_, rfl⟩
  obtain ⟨Z, hZ⟩ : ∃ Z, Z = ((List.replicate jobs.length (⟨0, 0, 0, 0, 0⟩ : ResD)).flatMap resCells).toArray := ⟨_, rfl⟩
  rw [← hZ] at hmk
  have hB4 : Below w3.heap.size w3 (w3.alloc (.cells Z 47)) := (Below.refl _ _).alloc (Nat.le_refl _) _
  have HW4 : Hid (WR w1.heap.size p nb cb cap tcap (ps.length : Int) X (w3.alloc (.cells Z 47)) q Ds) := (HW3.out).below hB4
  have HB4 : Hid (Below w1.heap.size w1 (w3.alloc (.cells Z 47))) := (HB3.out).trans (hB4.mono (HB3.out).size)
  have HO4 : Hid (Blk (w3.alloc (.cells Z 47)) ob 47 ((resPad RS 0).flatMap resCells).toArray) := by
    show Blk _ _ _ _
    rw [hob, resPad_zero, HRl.out, ← hZ]
    exact Blk.new w3 47 _
  have HOb : Hid (w1.heap.size ≤ ob ∧ p ≠ ob ∧ nb ≠ ob ∧ cb ≠ ob ∧ ¬ OwnW q ob) := by
    have h1 := (HW3.out).thr.lt
    have h2 := (HW3.out).num.lt
    have h3 := (HW3.out).wst.lt
    exact ⟨by rw [hob]; exact (HB3.out).size, by omega, by omega, by omega, fun o => by have := (HW3.out).ownW ob o; omega⟩
  have hwn : w.heap.size ≠ ob := by have := (HB3.out).size; omega
  have hwl : w.heap.size < w3.heap.size := by have := (HB3.out).size; omega
  clear HW3 HB3 hB4 hZ
  go_upto_region 3 with fail
  rw [← hob]
  clear hob hmk
  generalize w3.alloc (.cells Z 47) = w4 at *
  have hs4 : ∀ i, w4.cell? ⟨w.heap.size, i, none⟩ = (#[.int .i64 c.t, .int .i64 c.wd, .int .i64 c.s, .int .i64 c.g, .int .i64 c.r, .int .i64 c.cp, .int .i64 c.f, .slice ma mem.length mc, .slice ja jobs.length jc] : Array Value)[i]? := ((HSb.out).below HB4.out (by omega)).cell
  clear hs3 hwl
  go_wp2_with fail
  clear hs4
  go_loopg [19] (jobs.length + 1) (fun m t19 wr => ∃ (k : Nat), t19 = .int .i64 (k : Int) ∧ k ≤ jobs.length ∧ m = jobs.length + 1 - k ∧ Hid (WR w1.heap.size p nb cb cap tcap (ps.length : Int) X wr q Ds) ∧ Hid (Below w1.heap.size w1 wr) ∧ Hid (Blk wr ob 47 ((resPad RS k).flatMap resCells).toArray))
  case atStart => exact ⟨0, rfl, by omega, by omega, HW4, HB4, HO4⟩
  case round =>
    obtain ⟨k, rfl, hk, hgk, HW, HB, HO⟩ := hrel
    clear HW4 HB4 HO4
    by_cases hkl : k < jobs.length
    · obtain ⟨js, hj1, hj2, hj3⟩ := (HJ1.out).up HB.out
      obtain ⟨jb, joff, hja, hjb, hjc0, hjc1⟩ := hj2 k (by omega)
      have hjt3 := (hj3 k (by omega)).1
      obtain ⟨th, hth⟩ : ∃ th, th = (jobs.getD k (0, [])).1 := ⟨_, rfl⟩
      rw [hjt3, ← hth] at hjc0
      have hmem : jobs.getD k (0, []) ∈ jobs := by
        rw [show jobs.getD k (0, []) = jobs[k] from by simp [List.getD, List.getElem?_eq_getElem hkl]]
        exact List.getElem_mem hkl
      have hthr := (HS.out).2 _ hmem
      rw [← hth] at hthr
      obtain ⟨ti, hti⟩ := Int.eq_ofNat_of_zero_le hthr.1
      have hql := (HM3.out).len
      have htq : ti < q.length := by omega
      have S1 := (HM3.out).sim ti htq
      have O1 := (HM3.out).own ti htq
      have hres : (Tol (cxOf c jobs ti) q[ti].1 ((gAt c mem jobs ps ps.length).th ti)) := S1.tol
      have hrk : RS.getD k noRes = ((gAt c mem jobs ps ps.length).th (ti : Int)).ends.getD k noRes := by
        rw [← HRS.out]
        unfold jobsOf
        simp only [List.getD, List.getElem?_map, List.getElem?_range hkl, Option.map_some, Option.getD_some]
        rw [show (jobs[k]?.getD (0, [])).1 = (ti : Int) from by rw [← hti, hth]; rfl]
      have hT := TolF.result hres k
      rw [← hrk] at hT
      obtain ⟨r, hr⟩ : ∃ r, r = RS.getD k noRes := ⟨_, rfl⟩
      rw [← hr] at hT
      have HNx : Hid (resPad RS (k + 1) = (resPad RS k).set k r) := by
        show _ = _
        rw [hr]
        exact resPad_next RS k (by rw [HRl.out]; exact hkl)
      obtain ⟨ca, hca⟩ : ∃ ca, ca = (jobAt js k).a := ⟨_, rfl⟩
      obtain ⟨cl, hcl⟩ : ∃ cl, cl = (jobAt js k).len := ⟨_, rfl⟩
      obtain ⟨cc, hcc⟩ : ∃ cc, cc = (jobAt js k).cap := ⟨_, rfl⟩
      rw [← hca, ← hcl, ← hcc] at hjc1
      have hBa : Below wr.heap.size wr (wr.alloc (.cells #[.int .i64 th, .slice ca cl cc] 88)) := (Below.refl _ _).alloc (Nat.le_refl _) _
      have HWa : Hid (WR w1.heap.size p nb cb cap tcap (ps.length : Int) X (wr.alloc (.cells #[.int .i64 th, .slice ca cl cc] 88)) q Ds) := (HW.out).below hBa
      have HBa : Hid (Below w1.heap.size w1 (wr.alloc (.cells #[.int .i64 th, .slice ca cl cc] 88))) := (HB.out).trans (hBa.mono (HB.out).size)
      have HOa : Hid (Blk (wr.alloc (.cells #[.int .i64 th, .slice ca cl cc] 88)) ob 47 ((resPad RS k).flatMap resCells).toArray) := (HO.out).alloc _
      have HRc : Hid (Calls Tryz.prog 78 #[.pointer (some ⟨p, ti * 47, none⟩), .int .i64 (k : Int)] (wr.alloc (.cells #[.int .i64 th, .slice ca cl cc] 88)) fun e w' => e = .returned (.agg #[.int .i64 r.fate, .int .i64 r.r0, .int .i64 r.r1, .int .i64 r.r2, .int .i64 r.r3]) ∧ Below (wr.alloc (.cells #[.int .i64 th, .slice ca cl cc] 88)).heap.size (wr.alloc (.cells #[.int .i64 th, .slice ca cl cc] 88)) w') :=
        t_result w1.heap.size p (ti * 47) _ _ q[ti].1 q[ti].2 _ ((HWa.out).tr ti htq) (by have := hres.rl; have := hres.cu; have := O1.mine; omega) (by have := hres.rl; have := hres.cu; omega) (k : Int) r hT.1 hT.2
      have m1 : wr.cell? ⟨cb, 1, none⟩ = some (.slice (some ⟨p, 0, none⟩) q.length tcap) := by rw [(HW.out).wst.cell]; rfl
      have hcbl : cb < wr.heap.size := (HW.out).wst.lt
      have hcbn : cb ≠ wr.heap.size := by omega
      have hk0 : (0 : Int) ≤ (k : Int) := by omega
      have hk1 : (k : Int) < (jobs.length : Int) := by omega
      have ht0 : (0 : Int) ≤ th := hthr.1
      have ht1 : th < (q.length : Int) := by omega
      have hwk : IntKind.i64.wrap ((k : Int) + 1) = (k : Int) + 1 := wrapP _ (by omega) (by omega)
      have hjbl : jb < wr.heap.size := Nat.lt_of_lt_of_le hjb (HB.out).size
      have HKr : Hid (k < RS.length) := by show _ < _; rw [HRl.out]; exact hkl
      subst hja
      have hto : th.toNat = ti := by omega
      clear HW HB HO hres hT hr hrk S1 O1 hj1 hj2 hj3 hjt3 hmem hthr hti hth hca hcl hcc hBa
      go_wp2_with fail
      clear hjc0 hjc1 m1
      refine (HRc.out).mono ?_
      rintro e w5 ⟨rfl, hb5⟩
      have HW5 : Hid (WR w1.heap.size p nb cb cap tcap (ps.length : Int) X w5 q Ds) := (HWa.out).below hb5
      have HB5 : Hid (Below w1.heap.size w1 w5) := (HBa.out).trans (hb5.mono (HBa.out).size)
      have HO5 : Hid (Blk w5 ob 47 ((resPad RS k).flatMap resCells).toArray) := (HOa.out).below hb5 (HOa.out).lt
      obtain ⟨k0, k1, k2, k3, k4⟩ := res_cells HO5.out k (by rw [resPad_len RS k (by have := HKr.out; omega)]; exact HKr.out)
      have of := (HO5.out).frozen
      clear hb5 HRc HWa HBa HOa
      go_wp2_with fail
      have ho6 : Only ob w5 (((((w5.setCell ⟨ob, k * 5, none⟩ (.int .i64 r.fate)).setCell ⟨ob, k * 5 + 1, none⟩ (.int .i64 r.r0)).setCell ⟨ob, k * 5 + 2, none⟩ (.int .i64 r.r1)).setCell ⟨ob, k * 5 + 3, none⟩ (.int .i64 r.r2)).setCell ⟨ob, k * 5 + 4, none⟩ (.int .i64 r.r3)) := (((((Only.refl _ _).set).set).set).set).set
      obtain ⟨o1, o2, o3, o4, o5⟩ := HOb.out
      go_roundg (gk - 1)
      case rel => exact ⟨k + 1, by simp, by omega, by omega, (HW5.out).apart2 ho6 o2 o3 o4 o5, below_onto HB5.out ho6 o1 (HB5.out).size, by rw [HNx.out]; exact res_store HO5.out k (by rw [resPad_len RS k (by have := HKr.out; omega)]; exact HKr.out) r⟩
      case measure => omega
    · have hkj : k = jobs.length := by omega
      subst hkj
      have hk2 : ¬ ((jobs.length : Int) < (jobs.length : Int)) := by omega
      have HR : Hid (wr.ownsRow w.heap.size 47 5 (.slice (some ⟨ob, 0, none⟩) RS.length jobs.length) RS.length (RS.flatMap resCells)) := by
        have h1 := HO.out
        rw [show jobs.length = RS.length from (HRl.out).symm, resPad_all] at h1
        rw [show jobs.length = RS.length from (HRl.out).symm]
        exact row_of_blk h1 (by have := (HOb.out).1; omega) (flat_len (f := resCells) (n := 5) (fun _ => rfl) RS) (by unfold maxLen; have := HRl.out; omega)
      have HF : Hid (Below w.heap.size w wr) := (HB1.out).trans ((HB.out).mono (HB1.out).size)
      have HLl : Hid (jobs.length = RS.length) := (HRl.out).symm
      clear HW HB HO
      go_wp2_with fail
      go_ret
      exact ⟨some ⟨ob, 0, none⟩, jobs.length, by have := HLl.out; simp [this], HR.out, HF.out⟩

end Go.Proofs.YtejadojilncbjabGreat

namespace Go.Proofs.YtejadojilncbjabGreat
open Go.RowKit
set_option linter.unusedVariables false
attribute [local go_sem ↓] Go.wp_at_zero Go.wp_at_succ

set_option maxRecDepth 100000 in
set_option maxHeartbeats 4000000 in
theorem jobsGood : JobsGood := by
  intro c mem jobs ps ma ja pa mc jc pc w hps hml hjl hm hj hp
  have HM : Hid (Ints w w.heap.size ma mem) := hm
  have HJ : Hid (JobsRep w w.heap.size ja jobs) := hj
  have HP : Hid (PicksIn w w.heap.size pa ps) := hp
  have HPS : Hid (ps.length ≤ 2 ^ 23) := hps
  obtain ⟨L, HL⟩ : ∃ L, Hid (jobsA c mem jobs ps = L) := ⟨_, rfl⟩
  obtain ⟨ER, HER⟩ : ∃ ER, Hid (errS c mem jobs = ER) := ⟨_, rfl⟩
  rw [show jobsA c mem jobs ps = L from HL.out, show errS c mem jobs = ER from HER.out]
  clear hm hj hp hps
  go_enter Tryz.func9, Tryz.ntmps9
  go_wp2_with fail
  obtain ⟨w0, hw0⟩ : ∃ w0, w0 = w.alloc (.cells #[.int .i64 c.t, .int .i64 c.wd, .int .i64 c.s, .int .i64 c.g, .int .i64 c.r, .int .i64 c.cp, .int .i64 c.f, .slice ma mem.length mc, .slice ja jobs.length jc] 27) := ⟨_, rfl⟩
  have hB0 : Below w.heap.size w w0 := by rw [hw0]; exact (Below.refl w.heap.size w).alloc (Nat.le_refl _) _
  have hSb : Blk w0 w.heap.size 27 #[.int .i64 c.t, .int .i64 c.wd, .int .i64 c.s, .int .i64 c.g, .int .i64 c.r, .int .i64 c.cp, .int .i64 c.f, .slice ma mem.length mc, .slice ja jobs.length jc] := by rw [hw0]; exact Blk.new w 27 _
  have hs0 : w0.heap.size = w.heap.size + 1 := by rw [hw0]; simp
  rw [← hw0]
  clear hw0
  refine (setup_rep c mem jobs ma ja mc jc w0 hml hjl ((HM.out).up hB0) ((HJ.out).up2 hB0)).mono ?_
  rintro e w1 ⟨rfl, hb1⟩
  have hB1 : Below w.heap.size w w1 := hB0.trans (hb1.mono hB0.size)
  have hsc : ∀ i, w1.cell? ⟨w.heap.size, i, none⟩ = (#[.int .i64 c.t, .int .i64 c.wd, .int .i64 c.s, .int .i64 c.g, .int .i64 c.r, .int .i64 c.cp, .int .i64 c.f, .slice ma mem.length mc, .slice ja jobs.length jc] : Array Value)[i]? := (hSb.below hb1 (by omega)).cell
  have HB1 : Hid (Below w.heap.size w w1) := hB1
  have HM1 : Hid (Ints w1 w1.heap.size ma mem) := (HM.out).up hB1
  have HJ1 : Hid (JobsRep w1 w1.heap.size ja jobs) := (HJ.out).up2 hB1
  have HP1 : Hid (PicksIn w1 w1.heap.size pa ps) := (HP.out).up2 hB1
  clear hB0 hSb hs0 hb1 hB1 HM HJ HP
  rw [show errS c mem jobs = ER from HER.out]
  by_cases he : ER = 0
  · have hbn : (ER != 0) = false := by simp [he]
    have HLe : Hid (L = jobsOf c mem jobs ps) := (HL.out).symm.trans (if_pos ((HER.out).trans he))
    have HSo : Hid (SetupOk c mem jobs ∧ ∀ j ∈ jobs, 0 ≤ j.1 ∧ j.1 < c.t) := errS_ok ((HER.out).trans he)
    have HE0 : Hid (ER = 0) := he
    clear he HL HER
    go_wp2_with fail
    refine (playJobs_any (HSo.out).1 (HSo.out).2 ps HPS.out ma ja pa mc jc pc w1 HM1.out HJ1.out HP1.out).mono ?_
    rintro e w2 ⟨la, lc, rfl, hl2, hb2⟩
    have HL2 : Hid (w2.ownsRow w.heap.size 47 5 (.slice la (jobsOf c mem jobs ps).length lc) (jobsOf c mem jobs ps).length ((jobsOf c mem jobs ps).flatMap resCells)) := ownsRow_low hl2 (HB1.out).size
    have HB2 : Hid (Below w.heap.size w w2) := (HB1.out).trans (hb2.mono (HB1.out).size)
    clear hl2 hb2 hsc hbn
    go_wp2
    exact bodyPost_ret (v := .tuple #[.slice la (jobsOf c mem jobs ps).length lc, .int .i64 0]) (by simp [results, Tryz.results9, go_sem]) rfl ⟨la, lc, by rw [HLe.out, HE0.out], by rw [HLe.out]; exact HL2.out, HB2.out⟩
  · have hbn : (ER != 0) = true := by simp [he]
    have HLe : Hid (L = []) := (HL.out).symm.trans (if_neg (by rw [HER.out]; exact he))
    clear he HL HER hsc
    go_wp2
    exact bodyPost_ret (v := .tuple #[.slice none 0 0, .int .i64 ER]) (by simp [results, Tryz.results9, go_sem]) rfl ⟨none, 0, by rw [HLe.out]; rfl, by rw [HLe.out]; exact World.ownsRow_nil _ _ _ _, HB1.out⟩

end Go.Proofs.YtejadojilncbjabGreat

namespace Go.Proofs.YtejadojilncbjabGreat
open Go.RowKit
set_option linter.unusedVariables false
attribute [local go_sem ↓] Go.wp_at_zero Go.wp_at_succ

theorem TurnsOk.congr {jobs : List (Int × List InsD)} {h : List AttD} {rs rs' : Nat → ResD} {t : Int} (T : TurnsOk jobs h rs t) (e : ∀ j, j < jobs.length → rs' j = rs j) : TurnsOk jobs h rs' t := fun i a ha hat => by
  obtain ⟨h1, h2, h3, h4, h5, h6⟩ := T i a ha hat
  exact ⟨h1, h2, h3, h4, h5, fun j hj ht => by rw [e j (by omega)]; exact h6 j hj ht⟩

theorem calm_at {R : Rn} (O : R.Ok) (hjt : ∀ j ∈ R.jobs, 0 ≤ j.1 ∧ j.1 < R.c.t) (hall : ∀ j, j < R.jobs.length → (R.jobs.getD j (0, [])).1 = (R.jobs.getD 0 (0, [])).1) : ∀ a ∈ R.hist, a.fate ≠ 5 := fun a ha => by
  obtain ⟨a0, a1, am, A⟩ := hist_in O ha
  obtain ⟨j, h1, h2, h3⟩ := A.jb
  have hu : (R.jobs.getD 0 (0, [])).1 = a.thread := (hall j h2).symm.trans h3
  rw [← hu] at a0 a1 am
  exact nofail_at O a0 a1 hall R.ps.length (er a) am

set_option maxRecDepth 100000 in
set_option maxHeartbeats 2000000 in
theorem once_walk (G : HistoryGood ∧ JobsGood) (c : Cfg) (mem : List Int) (jobs : List (Int × List InsD)) (ps : List PickD) (ma ja pa : Option Addr) (mc jc pc : Nat) (w : World) (hps : ps.length ≤ 2 ^ 21) (hml : mem.length ≤ maxLen) (hjl : jobs.length ≤ maxLen)
    (hm : Ints w w.heap.size ma mem) (hj : JobsRep w w.heap.size ja jobs) (hp : PicksIn w w.heap.size pa ps) :
    Calls Tryz.prog 4 #[.agg #[.int .i64 c.t, .int .i64 c.wd, .int .i64 c.s, .int .i64 c.g, .int .i64 c.r, .int .i64 c.cp, .int .i64 c.f, .slice ma mem.length mc, .slice ja jobs.length jc], .slice pa ps.length pc] w fun e w' => e = .returned (.bool true) ∧ Below w.heap.size w w' := by
  have HM : Hid (Ints w w.heap.size ma mem) := hm
  have HJ : Hid (JobsRep w w.heap.size ja jobs) := hj
  have HP : Hid (PicksIn w w.heap.size pa ps) := hp
  have HG : Hid (HistoryGood ∧ JobsGood) := G
  have HN : Hid (ps.length ≤ 2 ^ 21) := hps
  obtain ⟨ER, HER⟩ : ∃ ER, Hid (errS c mem jobs = ER) := ⟨_, rfl⟩
  obtain ⟨HW, HHW⟩ : ∃ HW, Hid (howN c mem jobs = HW) := ⟨_, rfl⟩
  clear hm hj hp G hps
  go_enter Tryz.func4, Tryz.ntmps4
  go_wp2_with fail
  obtain ⟨w0, hw0⟩ : ∃ w0, w0 = w.alloc (.cells #[.int .i64 c.t, .int .i64 c.wd, .int .i64 c.s, .int .i64 c.g, .int .i64 c.r, .int .i64 c.cp, .int .i64 c.f, .slice ma mem.length mc, .slice ja jobs.length jc] 27) := ⟨_, rfl⟩
  have hB0 : Below w.heap.size w w0 := by rw [hw0]; exact (Below.refl w.heap.size w).alloc (Nat.le_refl _) _
  have hSb : Blk w0 w.heap.size 27 #[.int .i64 c.t, .int .i64 c.wd, .int .i64 c.s, .int .i64 c.g, .int .i64 c.r, .int .i64 c.cp, .int .i64 c.f, .slice ma mem.length mc, .slice ja jobs.length jc] := by rw [hw0]; exact Blk.new w 27 _
  rw [← hw0]
  clear hw0
  refine (ktold_any (HG.out).1 c mem jobs ps ma ja pa mc jc pc w0 HN.out hml hjl ((HM.out).up hB0) ((HJ.out).up2 hB0) ((HP.out).up2 hB0)).mono ?_
  rintro e w1 ⟨la, lc, AN, hAN, rfl, hl1, hn1, hb1⟩
  rw [show howN c mem jobs = HW from HHW.out]
  have hB1 : Below w.heap.size w w1 := hB0.trans (hb1.mono hB0.size)
  have HSb1 : Hid (Blk w1 w.heap.size 27 #[.int .i64 c.t, .int .i64 c.wd, .int .i64 c.s, .int .i64 c.g, .int .i64 c.r, .int .i64 c.cp, .int .i64 c.f, .slice ma mem.length mc, .slice ja jobs.length jc]) := hSb.below hb1 hSb.lt
  have hsc := (HSb1.out).cell
  have HB1 : Hid (Below w.heap.size w w1) := hB1
  have HAN : Hid (AN.map (·.1) = histA c mem jobs ps) := hAN
  have HA1 : Hid (AttsRow w1 w0.heap.size la lc AN) := hl1
  clear hB0 hSb hl1 hb1 hB1 hAN hn1
  go_wp2_with fail
  refine ((HG.out).2 c mem jobs ps ma ja pa mc jc pc w1 (Nat.le_trans HN.out (by decide)) hml hjl ((HM.out).up HB1.out) ((HJ.out).up2 HB1.out) ((HP.out).up2 HB1.out)).mono ?_
  rintro e w2 ⟨ra, rc, rfl, hr2, hb2⟩
  rw [show errS c mem jobs = ER from HER.out]
  obtain ⟨R, hR⟩ : ∃ R, R = jobsA c mem jobs ps := ⟨_, rfl⟩
  rw [← hR] at hr2 ⊢
  have HR : Hid (R = jobsA c mem jobs ps) := hR
  have HB2 : Hid (Below w.heap.size w w2) := (HB1.out).trans (hb2.mono (HB1.out).size)
  have HSb2 : Hid (Blk w2 w.heap.size 27 #[.int .i64 c.t, .int .i64 c.wd, .int .i64 c.s, .int .i64 c.g, .int .i64 c.r, .int .i64 c.cp, .int .i64 c.f, .slice ma mem.length mc, .slice ja jobs.length jc]) := (HSb1.out).below hb2 (HSb1.out).lt
  have HA2 : Hid (AttsRow w2 w0.heap.size la lc AN) := ownsRow_below HA1.out hb2
  have HR2 : Hid (ResIn w2 w2.heap.size ra R) := resIn_row hr2
  have hsc2 := (HSb2.out).cell
  clear hr2 hb2 hR hsc HSb1 HA1 HB1 HG
  go_wp2_with fail
  refine (answered_any c mem jobs ER _ ma ja mc jc w2 hml hjl ((HM.out).up HB2.out) ((HJ.out).up2 HB2.out)).mono ?_
  rintro e w3 ⟨rfl, hb3⟩
  rw [show errS c mem jobs = ER from HER.out]
  have HB3 : Hid (Below w.heap.size w w3) := (HB2.out).trans (hb3.mono (HB2.out).size)
  have HSb3 : Hid (Blk w3 w.heap.size 27 #[.int .i64 c.t, .int .i64 c.wd, .int .i64 c.s, .int .i64 c.g, .int .i64 c.r, .int .i64 c.cp, .int .i64 c.f, .slice ma mem.length mc, .slice ja jobs.length jc]) := (HSb2.out).below hb3 (HSb2.out).lt
  have HA3 : Hid (AttsRow w3 w0.heap.size la lc AN) := ownsRow_below HA2.out hb3
  have HR3 : Hid (ResIn w3 w3.heap.size ra R) := (HR2.out).up hb3
  have HJ3 : Hid (JobsRep w3 w3.heap.size ja jobs) := (HJ.out).up2 HB3.out
  clear hb3 hsc2 HSb2 HA2 HB2 HR2
  by_cases he : ER = 0
  · have HSo : Hid (SetupOk c mem jobs ∧ ∀ j ∈ jobs, 0 ≤ j.1 ∧ j.1 < c.t) := errS_ok ((HER.out).trans he)
    have hWe : HW = 2 := (HHW.out).symm.trans (if_pos ((HER.out).trans he))
    have hRe : R = jobsOf c mem jobs ps := (HR.out).trans (if_pos ((HER.out).trans he))
    have hRl : R.length = jobs.length := by rw [hRe]; simp [jobsOf]
    have hAn : answeredN ER ER ((R.length : Int) == 0) = 2 := by unfold answeredN; rw [if_neg (by simp), if_pos he]
    have hO : (⟨c, mem, jobs, ps⟩ : Rn).Ok := ⟨(HSo.out).1.cfg, (HSo.out).1.mw, (HSo.out).1.mb⟩
    have hH : AN.map (·.1) = (⟨c, mem, jobs, ps⟩ : Rn).hist := (HAN.out).trans (if_pos ((HER.out).trans he))
    have hNl : AN.length ≤ 2 ^ 40 := by
      have h1 := hist_len hO
      rw [← hH, List.length_map] at h1
      have h2 : (⟨c, mem, jobs, ps⟩ : Rn).ps.length = ps.length := rfl
      have h3 : (2 : Nat) ^ 21 ≤ 2 ^ 40 := by decide
      have := HN.out
      omega
    have HNl : Hid (AN.length ≤ 2 ^ 40) := hNl
    have HOn : Hid (∀ j : Nat, j < jobs.length → OnceOk (AN.map (·.1)) (j : Int) (R.getD j noRes)) := fun j hj => by
      rw [hH, hRe, jobsOf_get c mem jobs ps j hj]
      exact once_at hO j hj (HSo.out).2
    have HTn : Hid (∀ t : Int, TurnsOk jobs (AN.map (·.1)) (fun j => R.getD j noRes) t) := fun t => by
      rw [hH]
      refine (turns_at hO t).congr fun j hj => ?_
      rw [hRe, jobsOf_get c mem jobs ps j hj]
      rfl
    have HCl : Hid ((∀ j, j < jobs.length → (jobs.getD j (0, [])).1 = (jobs.getD 0 (0, [])).1) → ∀ a ∈ AN.map (·.1), a.fate ≠ 5) := fun h => by
      rw [hH]
      exact calm_at hO (HSo.out).2 h
    have HJ8 : Hid (jobs.length ≤ 8) := (HSo.out).1.j8
    obtain ⟨⟨t1, t2⟩, _⟩ := cfgB_true (HSo.out).1.cfg
    obtain ⟨T, hT⟩ := Int.eq_ofNat_of_zero_le (show 0 ≤ c.t by omega)
    have hT' : c.t = (T : Int) := hT
    have hT4 : T ≤ 4 := by omega
    have HT : Hid (c.t = (T : Int) ∧ T ≤ 4) := ⟨hT', hT4⟩
    rw [hAn]
    have HRl : Hid (R.length = jobs.length) := hRl
    obtain ⟨RN, hRN⟩ : ∃ RN, RN = R.length := ⟨_, rfl⟩
    have e1 : RN = jobs.length := hRN.trans hRl
    rw [← hRN]
    clear hAn hRe hRl hO hH hNl hT hT' hT4 t1 t2 HAN HR HER HHW hRN HSo
    subst e1 hWe he
    have hsc3 := (HSb3.out).cell
    go_wp2_with fail
    clear hsc3
    go_loopg [10] (jobs.length + 1) (fun m t10 wr => ∃ k : Nat, t10 = .int .i64 (k : Int) ∧ k ≤ jobs.length ∧ m = jobs.length + 1 - k ∧ Hid (Below w3.heap.size w3 wr))
    case atStart => exact ⟨0, rfl, by omega, by omega, Below.refl _ _⟩
    case round =>
      obtain ⟨k, rfl, hk, hgk, HBk⟩ := hrel
      have hszk := (HBk.out).size
      have hj8 := HJ8.out
      by_cases hlt : k < jobs.length
      · obtain ⟨b, hb, hbl, h0, h1, h2, h3, h4⟩ := HR3.out k (by rw [HRl.out]; exact hlt)
        have up : ∀ (b o : Nat), b < w3.heap.size → wr.cell? ⟨b, o, none⟩ = w3.cell? ⟨b, o, none⟩ := fun b o hb => World.cell?_of_block ((HBk.out).block b hb)
        have d0 := (up b _ hbl).trans h0
        have d1 := (up b _ hbl).trans h1
        have d2 := (up b _ hbl).trans h2
        have d3 := (up b _ hbl).trans h3
        have d4 := (up b _ hbl).trans h4
        have hk0 : (0 : Int) ≤ (k : Int) := by omega
        have hk1 : (k : Int) < (jobs.length : Int) := by omega
        have hwk : IntKind.i64.wrap ((k : Int) + 1) = (k : Int) + 1 := wrapF _ (by omega) (by omega)
        have hC := once_any AN (k : Int) (R.getD k noRes) (HOn.out k hlt) la lc w0.heap.size wr HNl.out (ownsRow_below HA3.out HBk.out)
        obtain ⟨x, hx⟩ : ∃ x, x = R.getD k noRes := ⟨_, rfl⟩
        rw [← hx] at d0 d1 d2 d3 d4 hC
        have HC : Hid (Calls Tryz.prog 16 #[.slice la AN.length lc, .int .i64 (k : Int), .agg #[.int .i64 x.fate, .int .i64 x.r0, .int .i64 x.r1, .int .i64 x.r2, .int .i64 x.r3]] wr fun e w' => e = .returned (.bool true) ∧ Below wr.heap.size wr w') := hC
        subst hb
        clear hx hC h0 h1 h2 h3 h4 up hj8
        go_wp2_with fail
        clear d0 d1 d2 d3 d4
        refine (HC.out).mono ?_
        rintro e w4 ⟨rfl, hb4⟩
        have HB4 : Hid (Below w3.heap.size w3 w4) := (HBk.out).trans (hb4.mono hszk)
        clear hb4 HC
        go_wp2_with fail
        go_roundg (gk - 1)
        case rel => exact ⟨k + 1, by simp, by omega, by omega, HB4⟩
        case measure => omega
      · have hke : ¬ (k : Int) < (jobs.length : Int) := by omega
        obtain ⟨w5, hw5⟩ : ∃ w5, w5 = wr := ⟨_, rfl⟩
        subst hw5
        have HB5 : Hid (Below w.heap.size w w5) := (HB3.out).trans ((HBk.out).mono (HB3.out).size)
        have HSb5 : Hid (Blk w5 w.heap.size 27 #[.int .i64 c.t, .int .i64 c.wd, .int .i64 c.s, .int .i64 c.g, .int .i64 c.r, .int .i64 c.cp, .int .i64 c.f, .slice ma mem.length mc, .slice ja jobs.length jc]) := (HSb3.out).below HBk.out (HSb3.out).lt
        have HA5 : Hid (AttsRow w5 w0.heap.size la lc AN) := ownsRow_below HA3.out HBk.out
        have HR5 : Hid (ResIn w5 w5.heap.size ra R) := (HR3.out).up HBk.out
        have HJ5 : Hid (JobsRep w5 w5.heap.size ja jobs) := (HJ.out).up2 HB5.out
        clear HB3 HSb3 HA3 HR3 HJ3 HBk HOn hj8
        go_wp2_with fail
        go_loopg [12] (T + 1) (fun m t12 wr => ∃ k : Nat, t12 = .int .i64 (k : Int) ∧ k ≤ T ∧ m = T + 1 - k ∧ Hid (Below w5.heap.size w5 wr))
        case atStart => exact ⟨0, rfl, by omega, by omega, Below.refl _ _⟩
        case round =>
          obtain ⟨i, rfl, hi, hgi, HBi⟩ := hrel
          have hszi := (HBi.out).size
          have hT4 := (HT.out).2
          have hst := ((HSb5.out).below HBi.out (HSb5.out).lt).cell
          have hct : c.t = (T : Int) := (HT.out).1
          by_cases hil : i < T
          · have hi1 : (i : Int) < c.t := by omega
            have hwi : IntKind.i64.wrap ((i : Int) + 1) = (i : Int) + 1 := wrapF _ (by omega) (by omega)
            have hC := turns_any c mem jobs AN R (i : Int) (HTn.out (i : Int)) HRl.out HJ8.out ma ja la ra mc jc lc rc w0.heap.size wr HNl.out ((HJ5.out).up2 HBi.out) (ownsRow_below HA5.out HBi.out) ((HR5.out).up HBi.out)
            rw [HRl.out] at hC
            have HC : Hid (Calls Tryz.prog 17 #[.agg #[.int .i64 c.t, .int .i64 c.wd, .int .i64 c.s, .int .i64 c.g, .int .i64 c.r, .int .i64 c.cp, .int .i64 c.f, .slice ma mem.length mc, .slice ja jobs.length jc], .slice la AN.length lc, .slice ra jobs.length rc, .int .i64 (i : Int)] wr fun e w' => e = .returned (.bool true) ∧ Below wr.heap.size wr w') := hC
            clear hC hct hT4
            go_wp2_with fail
            clear hst
            refine (HC.out).mono ?_
            rintro e w6 ⟨rfl, hb6⟩
            have HB6 : Hid (Below w5.heap.size w5 w6) := (HBi.out).trans (hb6.mono hszi)
            clear hb6 HC
            go_wp2_with fail
            go_roundg (T + 1 - (i + 1))
            case rel => exact ⟨i + 1, by simp, by omega, by omega, HB6⟩
            case measure => omega
          · have hi1 : ¬ (i : Int) < c.t := by omega
            have HB7 : Hid (Below w.heap.size w wr) := (HB5.out).trans ((HBi.out).mono (HB5.out).size)
            have HC : Hid (Calls Tryz.prog 18 #[.agg #[.int .i64 c.t, .int .i64 c.wd, .int .i64 c.s, .int .i64 c.g, .int .i64 c.r, .int .i64 c.cp, .int .i64 c.f, .slice ma mem.length mc, .slice ja jobs.length jc], .slice la AN.length lc] wr fun e w' => e = .returned (.bool true) ∧ Below wr.heap.size wr w') := kcalm_any c mem jobs AN HCl.out HJ8.out ma ja la mc jc lc w0.heap.size wr HNl.out ((HJ5.out).up2 HBi.out) (ownsRow_below HA5.out HBi.out)
            clear hct hT4
            go_wp2_with fail
            clear hst
            refine (HC.out).mono ?_
            rintro e w8 ⟨rfl, hb8⟩
            have HF : Hid (Below w.heap.size w w8) := (HB7.out).trans (hb8.mono (HB7.out).size)
            clear hb8 HC
            go_wp2_with fail
            go_ret
            exact ⟨rfl, HF.out⟩
  · have hWe : HW = 1 := (HHW.out).symm.trans (if_neg (by rw [HER.out]; exact he))
    have hRe : R = [] := (HR.out).trans (if_neg (by rw [HER.out]; exact he))
    have hAn : answeredN ER ER ((R.length : Int) == 0) = 1 := by unfold answeredN; rw [if_neg (by simp), if_neg he, hRe]; rfl
    rw [hAn]
    clear hAn HAN HHW HR hRe
    subst hWe
    go_wp2_with fail
    go_ret
    exact ⟨rfl, HB3.out⟩

end Go.Proofs.YtejadojilncbjabGreat
