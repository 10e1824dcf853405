import Derived.Test.YtejadojilncbjabGreatK40
import Derived.Test.YtejadojilncbjabGreatK48
import Derived.Test.YtejadojilncbjabGreatK49
namespace Go.Proofs.YtejadojilncbjabGreat
open Go.RowKit
set_option linter.unusedVariables false
attribute [local go_sem ↓] Go.wp_at_zero Go.wp_at_succ
theorem WR.apart2 {base p nb cb cap tcap rb : Nat} {pn : Int} {X : List Value} {w w' : World} {q : List (PT × Ls)} {Ds : List Int} (W : WR base p nb cb cap tcap pn X w q Ds) (o : Only rb w w') (h1 : p ≠ rb) (h2 : nb ≠ rb) (h3 : cb ≠ rb) (h4 : ¬ OwnW q rb) : WR base p nb cb cap tcap pn X w' q Ds :=
 ⟨W.thr.only o h1, fun i hi => (W.rows i hi).kept (fun k ok => o.block k ((W.rows i hi).own k ok).2 (fun e => h4 ⟨i, hi, e ▸ ok⟩)), W.dis, W.num.only o h2, W.nown, W.wst.only o h3, W.pb, W.nbb, W.cbb, Nat.le_trans W.bs o.size⟩
end Go.Proofs.YtejadojilncbjabGreat
namespace Go.Proofs.YtejadojilncbjabGreat
open Go.RowKit
set_option linter.unusedVariables false
theorem res_cells {w : World} {b : Nat} {l : List ResD} (h : Blk w b 47 (l.flatMap resCells).toArray) (k : Nat) (hk : k < l.length) :
  w.cell? ⟨b, k * 5, none⟩ = some (.int .i64 (l.getD k noRes).fate) ∧ w.cell? ⟨b, k * 5 + 1, none⟩ = some (.int .i64 (l.getD k noRes).r0) ∧ w.cell? ⟨b, k * 5 + 2, none⟩ = some (.int .i64 (l.getD k noRes).r1) ∧ w.cell? ⟨b, k * 5 + 3, none⟩ = some (.int .i64 (l.getD k noRes).r2) ∧ w.cell? ⟨b, k * 5 + 4, none⟩ = some (.int .i64 (l.getD k noRes).r3) := by
 have e : ∀ j, j < 5 → w.cell? ⟨b, k * 5 + j, none⟩ = (resCells (l.getD k noRes))[j]? := fun j hj => by
  rw [h.cell]
  simp only [List.getElem?_toArray]
  rw [flat_at (n := 5) (fun _ => rfl) _ k j hj, List.getElem?_eq_getElem hk]
  simp [List.getD, List.getElem?_eq_getElem hk]
 exact ⟨e 0 (by omega), e 1 (by omega), e 2 (by omega), e 3 (by omega), e 4 (by omega)⟩
theorem res_store {w : World} {b : Nat} {l : List ResD} (h : Blk w b 47 (l.flatMap resCells).toArray) (k : Nat) (hk : k < l.length) (r : ResD) :
  Blk (((((w.setCell ⟨b, k * 5, none⟩ (.int .i64 r.fate)).setCell ⟨b, k * 5 + 1, none⟩ (.int .i64 r.r0)).setCell ⟨b, k * 5 + 2, none⟩ (.int .i64 r.r1)).setCell ⟨b, k * 5 + 3, none⟩ (.int .i64 r.r2)).setCell ⟨b, k * 5 + 4, none⟩ (.int .i64 r.r3)) b 47 ((l.set k r).flatMap resCells).toArray := by
 refine (((((h.set).set).set).set).set).congr ?_
 rw [res_set l k hk r]
 simp
end Go.Proofs.YtejadojilncbjabGreat
namespace Go.Proofs.YtejadojilncbjabGreat
open Go.RowKit
set_option linter.unusedVariables false
attribute [local go_sem ↓] Go.wp_at_zero Go.wp_at_succ
set_option maxRecDepth 100000 in
set_option maxHeartbeats 2000000 in
theorem playJobs_any {c : Cfg} {mem : List Int} {jobs : List (Int × List InsD)} (S : SetupOk c mem jobs) (hjt : ∀ j ∈ jobs, 0 ≤ j.1 ∧ j.1 < c.t) (ps : List PickD) (hps : ps.length ≤ 2 ^ 23) (ma ja pa : Option Addr) (mc jc pc : Nat) (w : World)
  (hm : Ints w w.heap.size ma mem) (hj : JobsRep w w.heap.size ja jobs) (hp : PicksIn w w.heap.size pa ps) :
  Calls Tryz.prog 33 #[.agg #[.int .i64 c.t, .int .i64 c.wd, .int .i64 c.s, .int .i64 c.g, .int .i64 c.r, .int .i64 c.cp, .int .i64 c.f, .slice ma mem.length mc, .slice ja jobs.length jc], .slice pa ps.length pc] w (ResIs w (jobsOf c mem jobs ps)) := by
 have HS : Hid (SetupOk c mem jobs ∧ ∀ j ∈ jobs, 0 ≤ j.1 ∧ j.1 < c.t) := ⟨S, hjt⟩
 obtain ⟨RS, HRS⟩ : ∃ RS, Hid (jobsOf c mem jobs ps = RS) := ⟨_, rfl⟩
 have hRl : RS.length = jobs.length := by rw [← HRS.out]; simp [jobsOf]
 have HRl : Hid (RS.length = jobs.length) := hRl
 rw [show jobsOf c mem jobs ps = RS from HRS.out]
 have hps' : ps.length ≤ 8388608 := hps
 have hB1 : Below w.heap.size w (w.alloc (.cells #[.int .i64 c.t, .int .i64 c.wd, .int .i64 c.s, .int .i64 c.g, .int .i64 c.r, .int .i64 c.cp, .int .i64 c.f, .slice ma mem.length mc, .slice ja jobs.length jc] 27)) := (Below.refl w.heap.size w).alloc (Nat.le_refl _) _
 have HB1 : Hid (Below w.heap.size w (w.alloc (.cells #[.int .i64 c.t, .int .i64 c.wd, .int .i64 c.s, .int .i64 c.g, .int .i64 c.r, .int .i64 c.cp, .int .i64 c.f, .slice ma mem.length mc, .slice ja jobs.length jc] 27))) := hB1
 have HSb : Hid (Blk (w.alloc (.cells #[.int .i64 c.t, .int .i64 c.wd, .int .i64 c.s, .int .i64 c.g, .int .i64 c.r, .int .i64 c.cp, .int .i64 c.f, .slice ma mem.length mc, .slice ja jobs.length jc] 27)) w.heap.size 27 #[.int .i64 c.t, .int .i64 c.wd, .int .i64 c.s, .int .i64 c.g, .int .i64 c.r, .int .i64 c.cp, .int .i64 c.f, .slice ma mem.length mc, .slice ja jobs.length jc]) := Blk.new w 27 _
 have HJ1 : Hid (JobsRep (w.alloc (.cells #[.int .i64 c.t, .int .i64 c.wd, .int .i64 c.s, .int .i64 c.g, .int .i64 c.r, .int .i64 c.cp, .int .i64 c.f, .slice ma mem.length mc, .slice ja jobs.length jc] 27)) (w.alloc (.cells #[.int .i64 c.t, .int .i64 c.wd, .int .i64 c.s, .int .i64 c.g, .int .i64 c.r, .int .i64 c.cp, .int .i64 c.f, .slice ma mem.length mc, .slice ja jobs.length jc] 27)).heap.size ja jobs) := hj.up2 hB1
 have HC : Hid (Calls Tryz.prog 77 #[.agg #[.int .i64 c.t, .int .i64 c.wd, .int .i64 c.s, .int .i64 c.g, .int .i64 c.r, .int .i64 c.cp, .int .i64 c.f, .slice ma mem.length mc, .slice ja jobs.length jc], .slice pa ps.length pc] (w.alloc (.cells #[.int .i64 c.t, .int .i64 c.wd, .int .i64 c.s, .int .i64 c.g, .int .i64 c.r, .int .i64 c.cp, .int .i64 c.f, .slice ma mem.length mc, .slice ja jobs.length jc] 27)) (BehindIs c mem jobs ps (w.alloc (.cells #[.int .i64 c.t, .int .i64 c.wd, .int .i64 c.s, .int .i64 c.g, .int .i64 c.r, .int .i64 c.cp, .int .i64 c.f, .slice ma mem.length mc, .slice ja jobs.length jc] 27)))) :=
  behind_any S ps hps ma ja pa mc jc pc _ (hm.up hB1) (hj.up2 hB1) (hp.up2 hB1)
 have hs1 : (w.alloc (.cells #[.int .i64 c.t, .int .i64 c.wd, .int .i64 c.s, .int .i64 c.g, .int .i64 c.r, .int .i64 c.cp, .int .i64 c.f, .slice ma mem.length mc, .slice ja jobs.length jc] 27)).heap.size = w.heap.size + 1 := by simp
 have hmk := run_make35 jobs.length S.j8
 have hj8 := S.j8
 clear hm hj hp S hps hB1 hjt hRl
 go_enter Tryz.func33, Tryz.ntmps33
 go_wp2_with fail
 generalize w.alloc (.cells #[.int .i64 c.t, .int .i64 c.wd, .int .i64 c.s, .int .i64 c.g, .int .i64 c.r, .int .i64 c.cp, .int .i64 c.f, .slice ma mem.length mc, .slice ja jobs.length jc] 27) = w1 at *
 refine (HC.out).mono ?_
 rintro e w2 ⟨nb, p, cap, tcap, q, Ds, X, rfl, hW, hM, hb2⟩
 obtain ⟨cb, hcb⟩ : ∃ cb, cb = w2.heap.size := ⟨_, rfl⟩
 have hB3 : Below w2.heap.size w2 (w2.alloc (.cells #[.slice (some ⟨nb, 0, none⟩) Ds.length cap, .slice (some ⟨p, 0, none⟩) q.length tcap, .int .i64 (ps.length : Int)] 125)) := (Below.refl _ _).alloc (Nat.le_refl _) _
 have W3 := hW _ cb hB3 (by rw [hcb]; exact Blk.new w2 125 _) (by rw [hcb]; exact hb2.size)
 have HW3 : Hid (WR w1.heap.size p nb cb cap tcap (ps.length : Int) X (w2.alloc (.cells #[.slice (some ⟨nb, 0, none⟩) Ds.length cap, .slice (some ⟨p, 0, none⟩) q.length tcap, .int .i64 (ps.length : Int)] 125)) q Ds) := W3
 have HM3 : Hid (SimW c jobs (ps.length : Int) (gAt c mem jobs ps ps.length) q Ds) := hM
 have HB3 : Hid (Below w1.heap.size w1 (w2.alloc (.cells #[.slice (some ⟨nb, 0, none⟩) Ds.length cap, .slice (some ⟨p, 0, none⟩) q.length tcap, .int .i64 (ps.length : Int)] 125))) := hb2.trans (hB3.mono hb2.size)
 clear hW hM hB3 hb2 W3 HC
 go_upto_region 2 with fail
 rw [← hcb]
 clear hcb
 generalize w2.alloc (.cells #[.slice (some ⟨nb, 0, none⟩) Ds.length cap, .slice (some ⟨p, 0, none⟩) q.length tcap, .int .i64 (ps.length : Int)] 125) = w3 at *
 have hs3 : ∀ i, w3.cell? ⟨w.heap.size, i, none⟩ = (#[.int .i64 c.t, .int .i64 c.wd, .int .i64 c.s, .int .i64 c.g, .int .i64 c.r, .int .i64 c.cp, .int .i64 c.f, .slice ma mem.length mc, .slice ja jobs.length jc] : Array Value)[i]? := ((HSb.out).below HB3.out (by omega)).cell
 obtain ⟨ob, hob⟩ : ∃ ob, ob = w3.heap.size := ⟨_, rfl⟩
 obtain ⟨Z, hZ⟩ : ∃ Z, Z = ((List.replicate jobs.length (⟨0, 0, 0, 0, 0⟩ : ResD)).flatMap resCells).toArray := ⟨_, rfl⟩
 rw [← hZ] at hmk
 have hB4 : Below w3.heap.size w3 (w3.alloc (.cells Z 47)) := (Below.refl _ _).alloc (Nat.le_refl _) _
 have HW4 : Hid (WR w1.heap.size p nb cb cap tcap (ps.length : Int) X (w3.alloc (.cells Z 47)) q Ds) := (HW3.out).below hB4
 have HB4 : Hid (Below w1.heap.size w1 (w3.alloc (.cells Z 47))) := (HB3.out).trans (hB4.mono (HB3.out).size)
 have HO4 : Hid (Blk (w3.alloc (.cells Z 47)) ob 47 ((resPad RS 0).flatMap resCells).toArray) := by
  show Blk _ _ _ _
  rw [hob, resPad_zero, HRl.out, ← hZ]
  exact Blk.new w3 47 _
 have HOb : Hid (w1.heap.size ≤ ob ∧ p ≠ ob ∧ nb ≠ ob ∧ cb ≠ ob ∧ ¬ OwnW q ob) := by
  have h1 := (HW3.out).thr.lt
  have h2 := (HW3.out).num.lt
  have h3 := (HW3.out).wst.lt
  exact ⟨by rw [hob]; exact (HB3.out).size, by omega, by omega, by omega, fun o => by have := (HW3.out).ownW ob o; omega⟩
 have hwn : w.heap.size ≠ ob := by have := (HB3.out).size; omega
 have hwl : w.heap.size < w3.heap.size := by have := (HB3.out).size; omega
 clear HW3 HB3 hB4 hZ
 go_upto_region 3 with fail
 rw [← hob]
 clear hob hmk
 generalize w3.alloc (.cells Z 47) = w4 at *
 have hs4 : ∀ i, w4.cell? ⟨w.heap.size, i, none⟩ = (#[.int .i64 c.t, .int .i64 c.wd, .int .i64 c.s, .int .i64 c.g, .int .i64 c.r, .int .i64 c.cp, .int .i64 c.f, .slice ma mem.length mc, .slice ja jobs.length jc] : Array Value)[i]? := ((HSb.out).below HB4.out (by omega)).cell
 clear hs3 hwl
 go_wp2_with fail
 clear hs4
 go_loopg [19] (jobs.length + 1) (fun m t19 wr => ∃ (k : Nat), t19 = .int .i64 (k : Int) ∧ k ≤ jobs.length ∧ m = jobs.length + 1 - k ∧ Hid (WR w1.heap.size p nb cb cap tcap (ps.length : Int) X wr q Ds) ∧ Hid (Below w1.heap.size w1 wr) ∧ Hid (Blk wr ob 47 ((resPad RS k).flatMap resCells).toArray))
 case atStart => exact ⟨0, rfl, by omega, by omega, HW4, HB4, HO4⟩
 case round =>
  obtain ⟨k, rfl, hk, hgk, HW, HB, HO⟩ := hrel
  clear HW4 HB4 HO4
  by_cases hkl : k < jobs.length
  ·obtain ⟨js, hj1, hj2, hj3⟩ := (HJ1.out).up HB.out
   obtain ⟨jb, joff, hja, hjb, hjc0, hjc1⟩ := hj2 k (by omega)
   have hjt3 := (hj3 k (by omega)).1
   obtain ⟨th, hth⟩ : ∃ th, th = (jobs.getD k (0, [])).1 := ⟨_, rfl⟩
   rw [hjt3, ← hth] at hjc0
   have hmem : jobs.getD k (0, []) ∈ jobs := by
    rw [show jobs.getD k (0, []) = jobs[k] from by simp [List.getD, List.getElem?_eq_getElem hkl]]
    exact List.getElem_mem hkl
   have hthr := (HS.out).2 _ hmem
   rw [← hth] at hthr
   obtain ⟨ti, hti⟩ := Int.eq_ofNat_of_zero_le hthr.1
   have hql := (HM3.out).len
   have htq : ti < q.length := by omega
   have S1 := (HM3.out).sim ti htq
   have O1 := (HM3.out).own ti htq
   have hres : (Tol (cxOf c jobs ti) q[ti].1 ((gAt c mem jobs ps ps.length).th ti)) := S1.tol
   have hrk : RS.getD k noRes = ((gAt c mem jobs ps ps.length).th (ti : Int)).ends.getD k noRes := by
    rw [← HRS.out]
    unfold jobsOf
    simp only [List.getD, List.getElem?_map, List.getElem?_range hkl, Option.map_some, Option.getD_some]
    rw [show (jobs[k]?.getD (0, [])).1 = (ti : Int) from by rw [← hti, hth]; rfl]
   have hT := TolF.result hres k
   rw [← hrk] at hT
   obtain ⟨r, hr⟩ : ∃ r, r = RS.getD k noRes := ⟨_, rfl⟩
   rw [← hr] at hT
   have HNx : Hid (resPad RS (k + 1) = (resPad RS k).set k r) := by
    show _ = _
    rw [hr]
    exact resPad_next RS k (by rw [HRl.out]; exact hkl)
   obtain ⟨ca, hca⟩ : ∃ ca, ca = (jobAt js k).a := ⟨_, rfl⟩
   obtain ⟨cl, hcl⟩ : ∃ cl, cl = (jobAt js k).len := ⟨_, rfl⟩
   obtain ⟨cc, hcc⟩ : ∃ cc, cc = (jobAt js k).cap := ⟨_, rfl⟩
   rw [← hca, ← hcl, ← hcc] at hjc1
   have hBa : Below wr.heap.size wr (wr.alloc (.cells #[.int .i64 th, .slice ca cl cc] 88)) := (Below.refl _ _).alloc (Nat.le_refl _) _
   have HWa : Hid (WR w1.heap.size p nb cb cap tcap (ps.length : Int) X (wr.alloc (.cells #[.int .i64 th, .slice ca cl cc] 88)) q Ds) := (HW.out).below hBa
   have HBa : Hid (Below w1.heap.size w1 (wr.alloc (.cells #[.int .i64 th, .slice ca cl cc] 88))) := (HB.out).trans (hBa.mono (HB.out).size)
   have HOa : Hid (Blk (wr.alloc (.cells #[.int .i64 th, .slice ca cl cc] 88)) ob 47 ((resPad RS k).flatMap resCells).toArray) := (HO.out).alloc _
   have HRc : Hid (Calls Tryz.prog 78 #[.pointer (some ⟨p, ti * 47, none⟩), .int .i64 (k : Int)] (wr.alloc (.cells #[.int .i64 th, .slice ca cl cc] 88)) fun e w' => e = .returned (.agg #[.int .i64 r.fate, .int .i64 r.r0, .int .i64 r.r1, .int .i64 r.r2, .int .i64 r.r3]) ∧ Below (wr.alloc (.cells #[.int .i64 th, .slice ca cl cc] 88)).heap.size (wr.alloc (.cells #[.int .i64 th, .slice ca cl cc] 88)) w') :=
    t_result w1.heap.size p (ti * 47) _ _ q[ti].1 q[ti].2 _ ((HWa.out).tr ti htq) (by have := hres.rl; have := hres.cu; have := O1.mine; omega) (by have := hres.rl; have := hres.cu; omega) (k : Int) r hT.1 hT.2
   have m1 : wr.cell? ⟨cb, 1, none⟩ = some (.slice (some ⟨p, 0, none⟩) q.length tcap) := by rw [(HW.out).wst.cell]; rfl
   have hcbl : cb < wr.heap.size := (HW.out).wst.lt
   have hcbn : cb ≠ wr.heap.size := by omega
   have hk0 : (0 : Int) ≤ (k : Int) := by omega
   have hk1 : (k : Int) < (jobs.length : Int) := by omega
   have ht0 : (0 : Int) ≤ th := hthr.1
   have ht1 : th < (q.length : Int) := by omega
   have hwk : IntKind.i64.wrap ((k : Int) + 1) = (k : Int) + 1 := wrapP _ (by omega) (by omega)
   have hjbl : jb < wr.heap.size := Nat.lt_of_lt_of_le hjb (HB.out).size
   have HKr : Hid (k < RS.length) := by show _ < _; rw [HRl.out]; exact hkl
   subst hja
   have hto : th.toNat = ti := by omega
   clear HW HB HO hres hT hr hrk S1 O1 hj1 hj2 hj3 hjt3 hmem hthr hti hth hca hcl hcc hBa
   go_wp2_with fail
   clear hjc0 hjc1 m1
   refine (HRc.out).mono ?_
   rintro e w5 ⟨rfl, hb5⟩
   have HW5 : Hid (WR w1.heap.size p nb cb cap tcap (ps.length : Int) X w5 q Ds) := (HWa.out).below hb5
   have HB5 : Hid (Below w1.heap.size w1 w5) := (HBa.out).trans (hb5.mono (HBa.out).size)
   have HO5 : Hid (Blk w5 ob 47 ((resPad RS k).flatMap resCells).toArray) := (HOa.out).below hb5 (HOa.out).lt
   obtain ⟨k0, k1, k2, k3, k4⟩ := res_cells HO5.out k (by rw [resPad_len RS k (by have := HKr.out; omega)]; exact HKr.out)
   have of := (HO5.out).frozen
   clear hb5 HRc HWa HBa HOa
   go_wp2_with fail
   have ho6 : Only ob w5 (((((w5.setCell ⟨ob, k * 5, none⟩ (.int .i64 r.fate)).setCell ⟨ob, k * 5 + 1, none⟩ (.int .i64 r.r0)).setCell ⟨ob, k * 5 + 2, none⟩ (.int .i64 r.r1)).setCell ⟨ob, k * 5 + 3, none⟩ (.int .i64 r.r2)).setCell ⟨ob, k * 5 + 4, none⟩ (.int .i64 r.r3)) := (((((Only.refl _ _).set).set).set).set).set
   obtain ⟨o1, o2, o3, o4, o5⟩ := HOb.out
   go_roundg (gk - 1)
   case rel => exact ⟨k + 1, by simp, by omega, by omega, (HW5.out).apart2 ho6 o2 o3 o4 o5, below_onto HB5.out ho6 o1 (HB5.out).size, by rw [HNx.out]; exact res_store HO5.out k (by rw [resPad_len RS k (by have := HKr.out; omega)]; exact HKr.out) r⟩
   case measure => omega
  ·have hkj : k = jobs.length := by omega
   subst hkj
   have hk2 : ¬ ((jobs.length : Int) < (jobs.length : Int)) := by omega
   have HR : Hid (wr.ownsRow w.heap.size 47 5 (.slice (some ⟨ob, 0, none⟩) RS.length jobs.length) RS.length (RS.flatMap resCells)) := by
    have h1 := HO.out
    rw [show jobs.length = RS.length from (HRl.out).symm, resPad_all] at h1
    rw [show jobs.length = RS.length from (HRl.out).symm]
    exact row_of_blk h1 (by have := (HOb.out).1; omega) (flat_len (f := resCells) (n := 5) (fun _ => rfl) RS) (by unfold maxLen; have := HRl.out; omega)
   have HF : Hid (Below w.heap.size w wr) := (HB1.out).trans ((HB.out).mono (HB1.out).size)
   have HLl : Hid (jobs.length = RS.length) := (HRl.out).symm
   clear HW HB HO
   go_wp2_with fail
   go_ret
   exact ⟨some ⟨ob, 0, none⟩, jobs.length, by have := HLl.out; simp [this], HR.out, HF.out⟩
set_option maxRecDepth 100000 in
set_option maxHeartbeats 4000000 in
theorem jobsGood : JobsGood := by
 intro c mem jobs ps ma ja pa mc jc pc w hps hml hjl hm hj hp
 have HM : Hid (Ints w w.heap.size ma mem) := hm
 have HJ : Hid (JobsRep w w.heap.size ja jobs) := hj
 have HP : Hid (PicksIn w w.heap.size pa ps) := hp
 have HPS : Hid (ps.length ≤ 2 ^ 23) := hps
 obtain ⟨L, HL⟩ : ∃ L, Hid (jobsA c mem jobs ps = L) := ⟨_, rfl⟩
 obtain ⟨ER, HER⟩ : ∃ ER, Hid (errS c mem jobs = ER) := ⟨_, rfl⟩
 rw [show jobsA c mem jobs ps = L from HL.out, show errS c mem jobs = ER from HER.out]
 clear hm hj hp hps
 go_enter Tryz.func9, Tryz.ntmps9
 go_wp2_with fail
 obtain ⟨w0, hw0⟩ : ∃ w0, w0 = w.alloc (.cells #[.int .i64 c.t, .int .i64 c.wd, .int .i64 c.s, .int .i64 c.g, .int .i64 c.r, .int .i64 c.cp, .int .i64 c.f, .slice ma mem.length mc, .slice ja jobs.length jc] 27) := ⟨_, rfl⟩
 have hB0 : Below w.heap.size w w0 := by rw [hw0]; exact (Below.refl w.heap.size w).alloc (Nat.le_refl _) _
 have hSb : Blk w0 w.heap.size 27 #[.int .i64 c.t, .int .i64 c.wd, .int .i64 c.s, .int .i64 c.g, .int .i64 c.r, .int .i64 c.cp, .int .i64 c.f, .slice ma mem.length mc, .slice ja jobs.length jc] := by rw [hw0]; exact Blk.new w 27 _
 have hs0 : w0.heap.size = w.heap.size + 1 := by rw [hw0]; simp
 rw [← hw0]
 clear hw0
 refine (setup_rep c mem jobs ma ja mc jc w0 hml hjl ((HM.out).up hB0) ((HJ.out).up2 hB0)).mono ?_
 rintro e w1 ⟨rfl, hb1⟩
 have hB1 : Below w.heap.size w w1 := hB0.trans (hb1.mono hB0.size)
 have hsc : ∀ i, w1.cell? ⟨w.heap.size, i, none⟩ = (#[.int .i64 c.t, .int .i64 c.wd, .int .i64 c.s, .int .i64 c.g, .int .i64 c.r, .int .i64 c.cp, .int .i64 c.f, .slice ma mem.length mc, .slice ja jobs.length jc] : Array Value)[i]? := (hSb.below hb1 (by omega)).cell
 have HB1 : Hid (Below w.heap.size w w1) := hB1
 have HM1 : Hid (Ints w1 w1.heap.size ma mem) := (HM.out).up hB1
 have HJ1 : Hid (JobsRep w1 w1.heap.size ja jobs) := (HJ.out).up2 hB1
 have HP1 : Hid (PicksIn w1 w1.heap.size pa ps) := (HP.out).up2 hB1
 clear hB0 hSb hs0 hb1 hB1 HM HJ HP
 rw [show errS c mem jobs = ER from HER.out]
 by_cases he : ER = 0
 ·have hbn : (ER != 0) = false := by simp [he]
  have HLe : Hid (L = jobsOf c mem jobs ps) := (HL.out).symm.trans (if_pos ((HER.out).trans he))
  have HSo : Hid (SetupOk c mem jobs ∧ ∀ j ∈ jobs, 0 ≤ j.1 ∧ j.1 < c.t) := errS_ok ((HER.out).trans he)
  have HE0 : Hid (ER = 0) := he
  clear he HL HER
  go_wp2_with fail
  refine (playJobs_any (HSo.out).1 (HSo.out).2 ps HPS.out ma ja pa mc jc pc w1 HM1.out HJ1.out HP1.out).mono ?_
  rintro e w2 ⟨la, lc, rfl, hl2, hb2⟩
  have HL2 : Hid (w2.ownsRow w.heap.size 47 5 (.slice la (jobsOf c mem jobs ps).length lc) (jobsOf c mem jobs ps).length ((jobsOf c mem jobs ps).flatMap resCells)) := ownsRow_low hl2 (HB1.out).size
  have HB2 : Hid (Below w.heap.size w w2) := (HB1.out).trans (hb2.mono (HB1.out).size)
  clear hl2 hb2 hsc hbn
  go_wp2
  exact bodyPost_ret (v := .tuple #[.slice la (jobsOf c mem jobs ps).length lc, .int .i64 0]) (by simp [results, Tryz.results9, go_sem]) rfl ⟨la, lc, by rw [HLe.out, HE0.out], by rw [HLe.out]; exact HL2.out, HB2.out⟩
 ·have hbn : (ER != 0) = true := by simp [he]
  have HLe : Hid (L = []) := (HL.out).symm.trans (if_neg (by rw [HER.out]; exact he))
  clear he HL HER hsc
  go_wp2
  exact bodyPost_ret (v := .tuple #[.slice none 0 0, .int .i64 ER]) (by simp [results, Tryz.results9, go_sem]) rfl ⟨none, 0, by rw [HLe.out]; rfl, by rw [HLe.out]; exact World.ownsRow_nil _ _ _ _, HB1.out⟩
end Go.Proofs.YtejadojilncbjabGreat
