import Derived.Test.YtejadojilncbjaaGreatG52
import Derived.Test.YtejadojilncbjaaGreatG35
import Derived.Test.YtejadojilncbjaaGreatG19
import Derived.Test.YtejadojilncbjaaGreatG47
import Derived.Test.YtejadojilncbjaaGreatG48
namespace Go.Proofs.YtejadojilncbjaaGreat
open Go.RowKit
set_option linter.unusedVariables false
attribute [local go_sem ↓] Go.wp_at_zero Go.wp_at_succ

set_option maxRecDepth 100000 in
set_option maxHeartbeats 16000000 in
/-- The keepers' framed. -/
theorem framed_any (c : Cfg) (hc : cfgB c = true) (mem : List Int) (jobs : List (Int × List InsD)) (hj8 : jobs.length ≤ 8) (ps : List PickD) (hps : ps.length ≤ 2097152) (L : List AccD) (hL : L.length = ps.length) (x : AttD) (F : FrmOk c jobs ps L x) (ma ja pa aa xa : Option Addr) (mc jc pc ac xn xc : Nat) (w : World)
    (hj : JobsRep w w.heap.size ja jobs) (hp : PicksIn w w.heap.size pa ps) (hl : LogIn w w.heap.size aa L) :
    Calls Tryz.prog 51 #[.agg #[.int .i64 c.t, .int .i64 c.wd, .int .i64 c.s, .int .i64 c.g, .int .i64 c.r, .int .i64 c.cp, .int .i64 c.f, .slice ma mem.length mc, .slice ja jobs.length jc], .slice pa ps.length pc, .slice aa ps.length ac, .agg #[.int .i64 x.thread, .int .i64 x.job, .int .i64 x.start, .int .i64 x.fin, .int .i64 x.valid, .int .i64 x.stamp, .int .i64 x.fate, .slice xa xn xc]] w fun e w' => e = .returned (.bool true) ∧ Below w.heap.size w w' := by
  have HC : Hid (cfgB c = true) := hc
  obtain ⟨⟨ct1, ct2⟩, _, ⟨cs1, cs2⟩, _⟩ := cfgB_true hc
  obtain ⟨s1, s2⟩ := F.st
  obtain ⟨j, hje, hjl, hjt⟩ := F.jb
  obtain ⟨th0, th1⟩ := F.th
  have hpk := F.pk
  obtain ⟨k1, k2, k3⟩ := F.ac
  have hsp := F.sp
  have hen := F.en
  obtain ⟨x0, x1, x2, x3, x4, x5, x6, xl⟩ := x
  simp only at s1 s2 hje hjt th0 th1 hpk k1 k2 k3 hsp hen ⊢
  subst hje
  obtain ⟨s0, hs0⟩ : ∃ s0, s0 = (x2 - 1).toNat := ⟨_, rfl⟩
  rw [← hs0] at hpk k1 k2 k3
  have hs0l : s0 < ps.length := by omega
  have hsub : IntKind.i64.wrap (x2 - 1) = (s0 : Int) := by rw [show x2 - 1 = (s0 : Int) by omega]; exact wrapF _ (by omega) (by omega)
  obtain ⟨w0, hw0⟩ : ∃ w0, w0 = (w.alloc (.cells #[.int .i64 c.t, .int .i64 c.wd, .int .i64 c.s, .int .i64 c.g, .int .i64 c.r, .int .i64 c.cp, .int .i64 c.f, .slice ma mem.length mc, .slice ja jobs.length jc] 27)).alloc (.cells #[.int .i64 x0, .int .i64 (j : Int), .int .i64 x2, .int .i64 x3, .int .i64 x4, .int .i64 x5, .int .i64 x6, .slice xa xn xc] 63) := ⟨_, rfl⟩
  have hB0 : Below w.heap.size w w0 := by rw [hw0]; exact ((Below.refl w.heap.size w).alloc (Nat.le_refl _) _).alloc (by simp) _
  have HB0 : Hid (Below w.heap.size w w0) := hB0
  have HS0 : Hid (Blk w0 w.heap.size 27 #[.int .i64 c.t, .int .i64 c.wd, .int .i64 c.s, .int .i64 c.g, .int .i64 c.r, .int .i64 c.cp, .int .i64 c.f, .slice ma mem.length mc, .slice ja jobs.length jc]) := by rw [hw0]; exact (Blk.new w 27 _).alloc _
  have HX0 : Hid (Blk w0 (w.heap.size + 1) 63 #[.int .i64 x0, .int .i64 (j : Int), .int .i64 x2, .int .i64 x3, .int .i64 x4, .int .i64 x5, .int .i64 x6, .slice xa xn xc]) := by
    rw [hw0]
    have := Blk.new (w.alloc (.cells #[.int .i64 c.t, .int .i64 c.wd, .int .i64 c.s, .int .i64 c.g, .int .i64 c.r, .int .i64 c.cp, .int .i64 c.f, .slice ma mem.length mc, .slice ja jobs.length jc] 27)) 63 #[.int .i64 x0, .int .i64 (j : Int), .int .i64 x2, .int .i64 x3, .int .i64 x4, .int .i64 x5, .int .i64 x6, .slice xa xn xc]
    exact (by simpa using this : Blk _ _ _ _)
  obtain ⟨jb, joff, hja, hjb, jc0⟩ := job_at (hj.up2 hB0) j hjl
  obtain ⟨pb, poff, hpa, hpb, pc0, _⟩ := (hp.up2 hB0) s0 hs0l
  obtain ⟨ab, aoff, haa, hab, ac0, ac1, ac2, ac3⟩ := (hl.up hB0) s0 (by rw [hL]; exact hs0l)
  rw [hjt] at jc0
  rw [hpk] at pc0
  rw [k1] at ac0
  rw [k2] at ac1
  obtain ⟨se, hse⟩ : ∃ se, se = (accAt L s0).seen := ⟨_, rfl⟩
  obtain ⟨pu, hpu⟩ : ∃ pu, pu = (accAt L s0).put := ⟨_, rfl⟩
  rw [← hse] at ac2 k3
  rw [← hpu] at ac3
  have HL : Hid (LogIn w0 w0.heap.size aa L ∧ L.length = ps.length) := ⟨hl.up hB0, hL⟩
  have HP : Hid (PicksIn w0 w0.heap.size pa ps) := hp.up2 hB0
  have HEn : Hid ((x3 = 0 ∧ x6 = 0) ∨ (x2 < x3 ∧ x3 ≤ (ps.length : Int) ∧ 1 ≤ x6 ∧ x6 ≤ 5 ∧ (pickAt ps (x3 - 1).toNat).thread = x0 ∧ (accAt L (x3 - 1).toNat).kind = 2 ∧ (accAt L (x3 - 1).toNat).cell = 3 + 2 * c.s + x0)) := hen
  have scS := (HS0.out).cell
  have scX := (HX0.out).cell
  obtain ⟨bs, hbs⟩ : ∃ bs, bs = w.heap.size := ⟨_, rfl⟩
  obtain ⟨bx, hbx⟩ : ∃ bx, bx = w.heap.size + 1 := ⟨_, rfl⟩
  have HBB : Hid (bs = w.heap.size ∧ bx = w.heap.size + 1) := ⟨hbs, hbx⟩
  rw [← hbs] at scS
  rw [← hbx] at scX
  have hbsl : bs < w0.heap.size := by have := (HS0.out).lt; omega
  have hbxl : bx < w0.heap.size := by have := (HX0.out).lt; omega
  have n1 : ¬ x2 < 1 := by omega
  have n2 : ¬ x2 > (ps.length : Int) := by omega
  have n3 : ¬ (j : Int) < 0 := by omega
  have n4 : ¬ (j : Int) ≥ (jobs.length : Int) := by omega
  have n5 : (0 : Int) ≤ (j : Int) := by omega
  have n6 : (j : Int) < (jobs.length : Int) := by omega
  have n7 : (x0 != x0) = false := by simp
  have n8 : (0 : Int) ≤ (s0 : Int) := by omega
  have n9 : (s0 : Int) < (ps.length : Int) := by omega
  have n10 : ¬ se > x4 := by omega
  have HXp : Hid (x5 ≠ 0 → x4 < x5) := hsp
  have HTh : Hid (0 ≤ x0 ∧ x0 < c.t ∧ c.t ≤ 4 ∧ 1 ≤ c.s ∧ c.s ≤ 8) := ⟨th0, th1, ct2, cs1, cs2⟩
  have hXs : Hid (1 ≤ x2 ∧ x2 ≤ (ps.length : Int)) := ⟨s1, s2⟩
  subst hja hpa haa
  clear F hc hj hp hl hL hjt hpk k1 k2 k3 hsp hen hse hpu hs0 th0 th1 ct1 ct2 cs1 cs2 hB0 s1 s2 hjl hs0l
  go_enter Tryz.func51, Tryz.ntmps51
  go_upto_region 1 with fail
  rw [← hw0, ← hbs]
  rw [show bs + 1 = bx from by omega]
  clear hw0 hbs hbx
  go_quiet (fail)
  have hBd : Below w0.heap.size w0 (w0.drewN nq) := ⟨rfl, rfl, rfl, Nat.le_refl _, fun _ _ => rfl⟩
  obtain ⟨wd, hwd⟩ : ∃ wd, wd = w0.drewN nq := ⟨_, rfl⟩
  rw [← hwd] at hBd ⊢
  have up : ∀ (b o : Nat), b < w0.heap.size → wd.cell? ⟨b, o, none⟩ = w0.cell? ⟨b, o, none⟩ := fun b o hb => World.cell?_of_block (hBd.block b hb)
  have ad0 := (up ab _ hab).trans ac0
  have ad1 := (up ab _ hab).trans ac1
  have ad2 := (up ab _ hab).trans ac2
  have ad3 := (up ab _ hab).trans ac3
  have xd : ∀ i, wd.cell? ⟨bx, i, none⟩ = (#[.int .i64 x0, .int .i64 (j : Int), .int .i64 x2, .int .i64 x3, .int .i64 x4, .int .i64 x5, .int .i64 x6, .slice xa xn xc] : Array Value)[i]? := fun i => (up bx i hbxl).trans (scX i)
  have hB3 : Below w0.heap.size w0 (wd.alloc (.cells #[.int .i64 1, .int .i64 0, .int .i64 se, .int .i64 pu] 40)) := hBd.alloc hBd.size _
  have HB3 : Hid (Below w0.heap.size w0 (wd.alloc (.cells #[.int .i64 1, .int .i64 0, .int .i64 se, .int .i64 pu] 40))) := hB3
  have HA3 : Hid (Blk (wd.alloc (.cells #[.int .i64 1, .int .i64 0, .int .i64 se, .int .i64 pu] 40)) wd.heap.size 40 #[.int .i64 1, .int .i64 0, .int .i64 se, .int .i64 pu]) := Blk.new wd 40 _
  have hbxd : bx < wd.heap.size := Nat.lt_of_lt_of_le hbxl hBd.size
  clear ac0 ac1 ac2 ac3 up hBd hwd hB3
  go_upto_region 4 with fail
  obtain ⟨w3, hw3⟩ : ∃ w3, w3 = wd.alloc (.cells #[.int .i64 1, .int .i64 0, .int .i64 se, .int .i64 pu] 40) := ⟨_, rfl⟩
  obtain ⟨bb, hbb⟩ : ∃ bb, bb = wd.heap.size := ⟨_, rfl⟩
  rw [← hw3] at HB3 HA3 ⊢
  rw [← hbb] at HA3 ⊢
  clear ad0 ad1 ad2 ad3 xd hw3 hbb hbxd
  have up3 : ∀ (b o : Nat), b < w0.heap.size → w3.cell? ⟨b, o, none⟩ = w0.cell? ⟨b, o, none⟩ := fun b o hb => World.cell?_of_block ((HB3.out).block b hb)
  have xd : ∀ i, w3.cell? ⟨bx, i, none⟩ = (#[.int .i64 x0, .int .i64 (j : Int), .int .i64 x2, .int .i64 x3, .int .i64 x4, .int .i64 x5, .int .i64 x6, .slice xa xn xc] : Array Value)[i]? := fun i => (up3 bx i hbxl).trans (scX i)
  have sd : ∀ i, w3.cell? ⟨bs, i, none⟩ = (#[.int .i64 c.t, .int .i64 c.wd, .int .i64 c.s, .int .i64 c.g, .int .i64 c.r, .int .i64 c.cp, .int .i64 c.f, .slice ma mem.length mc, .slice (some ⟨jb, joff, none⟩) jobs.length jc] : Array Value)[i]? := fun i => (up3 bs i hbsl).trans (scS i)
  have pd := (up3 pb _ hpb).trans pc0
  have bd := (HA3.out).cell
  have hszw : w.heap.size ≤ w0.heap.size := (HB0.out).size
  clear up3 scX scS pc0 jc0
  by_cases h5 : x5 = 0
  · have h5b : (x5 != 0) = false := by simp [h5]
    clear HXp h5
    rcases HEn.out with ⟨h3, h6⟩ | ⟨e1, e2, e3, e4, e5, e6, e7⟩
    · have h3b : (x3 == 0) = true := by simp [h3]
      have h6b : (x6 == 0) = true := by simp [h6]
      clear HEn h3 h6
      go_quiet (fail)
      go_wp2_with fail
      go_ret
      exact ⟨by simp, (HB0.out).trans ((belowDrewN HB3.out nq).mono hszw)⟩
    · obtain ⟨g1, g2⟩ := hXs.out
      obtain ⟨e0, he0⟩ : ∃ e0, e0 = (x3 - 1).toNat := ⟨_, rfl⟩
      rw [← he0] at e5 e6 e7
      have he0l : e0 < ps.length := by omega
      have hsub2 : IntKind.i64.wrap (x3 - 1) = (e0 : Int) := by rw [show x3 - 1 = (e0 : Int) by omega]; exact wrapF _ (by omega) (by omega)
      obtain ⟨pb', poff', hpa', _, q0, _⟩ := HP.out e0 he0l
      obtain ⟨ab', aoff', haa', _, a0, a1, a2, a3⟩ := (HL.out).1 e0 (by rw [(HL.out).2]; exact he0l)
      cases hpa'
      cases haa'
      have up3 : ∀ (b o : Nat), b < w0.heap.size → w3.cell? ⟨b, o, none⟩ = w0.cell? ⟨b, o, none⟩ := fun b o hb => World.cell?_of_block ((HB3.out).block b hb)
      have qd := (up3 pb _ hpb).trans q0
      have ad0 := (up3 ab _ hab).trans a0
      have ad1 := (up3 ab _ hab).trans a1
      have ad2 := (up3 ab _ hab).trans a2
      have ad3 := (up3 ab _ hab).trans a3
      rw [e5] at qd
      rw [e6] at ad0
      rw [e7] at ad1
      obtain ⟨se2, hse2⟩ : ∃ se2, se2 = (accAt L e0).seen := ⟨_, rfl⟩
      obtain ⟨pu2, hpu2⟩ : ∃ pu2, pu2 = (accAt L e0).put := ⟨_, rfl⟩
      rw [← hse2] at ad2
      rw [← hpu2] at ad3
      obtain ⟨cl, hcl⟩ : ∃ cl, cl = 3 + 2 * c.s + x0 := ⟨_, rfl⟩
      rw [← hcl] at ad1
      have HCL : Hid (3 + 2 * c.s + x0 = cl) := hcl.symm
      have m1 : (x3 == 0) = false := by rw [beq_eq_false_iff_ne]; omega
      have m2 : ¬ x6 < 1 := by omega
      have m3 : ¬ x6 > 5 := by omega
      have m4 : ¬ x3 ≤ x2 := by omega
      have m5 : ¬ x3 > (ps.length : Int) := by omega
      have m6 : (0 : Int) ≤ (e0 : Int) := by omega
      have m7 : (e0 : Int) < (ps.length : Int) := by omega
      have hpb3 : pb < w3.heap.size := Nat.lt_of_lt_of_le hpb (HB3.out).size
      have hab3 : ab < w3.heap.size := Nat.lt_of_lt_of_le hab (HB3.out).size
      have hbx3 : bx < w3.heap.size := Nat.lt_of_lt_of_le hbxl (HB3.out).size
      have hbs3 : bs < w3.heap.size := Nat.lt_of_lt_of_le hbsl (HB3.out).size
      clear HEn e1 e2 e3 e4 e5 e6 e7 g1 g2 q0 a0 a1 a2 a3 up3 hse2 hpu2 hcl he0 he0l
      go_quiet (fail)
      have hBd2 : Below w3.heap.size w3 (w3.drewN nq) := ⟨rfl, rfl, rfl, Nat.le_refl _, fun _ _ => rfl⟩
      have hE2 : ∀ a, (w3.drewN nq).cell? a = w3.cell? a := fun _ => rfl
      have hZ2 : (w3.drewN nq).heap.size = w3.heap.size := rfl
      obtain ⟨we, hwe⟩ : ∃ we, we = w3.drewN nq := ⟨_, rfl⟩
      rw [← hwe] at hBd2 hE2 hZ2 ⊢
      have xe : ∀ i, we.cell? ⟨bx, i, none⟩ = (#[.int .i64 x0, .int .i64 (j : Int), .int .i64 x2, .int .i64 x3, .int .i64 x4, .int .i64 x5, .int .i64 x6, .slice xa xn xc] : Array Value)[i]? := fun i => (hE2 _).trans (xd i)
      have sd' : ∀ i, we.cell? ⟨bs, i, none⟩ = (#[.int .i64 c.t, .int .i64 c.wd, .int .i64 c.s, .int .i64 c.g, .int .i64 c.r, .int .i64 c.cp, .int .i64 c.f, .slice ma mem.length mc, .slice (some ⟨jb, joff, none⟩) jobs.length jc] : Array Value)[i]? := fun i => (hE2 _).trans (sd i)
      have qe := (hE2 _).trans qd
      have ae0 := (hE2 _).trans ad0
      have ae1 := (hE2 _).trans ad1
      have ae2 := (hE2 _).trans ad2
      have ae3 := (hE2 _).trans ad3
      have hbx4 : bx < we.heap.size := by rw [hZ2]; exact hbx3
      have hbs4 : bs < we.heap.size := by rw [hZ2]; exact hbs3
      have hpb4 : pb < we.heap.size := by rw [hZ2]; exact hpb3
      have HD2 : Hid (Below w3.heap.size w3 we) := hBd2
      have HC4 : Hid (Blk (we.alloc (.cells #[.int .i64 2, .int .i64 cl, .int .i64 se2, .int .i64 pu2] 40)) we.heap.size 40 #[.int .i64 2, .int .i64 cl, .int .i64 se2, .int .i64 pu2]) := Blk.new we 40 _
      have HB4 : Hid (Below we.heap.size we (we.alloc (.cells #[.int .i64 2, .int .i64 cl, .int .i64 se2, .int .i64 pu2] 40))) := (Below.refl _ _).alloc (Nat.le_refl _) _
      clear hwe hE2 hZ2 hBd2 xd sd qd ad0 ad1 ad2 ad3 hbx3 hbs3 hpb3 hab3 pd bd
      go_upto_region 13 with fail
      obtain ⟨w4, hw4⟩ : ∃ w4, w4 = we.alloc (.cells #[.int .i64 2, .int .i64 cl, .int .i64 se2, .int .i64 pu2] 40) := ⟨_, rfl⟩
      obtain ⟨b4, hb4⟩ : ∃ b4, b4 = we.heap.size := ⟨_, rfl⟩
      rw [← hw4] at HB4 HC4 ⊢
      rw [← hb4] at HC4 ⊢
      have up4 : ∀ (b o : Nat), b < we.heap.size → w4.cell? ⟨b, o, none⟩ = we.cell? ⟨b, o, none⟩ := fun b o hb => World.cell?_of_block ((HB4.out).block b hb)
      have xd4 : ∀ i, w4.cell? ⟨bx, i, none⟩ = (#[.int .i64 x0, .int .i64 (j : Int), .int .i64 x2, .int .i64 x3, .int .i64 x4, .int .i64 x5, .int .i64 x6, .slice xa xn xc] : Array Value)[i]? := fun i => (up4 bx i hbx4).trans (xe i)
      have sd4 : ∀ i, w4.cell? ⟨bs, i, none⟩ = (#[.int .i64 c.t, .int .i64 c.wd, .int .i64 c.s, .int .i64 c.g, .int .i64 c.r, .int .i64 c.cp, .int .i64 c.f, .slice ma mem.length mc, .slice (some ⟨jb, joff, none⟩) jobs.length jc] : Array Value)[i]? := fun i => (up4 bs i hbs4).trans (sd' i)
      have qd4 := (up4 pb _ hpb4).trans qe
      have cd4 := (HC4.out).cell
      have HSt : Hid (∀ wx, Calls Tryz.prog 49 #[.agg #[.int .i64 c.t, .int .i64 c.wd, .int .i64 c.s, .int .i64 c.g, .int .i64 c.r, .int .i64 c.cp, .int .i64 c.f, .slice ma mem.length mc, .slice (some ⟨jb, joff, none⟩) jobs.length jc], .int .i64 x0] wx fun e w' => e = .returned (.int .i64 cl) ∧ Below wx.heap.size wx w') := fun wx => by
        have h := kstatus_any c HC.out x0 ma (some ⟨jb, joff, none⟩) mem.length mc jobs.length jc wx (by have := HTh.out; omega) (by have := HTh.out; omega)
        rw [HCL.out] at h
        exact h
      have HBz : Hid (Below w.heap.size w w4) := (HB0.out).trans ((((HB3.out).trans ((HD2.out).mono (HB3.out).size)).trans ((HB4.out).mono (Nat.le_trans (HB3.out).size (HD2.out).size))).mono hszw)
      have h2b : ((2 : Int) == 2) = true := rfl
      have hx0 : (x0 == x0) = true := by simp
      have hclb : (cl == cl) = true := by simp
      have hbx5 : bx < w4.heap.size := Nat.lt_of_lt_of_le hbx4 (HB4.out).size
      have hpb5 : pb < w4.heap.size := Nat.lt_of_lt_of_le hpb4 (HB4.out).size
      have hb45 : b4 < w4.heap.size := (HC4.out).lt
      clear ae0 ae1 ae2 ae3 qe xe sd' hw4 hb4 up4
      go_region_with (go_at_call 49; refine (HSt.out _).mono ?_; rintro e w6 ⟨rfl, hb6⟩; have HB6 : Hid (Below w4.heap.size w4 w6) := (by first | exact hb6 | exact of_drew hb6); have xd6 : ∀ i, w6.cell? ⟨bx, i, none⟩ = (#[.int .i64 x0, .int .i64 (j : Int), .int .i64 x2, .int .i64 x3, .int .i64 x4, .int .i64 x5, .int .i64 x6, .slice xa xn xc] : Array Value)[i]? := (fun i => (World.cell?_of_block ((HB6.out).block bx hbx5)).trans (xd4 i)); have qd6 := (World.cell?_of_block (a := ⟨pb, poff + e0 * 2, none⟩) ((HB6.out).block pb hpb5)).trans qd4; have cd6 : ∀ i, w6.cell? ⟨b4, i, none⟩ = (#[.int .i64 2, .int .i64 cl, .int .i64 se2, .int .i64 pu2] : Array Value)[i]? := (fun i => (World.cell?_of_block ((HB6.out).block b4 hb45)).trans (cd4 i)); clear hb6)
      all_goals
        go_wp2
        go_ret
        exact ⟨by first | rfl | simp, (HBz.out).trans ((HB6.out).mono (HBz.out).size)⟩
  · have h5b : (x5 != 0) = true := by simp [h5]
    have h5c : ¬ x5 ≤ x4 := by have := HXp.out h5; omega
    clear HXp h5
    rcases HEn.out with ⟨h3, h6⟩ | ⟨e1, e2, e3, e4, e5, e6, e7⟩
    · have h3b : (x3 == 0) = true := by simp [h3]
      have h6b : (x6 == 0) = true := by simp [h6]
      clear HEn h3 h6
      go_quiet (fail)
      go_wp2_with fail
      go_ret
      exact ⟨by simp, (HB0.out).trans ((belowDrewN HB3.out nq).mono hszw)⟩
    · obtain ⟨g1, g2⟩ := hXs.out
      obtain ⟨e0, he0⟩ : ∃ e0, e0 = (x3 - 1).toNat := ⟨_, rfl⟩
      rw [← he0] at e5 e6 e7
      have he0l : e0 < ps.length := by omega
      have hsub2 : IntKind.i64.wrap (x3 - 1) = (e0 : Int) := by rw [show x3 - 1 = (e0 : Int) by omega]; exact wrapF _ (by omega) (by omega)
      obtain ⟨pb', poff', hpa', _, q0, _⟩ := HP.out e0 he0l
      obtain ⟨ab', aoff', haa', _, a0, a1, a2, a3⟩ := (HL.out).1 e0 (by rw [(HL.out).2]; exact he0l)
      cases hpa'
      cases haa'
      have up3 : ∀ (b o : Nat), b < w0.heap.size → w3.cell? ⟨b, o, none⟩ = w0.cell? ⟨b, o, none⟩ := fun b o hb => World.cell?_of_block ((HB3.out).block b hb)
      have qd := (up3 pb _ hpb).trans q0
      have ad0 := (up3 ab _ hab).trans a0
      have ad1 := (up3 ab _ hab).trans a1
      have ad2 := (up3 ab _ hab).trans a2
      have ad3 := (up3 ab _ hab).trans a3
      rw [e5] at qd
      rw [e6] at ad0
      rw [e7] at ad1
      obtain ⟨se2, hse2⟩ : ∃ se2, se2 = (accAt L e0).seen := ⟨_, rfl⟩
      obtain ⟨pu2, hpu2⟩ : ∃ pu2, pu2 = (accAt L e0).put := ⟨_, rfl⟩
      rw [← hse2] at ad2
      rw [← hpu2] at ad3
      obtain ⟨cl, hcl⟩ : ∃ cl, cl = 3 + 2 * c.s + x0 := ⟨_, rfl⟩
      rw [← hcl] at ad1
      have HCL : Hid (3 + 2 * c.s + x0 = cl) := hcl.symm
      have m1 : (x3 == 0) = false := by rw [beq_eq_false_iff_ne]; omega
      have m2 : ¬ x6 < 1 := by omega
      have m3 : ¬ x6 > 5 := by omega
      have m4 : ¬ x3 ≤ x2 := by omega
      have m5 : ¬ x3 > (ps.length : Int) := by omega
      have m6 : (0 : Int) ≤ (e0 : Int) := by omega
      have m7 : (e0 : Int) < (ps.length : Int) := by omega
      have hpb3 : pb < w3.heap.size := Nat.lt_of_lt_of_le hpb (HB3.out).size
      have hab3 : ab < w3.heap.size := Nat.lt_of_lt_of_le hab (HB3.out).size
      have hbx3 : bx < w3.heap.size := Nat.lt_of_lt_of_le hbxl (HB3.out).size
      have hbs3 : bs < w3.heap.size := Nat.lt_of_lt_of_le hbsl (HB3.out).size
      clear HEn e1 e2 e3 e4 e5 e6 e7 g1 g2 q0 a0 a1 a2 a3 up3 hse2 hpu2 hcl he0 he0l
      go_quiet (fail)
      have hBd2 : Below w3.heap.size w3 (w3.drewN nq) := ⟨rfl, rfl, rfl, Nat.le_refl _, fun _ _ => rfl⟩
      have hE2 : ∀ a, (w3.drewN nq).cell? a = w3.cell? a := fun _ => rfl
      have hZ2 : (w3.drewN nq).heap.size = w3.heap.size := rfl
      obtain ⟨we, hwe⟩ : ∃ we, we = w3.drewN nq := ⟨_, rfl⟩
      rw [← hwe] at hBd2 hE2 hZ2 ⊢
      have xe : ∀ i, we.cell? ⟨bx, i, none⟩ = (#[.int .i64 x0, .int .i64 (j : Int), .int .i64 x2, .int .i64 x3, .int .i64 x4, .int .i64 x5, .int .i64 x6, .slice xa xn xc] : Array Value)[i]? := fun i => (hE2 _).trans (xd i)
      have sd' : ∀ i, we.cell? ⟨bs, i, none⟩ = (#[.int .i64 c.t, .int .i64 c.wd, .int .i64 c.s, .int .i64 c.g, .int .i64 c.r, .int .i64 c.cp, .int .i64 c.f, .slice ma mem.length mc, .slice (some ⟨jb, joff, none⟩) jobs.length jc] : Array Value)[i]? := fun i => (hE2 _).trans (sd i)
      have qe := (hE2 _).trans qd
      have ae0 := (hE2 _).trans ad0
      have ae1 := (hE2 _).trans ad1
      have ae2 := (hE2 _).trans ad2
      have ae3 := (hE2 _).trans ad3
      have hbx4 : bx < we.heap.size := by rw [hZ2]; exact hbx3
      have hbs4 : bs < we.heap.size := by rw [hZ2]; exact hbs3
      have hpb4 : pb < we.heap.size := by rw [hZ2]; exact hpb3
      have HD2 : Hid (Below w3.heap.size w3 we) := hBd2
      have HC4 : Hid (Blk (we.alloc (.cells #[.int .i64 2, .int .i64 cl, .int .i64 se2, .int .i64 pu2] 40)) we.heap.size 40 #[.int .i64 2, .int .i64 cl, .int .i64 se2, .int .i64 pu2]) := Blk.new we 40 _
      have HB4 : Hid (Below we.heap.size we (we.alloc (.cells #[.int .i64 2, .int .i64 cl, .int .i64 se2, .int .i64 pu2] 40))) := (Below.refl _ _).alloc (Nat.le_refl _) _
      clear hwe hE2 hZ2 hBd2 xd sd qd ad0 ad1 ad2 ad3 hbx3 hbs3 hpb3 hab3 pd bd
      go_upto_region 13 with fail
      obtain ⟨w4, hw4⟩ : ∃ w4, w4 = we.alloc (.cells #[.int .i64 2, .int .i64 cl, .int .i64 se2, .int .i64 pu2] 40) := ⟨_, rfl⟩
      obtain ⟨b4, hb4⟩ : ∃ b4, b4 = we.heap.size := ⟨_, rfl⟩
      rw [← hw4] at HB4 HC4 ⊢
      rw [← hb4] at HC4 ⊢
      have up4 : ∀ (b o : Nat), b < we.heap.size → w4.cell? ⟨b, o, none⟩ = we.cell? ⟨b, o, none⟩ := fun b o hb => World.cell?_of_block ((HB4.out).block b hb)
      have xd4 : ∀ i, w4.cell? ⟨bx, i, none⟩ = (#[.int .i64 x0, .int .i64 (j : Int), .int .i64 x2, .int .i64 x3, .int .i64 x4, .int .i64 x5, .int .i64 x6, .slice xa xn xc] : Array Value)[i]? := fun i => (up4 bx i hbx4).trans (xe i)
      have sd4 : ∀ i, w4.cell? ⟨bs, i, none⟩ = (#[.int .i64 c.t, .int .i64 c.wd, .int .i64 c.s, .int .i64 c.g, .int .i64 c.r, .int .i64 c.cp, .int .i64 c.f, .slice ma mem.length mc, .slice (some ⟨jb, joff, none⟩) jobs.length jc] : Array Value)[i]? := fun i => (up4 bs i hbs4).trans (sd' i)
      have qd4 := (up4 pb _ hpb4).trans qe
      have cd4 := (HC4.out).cell
      have HSt : Hid (∀ wx, Calls Tryz.prog 49 #[.agg #[.int .i64 c.t, .int .i64 c.wd, .int .i64 c.s, .int .i64 c.g, .int .i64 c.r, .int .i64 c.cp, .int .i64 c.f, .slice ma mem.length mc, .slice (some ⟨jb, joff, none⟩) jobs.length jc], .int .i64 x0] wx fun e w' => e = .returned (.int .i64 cl) ∧ Below wx.heap.size wx w') := fun wx => by
        have h := kstatus_any c HC.out x0 ma (some ⟨jb, joff, none⟩) mem.length mc jobs.length jc wx (by have := HTh.out; omega) (by have := HTh.out; omega)
        rw [HCL.out] at h
        exact h
      have HBz : Hid (Below w.heap.size w w4) := (HB0.out).trans ((((HB3.out).trans ((HD2.out).mono (HB3.out).size)).trans ((HB4.out).mono (Nat.le_trans (HB3.out).size (HD2.out).size))).mono hszw)
      have h2b : ((2 : Int) == 2) = true := rfl
      have hx0 : (x0 == x0) = true := by simp
      have hclb : (cl == cl) = true := by simp
      have hbx5 : bx < w4.heap.size := Nat.lt_of_lt_of_le hbx4 (HB4.out).size
      have hpb5 : pb < w4.heap.size := Nat.lt_of_lt_of_le hpb4 (HB4.out).size
      have hb45 : b4 < w4.heap.size := (HC4.out).lt
      clear ae0 ae1 ae2 ae3 qe xe sd' hw4 hb4 up4
      go_region_with (go_at_call 49; refine (HSt.out _).mono ?_; rintro e w6 ⟨rfl, hb6⟩; have HB6 : Hid (Below w4.heap.size w4 w6) := (by first | exact hb6 | exact of_drew hb6); have xd6 : ∀ i, w6.cell? ⟨bx, i, none⟩ = (#[.int .i64 x0, .int .i64 (j : Int), .int .i64 x2, .int .i64 x3, .int .i64 x4, .int .i64 x5, .int .i64 x6, .slice xa xn xc] : Array Value)[i]? := (fun i => (World.cell?_of_block ((HB6.out).block bx hbx5)).trans (xd4 i)); have qd6 := (World.cell?_of_block (a := ⟨pb, poff + e0 * 2, none⟩) ((HB6.out).block pb hpb5)).trans qd4; have cd6 : ∀ i, w6.cell? ⟨b4, i, none⟩ = (#[.int .i64 2, .int .i64 cl, .int .i64 se2, .int .i64 pu2] : Array Value)[i]? := (fun i => (World.cell?_of_block ((HB6.out).block b4 hb45)).trans (cd4 i)); clear hb6)
      all_goals
        go_wp2
        go_ret
        exact ⟨by first | rfl | simp, (HBz.out).trans ((HB6.out).mono (HBz.out).size)⟩

end Go.Proofs.YtejadojilncbjaaGreat

namespace Go.Proofs.YtejadojilncbjaaGreat
open Go.RowKit
set_option linter.unusedVariables false
attribute [local go_sem ↓] Go.wp_at_zero Go.wp_at_succ

theorem made51 (n : Nat) : madeCells (Value.agg #[.int .i64 0, .int .i64 0, .int .i64 0, .int .i64 0]).cells (n * 4) = (List.replicate (n * 4) (Value.int .i64 0)).toArray := by
  have hz : (Value.agg #[.int .i64 0, .int .i64 0, .int .i64 0, .int .i64 0]).cells = #[.int .i64 0, .int .i64 0, .int .i64 0, .int .i64 0] := by rfl
  rw [hz]
  apply Array.ext
  · simp [size_madeCells]
  · intro i h1 h2
    simp [madeCells]
    have : i % 4 = 0 ∨ i % 4 = 1 ∨ i % 4 = 2 ∨ i % 4 = 3 := by omega
    rcases this with h | h | h | h <;> rw [h] <;> rfl

theorem run_make51 (n : Nat) (hn : n ≤ 2097152) (w : World) : (Instr.makeSlice 31 (Value.int .i64 (n : Int)) (Value.int .i64 (n : Int))).run Tryz.prog w =
    .ok (.slice (some ⟨w.heap.size, 0, none⟩) n n) (w.alloc (.cells (List.replicate (n * 4) (Value.int .i64 0)).toArray 40)) := by
  obtain ⟨i0, h1, h2, h3, h4⟩ := info_parts Tryz.info40
  have := run_make (P := Tryz.prog) w 31 40 i0 _ Tryz.underlying31 h1 h2 .i64 .i64 n n (by omega) (by omega) (by rw [h4]; omega) (by omega)
  rw [h3] at this
  simp only [Int.toNat_natCast, made51] at this
  exact this

theorem flat4 : ∀ l : List AccD, (l.flatMap accCells).length = l.length * 4
  | [] => rfl
  | a :: l => by
    rw [List.flatMap_cons, List.length_append, flat4 l]
    simp [accCells]
    omega

/-- The accesses so far, and room for the others. -/
def accPad (c : Cfg) (mem : List Int) (jobs : List (Int × List InsD)) (ps : List PickD) (k : Nat) : List Value := (gLog c mem jobs ps k).flatMap accCells ++ List.replicate ((ps.length - k) * 4) (.int .i64 0)

theorem pad_set {c : Cfg} {mem : List Int} {jobs : List (Int × List InsD)} {ps : List PickD} {k : Nat} (hk : k < ps.length) {a : AccD} (ha : a = (gStep c jobs (gAt c mem jobs ps k) ((k : Int) + 1) (pickAt ps k)).2) {w : World} {ab : Nat} (h : Blk w ab 40 (accPad c mem jobs ps k).toArray) :
    Blk ((((w.setCell ⟨ab, k * 4, none⟩ (.int .i64 a.kind)).setCell ⟨ab, k * 4 + 1, none⟩ (.int .i64 a.cell)).setCell ⟨ab, k * 4 + 2, none⟩ (.int .i64 a.seen)).setCell ⟨ab, k * 4 + 3, none⟩ (.int .i64 a.put)) ab 40 (accPad c mem jobs ps (k + 1)).toArray := by
  refine h.set.set.set.set.congr ?_
  have hl : ((gLog c mem jobs ps k).flatMap accCells).length = k * 4 := by rw [flat4, gLog_len]
  have e : (ps.length - k) * 4 = 4 + (ps.length - (k + 1)) * 4 := by omega
  unfold accPad
  rw [glog_next c mem jobs ps k a ha, e, ← List.replicate_append_replicate]
  generalize (gLog c mem jobs ps k).flatMap accCells = L at *
  generalize List.replicate ((ps.length - (k + 1)) * 4) (Value.int .i64 0) = R
  rw [← hl]
  simp [List.set_append_right, List.replicate_succ]

theorem pad_at {c : Cfg} {mem : List Int} {jobs : List (Int × List InsD)} {ps : List PickD} {k : Nat} (hk : k < ps.length) (j : Nat) (hj : j < 4) : (accPad c mem jobs ps k).toArray[k * 4 + j]? = some (.int .i64 0) := by
  have hl : ((gLog c mem jobs ps k).flatMap accCells).length = k * 4 := by rw [flat4, gLog_len]
  unfold accPad
  rw [List.getElem?_toArray, List.getElem?_append_right (by omega), hl, List.getElem?_replicate, if_pos (by omega)]

theorem pad_log {c : Cfg} {mem : List Int} {jobs : List (Int × List InsD)} {ps : List PickD} (hps : ps.length ≤ 2097152) {w : World} {ab : Nat} (h : Blk w ab 40 (accPad c mem jobs ps ps.length).toArray) : LogIn w w.heap.size (some ⟨ab, 0, none⟩) (accs c mem jobs ps) := by
  have hl := gLog_len c mem jobs ps ps.length
  have e : accPad c mem jobs ps ps.length = (accs c mem jobs ps).flatMap accCells := by
    unfold accPad accs
    simp
  rw [e] at h
  refine log_row (base := 0) (c := (accs c mem jobs ps).length) ⟨flat4 _, Or.inr ⟨ab, _, _, rfl, Nat.zero_le _, h, Nat.le_refl _, ?_, by rw [List.size_toArray, flat4], ?_⟩⟩
  · unfold accs maxLen
    omega
  · rw [List.take_of_length_le (by rw [flat4]; exact Nat.le_refl _)]

end Go.Proofs.YtejadojilncbjaaGreat

namespace Go.Proofs.YtejadojilncbjaaGreat
open Go.RowKit
set_option linter.unusedVariables false
attribute [local go_sem ↓] Go.wp_at_zero Go.wp_at_succ

theorem WS.apart {base p nb cb cap tcap : Nat} {X : List Value} {c : Cfg} {mem : List Int} {jobs : List (Int × List InsD)} {ps : List PickD} {k ab : Nat} {w w' : World} {cs : Array Value} (h : WS base p nb cb cap tcap X c mem jobs ps k w) (hb : Blk w ab 40 cs) (ho : Only ab w w') : WS base p nb cb cap tcap X c mem jobs ps k w' := by
  obtain ⟨q, Ds, R, M⟩ := h
  exact ⟨q, Ds, R.apart hb ho (by decide) (by decide) (by decide) (by decide) (by decide) (by decide) (by decide), M⟩

set_option maxRecDepth 100000 in
set_option maxHeartbeats 8000000 in
theorem playAccesses_any {c : Cfg} {mem : List Int} {jobs : List (Int × List InsD)} (S : SetupOk c mem jobs) (ps : List PickD) (hps : ps.length ≤ 2 ^ 21) (ma ja pa : Option Addr) (mc jc pc : Nat) (w : World)
    (hm : Ints w w.heap.size ma mem) (hj : JobsRep w w.heap.size ja jobs) (hp : PicksIn w w.heap.size pa ps) :
    Calls Tryz.prog 53 #[.agg #[.int .i64 c.t, .int .i64 c.wd, .int .i64 c.s, .int .i64 c.g, .int .i64 c.r, .int .i64 c.cp, .int .i64 c.f, .slice ma mem.length mc, .slice ja jobs.length jc], .slice pa ps.length pc] w (AccIs w (accs c mem jobs ps)) := by
  have HM : Hid (Ints w w.heap.size ma mem) := hm
  have HJ : Hid (JobsRep w w.heap.size ja jobs) := hj
  have HP : Hid (PicksIn w w.heap.size pa ps) := hp
  have HS : Hid (SetupOk c mem jobs) := S
  obtain ⟨A, HA⟩ : ∃ A, Hid (accs c mem jobs ps = A) := ⟨_, rfl⟩
  rw [show accs c mem jobs ps = A from HA.out]
  have hps' : ps.length ≤ 2097152 := hps
  clear hm hj hp S hps
  go_enter Tryz.func53, Tryz.ntmps53
  go_wp2_with fail
  obtain ⟨w1, hw1⟩ : ∃ w1, w1 = w.alloc (.cells #[.int .i64 c.t, .int .i64 c.wd, .int .i64 c.s, .int .i64 c.g, .int .i64 c.r, .int .i64 c.cp, .int .i64 c.f, .slice ma mem.length mc, .slice ja jobs.length jc] 27) := ⟨_, rfl⟩
  have HB1 : Hid (Below w.heap.size w w1) := by rw [hw1]; exact (Below.refl w.heap.size w).alloc (Nat.le_refl _) _
  have HSb : Hid (Blk w1 w.heap.size 27 #[.int .i64 c.t, .int .i64 c.wd, .int .i64 c.s, .int .i64 c.g, .int .i64 c.r, .int .i64 c.cp, .int .i64 c.f, .slice ma mem.length mc, .slice ja jobs.length jc]) := by rw [hw1]; exact Blk.new w 27 _
  have hs1 : w1.heap.size = w.heap.size + 1 := by rw [hw1]; simp
  rw [← hw1]
  clear hw1
  have HM1 : Hid (Ints w1 w1.heap.size ma mem) := (HM.out).up HB1.out
  have HJ1 : Hid (JobsRep w1 w1.heap.size ja jobs) := (HJ.out).up2 HB1.out
  have HP1 : Hid (PicksIn w1 w1.heap.size pa ps) := (HP.out).up2 HB1.out
  clear HM HJ HP
  refine (begin_any c (HS.out).cfg mem (HS.out).mw (HS.out).mb jobs (HS.out).j8 ma ja mc jc w1 HM1.out HJ1.out).mono ?_
  rintro e w2 ⟨nb, p, cap, tcap, q, Ds, X, rfl, hW, hM, hb2⟩
  obtain ⟨cb, hcb⟩ : ∃ cb, cb = w2.heap.size := ⟨_, rfl⟩
  have hB3 : Below w2.heap.size w2 (w2.alloc (.cells #[.slice (some ⟨nb, 0, none⟩) Ds.length cap, .slice (some ⟨p, 0, none⟩) q.length tcap, .int .i64 0] 106)) := (Below.refl _ _).alloc (Nat.le_refl _) _
  have HW3 : Hid (WS w1.heap.size p nb cb cap tcap X c mem jobs ps 0 (w2.alloc (.cells #[.slice (some ⟨nb, 0, none⟩) Ds.length cap, .slice (some ⟨p, 0, none⟩) q.length tcap, .int .i64 0] 106))) :=
    ⟨q, Ds, hW _ cb hB3 (by rw [hcb]; exact Blk.new w2 106 _) (by rw [hcb]; exact hb2.size), hM⟩
  have HB3 : Hid (Below w1.heap.size w1 (w2.alloc (.cells #[.slice (some ⟨nb, 0, none⟩) Ds.length cap, .slice (some ⟨p, 0, none⟩) q.length tcap, .int .i64 0] 106))) := hb2.trans (hB3.mono hb2.size)
  clear hW hM hB3 hb2
  go_upto_region 2 with fail
  rw [← hcb]
  clear hcb
  generalize w2.alloc (.cells #[.slice (some ⟨nb, 0, none⟩) Ds.length cap, .slice (some ⟨p, 0, none⟩) q.length tcap, .int .i64 0] 106) = w3 at *
  have hmk := run_make51 ps.length hps'
  obtain ⟨ab, hab⟩ : ∃ ab, ab = w3.heap.size := ⟨_, rfl⟩
  obtain ⟨Z, hZ⟩ : ∃ Z, Z = (List.replicate (ps.length * 4) (Value.int .i64 0)).toArray := ⟨_, rfl⟩
  rw [← hZ] at hmk
  have hB4 : Below w3.heap.size w3 (w3.alloc (.cells Z 40)) := (Below.refl _ _).alloc (Nat.le_refl _) _
  have HW4 : Hid (WS w1.heap.size p nb cb cap tcap X c mem jobs ps 0 (w3.alloc (.cells Z 40))) := (HW3.out).below hB4
  have HB4 : Hid (Below w1.heap.size w1 (w3.alloc (.cells Z 40))) := (HB3.out).trans (hB4.mono (HB3.out).size)
  have HA4 : Hid (Blk (w3.alloc (.cells Z 40)) ab 40 (accPad c mem jobs ps 0).toArray) := by
    rw [hab]
    refine (Blk.new w3 40 _).congr ?_
    rw [hZ]
    simp [accPad, gLog]
  have HAb : Hid (w1.heap.size ≤ ab) := by show _ ≤ _; rw [hab]; exact (HB3.out).size
  clear HW3 HB3 hB4 hZ
  go_upto_region 3 with fail
  rw [← hab]
  clear hab hmk
  generalize w3.alloc (.cells Z 40) = w4 at *
  go_wp2_with fail
  go_loopg [16] (ps.length + 1) (fun m t16 wr => ∃ (k : Nat), t16 = .int .i64 (k : Int) ∧ k ≤ ps.length ∧ m = ps.length + 1 - k ∧ Hid (WS w1.heap.size p nb cb cap tcap X c mem jobs ps k wr) ∧ Hid (Below w1.heap.size w1 wr) ∧ Hid (Blk wr ab 40 (accPad c mem jobs ps k).toArray))
  case atStart => exact ⟨0, rfl, by omega, by omega, HW4, HB4, HA4⟩
  case round =>
    obtain ⟨k, rfl, hk, hgk, HW, HB, HAk⟩ := hrel
    clear HW4 HB4 HA4
    by_cases hkl : k < ps.length
    · obtain ⟨pb, poff, hpa, hpb, hpc0, hpc1⟩ := HP1.out k hkl
      have hk0 : (0 : Int) ≤ (k : Int) := by omega
      have hk1 : (k : Int) < (ps.length : Int) := by omega
      have hwk : IntKind.i64.wrap ((k : Int) + 1) = (k : Int) + 1 := wrapP _ (by omega) (by omega)
      have hszk : w1.heap.size ≤ wr.heap.size := (HB.out).size
      have hq0 : wr.cell? ⟨pb, poff + k * 2, none⟩ = some (.int .i64 (pickAt ps k).thread) := (World.cell?_of_block ((HB.out).block pb hpb)).trans hpc0
      have hq1 : wr.cell? ⟨pb, poff + k * 2 + 1, none⟩ = some (.int .i64 (pickAt ps k).draw) := (World.cell?_of_block ((HB.out).block pb hpb)).trans hpc1
      have hpbl : pb < wr.heap.size := by omega
      have hsbl : w.heap.size < wr.heap.size := by omega
      have hsc : ∀ i, wr.cell? ⟨w.heap.size, i, none⟩ = (#[.int .i64 c.t, .int .i64 c.wd, .int .i64 c.s, .int .i64 c.g, .int .i64 c.r, .int .i64 c.cp, .int .i64 c.f, .slice ma mem.length mc, .slice ja jobs.length jc] : Array Value)[i]? := ((HSb.out).below HB.out (by omega)).cell
      subst hpa
      clear hpc0 hpc1
      obtain ⟨th, hth⟩ : ∃ th, th = (pickAt ps k).thread := ⟨_, rfl⟩
      obtain ⟨dr, hdr⟩ : ∃ dr, dr = (pickAt ps k).draw := ⟨_, rfl⟩
      rw [← hth] at hq0
      rw [← hdr] at hq1
      have hBa : Below wr.heap.size wr (wr.alloc (.cells #[.int .i64 th, .int .i64 dr] 42)) := (Below.refl wr.heap.size wr).alloc (Nat.le_refl _) _
      have HBa : Hid (Below w1.heap.size w1 (wr.alloc (.cells #[.int .i64 th, .int .i64 dr] 42))) := (HB.out).trans (hBa.mono hszk)
      have HC : Hid (Calls Tryz.prog 67 #[.pointer (some ⟨cb, 0, none⟩), .slice ja jobs.length jc, .agg #[.int .i64 th, .int .i64 dr]] (wr.alloc (.cells #[.int .i64 th, .int .i64 dr] 42)) (PickIs w1.heap.size p nb cb cap tcap X c mem jobs ps k (wr.alloc (.cells #[.int .i64 th, .int .i64 dr] 42)))) := by
        rw [hth, hdr] at HBa hBa ⊢
        exact ws_pick HS.out (by omega) ((HW.out).below hBa) ja jc ((HJ1.out).up HBa.out)
      have HAa : Hid (Blk (wr.alloc (.cells #[.int .i64 th, .int .i64 dr] 42)) ab 40 (accPad c mem jobs ps k).toArray) := (HAk.out).alloc _
      clear hth hdr hBa HW HB HAk
      go_wp2_with fail
      clear hq0 hq1 hsc
      refine (HC.out).mono ?_
      rintro e w5 ⟨⟨a, ha, rfl⟩, hW5, hb5, hbk⟩
      have HW5 : Hid (WS w1.heap.size p nb cb cap tcap X c mem jobs ps (k + 1) w5) := hW5
      have HB5 : Hid (Below w1.heap.size w1 w5) := (HBa.out).trans hb5
      have HA5 : Hid (Blk w5 ab 40 (accPad c mem jobs ps k).toArray) := hbk ab 40 _ HAa.out (by decide) (by decide) (by decide) (by decide) (by decide) (by decide) (by decide)
      have Ha : Hid (a = (gStep c jobs (gAt c mem jobs ps k) ((k : Int) + 1) (pickAt ps k)).2) := ha
      have hf := (HA5.out).frozen
      have hc0 : w5.cell? ⟨ab, k * 4, none⟩ = some (.int .i64 0) := by rw [(HA5.out).cell]; exact pad_at hkl 0 (by omega)
      have hc1 : w5.cell? ⟨ab, k * 4 + 1, none⟩ = some (.int .i64 0) := by rw [(HA5.out).cell]; exact pad_at hkl 1 (by omega)
      have hc2 : w5.cell? ⟨ab, k * 4 + 2, none⟩ = some (.int .i64 0) := by rw [(HA5.out).cell]; exact pad_at hkl 2 (by omega)
      have hc3 : w5.cell? ⟨ab, k * 4 + 3, none⟩ = some (.int .i64 0) := by rw [(HA5.out).cell]; exact pad_at hkl 3 (by omega)
      have habl : ab < w5.heap.size := (HA5.out).lt
      clear hW5 hb5 hbk HC HBa HAa ha
      obtain ⟨ak, ac, az, ap⟩ := a
      go_wp2_with fail
      have hA6 := pad_set hkl Ha.out HA5.out
      have ho6 : Only ab w5 ((((w5.setCell ⟨ab, k * 4, none⟩ (.int .i64 ak)).setCell ⟨ab, k * 4 + 1, none⟩ (.int .i64 ac)).setCell ⟨ab, k * 4 + 2, none⟩ (.int .i64 az)).setCell ⟨ab, k * 4 + 3, none⟩ (.int .i64 ap)) := (((Only.refl _ _).set).set).set.set
      go_roundg (gk - 1)
      case rel => exact ⟨k + 1, by simp, by omega, by omega, (HW5.out).apart HA5.out ho6, below_onto HB5.out ho6 HAb.out (HB5.out).size, hA6⟩
      case measure => omega
    · have hkj : k = ps.length := by omega
      subst hkj
      have hk2 : ¬ ((ps.length : Int) < (ps.length : Int)) := by omega
      have HL : Hid (LogIn wr wr.heap.size (some ⟨ab, 0, none⟩) A ∧ A.length = ps.length) := by
        show _ ∧ _
        rw [← HA.out]
        exact ⟨pad_log hps' HAk.out, gLog_len _ _ _ _ _⟩
      have HB5 : Hid (Below w.heap.size w wr) := (HB1.out).trans ((HB.out).mono (HB1.out).size)
      clear HW HB HAk
      go_wp2_with fail
      go_ret
      exact ⟨some ⟨ab, 0, none⟩, ps.length, by rw [(HL.out).2]; rfl, (HL.out).1, HB5.out⟩

end Go.Proofs.YtejadojilncbjaaGreat

namespace Go.Proofs.YtejadojilncbjaaGreat

theorem playGood : PlayGood := playGood_of (fun S ps hps ma ja pa mc jc pc w hm hj hp => playAccesses_any S ps hps ma ja pa mc jc pc w hm hj hp)
end Go.Proofs.YtejadojilncbjaaGreat
