import Derived.Test.YtejadojilncbjaaGreatE36
namespace Go.Proofs.YtejadojilncbjaaGreat
open Go.RowKit
set_option linter.unusedVariables false
attribute [local go_sem ↓] Go.wp_at_zero Go.wp_at_succ

theorem LI.congr {c : Cfg} (hc : cfgB c = true) {jobs : List (Int × List InsD)} {m m' : Int → Int} {th : Int → Th} (I : LI c jobs m th) (e : ∀ x, 0 ≤ x → x < total c → m' x = m x) : LI c jobs m' th := by
  obtain ⟨⟨c1, c2⟩, ⟨w1, w2⟩, ⟨z1, z2⟩, _⟩ := cfgB_true hc
  rw [total_eq] at e
  refine ⟨fun s a b t d f => ?_, fun t d f => ?_, fun s a b => ?_, fun t d f v x => ?_, I.loc⟩
  · rw [e _ (by omega) (by omega)]; exact I.own s a b t d f
  · rw [e _ (by omega) (by omega)]; exact I.gate t d f
  · rw [e _ (by omega) (by omega)]; exact I.shut s a b
  · rw [e _ (by omega) (by omega)]; exact I.clk t d f v x

theorem mOf_cells (c : Cfg) (mem : List Int) (jobs : List (Int × List InsD)) (ps : List PickD) (k : Nat) (x : Int) (h0 : 0 ≤ x) (h1 : x < total c) : mOf (cellsL c mem jobs ps k) x = (gAt c mem jobs ps k).m x := by
  unfold mOf
  rw [cellsL_get _ _ _ _ _ _ (by omega), show ((x.toNat : Nat) : Int) = x from by omega]

def StampOk (c : Cfg) (mem : List Int) (jobs : List (Int × List InsD)) (ps : List PickD) (k : Nat) (s0 s1 s2 s3 : Int) : Prop := ∀ i : Nat, i < 4 → four s0 s1 s2 s3 (i : Int) = stampAt c mem jobs ps k (i : Int)

theorem four_set (s0 s1 s2 s3 v : Int) (t : Nat) (i : Nat) (hi : i < 4) (ht : t < 4) : four (if t = 0 then v else s0) (if t = 1 then v else s1) (if t = 2 then v else s2) (if t = 3 then v else s3) (i : Int) = if t = i then v else four s0 s1 s2 s3 (i : Int) := by
  have h1 : i = 0 ∨ i = 1 ∨ i = 2 ∨ i = 3 := by omega
  have h2 : t = 0 ∨ t = 1 ∨ t = 2 ∨ t = 3 := by omega
  rcases h1 with rfl | rfl | rfl | rfl <;> rcases h2 with rfl | rfl | rfl | rfl <;> rfl

theorem wArr_set (c : Cfg) (ma : Option Addr) (ml mc : Nat) (ja : Option Addr) (jl jc g zl cap : Nat) (s0 s1 s2 s3 k0 k1 k2 k3 v : Int) (t : Nat) (ht : t < 4) :
    (wArr c ma ml mc ja jl jc g zl cap s0 s1 s2 s3 k0 k1 k2 k3).setIfInBounds (10 + t) (.int .i64 v) = wArr c ma ml mc ja jl jc g zl cap (if t = 0 then v else s0) (if t = 1 then v else s1) (if t = 2 then v else s2) (if t = 3 then v else s3) k0 k1 k2 k3 := by
  have h2 : t = 0 ∨ t = 1 ∨ t = 2 ∨ t = 3 := by omega
  rcases h2 with rfl | rfl | rfl | rfl <;> rfl

theorem stamp_same {c : Cfg} {mem : List Int} {jobs : List (Int × List InsD)} {ps : List PickD} {k : Nat} {s0 s1 s2 s3 : Int} (h : StampOk c mem jobs ps k s0 s1 s2 s3) (hn : ¬ ((accAt (accs c mem jobs ps) k).kind = 2 ∧ (accAt (accs c mem jobs ps) k).cell = 0)) : StampOk c mem jobs ps (k + 1) s0 s1 s2 s3 := fun i hi => by
  rw [h i hi]
  show _ = if _ then _ else _
  rw [if_neg (fun x => hn x.2)]
theorem stamp_new {c : Cfg} {mem : List Int} {jobs : List (Int × List InsD)} {ps : List PickD} {k t : Nat} {s0 s1 s2 s3 : Int} (h : StampOk c mem jobs ps k s0 s1 s2 s3) (ht : t < 4) (hp : (pickAt ps k).thread = (t : Int)) (h1 : (accAt (accs c mem jobs ps) k).kind = 2) (h2 : (accAt (accs c mem jobs ps) k).cell = 0) :
    StampOk c mem jobs ps (k + 1) (if t = 0 then (accAt (accs c mem jobs ps) k).put else s0) (if t = 1 then (accAt (accs c mem jobs ps) k).put else s1) (if t = 2 then (accAt (accs c mem jobs ps) k).put else s2) (if t = 3 then (accAt (accs c mem jobs ps) k).put else s3) := fun i hi => by
  rw [four_set _ _ _ _ _ _ _ hi ht, h i hi]
  show _ = if _ then _ else _
  by_cases e : t = i
  · rw [if_pos e, if_pos ⟨by rw [hp, e], h1, h2⟩]
  · rw [if_neg e, if_neg (fun x => e (by have := x.1; rw [hp] at this; omega))]

theorem guard_fits {c : Cfg} {mem : List Int} {jobs : List (Int × List InsD)} (S : SetupOk c mem jobs) (ps : List PickD) (k : Nat) (hk : k < ps.length) {s0 s1 s2 s3 : Int} (h : StampOk c mem jobs ps k s0 s1 s2 s3) (h0 : (accAt (accs c mem jobs ps) k).kind ≠ 0) :
    ∃ t : Nat, (pickAt ps k).thread = (t : Int) ∧ t < 4 ∧ fitsB c (mOf (cellsL c mem jobs ps k)) (four s0 s1 s2 s3) (t : Int) (accAt (accs c mem jobs ps) k) = true ∧ 0 ≤ (accAt (accs c mem jobs ps) k).cell ∧ (accAt (accs c mem jobs ps) k).cell < total c := by
  obtain ⟨⟨c1, c2⟩, _⟩ := cfgB_true S.cfg
  have G := gat_ok S.cfg S.mw S.mb jobs ps k
  have I := li_at S.cfg S.mw S.mb jobs ps k
  have St := stmp_at S.cfg S.mw S.mb jobs ps k (by omega)
  rw [accs_get c mem jobs ps k hk] at h0 ⊢
  by_cases ht : 0 ≤ (pickAt ps k).thread ∧ (pickAt ps k).thread < c.t
  · rw [gstep_in ht] at h0 ⊢
    obtain ⟨t, hte⟩ : ∃ t : Nat, (pickAt ps k).thread = (t : Int) := ⟨(pickAt ps k).thread.toNat, by omega⟩
    rw [hte] at ht h0 ⊢
    have hq : (hOut (cxOf c jobs (t : Int)) ((gAt c mem jobs ps k).th (t : Int))).kind ≠ 0 := fun e => h0 (by rw [acc_none e]; rfl)
    have hcK : cfgB (cxOf c jobs (t : Int)).c = true := S.cfg
    obtain ⟨hcell, _⟩ := ask_ok hcK ht (by omega) (G.th _ ht.1 ht.2) hq
    have hm : ∀ x, 0 ≤ x → x < total c → mOf (cellsL c mem jobs ps k) x = (gAt c mem jobs ps k).m x := fun x a b => mOf_cells c mem jobs ps k x a b
    have hfit := fits_ok (stp := four s0 s1 s2 s3) S.cfg ht.1 ht.2 (I.congr S.cfg hm) (G.th _ ht.1 ht.2) (fun w e => by rw [h t (by omega)]; exact St (t : Int) ht.1 ht.2 w e) hq
    have ea : accBy (mOf (cellsL c mem jobs ps k)) (hOut (cxOf c jobs (t : Int)) ((gAt c mem jobs ps k).th (t : Int))) = accBy (gAt c mem jobs ps k).m (hOut (cxOf c jobs (t : Int)) ((gAt c mem jobs ps k).th (t : Int))) := by
      rw [acc_some hq, acc_some hq, hm _ hcell.1 hcell.2]
    rw [ea] at hfit
    refine ⟨t, rfl, by omega, hfit, ?_⟩
    rw [acc_some hq]
    exact hcell
  · exfalso
    apply h0
    unfold gStep
    rw [if_neg ht]
    rfl

set_option maxRecDepth 100000 in
set_option maxHeartbeats 16000000 in
theorem guarded_walk (G : PlayGood) (c : Cfg) (mem : List Int) (jobs : List (Int × List InsD)) (ps : List PickD) (ma ja pa : Option Addr) (mc jc pc : Nat) (w : World) (hps : ps.length ≤ 2 ^ 21) (hml : mem.length ≤ maxLen) (hjl : jobs.length ≤ maxLen)
    (hm : Ints w w.heap.size ma mem) (hj : JobsRep w w.heap.size ja jobs) (hp : PicksIn w w.heap.size pa ps) :
    Calls Tryz.prog 6 #[.agg #[.int .i64 c.t, .int .i64 c.wd, .int .i64 c.s, .int .i64 c.g, .int .i64 c.r, .int .i64 c.cp, .int .i64 c.f, .slice ma mem.length mc, .slice ja jobs.length jc], .slice pa ps.length pc] w fun e w' => e = .returned (.bool true) ∧ Below w.heap.size w w' := by
  have HM : Hid (Ints w w.heap.size ma mem) := hm
  have HJ : Hid (JobsRep w w.heap.size ja jobs) := hj
  have HP : Hid (PicksIn w w.heap.size pa ps) := hp
  have HG : Hid PlayGood := G
  have HN : Hid (ps.length ≤ 2 ^ 21) := hps
  have hps' : ps.length ≤ 2097152 := hps
  obtain ⟨L, HL⟩ : ∃ L, Hid (playA c mem jobs ps = L) := ⟨_, rfl⟩
  obtain ⟨HW, HHW⟩ : ∃ HW, Hid (howN c mem jobs = HW) := ⟨_, rfl⟩
  clear hm hj hp G hps
  go_enter Tryz.func6, Tryz.ntmps6
  go_wp2_with fail
  obtain ⟨w0, hw0⟩ : ∃ w0, w0 = w.alloc (.cells #[.int .i64 c.t, .int .i64 c.wd, .int .i64 c.s, .int .i64 c.g, .int .i64 c.r, .int .i64 c.cp, .int .i64 c.f, .slice ma mem.length mc, .slice ja jobs.length jc] 27) := ⟨_, rfl⟩
  have hB0 : Below w.heap.size w w0 := by rw [hw0]; exact (Below.refl w.heap.size w).alloc (Nat.le_refl _) _
  have hSb : Blk w0 w.heap.size 27 #[.int .i64 c.t, .int .i64 c.wd, .int .i64 c.s, .int .i64 c.g, .int .i64 c.r, .int .i64 c.cp, .int .i64 c.f, .slice ma mem.length mc, .slice ja jobs.length jc] := by rw [hw0]; exact Blk.new w 27 _
  rw [← hw0]
  clear hw0
  refine (asked_any HG.out c mem jobs ps ma ja pa mc jc pc w0 HN.out hml hjl ((HM.out).up hB0) ((HJ.out).up2 hB0) ((HP.out).up2 hB0)).mono ?_
  rintro e w1 ⟨la, lc, rfl, hl1, hb1⟩
  rw [show playA c mem jobs ps = L from HL.out] at hl1
  rw [show playA c mem jobs ps = L from HL.out, show howN c mem jobs = HW from HHW.out]
  have hB1 : Below w.heap.size w w1 := hB0.trans (hb1.mono hB0.size)
  have HSb1 : Hid (Blk w1 w.heap.size 27 #[.int .i64 c.t, .int .i64 c.wd, .int .i64 c.s, .int .i64 c.g, .int .i64 c.r, .int .i64 c.cp, .int .i64 c.f, .slice ma mem.length mc, .slice ja jobs.length jc]) := hSb.below hb1 hSb.lt
  have HB1 : Hid (Below w.heap.size w w1) := hB1
  have HL1 : Hid (LogIn w1 w1.heap.size la L) := hl1
  have HM1 : Hid (Ints w1 w1.heap.size ma mem) := (HM.out).up hB1
  have HP1 : Hid (PicksIn w1 w1.heap.size pa ps) := (HP.out).up2 hB1
  clear hB0 hSb hl1 hb1 hB1 HM HJ HP HG
  by_cases he : errS c mem jobs = 0
  · have hLa : L = accs c mem jobs ps := (HL.out).symm.trans (if_pos he)
    have HSo : Hid (SetupOk c mem jobs) := (errS_ok he).1
    have hLl : L.length = ps.length := by rw [hLa]; exact gLog_len c mem jobs ps ps.length
    have hWe : HW = 2 := (HHW.out).symm.trans (if_pos he)
    subst hWe
    have HLa : Hid (L = accs c mem jobs ps) := hLa
    have HLl : Hid (L.length = ps.length) := hLl
    obtain ⟨LN, hLN⟩ : ∃ LN, LN = L.length := ⟨_, rfl⟩
    have hLNp : LN = ps.length := hLN.trans hLl
    rw [← hLN]
    subst hLNp
    have hsc := (HSb1.out).cell
    clear hLa hLl he hLN
    have hsl := (HSb1.out).lt
    go_upto_region 5 with fail
    obtain ⟨w2, hw2⟩ : ∃ w2, w2 = w1.alloc (.cells #[.int .i64 c.t, .int .i64 c.wd, .int .i64 c.s, .int .i64 c.g, .int .i64 c.r, .int .i64 c.cp, .int .i64 c.f, .slice ma mem.length mc, .slice ja jobs.length jc, .slice none 0 0, .int .i64 0, .int .i64 0, .int .i64 0, .int .i64 0, .int .i64 0, .int .i64 0, .int .i64 0, .int .i64 0] 37) := ⟨_, rfl⟩
    obtain ⟨wb, hwbe⟩ : ∃ wb, wb = w1.heap.size := ⟨_, rfl⟩
    have hB12 : Below w1.heap.size w1 w2 := by rw [hw2]; exact (Below.refl _ _).alloc (Nat.le_refl _) _
    have hWb2 : Blk w2 wb 37 #[.int .i64 c.t, .int .i64 c.wd, .int .i64 c.s, .int .i64 c.g, .int .i64 c.r, .int .i64 c.cp, .int .i64 c.f, .slice ma mem.length mc, .slice ja jobs.length jc, .slice none 0 0, .int .i64 0, .int .i64 0, .int .i64 0, .int .i64 0, .int .i64 0, .int .i64 0, .int .i64 0, .int .i64 0] := by rw [hw2, hwbe]; exact Blk.new w1 37 _
    have hs2 : w2.heap.size = w1.heap.size + 1 := by rw [hw2]; simp
    rw [← hw2, ← hwbe]
    have HWb2 : Hid (Blk w2 wb 37 #[.int .i64 c.t, .int .i64 c.wd, .int .i64 c.s, .int .i64 c.g, .int .i64 c.r, .int .i64 c.cp, .int .i64 c.f, .slice ma mem.length mc, .slice ja jobs.length jc, .slice none 0 0, .int .i64 0, .int .i64 0, .int .i64 0, .int .i64 0, .int .i64 0, .int .i64 0, .int .i64 0, .int .i64 0]) := hWb2
    have HSb2 : Hid (Blk w2 w.heap.size 27 #[.int .i64 c.t, .int .i64 c.wd, .int .i64 c.s, .int .i64 c.g, .int .i64 c.r, .int .i64 c.cp, .int .i64 c.f, .slice ma mem.length mc, .slice ja jobs.length jc]) := (HSb1.out).below hB12 hsl
    have HB2 : Hid (Below w.heap.size w w2) := (HB1.out).trans (hB12.mono (by omega))
    have HL2 : Hid (LogIn w2 w2.heap.size la L) := (HL1.out).up hB12
    have HLw : Hid (LogIn w1 wb la L) := by rw [hwbe]; exact HL1
    have HM2 : Hid (Ints w2 w2.heap.size ma mem) := (HM1.out).up hB12
    have HP2 : Hid (PicksIn w2 w2.heap.size pa ps) := (HP1.out).up2 hB12
    have HPw : Hid (PicksIn w1 wb pa ps) := by rw [hwbe]; exact HP1
    have hwb2 : wb < w2.heap.size := by omega
    have hwbs : w.heap.size < wb := by omega
    have HB12 : Hid (Below wb w1 w2) := by rw [hwbe]; exact hB12
    have HBw1 : Hid (Below w.heap.size w w1) := HB1
    clear hw2 hB12 hWb2 hs2 hsc hsl HSb1 HB1 HL1 HM1 HP1 hwbe
    have hsc2 := (HSb2.out).cell
    go_wp2_with fail
    refine (begun_any c mem jobs HSo.out ma ja mc jc w2 HM2.out).mono ?_
    rintro e w4 ⟨⟨g, cap, rfl, hcr⟩, hb4⟩
    have HC0 : Hid (cells0 c mem = cellsL c mem jobs ps 0) := cellsL_start HSo.out ps
    rw [show cells0 c mem = _ from HC0.out] at hcr
    obtain ⟨ZL, hZL⟩ : ∃ ZL, ZL = (cells0 c mem).length := ⟨_, rfl⟩
    have hZ : ZL = (total c).toNat := by rw [hZL, HC0.out, cellsL_len]
    have hZt : (ZL : Int) = total c := by
      obtain ⟨⟨t1, t2⟩, ⟨x1, x2⟩, ⟨s1, s2⟩, _⟩ := cfgB_true (HSo.out).cfg
      rw [hZ, total_eq]; omega
    have hZ31 : ZL ≤ 1000 := by
      obtain ⟨⟨t1, t2⟩, ⟨x1, x2⟩, ⟨s1, s2⟩, _⟩ := cfgB_true (HSo.out).cfg
      rw [hZ, total_eq]; omega
    rw [← hZL]
    have HZ : Hid (∀ k, (cellsL c mem jobs ps k).length = ZL) := fun k => by rw [cellsL_len, hZ]
    have HZt : Hid ((ZL : Int) = total c) := hZt
    have hgw := hcr.lt
    have hwg : wb ≠ g := by omega
    have HCR4 : Hid (CRow w4 w2.heap.size g cap (cellsL c mem jobs ps 0)) := hcr
    have hWb4 := (HWb2.out).below hb4 hwb2
    have HWb4 : Hid (Blk w4 wb 37 #[.int .i64 c.t, .int .i64 c.wd, .int .i64 c.s, .int .i64 c.g, .int .i64 c.r, .int .i64 c.cp, .int .i64 c.f, .slice ma mem.length mc, .slice ja jobs.length jc, .slice none 0 0, .int .i64 0, .int .i64 0, .int .i64 0, .int .i64 0, .int .i64 0, .int .i64 0, .int .i64 0, .int .i64 0]) := hWb4
    have hc4 : w4.cell? ⟨wb, 9, none⟩ = some (.slice none 0 0) := hWb4.cell 9
    have hf4 : w4.frozen? ⟨wb, 9, none⟩ = false := hWb4.frozen 9
    have HB4 : Hid (Below w2.heap.size w2 w4) := hb4
    have hg2 : w2.heap.size ≤ g := hgw.1
    clear hcr hb4 hZL hZ hZt hsc2 HC0 hWb4 hgw HM2 HP2 HL2
    go_wp2_with fail
    obtain ⟨w6, hw6⟩ : ∃ w6, w6 = w4.setCell ⟨wb, 9, none⟩ (.slice (some ⟨g, 0, none⟩) ZL cap) := ⟨_, rfl⟩
    have ho6 : Only wb w4 w6 := by rw [hw6]; exact (Only.refl _ _).set
    have HWb6 : Hid (Blk w6 wb 37 (wArr c ma mem.length mc ja jobs.length jc g ZL cap 0 0 0 0 0 0 0 0)) := by rw [hw6]; exact ((HWb4.out).set).congr rfl
    have HCR6 : Hid (CRow w6 w2.heap.size g cap (cellsL c mem jobs ps 0)) := ownsRow_keep HCR4.out (Kp.only (chg := [37]) (p := wb) (eb := wb) ho6 (HB4.out).size HWb4.out (by simp) (Or.inl rfl)) (by simp)
    have HB6 : Hid (Below wb w1 w6) := (HB12.out).trans (((HB4.out).mono (by omega)).trans ⟨ho6.os, ho6.tape, ho6.output, ho6.size, fun b hb => ho6.block b (Nat.lt_of_lt_of_le (by omega) (HB4.out).size) (by omega)⟩)
    rw [← hw6]
    clear hw6 ho6 hc4 hf4 HWb4 HCR4 HB4 HWb2
    go_loopg [8] (ps.length + 1) (fun m t8 wr => ∃ (k : Nat) (s0 s1 s2 s3 : Int), t8 = .int .i64 (k : Int) ∧ k ≤ ps.length ∧ m = ps.length + 1 - k ∧ Hid (StampOk c mem jobs ps k s0 s1 s2 s3) ∧ Hid (Blk wr wb 37 (wArr c ma mem.length mc ja jobs.length jc g ZL cap s0 s1 s2 s3 0 0 0 0)) ∧ Hid (CRow wr w2.heap.size g cap (cellsL c mem jobs ps k)) ∧ Hid (Below wb w1 wr))
    case atStart => exact ⟨0, 0, 0, 0, 0, rfl, by omega, by omega, (fun i hi => by unfold four stampAt; split <;> first | rfl | (split <;> first | rfl | (split <;> rfl))), HWb6, HCR6, HB6⟩
    case round =>
      obtain ⟨k, s0, s1, s2, s3, rfl, hk, hgk, HSt, HWr, HCr, HBr⟩ := hrel
      clear HWb6 HCR6 HB6
      by_cases hkl : k < ps.length
      · obtain ⟨pb, poff, hpa, hpb, hpc0, _⟩ := HPw.out k hkl
        obtain ⟨lb, loff, hla, hlb, hlc0, hlc1, hlc2, hlc3⟩ := HLw.out k (by rw [show L.length = ps.length from HLl.out]; exact hkl)
        have hk0 : (0 : Int) ≤ (k : Int) := by omega
        have hk1 : (k : Int) < (ps.length : Int) := by omega
        have hwk : IntKind.i64.wrap ((k : Int) + 1) = (k : Int) + 1 := wrapF _ (by omega) (by omega)
        have hacc : accAt L k = accAt (accs c mem jobs ps) k := by rw [HLa.out]
        obtain ⟨hT1, hT2, hT3, hT4⟩ := touch_step HSo.out ps k hkl
        rw [hacc] at hlc0 hlc1 hlc2 hlc3
        obtain ⟨a, ha⟩ : ∃ a, a = accAt (accs c mem jobs ps) k := ⟨_, rfl⟩
        rw [← ha] at hlc0 hlc1 hlc2 hlc3 hT1 hT2 hT3 hT4
        have HA : Hid (a = accAt (accs c mem jobs ps) k) := ha
        have HTK : Hid (∀ wx, CRow wx w2.heap.size g cap (cellsL c mem jobs ps k) → Calls Tryz.prog 16 #[.slice (some ⟨g, 0, none⟩) ZL cap, .agg #[.int .i64 a.kind, .int .i64 a.cell, .int .i64 a.seen, .int .i64 a.put]] wx fun e w' => e = .returned (.bool true) ∧ CRow w' w2.heap.size g cap (cellsL c mem jobs ps (k + 1)) ∧ Only g wx w') := fun wx hx => by
          have hcall := touched_any (cellsL c mem jobs ps k) a hT1 hT3 (by omega) w2.heap.size g cap wx hx (by rw [HZ.out]; exact hZ31)
          rw [HZ.out, hT2] at hcall
          exact hcall
        have HHS : Hid (∀ wx : World, Below wb w1 wx → ∀ s0 s1 s2 s3, Blk wx wb 37 (wArr c ma mem.length mc ja jobs.length jc g ZL cap s0 s1 s2 s3 0 0 0 0) → wx.cell? ⟨wb, 9, none⟩ = some (.slice (some ⟨g, 0, none⟩) ZL cap) ∧ wx.cell? ⟨lb, loff + k * 4, none⟩ = some (.int .i64 a.kind) ∧ wx.cell? ⟨lb, loff + k * 4 + 1, none⟩ = some (.int .i64 a.cell) ∧ wx.cell? ⟨lb, loff + k * 4 + 2, none⟩ = some (.int .i64 a.seen) ∧ wx.cell? ⟨lb, loff + k * 4 + 3, none⟩ = some (.int .i64 a.put)) := fun wx hb s0 s1 s2 s3 hW => by
          have up : ∀ o : Nat, wx.cell? ⟨lb, o, none⟩ = w1.cell? ⟨lb, o, none⟩ := fun o => World.cell?_of_block (hb.block lb hlb)
          exact ⟨hW.cell 9, (up _).trans hlc0, (up _).trans hlc1, (up _).trans hlc2, (up _).trans hlc3⟩
        have HHP : Hid (∀ wx : World, Below wb w1 wx → wx.cell? ⟨pb, poff + k * 2, none⟩ = some (.int .i64 (pickAt ps k).thread)) := fun wx hb => (World.cell?_of_block (hb.block pb hpb)).trans hpc0
        have hsn4 : -1 ≤ a.seen ∧ a.seen ≤ 1125899906842624 := ⟨hT3, by omega⟩
        subst hpa hla
        clear hacc ha hT1 hT2 hT3 hT4 hlc0 hlc1 hlc2 hlc3 hpc0
        by_cases h0 : a.kind = 0
        · obtain ⟨r9, r0, r1, r2, r3⟩ := HHS.out wr HBr.out _ _ _ _ HWr.out
          have HSS : Hid (StampOk c mem jobs ps (k + 1) s0 s1 s2 s3) := stamp_same HSt.out (fun x => by rw [← show a = _ from HA.out, h0] at x; exact absurd x.1 (by decide))
          have b0 : (a.kind == 0) = true := by simp [h0]
          have b0' : (a.kind != 0) = false := by simp [h0]
          have HWv : Hid (Blk wr wb 37 (wArr c ma mem.length mc ja jobs.length jc g ZL cap s0 s1 s2 s3 0 0 0 0)) := HWr
          have HCv : Hid (CRow wr w2.heap.size g cap (cellsL c mem jobs ps k)) := HCr
          have HBv : Hid (Below wb w1 wr) := HBr
          clear h0 HHP HWr HCr HBr HSt HA hsn4
          go_upto_region 18 with fail
          clear r9 r0 r1 r2 r3
          go_cut [11] (fun t wx => t = .bool true ∧ Hid (CRow wx w2.heap.size g cap (cellsL c mem jobs ps (k + 1))) ∧ Hid (Blk wx wb 37 (wArr c ma mem.length mc ja jobs.length jc g ZL cap s0 s1 s2 s3 0 0 0 0)) ∧ Hid (Below wb w1 wx))
          case first =>
            have HS0 : Hid (wr.drew.cell? ⟨wb, 9, none⟩ = some (.slice (some ⟨g, 0, none⟩) ZL cap) ∧ wr.drew.cell? ⟨lb, loff + k * 4, none⟩ = some (.int .i64 a.kind) ∧ wr.drew.cell? ⟨lb, loff + k * 4 + 1, none⟩ = some (.int .i64 a.cell) ∧ wr.drew.cell? ⟨lb, loff + k * 4 + 2, none⟩ = some (.int .i64 a.seen) ∧ wr.drew.cell? ⟨lb, loff + k * 4 + 3, none⟩ = some (.int .i64 a.put)) := HHS.out wr.drew (HBv.out).drew _ _ _ _ (HWv.out)
            have HTc : Hid (CRow wr.drew w2.heap.size g cap (cellsL c mem jobs ps k)) := World.ownsRow.drew HCv.out
            go_region_held3 (fun w' => w'.cell? ⟨wb, 9, none⟩ = some (.slice (some ⟨g, 0, none⟩) ZL cap) ∧ w'.cell? ⟨lb, loff + k * 4, none⟩ = some (.int .i64 a.kind) ∧ w'.cell? ⟨lb, loff + k * 4 + 1, none⟩ = some (.int .i64 a.cell) ∧ w'.cell? ⟨lb, loff + k * 4 + 2, none⟩ = some (.int .i64 a.seen) ∧ w'.cell? ⟨lb, loff + k * 4 + 3, none⟩ = some (.int .i64 a.put))
              (first | exact HS1.out | exact HS0.out)
              (first | (go_at_call 16; refine Calls.mono (HTK.out _ HTc.out) ?_; rintro e w7 ⟨rfl, hcr7, ho7⟩; have HO7 : Hid (Only g wr w7) := ⟨ho7.os, ho7.tape, ho7.output, ho7.size, ho7.block⟩; have HC7 : Hid (CRow w7 w2.heap.size g cap (cellsL c mem jobs ps (k + 1))) := hcr7; have HW7 : Hid (Blk w7 wb 37 (wArr c ma mem.length mc ja jobs.length jc g ZL cap s0 s1 s2 s3 0 0 0 0)) := (HWv.out).only HO7.out hwg; have HB7 : Hid (Below wb w1 w7) := (HBv.out).trans ⟨(HO7.out).os, (HO7.out).tape, (HO7.out).output, (HO7.out).size, fun b hb => (HO7.out).block b (Nat.lt_trans hb (HWv.out).lt) (by omega)⟩; have HS1 : Hid (w7.cell? ⟨wb, 9, none⟩ = some (.slice (some ⟨g, 0, none⟩) ZL cap) ∧ w7.cell? ⟨lb, loff + k * 4, none⟩ = some (.int .i64 a.kind) ∧ w7.cell? ⟨lb, loff + k * 4 + 1, none⟩ = some (.int .i64 a.cell) ∧ w7.cell? ⟨lb, loff + k * 4 + 2, none⟩ = some (.int .i64 a.seen) ∧ w7.cell? ⟨lb, loff + k * 4 + 3, none⟩ = some (.int .i64 a.put)) := HHS.out w7 HB7.out _ _ _ _ (HW7.out); clear hcr7 ho7))
            all_goals
              go_wp2
              go_meet
              case rel => exact ⟨rfl, HC7, HW7, HB7⟩
          case rest =>
            obtain ⟨rfl, HC8, HW8, HB8⟩ := hcut
            clear HTK HHS HCv HWv HBv
            go_wp2
            go_roundg (gk - 1)
            case rel => exact ⟨k + 1, s0, s1, s2, s3, by simp, by omega, by omega, HSS, HW8, HC8, HB8⟩
            case measure => omega
        · obtain ⟨tn, htn, ht4, hfit, hcl0, hcl1⟩ := guard_fits HSo.out ps k hkl HSt.out (by rw [← show a = _ from HA.out]; exact h0)
          rw [← show a = _ from HA.out] at hfit hcl0 hcl1
          have hclz : a.cell < (ZL : Int) := by rw [HZt.out]; exact hcl1
          have HFt : Hid (∀ wx, Blk wx wb 37 (wArr c ma mem.length mc ja jobs.length jc g ZL cap s0 s1 s2 s3 0 0 0 0) → CRow wx w2.heap.size g cap (cellsL c mem jobs ps k) → Calls Tryz.prog 15 #[.pointer (some ⟨wb, 0, none⟩), .int .i64 (tn : Int), .agg #[.int .i64 a.kind, .int .i64 a.cell, .int .i64 a.seen, .int .i64 a.put]] wx fun e w' => e = .returned (.bool true) ∧ Below wx.heap.size wx w') := fun wx h1 h2 => by
            refine fits_any c (HSo.out).cfg ma ja mem.length mc jobs.length jc g cap w2.heap.size wb (cellsL c mem jobs ps k) s0 s1 s2 s3 0 0 0 0 a tn ht4 wx ?_ h2 ?_ hsn4.1 hsn4.2 hcl0 hcl1 h0 hfit
            · rw [HZ.out]; exact h1
            · rw [HZ.out]; exact HZt.out
          obtain ⟨r9, r0, r1, r2, r3⟩ := HHS.out wr HBr.out _ _ _ _ HWr.out
          have rp := HHP.out wr HBr.out
          rw [htn] at rp
          have HTN : Hid ((pickAt ps k).thread = (tn : Int)) := htn
          have b0 : (a.kind == 0) = false := by simp [h0]
          have b0' : (a.kind != 0) = true := by simp [h0]
          have u1 : ¬ a.cell < 0 := by omega
          have u2 : ¬ (ZL : Int) ≤ a.cell := by omega
          clear hfit hcl1 htn
          go_wp2
          go_quiet (fail)
          go_wp2_with fail
          refine Calls.mono (HFt.out _ ((HWr.out).drewN nq) (ownsRow_keep HCr.out ((Kp.refl (chg := []) wb wb wb wr).drewN nq) (by simp))) ?_
          rintro e w5 ⟨rfl, hb5⟩
          have hb5' : Below wr.heap.size wr w5 := ⟨hb5.os, hb5.tape, hb5.output, hb5.size, hb5.block⟩
          have HWv : Hid (Blk w5 wb 37 (wArr c ma mem.length mc ja jobs.length jc g ZL cap s0 s1 s2 s3 0 0 0 0)) := (HWr.out).below hb5' (HWr.out).lt
          have HCv : Hid (CRow w5 w2.heap.size g cap (cellsL c mem jobs ps k)) := (HCr.out).below hb5' (by have := (HCr.out).lt; omega)
          have HBv : Hid (Below wb w1 w5) := (HBr.out).trans (hb5'.mono (Nat.le_of_lt (HWr.out).lt))
          clear hb5 hb5' r9 r0 r1 r2 r3 rp HFt HWr HCr HBr HHP
          obtain ⟨r9, r0, r1, r2, r3⟩ := HHS.out w5 HBv.out _ _ _ _ HWv.out
          by_cases hst : a.kind = 2 ∧ a.cell = 0
          · obtain ⟨hs1, hs2⟩ := hst
            have HSS : Hid (StampOk c mem jobs ps (k + 1) (if tn = 0 then a.put else s0) (if tn = 1 then a.put else s1) (if tn = 2 then a.put else s2) (if tn = 3 then a.put else s3)) := by
              have := stamp_new HSt.out ht4 HTN.out (by rw [← show a = _ from HA.out]; exact hs1) (by rw [← show a = _ from HA.out]; exact hs2)
              rw [← show a = _ from HA.out] at this
              exact this
            have bc : (a.cell == 0) = true := by simp [hs2]
            have bk : (a.kind == 2) = true := by simp [hs1]
            clear hs1 hs2 h0 b0 b0' HSt HA HTN u1 u2 hcl0 hclz
            have hcs : w5.cell? ⟨wb, 10 + tn, none⟩ = some (.int .i64 (four s0 s1 s2 s3 (tn : Int))) := by
              rw [(HWv.out).cell]
              have h2 : tn = 0 ∨ tn = 1 ∨ tn = 2 ∨ tn = 3 := by omega
              rcases h2 with rfl | rfl | rfl | rfl <;> rfl
            have hfs : w5.frozen? ⟨wb, 10 + tn, none⟩ = false := (HWv.out).frozen _
            have v1 : (0 : Int) ≤ (tn : Int) := by omega
            have v2 : (tn : Int) < 4 := by omega
            generalize four s0 s1 s2 s3 (tn : Int) = old at hcs
            go_upto_region 17 with fail
            go_cut [] (fun wx => Hid (Blk wx wb 37 (wArr c ma mem.length mc ja jobs.length jc g ZL cap (if tn = 0 then a.put else s0) (if tn = 1 then a.put else s1) (if tn = 2 then a.put else s2) (if tn = 3 then a.put else s3) 0 0 0 0)) ∧ Hid (CRow wx w2.heap.size g cap (cellsL c mem jobs ps k)) ∧ Hid (Below wb w1 wx))
            case first =>
              have hlwb : lb ≠ wb := by omega
              have HS0 : Hid (w5.drew.cell? ⟨lb, loff + k * 4 + 3, none⟩ = some (.int .i64 a.put)) := r3
              have HWs : Hid (Blk (w5.drew.setCell ⟨wb, 10 + tn, none⟩ (.int .i64 a.put)) wb 37 (wArr c ma mem.length mc ja jobs.length jc g ZL cap (if tn = 0 then a.put else s0) (if tn = 1 then a.put else s1) (if tn = 2 then a.put else s2) (if tn = 3 then a.put else s3) 0 0 0 0)) := (show Blk w5.drew wb 37 _ from HWv.out).set.congr (wArr_set _ _ _ _ _ _ _ _ _ _ _ _ _ _ _ _ _ _ _ _ ht4)
              have HBs : Hid (Below wb w1 (w5.drew.setCell ⟨wb, 10 + tn, none⟩ (.int .i64 a.put))) := below_set (HBv.out).drew (Nat.le_refl _)
              have HCs : Hid (CRow (w5.drew.setCell ⟨wb, 10 + tn, none⟩ (.int .i64 a.put)) w2.heap.size g cap (cellsL c mem jobs ps k)) := ownsRow_keep HCv.out (Kp.only (B := w2.heap.size) (chg := [37]) (p := wb) (eb := wb) (((Only.refl wb w5).drew).set) (Nat.le_trans (HCv.out).lt.1 (Nat.le_of_lt (HCv.out).lt.2)) HWv.out (by simp) (Or.inl rfl)) (by simp)
              have HSs : Hid ((w5.drew.setCell ⟨wb, 10 + tn, none⟩ (.int .i64 a.put)).cell? ⟨lb, loff + k * 4 + 3, none⟩ = some (.int .i64 a.put)) := (HHS.out _ HBs.out _ _ _ _ HWs.out).2.2.2.2
              clear r9 r0 r1 r2 r3
              go_region_held3 (fun w' => w'.cell? ⟨lb, loff + k * 4 + 3, none⟩ = some (.int .i64 a.put))
                (first | exact HS0.out | exact HSs.out)
                (fail)
              all_goals
                go_wp2
                go_meet
                case rel => exact ⟨HWs, HCs, HBs⟩
            case rest =>
              obtain ⟨HWz, HCz, HBz⟩ := hcut
              clear HWv HCv HBv r9 r0 r1 r2 r3 hcs hfs
              have HWv : Hid (Blk wc wb 37 (wArr c ma mem.length mc ja jobs.length jc g ZL cap (if tn = 0 then a.put else s0) (if tn = 1 then a.put else s1) (if tn = 2 then a.put else s2) (if tn = 3 then a.put else s3) 0 0 0 0)) := HWz
              have HCv : Hid (CRow wc w2.heap.size g cap (cellsL c mem jobs ps k)) := HCz
              have HBv : Hid (Below wb w1 wc) := HBz
              clear HWz HCz HBz
              go_upto_region 18 with fail
              obtain ⟨wv, hwv⟩ : ∃ wv, wv = wc := ⟨_, rfl⟩
              rw [← hwv] at HWv HCv HBv ⊢
              clear hwv
              go_cut [11] (fun t wx => t = .bool true ∧ Hid (CRow wx w2.heap.size g cap (cellsL c mem jobs ps (k + 1))) ∧ Hid (Blk wx wb 37 (wArr c ma mem.length mc ja jobs.length jc g ZL cap (if tn = 0 then a.put else s0) (if tn = 1 then a.put else s1) (if tn = 2 then a.put else s2) (if tn = 3 then a.put else s3) 0 0 0 0)) ∧ Hid (Below wb w1 wx))
              case first =>
                have HS0 : Hid (wv.drew.cell? ⟨wb, 9, none⟩ = some (.slice (some ⟨g, 0, none⟩) ZL cap) ∧ wv.drew.cell? ⟨lb, loff + k * 4, none⟩ = some (.int .i64 a.kind) ∧ wv.drew.cell? ⟨lb, loff + k * 4 + 1, none⟩ = some (.int .i64 a.cell) ∧ wv.drew.cell? ⟨lb, loff + k * 4 + 2, none⟩ = some (.int .i64 a.seen) ∧ wv.drew.cell? ⟨lb, loff + k * 4 + 3, none⟩ = some (.int .i64 a.put)) := HHS.out wv.drew (HBv.out).drew _ _ _ _ (HWv.out)
                have HTc : Hid (CRow wv.drew w2.heap.size g cap (cellsL c mem jobs ps k)) := World.ownsRow.drew HCv.out
                go_region_held3 (fun w' => w'.cell? ⟨wb, 9, none⟩ = some (.slice (some ⟨g, 0, none⟩) ZL cap) ∧ w'.cell? ⟨lb, loff + k * 4, none⟩ = some (.int .i64 a.kind) ∧ w'.cell? ⟨lb, loff + k * 4 + 1, none⟩ = some (.int .i64 a.cell) ∧ w'.cell? ⟨lb, loff + k * 4 + 2, none⟩ = some (.int .i64 a.seen) ∧ w'.cell? ⟨lb, loff + k * 4 + 3, none⟩ = some (.int .i64 a.put))
                  (first | exact HS1.out | exact HS0.out)
                  (first | (go_at_call 16; refine Calls.mono (HTK.out _ HTc.out) ?_; rintro e w7 ⟨rfl, hcr7, ho7⟩; have HO7 : Hid (Only g wv w7) := ⟨ho7.os, ho7.tape, ho7.output, ho7.size, ho7.block⟩; have HC7 : Hid (CRow w7 w2.heap.size g cap (cellsL c mem jobs ps (k + 1))) := hcr7; have HW7 : Hid (Blk w7 wb 37 (wArr c ma mem.length mc ja jobs.length jc g ZL cap (if tn = 0 then a.put else s0) (if tn = 1 then a.put else s1) (if tn = 2 then a.put else s2) (if tn = 3 then a.put else s3) 0 0 0 0)) := (HWv.out).only HO7.out hwg; have HB7 : Hid (Below wb w1 w7) := (HBv.out).trans ⟨(HO7.out).os, (HO7.out).tape, (HO7.out).output, (HO7.out).size, fun b hb => (HO7.out).block b (Nat.lt_trans hb (HWv.out).lt) (by omega)⟩; have HS1 : Hid (w7.cell? ⟨wb, 9, none⟩ = some (.slice (some ⟨g, 0, none⟩) ZL cap) ∧ w7.cell? ⟨lb, loff + k * 4, none⟩ = some (.int .i64 a.kind) ∧ w7.cell? ⟨lb, loff + k * 4 + 1, none⟩ = some (.int .i64 a.cell) ∧ w7.cell? ⟨lb, loff + k * 4 + 2, none⟩ = some (.int .i64 a.seen) ∧ w7.cell? ⟨lb, loff + k * 4 + 3, none⟩ = some (.int .i64 a.put)) := HHS.out w7 HB7.out _ _ _ _ (HW7.out); clear hcr7 ho7))
                all_goals
                  go_wp2
                  go_meet
                  case rel => exact ⟨rfl, HC7, HW7, HB7⟩
              case rest =>
                obtain ⟨rfl, HC8, HW8, HB8⟩ := hcut
                clear HTK HHS HCv HWv HBv
                go_wp2
                go_roundg (gk - 1)
                case rel => exact ⟨k + 1, (if tn = 0 then a.put else s0), (if tn = 1 then a.put else s1), (if tn = 2 then a.put else s2), (if tn = 3 then a.put else s3), by simp, by omega, by omega, HSS, HW8, HC8, HB8⟩
                case measure => omega
          · have HSS : Hid (StampOk c mem jobs ps (k + 1) s0 s1 s2 s3) := stamp_same HSt.out (fun x => hst (by rw [← show a = _ from HA.out] at x; exact x))
            by_cases hc0 : a.cell = 0
            · have bc : (a.cell == 0) = true := by simp [hc0]
              have bk : (a.kind == 2) = false := by simp; exact fun e => hst ⟨e, hc0⟩
              clear hst hc0 h0 b0 b0' HSt HA HTN u1 u2 hcl0 hclz
              go_upto_region 18 with fail
              clear r9 r0 r1 r2 r3
              go_cut [11] (fun t wx => t = .bool true ∧ Hid (CRow wx w2.heap.size g cap (cellsL c mem jobs ps (k + 1))) ∧ Hid (Blk wx wb 37 (wArr c ma mem.length mc ja jobs.length jc g ZL cap s0 s1 s2 s3 0 0 0 0)) ∧ Hid (Below wb w1 wx))
              case first =>
                have HS0 : Hid (w5.drew.cell? ⟨wb, 9, none⟩ = some (.slice (some ⟨g, 0, none⟩) ZL cap) ∧ w5.drew.cell? ⟨lb, loff + k * 4, none⟩ = some (.int .i64 a.kind) ∧ w5.drew.cell? ⟨lb, loff + k * 4 + 1, none⟩ = some (.int .i64 a.cell) ∧ w5.drew.cell? ⟨lb, loff + k * 4 + 2, none⟩ = some (.int .i64 a.seen) ∧ w5.drew.cell? ⟨lb, loff + k * 4 + 3, none⟩ = some (.int .i64 a.put)) := HHS.out w5.drew (HBv.out).drew _ _ _ _ (HWv.out)
                have HTc : Hid (CRow w5.drew w2.heap.size g cap (cellsL c mem jobs ps k)) := World.ownsRow.drew HCv.out
                go_region_held3 (fun w' => w'.cell? ⟨wb, 9, none⟩ = some (.slice (some ⟨g, 0, none⟩) ZL cap) ∧ w'.cell? ⟨lb, loff + k * 4, none⟩ = some (.int .i64 a.kind) ∧ w'.cell? ⟨lb, loff + k * 4 + 1, none⟩ = some (.int .i64 a.cell) ∧ w'.cell? ⟨lb, loff + k * 4 + 2, none⟩ = some (.int .i64 a.seen) ∧ w'.cell? ⟨lb, loff + k * 4 + 3, none⟩ = some (.int .i64 a.put))
                  (first | exact HS1.out | exact HS0.out)
                  (first | (go_at_call 16; refine Calls.mono (HTK.out _ HTc.out) ?_; rintro e w7 ⟨rfl, hcr7, ho7⟩; have HO7 : Hid (Only g w5 w7) := ⟨ho7.os, ho7.tape, ho7.output, ho7.size, ho7.block⟩; have HC7 : Hid (CRow w7 w2.heap.size g cap (cellsL c mem jobs ps (k + 1))) := hcr7; have HW7 : Hid (Blk w7 wb 37 (wArr c ma mem.length mc ja jobs.length jc g ZL cap s0 s1 s2 s3 0 0 0 0)) := (HWv.out).only HO7.out hwg; have HB7 : Hid (Below wb w1 w7) := (HBv.out).trans ⟨(HO7.out).os, (HO7.out).tape, (HO7.out).output, (HO7.out).size, fun b hb => (HO7.out).block b (Nat.lt_trans hb (HWv.out).lt) (by omega)⟩; have HS1 : Hid (w7.cell? ⟨wb, 9, none⟩ = some (.slice (some ⟨g, 0, none⟩) ZL cap) ∧ w7.cell? ⟨lb, loff + k * 4, none⟩ = some (.int .i64 a.kind) ∧ w7.cell? ⟨lb, loff + k * 4 + 1, none⟩ = some (.int .i64 a.cell) ∧ w7.cell? ⟨lb, loff + k * 4 + 2, none⟩ = some (.int .i64 a.seen) ∧ w7.cell? ⟨lb, loff + k * 4 + 3, none⟩ = some (.int .i64 a.put)) := HHS.out w7 HB7.out _ _ _ _ (HW7.out); clear hcr7 ho7))
                all_goals
                  go_wp2
                  go_meet
                  case rel => exact ⟨rfl, HC7, HW7, HB7⟩
              case rest =>
                obtain ⟨rfl, HC8, HW8, HB8⟩ := hcut
                clear HTK HHS HCv HWv HBv
                go_wp2
                go_roundg (gk - 1)
                case rel => exact ⟨k + 1, s0, s1, s2, s3, by simp, by omega, by omega, HSS, HW8, HC8, HB8⟩
                case measure => omega
            · have bc : (a.cell == 0) = false := by simp [hc0]
              clear hst hc0 h0 b0 b0' HSt HA HTN u1 u2 hcl0 hclz
              go_upto_region 18 with fail
              clear r9 r0 r1 r2 r3
              go_cut [11] (fun t wx => t = .bool true ∧ Hid (CRow wx w2.heap.size g cap (cellsL c mem jobs ps (k + 1))) ∧ Hid (Blk wx wb 37 (wArr c ma mem.length mc ja jobs.length jc g ZL cap s0 s1 s2 s3 0 0 0 0)) ∧ Hid (Below wb w1 wx))
              case first =>
                have HS0 : Hid (w5.drew.cell? ⟨wb, 9, none⟩ = some (.slice (some ⟨g, 0, none⟩) ZL cap) ∧ w5.drew.cell? ⟨lb, loff + k * 4, none⟩ = some (.int .i64 a.kind) ∧ w5.drew.cell? ⟨lb, loff + k * 4 + 1, none⟩ = some (.int .i64 a.cell) ∧ w5.drew.cell? ⟨lb, loff + k * 4 + 2, none⟩ = some (.int .i64 a.seen) ∧ w5.drew.cell? ⟨lb, loff + k * 4 + 3, none⟩ = some (.int .i64 a.put)) := HHS.out w5.drew (HBv.out).drew _ _ _ _ (HWv.out)
                have HTc : Hid (CRow w5.drew w2.heap.size g cap (cellsL c mem jobs ps k)) := World.ownsRow.drew HCv.out
                go_region_held3 (fun w' => w'.cell? ⟨wb, 9, none⟩ = some (.slice (some ⟨g, 0, none⟩) ZL cap) ∧ w'.cell? ⟨lb, loff + k * 4, none⟩ = some (.int .i64 a.kind) ∧ w'.cell? ⟨lb, loff + k * 4 + 1, none⟩ = some (.int .i64 a.cell) ∧ w'.cell? ⟨lb, loff + k * 4 + 2, none⟩ = some (.int .i64 a.seen) ∧ w'.cell? ⟨lb, loff + k * 4 + 3, none⟩ = some (.int .i64 a.put))
                  (first | exact HS1.out | exact HS0.out)
                  (first | (go_at_call 16; refine Calls.mono (HTK.out _ HTc.out) ?_; rintro e w7 ⟨rfl, hcr7, ho7⟩; have HO7 : Hid (Only g w5 w7) := ⟨ho7.os, ho7.tape, ho7.output, ho7.size, ho7.block⟩; have HC7 : Hid (CRow w7 w2.heap.size g cap (cellsL c mem jobs ps (k + 1))) := hcr7; have HW7 : Hid (Blk w7 wb 37 (wArr c ma mem.length mc ja jobs.length jc g ZL cap s0 s1 s2 s3 0 0 0 0)) := (HWv.out).only HO7.out hwg; have HB7 : Hid (Below wb w1 w7) := (HBv.out).trans ⟨(HO7.out).os, (HO7.out).tape, (HO7.out).output, (HO7.out).size, fun b hb => (HO7.out).block b (Nat.lt_trans hb (HWv.out).lt) (by omega)⟩; have HS1 : Hid (w7.cell? ⟨wb, 9, none⟩ = some (.slice (some ⟨g, 0, none⟩) ZL cap) ∧ w7.cell? ⟨lb, loff + k * 4, none⟩ = some (.int .i64 a.kind) ∧ w7.cell? ⟨lb, loff + k * 4 + 1, none⟩ = some (.int .i64 a.cell) ∧ w7.cell? ⟨lb, loff + k * 4 + 2, none⟩ = some (.int .i64 a.seen) ∧ w7.cell? ⟨lb, loff + k * 4 + 3, none⟩ = some (.int .i64 a.put)) := HHS.out w7 HB7.out _ _ _ _ (HW7.out); clear hcr7 ho7))
                all_goals
                  go_wp2
                  go_meet
                  case rel => exact ⟨rfl, HC7, HW7, HB7⟩
              case rest =>
                obtain ⟨rfl, HC8, HW8, HB8⟩ := hcut
                clear HTK HHS HCv HWv HBv
                go_wp2
                go_roundg (gk - 1)
                case rel => exact ⟨k + 1, s0, s1, s2, s3, by simp, by omega, by omega, HSS, HW8, HC8, HB8⟩
                case measure => omega
      · have hk1 : ¬ (k : Int) < (ps.length : Int) := by omega
        have HF : Hid (Below w.heap.size w wr) := (HBw1.out).trans ((HBr.out).mono (by omega))
        clear HWr HCr HBr HSt
        go_wp2
        go_ret
        exact ⟨rfl, HF.out⟩
  · have hLa : L = [] := (HL.out).symm.trans (if_neg he)
    have hWe : HW = 1 := (HHW.out).symm.trans (if_neg he)
    subst hLa hWe
    clear he
    go_wp2
    go_ret
    exact ⟨by simp, HB1.out⟩

end Go.Proofs.YtejadojilncbjaaGreat
