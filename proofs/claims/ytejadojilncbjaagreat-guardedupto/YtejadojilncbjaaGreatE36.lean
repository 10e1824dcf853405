import Derived.Test.YtejadojilncbjaaGreatE35
import Derived.Deep.RegionHeld3
namespace Go.Proofs.YtejadojilncbjaaGreat
open Go.RowKit
set_option linter.unusedVariables false
attribute [local go_sem ↓] Go.wp_at_zero Go.wp_at_succ

set_option maxRecDepth 100000 in
set_option maxHeartbeats 8000000 in
theorem fits_any (c : Cfg) (hc : cfgB c = true) (ma ja : Option Addr) (ml mc jl jc g cap base wb : Nat) (cs : List Int) (s0 s1 s2 s3 k0 k1 k2 k3 : Int) (a : AccD) (t : Nat) (ht : t < 4) (w : World)
    (hw : Blk w wb 37 (wArr c ma ml mc ja jl jc g cs.length cap s0 s1 s2 s3 k0 k1 k2 k3)) (hr : CRow w base g cap cs) (hlen : (cs.length : Int) = total c) (hs0 : -1 ≤ a.seen) (hs1 : a.seen ≤ 1125899906842624) (hl : 0 ≤ a.cell) (hh : a.cell < total c) (hk0 : a.kind ≠ 0) (hok : fitsB c (mOf cs) (four s0 s1 s2 s3) (t : Int) a = true) :
    Calls Tryz.prog 15 #[.pointer (some ⟨wb, 0, none⟩), .int .i64 (t : Int), .agg #[.int .i64 a.kind, .int .i64 a.cell, .int .i64 a.seen, .int .i64 a.put]] w fun e w' => e = .returned (.bool true) ∧ Below w.heap.size w w' := by
  obtain ⟨kind, cell, seen, put⟩ := a
  obtain ⟨⟨c1, c2⟩, ⟨w1, w2⟩, ⟨z1, z2⟩, _⟩ := cfgB_true hc
  simp only at hl hh hs0 hs1 hk0
  rw [total_eq] at hlen hh
  have HC : Hid (cfgB c = true) := hc
  obtain ⟨wa, hwa⟩ : ∃ wa, wa = w.alloc (.cells #[.int .i64 kind, .int .i64 cell, .int .i64 seen, .int .i64 put] 40) := ⟨_, rfl⟩
  have hB0 : Below w.heap.size w wa := by rw [hwa]; exact (Below.refl w.heap.size w).alloc (Nat.le_refl _) _
  have hAb : Blk wa w.heap.size 40 #[.int .i64 kind, .int .i64 cell, .int .i64 seen, .int .i64 put] := by rw [hwa]; exact Blk.new w 40 _
  have hr0 : CRow wa base g cap cs := hr.below hB0 (by have := hr.lt; omega)
  have hwb := hw.below hB0 hw.lt
  have hwc := hwb.cell
  have hac := hAb.cell
  unfold wArr at hwc
  have x2 : IntKind.i64.wrap ((t : Int) + 1) = (t : Int) + 1 := wrapF _ (by omega) (by omega)
  have HW0 : Hid (wa = w.alloc (.cells #[.int .i64 kind, .int .i64 cell, .int .i64 seen, .int .i64 put] 40)) := hwa
  have HB0 : Hid (Below w.heap.size w wa) := hB0
  have HR0 : Hid (CRow wa base g cap cs) := hr0
  have HWb : Hid (Blk wa wb 37 (wArr c ma ml mc ja jl jc g cs.length cap s0 s1 s2 s3 k0 k1 k2 k3)) := hwb
  have bk0 : (kind == 0) = false := by simp [hk0]
  clear hw hr hB0 hAb hwa hc hwb
  unfold fitsB at hok
  simp only at hok
  by_cases hld : kind = 1 ∨ kind = 4
  · clear hok
    rcases hld with rfl | rfl
    · go_enter Tryz.func15, Tryz.ntmps15
      go_upto_region 1 with fail
      rw [← show wa = _ from HW0.out]
      clear HW0 hk0 bk0
      go_wp2
      go_ret
      exact ⟨by simp, HB0.out⟩
    · go_enter Tryz.func15, Tryz.ntmps15
      go_upto_region 1 with fail
      rw [← show wa = _ from HW0.out]
      clear HW0 hk0 bk0
      go_wp2
      go_ret
      exact ⟨by simp, HB0.out⟩
  rw [if_neg (by omega)] at hok
  have bk1 : (kind == 1) = false := by simp; omega
  have bk4 : (kind == 4) = false := by simp; omega
  clear hld
  by_cases p0 : cell = 0
  · rw [if_pos p0] at hok
    simp only [Bool.and_eq_true, beq_iff_eq] at hok
    obtain ⟨⟨e1, e2⟩, e3⟩ := hok
    have hg2 : wa.cell? ⟨g, 2, none⟩ = some (.int .i64 ((t : Int) + 1)) := by
      rw [hr0.cell (by omega)]
      unfold mOf at e3
      rw [show cs.getD 2 0 = (t : Int) + 1 from e3]
    have x5 : (2 : Int) < (cs.length : Int) := by omega
    have x6 : IntKind.i64.wrap (seen + 1) = seen + 1 := wrapF _ (by omega) (by omega)
    subst p0 e1 e2
    clear hk0 bk0 bk1 bk4 e3 hr0 hlen
    go_enter Tryz.func15, Tryz.ntmps15
    go_upto_region 1 with fail
    rw [← show wa = _ from HW0.out]
    clear HW0
    go_wp2
    go_ret
    exact ⟨by simp, HB0.out⟩
  rw [if_neg p0] at hok
  have b0 : (cell == 0) = false := by simp [p0]
  by_cases p2 : cell = 2
  · rw [if_pos p2] at hok
    subst p2
    have HLk : Hid (∀ wx, Calls Tryz.prog 37 #[.agg #[.int .i64 kind, .int .i64 2, .int .i64 seen, .int .i64 put], .int .i64 (t : Int)] wx fun e w' => e = .returned (.bool true) ∧ Below wx.heap.size wx w') := fun wx => by
      have := locked_any ⟨kind, 2, seen, put⟩ (t : Int) wx (by omega) (by omega)
      rw [hok] at this
      exact this
    clear hok hr0 hlen hk0 p0
    go_enter Tryz.func15, Tryz.ntmps15
    go_upto_region 1 with fail
    rw [← show wa = _ from HW0.out]
    clear HW0
    go_wp2_with fail
    refine Calls.mono (HLk.out _) ?_
    rintro e w5 ⟨rfl, hb5⟩
    have HB5 : Hid (Below w.heap.size w w5) := (HB0.out).trans (hb5.mono (HB0.out).size)
    clear hb5
    go_wp2
    go_ret
    exact ⟨rfl, HB5.out⟩
  rw [if_neg p2] at hok
  have b2 : (cell == 2) = false := by simp [p2]
  have y1 : IntKind.i64.wrap (3 + c.s) = 3 + c.s := wrapF _ (by omega) (by omega)
  have y2 : IntKind.i64.wrap (2 * c.s) = 2 * c.s := wrapF _ (by omega) (by omega)
  have y3 : IntKind.i64.wrap (3 + 2 * c.s) = 3 + 2 * c.s := wrapF _ (by omega) (by omega)
  by_cases p3 : 3 ≤ cell ∧ cell < 3 + c.s
  · rw [if_pos p3] at hok
    obtain ⟨q1, q2⟩ := p3
    have HVs : Hid _ := versioned_any c HC.out ma ja ml mc jl jc g cap base wb cs s0 s1 s2 s3 k0 k1 k2 k3 ⟨kind, cell, seen, put⟩ t ht wa HWb.out HR0.out (by omega) (by omega) hl (by simp only; omega) hok
    clear hok hr0 hlen hk0 p0 p2
    go_enter Tryz.func15, Tryz.ntmps15
    go_upto_region 1 with fail
    rw [← show wa = _ from HW0.out]
    clear HW0
    go_wp2_with fail
    refine Calls.mono HVs.out ?_
    rintro e w5 ⟨rfl, hb5⟩
    have HB5 : Hid (Below w.heap.size w w5) := (HB0.out).trans (hb5.mono (HB0.out).size)
    clear hb5 HVs
    go_wp2
    go_ret
    exact ⟨rfl, HB5.out⟩
  rw [if_neg p3] at hok
  by_cases p4 : 3 + c.s ≤ cell ∧ cell < 3 + 2 * c.s
  · rw [if_pos p4] at hok
    obtain ⟨q1, q2⟩ := p4
    simp only [Bool.and_eq_true] at hok
    obtain ⟨e1, e2⟩ := hok
    have HLk : Hid (∀ wx, Calls Tryz.prog 37 #[.agg #[.int .i64 kind, .int .i64 cell, .int .i64 seen, .int .i64 put], .int .i64 (t : Int)] wx fun e w' => e = .returned (.bool true) ∧ Below wx.heap.size wx w') := fun wx => by
      have := locked_any ⟨kind, cell, seen, put⟩ (t : Int) wx (by omega) (by omega)
      rw [e2] at this
      exact this
    obtain ⟨n, hn⟩ : ∃ n : Nat, cell - c.s = (n : Int) := ⟨(cell - c.s).toNat, by omega⟩
    have hvc : wa.cell? ⟨g, n, none⟩ = some (.int .i64 (mOf cs (cell - c.s))) := by
      rw [hr0.cell (by omega), hn]
      rfl
    have y4 : IntKind.i64.wrap (cell - c.s) = (n : Int) := by rw [hn]; exact wrapF _ (by omega) (by omega)
    have y5 : (n : Int) < (cs.length : Int) := by omega
    have y6 : (0 : Int) ≤ (n : Int) := by omega
    have q3 : ¬ cell < 3 + c.s := by omega
    have q4 : 3 ≤ cell := by omega
    generalize mOf cs (cell - c.s) = vv at *
    by_cases hk3 : kind = 3
    · have bk3 : (kind == 3) = true := by simp [hk3]
      clear e1 e2 hr0 hlen hk0 p0 p2 p3 hn hk3
      go_enter Tryz.func15, Tryz.ntmps15
      go_upto_region 1 with fail
      rw [← show wa = _ from HW0.out]
      clear HW0
      go_wp2
      go_quiet (fail)
      go_wp2_with fail
      refine Calls.mono (HLk.out _) ?_
      rintro e w5 ⟨rfl, hb5⟩
      have HB5 : Hid (Below w.heap.size w w5) := (belowDrewN HB0.out _).trans (hb5.mono (HB0.out).size)
      clear hb5
      go_wp2
      go_ret
      exact ⟨by simp, HB5.out⟩
    · have bk3 : (kind == 3) = false := by simp [hk3]
      have hvn : vv ≠ -1 := by
        intro e
        rw [bk3, e] at e1
        simp at e1
      have bv : (vv == -1) = false := by simp [hvn]
      have bv' : (vv != -1) = true := by simp [hvn]
      clear e1 e2 hr0 hlen hk0 p0 p2 p3 hn hk3 hvn
      go_enter Tryz.func15, Tryz.ntmps15
      go_upto_region 1 with fail
      rw [← show wa = _ from HW0.out]
      clear HW0
      go_wp2
      go_quiet (fail)
      go_wp2_with fail
      refine Calls.mono (HLk.out _) ?_
      rintro e w5 ⟨rfl, hb5⟩
      have HB5 : Hid (Below w.heap.size w w5) := (belowDrewN HB0.out _).trans (hb5.mono (HB0.out).size)
      clear hb5
      go_wp2
      go_ret
      exact ⟨by simp, HB5.out⟩
  rw [if_neg p4] at hok
  have q3 : ¬ (cell < 3 + c.s ∧ 3 ≤ cell) := by omega
  have hwbl := (HWb.out).lt
  have HHS : Hid (∀ wx : World, Below wa.heap.size wa wx → ((∀ i, wx.cell? ⟨wb, i, none⟩ = (#[.int .i64 c.t, .int .i64 c.wd, .int .i64 c.s, .int .i64 c.g, .int .i64 c.r, .int .i64 c.cp, .int .i64 c.f, .slice ma ml mc, .slice ja jl jc, .slice (some ⟨g, 0, none⟩) cs.length cap, .int .i64 s0, .int .i64 s1, .int .i64 s2, .int .i64 s3, .int .i64 k0, .int .i64 k1, .int .i64 k2, .int .i64 k3] : Array Value)[i]?) ∧ (∀ i, wx.cell? ⟨w.heap.size, i, none⟩ = (#[.int .i64 kind, .int .i64 cell, .int .i64 seen, .int .i64 put] : Array Value)[i]?))) := fun wx hb => ⟨fun i => (World.cell?_of_block (hb.block wb hwbl)).trans (hwc i), fun i => (World.cell?_of_block (hb.block w.heap.size (block_lt (hac 0)))).trans (hac i)⟩
  have HKW : Hid (∀ wx, Calls Tryz.prog 36 #[.agg #[.int .i64 c.t, .int .i64 c.wd, .int .i64 c.s, .int .i64 c.g, .int .i64 c.r, .int .i64 c.cp, .int .i64 c.f, .slice ma ml mc, .slice ja jl jc], .int .i64 0] wx fun e w' => e = .returned (.int .i64 (3 + 2 * c.s + c.t)) ∧ Below wx.heap.size wx w') := fun wx => by
    have := kword_any c HC.out 0 ma ja ml mc jl jc wx (by omega) (by omega)
    rw [show 3 + 2 * c.s + c.t + 0 = 3 + 2 * c.s + c.t from by omega] at this
    exact this
  have z3 : 3 ≤ cell ∨ cell = 1 := by omega
  have nv : ¬ (3 ≤ cell) ∨ ¬ (cell < 3 + c.s) := by omega
  have no : ¬ (3 + c.s ≤ cell) ∨ ¬ (cell < 3 + 2 * c.s) := by omega
  obtain ⟨DV, hDV⟩ : ∃ DV, DV = decide (cell < 3 + c.s) := ⟨_, rfl⟩
  by_cases p5 : 3 + 2 * c.s + c.t ≤ cell
  · rw [if_pos p5] at hok
    have u1 : ¬ cell < 3 + c.s := by omega
    have u2 : ¬ cell < 3 + 2 * c.s := by omega
    have u3 : 3 ≤ cell := by omega
    have u4 : 3 + c.s ≤ cell := by omega
    clear nv no z3 hDV p3 p4 q3
    simp only [Bool.and_eq_true, beq_iff_eq, decide_eq_true_eq] at hok
    obtain ⟨⟨⟨e1, e2, e3⟩, e4⟩, e5⟩ := hok
    subst e1
    have hdl : 0 ≤ cell - (3 + 2 * c.s + c.t) := by omega
    obtain ⟨r1, r2⟩ := tmodP z1 hdl
    have y7 : IntKind.i64.wrap (cell - (3 + 2 * c.s + c.t)) = cell - (3 + 2 * c.s + c.t) := wrapF _ (by omega) (by omega)
    obtain ⟨st, hst⟩ : ∃ st, (cell - (3 + 2 * c.s + c.t)).tmod c.s = st := ⟨_, rfl⟩
    rw [hst] at e2 e3 r1 r2
    obtain ⟨sn, hsn⟩ : ∃ sn : Nat, st = (sn : Int) := ⟨st.toNat, by omega⟩
    obtain ⟨sN, hsN⟩ : ∃ sN : Nat, c.s = (sN : Int) := ⟨c.s.toNat, by omega⟩
    obtain ⟨ow, how⟩ : ∃ ow : Nat, ow = 3 + sN + sn := ⟨_, rfl⟩
    obtain ⟨vw, hvw⟩ : ∃ vw : Nat, vw = 3 + sn := ⟨_, rfl⟩
    have hoI : 3 + c.s + st = (ow : Int) := by omega
    have hvI : 3 + st = (vw : Int) := by omega
    have hoc : wa.cell? ⟨g, ow, none⟩ = some (.int .i64 ((t : Int) + 1)) := by
      rw [hr0.cell (by omega)]
      unfold mOf at e2
      rw [hoI, Int.toNat_natCast] at e2
      rw [e2]
    have hvc : wa.cell? ⟨g, vw, none⟩ = some (.int .i64 (-1)) := by
      rw [hr0.cell (by omega)]
      unfold mOf at e3
      rw [hvI, Int.toNat_natCast] at e3
      rw [e3]
    have HKO : Hid (∀ wx, Calls Tryz.prog 39 #[.agg #[.int .i64 c.t, .int .i64 c.wd, .int .i64 c.s, .int .i64 c.g, .int .i64 c.r, .int .i64 c.cp, .int .i64 c.f, .slice ma ml mc, .slice ja jl jc], .int .i64 st] wx fun e w' => e = .returned (.int .i64 (ow : Int)) ∧ Below wx.heap.size wx w') := fun wx => by
      have := kowner_any c HC.out st ma ja ml mc jl jc wx (by omega) (by omega)
      rw [hoI] at this
      exact this
    have HKV : Hid (∀ wx, Calls Tryz.prog 40 #[.agg #[.int .i64 c.t, .int .i64 c.wd, .int .i64 c.s, .int .i64 c.g, .int .i64 c.r, .int .i64 c.cp, .int .i64 c.f, .slice ma ml mc, .slice ja jl jc], .int .i64 st] wx fun e w' => e = .returned (.int .i64 (vw : Int)) ∧ Below wx.heap.size wx w') := fun wx => by
      have := kversion_any c st ma ja ml mc jl jc wx (by omega) (by omega)
      rw [hvI] at this
      exact this
    have y8 : (ow : Int) < (cs.length : Int) := by omega
    have y9 : (vw : Int) < (cs.length : Int) := by omega
    have y10 : (0 : Int) ≤ (ow : Int) := by omega
    have y11 : (0 : Int) ≤ (vw : Int) := by omega
    have y12 : c.s ≠ 0 := by omega
    have y13 : IntKind.i64.wrap st = st := wrapF _ (by omega) (by omega)
    have hgl := (hr0.lt).2
    have HHG : Hid (∀ wx : World, Below wa.heap.size wa wx → ((∀ i, wx.cell? ⟨wb, i, none⟩ = (#[.int .i64 c.t, .int .i64 c.wd, .int .i64 c.s, .int .i64 c.g, .int .i64 c.r, .int .i64 c.cp, .int .i64 c.f, .slice ma ml mc, .slice ja jl jc, .slice (some ⟨g, 0, none⟩) cs.length cap, .int .i64 s0, .int .i64 s1, .int .i64 s2, .int .i64 s3, .int .i64 k0, .int .i64 k1, .int .i64 k2, .int .i64 k3] : Array Value)[i]?) ∧ wx.cell? ⟨g, ow, none⟩ = some (.int .i64 ((t : Int) + 1)) ∧ wx.cell? ⟨g, vw, none⟩ = some (.int .i64 (-1)))) := fun wx hb => ⟨fun i => (World.cell?_of_block (hb.block wb hwbl)).trans (hwc i), (World.cell?_of_block (hb.block g hgl)).trans hoc, (World.cell?_of_block (hb.block g hgl)).trans hvc⟩
    have HST : Hid ((cell - (3 + 2 * c.s + c.t)).tmod c.s = st) := hst
    clear e2 e3 hsn hsN how hvw hoI hvI p0 p2 hk0 hr0 hlen hdl hst
    go_enter Tryz.func15, Tryz.ntmps15
    go_upto_region 1 with fail
    rw [← show wa = _ from HW0.out]
    clear HW0
    go_wp2_with fail
    go_cut [119] (fun t wx => t = .bool true ∧ Hid (Below wa.heap.size wa wx))
    case first =>
      have HS0 : Hid ((∀ i, wa.drew.cell? ⟨wb, i, none⟩ = (#[.int .i64 c.t, .int .i64 c.wd, .int .i64 c.s, .int .i64 c.g, .int .i64 c.r, .int .i64 c.cp, .int .i64 c.f, .slice ma ml mc, .slice ja jl jc, .slice (some ⟨g, 0, none⟩) cs.length cap, .int .i64 s0, .int .i64 s1, .int .i64 s2, .int .i64 s3, .int .i64 k0, .int .i64 k1, .int .i64 k2, .int .i64 k3] : Array Value)[i]?) ∧ (∀ i, wa.drew.cell? ⟨w.heap.size, i, none⟩ = (#[.int .i64 2, .int .i64 cell, .int .i64 seen, .int .i64 put] : Array Value)[i]?)) := ⟨hwc, hac⟩
      clear hwc hac hoc hvc
      go_region_held3 (fun w' => (∀ i, w'.cell? ⟨wb, i, none⟩ = (#[.int .i64 c.t, .int .i64 c.wd, .int .i64 c.s, .int .i64 c.g, .int .i64 c.r, .int .i64 c.cp, .int .i64 c.f, .slice ma ml mc, .slice ja jl jc, .slice (some ⟨g, 0, none⟩) cs.length cap, .int .i64 s0, .int .i64 s1, .int .i64 s2, .int .i64 s3, .int .i64 k0, .int .i64 k1, .int .i64 k2, .int .i64 k3] : Array Value)[i]?) ∧ (∀ i, w'.cell? ⟨w.heap.size, i, none⟩ = (#[.int .i64 2, .int .i64 cell, .int .i64 seen, .int .i64 put] : Array Value)[i]?))
        (first | exact HS1.out | exact HS0.out)
        (first | (go_at_call 36; refine (HKW.out _).mono ?_; rintro e w5 ⟨rfl, hb5⟩; have HB5 : Hid (Below wa.heap.size wa w5) := (Below.refl wa.heap.size wa).drew.trans hb5; have HS1 : Hid ((∀ i, w5.cell? ⟨wb, i, none⟩ = (#[.int .i64 c.t, .int .i64 c.wd, .int .i64 c.s, .int .i64 c.g, .int .i64 c.r, .int .i64 c.cp, .int .i64 c.f, .slice ma ml mc, .slice ja jl jc, .slice (some ⟨g, 0, none⟩) cs.length cap, .int .i64 s0, .int .i64 s1, .int .i64 s2, .int .i64 s3, .int .i64 k0, .int .i64 k1, .int .i64 k2, .int .i64 k3] : Array Value)[i]?) ∧ (∀ i, w5.cell? ⟨w.heap.size, i, none⟩ = (#[.int .i64 2, .int .i64 cell, .int .i64 seen, .int .i64 put] : Array Value)[i]?)) := HHS.out _ HB5.out; clear hb5))
      all_goals
        go_wp2
        go_meet
        case rel => exact ⟨rfl, HB5⟩
    case rest =>
      obtain ⟨rfl, HBx⟩ := hcut
      have HFx : Hid (Below w.heap.size w wc) := (HB0.out).trans ((HBx.out).mono (HB0.out).size)
      have HSx : Hid ((∀ i, wc.drew.cell? ⟨wb, i, none⟩ = (#[.int .i64 c.t, .int .i64 c.wd, .int .i64 c.s, .int .i64 c.g, .int .i64 c.r, .int .i64 c.cp, .int .i64 c.f, .slice ma ml mc, .slice ja jl jc, .slice (some ⟨g, 0, none⟩) cs.length cap, .int .i64 s0, .int .i64 s1, .int .i64 s2, .int .i64 s3, .int .i64 k0, .int .i64 k1, .int .i64 k2, .int .i64 k3] : Array Value)[i]?) ∧ (∀ i, wc.drew.cell? ⟨w.heap.size, i, none⟩ = (#[.int .i64 2, .int .i64 cell, .int .i64 seen, .int .i64 put] : Array Value)[i]?)) := HHS.out _ (HBx.out).drew
      have hszx : wa.heap.size ≤ wc.heap.size := (HBx.out).size
      clear hwc hac hoc hvc
      go_wp2_with fail
      go_cut [11] (fun t wx => t = .int .i64 st ∧ Hid (Below wa.heap.size wa wx))
      case first =>
        have hst := HST.out
        go_region_held3 (fun w' => (∀ i, w'.cell? ⟨wb, i, none⟩ = (#[.int .i64 c.t, .int .i64 c.wd, .int .i64 c.s, .int .i64 c.g, .int .i64 c.r, .int .i64 c.cp, .int .i64 c.f, .slice ma ml mc, .slice ja jl jc, .slice (some ⟨g, 0, none⟩) cs.length cap, .int .i64 s0, .int .i64 s1, .int .i64 s2, .int .i64 s3, .int .i64 k0, .int .i64 k1, .int .i64 k2, .int .i64 k3] : Array Value)[i]?) ∧ (∀ i, w'.cell? ⟨w.heap.size, i, none⟩ = (#[.int .i64 2, .int .i64 cell, .int .i64 seen, .int .i64 put] : Array Value)[i]?))
          (first | exact HS1.out | exact HSx.out)
          (first | (go_at_call 36; refine (HKW.out _).mono ?_; rintro e w5 ⟨rfl, hb5⟩; have HB5 : Hid (Below wa.heap.size wa w5) := (HBx.out).trans ((Below.refl wc.heap.size wc).drew.trans hb5 |>.mono hszx); have HS1 : Hid ((∀ i, w5.cell? ⟨wb, i, none⟩ = (#[.int .i64 c.t, .int .i64 c.wd, .int .i64 c.s, .int .i64 c.g, .int .i64 c.r, .int .i64 c.cp, .int .i64 c.f, .slice ma ml mc, .slice ja jl jc, .slice (some ⟨g, 0, none⟩) cs.length cap, .int .i64 s0, .int .i64 s1, .int .i64 s2, .int .i64 s3, .int .i64 k0, .int .i64 k1, .int .i64 k2, .int .i64 k3] : Array Value)[i]?) ∧ (∀ i, w5.cell? ⟨w.heap.size, i, none⟩ = (#[.int .i64 2, .int .i64 cell, .int .i64 seen, .int .i64 put] : Array Value)[i]?)) := HHS.out _ HB5.out; clear hb5))
        all_goals
          go_wp2
          go_meet
          case rel => exact ⟨by first | rfl | simp [HST.out], HB5⟩
      case rest =>
        rename_i wc1 _
        obtain ⟨rfl, HBy⟩ := hcut
        have hszy : wa.heap.size ≤ wc.heap.size := (HBy.out).size
        clear HBx HSx hszx HFx
        have HSy : Hid ((∀ i, wc.drew.cell? ⟨wb, i, none⟩ = (#[.int .i64 c.t, .int .i64 c.wd, .int .i64 c.s, .int .i64 c.g, .int .i64 c.r, .int .i64 c.cp, .int .i64 c.f, .slice ma ml mc, .slice ja jl jc, .slice (some ⟨g, 0, none⟩) cs.length cap, .int .i64 s0, .int .i64 s1, .int .i64 s2, .int .i64 s3, .int .i64 k0, .int .i64 k1, .int .i64 k2, .int .i64 k3] : Array Value)[i]?) ∧ wc.drew.cell? ⟨g, ow, none⟩ = some (.int .i64 ((t : Int) + 1)) ∧ wc.drew.cell? ⟨g, vw, none⟩ = some (.int .i64 (-1))) := HHG.out _ (HBy.out).drew
        go_wp2_with fail
        go_cut [12] (fun t wx => t = .bool true ∧ Hid (Below wa.heap.size wa wx))
        case first =>
          go_region_held3 (fun w' => (∀ i, w'.cell? ⟨wb, i, none⟩ = (#[.int .i64 c.t, .int .i64 c.wd, .int .i64 c.s, .int .i64 c.g, .int .i64 c.r, .int .i64 c.cp, .int .i64 c.f, .slice ma ml mc, .slice ja jl jc, .slice (some ⟨g, 0, none⟩) cs.length cap, .int .i64 s0, .int .i64 s1, .int .i64 s2, .int .i64 s3, .int .i64 k0, .int .i64 k1, .int .i64 k2, .int .i64 k3] : Array Value)[i]?) ∧ w'.cell? ⟨g, ow, none⟩ = some (.int .i64 ((t : Int) + 1)) ∧ w'.cell? ⟨g, vw, none⟩ = some (.int .i64 (-1)))
            (first | exact HS2.out | exact HS1.out | exact HSy.out)
            (first
              | (go_at_call 39; refine (HKO.out _).mono ?_; rintro e w5 ⟨rfl, hb5⟩; have HB5 : Hid (Below wa.heap.size wa w5) := (HBy.out).trans ((Below.refl wc.heap.size wc).drew.trans hb5 |>.mono hszy); have HS1 : Hid ((∀ i, w5.cell? ⟨wb, i, none⟩ = (#[.int .i64 c.t, .int .i64 c.wd, .int .i64 c.s, .int .i64 c.g, .int .i64 c.r, .int .i64 c.cp, .int .i64 c.f, .slice ma ml mc, .slice ja jl jc, .slice (some ⟨g, 0, none⟩) cs.length cap, .int .i64 s0, .int .i64 s1, .int .i64 s2, .int .i64 s3, .int .i64 k0, .int .i64 k1, .int .i64 k2, .int .i64 k3] : Array Value)[i]?) ∧ w5.cell? ⟨g, ow, none⟩ = some (.int .i64 ((t : Int) + 1)) ∧ w5.cell? ⟨g, vw, none⟩ = some (.int .i64 (-1))) := HHG.out _ HB5.out; clear hb5)
              | (go_at_call 40; refine (HKV.out _).mono ?_; rintro e w6 ⟨rfl, hb6⟩; have HB6 : Hid (Below wa.heap.size wa w6) := (HB5.out).trans (hb6.mono (HB5.out).size); have HS2 : Hid ((∀ i, w6.cell? ⟨wb, i, none⟩ = (#[.int .i64 c.t, .int .i64 c.wd, .int .i64 c.s, .int .i64 c.g, .int .i64 c.r, .int .i64 c.cp, .int .i64 c.f, .slice ma ml mc, .slice ja jl jc, .slice (some ⟨g, 0, none⟩) cs.length cap, .int .i64 s0, .int .i64 s1, .int .i64 s2, .int .i64 s3, .int .i64 k0, .int .i64 k1, .int .i64 k2, .int .i64 k3] : Array Value)[i]?) ∧ w6.cell? ⟨g, ow, none⟩ = some (.int .i64 ((t : Int) + 1)) ∧ w6.cell? ⟨g, vw, none⟩ = some (.int .i64 (-1))) := HHG.out _ HB6.out; clear hb6))
          all_goals
            go_wp2
            go_meet
            case rel => exact ⟨by first | rfl | simp, HB6⟩
        case rest =>
          rename_i wc2 _
          obtain ⟨rfl, HBz⟩ := hcut
          have haz := ((HHS.out) _ HBz.out).2
          have HF : Hid (Below w.heap.size w wc) := (HB0.out).trans ((HBz.out).mono (HB0.out).size)
          clear HBz HBy
          go_wp2
          go_ret
          exact ⟨by simp, HF.out⟩
  · rw [if_neg p5] at hok
    have hn1 : cell ≠ 1 := by simpa using hok
    have b1 : (cell == 1) = false := by simp [hn1]
    have u1 : ¬ cell < 3 + c.s := by omega
    have u2 : ¬ cell < 3 + 2 * c.s := by omega
    have u3 : 3 ≤ cell := by omega
    have u4 : 3 + c.s ≤ cell := by omega
    clear nv no z3 hDV p3 p4 q3 hok p0 p2 hk0 hr0 hlen
    go_enter Tryz.func15, Tryz.ntmps15
    go_upto_region 1 with fail
    rw [← show wa = _ from HW0.out]
    clear HW0
    go_wp2_with fail
    go_cut [119] (fun t wx => t = .bool false ∧ Hid (Below wa.heap.size wa wx))
    case first =>
      have HS0 : Hid ((∀ i, wa.drew.cell? ⟨wb, i, none⟩ = (#[.int .i64 c.t, .int .i64 c.wd, .int .i64 c.s, .int .i64 c.g, .int .i64 c.r, .int .i64 c.cp, .int .i64 c.f, .slice ma ml mc, .slice ja jl jc, .slice (some ⟨g, 0, none⟩) cs.length cap, .int .i64 s0, .int .i64 s1, .int .i64 s2, .int .i64 s3, .int .i64 k0, .int .i64 k1, .int .i64 k2, .int .i64 k3] : Array Value)[i]?) ∧ (∀ i, wa.drew.cell? ⟨w.heap.size, i, none⟩ = (#[.int .i64 kind, .int .i64 cell, .int .i64 seen, .int .i64 put] : Array Value)[i]?)) := ⟨hwc, hac⟩
      clear hwc hac
      go_region_held3 (fun w' => (∀ i, w'.cell? ⟨wb, i, none⟩ = (#[.int .i64 c.t, .int .i64 c.wd, .int .i64 c.s, .int .i64 c.g, .int .i64 c.r, .int .i64 c.cp, .int .i64 c.f, .slice ma ml mc, .slice ja jl jc, .slice (some ⟨g, 0, none⟩) cs.length cap, .int .i64 s0, .int .i64 s1, .int .i64 s2, .int .i64 s3, .int .i64 k0, .int .i64 k1, .int .i64 k2, .int .i64 k3] : Array Value)[i]?) ∧ (∀ i, w'.cell? ⟨w.heap.size, i, none⟩ = (#[.int .i64 kind, .int .i64 cell, .int .i64 seen, .int .i64 put] : Array Value)[i]?))
        (first | exact HS1.out | exact HS0.out)
        (first | (go_at_call 36; refine (HKW.out _).mono ?_; rintro e w5 ⟨rfl, hb5⟩; have HB5 : Hid (Below wa.heap.size wa w5) := (Below.refl wa.heap.size wa).drew.trans hb5; have HS1 : Hid ((∀ i, w5.cell? ⟨wb, i, none⟩ = (#[.int .i64 c.t, .int .i64 c.wd, .int .i64 c.s, .int .i64 c.g, .int .i64 c.r, .int .i64 c.cp, .int .i64 c.f, .slice ma ml mc, .slice ja jl jc, .slice (some ⟨g, 0, none⟩) cs.length cap, .int .i64 s0, .int .i64 s1, .int .i64 s2, .int .i64 s3, .int .i64 k0, .int .i64 k1, .int .i64 k2, .int .i64 k3] : Array Value)[i]?) ∧ (∀ i, w5.cell? ⟨w.heap.size, i, none⟩ = (#[.int .i64 kind, .int .i64 cell, .int .i64 seen, .int .i64 put] : Array Value)[i]?)) := HHS.out _ HB5.out; clear hb5))
      all_goals
        go_wp2
        go_meet
        case rel => exact ⟨by rw [decide_eq_false (by omega)], HB5⟩
    case rest =>
      obtain ⟨rfl, HBx⟩ := hcut
      have hax := ((HHS.out) _ HBx.out).2
      have HF : Hid (Below w.heap.size w wc) := (HB0.out).trans ((HBx.out).mono (HB0.out).size)
      clear HBx hwc hac
      go_wp2
      go_ret
      exact ⟨by simp [hn1], HF.out⟩

end Go.Proofs.YtejadojilncbjaaGreat
