import Derived.Test.YtejadojilncbjaaH37
import Derived.Deep.RegionHeld3
namespace Go.Proofs.Ytejadojilncbjaa
open Go.RowKit
set_option linter.unusedVariables false
attribute [local go_sem ↓] Go.wp_at_zero Go.wp_at_succ

/-- The keepers' world, as it lies. -/
def wArr (c : Cfg) (ma : Option Addr) (ml mc : Nat) (ja : Option Addr) (jl jc g zl cap : Nat) (s0 s1 s2 s3 k0 k1 k2 k3 : Int) : Array Value :=
  #[.int .i64 c.t, .int .i64 c.wd, .int .i64 c.s, .int .i64 c.g, .int .i64 c.r, .int .i64 c.cp, .int .i64 c.f, .slice ma ml mc, .slice ja jl jc, .slice (some ⟨g, 0, none⟩) zl cap, .int .i64 s0, .int .i64 s1, .int .i64 s2, .int .i64 s3, .int .i64 k0, .int .i64 k1, .int .i64 k2, .int .i64 k3]

def mOf (cs : List Int) : Int → Int := fun x => cs.getD x.toNat 0
def four (s0 s1 s2 s3 : Int) : Int → Int := fun t => if t = 0 then s0 else if t = 1 then s1 else if t = 2 then s2 else s3

end Go.Proofs.Ytejadojilncbjaa

namespace Go.Proofs.Ytejadojilncbjaa
open Go.RowKit
set_option linter.unusedVariables false
attribute [local go_sem ↓] Go.wp_at_zero Go.wp_at_succ

theorem mOf_cells (c : Cfg) (mem : List Int) (jobs : List (Int × List InsD)) (ps : List PickD) (k : Nat) (x : Int) (h0 : 0 ≤ x) (h1 : x < total c) : mOf (cellsL c mem jobs ps k) x = (gAt c mem jobs ps k).m x := by
  unfold mOf
  rw [cellsL_get _ _ _ _ _ _ (by omega), show ((x.toNat : Nat) : Int) = x from by omega]

theorem four_set (s0 s1 s2 s3 v : Int) (t : Nat) (i : Nat) (hi : i < 4) (ht : t < 4) : four (if t = 0 then v else s0) (if t = 1 then v else s1) (if t = 2 then v else s2) (if t = 3 then v else s3) (i : Int) = if t = i then v else four s0 s1 s2 s3 (i : Int) := by
  have h1 : i = 0 ∨ i = 1 ∨ i = 2 ∨ i = 3 := by omega
  have h2 : t = 0 ∨ t = 1 ∨ t = 2 ∨ t = 3 := by omega
  rcases h1 with rfl | rfl | rfl | rfl <;> rcases h2 with rfl | rfl | rfl | rfl <;> rfl

end Go.Proofs.Ytejadojilncbjaa

namespace Go.Proofs.Ytejadojilncbjaa
open Go.RowKit
set_option linter.unusedVariables false
attribute [local go_sem ↓] Go.wp_at_zero Go.wp_at_succ

set_option maxHeartbeats 400000 in
theorem kstatus_any (c : Cfg) (hc : cfgB c = true) (n : Int) (a b : Option Addr) (l d m f : Nat) (w : World) (h3 : -70000 ≤ n) (h4 : n ≤ 1125899906842634) :
    Calls Try.prog 21 #[.agg #[.int .i64 c.t, .int .i64 c.wd, .int .i64 c.s, .int .i64 c.g, .int .i64 c.r, .int .i64 c.cp, .int .i64 c.f, .slice a l d, .slice b m f], .int .i64 n] w fun e w' =>
      e = .returned (.int .i64 (3 + 2 * c.s + n)) ∧ Below w.heap.size w w' := by
  obtain ⟨_, _, ⟨s1, s2⟩, _⟩ := cfgB_true hc
  have x1 : IntKind.i64.wrap (2 * c.s) = 2 * c.s := wrapF _ (by omega) (by omega)
  have x2 : IntKind.i64.wrap (3 + 2 * c.s) = 3 + 2 * c.s := wrapF _ (by omega) (by omega)
  have x4 : IntKind.i64.wrap (3 + 2 * c.s + n) = 3 + 2 * c.s + n := wrapF _ (by omega) (by omega)
  clear hc
  go_enter Try.func21, Try.ntmps21
  go_wp2
  go_ret
  exact ⟨by simp, (Below.refl _ _).alloc (Nat.le_refl _) _⟩

set_option maxRecDepth 100000 in
set_option maxHeartbeats 8000000 in
theorem ranked_any (c : Cfg) (hc : cfgB c = true) (ma ja : Option Addr) (ml mc jl jc g cap base wb : Nat) (cs : List Int) (s0 s1 s2 s3 k0 k1 k2 k3 : Int) (a : AccD) (t : Nat) (ht : t < 4) (htc : (t : Int) < c.t) (u : Int) (hu0 : -10 ≤ u) (hu1 : u ≤ 10) (w : World)
    (hw : Blk w wb 55 (wArr c ma ml mc ja jl jc g cs.length cap s0 s1 s2 s3 k0 k1 k2 k3)) (hr : CRow w base g cap cs) (hlen : (cs.length : Int) = total c) (hs0 : -1 ≤ a.seen) (hs1 : a.seen ≤ 1125899906842624) (hkb : ∀ i : Nat, i < 4 → 0 ≤ four k0 k1 k2 k3 (i : Int) ∧ four k0 k1 k2 k3 (i : Int) ≤ 1125899906842624) (hsv0 : 0 ≤ mOf cs (3 + 2 * c.s + (t : Int))) (hsv1 : mOf cs (3 + 2 * c.s + (t : Int)) ≤ 1125899906842624) (hok : rankedB c (mOf cs) (four k0 k1 k2 k3) (t : Int) u a = true) :
    Calls Try.prog 23 #[.pointer (some ⟨wb, 0, none⟩), .int .i64 (t : Int), .int .i64 u, .agg #[.int .i64 a.kind, .int .i64 a.cell, .int .i64 a.seen, .int .i64 a.put]] w fun e w' => e = .returned (.bool true) ∧ Below w.heap.size w w' := by
  obtain ⟨kind, cell, seen, put⟩ := a
  obtain ⟨⟨c1, c2⟩, ⟨w1, w2⟩, ⟨z1, z2⟩, _⟩ := cfgB_true hc
  simp only at hs0 hs1
  rw [total_eq] at hlen
  have HC : Hid (cfgB c = true) := hc
  obtain ⟨wa, hwa⟩ : ∃ wa, wa = w.alloc (.cells #[.int .i64 kind, .int .i64 cell, .int .i64 seen, .int .i64 put] 51) := ⟨_, rfl⟩
  have hB0 : Below w.heap.size w wa := by rw [hwa]; exact (Below.refl w.heap.size w).alloc (Nat.le_refl _) _
  have hAb : Blk wa w.heap.size 51 #[.int .i64 kind, .int .i64 cell, .int .i64 seen, .int .i64 put] := by rw [hwa]; exact Blk.new w 51 _
  have hr0 : CRow wa base g cap cs := hr.below hB0 (by have := hr.lt; omega)
  have hwb := hw.below hB0 hw.lt
  have hac := hAb.cell
  have htk : wa.cell? ⟨wb, 14 + t, none⟩ = some (.int .i64 (four k0 k1 k2 k3 (t : Int))) := by
    rw [hwb.cell]
    have h2 : t = 0 ∨ t = 1 ∨ t = 2 ∨ t = 3 := by omega
    rcases h2 with rfl | rfl | rfl | rfl <;> rfl
  have hkt := hkb t ht
  obtain ⟨sw, hsw⟩ : ∃ sw : Nat, 3 + 2 * c.s + (t : Int) = (sw : Int) := ⟨(3 + 2 * c.s + (t : Int)).toNat, by omega⟩
  obtain ⟨sv, hsv⟩ : ∃ sv, sv = mOf cs (3 + 2 * c.s + (t : Int)) := ⟨_, rfl⟩
  rw [← hsv] at hsv0 hsv1
  have hsc : wa.cell? ⟨g, sw, none⟩ = some (.int .i64 sv) := by
    rw [hr0.cell (by omega), hsv]
    unfold mOf
    rw [hsw, Int.toNat_natCast]
  obtain ⟨mi, hmi⟩ : ∃ mi, mi = four k0 k1 k2 k3 (t : Int) := ⟨_, rfl⟩
  rw [← hmi] at htk hkt
  have x1 : IntKind.i64.wrap (8 * mi) = 8 * mi := wrapF _ (by omega) (by omega)
  have x3 : (0 : Int) ≤ (t : Int) := by omega
  have x4 : (t : Int) < 4 := by omega
  have HW0 : Hid (wa = w.alloc (.cells #[.int .i64 kind, .int .i64 cell, .int .i64 seen, .int .i64 put] 51)) := hwa
  have HB0 : Hid (Below w.heap.size w wa) := hB0
  have hwbl := hwb.lt
  have hgl := hr0.lt.2
  have hwc : ∀ i, i < 10 → wa.cell? ⟨wb, i, none⟩ = (#[.int .i64 c.t, .int .i64 c.wd, .int .i64 c.s, .int .i64 c.g, .int .i64 c.r, .int .i64 c.cp, .int .i64 c.f, .slice ma ml mc, .slice ja jl jc, .slice (some ⟨g, 0, none⟩) cs.length cap, .int .i64 s0, .int .i64 s1, .int .i64 s2, .int .i64 s3, .int .i64 k0, .int .i64 k1, .int .i64 k2, .int .i64 k3] : Array Value)[i]? := fun i _ => hwb.cell i
  have HHS : Hid (∀ wx : World, Below wa.heap.size wa wx → ((∀ i, i < 10 → wx.cell? ⟨wb, i, none⟩ = (#[.int .i64 c.t, .int .i64 c.wd, .int .i64 c.s, .int .i64 c.g, .int .i64 c.r, .int .i64 c.cp, .int .i64 c.f, .slice ma ml mc, .slice ja jl jc, .slice (some ⟨g, 0, none⟩) cs.length cap, .int .i64 s0, .int .i64 s1, .int .i64 s2, .int .i64 s3, .int .i64 k0, .int .i64 k1, .int .i64 k2, .int .i64 k3] : Array Value)[i]?) ∧ wx.cell? ⟨g, sw, none⟩ = some (.int .i64 sv))) := fun wx hb => ⟨fun i hi => (World.cell?_of_block (hb.block wb hwbl)).trans (hwc i hi), (World.cell?_of_block (hb.block g hgl)).trans hsc⟩
  have HAX : Hid (∀ wx : World, Below wa.heap.size wa wx → ∀ i, wx.cell? ⟨w.heap.size, i, none⟩ = (#[.int .i64 kind, .int .i64 cell, .int .i64 seen, .int .i64 put] : Array Value)[i]?) := fun wx hb i => (World.cell?_of_block (hb.block w.heap.size (block_lt (hac 0)))).trans (hac i)
  unfold rankedB at hok
  simp only at hok
  rw [← hsv, ← hmi] at hok
  clear hw hr hB0 hAb hwa hc hwb hkb hr0 hsc hsv hmi
  by_cases h1 : kind = 1
  · subst h1
    clear hok hwc
    go_enter Try.func23, Try.ntmps23
    go_upto_region 1 with fail
    rw [← show wa = _ from HW0.out]
    clear HW0
    go_wp2
    go_ret
    exact ⟨by simp, HB0.out⟩
  rw [if_neg h1] at hok
  have b1 : (kind == 1) = false := by simp [h1]
  by_cases h2 : kind = 2
  · subst h2
    rw [if_pos rfl] at hok
    simp only [Bool.and_eq_true, Bool.or_eq_true, beq_iff_eq] at hok
    obtain ⟨e1, e2⟩ := hok
    subst e1
    clear hwc b1 h1
    rcases e2 with rfl | rfl
    · go_enter Try.func23, Try.ntmps23
      go_upto_region 1 with fail
      rw [← show wa = _ from HW0.out]
      clear HW0
      go_wp2
      go_ret
      exact ⟨by simp, HB0.out⟩
    · go_enter Try.func23, Try.ntmps23
      go_upto_region 1 with fail
      rw [← show wa = _ from HW0.out]
      clear HW0
      go_wp2
      all_goals
        go_ret
        exact ⟨by simp, HB0.out⟩
  rw [if_neg h2] at hok
  have b2 : (kind == 2) = false := by simp [h2]
  by_cases h3 : kind ≠ 3
  · rw [if_pos h3] at hok; cases hok
  rw [if_neg h3] at hok
  have h3' : kind = 3 := Decidable.byContradiction h3
  subst h3'
  clear h1 h2 b1 b2 h3
  by_cases h4 : put = seen
  · subst h4
    clear hok hwc
    go_enter Try.func23, Try.ntmps23
    go_upto_region 1 with fail
    rw [← show wa = _ from HW0.out]
    clear HW0
    go_wp2
    go_ret
    exact ⟨by simp, HB0.out⟩
  rw [if_neg h4] at hok
  have b4 : (put == seen) = false := by simp [h4]
  by_cases h5 : (t : Int) = u
  · rw [if_pos h5] at hok
    simp only [Bool.and_eq_true, beq_iff_eq] at hok
    obtain ⟨e1, e2⟩ := hok
    subst h5 e1 e2
    clear hwc h4
    go_enter Try.func23, Try.ntmps23
    go_upto_region 1 with fail
    rw [← show wa = _ from HW0.out]
    clear HW0
    go_wp2
    go_ret
    exact ⟨by simp, HB0.out⟩
  rw [if_neg h5] at hok
  have b5 : ((t : Int) == u) = false := by simp [h5]
  by_cases h6 : sv.tdiv 8 = 0 ∨ seen.tmod 8 ≠ 0 ∨ put ≠ seen + (t : Int) + 1
  · rw [if_pos h6] at hok; cases hok
  rw [if_neg h6] at hok
  have e1 : sv.tdiv 8 ≠ 0 := fun e => h6 (Or.inl e)
  have e2 : seen.tmod 8 = 0 := Decidable.byContradiction fun e => h6 (Or.inr (Or.inl e))
  have e3 : put = seen + (t : Int) + 1 := Decidable.byContradiction fun e => h6 (Or.inr (Or.inr e))
  have HKS : Hid (∀ wx, Calls Try.prog 21 #[.agg #[.int .i64 c.t, .int .i64 c.wd, .int .i64 c.s, .int .i64 c.g, .int .i64 c.r, .int .i64 c.cp, .int .i64 c.f, .slice ma ml mc, .slice ja jl jc], .int .i64 (t : Int)] wx fun e w' => e = .returned (.int .i64 (sw : Int)) ∧ Below wx.heap.size wx w') := fun wx => by
    have := kstatus_any c HC.out (t : Int) ma ja ml mc jl jc wx (by omega) (by omega)
    rw [hsw] at this
    exact this
  have y1 : (0 : Int) ≤ (sw : Int) := by omega
  have y2 : (sw : Int) < (cs.length : Int) := by omega
  have q1 : wrap64 (sv.tdiv 8) = sv.tdiv 8 := wrap64tdiv8 sv (by omega) hsv1
  have q2 : wrap64 (seen.tdiv 8) = seen.tdiv 8 := wrap64tdiv8 seen hs0 hs1
  have p1 : IntKind.i64.wrap (seen + (t : Int)) = seen + (t : Int) := wrapF _ (by omega) (by omega)
  have p2 : IntKind.i64.wrap (seen + (t : Int) + 1) = seen + (t : Int) + 1 := wrapF _ (by omega) (by omega)
  have p3 : seen.tmod 8 = 0 := e2
  have e1b : (sv.tdiv 8 == 0) = false := by simp [e1]
  obtain ⟨rv, hrv⟩ : ∃ rv, rv = sv.tdiv 8 := ⟨_, rfl⟩
  rw [← hrv] at hok
  rw [← hrv] at q1 e1b
  have HRV : Hid (rv = sv.tdiv 8) := hrv
  have hq1 : wrap64 (sv.tdiv 8) = rv := by rw [← hrv]; exact q1
  have hq1' : IntKind.i64.wrap (sv.tdiv 8) = rv := by rw [hrv]; have := tdiv8 sv (by omega) hsv1; exact wrapF _ (by omega) (by omega)
  subst e3
  clear h4 h5 h6 e1 e2 hlen hsw hrv q1
  go_enter Try.func23, Try.ntmps23
  go_upto_region 1 with fail
  rw [← show wa = _ from HW0.out]
  clear HW0
  go_upto_region 12 with fail
  go_cut [10] (fun t wx => t = .int .i64 rv ∧ Hid (Below wa.heap.size wa wx))
  case first =>
    have HS0 : Hid ((∀ i, i < 10 → wa.drew.cell? ⟨wb, i, none⟩ = (#[.int .i64 c.t, .int .i64 c.wd, .int .i64 c.s, .int .i64 c.g, .int .i64 c.r, .int .i64 c.cp, .int .i64 c.f, .slice ma ml mc, .slice ja jl jc, .slice (some ⟨g, 0, none⟩) cs.length cap, .int .i64 s0, .int .i64 s1, .int .i64 s2, .int .i64 s3, .int .i64 k0, .int .i64 k1, .int .i64 k2, .int .i64 k3] : Array Value)[i]?) ∧ wa.drew.cell? ⟨g, sw, none⟩ = some (.int .i64 sv)) := HHS.out _ (Below.refl wa.heap.size wa).drew
    clear hwc hac htk
    go_region_held3 (fun w' => (∀ i, i < 10 → w'.cell? ⟨wb, i, none⟩ = (#[.int .i64 c.t, .int .i64 c.wd, .int .i64 c.s, .int .i64 c.g, .int .i64 c.r, .int .i64 c.cp, .int .i64 c.f, .slice ma ml mc, .slice ja jl jc, .slice (some ⟨g, 0, none⟩) cs.length cap, .int .i64 s0, .int .i64 s1, .int .i64 s2, .int .i64 s3, .int .i64 k0, .int .i64 k1, .int .i64 k2, .int .i64 k3] : Array Value)[i]?) ∧ w'.cell? ⟨g, sw, none⟩ = some (.int .i64 sv))
      (first | exact HS1.out | exact HS0.out)
      (first | (go_at_call 21; refine (HKS.out _).mono ?_; rintro e w5 ⟨rfl, hb5⟩; have HB5 : Hid (Below wa.heap.size wa w5) := (Below.refl wa.heap.size wa).drew.trans hb5; have HS1 : Hid ((∀ i, i < 10 → w5.cell? ⟨wb, i, none⟩ = (#[.int .i64 c.t, .int .i64 c.wd, .int .i64 c.s, .int .i64 c.g, .int .i64 c.r, .int .i64 c.cp, .int .i64 c.f, .slice ma ml mc, .slice ja jl jc, .slice (some ⟨g, 0, none⟩) cs.length cap, .int .i64 s0, .int .i64 s1, .int .i64 s2, .int .i64 s3, .int .i64 k0, .int .i64 k1, .int .i64 k2, .int .i64 k3] : Array Value)[i]?) ∧ w5.cell? ⟨g, sw, none⟩ = some (.int .i64 sv)) := HHS.out _ HB5.out; clear hb5))
    all_goals
      go_wp2
      go_meet
      case rel => exact ⟨by first | rfl | exact congrArg (Value.int .i64) hq1', HB5⟩
  case rest =>
    obtain ⟨rfl, HBx⟩ := hcut
    have hax := HAX.out _ HBx.out
    have HF : Hid (Below w.heap.size w wc) := (HB0.out).trans ((HBx.out).mono (HB0.out).size)
    clear HBx hwc hac htk
    have HOK : Hid ((seen.tdiv 8 == 0 || decide (rv < seen.tdiv 8)) = true) := hok
    clear hok
    go_wp2
    all_goals
      go_ret
      exact ⟨by first | (rw [← HOK.out]; rfl) | simp, HF.out⟩

end Go.Proofs.Ytejadojilncbjaa
