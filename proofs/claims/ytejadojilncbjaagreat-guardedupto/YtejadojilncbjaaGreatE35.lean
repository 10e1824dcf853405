import Derived.Test.YtejadojilncbjaaGreatE34
namespace Go.Proofs.YtejadojilncbjaaGreat
open Go.RowKit
set_option linter.unusedVariables false
attribute [local go_sem ↓] Go.wp_at_zero Go.wp_at_succ

/-- All cells behind k picks. -/
def cellsL (c : Cfg) (mem : List Int) (jobs : List (Int × List InsD)) (ps : List PickD) (k : Nat) : List Int := (List.range (total c).toNat).map fun i : Nat => (gAt c mem jobs ps k).m (i : Int)

theorem cellsL_len (c : Cfg) (mem : List Int) (jobs : List (Int × List InsD)) (ps : List PickD) (k : Nat) : (cellsL c mem jobs ps k).length = (total c).toNat := by simp [cellsL]
theorem cellsL_get (c : Cfg) (mem : List Int) (jobs : List (Int × List InsD)) (ps : List PickD) (k n : Nat) (h : n < (total c).toNat) : (cellsL c mem jobs ps k).getD n 0 = (gAt c mem jobs ps k).m (n : Int) := by simp [cellsL, List.getD, h]

theorem cellsL_start {c : Cfg} {mem : List Int} {jobs : List (Int × List InsD)} (S : SetupOk c mem jobs) (ps : List PickD) : cells0 c mem = cellsL c mem jobs ps 0 := by
  obtain ⟨⟨t1, t2⟩, ⟨x1, x2⟩, ⟨s1, s2⟩, _⟩ := cfgB_true S.cfg
  have hmw := S.mw
  unfold cells0
  apply List.ext_getElem
  · rw [cellsL_len]
    simp only [List.length_append, List.length_replicate, total_eq]
    omega
  · intro i h1 h2
    rw [cellsL_len, total_eq] at h2
    have e2 : (cellsL c mem jobs ps 0)[i] = startVal c mem (i : Int) := by simp only [cellsL, List.getElem_map, List.getElem_range]; rfl
    rw [e2]
    unfold startVal wordBase
    by_cases hi : i < (3 + 2 * c.s + c.t).toNat
    · rw [List.getElem_append_left (by rw [List.length_replicate]; exact hi), if_neg (by omega)]
      simp
    · rw [List.getElem_append_right (by rw [List.length_replicate]; omega), if_pos (by omega)]
      simp only [List.length_replicate]
      have e : ((i : Int) - (3 + 2 * c.s + c.t)).toNat = i - (3 + 2 * c.s + c.t).toNat := by omega
      rw [e]
      have hl : i - (3 + 2 * c.s + c.t).toNat < mem.length := by omega
      simp [List.getD, List.getElem?_eq_getElem hl]

theorem ask_kinds {K : Cx} {h : Th} : (hOut K h).kind = 0 ∨ (hOut K h).kind = 1 ∨ (hOut K h).kind = 2 ∨ (hOut K h).kind = 3 ∨ (hOut K h).kind = 4 := by
  unfold hOut
  split <;> simp

theorem touch_step {c : Cfg} {mem : List Int} {jobs : List (Int × List InsD)} (S : SetupOk c mem jobs) (ps : List PickD) (k : Nat) (hk : k < ps.length) :
    TouchOk (cellsL c mem jobs ps k) (accAt (accs c mem jobs ps) k) ∧ touch (cellsL c mem jobs ps k) (accAt (accs c mem jobs ps) k) = cellsL c mem jobs ps (k + 1) ∧ -1 ≤ (accAt (accs c mem jobs ps) k).seen ∧ (accAt (accs c mem jobs ps) k).seen ≤ 8 * k + 65535 := by
  have G := gat_ok S.cfg S.mw S.mb jobs ps k
  have hsame : (gAt c mem jobs ps (k + 1)).m = (gAt c mem jobs ps k).m → accAt (accs c mem jobs ps) k = noAcc → TouchOk (cellsL c mem jobs ps k) (accAt (accs c mem jobs ps) k) ∧ touch (cellsL c mem jobs ps k) (accAt (accs c mem jobs ps) k) = cellsL c mem jobs ps (k + 1) ∧ -1 ≤ (accAt (accs c mem jobs ps) k).seen ∧ (accAt (accs c mem jobs ps) k).seen ≤ 8 * k + 65535 := fun e a => by
    rw [a]
    refine ⟨Or.inl ⟨rfl, rfl, rfl, rfl⟩, ?_, by simp [noAcc], by simp [noAcc]; omega⟩
    unfold touch
    rw [if_pos (show noAcc.kind = 0 from rfl)]
    unfold cellsL
    rw [e]
  have ha := accs_get c mem jobs ps k hk
  by_cases ht : 0 ≤ (pickAt ps k).thread ∧ (pickAt ps k).thread < c.t
  · rw [gstep_in ht] at ha
    have hm : (gAt c mem jobs ps (k + 1)).m = mNext (gAt c mem jobs ps k).m (hOut (cxOf c jobs (pickAt ps k).thread) ((gAt c mem jobs ps k).th (pickAt ps k).thread)) := by
      show (gStep c jobs (gAt c mem jobs ps k) _ (pickAt ps k)).1.m = _
      unfold gStep
      rw [if_pos ht]
      rfl
    by_cases h0 : (hOut (cxOf c jobs (pickAt ps k).thread) ((gAt c mem jobs ps k).th (pickAt ps k).thread)).kind = 0
    · exact hsame (by rw [hm]; unfold mNext; rw [if_pos h0]) (by rw [ha, acc_none h0])
    · have hcK : cfgB (cxOf c jobs (pickAt ps k).thread).c = true := S.cfg
      obtain ⟨hcell, _⟩ := ask_ok hcK ht (by omega) (G.th _ ht.1 ht.2) h0
      have hkd := ask_kinds (K := cxOf c jobs (pickAt ps k).thread) (h := (gAt c mem jobs ps k).th (pickAt ps k).thread)
      have h4 := take_ask (K := cxOf c jobs (pickAt ps k).thread) (h := (gAt c mem jobs ps k).th (pickAt ps k).thread)
      rw [ha, acc_some h0]
      have hcell' : 0 ≤ (hOut (cxOf c jobs (pickAt ps k).thread) ((gAt c mem jobs ps k).th (pickAt ps k).thread)).cell ∧ (hOut (cxOf c jobs (pickAt ps k).thread) ((gAt c mem jobs ps k).th (pickAt ps k).thread)).cell < total c := hcell
      have hbd := (G.m _ hcell'.1 hcell'.2).bd S.cfg (by omega) hcell'.1 hcell'.2
      generalize hOut (cxOf c jobs (pickAt ps k).thread) ((gAt c mem jobs ps k).th (pickAt ps k).thread) = q at *
      refine ⟨Or.inr ⟨⟨hcell'.1, by rw [cellsL_len]; show q.cell < _; omega⟩, ?_, ?_⟩, ?_, hbd.1, hbd.2⟩
      · show (cellsL c mem jobs ps k).getD q.cell.toNat 0 = _
        rw [cellsL_get _ _ _ _ _ _ (by omega), show ((q.cell.toNat : Nat) : Int) = q.cell from by omega]
      · show q.kind = 1 ∧ putV q _ = _ ∨ q.kind = 2 ∨ q.kind = 3 ∨ q.kind = 4 ∧ q.cell = 1 ∧ putV q _ = _
        rcases hkd with e | e | e | e | e
        · exact absurd e h0
        · left
          exact ⟨e, by simp [putV, e]⟩
        · exact Or.inr (Or.inl e)
        · exact Or.inr (Or.inr (Or.inl e))
        · have := h4 e
          refine Or.inr (Or.inr (Or.inr ⟨e, by rw [this], by simp [putV, e]⟩))
      · unfold touch
        rw [if_neg h0]
        apply List.ext_getElem
        · rw [List.length_set, cellsL_len, cellsL_len]
        · intro i h1 h2
          rw [cellsL_len] at h2
          have e2 : (cellsL c mem jobs ps (k + 1))[i]'(by rw [cellsL_len]; exact h2) = (gAt c mem jobs ps (k + 1)).m (i : Int) := by simp [cellsL]
          rw [e2, hm, List.getElem_set]
          have e3 : mNext (gAt c mem jobs ps k).m q = wr (gAt c mem jobs ps k).m q := by unfold mNext; rw [if_neg h0]
          rw [e3]
          by_cases hi : q.cell.toNat = i
          · rw [if_pos hi, show (i : Int) = q.cell from by omega, wr_at]
          · rw [if_neg hi, wr_off (by omega)]
            simp [cellsL]
  · have hm : (gAt c mem jobs ps (k + 1)).m = (gAt c mem jobs ps k).m := by
      show (gStep c jobs (gAt c mem jobs ps k) _ (pickAt ps k)).1.m = _
      unfold gStep
      rw [if_neg ht]
    refine hsame hm ?_
    rw [ha]
    unfold gStep
    rw [if_neg ht]

end Go.Proofs.YtejadojilncbjaaGreat

namespace Go.Proofs.YtejadojilncbjaaGreat
open Go.RowKit
set_option linter.unusedVariables false
attribute [local go_sem ↓] Go.wp_at_zero Go.wp_at_succ

set_option maxHeartbeats 1000000 in
theorem locked_any (a : AccD) (t : Int) (w : World) (t0 : -1000 ≤ t) (t1 : t ≤ 1000) :
    Calls Tryz.prog 37 #[.agg #[.int .i64 a.kind, .int .i64 a.cell, .int .i64 a.seen, .int .i64 a.put], .int .i64 t] w fun e w' => e = .returned (.bool (lockedB a t)) ∧ Below w.heap.size w w' := by
  obtain ⟨kind, cell, seen, put⟩ := a
  have hwt : IntKind.i64.wrap (t + 1) = t + 1 := wrapF _ (by omega) (by omega)
  have HB : Hid (∀ o, Below w.heap.size w (w.alloc o)) := fun o => (Below.refl w.heap.size w).alloc (Nat.le_refl _) _
  obtain ⟨V, HV⟩ : ∃ V, Hid (lockedB ⟨kind, cell, seen, put⟩ t = V) := ⟨_, rfl⟩
  rw [show lockedB ⟨kind, cell, seen, put⟩ t = V from HV.out]
  by_cases hk : kind = 2
  · have HV2 : Hid (V = (seen == t + 1 && put == 0)) := by show V = _; rw [← show lockedB ⟨kind, cell, seen, put⟩ t = V from HV.out]; unfold lockedB; rw [if_pos hk]
    subst hk
    clear HV
    by_cases h1 : seen = t + 1
    · have b1 : (seen == t + 1) = true := by simp [h1]
      have HV3 : Hid (V = (put == 0)) := by rw [HV2.out, b1]; exact Bool.true_and _
      clear h1 HV2
      go_enter Tryz.func37, Tryz.ntmps37
      go_wp2
      go_ret
      exact ⟨by rw [HV3.out]; rfl, HB.out _⟩
    · have b1 : (seen == t + 1) = false := by simp [h1]
      have HV3 : Hid (V = false) := by rw [HV2.out, b1]; exact Bool.false_and _
      clear h1 HV2
      go_enter Tryz.func37, Tryz.ntmps37
      go_wp2
      go_ret
      exact ⟨by rw [HV3.out]; rfl, HB.out _⟩
  · have bk : (kind == 2) = false := by simp [hk]
    by_cases hs : seen = 0
    · have HV2 : Hid (V = (put == t + 1)) := by show V = _; rw [← show lockedB ⟨kind, cell, seen, put⟩ t = V from HV.out]; unfold lockedB; rw [if_neg hk, if_pos hs]
      subst hs
      clear HV hk
      go_enter Tryz.func37, Tryz.ntmps37
      go_wp2
      go_ret
      exact ⟨by rw [HV2.out]; rfl, HB.out _⟩
    · have bs : (seen == 0) = false := by simp [hs]
      have HV2 : Hid (V = (put == seen && seen != t + 1)) := by show V = _; rw [← show lockedB ⟨kind, cell, seen, put⟩ t = V from HV.out]; unfold lockedB; rw [if_neg hk, if_neg hs]
      by_cases h1 : put = seen
      · have b1 : (put == seen) = true := by simp [h1]
        have HV3 : Hid (V = (seen != t + 1)) := by rw [HV2.out, b1]; exact Bool.true_and _
        clear h1 HV2 HV hk hs
        go_enter Tryz.func37, Tryz.ntmps37
        go_wp2
        go_ret
        exact ⟨by rw [HV3.out]; rfl, HB.out _⟩
      · have b1 : (put == seen) = false := by simp [h1]
        have HV3 : Hid (V = false) := by rw [HV2.out, b1]; exact Bool.false_and _
        clear h1 HV2 HV hk hs
        go_enter Tryz.func37, Tryz.ntmps37
        go_wp2
        go_ret
        exact ⟨by rw [HV3.out]; rfl, HB.out _⟩

set_option maxHeartbeats 400000 in
theorem kowner_any (c : Cfg) (hc : cfgB c = true) (n : Int) (a b : Option Addr) (l d m f : Nat) (w : World) (h3 : -70000 ≤ n) (h4 : n ≤ 1125899906842634) :
    Calls Tryz.prog 39 #[.agg #[.int .i64 c.t, .int .i64 c.wd, .int .i64 c.s, .int .i64 c.g, .int .i64 c.r, .int .i64 c.cp, .int .i64 c.f, .slice a l d, .slice b m f], .int .i64 n] w fun e w' =>
      e = .returned (.int .i64 (3 + c.s + n)) ∧ Below w.heap.size w w' := by
  obtain ⟨_, _, ⟨s1, s2⟩, _⟩ := cfgB_true hc
  have x2 : IntKind.i64.wrap (3 + c.s) = 3 + c.s := wrapF _ (by omega) (by omega)
  have x4 : IntKind.i64.wrap (3 + c.s + n) = 3 + c.s + n := wrapF _ (by omega) (by omega)
  clear hc
  go_enter Tryz.func39, Tryz.ntmps39
  go_wp2
  go_ret
  exact ⟨by simp, (Below.refl _ _).alloc (Nat.le_refl _) _⟩
set_option maxHeartbeats 400000 in
theorem kversion_any (c : Cfg) (n : Int) (a b : Option Addr) (l d m f : Nat) (w : World) (h3 : -70000 ≤ n) (h4 : n ≤ 1125899906842634) :
    Calls Tryz.prog 40 #[.agg #[.int .i64 c.t, .int .i64 c.wd, .int .i64 c.s, .int .i64 c.g, .int .i64 c.r, .int .i64 c.cp, .int .i64 c.f, .slice a l d, .slice b m f], .int .i64 n] w fun e w' =>
      e = .returned (.int .i64 (3 + n)) ∧ Below w.heap.size w w' := by
  have x4 : IntKind.i64.wrap (3 + n) = 3 + n := wrapF _ (by omega) (by omega)
  go_enter Tryz.func40, Tryz.ntmps40
  go_wp2
  go_ret
  exact ⟨by simp, (Below.refl _ _).alloc (Nat.le_refl _) _⟩

end Go.Proofs.YtejadojilncbjaaGreat

namespace Go.Proofs.YtejadojilncbjaaGreat
open Go.RowKit
set_option linter.unusedVariables false
attribute [local go_sem ↓] Go.wp_at_zero Go.wp_at_succ

/-- The keepers' world, as it lies. -/
def wArr (c : Cfg) (ma : Option Addr) (ml mc : Nat) (ja : Option Addr) (jl jc g zl cap : Nat) (s0 s1 s2 s3 k0 k1 k2 k3 : Int) : Array Value :=
  #[.int .i64 c.t, .int .i64 c.wd, .int .i64 c.s, .int .i64 c.g, .int .i64 c.r, .int .i64 c.cp, .int .i64 c.f, .slice ma ml mc, .slice ja jl jc, .slice (some ⟨g, 0, none⟩) zl cap, .int .i64 s0, .int .i64 s1, .int .i64 s2, .int .i64 s3, .int .i64 k0, .int .i64 k1, .int .i64 k2, .int .i64 k3]

def mOf (cs : List Int) : Int → Int := fun x => cs.getD x.toNat 0
def four (s0 s1 s2 s3 : Int) : Int → Int := fun t => if t = 0 then s0 else if t = 1 then s1 else if t = 2 then s2 else s3

set_option maxRecDepth 100000 in
set_option maxHeartbeats 4000000 in
theorem versioned_any (c : Cfg) (hc : cfgB c = true) (ma ja : Option Addr) (ml mc jl jc g cap base wb : Nat) (cs : List Int) (s0 s1 s2 s3 k0 k1 k2 k3 : Int) (a : AccD) (t : Nat) (ht : t < 4) (w : World)
    (hw : Blk w wb 37 (wArr c ma ml mc ja jl jc g cs.length cap s0 s1 s2 s3 k0 k1 k2 k3)) (hr : CRow w base g cap cs) (hn : cs.length ≤ 1000) (h2 : 2 < cs.length) (hl : 0 ≤ a.cell) (hh : a.cell + c.s < (cs.length : Int)) (hok : versionedB c (mOf cs) (four s0 s1 s2 s3) (t : Int) a = true) :
    Calls Tryz.prog 38 #[.pointer (some ⟨wb, 0, none⟩), .int .i64 (t : Int), .agg #[.int .i64 a.kind, .int .i64 a.cell, .int .i64 a.seen, .int .i64 a.put]] w fun e w' => e = .returned (.bool true) ∧ Below w.heap.size w w' := by
  obtain ⟨kind, cell, seen, put⟩ := a
  obtain ⟨_, _, ⟨z1, z2⟩, _⟩ := cfgB_true hc
  simp only at hl hh
  obtain ⟨n, rfl⟩ : ∃ n : Nat, cell = (n : Int) := ⟨cell.toNat, by omega⟩
  obtain ⟨sN, hsN⟩ : ∃ sN : Nat, c.s = (sN : Int) := ⟨c.s.toNat, by omega⟩
  unfold versionedB at hok
  simp only at hok
  by_cases hbad : kind ≠ 2 ∨ mOf cs ((n : Int) + c.s) ≠ (t : Int) + 1
  · rw [if_pos hbad] at hok; cases hok
  rw [if_neg hbad] at hok
  have hk : kind = 2 := Decidable.byContradiction fun e => hbad (Or.inl e)
  have ho : mOf cs ((n : Int) + c.s) = (t : Int) + 1 := Decidable.byContradiction fun e => hbad (Or.inr e)
  subst hk
  obtain ⟨w0, hw0⟩ : ∃ w0, w0 = w.alloc (.cells #[.int .i64 2, .int .i64 (n : Int), .int .i64 seen, .int .i64 put] 40) := ⟨_, rfl⟩
  have hB0 : Below w.heap.size w w0 := by rw [hw0]; exact (Below.refl w.heap.size w).alloc (Nat.le_refl _) _
  have hAb : Blk w0 w.heap.size 40 #[.int .i64 2, .int .i64 (n : Int), .int .i64 seen, .int .i64 put] := by rw [hw0]; exact Blk.new w 40 _
  have hr0 : CRow w0 base g cap cs := hr.below hB0 (by have := hr.lt; omega)
  have hwc := (hw.below hB0 hw.lt).cell
  have hac := hAb.cell
  have hns : (n : Int) + c.s = ((n + sN : Nat) : Int) := by omega
  have hoc : w0.cell? ⟨g, n + sN, none⟩ = some (.int .i64 ((t : Int) + 1)) := by
    rw [hr0.cell (by omega)]
    unfold mOf at ho
    rw [show ((n : Int) + c.s).toNat = n + sN from by omega] at ho
    rw [ho]
  have hgc : w0.cell? ⟨g, 2, none⟩ = some (.int .i64 (cs.getD 2 0)) := hr0.cell h2
  have x1 : IntKind.i64.wrap ((n : Int) + c.s) = ((n + sN : Nat) : Int) := by rw [hns]; exact wrapF _ (by omega) (by omega)
  have x2 : IntKind.i64.wrap ((t : Int) + 1) = (t : Int) + 1 := wrapF _ (by omega) (by omega)
  have x3 : (0 : Int) ≤ ((n + sN : Nat) : Int) := by omega
  have x4 : ((n + sN : Nat) : Int) < (cs.length : Int) := by omega
  have x5 : (2 : Int) < (cs.length : Int) := by omega
  have x6 : (0 : Int) ≤ (t : Int) := by omega
  have x7 : (t : Int) < 4 := by omega
  have HW0 : Hid (w0 = w.alloc (.cells #[.int .i64 2, .int .i64 (n : Int), .int .i64 seen, .int .i64 put] 40)) := hw0
  have HB0 : Hid (Below w.heap.size w w0) := hB0
  unfold wArr at hwc
  generalize hNS : n + sN = ns at *
  clear hw hr hB0 hAb hr0 hw0 hbad ho hns hsN hc hNS
  by_cases hp : put = -1
  · rw [if_pos hp] at hok
    simp only [Bool.and_eq_true, bne_iff_ne, ne_eq, beq_iff_eq] at hok
    have hg2 : cs.getD 2 0 = (t : Int) + 1 := hok.2
    rw [hg2] at hgc
    have bs : (seen == -1) = false := by simp [hok.1]
    have bs' : (seen != -1) = true := by simp [hok.1]
    subst hp
    clear hok hg2
    go_enter Tryz.func38, Tryz.ntmps38
    go_upto_region 1 with fail
    rw [← show w0 = _ from HW0.out]
    clear HW0
    go_wp2
    go_quiet (fail)
    go_wp2
    go_ret
    exact ⟨by simp, belowDrewN HB0.out _⟩
  · rw [if_neg hp] at hok
    simp only [Bool.and_eq_true, beq_iff_eq, decide_eq_true_eq] at hok
    obtain ⟨⟨h1, h3⟩, h4⟩ := hok
    have bp : (put == -1) = false := by simp [hp]
    have hst : w0.cell? ⟨wb, 10 + t, none⟩ = some (.int .i64 put) := by
      rw [hwc, h3]
      have : t = 0 ∨ t = 1 ∨ t = 2 ∨ t = 3 := by omega
      rcases this with rfl | rfl | rfl | rfl <;> rfl
    have hw2 : w0.cell? ⟨wb, 2, none⟩ = some (.int .i64 c.s) := hwc 2
    have hw9 : w0.cell? ⟨wb, 9, none⟩ = some (.slice (some ⟨g, 0, none⟩) cs.length cap) := hwc 9
    subst h1
    clear hp h3 hwc
    go_enter Tryz.func38, Tryz.ntmps38
    go_upto_region 1 with fail
    rw [← show w0 = _ from HW0.out]
    clear HW0
    go_wp2
    go_quiet (fail)
    go_wp2
    go_quiet (fail)
    go_wp2
    go_ret
    exact ⟨by simp, belowDrewN (belowDrewN HB0.out _) _⟩

end Go.Proofs.YtejadojilncbjaaGreat
