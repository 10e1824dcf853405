import Derived.Test.YtejadojilncbjaaGreatG35
import Derived.Test.YtejadojilncbjaaGreatG10
import Derived.Test.YtejadojilncbjaaGreatRows
import Derived.ShutString
import Derived.ChangeOld
import Derived.JoinedCond
import Derived.Laws.OwnMore
import Derived.Test.YtejadojilncbjaaGreatG13
import Derived.Test.YtejadojilncbjaaGreatG41
import Derived.Test.YtejadojilncbjaaGreatG28
import Derived.Test.YtejadojilncbjaaGreatG18
namespace Go.Proofs.YtejadojilncbjaaGreat
open Go.RowKit
set_option linter.unusedVariables false
attribute [local go_sem ↓] Go.wp_at_zero Go.wp_at_succ

/-- Has the thread a job? -/
def worksB (jobs : List (Int × List InsD)) (t : Int) : Bool := jobs.any fun j => j.1 == t

set_option maxRecDepth 100000 in
set_option maxHeartbeats 2000000 in
theorem works_any (c : Cfg) (mem : List Int) (jobs : List (Int × List InsD)) (t : Int) (ma ja : Option Addr) (ml mc jc : Nat) (w : World) (hjl : jobs.length ≤ 2 ^ 40) (hj : JobsRep w w.heap.size ja jobs) :
    Calls Tryz.prog 35 #[.agg #[.int .i64 c.t, .int .i64 c.wd, .int .i64 c.s, .int .i64 c.g, .int .i64 c.r, .int .i64 c.cp, .int .i64 c.f, .slice ma ml mc, .slice ja jobs.length jc], .int .i64 t] w fun e w' =>
      e = .returned (.bool (worksB jobs t)) ∧ Below w.heap.size w w' := by
  have hB0 : Below w.heap.size w (w.alloc (.cells #[.int .i64 c.t, .int .i64 c.wd, .int .i64 c.s, .int .i64 c.g, .int .i64 c.r, .int .i64 c.cp, .int .i64 c.f, .slice ma ml mc, .slice ja jobs.length jc] 27)) := (Below.refl w.heap.size w).alloc (Nat.le_refl _) _
  obtain ⟨w0, hw0⟩ : ∃ w0, w0 = w.alloc (.cells #[.int .i64 c.t, .int .i64 c.wd, .int .i64 c.s, .int .i64 c.g, .int .i64 c.r, .int .i64 c.cp, .int .i64 c.f, .slice ma ml mc, .slice ja jobs.length jc] 27) := ⟨_, rfl⟩
  have hSb : Blk w0 w.heap.size 27 #[.int .i64 c.t, .int .i64 c.wd, .int .i64 c.s, .int .i64 c.g, .int .i64 c.r, .int .i64 c.cp, .int .i64 c.f, .slice ma ml mc, .slice ja jobs.length jc] := by rw [hw0]; exact Blk.new w 27 _
  rw [← hw0] at hB0
  have HJ : Hid (JobsRep w0 w0.heap.size ja jobs) := hj.up2 hB0
  have HB0 : Hid (Below w.heap.size w w0) := hB0
  have HSb : Hid (Blk w0 w.heap.size 27 #[.int .i64 c.t, .int .i64 c.wd, .int .i64 c.s, .int .i64 c.g, .int .i64 c.r, .int .i64 c.cp, .int .i64 c.f, .slice ma ml mc, .slice ja jobs.length jc]) := hSb
  have HW0 : Hid (w0 = w.alloc (.cells #[.int .i64 c.t, .int .i64 c.wd, .int .i64 c.s, .int .i64 c.g, .int .i64 c.r, .int .i64 c.cp, .int .i64 c.f, .slice ma ml mc, .slice ja jobs.length jc] 27)) := hw0
  obtain ⟨V, HV⟩ : ∃ V, Hid (worksB jobs t = V) := ⟨_, rfl⟩
  rw [show worksB jobs t = V from HV.out]
  have hsc := hSb.cell
  clear hj hB0 hSb hw0
  go_enter Tryz.func35, Tryz.ntmps35
  go_wp2_with fail
  rw [← show w0 = _ from HW0.out]
  clear HW0
  go_loopg [5] (jobs.length + 1) (fun m t5 wr => ∃ k : Nat, t5 = .int .i64 (k : Int) ∧ k ≤ jobs.length ∧ m = jobs.length + 1 - k ∧ wr = w0 ∧ Hid (∀ i, i < k → ((jobs.getD i (0, [])).1 == t) = false))
  case atStart => exact ⟨0, rfl, by omega, by omega, rfl, fun i hi => absurd hi (Nat.not_lt_zero _)⟩
  case round =>
    obtain ⟨k, rfl, hk, hgk, rfl, HN⟩ := hrel
    by_cases hkl : k < jobs.length
    · obtain ⟨js, h1, h2, h3⟩ := HJ.out
      obtain ⟨b, off, hja, hbl, hc0, hc1⟩ := h2 k (by omega)
      have ht := (h3 k (by omega)).1
      rw [ht] at hc0
      have hk0 : (0 : Int) ≤ (k : Int) := by omega
      have hk1 : (k : Int) < (jobs.length : Int) := by omega
      have hwk : IntKind.i64.wrap ((k : Int) + 1) = (k : Int) + 1 := wrapF _ (by omega) (by omega)
      subst hja
      clear h1 h2 h3 hc1 ht
      by_cases he : (jobs.getD k (0, [])).1 = t
      · have hbe : ((jobs.getD k (0, [])).1 == t) = true := by rw [beq_iff_eq]; exact he
        have HV1 : Hid (V = true) := by
          show V = true
          rw [← show worksB jobs t = V from HV.out]
          unfold worksB
          rw [List.any_eq_true]
          refine ⟨jobs.getD k (0, []), ?_, hbe⟩
          rw [show jobs.getD k (0, []) = jobs[k] from by simp [List.getD, List.getElem?_eq_getElem hkl]]
          exact List.getElem_mem hkl
        generalize (jobs.getD k (0, [])).1 = z at *
        clear HN HV he
        go_wp2
        go_ret
        exact ⟨by rw [HV1.out]; rfl, HB0.out⟩
      · have hbe : ((jobs.getD k (0, [])).1 == t) = false := by rw [beq_eq_false_iff_ne]; exact he
        have HN2 : Hid (∀ i, i < k + 1 → ((jobs.getD i (0, [])).1 == t) = false) := fun i hi => by
          by_cases e : i = k
          · rw [e]; exact hbe
          · exact HN.out i (by omega)
        generalize (jobs.getD k (0, [])).1 = z at *
        clear HN HV he
        go_wp2
        go_roundg (gk - 1)
        case rel => exact ⟨k + 1, by simp, by omega, by omega, rfl, HN2⟩
        case measure => omega
    · have hke : k = jobs.length := by omega
      have hk1 : ¬ (k : Int) < (jobs.length : Int) := by omega
      have HV0 : Hid (V = false) := by
        show V = false
        rw [← show worksB jobs t = V from HV.out]
        unfold worksB
        rw [List.any_eq_false]
        intro x hx
        obtain ⟨i, hi, rfl⟩ := List.mem_iff_getElem.1 hx
        have := HN.out i (by omega)
        rw [show jobs.getD i (0, []) = jobs[i] from by simp [List.getD, List.getElem?_eq_getElem hi]] at this
        simpa using this
      clear HN HV hke
      go_wp2
      go_ret
      exact ⟨by rw [HV0.out]; rfl, HB0.out⟩

/-- How a call has answered. -/
def answeredN (want e : Int) (empty : Bool) : Int := if e ≠ want then 0 else if e = 0 then 2 else if empty then 1 else 0

set_option maxRecDepth 100000 in
set_option maxHeartbeats 2000000 in
theorem answered_any (c : Cfg) (mem : List Int) (jobs : List (Int × List InsD)) (er : Int) (em : Bool) (ma ja : Option Addr) (mc jc : Nat) (w : World) (hml : mem.length ≤ maxLen) (hjl : jobs.length ≤ maxLen) (hm : Ints w w.heap.size ma mem) (hj : JobsRep w w.heap.size ja jobs) :
    Calls Tryz.prog 34 #[.agg #[.int .i64 c.t, .int .i64 c.wd, .int .i64 c.s, .int .i64 c.g, .int .i64 c.r, .int .i64 c.cp, .int .i64 c.f, .slice ma mem.length mc, .slice ja jobs.length jc], .int .i64 er, .bool em] w fun e w' =>
      e = .returned (.int .i64 (answeredN (errS c mem jobs) er em)) ∧ Below w.heap.size w w' := by
  have hB0 : Below w.heap.size w (w.alloc (.cells #[.int .i64 c.t, .int .i64 c.wd, .int .i64 c.s, .int .i64 c.g, .int .i64 c.r, .int .i64 c.cp, .int .i64 c.f, .slice ma mem.length mc, .slice ja jobs.length jc] 27)) := (Below.refl w.heap.size w).alloc (Nat.le_refl _) _
  have HC : Hid _ := refCheck_rep c mem jobs ma ja mc jc _ hml hjl (hm.up hB0) (hj.up2 hB0)
  have HB0 : Hid (Below w.heap.size w (w.alloc (.cells #[.int .i64 c.t, .int .i64 c.wd, .int .i64 c.s, .int .i64 c.g, .int .i64 c.r, .int .i64 c.cp, .int .i64 c.f, .slice ma mem.length mc, .slice ja jobs.length jc] 27))) := hB0
  obtain ⟨N, HNN⟩ : ∃ N, Hid (answeredN (errS c mem jobs) er em = N) := ⟨_, rfl⟩
  rw [show answeredN (errS c mem jobs) er em = N from HNN.out]
  clear hm hj hB0
  go_enter Tryz.func34, Tryz.ntmps34
  go_wp2_with fail
  refine Calls.mono HC.out ?_
  rintro e w1 ⟨rfl, hb1⟩
  have HB1 : Hid (Below w.heap.size w w1) := (HB0.out).trans (hb1.mono (HB0.out).size)
  clear hb1 HC HB0
  generalize errS c mem jobs = W at *
  by_cases h1 : er = W
  · have b1 : (er == W) = true := by simp [h1]
    have b1' : (er != W) = false := by simp [h1]
    by_cases h2 : er = 0
    · have b2 : (er == 0) = true := by simp [h2]
      have HA : Hid (N = 2) := by show N = 2; rw [← show answeredN W er em = N from HNN.out]; unfold answeredN; rw [if_neg (by simp [h1]), if_pos h2]
      clear h1 h2 HNN
      go_wp2
      go_ret
      exact ⟨by rw [HA.out]; rfl, HB1.out⟩
    · have b2 : (er == 0) = false := by simp [h2]
      cases em with
      | true =>
        have HA : Hid (N = 1) := by show N = 1; rw [← show answeredN W er true = N from HNN.out]; unfold answeredN; rw [if_neg (by simp [h1]), if_neg h2, if_pos rfl]
        clear h1 h2 HNN
        go_wp2
        go_ret
        exact ⟨by rw [HA.out]; rfl, HB1.out⟩
      | false =>
        have HA : Hid (N = 0) := by show N = 0; rw [← show answeredN W er false = N from HNN.out]; unfold answeredN; rw [if_neg (by simp [h1]), if_neg h2, if_neg (by simp)]
        clear h1 h2 HNN
        go_wp2
        go_ret
        exact ⟨by rw [HA.out]; rfl, HB1.out⟩
  · have b1 : (er == W) = false := by simp [h1]
    have b1' : (er != W) = true := by simp [h1]
    have HA : Hid (N = 0) := by show N = 0; rw [← show answeredN W er em = N from HNN.out]; unfold answeredN; rw [if_pos h1]
    clear h1 HNN
    go_wp2
    go_ret
    exact ⟨by rw [HA.out]; rfl, HB1.out⟩

end Go.Proofs.YtejadojilncbjaaGreat

namespace Go.Proofs.YtejadojilncbjaaGreat
open Go.ChangeShapes Go.WideShapes Go.ChangeAt Go.RowKit Go.Deep
set_option linter.unusedVariables false
attribute [local go_sem ↓] Go.wp_at_zero Go.wp_at_succ

/-- Cells in a row of the call's own. -/
def CRow (w : World) (base g cap : Nat) (cs : List Int) : Prop := w.ownsRow base 3 1 (.slice (some ⟨g, 0, none⟩) cs.length cap) cs.length (cs.map (Value.int .i64 ·))

theorem CRow.cell {w : World} {base g cap : Nat} {cs : List Int} (h : CRow w base g cap cs) {i : Nat} (hi : i < cs.length) : w.cell? ⟨g, i, none⟩ = some (.int .i64 (cs.getD i 0)) := by
  rw [World.ownsRow.cellAt h i (by omega)]
  simp [List.getElem?_map, List.getD, List.getElem?_eq_getElem hi]
theorem CRow.frozen {w : World} {base g cap : Nat} {cs : List Int} (h : CRow w base g cap cs) (i : Nat) : w.frozen? ⟨g, i, none⟩ = false := World.ownsRow.frozenAt h i
theorem CRow.lt {w : World} {base g cap : Nat} {cs : List Int} (h : CRow w base g cap cs) : base ≤ g ∧ g < w.heap.size := World.ownsRow.lt h g rfl
theorem CRow.set {w : World} {base g cap : Nat} {cs : List Int} (h : CRow w base g cap cs) (i : Nat) (v : Int) : CRow (w.setCell ⟨g, i, none⟩ (.int .i64 v)) base g cap (cs.set i v) := by
  have := (World.ownsRow.stored h i (.int .i64 v)).1
  unfold CRow
  rw [List.length_set, List.map_set]
  exact this
theorem CRow.below {w w' : World} {base g cap : Nat} {cs : List Int} (h : CRow w base g cap cs) (hb : Below w.heap.size w w') (hB : base ≤ w.heap.size) : CRow w' base g cap cs := ownsRow_keep h (Kp.below (chg := []) (p := base) (eb := base) hb hB) (by simp)
theorem CRow.ints {w : World} {base g cap : Nat} {cs : List Int} (h : CRow w base g cap cs) : Ints w w.heap.size (some ⟨g, 0, none⟩) cs := fun i hi => ⟨g, 0, rfl, h.lt.2, by have := h.cell hi; simpa using this⟩

set_option maxHeartbeats 400000 in
theorem kword_any (c : Cfg) (hc : cfgB c = true) (n : Int) (a b : Option Addr) (l d m f : Nat) (w : World) (h3 : -70000 ≤ n) (h4 : n ≤ 1125899906842634) :
    Calls Tryz.prog 36 #[.agg #[.int .i64 c.t, .int .i64 c.wd, .int .i64 c.s, .int .i64 c.g, .int .i64 c.r, .int .i64 c.cp, .int .i64 c.f, .slice a l d, .slice b m f], .int .i64 n] w fun e w' =>
      e = .returned (.int .i64 (3 + 2 * c.s + c.t + n)) ∧ Below w.heap.size w w' := by
  obtain ⟨⟨t1, t2⟩, _, ⟨s1, s2⟩, _⟩ := cfgB_true hc
  have x1 : IntKind.i64.wrap (2 * c.s) = 2 * c.s := wrapF _ (by omega) (by omega)
  have x2 : IntKind.i64.wrap (3 + 2 * c.s) = 3 + 2 * c.s := wrapF _ (by omega) (by omega)
  have x3 : IntKind.i64.wrap (3 + 2 * c.s + c.t) = 3 + 2 * c.s + c.t := wrapF _ (by omega) (by omega)
  have x4 : IntKind.i64.wrap (3 + 2 * c.s + c.t + n) = 3 + 2 * c.s + c.t + n := wrapF _ (by omega) (by omega)
  clear hc
  go_enter Tryz.func36, Tryz.ntmps36
  go_wp2
  go_ret
  exact ⟨by simp, (Below.refl _ _).alloc (Nat.le_refl _) _⟩

end Go.Proofs.YtejadojilncbjaaGreat

namespace Go.Proofs.YtejadojilncbjaaGreat
open Go.RowKit
set_option linter.unusedVariables false
attribute [local go_sem ↓] Go.wp_at_zero Go.wp_at_succ

/-- What an access leaves in the cells. -/
def touch (cs : List Int) (a : AccD) : List Int := if a.kind = 0 then cs else cs.set a.cell.toNat a.put
end Go.Proofs.YtejadojilncbjaaGreat

namespace Go.Proofs.YtejadojilncbjaaGreat
set_option linter.unusedVariables false

/-! Ranks: what a machine shows, and who may mark whom. -/

def Loc2 (K : Cx) (h : Th) : Prop := match h.st with
  | .tTake => h.rank = 0
  | .fTake => h.rank = 0
  | .tShow => h.rank ≠ 0
  | .gTheir _ _ u => h.rank ≠ 0 ∧ u ≠ K.me + 1
  | .gMark _ _ u th => (h.rank ≠ 0 ∧ u ≠ K.me + 1) ∧ (th / 8 = 0 ∨ h.rank ≤ th / 8)
  | _ => True

structure RC (K : Cx) (r : Int) (h' : Th) : Prop where
  rank : h'.rank = r
  loc : Loc2 K h'

def RD (K : Cx) (h : Th) (t : Bool × Th) : Prop := (t.1 = true → t.2.rank = h.rank) ∧ (t.1 = false → RC K h.rank t.2)
theorem RD.off {K : Cx} {h h' : Th} (A : RC K h.rank h') : RD K h (false, h') := ⟨(fun e => nomatch e), fun _ => A⟩
theorem RD.on {K : Cx} {h h' : Th} (A : h'.rank = h.rank) : RD K h (true, h') := ⟨fun _ => A, (fun e => nomatch e)⟩

end Go.Proofs.YtejadojilncbjaaGreat

namespace Go.Proofs.YtejadojilncbjaaGreat
open Go.RowKit
set_option linter.unusedVariables false
attribute [local go_sem ↓] Go.wp_at_zero Go.wp_at_succ

/-! Who has no job makes no access; the first access of who has one is its first attempt's. -/

theorem seek_none {me : Int} : ∀ (l : List (Int × List InsD)) (j : Nat), (∀ b ∈ l, b.1 ≠ me) → seek me j l = none
  | [], j, _ => rfl
  | b :: r, j, h => by
    unfold seek
    rw [if_neg (h b List.mem_cons_self)]
    exact seek_none r (j + 1) (fun q hq => h q (List.mem_cons_of_mem _ hq))
theorem seek_some {me : Int} : ∀ (l : List (Int × List InsD)) (j : Nat), (∃ b ∈ l, b.1 = me) → ∃ k, seek me j l = some k
  | [], j, h => by obtain ⟨b, hb, _⟩ := h; simp at hb
  | b :: r, j, h => by
    unfold seek
    by_cases e : b.1 = me
    · rw [if_pos e]; exact ⟨j, rfl⟩
    · rw [if_neg e]
      obtain ⟨q, hq, hm⟩ := h
      rcases List.mem_cons.1 hq with x | x
      · rw [x] at hm; exact absurd hm e
      · exact seek_some r (j + 1) ⟨q, x, hm⟩
theorem works_false {jobs : List (Int × List InsD)} {t : Int} (h : worksB jobs t = false) : ∀ b ∈ jobs, b.1 ≠ t := by
  unfold worksB at h
  rw [List.any_eq_false] at h
  intro b hb e
  have := h b hb
  simp [e] at this
theorem works_true {jobs : List (Int × List InsD)} {t : Int} (h : worksB jobs t = true) : ∃ b ∈ jobs, b.1 = t := by
  unfold worksB at h
  rw [List.any_eq_true] at h
  obtain ⟨b, hb, e⟩ := h
  exact ⟨b, hb, by simpa using e⟩

theorem idle_at (c : Cfg) (mem : List Int) (jobs : List (Int × List InsD)) (ps : List PickD) (t : Int) (h : worksB jobs t = false) : ∀ k, ((gAt c mem jobs ps k).th t).st = .idle
  | 0 => by
    show (hInit (cxOf c jobs t)).st = .idle
    unfold hInit hTo
    rw [show seek (cxOf c jobs t).me 0 ((cxOf c jobs t).jobs.drop 0) = none from seek_none _ _ (works_false h)]
  | k + 1 => by
    have ih := idle_at c mem jobs ps t h k
    show ((gStep c jobs (gAt c mem jobs ps k) _ (pickAt ps k)).1.th t).st = .idle
    unfold gStep
    split
    · simp only
      split
      · rename_i e
        rw [← e]
        have : hNext (cxOf c jobs t) ((gAt c mem jobs ps k).th t) ⟨(gAcc c jobs (gAt c mem jobs ps k) t).seen, (pickAt ps k).draw, (k : Int) + 1⟩ = (gAt c mem jobs ps k).th t := by
          unfold hNext
          rw [ih]
        rw [this]
        exact ih
      · exact ih
    · exact ih

theorem acc_idle {c : Cfg} {mem : List Int} {jobs : List (Int × List InsD)} {ps : List PickD} {k : Nat} (hk : k < ps.length) (h : worksB jobs (pickAt ps k).thread = false) : accAt (accs c mem jobs ps) k = noAcc := by
  rw [accs_get c mem jobs ps k hk]
  by_cases ht : 0 ≤ (pickAt ps k).thread ∧ (pickAt ps k).thread < c.t
  · rw [gstep_in ht]
    refine acc_none ?_
    unfold hOut
    rw [idle_at c mem jobs ps _ h k]
  · unfold gStep
    rw [if_neg ht]

theorem acc_first {c : Cfg} {mem : List Int} {jobs : List (Int × List InsD)} {ps : List PickD} {k : Nat} (hk : k < ps.length) (ht : 0 ≤ (pickAt ps k).thread ∧ (pickAt ps k).thread < c.t) (h : worksB jobs (pickAt ps k).thread = true) (hi : (gAt c mem jobs ps k).th (pickAt ps k).thread = hInit (cxOf c jobs (pickAt ps k).thread)) :
    (accAt (accs c mem jobs ps) k).kind = 1 ∧ (accAt (accs c mem jobs ps) k).cell = 0 := by
  rw [accs_get c mem jobs ps k hk, gstep_in ht, hi]
  have hs : (hInit (cxOf c jobs (pickAt ps k).thread)).st = .start := by
    unfold hInit hTo
    obtain ⟨j, hj⟩ := seek_some (me := (pickAt ps k).thread) jobs 0 (works_true h)
    rw [show seek (cxOf c jobs (pickAt ps k).thread).me 0 ((cxOf c jobs (pickAt ps k).thread).jobs.drop 0) = some j from hj]
  have hq : hOut (cxOf c jobs (pickAt ps k).thread) (hInit (cxOf c jobs (pickAt ps k).thread)) = ⟨1, 0, 0, 0⟩ := by
    unfold hOut
    rw [hs]
  rw [hq]
  exact ⟨rfl, rfl⟩

/-- Whose mark is not set has not been picked. -/
def MetOk (c : Cfg) (mem : List Int) (jobs : List (Int × List InsD)) (ps : List PickD) (k : Nat) (mt : List Bool) : Prop :=
  mt.length = 4 ∧ ∀ i : Nat, i < 4 → mt.getD i false = false → worksB jobs (i : Int) = true → (gAt c mem jobs ps k).th (i : Int) = hInit (cxOf c jobs (i : Int))

theorem met_start (c : Cfg) (mem : List Int) (jobs : List (Int × List InsD)) (ps : List PickD) : MetOk c mem jobs ps 0 [false, false, false, false] := ⟨rfl, fun i hi _ _ => rfl⟩
theorem th_other {c : Cfg} {mem : List Int} {jobs : List (Int × List InsD)} {ps : List PickD} {k : Nat} {t : Int} (h : (pickAt ps k).thread ≠ t) : (gAt c mem jobs ps (k + 1)).th t = (gAt c mem jobs ps k).th t := by
  show (gStep c jobs (gAt c mem jobs ps k) _ (pickAt ps k)).1.th t = _
  unfold gStep
  split
  · simp only
    rw [if_neg (fun e => h e.symm)]
  · rfl
theorem met_skip {c : Cfg} {mem : List Int} {jobs : List (Int × List InsD)} {ps : List PickD} {k : Nat} {mt : List Bool} (h : MetOk c mem jobs ps k mt) (hn : ∀ i : Nat, i < 4 → mt.getD i false = false → worksB jobs (i : Int) = true → (pickAt ps k).thread ≠ (i : Int)) : MetOk c mem jobs ps (k + 1) mt :=
  ⟨h.1, fun i hi hf hw => (th_other (hn i hi hf hw)).trans (h.2 i hi hf hw)⟩
theorem met_set {c : Cfg} {mem : List Int} {jobs : List (Int × List InsD)} {ps : List PickD} {k n : Nat} {mt : List Bool} (h : MetOk c mem jobs ps k mt) (hn : n < 4) (ht : (pickAt ps k).thread = (n : Int)) : MetOk c mem jobs ps (k + 1) (mt.set n true) := by
  refine ⟨by rw [List.length_set]; exact h.1, fun i hi hf hw => ?_⟩
  by_cases e : i = n
  · exfalso
    rw [e] at hf
    simp [List.getD, h.1, hn] at hf
  · have : (mt.set n true).getD i false = mt.getD i false := by simp [List.getD, show n ≠ i from fun x => e x.symm]
    rw [this] at hf
    exact (th_other (by rw [ht]; omega)).trans (h.2 i hi hf hw)

end Go.Proofs.YtejadojilncbjaaGreat

namespace Go.Proofs.YtejadojilncbjaaGreat
open Go.RowKit
set_option linter.unusedVariables false

/-! Where the attempts lie, by the accesses: pure. -/

theorem acc_of {R : Rn} {k : Nat} (hk : k < R.ps.length) {t : Int} (ht : (R.pk k).thread = t) (t0 : 0 ≤ t) (t1 : t < R.c.t) : accAt (accs R.c R.mem R.jobs R.ps) k = accBy (R.g k).m (R.out k t) := by
  subst ht
  rw [accs_get R.c R.mem R.jobs R.ps k hk]
  exact gstep_in ⟨t0, t1⟩

/-- What framed asks of an attempt. -/
structure FrmOk (c : Cfg) (jobs : List (Int × List InsD)) (ps : List PickD) (L : List AccD) (x : AttD) : Prop where
  st : 1 ≤ x.start ∧ x.start ≤ (ps.length : Int)
  jb : ∃ j : Nat, x.job = (j : Int) ∧ j < jobs.length ∧ (jobs.getD j (0, [])).1 = x.thread
  th : 0 ≤ x.thread ∧ x.thread < c.t
  pk : (pickAt ps (x.start - 1).toNat).thread = x.thread
  ac : (accAt L (x.start - 1).toNat).kind = 1 ∧ (accAt L (x.start - 1).toNat).cell = 0 ∧ (accAt L (x.start - 1).toNat).seen ≤ x.valid
  sp : x.stamp ≠ 0 → x.valid < x.stamp
  en : (x.fin = 0 ∧ x.fate = 0) ∨ (x.start < x.fin ∧ x.fin ≤ (ps.length : Int) ∧ 1 ≤ x.fate ∧ x.fate ≤ 5 ∧ (pickAt ps (x.fin - 1).toNat).thread = x.thread ∧ (accAt L (x.fin - 1).toNat).kind = 2 ∧ (accAt L (x.fin - 1).toNat).cell = 3 + 2 * c.s + x.thread)

theorem framed_at {R : Rn} (O : R.Ok) {x : AttD} (hx : x ∈ R.hist) : FrmOk R.c R.jobs R.ps (accs R.c R.mem R.jobs R.ps) x := by
  obtain ⟨t, t0, t1, hx'⟩ := (hist_mem O).1 hx
  have A := att_t O R.ps.length t t0 t1 hx'
  have K := hist_ok O hx
  have e : x.thread = t := A.thr
  have s1 := A.s1
  have s2 := A.s2
  have h1 := acc_of (R := R) (k := (x.start - 1).toNat) (by omega) A.pk t0 t1
  refine ⟨⟨s1, s2⟩, ?_, by rw [e]; exact ⟨t0, t1⟩, by rw [e]; exact A.pk, ?_, fun h => ?_, ?_⟩
  · obtain ⟨j, a, b, d⟩ := A.jb
    exact ⟨j, a, b, d.trans e.symm⟩
  · rw [h1, A.ac]
    exact ⟨rfl, rfl, A.vl⟩
  · rcases K.snd with ⟨q, _⟩ | ⟨q, _⟩
    · exact absurd q h
    · exact q
  · rcases A.en with q | ⟨q1, q2, q3, q4, q5, q6, _⟩
    · exact Or.inl q
    · refine Or.inr ⟨q1, q2, q3.1, q3.2, by rw [e]; exact q4, ?_⟩
      have h2 := acc_of (R := R) (k := (x.fin - 1).toNat) (by omega) q4 t0 t1
      rw [h2]
      unfold accBy
      rw [if_neg (by omega)]
      refine ⟨q5, ?_⟩
      show (R.out (x.fin - 1).toNat t).cell = _
      rw [q6, e]
      rfl

/-- Each stamp once. -/
def cntS (v : Int) (l : List AttD) : Nat := l.countP fun a => decide (a.stamp = v)
theorem cnt_one {p : AttD → Bool} : ∀ (l : List AttD), (l.Pairwise fun a b => a.start < b.start) → (∀ a ∈ l, ∀ b ∈ l, p a = true → p b = true → a.start = b.start) → (∃ a ∈ l, p a = true) → l.countP p = 1
  | [], _, _, ⟨a, ha, _⟩ => by cases ha
  | a :: l, hs, hu, he => by
    obtain ⟨p1, p2⟩ := List.pairwise_cons.1 hs
    by_cases hp : p a = true
    · rw [List.countP_cons_of_pos hp]
      have : l.countP p = 0 := List.countP_eq_zero.2 fun b hb hpb => by
        have := hu a (by simp) b (by simp [hb]) hp hpb
        have := p1 b hb
        omega
      omega
    · rw [List.countP_cons_of_neg (by simpa using hp)]
      refine cnt_one l p2 (fun x hx y hy => hu x (by simp [hx]) y (by simp [hy])) ?_
      obtain ⟨b, hb, hpb⟩ := he
      rcases List.mem_cons.1 hb with rfl | hb
      · exact absurd hpb hp
      · exact ⟨b, hb, hpb⟩
theorem stamped_at {R : Rn} (O : R.Ok) : (∀ v : Int, 1 ≤ v → v ≤ (R.draws R.ps.length : Int) → cntS v R.hist = 1) ∧ ∀ a ∈ R.hist, 0 ≤ a.stamp ∧ a.stamp ≤ (R.draws R.ps.length : Int) := by
  refine ⟨fun v h1 h2 => ?_, fun a ha => ?_⟩
  · rw [draws_at O] at h2
    obtain ⟨x, hx, e⟩ := stamp_ex O h1 h2
    refine cnt_one R.hist (hist_srt O) (fun a ha b hb pa pb => ?_) ⟨x, hx, by simpa using e⟩
    simp at pa pb
    exact stamp_un O ha hb (by omega) (by omega)
  · rw [draws_at O]
    have := (hist_ok O ha).st
    exact ⟨this.1, this.2.1⟩

/-! How many attempts have ended. -/

def cntE (l : List AttD) : Nat := l.countP fun a => decide (a.fin > 0)
theorem cnt_split (p : AttD → Bool) (n : Int) : ∀ l : List AttD, l.countP (fun a => p a && decide (a.start ≤ n)) + l.countP (fun a => p a && decide (a.start = n + 1)) = l.countP (fun a => p a && decide (a.start ≤ n + 1))
  | [] => rfl
  | a :: l => by
    have ih := cnt_split p n l
    simp only [List.countP_cons]
    cases hp : p a
    · simp; omega
    · by_cases h1 : a.start ≤ n
      · have h2 : ¬ a.start = n + 1 := by omega
        have h3 : a.start ≤ n + 1 := by omega
        simp [h1, h2, h3]; omega
      · by_cases h2 : a.start = n + 1
        · have h3 : a.start ≤ n + 1 := by omega
          simp [h2, show ¬ n + 1 ≤ n by omega]; omega
        · have h3 : ¬ a.start ≤ n + 1 := by omega
          simp [h1, h2, h3]; omega
theorem cnt_hist (p : AttD → Bool) (l : List AttD) (hl : ∀ a ∈ l, 1 ≤ a.start) : ∀ n : Nat, ((List.range n).flatMap fun i : Nat => l.filter fun a => decide (a.start = (i : Int) + 1)).countP p = l.countP (fun a => p a && decide (a.start ≤ (n : Int)))
  | 0 => by
    simp
    exact (List.countP_eq_zero.2 fun a ha h => by
      have := hl a ha
      simp at h
      omega).symm
  | n + 1 => by
    rw [List.range_succ, List.flatMap_append, List.countP_append, cnt_hist p l hl n]
    simp only [List.flatMap_cons, List.flatMap_nil, List.append_nil, List.countP_filter]
    have := cnt_split p (n : Int) l
    simpa using this
theorem cnt_all {R : Rn} (k : Nat) (p : AttD → Bool) : ∀ T : Nat, ((List.range T).flatMap fun t : Nat => ((R.g k).th (t : Int)).list).countP p = sumTo (fun t => (((R.g k).th (t : Int)).list).countP p) T
  | 0 => rfl
  | T + 1 => by
    rw [List.range_succ, List.flatMap_append, List.countP_append, cnt_all k p T]
    simp [sumTo]
theorem ends_hist {R : Rn} (O : R.Ok) : R.ends R.ps.length = cntE R.hist := by
  rw [ends_at O]
  have hs : ∀ a ∈ R.all R.ps.length, 1 ≤ a.start ∧ a.start ≤ (R.ps.length : Int) := fun a ha => by
    obtain ⟨t, t0, t1, h⟩ := all_mem.1 ha
    have A := att_t O R.ps.length t t0 t1 h
    exact ⟨A.s1, A.s2⟩
  have h1 : cntE R.hist = (R.all R.ps.length).countP fun a => decide (a.fin > 0) := by
    show ((List.range R.ps.length).flatMap fun i : Nat => (R.all R.ps.length).filter fun a => decide (a.start = (i : Int) + 1)).countP _ = _
    rw [cnt_hist _ _ (fun a ha => (hs a ha).1)]
    refine List.countP_congr fun a ha => ?_
    have := (hs a ha).2
    simp [this]
  rw [h1]
  unfold Rn.all
  rw [cnt_all]
  refine sumTo_same fun t ht => ?_
  show cntFin (((R.g R.ps.length).th (t : Int)).list.map er) = _
  rw [cnt_er]
  unfold cntFin
  refine List.countP_congr fun a ha => ?_
  have A := att_t O R.ps.length (t : Int) (by omega) (by omega) ha
  rcases A.en with q | q
  · have := q.1
    simp [this]
  · have h1 := q.1
    have h2 := A.s1
    simp
    omega

end Go.Proofs.YtejadojilncbjaaGreat

namespace Go.Proofs.YtejadojilncbjaaGreat
set_option linter.unusedVariables false

/-! What was is not changed by what is picked later. -/

/-! What each job's result is. -/

/-- The result of job j behind k picks. -/
def Rn.res (R : Rn) (k j : Nat) : ResD := endOf ((R.g k).th (R.jobs.getD j (0, [])).1) j

end Go.Proofs.YtejadojilncbjaaGreat

namespace Go.Proofs.YtejadojilncbjaaGreat
set_option linter.unusedVariables false

/-! Where one thread has all the jobs no attempt fails. -/

/-- What is true of the one thread that works. -/
def NfSt (K : Cx) (m : Int → Int) (h : Th) : Prop := match h.st with
  | .idle => True
  | .start => True
  | .rHeld _ _ => h.x.valid = m 0
  | .rVer _ _ => h.x.valid = m 0
  | .rWord _ a one => h.x.valid = m 0 ∧ m (3 + a.tmod K.c.s) = one
  | .rAgain _ a one _ => h.x.valid = m 0 ∧ m (3 + a.tmod K.c.s) = one
  | .gStat _ _ => h.x.valid = m 0
  | .gOwn _ _ => h.x.valid = m 0
  | .gVer _ _ => h.x.valid = m 0
  | .tTake => h.x.valid = m 0 ∧ m (hSta K K.me) = 0
  | .tShow => h.x.valid = m 0 ∧ m (hSta K K.me) = 0
  | .cStat => h.x.valid = m 0
  | .cGate => h.x.valid = m 0
  | .cClock => h.x.valid = m 0
  | .cShut _ _ => True
  | .cStamp _ => True
  | .cLeave _ => True
  | .cWord _ _ => True
  | .cOpen _ _ => True
  | .cOwn _ _ => True
  | .free _ _ => True
  | .fin _ => True
  | _ => False
structure Nf (K : Cx) (m : Int → Int) (h : Th) : Prop where
  rk : h.rank = 0 → m (hSta K K.me) = 0
  mr : (m (hSta K K.me)).tmod 8 = 0
  st : NfSt K m h

/-- The cells that matter here are as they were. -/
theorem Nf.same {K : Cx} {m m' : Int → Int} {h : Th} (e0 : m' 0 = m 0) (es : m' (hSta K K.me) = m (hSta K K.me)) (ev : ∀ s, 0 ≤ s → s < K.c.s → m' (3 + s) = m (3 + s)) (s1 : 1 ≤ K.c.s) {k : Int} (A : StepOk K k h) (N : Nf K m h) : Nf K m' h := by
  refine ⟨by rw [es]; exact N.rk, by rw [es]; exact N.mr, ?_⟩
  have S := N.st
  unfold NfSt at S ⊢
  unfold StepOk at A
  cases hst : h.st with
  | rWord i a one =>
    rw [hst] at S A
    have b := tmodP s1 A.1.1
    exact ⟨by rw [e0]; exact S.1, by rw [ev _ b.1 b.2]; exact S.2⟩
  | rAgain i a one w =>
    rw [hst] at S A
    have b := tmodP s1 A.1.1
    exact ⟨by rw [e0]; exact S.1, by rw [ev _ b.1 b.2]; exact S.2⟩
  | tTake => rw [hst] at S; exact ⟨by rw [e0]; exact S.1, by rw [es]; exact S.2⟩
  | tShow => rw [hst] at S; exact ⟨by rw [e0]; exact S.1, by rw [es]; exact S.2⟩
  | rHeld i a => rw [hst] at S; exact S.trans e0.symm
  | rVer i a => rw [hst] at S; exact S.trans e0.symm
  | gStat i a => rw [hst] at S; exact S.trans e0.symm
  | gOwn i a => rw [hst] at S; exact S.trans e0.symm
  | gVer i a => rw [hst] at S; exact S.trans e0.symm
  | cStat => rw [hst] at S; exact S.trans e0.symm
  | cGate => rw [hst] at S; exact S.trans e0.symm
  | cClock => rw [hst] at S; exact S.trans e0.symm
  | _ => rw [hst] at S; exact S

end Go.Proofs.YtejadojilncbjaaGreat

namespace Go.Proofs.YtejadojilncbjaaGreat
set_option linter.unusedVariables false

/-! Where one thread has all the jobs no attempt fails, part 2. -/

/-- All jobs are thread u's. -/
def Rn.One (R : Rn) (u : Int) : Prop := ∀ j, j < R.jobs.length → (R.jobs.getD j (0, [])).1 = u

end Go.Proofs.YtejadojilncbjaaGreat

namespace Go.Proofs.YtejadojilncbjaaGreat
open Go.RowKit
set_option linter.unusedVariables false

/-! Prefix: what is picked later changes nothing of what was. -/

theorem PicksIn.take {w : World} {B : Nat} {a : Option Addr} {ps : List PickD} (h : PicksIn w B a ps) (n : Nat) : PicksIn w B a (ps.take n) := fun i hi => by
  have h1 : i < ps.length := by simp at hi; omega
  have h2 : i < n := by simp at hi; omega
  have e : pickAt (ps.take n) i = pickAt ps i := by
    unfold pickAt
    simp [List.getD, List.getElem?_take_of_lt h2]
  have := h i h1
  rw [e]
  exact this

end Go.Proofs.YtejadojilncbjaaGreat

namespace Go.Proofs.YtejadojilncbjaaGreat
open Go.RowKit
set_option linter.unusedVariables false

/-! Once, pure. -/

theorem tk_snoc {l : List AttD} {i : Nat} {a : AttD} (h : l[i]? = some a) : l.take (i + 1) = l.take i ++ [a] := by
  rw [List.take_add_one, h]
  rfl
section
variable {R : Rn}

end

end Go.Proofs.YtejadojilncbjaaGreat
