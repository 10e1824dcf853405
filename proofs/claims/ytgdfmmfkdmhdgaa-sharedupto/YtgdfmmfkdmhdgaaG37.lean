import Derived.Test.YtgdfmmfkdmhdgaaG36
import Derived.Test.YtgdfmmfkdmhdgaaG34
import Derived.Test.YtgdfmmfkdmhdgaaG30
import Derived.Test.YtgdfmmfkdmhdgaaG04
import Derived.Test.YtgdfmmfkdmhdgaaG29
namespace Go.Proofs.Ytgdfmmfkdmhdgaa
open Go.RowKit
set_option linter.unusedVariables false
attribute [local go_sem ↓] Go.wp_at_zero Go.wp_at_succ

/-- The threads and the cells behind k picks. -/
def WS (base p nb cb cap tcap : Nat) (X : List Value) (c : Cfg) (mem : List Int) (jobs : List (Int × List InsD)) (ps : List PickD) (k : Nat) (w : World) : Prop :=
  ∃ q Ds, WR base p nb cb cap tcap X w q Ds ∧ SimW c jobs k (gAt c mem jobs ps k) q Ds

theorem WS.below {base p nb cb cap tcap : Nat} {X : List Value} {c : Cfg} {mem : List Int} {jobs : List (Int × List InsD)} {ps : List PickD} {k : Nat} {w w' : World} (h : WS base p nb cb cap tcap X c mem jobs ps k w) (hb : Below w.heap.size w w') : WS base p nb cb cap tcap X c mem jobs ps k w' := by
  obtain ⟨q, Ds, R, M⟩ := h
  exact ⟨q, Ds, R.below hb, M⟩

/-- What a pick leaves. -/
def PickIs (base p nb cb cap tcap : Nat) (X : List Value) (c : Cfg) (mem : List Int) (jobs : List (Int × List InsD)) (ps : List PickD) (k : Nat) (w : World) (e : Ending) (w' : World) : Prop :=
  (∃ a : AccD, a = (gStep c jobs (gAt c mem jobs ps k) ((k : Int) + 1) (pickAt ps k)).2 ∧ e = .returned (.agg #[.int .i64 a.kind, .int .i64 a.cell, .int .i64 a.seen, .int .i64 a.put])) ∧
  WS base p nb cb cap tcap X c mem jobs ps (k + 1) w' ∧ Below base w w' ∧ (∀ b T cs, Blk w b T cs → (120 : Nat) ≠ T → (3 : Nat) ≠ T → (157 : Nat) ≠ T → (161 : Nat) ≠ T → Blk w' b T cs)

theorem ws_pick {base p nb cb cap tcap : Nat} {X : List Value} {c : Cfg} {mem : List Int} {jobs : List (Int × List InsD)} {ps : List PickD} {k : Nat} {w : World} (S : SetupOk c mem jobs) (hk : k < 2 ^ 30) (W : WS base p nb cb cap tcap X c mem jobs ps k w) (ja : Option Addr) (jc : Nat) (hj : JobsRep w base ja jobs) :
    Calls Try.prog 51 #[.pointer (some ⟨cb, 0, none⟩), .slice ja jobs.length jc, .agg #[.int .i64 (pickAt ps k).thread, .int .i64 (pickAt ps k).draw]] w (PickIs base p nb cb cap tcap X c mem jobs ps k w) := by
  obtain ⟨q, Ds, R, M⟩ := W
  refine (t_wpick S.cfg ⟨by omega, by omega⟩ R M ((k : Int) + 1) (pickAt ps k) ja jc hj S.cd).mono ?_
  rintro e w' ⟨rfl, q', Ds', R', M', G⟩
  refine ⟨⟨_, rfl, rfl⟩, ⟨q', Ds', R', ?_⟩, G.low R, fun b T cs h h1 h2 h3 h4 => ?_⟩
  · rw [show ((k + 1 : Nat) : Int) = (k : Int) + 1 from by simp]
    exact M'
  · exact (G.block b h.lt (Ne.symm (Blk.ne R.thr h h1)) (Ne.symm (Blk.ne R.num h h2)) (fun ⟨i, hi, o⟩ => Own_tag (R.rows i hi) h h3 h4 h2 o)).trans h

theorem ws_cells {base p nb cb cap tcap : Nat} {X : List Value} {c : Cfg} {mem : List Int} {jobs : List (Int × List InsD)} {ps : List PickD} {w : World} (W : WS base p nb cb cap tcap X c mem jobs ps ps.length w) :
    Blk w nb 3 ((cellsOf c mem jobs ps).map (Value.int .i64 ·)).toArray ∧ w.cell? ⟨cb, 0, none⟩ = some (.slice (some ⟨nb, 0, none⟩) (cellsOf c mem jobs ps).length cap) ∧ cb < w.heap.size := by
  obtain ⟨q, Ds, R, M⟩ := W
  have e : cellsOf c mem jobs ps = Ds := by
    have hl := M.dl
    refine List.ext_getElem (by simp [cellsOf]; omega) (fun i h1 h2 => ?_)
    have := M.dv i h2
    rw [show Ds.getD i 0 = Ds[i] from by simp [List.getD, List.getElem?_eq_getElem h2]] at this
    rw [this]
    simp [cellsOf]
  rw [e]
  exact ⟨R.num, by rw [R.wst.cell]; rfl, R.wst.lt⟩

set_option maxRecDepth 100000 in
set_option maxHeartbeats 8000000 in
theorem playCells_any {c : Cfg} {mem : List Int} {jobs : List (Int × List InsD)} (S : SetupOk c mem jobs) (ps : List PickD) (hps : ps.length ≤ 2 ^ 21) (ma ja pa : Option Addr) (mc jc pc : Nat) (w : World)
    (hm : Ints w w.heap.size ma mem) (hj : JobsRep w w.heap.size ja jobs) (hp : PicksIn w w.heap.size pa ps) :
    Calls Try.prog 36 #[.agg #[.int .i64 c.t, .int .i64 c.wd, .int .i64 c.s, .int .i64 c.g, .int .i64 c.r, .int .i64 c.cp, .int .i64 c.f, .slice ma mem.length mc, .slice ja jobs.length jc], .slice pa ps.length pc] w fun e w' =>
      ∃ (la : Option Addr) (lc : Nat), e = .returned (.slice la (cellsOf c mem jobs ps).length lc) ∧ Ints w' w'.heap.size la (cellsOf c mem jobs ps) ∧ Below w.heap.size w w' := by
  have HM : Hid (Ints w w.heap.size ma mem) := hm
  have HJ : Hid (JobsRep w w.heap.size ja jobs) := hj
  have HP : Hid (PicksIn w w.heap.size pa ps) := hp
  have HS : Hid (SetupOk c mem jobs) := S
  obtain ⟨A, HA⟩ : ∃ A, Hid (cellsOf c mem jobs ps = A) := ⟨_, rfl⟩
  rw [show cellsOf c mem jobs ps = A from HA.out]
  have hps' : ps.length ≤ 2097152 := hps
  clear hm hj hp S hps
  go_enter Try.func36, Try.ntmps36
  go_wp2_with fail
  obtain ⟨w1, hw1⟩ : ∃ w1, w1 = w.alloc (.cells #[.int .i64 c.t, .int .i64 c.wd, .int .i64 c.s, .int .i64 c.g, .int .i64 c.r, .int .i64 c.cp, .int .i64 c.f, .slice ma mem.length mc, .slice ja jobs.length jc] 27) := ⟨_, rfl⟩
  have HB1 : Hid (Below w.heap.size w w1) := by rw [hw1]; exact (Below.refl w.heap.size w).alloc (Nat.le_refl _) _
  have HSb : Hid (Blk w1 w.heap.size 27 #[.int .i64 c.t, .int .i64 c.wd, .int .i64 c.s, .int .i64 c.g, .int .i64 c.r, .int .i64 c.cp, .int .i64 c.f, .slice ma mem.length mc, .slice ja jobs.length jc]) := by rw [hw1]; exact Blk.new w 27 _
  have hs1 : w1.heap.size = w.heap.size + 1 := by rw [hw1]; simp
  rw [← hw1]
  clear hw1
  have HM1 : Hid (Ints w1 w1.heap.size ma mem) := (HM.out).up HB1.out
  have HJ1 : Hid (JobsRep w1 w1.heap.size ja jobs) := (HJ.out).up2 HB1.out
  have HP1 : Hid (PicksIn w1 w1.heap.size pa ps) := (HP.out).up2 HB1.out
  clear HM HJ HP
  refine (begin_any c (HS.out).cfg mem (HS.out).mw (HS.out).mb jobs (HS.out).j8 ma ja mc jc w1 HM1.out HJ1.out).mono ?_
  rintro e w2 ⟨nb, p, cap, tcap, q, Ds, X, rfl, hW, hM, hb2⟩
  obtain ⟨cb, hcb⟩ : ∃ cb, cb = w2.heap.size := ⟨_, rfl⟩
  have hB3 : Below w2.heap.size w2 (w2.alloc (.cells #[.slice (some ⟨nb, 0, none⟩) Ds.length cap, .slice (some ⟨p, 0, none⟩) q.length tcap] 99)) := (Below.refl _ _).alloc (Nat.le_refl _) _
  have HW3 : Hid (WS w1.heap.size p nb cb cap tcap X c mem jobs ps 0 (w2.alloc (.cells #[.slice (some ⟨nb, 0, none⟩) Ds.length cap, .slice (some ⟨p, 0, none⟩) q.length tcap] 99))) :=
    ⟨q, Ds, hW _ cb hB3 (by rw [hcb]; exact Blk.new w2 99 _) (by rw [hcb]; exact hb2.size), hM⟩
  have HB3 : Hid (Below w1.heap.size w1 (w2.alloc (.cells #[.slice (some ⟨nb, 0, none⟩) Ds.length cap, .slice (some ⟨p, 0, none⟩) q.length tcap] 99))) := hb2.trans (hB3.mono hb2.size)
  clear hW hM hB3 hb2
  go_upto_region 2 with fail
  rw [← hcb]
  clear hcb
  generalize w2.alloc (.cells #[.slice (some ⟨nb, 0, none⟩) Ds.length cap, .slice (some ⟨p, 0, none⟩) q.length tcap] 99) = w3 at *
  go_wp2_with fail
  go_loopg [12] (ps.length + 1) (fun m t12 wr => ∃ (k : Nat), t12 = .int .i64 (k : Int) ∧ k ≤ ps.length ∧ m = ps.length + 1 - k ∧ Hid (WS w1.heap.size p nb cb cap tcap X c mem jobs ps k wr) ∧ Hid (Below w1.heap.size w1 wr))
  case atStart => exact ⟨0, rfl, by omega, by omega, HW3, HB3⟩
  case round =>
    obtain ⟨k, rfl, hk, hgk, HW, HB⟩ := hrel
    clear HW3 HB3
    by_cases hkl : k < ps.length
    · obtain ⟨pb, poff, hpa, hpb, hpc0, hpc1⟩ := HP1.out k hkl
      have hk0 : (0 : Int) ≤ (k : Int) := by omega
      have hk1 : (k : Int) < (ps.length : Int) := by omega
      have hwk : IntKind.i64.wrap ((k : Int) + 1) = (k : Int) + 1 := wrapP _ (by omega) (by omega)
      have hszk : w1.heap.size ≤ wr.heap.size := (HB.out).size
      have hq0 : wr.cell? ⟨pb, poff + k * 2, none⟩ = some (.int .i64 (pickAt ps k).thread) := (World.cell?_of_block ((HB.out).block pb hpb)).trans hpc0
      have hq1 : wr.cell? ⟨pb, poff + k * 2 + 1, none⟩ = some (.int .i64 (pickAt ps k).draw) := (World.cell?_of_block ((HB.out).block pb hpb)).trans hpc1
      have hpbl : pb < wr.heap.size := by omega
      have hsbl : w.heap.size < wr.heap.size := by omega
      have hsc : ∀ i, wr.cell? ⟨w.heap.size, i, none⟩ = (#[.int .i64 c.t, .int .i64 c.wd, .int .i64 c.s, .int .i64 c.g, .int .i64 c.r, .int .i64 c.cp, .int .i64 c.f, .slice ma mem.length mc, .slice ja jobs.length jc] : Array Value)[i]? := ((HSb.out).below HB.out (by omega)).cell
      subst hpa
      clear hpc0 hpc1
      obtain ⟨th, hth⟩ : ∃ th, th = (pickAt ps k).thread := ⟨_, rfl⟩
      obtain ⟨dr, hdr⟩ : ∃ dr, dr = (pickAt ps k).draw := ⟨_, rfl⟩
      rw [← hth] at hq0
      rw [← hdr] at hq1
      have hBa : Below wr.heap.size wr (wr.alloc (.cells #[.int .i64 th, .int .i64 dr] 57)) := (Below.refl wr.heap.size wr).alloc (Nat.le_refl _) _
      have HBa : Hid (Below w1.heap.size w1 (wr.alloc (.cells #[.int .i64 th, .int .i64 dr] 57))) := (HB.out).trans (hBa.mono hszk)
      have HC : Hid (Calls Try.prog 51 #[.pointer (some ⟨cb, 0, none⟩), .slice ja jobs.length jc, .agg #[.int .i64 th, .int .i64 dr]] (wr.alloc (.cells #[.int .i64 th, .int .i64 dr] 57)) (PickIs w1.heap.size p nb cb cap tcap X c mem jobs ps k (wr.alloc (.cells #[.int .i64 th, .int .i64 dr] 57)))) := by
        rw [hth, hdr] at HBa hBa ⊢
        exact ws_pick HS.out (by omega) ((HW.out).below hBa) ja jc ((HJ1.out).up HBa.out)
      clear hth hdr hBa HW HB
      go_wp2_with fail
      clear hq0 hq1 hsc
      refine (HC.out).mono ?_
      rintro e w5 ⟨⟨a, ha, rfl⟩, hW5, hb5, hbk⟩
      have HW5 : Hid (WS w1.heap.size p nb cb cap tcap X c mem jobs ps (k + 1) w5) := hW5
      have HB5 : Hid (Below w1.heap.size w1 w5) := (HBa.out).trans hb5
      clear hW5 hb5 hbk HC HBa
      go_wp2_with fail
      go_roundg (gk - 1)
      case rel => exact ⟨k + 1, by simp, by omega, by omega, HW5, HB5⟩
      case measure => omega
    · have hkj : k = ps.length := by omega
      subst hkj
      have hk2 : ¬ ((ps.length : Int) < (ps.length : Int)) := by omega
      obtain ⟨h1, h2, h3⟩ := ws_cells HW.out
      rw [show cellsOf c mem jobs ps = A from HA.out] at h1 h2
      have hA : A.length ≤ 1000 := by
        obtain ⟨⟨t1, t2⟩, ⟨x1, x2⟩, ⟨s1, s2⟩, _⟩ := cfgB_true (HS.out).cfg
        rw [← HA.out]
        simp only [cellsOf, List.length_map, List.length_range, total_eq]
        omega
      have HN : Hid (Calls Try.prog 52 #[.pointer (some ⟨cb, 0, none⟩)] wr fun e w' => e = .returned (.slice (some ⟨wr.heap.size, 0, none⟩) A.length A.length) ∧ Blk w' wr.heap.size 3 (A.map (Value.int .i64 ·)).toArray ∧ Below wr.heap.size wr w') := numbers_any cb 0 nb cap A wr hA h2 h3 h1
      clear h1 h2 h3 hA HW
      go_wp2_with fail
      refine (HN.out).mono ?_
      rintro e w5 ⟨rfl, h5, hb5⟩
      have H5 : Hid (Ints w5 w5.heap.size (some ⟨wr.heap.size, 0, none⟩) A) := ints_blk h5
      have HB5 : Hid (Below w.heap.size w w5) := (HB1.out).trans (((HB.out).trans (hb5.mono (HB.out).size)).mono (HB1.out).size)
      clear h5 hb5 HN HB
      go_wp2
      go_ret
      exact ⟨_, _, rfl, H5.out, HB5.out⟩

end Go.Proofs.Ytgdfmmfkdmhdgaa

namespace Go.Proofs.Ytgdfmmfkdmhdgaa
open Go.RowKit
set_option linter.unusedVariables false
attribute [local go_sem ↓] Go.wp_at_zero Go.wp_at_succ

theorem made51 (n : Nat) : madeCells (Value.agg #[.int .i64 0, .int .i64 0, .int .i64 0, .int .i64 0]).cells (n * 4) = (List.replicate (n * 4) (Value.int .i64 0)).toArray := by
  have hz : (Value.agg #[.int .i64 0, .int .i64 0, .int .i64 0, .int .i64 0]).cells = #[.int .i64 0, .int .i64 0, .int .i64 0, .int .i64 0] := by rfl
  rw [hz]
  apply Array.ext
  · simp [size_madeCells]
  · intro i h1 h2
    simp [madeCells]
    have : i % 4 = 0 ∨ i % 4 = 1 ∨ i % 4 = 2 ∨ i % 4 = 3 := by omega
    rcases this with h | h | h | h <;> rw [h] <;> rfl

theorem run_make51 (n : Nat) (hn : n ≤ 2097152) (w : World) : (Instr.makeSlice 42 (Value.int .i64 (n : Int)) (Value.int .i64 (n : Int))).run Try.prog w =
    .ok (.slice (some ⟨w.heap.size, 0, none⟩) n n) (w.alloc (.cells (List.replicate (n * 4) (Value.int .i64 0)).toArray 51)) := by
  obtain ⟨i0, h1, h2, h3, h4⟩ := info_parts Try.info51
  have := run_make (P := Try.prog) w 42 51 i0 _ Try.underlying42 h1 h2 .i64 .i64 n n (by omega) (by omega) (by rw [h4]; omega) (by omega)
  rw [h3] at this
  simp only [Int.toNat_natCast, made51] at this
  exact this

theorem flat4 : ∀ l : List AccD, (l.flatMap accCells).length = l.length * 4
  | [] => rfl
  | a :: l => by
    rw [List.flatMap_cons, List.length_append, flat4 l]
    simp [accCells]
    omega

/-- The accesses so far, and room for the others. -/
def accPad (c : Cfg) (mem : List Int) (jobs : List (Int × List InsD)) (ps : List PickD) (k : Nat) : List Value := (gLog c mem jobs ps k).flatMap accCells ++ List.replicate ((ps.length - k) * 4) (.int .i64 0)

theorem pad_set {c : Cfg} {mem : List Int} {jobs : List (Int × List InsD)} {ps : List PickD} {k : Nat} (hk : k < ps.length) {a : AccD} (ha : a = (gStep c jobs (gAt c mem jobs ps k) ((k : Int) + 1) (pickAt ps k)).2) {w : World} {ab : Nat} (h : Blk w ab 51 (accPad c mem jobs ps k).toArray) :
    Blk ((((w.setCell ⟨ab, k * 4, none⟩ (.int .i64 a.kind)).setCell ⟨ab, k * 4 + 1, none⟩ (.int .i64 a.cell)).setCell ⟨ab, k * 4 + 2, none⟩ (.int .i64 a.seen)).setCell ⟨ab, k * 4 + 3, none⟩ (.int .i64 a.put)) ab 51 (accPad c mem jobs ps (k + 1)).toArray := by
  refine h.set.set.set.set.congr ?_
  have hl : ((gLog c mem jobs ps k).flatMap accCells).length = k * 4 := by rw [flat4, gLog_len]
  have e : (ps.length - k) * 4 = 4 + (ps.length - (k + 1)) * 4 := by omega
  unfold accPad
  rw [glog_next c mem jobs ps k a ha, e, ← List.replicate_append_replicate]
  generalize (gLog c mem jobs ps k).flatMap accCells = L at *
  generalize List.replicate ((ps.length - (k + 1)) * 4) (Value.int .i64 0) = R
  rw [← hl]
  simp [List.set_append_right, List.replicate_succ]

theorem pad_at {c : Cfg} {mem : List Int} {jobs : List (Int × List InsD)} {ps : List PickD} {k : Nat} (hk : k < ps.length) (j : Nat) (hj : j < 4) : (accPad c mem jobs ps k).toArray[k * 4 + j]? = some (.int .i64 0) := by
  have hl : ((gLog c mem jobs ps k).flatMap accCells).length = k * 4 := by rw [flat4, gLog_len]
  unfold accPad
  rw [List.getElem?_toArray, List.getElem?_append_right (by omega), hl, List.getElem?_replicate, if_pos (by omega)]

theorem pad_log {c : Cfg} {mem : List Int} {jobs : List (Int × List InsD)} {ps : List PickD} (hps : ps.length ≤ 2097152) {w : World} {ab : Nat} (h : Blk w ab 51 (accPad c mem jobs ps ps.length).toArray) : LogIn w w.heap.size (some ⟨ab, 0, none⟩) (accs c mem jobs ps) := by
  have hl := gLog_len c mem jobs ps ps.length
  have e : accPad c mem jobs ps ps.length = (accs c mem jobs ps).flatMap accCells := by
    unfold accPad accs
    simp
  rw [e] at h
  refine log_row (base := 0) (c := (accs c mem jobs ps).length) ⟨flat4 _, Or.inr ⟨ab, _, _, rfl, Nat.zero_le _, h, Nat.le_refl _, ?_, by rw [List.size_toArray, flat4], ?_⟩⟩
  · unfold accs maxLen
    omega
  · rw [List.take_of_length_le (by rw [flat4]; exact Nat.le_refl _)]

end Go.Proofs.Ytgdfmmfkdmhdgaa

namespace Go.Proofs.Ytgdfmmfkdmhdgaa
open Go.RowKit
set_option linter.unusedVariables false
attribute [local go_sem ↓] Go.wp_at_zero Go.wp_at_succ

theorem WS.apart {base p nb cb cap tcap : Nat} {X : List Value} {c : Cfg} {mem : List Int} {jobs : List (Int × List InsD)} {ps : List PickD} {k ab : Nat} {w w' : World} {cs : Array Value} (h : WS base p nb cb cap tcap X c mem jobs ps k w) (hb : Blk w ab 51 cs) (ho : Only ab w w') : WS base p nb cb cap tcap X c mem jobs ps k w' := by
  obtain ⟨q, Ds, R, M⟩ := h
  exact ⟨q, Ds, R.apart hb ho (by decide) (by decide) (by decide) (by decide) (by decide), M⟩

set_option maxRecDepth 100000 in
set_option maxHeartbeats 8000000 in
theorem playAccesses_any {c : Cfg} {mem : List Int} {jobs : List (Int × List InsD)} (S : SetupOk c mem jobs) (ps : List PickD) (hps : ps.length ≤ 2 ^ 21) (ma ja pa : Option Addr) (mc jc pc : Nat) (w : World)
    (hm : Ints w w.heap.size ma mem) (hj : JobsRep w w.heap.size ja jobs) (hp : PicksIn w w.heap.size pa ps) :
    Calls Try.prog 49 #[.agg #[.int .i64 c.t, .int .i64 c.wd, .int .i64 c.s, .int .i64 c.g, .int .i64 c.r, .int .i64 c.cp, .int .i64 c.f, .slice ma mem.length mc, .slice ja jobs.length jc], .slice pa ps.length pc] w (AccIs w (accs c mem jobs ps)) := by
  have HM : Hid (Ints w w.heap.size ma mem) := hm
  have HJ : Hid (JobsRep w w.heap.size ja jobs) := hj
  have HP : Hid (PicksIn w w.heap.size pa ps) := hp
  have HS : Hid (SetupOk c mem jobs) := S
  obtain ⟨A, HA⟩ : ∃ A, Hid (accs c mem jobs ps = A) := ⟨_, rfl⟩
  rw [show accs c mem jobs ps = A from HA.out]
  have hps' : ps.length ≤ 2097152 := hps
  clear hm hj hp S hps
  go_enter Try.func49, Try.ntmps49
  go_wp2_with fail
  obtain ⟨w1, hw1⟩ : ∃ w1, w1 = w.alloc (.cells #[.int .i64 c.t, .int .i64 c.wd, .int .i64 c.s, .int .i64 c.g, .int .i64 c.r, .int .i64 c.cp, .int .i64 c.f, .slice ma mem.length mc, .slice ja jobs.length jc] 27) := ⟨_, rfl⟩
  have HB1 : Hid (Below w.heap.size w w1) := by rw [hw1]; exact (Below.refl w.heap.size w).alloc (Nat.le_refl _) _
  have HSb : Hid (Blk w1 w.heap.size 27 #[.int .i64 c.t, .int .i64 c.wd, .int .i64 c.s, .int .i64 c.g, .int .i64 c.r, .int .i64 c.cp, .int .i64 c.f, .slice ma mem.length mc, .slice ja jobs.length jc]) := by rw [hw1]; exact Blk.new w 27 _
  have hs1 : w1.heap.size = w.heap.size + 1 := by rw [hw1]; simp
  rw [← hw1]
  clear hw1
  have HM1 : Hid (Ints w1 w1.heap.size ma mem) := (HM.out).up HB1.out
  have HJ1 : Hid (JobsRep w1 w1.heap.size ja jobs) := (HJ.out).up2 HB1.out
  have HP1 : Hid (PicksIn w1 w1.heap.size pa ps) := (HP.out).up2 HB1.out
  clear HM HJ HP
  refine (begin_any c (HS.out).cfg mem (HS.out).mw (HS.out).mb jobs (HS.out).j8 ma ja mc jc w1 HM1.out HJ1.out).mono ?_
  rintro e w2 ⟨nb, p, cap, tcap, q, Ds, X, rfl, hW, hM, hb2⟩
  obtain ⟨cb, hcb⟩ : ∃ cb, cb = w2.heap.size := ⟨_, rfl⟩
  have hB3 : Below w2.heap.size w2 (w2.alloc (.cells #[.slice (some ⟨nb, 0, none⟩) Ds.length cap, .slice (some ⟨p, 0, none⟩) q.length tcap] 99)) := (Below.refl _ _).alloc (Nat.le_refl _) _
  have HW3 : Hid (WS w1.heap.size p nb cb cap tcap X c mem jobs ps 0 (w2.alloc (.cells #[.slice (some ⟨nb, 0, none⟩) Ds.length cap, .slice (some ⟨p, 0, none⟩) q.length tcap] 99))) :=
    ⟨q, Ds, hW _ cb hB3 (by rw [hcb]; exact Blk.new w2 99 _) (by rw [hcb]; exact hb2.size), hM⟩
  have HB3 : Hid (Below w1.heap.size w1 (w2.alloc (.cells #[.slice (some ⟨nb, 0, none⟩) Ds.length cap, .slice (some ⟨p, 0, none⟩) q.length tcap] 99))) := hb2.trans (hB3.mono hb2.size)
  clear hW hM hB3 hb2
  go_upto_region 2 with fail
  rw [← hcb]
  clear hcb
  generalize w2.alloc (.cells #[.slice (some ⟨nb, 0, none⟩) Ds.length cap, .slice (some ⟨p, 0, none⟩) q.length tcap] 99) = w3 at *
  have hmk := run_make51 ps.length hps'
  obtain ⟨ab, hab⟩ : ∃ ab, ab = w3.heap.size := ⟨_, rfl⟩
  obtain ⟨Z, hZ⟩ : ∃ Z, Z = (List.replicate (ps.length * 4) (Value.int .i64 0)).toArray := ⟨_, rfl⟩
  rw [← hZ] at hmk
  have hB4 : Below w3.heap.size w3 (w3.alloc (.cells Z 51)) := (Below.refl _ _).alloc (Nat.le_refl _) _
  have HW4 : Hid (WS w1.heap.size p nb cb cap tcap X c mem jobs ps 0 (w3.alloc (.cells Z 51))) := (HW3.out).below hB4
  have HB4 : Hid (Below w1.heap.size w1 (w3.alloc (.cells Z 51))) := (HB3.out).trans (hB4.mono (HB3.out).size)
  have HA4 : Hid (Blk (w3.alloc (.cells Z 51)) ab 51 (accPad c mem jobs ps 0).toArray) := by
    rw [hab]
    refine (Blk.new w3 51 _).congr ?_
    rw [hZ]
    simp [accPad, gLog]
  have HAb : Hid (w1.heap.size ≤ ab) := by show _ ≤ _; rw [hab]; exact (HB3.out).size
  clear HW3 HB3 hB4 hZ
  go_upto_region 3 with fail
  rw [← hab]
  clear hab hmk
  generalize w3.alloc (.cells Z 51) = w4 at *
  go_wp2_with fail
  go_loopg [16] (ps.length + 1) (fun m t16 wr => ∃ (k : Nat), t16 = .int .i64 (k : Int) ∧ k ≤ ps.length ∧ m = ps.length + 1 - k ∧ Hid (WS w1.heap.size p nb cb cap tcap X c mem jobs ps k wr) ∧ Hid (Below w1.heap.size w1 wr) ∧ Hid (Blk wr ab 51 (accPad c mem jobs ps k).toArray))
  case atStart => exact ⟨0, rfl, by omega, by omega, HW4, HB4, HA4⟩
  case round =>
    obtain ⟨k, rfl, hk, hgk, HW, HB, HAk⟩ := hrel
    clear HW4 HB4 HA4
    by_cases hkl : k < ps.length
    · obtain ⟨pb, poff, hpa, hpb, hpc0, hpc1⟩ := HP1.out k hkl
      have hk0 : (0 : Int) ≤ (k : Int) := by omega
      have hk1 : (k : Int) < (ps.length : Int) := by omega
      have hwk : IntKind.i64.wrap ((k : Int) + 1) = (k : Int) + 1 := wrapP _ (by omega) (by omega)
      have hszk : w1.heap.size ≤ wr.heap.size := (HB.out).size
      have hq0 : wr.cell? ⟨pb, poff + k * 2, none⟩ = some (.int .i64 (pickAt ps k).thread) := (World.cell?_of_block ((HB.out).block pb hpb)).trans hpc0
      have hq1 : wr.cell? ⟨pb, poff + k * 2 + 1, none⟩ = some (.int .i64 (pickAt ps k).draw) := (World.cell?_of_block ((HB.out).block pb hpb)).trans hpc1
      have hpbl : pb < wr.heap.size := by omega
      have hsbl : w.heap.size < wr.heap.size := by omega
      have hsc : ∀ i, wr.cell? ⟨w.heap.size, i, none⟩ = (#[.int .i64 c.t, .int .i64 c.wd, .int .i64 c.s, .int .i64 c.g, .int .i64 c.r, .int .i64 c.cp, .int .i64 c.f, .slice ma mem.length mc, .slice ja jobs.length jc] : Array Value)[i]? := ((HSb.out).below HB.out (by omega)).cell
      subst hpa
      clear hpc0 hpc1
      obtain ⟨th, hth⟩ : ∃ th, th = (pickAt ps k).thread := ⟨_, rfl⟩
      obtain ⟨dr, hdr⟩ : ∃ dr, dr = (pickAt ps k).draw := ⟨_, rfl⟩
      rw [← hth] at hq0
      rw [← hdr] at hq1
      have hBa : Below wr.heap.size wr (wr.alloc (.cells #[.int .i64 th, .int .i64 dr] 57)) := (Below.refl wr.heap.size wr).alloc (Nat.le_refl _) _
      have HBa : Hid (Below w1.heap.size w1 (wr.alloc (.cells #[.int .i64 th, .int .i64 dr] 57))) := (HB.out).trans (hBa.mono hszk)
      have HC : Hid (Calls Try.prog 51 #[.pointer (some ⟨cb, 0, none⟩), .slice ja jobs.length jc, .agg #[.int .i64 th, .int .i64 dr]] (wr.alloc (.cells #[.int .i64 th, .int .i64 dr] 57)) (PickIs w1.heap.size p nb cb cap tcap X c mem jobs ps k (wr.alloc (.cells #[.int .i64 th, .int .i64 dr] 57)))) := by
        rw [hth, hdr] at HBa hBa ⊢
        exact ws_pick HS.out (by omega) ((HW.out).below hBa) ja jc ((HJ1.out).up HBa.out)
      have HAa : Hid (Blk (wr.alloc (.cells #[.int .i64 th, .int .i64 dr] 57)) ab 51 (accPad c mem jobs ps k).toArray) := (HAk.out).alloc _
      clear hth hdr hBa HW HB HAk
      go_wp2_with fail
      clear hq0 hq1 hsc
      refine (HC.out).mono ?_
      rintro e w5 ⟨⟨a, ha, rfl⟩, hW5, hb5, hbk⟩
      have HW5 : Hid (WS w1.heap.size p nb cb cap tcap X c mem jobs ps (k + 1) w5) := hW5
      have HB5 : Hid (Below w1.heap.size w1 w5) := (HBa.out).trans hb5
      have HA5 : Hid (Blk w5 ab 51 (accPad c mem jobs ps k).toArray) := hbk ab 51 _ HAa.out (by decide) (by decide) (by decide) (by decide)
      have Ha : Hid (a = (gStep c jobs (gAt c mem jobs ps k) ((k : Int) + 1) (pickAt ps k)).2) := ha
      have hf := (HA5.out).frozen
      have hc0 : w5.cell? ⟨ab, k * 4, none⟩ = some (.int .i64 0) := by rw [(HA5.out).cell]; exact pad_at hkl 0 (by omega)
      have hc1 : w5.cell? ⟨ab, k * 4 + 1, none⟩ = some (.int .i64 0) := by rw [(HA5.out).cell]; exact pad_at hkl 1 (by omega)
      have hc2 : w5.cell? ⟨ab, k * 4 + 2, none⟩ = some (.int .i64 0) := by rw [(HA5.out).cell]; exact pad_at hkl 2 (by omega)
      have hc3 : w5.cell? ⟨ab, k * 4 + 3, none⟩ = some (.int .i64 0) := by rw [(HA5.out).cell]; exact pad_at hkl 3 (by omega)
      have habl : ab < w5.heap.size := (HA5.out).lt
      clear hW5 hb5 hbk HC HBa HAa ha
      obtain ⟨ak, ac, az, ap⟩ := a
      go_wp2_with fail
      have hA6 := pad_set hkl Ha.out HA5.out
      have ho6 : Only ab w5 ((((w5.setCell ⟨ab, k * 4, none⟩ (.int .i64 ak)).setCell ⟨ab, k * 4 + 1, none⟩ (.int .i64 ac)).setCell ⟨ab, k * 4 + 2, none⟩ (.int .i64 az)).setCell ⟨ab, k * 4 + 3, none⟩ (.int .i64 ap)) := (((Only.refl _ _).set).set).set.set
      go_roundg (gk - 1)
      case rel => exact ⟨k + 1, by simp, by omega, by omega, (HW5.out).apart HA5.out ho6, below_onto HB5.out ho6 HAb.out (HB5.out).size, hA6⟩
      case measure => omega
    · have hkj : k = ps.length := by omega
      subst hkj
      have hk2 : ¬ ((ps.length : Int) < (ps.length : Int)) := by omega
      have HL : Hid (LogIn wr wr.heap.size (some ⟨ab, 0, none⟩) A ∧ A.length = ps.length) := by
        show _ ∧ _
        rw [← HA.out]
        exact ⟨pad_log hps' HAk.out, gLog_len _ _ _ _ _⟩
      have HB5 : Hid (Below w.heap.size w wr) := (HB1.out).trans ((HB.out).mono (HB1.out).size)
      clear HW HB HAk
      go_wp2_with fail
      go_ret
      exact ⟨some ⟨ab, 0, none⟩, ps.length, by rw [(HL.out).2]; rfl, (HL.out).1, HB5.out⟩

end Go.Proofs.Ytgdfmmfkdmhdgaa
