import Derived.Test.YtejadojilncbjaaGreatE30
import Derived.Test.YtejadojilncbjaaGreatE22
namespace Go.Proofs.YtejadojilncbjaaGreat
open Go.ChangeShapes Go.WideShapes Go.ChangeAt Go.RowKit Go.Deep
set_option linter.unusedVariables false
attribute [local go_sem ↓] Go.wp_at_zero Go.wp_at_succ

theorem own_mono {w : World} {base base' : Nat} {e : TypeId} {size n : Nat} {v : Value} {xs : List Value} (h : w.ownsRow base e size v n xs) (hb : base' ≤ base) : w.ownsRow base' e size v n xs :=
  ⟨h.1, h.2.elim Or.inl (fun ⟨g, cap, cur, hv, hb0, r⟩ => Or.inr ⟨g, cap, cur, hv, Nat.le_trans hb hb0, r⟩)⟩

/-- Cells in a row of the call's own. -/
def CRow (w : World) (base g cap : Nat) (cs : List Int) : Prop := w.ownsRow base 3 1 (.slice (some ⟨g, 0, none⟩) cs.length cap) cs.length (cs.map (Value.int .i64 ·))

theorem CRow.cell {w : World} {base g cap : Nat} {cs : List Int} (h : CRow w base g cap cs) {i : Nat} (hi : i < cs.length) : w.cell? ⟨g, i, none⟩ = some (.int .i64 (cs.getD i 0)) := by
  rw [World.ownsRow.cellAt h i (by omega)]
  simp [List.getElem?_map, List.getD, List.getElem?_eq_getElem hi]
theorem CRow.frozen {w : World} {base g cap : Nat} {cs : List Int} (h : CRow w base g cap cs) (i : Nat) : w.frozen? ⟨g, i, none⟩ = false := World.ownsRow.frozenAt h i
theorem CRow.lt {w : World} {base g cap : Nat} {cs : List Int} (h : CRow w base g cap cs) : base ≤ g ∧ g < w.heap.size := World.ownsRow.lt h g rfl
theorem CRow.set {w : World} {base g cap : Nat} {cs : List Int} (h : CRow w base g cap cs) (i : Nat) (v : Int) : CRow (w.setCell ⟨g, i, none⟩ (.int .i64 v)) base g cap (cs.set i v) := by
  have := (World.ownsRow.stored h i (.int .i64 v)).1
  unfold CRow
  rw [List.length_set, List.map_set]
  exact this
theorem CRow.below {w w' : World} {base g cap : Nat} {cs : List Int} (h : CRow w base g cap cs) (hb : Below w.heap.size w w') (hB : base ≤ w.heap.size) : CRow w' base g cap cs := ownsRow_keep h (Kp.below (chg := []) (p := base) (eb := base) hb hB) (by simp)
set_option maxHeartbeats 400000 in
theorem kword_any (c : Cfg) (hc : cfgB c = true) (n : Int) (a b : Option Addr) (l d m f : Nat) (w : World) (h3 : -70000 ≤ n) (h4 : n ≤ 1125899906842634) :
    Calls Tryz.prog 36 #[.agg #[.int .i64 c.t, .int .i64 c.wd, .int .i64 c.s, .int .i64 c.g, .int .i64 c.r, .int .i64 c.cp, .int .i64 c.f, .slice a l d, .slice b m f], .int .i64 n] w fun e w' =>
      e = .returned (.int .i64 (3 + 2 * c.s + c.t + n)) ∧ Below w.heap.size w w' := by
  obtain ⟨⟨t1, t2⟩, _, ⟨s1, s2⟩, _⟩ := cfgB_true hc
  have x1 : IntKind.i64.wrap (2 * c.s) = 2 * c.s := wrapF _ (by omega) (by omega)
  have x2 : IntKind.i64.wrap (3 + 2 * c.s) = 3 + 2 * c.s := wrapF _ (by omega) (by omega)
  have x3 : IntKind.i64.wrap (3 + 2 * c.s + c.t) = 3 + 2 * c.s + c.t := wrapF _ (by omega) (by omega)
  have x4 : IntKind.i64.wrap (3 + 2 * c.s + c.t + n) = 3 + 2 * c.s + c.t + n := wrapF _ (by omega) (by omega)
  clear hc
  go_enter Tryz.func36, Tryz.ntmps36
  go_wp2
  go_ret
  exact ⟨by simp, (Below.refl _ _).alloc (Nat.le_refl _) _⟩

/-- The cells at the beginning. -/
def cells0 (c : Cfg) (mem : List Int) : List Int := List.replicate (3 + 2 * c.s + c.t).toNat 0 ++ mem

set_option maxRecDepth 100000 in
set_option maxHeartbeats 4000000 in
theorem begun_any (c : Cfg) (mem : List Int) (jobs : List (Int × List InsD)) (S : SetupOk c mem jobs) (ma ja : Option Addr) (mc jc : Nat) (w : World) (hm : Ints w w.heap.size ma mem) :
    Calls Tryz.prog 14 #[.agg #[.int .i64 c.t, .int .i64 c.wd, .int .i64 c.s, .int .i64 c.g, .int .i64 c.r, .int .i64 c.cp, .int .i64 c.f, .slice ma mem.length mc, .slice ja jobs.length jc]] w fun e w' =>
      (∃ g cap, e = .returned (.slice (some ⟨g, 0, none⟩) (cells0 c mem).length cap) ∧ CRow w' w.heap.size g cap (cells0 c mem)) ∧ Below w.heap.size w w' := by
  obtain ⟨⟨t1, t2⟩, ⟨x1, x2⟩, ⟨s1, s2⟩, _⟩ := cfgB_true S.cfg
  have hmw := S.mw
  have HCF : Hid (cfgB c = true) := S.cfg
  obtain ⟨w0, hw0⟩ : ∃ w0, w0 = w.alloc (.cells #[.int .i64 c.t, .int .i64 c.wd, .int .i64 c.s, .int .i64 c.g, .int .i64 c.r, .int .i64 c.cp, .int .i64 c.f, .slice ma mem.length mc, .slice ja jobs.length jc] 27) := ⟨_, rfl⟩
  have hB0 : Below w.heap.size w w0 := by rw [hw0]; exact (Below.refl w.heap.size w).alloc (Nat.le_refl _) _
  have HSb : Hid (Blk w0 w.heap.size 27 #[.int .i64 c.t, .int .i64 c.wd, .int .i64 c.s, .int .i64 c.g, .int .i64 c.r, .int .i64 c.cp, .int .i64 c.f, .slice ma mem.length mc, .slice ja jobs.length jc]) := by rw [hw0]; exact Blk.new w 27 _
  have HM : Hid (Ints w0 w0.heap.size ma mem) := hm.up hB0
  have HB0 : Hid (Below w.heap.size w w0) := hB0
  have HW0 : Hid (w0 = w.alloc (.cells #[.int .i64 c.t, .int .i64 c.wd, .int .i64 c.s, .int .i64 c.g, .int .i64 c.r, .int .i64 c.cp, .int .i64 c.f, .slice ma mem.length mc, .slice ja jobs.length jc] 27)) := hw0
  obtain ⟨N, hN⟩ : ∃ N : Nat, N = (3 + 2 * c.s + c.t).toNat := ⟨_, rfl⟩
  have hNt : 3 + 2 * c.s + c.t + 0 = (N : Int) := by omega
  have hN23 : N ≤ 23 := by omega
  have HCS : Hid (cells0 c mem = List.replicate N 0 ++ mem) := by show cells0 c mem = _; rw [hN]; rfl
  obtain ⟨CS, hCS⟩ : ∃ CS, CS = cells0 c mem := ⟨_, rfl⟩
  have HCS2 : Hid (CS = List.replicate N 0 ++ mem) := hCS.trans HCS.out
  rw [← hCS]
  obtain ⟨i3, hi3, hz30, hz31, hz32⟩ := info_parts Tryz.info3
  clear hm hB0 hw0 hN hCS HCS S
  go_enter Tryz.func14, Tryz.ntmps14
  go_wp2_with fail
  rw [← show w0 = _ from HW0.out]
  refine (kword_any c HCF.out 0 _ _ _ _ _ _ w0 (by omega) (by omega)).mono ?_
  rintro e w1 ⟨rfl, hb1⟩
  rw [hNt]
  have HB1 : Hid (Below w.heap.size w w1) := (HB0.out).trans (hb1.mono (HB0.out).size)
  have HSb1 : Hid (Blk w1 w.heap.size 27 #[.int .i64 c.t, .int .i64 c.wd, .int .i64 c.s, .int .i64 c.g, .int .i64 c.r, .int .i64 c.cp, .int .i64 c.f, .slice ma mem.length mc, .slice ja jobs.length jc]) := (HSb.out).below hb1 (HSb.out).lt
  have HM1 : Hid (Ints w1 w1.heap.size ma mem) := (HM.out).up hb1
  have hsl1 := (HSb1.out).lt
  clear hb1 HSb HM HB0 HW0 HCF hNt
  go_wp2
  go_loopg [3, 5] (N + 1) (fun m t3 t5 wr => ∃ (j : Nat) (oa : Option Addr) (oc : Nat), t3 = .slice oa j oc ∧ t5 = .int .i64 (j : Int) ∧ j ≤ N ∧ m = N + 1 - j ∧ Hid (wr.ownsRow w1.heap.size 3 1 (.slice oa j oc) j ((List.replicate j (0 : Int)).map (Value.int .i64 ·))) ∧ Hid (Below w1.heap.size w1 wr))
  case atStart => exact ⟨0, none, 0, rfl, rfl, by omega, by omega, World.ownsRow_nil _ _ _ _, Below.refl _ _⟩
  case round =>
    obtain ⟨j, oa, oc, rfl, rfl, hj, hgj, HRo, HBx⟩ := hrel
    have hszx : w1.heap.size ≤ wr.heap.size := (HBx.out).size
    obtain ⟨OT, hOT⟩ : ∃ OT, OT = (List.replicate j (0 : Int)).map (Value.int .i64 ·) := ⟨_, rfl⟩
    rw [← hOT] at HRo
    by_cases hjl : j < N
    · have hjw : (j : Int) < (N : Int) := by omega
      have hwj : IntKind.i64.wrap ((j : Int) + 1) = (j : Int) + 1 := wrapF _ (by omega) (by omega)
      have HOn : Hid ((List.replicate (j + 1) (0 : Int)).map (Value.int .i64 ·) = OT ++ [.int .i64 0]) := by
        show _ = _
        rw [hOT, List.replicate_succ']
        simp
      clear hOT
      go_wp2_with
        (at_builtin;
         refine wpList_append_lies _ (by rfl) _ _ _ (by rfl) w1.heap.size 3 i3 _ 1 8 Tryz.underlying24 hi3 hz30 hz31 hz32 rfl (by omega) (.slice oa j oc) j OT (by rfl) ((HRo.out).alloc _)
           ⟨wr.heap.size, 0, none⟩ 1 1 [.int .i64 0] (by rfl) (by rfl) (World.news_of_block (cs := #[.int .i64 0]) (t := 3) (fr := (0, 0)) (heap_alloc_new wr _)) (by simp [Value.oneCell'])
           (by omega) (by unfold maxLen; omega) (by omega) (by simp; omega) (wr.heap.size + 1) (by simp) ?_;
         intro gg cap wz hown1 hgrow hat hlt;
         have HKz : Hid (Kp [3] w1.heap.size w1.heap.size w1.heap.size wr wz) := ((Kp.below ((Below.refl _ _).alloc (Nat.le_refl _) _) hszx).trans (Kp.grown hgrow (by simp; omega) ((HRo.out).alloc _) (by simp)));
         have HRz : Hid (wz.ownsRow w1.heap.size 3 1 (.slice (some ⟨gg, 0, none⟩) (j + 1) cap) (j + 1) (OT ++ [.int .i64 0])) := hown1;
         clear hown1 hgrow hat hlt)
      go_roundg (gk - 1)
      case rel =>
        refine ⟨j + 1, _, _, rfl, by simp, by omega, by omega, by rw [HOn.out]; exact HRz, ?_⟩
        have hk := HKz.out
        have h := HBx.out
        exact ⟨hk.os.trans h.os, hk.tape.trans h.tape, hk.output.trans h.output, Nat.le_trans h.size hk.size, fun b hb => (hk.low b hb (by omega) (by omega)).trans (h.block b hb)⟩
      case measure => omega
    · have hje : j = N := by omega
      have hjw : ¬ (j : Int) < (N : Int) := by omega
      have HMx : Hid (Ints wr wr.heap.size ma mem) := (HM1.out).up HBx.out
      have hml : 0 < mem.length := by omega
      obtain ⟨mb, mo, hma, hmbl, _⟩ := HMx.out 0 hml
      have hsx := ((HSb1.out).below HBx.out hsl1).cell
      have HNew : Hid (∀ (q : Nat) (u : Value), (mem.map (Value.int .i64 ·))[q]? = some u → wr.cell? ((⟨mb, mo, none⟩ : Addr).add q) = some u) := fun q u hq => by
        rw [List.getElem?_map] at hq
        by_cases hql : q < mem.length
        · obtain ⟨b', o', h1, h2, h3⟩ := HMx.out q hql
          rw [hma] at h1
          cases h1
          rw [List.getElem?_eq_getElem hql] at hq
          simp at hq
          rw [add_plain, h3, ← hq]
          simp [List.getD, List.getElem?_eq_getElem hql]
        · rw [List.getElem?_eq_none (by omega)] at hq
          cases hq
      have HCSm : Hid (CS.map (Value.int .i64 ·) = OT ++ mem.map (Value.int .i64 ·)) := by
        show _ = _
        rw [HCS2.out, hOT, hje, List.map_append]
      have hCSl : CS.length = j + mem.length := by rw [HCS2.out, hje]; simp
      have HCSl : Hid (CS.length = j + mem.length) := hCSl
      subst hma
      have HMl : Hid (∀ u ∈ mem.map (Value.int .i64 ·), u.oneCell' = true) := fun u hu => by
        obtain ⟨q, _, rfl⟩ := List.mem_map.1 hu
        simp [Value.oneCell']
      obtain ⟨MM, hMM⟩ : ∃ MM, MM = mem.map (Value.int .i64 ·) := ⟨_, rfl⟩
      have hMMl : MM.length = mem.length * 1 := by rw [hMM]; simp
      have HMMl : Hid (MM.length = mem.length * 1) := hMMl
      rw [← hMM] at HNew HCSm HMl
      clear hOT hje hCSl hMM hMMl HMx HM1
      go_wp2_with
        (at_builtin;
         refine wpList_append_lies _ (by rfl) _ _ _ (by rfl) w1.heap.size 3 i3 _ 1 8 Tryz.underlying24 hi3 hz30 hz31 hz32 rfl (by omega) (.slice oa j oc) j OT (by rfl) HRo.out
           ⟨mb, mo, none⟩ mem.length mc MM (by rfl) HMMl.out HNew.out HMl.out
           hml (by unfold maxLen; omega) (by omega) hszx wr.heap.size rfl ?_;
         intro gg cap wz hown1 hgrow hat hlt;
         have HKz : Hid (Kp [3] w1.heap.size w1.heap.size w1.heap.size wr wz) := (Kp.grown hgrow hszx HRo.out (by simp));
         have HRz : Hid (wz.ownsRow w1.heap.size 3 1 (.slice (some ⟨gg, 0, none⟩) (j + mem.length) cap) (j + mem.length) (OT ++ MM)) := hown1;
         clear hown1 hgrow hat hlt)
      go_ret
      refine ⟨⟨gg, cap, by rw [HCSl.out]; rfl, ?_⟩, ?_⟩
      · unfold CRow
        rw [HCSl.out, HCSm.out]
        exact own_mono HRz.out (HB1.out).size
      · have hk := HKz.out
        have h := HBx.out
        exact (HB1.out).trans ((⟨hk.os.trans h.os, hk.tape.trans h.tape, hk.output.trans h.output, Nat.le_trans h.size hk.size, fun b hb => (hk.low b hb (by omega) (by omega)).trans (h.block b hb)⟩ : Below w1.heap.size w1 wz).mono (HB1.out).size)

end Go.Proofs.YtejadojilncbjaaGreat

namespace Go.Proofs.YtejadojilncbjaaGreat
open Go.RowKit
set_option linter.unusedVariables false
attribute [local go_sem ↓] Go.wp_at_zero Go.wp_at_succ

/-- What an access leaves in the cells. -/
def touch (cs : List Int) (a : AccD) : List Int := if a.kind = 0 then cs else cs.set a.cell.toNat a.put
/-- It is an access to these cells. -/
def TouchOk (cs : List Int) (a : AccD) : Prop :=
  (a.kind = 0 ∧ a.cell = 0 ∧ a.seen = 0 ∧ a.put = 0) ∨
    ((0 ≤ a.cell ∧ a.cell < (cs.length : Int)) ∧ cs.getD a.cell.toNat 0 = a.seen ∧ (a.kind = 1 ∧ a.put = a.seen ∨ a.kind = 2 ∨ a.kind = 3 ∨ a.kind = 4 ∧ a.cell = 1 ∧ a.put = a.seen + 1))

set_option maxRecDepth 100000 in
set_option maxHeartbeats 4000000 in
theorem touched_any (cs : List Int) (a : AccD) (hok : TouchOk cs a) (hs0 : -1 ≤ a.seen) (hs1 : a.seen ≤ 1125899906842624) (base g cap : Nat) (w : World) (hr : CRow w base g cap cs) (hn : cs.length ≤ 1000) :
    Calls Tryz.prog 16 #[.slice (some ⟨g, 0, none⟩) cs.length cap, .agg #[.int .i64 a.kind, .int .i64 a.cell, .int .i64 a.seen, .int .i64 a.put]] w fun e w' =>
      e = .returned (.bool true) ∧ CRow w' base g cap (touch cs a) ∧ Only g w w' := by
  obtain ⟨kind, cell, seen, put⟩ := a
  simp only at hs0 hs1
  obtain ⟨hb0, hglt⟩ := hr.lt
  obtain ⟨w0, hw0⟩ : ∃ w0, w0 = w.alloc (.cells #[.int .i64 kind, .int .i64 cell, .int .i64 seen, .int .i64 put] 40) := ⟨_, rfl⟩
  have hB0 : Below w.heap.size w w0 := by rw [hw0]; exact (Below.refl w.heap.size w).alloc (Nat.le_refl _) _
  have hAb : Blk w0 w.heap.size 40 #[.int .i64 kind, .int .i64 cell, .int .i64 seen, .int .i64 put] := by rw [hw0]; exact Blk.new w 40 _
  have hr0 : CRow w0 base g cap cs := hr.below hB0 (by omega)
  have HR0 : Hid (CRow w0 base g cap cs) := hr0
  have HB0 : Hid (Below w.heap.size w w0) := hB0
  have HW0 : Hid (w0 = w.alloc (.cells #[.int .i64 kind, .int .i64 cell, .int .i64 seen, .int .i64 put] 40)) := hw0
  have hac := hAb.cell
  have hgl0 : g < w0.heap.size := hr0.lt.2
  have hne : g ≠ w.heap.size := by omega
  have hne' : w.heap.size ≠ g := by omega
  clear hr hB0 hAb hw0
  rcases hok with ⟨h0, h1, h2, h3⟩ | ⟨⟨hl, hh⟩, hsn, hk⟩
  · simp only at h0 h1 h2 h3
    subst h0 h1 h2 h3
    have HT : Hid (touch cs ⟨0, 0, 0, 0⟩ = cs) := if_pos rfl
    clear hr0
    go_enter Tryz.func16, Tryz.ntmps16
    go_wp2_with fail
    rw [← show w0 = _ from HW0.out]
    clear HW0
    go_wp2
    go_ret
    exact ⟨by simp, by rw [HT.out]; exact HR0.out, Only.below HB0.out⟩
  · simp only at hl hh hsn hk
    by_cases h4 : kind = 4
    · have h41 : cell = 1 ∧ put = seen + 1 := by omega
      obtain ⟨rfl, rfl⟩ := h41
      subst h4
      have hnl : 1 < cs.length := by omega
      have hcell : w0.cell? ⟨g, 1, none⟩ = some (.int .i64 seen) := by
        rw [hr0.cell hnl]
        rw [show (1 : Int).toNat = 1 from rfl] at hsn
        rw [hsn]
      have hfz : w0.frozen? ⟨g, 1, none⟩ = false := hr0.frozen 1
      have HEnd : Hid (∀ (put' : Int) (nq : Nat), CRow ((w0.drewN nq).setCell ⟨g, 1, none⟩ (.int .i64 put')) base g cap (cs.set 1 put') ∧ Only g w ((w0.drewN nq).setCell ⟨g, 1, none⟩ (.int .i64 put'))) := fun put' nq => by
        have h1 : CRow (w0.drewN nq) base g cap cs := ownsRow_keep hr0 ((Kp.refl (chg := []) base base base w0).drewN nq) (by simp)
        exact ⟨h1.set 1 put', ((Only.below HB0.out).drewN nq).set⟩
      have hge : ¬ ((cs.length : Int) ≤ 1) := by omega
      have hws : IntKind.i64.wrap (seen + 1) = seen + 1 := wrapF _ (by omega) (by omega)
      have HT : Hid (touch cs ⟨4, 1, seen, seen + 1⟩ = cs.set 1 (seen + 1)) := if_neg (by simp)
      clear hr0 hsn hl hk
      go_enter Tryz.func16, Tryz.ntmps16
      go_wp2_with fail
      rw [← show w0 = _ from HW0.out]
      clear HW0
      go_wp2
      go_quiet (fail)
      go_wp2
      go_ret
      exact ⟨by simp, by rw [HT.out]; exact (HEnd.out _ _).1, (HEnd.out _ _).2⟩
    have hk3 : kind = 1 ∧ put = seen ∨ kind = 2 ∨ kind = 3 := by omega
    clear h4 hk
    obtain ⟨n, rfl⟩ : ∃ n : Nat, cell = (n : Int) := ⟨cell.toNat, by omega⟩
    have hnl : n < cs.length := by omega
    have hcell : w0.cell? ⟨g, n, none⟩ = some (.int .i64 seen) := by
      rw [hr0.cell hnl]
      simp only [Int.toNat_natCast] at hsn
      rw [hsn]
    have hfz : w0.frozen? ⟨g, n, none⟩ = false := hr0.frozen n
    have HEnd : Hid (∀ (put' : Int) (nq : Nat), CRow ((w0.drewN nq).setCell ⟨g, n, none⟩ (.int .i64 put')) base g cap (cs.set n put') ∧ Only g w ((w0.drewN nq).setCell ⟨g, n, none⟩ (.int .i64 put'))) := fun put' nq => by
      have h1 : CRow (w0.drewN nq) base g cap cs := ownsRow_keep hr0 ((Kp.refl (chg := []) base base base w0).drewN nq) (by simp)
      exact ⟨h1.set n put', ((Only.below HB0.out).drewN nq).set⟩
    have hnl0 : (0 : Int) ≤ (n : Int) := by omega
    have hlt0 : ¬ ((n : Int) < 0) := by omega
    have hge : ¬ ((cs.length : Int) ≤ (n : Int)) := by omega
    have hws : IntKind.i64.wrap (seen + 1) = seen + 1 := wrapF _ (by omega) (by omega)
    clear hr0 hsn
    rcases hk3 with ⟨rfl, rfl⟩ | rfl | rfl
    · have HT : Hid (touch cs ⟨1, (n : Int), put, put⟩ = cs.set n put) := if_neg (by simp)
      go_enter Tryz.func16, Tryz.ntmps16
      go_wp2_with fail
      rw [← show w0 = _ from HW0.out]
      clear HW0
      go_wp2
      go_quiet (fail)
      go_wp2
      go_ret
      exact ⟨by simp, by rw [HT.out]; exact (HEnd.out _ _).1, (HEnd.out _ _).2⟩
    · have HT : Hid (touch cs ⟨2, (n : Int), seen, put⟩ = cs.set n put) := if_neg (by simp)
      go_enter Tryz.func16, Tryz.ntmps16
      go_wp2_with fail
      rw [← show w0 = _ from HW0.out]
      clear HW0
      go_wp2
      go_quiet (fail)
      go_wp2
      go_ret
      exact ⟨by simp, by rw [HT.out]; exact (HEnd.out _ _).1, (HEnd.out _ _).2⟩
    · have HT : Hid (touch cs ⟨3, (n : Int), seen, put⟩ = cs.set n put) := if_neg (by simp)
      go_enter Tryz.func16, Tryz.ntmps16
      go_wp2_with fail
      rw [← show w0 = _ from HW0.out]
      clear HW0
      go_wp2
      go_quiet (fail)
      go_wp2
      go_ret
      exact ⟨by simp, by rw [HT.out]; exact (HEnd.out _ _).1, (HEnd.out _ _).2⟩

end Go.Proofs.YtejadojilncbjaaGreat

namespace Go.Proofs.YtejadojilncbjaaGreat
set_option linter.unusedVariables false

/-! Locks: which stripes a machine holds, whether it is in the gate, which stripes it has shut: and that the cells say so. -/

def Holds (h : Th) (s : Int) : Prop := match h.st with
  | .idle => False
  | .start => False
  | .fin _ => False
  | .fTake => False
  | .fStat => False
  | .wait _ => False
  | .rest _ => False
  | .cOpen _ r => s ∈ r
  | .cOwn _ r => s ∈ r
  | .free _ r => s ∈ r
  | .fOwn r => s ∈ r
  | _ => s ∈ h.x.held

def hGate (h : Th) : Bool := match h.st with
  | .cClock => true
  | .cVer _ _ => true
  | .cShut _ _ => true
  | .cStamp _ => true
  | .cLeave _ => true
  | .fGate => true
  | _ => false

def Shuts (h : Th) (s : Int) : Prop := match h.st with
  | .cShut _ r => s ∈ h.x.held ∧ s ∉ r
  | .cStamp _ => s ∈ h.x.held
  | .cLeave _ => s ∈ h.x.held
  | .cWord _ _ => s ∈ h.x.held
  | .cOpen _ r => s ∈ r
  | .cOwn _ r => s ∈ r.tail
  | _ => False

/-- What the clock was seen to be, as long as it cannot go on. -/
def hClk (h : Th) : Option Int := match h.st with
  | .cVer c _ => some c
  | .cShut c _ => some c
  | .cStamp c => some c
  | _ => none

/-- The stamp that it drew. -/
def hStmp (h : Th) : Option Int := match h.st with
  | .cLeave c => some (c + 1)
  | .cWord c _ => some (c + 1)
  | .cOpen c _ => some (c + 1)
  | .cOwn c _ => some (c + 1)
  | _ => none

def Wh (K : Cx) (h : Th) : Prop := ∀ e ∈ h.x.writes, e.what.tmod K.c.s ∈ h.x.held
def exHeld (K : Cx) (h : Th) : Ex → Prop
  | .rd _ _ _ => True
  | .wr _ a => a.tmod K.c.s ∈ h.x.held

/-- What is true of a machine by itself. -/
def Loc (K : Cx) (h : Th) : Prop := match h.st with
  | .idle => True
  | .start => True
  | .rHeld _ _ => Wh K h ∧ h.x.inGate = false
  | .rVer _ _ => Wh K h ∧ h.x.inGate = false
  | .rWord _ _ _ => Wh K h ∧ h.x.inGate = false
  | .rAgain _ _ _ _ => Wh K h ∧ h.x.inGate = false
  | .xClock k => (Wh K h ∧ h.x.inGate = false) ∧ exHeld K h k
  | .xVer k _ _ => (Wh K h ∧ h.x.inGate = false) ∧ exHeld K h k
  | .gStat _ _ => Wh K h ∧ h.x.inGate = false
  | .gOwn _ _ => Wh K h ∧ h.x.inGate = false
  | .gTheir _ _ _ => Wh K h ∧ h.x.inGate = false
  | .gMark _ _ _ _ => Wh K h ∧ h.x.inGate = false
  | .gVer _ a => (Wh K h ∧ h.x.inGate = false) ∧ a.tmod K.c.s ∈ h.x.held
  | .tTake => Wh K h ∧ h.x.inGate = false
  | .tShow => Wh K h ∧ h.x.inGate = false
  | .cStat => Wh K h ∧ h.x.inGate = false
  | .cGate => Wh K h ∧ h.x.inGate = false
  | .cClock => Wh K h ∧ h.x.inGate = true
  | .cVer _ _ => Wh K h ∧ h.x.inGate = true
  | .cShut _ r => Wh K h ∧ r.Nodup ∧ ∀ s ∈ r, s ∈ h.x.held
  | .cStamp _ => Wh K h
  | .cLeave _ => Wh K h
  | .cWord _ r => ∀ e ∈ r, e.what.tmod K.c.s ∈ h.x.held
  | .cOpen _ r => r.Nodup
  | .cOwn _ r => r.Nodup
  | .free _ r => r.Nodup
  | .fin _ => True
  | .fGate => True
  | .fOwn r => r.Nodup
  | .fTake => True
  | .fStat => True
  | .wait _ => True
  | .rest _ => True

/-- What follows without an access leaves the locks. -/
structure Cont (K : Cx) (held : List Int) (gate : Bool) (h' : Th) : Prop where
  holds : ∀ s, Holds h' s ↔ s ∈ held
  gate : hGate h' = gate
  shuts : ∀ s, ¬ Shuts h' s
  clk : hClk h' = none
  stmp : hStmp h' = none
  loc : Loc K h'

theorem cont_free {K : Cx} {h : Th} (hn : h.x.held.Nodup) (e : Int) : Cont K h.x.held false (hFreeAt e h.x.held h) := by
  cases hh : h.x.held with
  | nil => exact ⟨fun s => by simp [hFreeAt, Holds], rfl, fun s => by simp [hFreeAt, Shuts], rfl, rfl, trivial⟩
  | cons q r =>
    refine ⟨fun s => by simp [hFreeAt, Holds], rfl, fun s => by simp [hFreeAt, Shuts], rfl, rfl, ?_⟩
    show (q :: r).Nodup
    rw [← hh]; exact hn
theorem cont_close {K : Cx} {h : Th} (hn : h.x.held.Nodup) (hw : Wh K h) (hg : h.x.inGate = false) (e : Int) : Cont K h.x.held false (hClose e h) := by
  unfold hClose
  split
  · exact ⟨fun s => Iff.rfl, rfl, fun s => by simp [Shuts], rfl, rfl, hw, hg⟩
  · exact cont_free hn e
theorem cont_count {K : Cx} {h : Th} : Cont K [] false (hCount K h) := by
  unfold hCount
  split
  · exact ⟨fun s => by simp [Holds], rfl, fun s => by simp [Shuts], rfl, rfl, trivial⟩
  · exact ⟨fun s => by simp [Holds], rfl, fun s => by simp [Shuts], rfl, rfl, trivial⟩
theorem cont_failown {K : Cx} {h : Th} {r : List Int} (hn : r.Nodup) : Cont K r false (hFailOwn K r h) := by
  cases r with
  | nil => exact cont_count
  | cons q r => exact ⟨fun s => by simp [hFailOwn, Holds], rfl, fun s => by simp [hFailOwn, Shuts], rfl, rfl, hn⟩
theorem cont_fail {K : Cx} {h : Th} (hn : h.x.held.Nodup) : Cont K h.x.held h.x.inGate (hFail K h) := by
  unfold hFail
  by_cases hg : h.x.inGate = true
  · rw [if_pos hg, hg]
    exact ⟨fun s => Iff.rfl, rfl, fun s => by simp [Shuts], rfl, rfl, trivial⟩
  · rw [if_neg hg, show h.x.inGate = false from by simpa using hg]
    exact cont_failown hn

/-- What one instruction leaves. -/
structure Kept (K : Cx) (h h' : Th) : Prop where
  held : h'.x.held = h.x.held
  gate : h'.x.inGate = h.x.inGate
  wh : Wh K h'

theorem put_mem {l : List EntD} {a v : Int} {e : EntD} (h : e ∈ putEnt l a v) : e ∈ l ∨ e.what = a := by
  unfold putEnt at h
  split at h
  · rcases List.mem_or_eq_of_mem_set h with h3 | h3
    · exact Or.inl h3
    · exact Or.inr (by rw [h3])
  · rcases List.mem_append.1 h with h3 | h3
    · exact Or.inl h3
    · exact Or.inr (by rw [List.mem_singleton.1 h3])

theorem kept_put {K : Cx} {h : Th} {i : InsD} {a : Int} (hw : Wh K h) (ha : a.tmod K.c.s ∈ h.x.held) : Kept K h (hPut i a h) := by
  refine ⟨rfl, rfl, fun e he => ?_⟩
  rcases put_mem (show e ∈ putEnt h.x.writes a _ from he) with h1 | h1
  · exact hw e h1
  · rw [h1]; exact ha

theorem held_true {x : TS} {s : Int} (h : heldB x s = true) : s ∈ x.held := by
  unfold heldB at h
  rw [List.any_eq_true] at h
  obtain ⟨q, hq, e⟩ := h
  have : q = s := by simpa using e
  rw [← this]; exact hq

/-- One instruction: either the code goes on, or an access is due. -/
def Did1 (K : Cx) (h : Th) (t : Bool × Th) : Prop := (t.1 = true → Kept K h t.2) ∧ (t.1 = false → Cont K h.x.held false t.2)
theorem Did1.off {K : Cx} {h h' : Th} (A : Cont K h.x.held false h') : Did1 K h (false, h') := ⟨(fun e => nomatch e), fun _ => A⟩
theorem Did1.on {K : Cx} {h h' : Th} (A : Kept K h h') : Did1 K h (true, h') := ⟨fun _ => A, (fun e => nomatch e)⟩

theorem Did1.of {K : Cx} {h h1 : Th} {t : Bool × Th} (e1 : h1.x.held = h.x.held) (e2 : h1.x.inGate = h.x.inGate) (D : Did1 K h1 t) : Did1 K h t :=
  ⟨fun b => ⟨(D.1 b).held.trans e1, (D.1 b).gate.trans e2, (D.1 b).wh⟩, fun b => by rw [← e1]; exact D.2 b⟩

theorem did_read {K : Cx} {h : Th} {i : InsD} (hn : h.x.held.Nodup) (hw : Wh K h) (hg : h.x.inGate = false) : Did1 K h (hRead K i h) := by
  unfold hRead
  simp only
  split
  · exact Did1.off (cont_close hn hw hg 3)
  · cases he : entIdx h.x.writes (regOf h.x i.b) with
    | some j => exact Did1.on ⟨rfl, rfl, hw⟩
    | none =>
      simp only
      refine Did1.off ?_
      split
      · exact ⟨fun s => Iff.rfl, rfl, fun s => by simp [Shuts], rfl, rfl, hw, hg⟩
      · exact ⟨fun s => Iff.rfl, rfl, fun s => by simp [Shuts], rfl, rfl, hw, hg⟩
theorem did_write {K : Cx} {h : Th} {i : InsD} (hn : h.x.held.Nodup) (hw : Wh K h) (hg : h.x.inGate = false) : Did1 K h (hWrite K i h) := by
  unfold hWrite
  simp only
  split
  · exact Did1.off (cont_close hn hw hg 3)
  · split
    · rename_i hh
      exact Did1.on (kept_put hw (held_true hh))
    · exact Did1.off ⟨fun s => Iff.rfl, rfl, fun s => by simp [Shuts], rfl, rfl, hw, hg⟩

theorem did_step {K : Cx} {h : Th} (hn : h.x.held.Nodup) (hw : Wh K h) (hg : h.x.inGate = false) : Did1 K h (hStep K h) := by
  unfold hStep
  by_cases h1 : h.x.place = h.x.code.length
  · rw [if_pos h1]; exact Did1.off (cont_close hn hw hg 1)
  rw [if_neg h1]
  by_cases h2 : (h.x.begun : Int) = K.c.f
  · rw [if_pos h2]; exact Did1.off (cont_close hn hw hg 4)
  rw [if_neg h2]
  simp only
  generalize insAt h.x.code h.x.place = i at *
  by_cases h3 : formedB i h.x.code.length = false
  · rw [if_pos h3]; exact Did1.off (cont_close (h := { h with x := { h.x with begun := h.x.begun + 1 } }) hn hw hg 3)
  rw [if_neg h3]
  by_cases o0 : i.op = 0
  · rw [if_pos o0]; exact Did1.off (cont_close (h := { h with x := { h.x with begun := h.x.begun + 1, place := h.x.place + 1 } }) hn hw hg 1)
  rw [if_neg o0]
  by_cases o1 : i.op = 1
  · rw [if_pos o1]; exact Did1.off (cont_close (h := { h with x := { h.x with begun := h.x.begun + 1, place := h.x.place + 1 } }) hn hw hg 2)
  rw [if_neg o1]
  by_cases o2 : i.op = 2
  · rw [if_pos o2]; exact Did1.on ⟨rfl, rfl, hw⟩
  rw [if_neg o2]
  by_cases o3 : i.op = 3
  · rw [if_pos o3]; exact Did1.on ⟨rfl, rfl, hw⟩
  rw [if_neg o3]
  by_cases o4 : i.op = 4
  · rw [if_pos o4]; exact Did1.on ⟨rfl, rfl, hw⟩
  rw [if_neg o4]
  by_cases o5 : i.op = 5
  · rw [if_pos o5]; exact Did1.on ⟨rfl, rfl, hw⟩
  rw [if_neg o5]
  by_cases o6 : i.op = 6
  · rw [if_pos o6]
    split
    · exact Did1.on ⟨rfl, rfl, hw⟩
    · exact Did1.on ⟨rfl, rfl, hw⟩
  rw [if_neg o6]
  by_cases o7 : i.op = 7
  · rw [if_pos o7]; exact Did1.of (h1 := { h with x := { h.x with begun := h.x.begun + 1, place := h.x.place + 1 } }) rfl rfl (did_read hn hw hg)
  · rw [if_neg o7]; exact Did1.of (h1 := { h with x := { h.x with begun := h.x.begun + 1, place := h.x.place + 1 } }) rfl rfl (did_write hn hw hg)

theorem cont_go {K : Cx} : ∀ {h : Th}, (h.x.begun : Int) ≤ K.c.f → h.x.held.Nodup → Wh K h → h.x.inGate = false → Cont K h.x.held false (hGo K h) := by
  have H : ∀ (n : Nat) (h : Th), n = K.c.f.toNat - h.x.begun → (h.x.begun : Int) ≤ K.c.f → h.x.held.Nodup → Wh K h → h.x.inGate = false → Cont K h.x.held false (hGo K h) := by
    intro n
    induction n with
    | zero =>
      intro h hnn hb hn hw hg
      rw [hGo_eq K h hb]
      by_cases hs : (hStep K h).1 = true
      · have := hStep_begun K h hs
        omega
      · rw [if_neg hs]
        exact (did_step hn hw hg).2 (by simpa using hs)
    | succ n ih =>
      intro h hnn hb hn hw hg
      rw [hGo_eq K h hb]
      by_cases hs : (hStep K h).1 = true
      · rw [if_pos hs]
        have hbg := hStep_begun K h hs
        have k := (did_step hn hw hg).1 hs
        have := ih _ (by omega) (by omega) (by rw [k.held]; exact hn) k.wh (k.gate.trans hg)
        rw [k.held] at this
        exact this
      · rw [if_neg hs]
        exact (did_step hn hw hg).2 (by simpa using hs)
  exact fun {h} hb hn hw hg => H _ h rfl hb hn hw hg

theorem cont_got {K : Cx} {h : Th} {i : InsD} {a v : Int} (hb : (h.x.begun : Int) ≤ K.c.f) (hn : h.x.held.Nodup) (hw : Wh K h) (hg : h.x.inGate = false) : Cont K h.x.held false (hGot K i a v h) :=
  cont_go (h := ({ h with x := setReg h.x i.a v } : Th).noted 7 a v) hb hn hw hg
theorem cont_wrote {K : Cx} {h : Th} {i : InsD} {a : Int} (hb : (h.x.begun : Int) ≤ K.c.f) (hn : h.x.held.Nodup) (hw : Wh K h) (hg : h.x.inGate = false) (ha : a.tmod K.c.s ∈ h.x.held) : Cont K h.x.held false (hWrote K i a h) := by
  have k := kept_put (i := i) hw ha
  unfold hWrote
  split
  · exact cont_go (h := hPut i a h) hb hn k.wh hg
  · exact ⟨fun s => Iff.rfl, rfl, fun s => by simp [Shuts], rfl, rfl, k.wh, hg⟩
theorem cont_exdone {K : Cx} {h : Th} {e : Ex} {c : Int} (hb : (h.x.begun : Int) ≤ K.c.f) (hn : h.x.held.Nodup) (hw : Wh K h) (hg : h.x.inGate = false) (he : exHeld K h e) : Cont K h.x.held false (hExDone K e c h) := by
  cases e with
  | rd i a v => exact cont_got (h := { h with list := modLast h.list (fun t => { t with valid := c }), x := { h.x with valid := c } }) hb hn hw hg
  | wr i a => exact cont_wrote (h := { h with list := modLast h.list (fun t => { t with valid := c }), x := { h.x with valid := c } }) hb hn hw hg he
theorem cont_exstill {K : Cx} {h : Th} {e : Ex} {c : Int} (hb : (h.x.begun : Int) ≤ K.c.f) (hn : h.x.held.Nodup) (hw : Wh K h) (hg : h.x.inGate = false) (he : exHeld K h e) (r : List EntD) : Cont K h.x.held false (hExStill K e c r h) := by
  cases r with
  | nil => exact cont_exdone hb hn hw hg he
  | cons q r => exact ⟨fun s => Iff.rfl, rfl, fun s => by simp [hExStill, Shuts], rfl, rfl, ⟨hw, hg⟩, he⟩

end Go.Proofs.YtejadojilncbjaaGreat
