import Derived.Test.YtgdfmmfkdmhdgaaG38
namespace Go.Proofs.Ytgdfmmfkdmhdgaa
open Go.ChangeShapes Go.WideShapes Go.ChangeAt Go.RowKit Go.Deep
set_option linter.unusedVariables false
attribute [local go_sem ↓] Go.wp_at_zero Go.wp_at_succ

theorem own_mono {w : World} {base base' : Nat} {e : TypeId} {size n : Nat} {v : Value} {xs : List Value} (h : w.ownsRow base e size v n xs) (hb : base' ≤ base) : w.ownsRow base' e size v n xs :=
  ⟨h.1, h.2.elim Or.inl (fun ⟨g, cap, cur, hv, hb0, r⟩ => Or.inr ⟨g, cap, cur, hv, Nat.le_trans hb hb0, r⟩)⟩

/-- Cells in a row of the call's own. -/
def CRow (w : World) (base g cap : Nat) (cs : List Int) : Prop := w.ownsRow base 3 1 (.slice (some ⟨g, 0, none⟩) cs.length cap) cs.length (cs.map (Value.int .i64 ·))

theorem CRow.cell {w : World} {base g cap : Nat} {cs : List Int} (h : CRow w base g cap cs) {i : Nat} (hi : i < cs.length) : w.cell? ⟨g, i, none⟩ = some (.int .i64 (cs.getD i 0)) := by
  rw [World.ownsRow.cellAt h i (by omega)]
  simp [List.getElem?_map, List.getD, List.getElem?_eq_getElem hi]
theorem CRow.frozen {w : World} {base g cap : Nat} {cs : List Int} (h : CRow w base g cap cs) (i : Nat) : w.frozen? ⟨g, i, none⟩ = false := World.ownsRow.frozenAt h i
theorem CRow.lt {w : World} {base g cap : Nat} {cs : List Int} (h : CRow w base g cap cs) : base ≤ g ∧ g < w.heap.size := World.ownsRow.lt h g rfl
theorem CRow.set {w : World} {base g cap : Nat} {cs : List Int} (h : CRow w base g cap cs) (i : Nat) (v : Int) : CRow (w.setCell ⟨g, i, none⟩ (.int .i64 v)) base g cap (cs.set i v) := by
  have := (World.ownsRow.stored h i (.int .i64 v)).1
  unfold CRow
  rw [List.length_set, List.map_set]
  exact this
theorem CRow.below {w w' : World} {base g cap : Nat} {cs : List Int} (h : CRow w base g cap cs) (hb : Below w.heap.size w w') (hB : base ≤ w.heap.size) : CRow w' base g cap cs := ownsRow_keep h (Kp.below (chg := []) (p := base) (eb := base) hb hB) (by simp)
theorem CRow.ints {w : World} {base g cap : Nat} {cs : List Int} (h : CRow w base g cap cs) : Ints w w.heap.size (some ⟨g, 0, none⟩) cs := fun i hi => ⟨g, 0, rfl, h.lt.2, by have := h.cell hi; simpa using this⟩

set_option maxHeartbeats 400000 in
theorem kword_any (c : Cfg) (hc : cfgB c = true) (n : Int) (a b : Option Addr) (l d m f : Nat) (w : World) (h3 : -70000 ≤ n) (h4 : n ≤ 1125899906842634) :
    Calls Try.prog 23 #[.agg #[.int .i64 c.t, .int .i64 c.wd, .int .i64 c.s, .int .i64 c.g, .int .i64 c.r, .int .i64 c.cp, .int .i64 c.f, .slice a l d, .slice b m f], .int .i64 n] w fun e w' =>
      e = .returned (.int .i64 (3 + 2 * c.s + c.t + n)) ∧ Below w.heap.size w w' := by
  obtain ⟨⟨t1, t2⟩, _, ⟨s1, s2⟩, _⟩ := cfgB_true hc
  have x1 : IntKind.i64.wrap (2 * c.s) = 2 * c.s := wrapF _ (by omega) (by omega)
  have x2 : IntKind.i64.wrap (3 + 2 * c.s) = 3 + 2 * c.s := wrapF _ (by omega) (by omega)
  have x3 : IntKind.i64.wrap (3 + 2 * c.s + c.t) = 3 + 2 * c.s + c.t := wrapF _ (by omega) (by omega)
  have x4 : IntKind.i64.wrap (3 + 2 * c.s + c.t + n) = 3 + 2 * c.s + c.t + n := wrapF _ (by omega) (by omega)
  clear hc
  go_enter Try.func23, Try.ntmps23
  go_wp2
  go_ret
  exact ⟨by simp, (Below.refl _ _).alloc (Nat.le_refl _) _⟩

set_option maxRecDepth 100000 in
set_option maxHeartbeats 2000000 in
theorem keepSame_any (a b : Option Addr) (ca cb : Nat) (zs : List Int) (w : World) (hn : zs.length ≤ 2 ^ 40) (ha : Ints w w.heap.size a zs) (hb : Ints w w.heap.size b zs) :
    Calls Try.prog 20 #[.slice a zs.length ca, .slice b zs.length cb] w fun e w' => e = .returned (.bool true) ∧ Below w.heap.size w w' := by
  have HA : Hid (Ints w w.heap.size a zs) := ha
  have HB : Hid (Ints w w.heap.size b zs) := hb
  clear ha hb
  go_enter Try.func20, Try.ntmps20
  go_wp2
  go_loopg [5] (zs.length + 1) (fun m t wr => ∃ k : Nat, t = .int .i64 (k : Int) ∧ k ≤ zs.length ∧ m = zs.length + 1 - k ∧ Hid (Below w.heap.size w wr))
  case atStart => exact ⟨0, rfl, by omega, by omega, Below.refl _ _⟩
  case round =>
    obtain ⟨k, rfl, hk, hgk, HBk⟩ := hrel
    by_cases hlt : k < zs.length
    · obtain ⟨b1, o1, hA1, hb1, hc1⟩ := HA.out k hlt
      obtain ⟨b2, o2, hB1, hb2, hc2⟩ := HB.out k hlt
      have hd1 : wr.cell? ⟨b1, o1 + k, none⟩ = some (.int .i64 (zs.getD k 0)) := (World.cell?_of_block ((HBk.out).block b1 hb1)).trans hc1
      have hd2 : wr.cell? ⟨b2, o2 + k, none⟩ = some (.int .i64 (zs.getD k 0)) := (World.cell?_of_block ((HBk.out).block b2 hb2)).trans hc2
      have hk0 : (0 : Int) ≤ (k : Int) := by omega
      have hk1 : (k : Int) < (zs.length : Int) := by omega
      have hwk : IntKind.i64.wrap ((k : Int) + 1) = (k : Int) + 1 := wrapF _ (by omega) (by omega)
      subst hA1 hB1
      generalize zs.getD k 0 = z at *
      clear hc1 hc2 HA HB
      go_wp2
      go_quiet (fail)
      go_wp2
      go_roundg (gk - 1)
      case rel => exact ⟨k + 1, by simp, by omega, by omega, belowDrewN HBk.out nq⟩
      case measure => omega
    · have hke : ¬ (k : Int) < (zs.length : Int) := by omega
      go_wp2
      go_ret
      exact ⟨rfl, HBk.out⟩

/-- The cells at the beginning. -/
def cells0 (c : Cfg) (mem : List Int) : List Int := List.replicate (3 + 2 * c.s + c.t).toNat 0 ++ mem

set_option maxRecDepth 100000 in
set_option maxHeartbeats 4000000 in
theorem begun_any (c : Cfg) (mem : List Int) (jobs : List (Int × List InsD)) (S : SetupOk c mem jobs) (ma ja : Option Addr) (mc jc : Nat) (w : World) (hm : Ints w w.heap.size ma mem) :
    Calls Try.prog 18 #[.agg #[.int .i64 c.t, .int .i64 c.wd, .int .i64 c.s, .int .i64 c.g, .int .i64 c.r, .int .i64 c.cp, .int .i64 c.f, .slice ma mem.length mc, .slice ja jobs.length jc]] w fun e w' =>
      (∃ g cap, e = .returned (.slice (some ⟨g, 0, none⟩) (cells0 c mem).length cap) ∧ CRow w' w.heap.size g cap (cells0 c mem)) ∧ Below w.heap.size w w' := by
  obtain ⟨⟨t1, t2⟩, ⟨x1, x2⟩, ⟨s1, s2⟩, _⟩ := cfgB_true S.cfg
  have hmw := S.mw
  have HCF : Hid (cfgB c = true) := S.cfg
  obtain ⟨w0, hw0⟩ : ∃ w0, w0 = w.alloc (.cells #[.int .i64 c.t, .int .i64 c.wd, .int .i64 c.s, .int .i64 c.g, .int .i64 c.r, .int .i64 c.cp, .int .i64 c.f, .slice ma mem.length mc, .slice ja jobs.length jc] 27) := ⟨_, rfl⟩
  have hB0 : Below w.heap.size w w0 := by rw [hw0]; exact (Below.refl w.heap.size w).alloc (Nat.le_refl _) _
  have HSb : Hid (Blk w0 w.heap.size 27 #[.int .i64 c.t, .int .i64 c.wd, .int .i64 c.s, .int .i64 c.g, .int .i64 c.r, .int .i64 c.cp, .int .i64 c.f, .slice ma mem.length mc, .slice ja jobs.length jc]) := by rw [hw0]; exact Blk.new w 27 _
  have HM : Hid (Ints w0 w0.heap.size ma mem) := hm.up hB0
  have HB0 : Hid (Below w.heap.size w w0) := hB0
  have HW0 : Hid (w0 = w.alloc (.cells #[.int .i64 c.t, .int .i64 c.wd, .int .i64 c.s, .int .i64 c.g, .int .i64 c.r, .int .i64 c.cp, .int .i64 c.f, .slice ma mem.length mc, .slice ja jobs.length jc] 27)) := hw0
  obtain ⟨N, hN⟩ : ∃ N : Nat, N = (3 + 2 * c.s + c.t).toNat := ⟨_, rfl⟩
  have hNt : 3 + 2 * c.s + c.t + 0 = (N : Int) := by omega
  have hN23 : N ≤ 23 := by omega
  have HCS : Hid (cells0 c mem = List.replicate N 0 ++ mem) := by show cells0 c mem = _; rw [hN]; rfl
  obtain ⟨CS, hCS⟩ : ∃ CS, CS = cells0 c mem := ⟨_, rfl⟩
  have HCS2 : Hid (CS = List.replicate N 0 ++ mem) := hCS.trans HCS.out
  rw [← hCS]
  obtain ⟨i3, hi3, hz30, hz31, hz32⟩ := info_parts Try.info3
  clear hm hB0 hw0 hN hCS HCS S
  go_enter Try.func18, Try.ntmps18
  go_wp2_with fail
  rw [← show w0 = _ from HW0.out]
  refine (kword_any c HCF.out 0 _ _ _ _ _ _ w0 (by omega) (by omega)).mono ?_
  rintro e w1 ⟨rfl, hb1⟩
  rw [hNt]
  have HB1 : Hid (Below w.heap.size w w1) := (HB0.out).trans (hb1.mono (HB0.out).size)
  have HSb1 : Hid (Blk w1 w.heap.size 27 #[.int .i64 c.t, .int .i64 c.wd, .int .i64 c.s, .int .i64 c.g, .int .i64 c.r, .int .i64 c.cp, .int .i64 c.f, .slice ma mem.length mc, .slice ja jobs.length jc]) := (HSb.out).below hb1 (HSb.out).lt
  have HM1 : Hid (Ints w1 w1.heap.size ma mem) := (HM.out).up hb1
  have hsl1 := (HSb1.out).lt
  clear hb1 HSb HM HB0 HW0 HCF hNt
  go_wp2
  go_loopg [3, 5] (N + 1) (fun m t3 t5 wr => ∃ (j : Nat) (oa : Option Addr) (oc : Nat), t3 = .slice oa j oc ∧ t5 = .int .i64 (j : Int) ∧ j ≤ N ∧ m = N + 1 - j ∧ Hid (wr.ownsRow w1.heap.size 3 1 (.slice oa j oc) j ((List.replicate j (0 : Int)).map (Value.int .i64 ·))) ∧ Hid (Below w1.heap.size w1 wr))
  case atStart => exact ⟨0, none, 0, rfl, rfl, by omega, by omega, World.ownsRow_nil _ _ _ _, Below.refl _ _⟩
  case round =>
    obtain ⟨j, oa, oc, rfl, rfl, hj, hgj, HRo, HBx⟩ := hrel
    have hszx : w1.heap.size ≤ wr.heap.size := (HBx.out).size
    obtain ⟨OT, hOT⟩ : ∃ OT, OT = (List.replicate j (0 : Int)).map (Value.int .i64 ·) := ⟨_, rfl⟩
    rw [← hOT] at HRo
    by_cases hjl : j < N
    · have hjw : (j : Int) < (N : Int) := by omega
      have hwj : IntKind.i64.wrap ((j : Int) + 1) = (j : Int) + 1 := wrapF _ (by omega) (by omega)
      have HOn : Hid ((List.replicate (j + 1) (0 : Int)).map (Value.int .i64 ·) = OT ++ [.int .i64 0]) := by
        show _ = _
        rw [hOT, List.replicate_succ']
        simp
      clear hOT
      go_wp2_with
        (at_builtin;
         refine wpList_append_lies _ (by rfl) _ _ _ (by rfl) w1.heap.size 3 i3 _ 1 8 Try.underlying24 hi3 hz30 hz31 hz32 rfl (by omega) (.slice oa j oc) j OT (by rfl) ((HRo.out).alloc _)
           ⟨wr.heap.size, 0, none⟩ 1 1 [.int .i64 0] (by rfl) (by rfl) (World.news_of_block (cs := #[.int .i64 0]) (t := 3) (fr := (0, 0)) (heap_alloc_new wr _)) (by simp [Value.oneCell'])
           (by omega) (by unfold maxLen; omega) (by omega) (by simp; omega) (wr.heap.size + 1) (by simp) ?_;
         intro gg cap wz hown1 hgrow hat hlt;
         have HKz : Hid (Kp [3] w1.heap.size w1.heap.size w1.heap.size wr wz) := ((Kp.below ((Below.refl _ _).alloc (Nat.le_refl _) _) hszx).trans (Kp.grown hgrow (by simp; omega) ((HRo.out).alloc _) (by simp)));
         have HRz : Hid (wz.ownsRow w1.heap.size 3 1 (.slice (some ⟨gg, 0, none⟩) (j + 1) cap) (j + 1) (OT ++ [.int .i64 0])) := hown1;
         clear hown1 hgrow hat hlt)
      go_roundg (gk - 1)
      case rel =>
        refine ⟨j + 1, _, _, rfl, by simp, by omega, by omega, by rw [HOn.out]; exact HRz, ?_⟩
        have hk := HKz.out
        have h := HBx.out
        exact ⟨hk.os.trans h.os, hk.tape.trans h.tape, hk.output.trans h.output, Nat.le_trans h.size hk.size, fun b hb => (hk.low b hb (by omega) (by omega)).trans (h.block b hb)⟩
      case measure => omega
    · have hje : j = N := by omega
      have hjw : ¬ (j : Int) < (N : Int) := by omega
      have HMx : Hid (Ints wr wr.heap.size ma mem) := (HM1.out).up HBx.out
      have hml : 0 < mem.length := by omega
      obtain ⟨mb, mo, hma, hmbl, _⟩ := HMx.out 0 hml
      have hsx := ((HSb1.out).below HBx.out hsl1).cell
      have HNew : Hid (∀ (q : Nat) (u : Value), (mem.map (Value.int .i64 ·))[q]? = some u → wr.cell? ((⟨mb, mo, none⟩ : Addr).add q) = some u) := fun q u hq => by
        rw [List.getElem?_map] at hq
        by_cases hql : q < mem.length
        · obtain ⟨b', o', h1, h2, h3⟩ := HMx.out q hql
          rw [hma] at h1
          cases h1
          rw [List.getElem?_eq_getElem hql] at hq
          simp at hq
          rw [add_plain, h3, ← hq]
          simp [List.getD, List.getElem?_eq_getElem hql]
        · rw [List.getElem?_eq_none (by omega)] at hq
          cases hq
      have HCSm : Hid (CS.map (Value.int .i64 ·) = OT ++ mem.map (Value.int .i64 ·)) := by
        show _ = _
        rw [HCS2.out, hOT, hje, List.map_append]
      have hCSl : CS.length = j + mem.length := by rw [HCS2.out, hje]; simp
      have HCSl : Hid (CS.length = j + mem.length) := hCSl
      subst hma
      have HMl : Hid (∀ u ∈ mem.map (Value.int .i64 ·), u.oneCell' = true) := fun u hu => by
        obtain ⟨q, _, rfl⟩ := List.mem_map.1 hu
        simp [Value.oneCell']
      obtain ⟨MM, hMM⟩ : ∃ MM, MM = mem.map (Value.int .i64 ·) := ⟨_, rfl⟩
      have hMMl : MM.length = mem.length * 1 := by rw [hMM]; simp
      have HMMl : Hid (MM.length = mem.length * 1) := hMMl
      rw [← hMM] at HNew HCSm HMl
      clear hOT hje hCSl hMM hMMl HMx HM1
      go_wp2_with
        (at_builtin;
         refine wpList_append_lies _ (by rfl) _ _ _ (by rfl) w1.heap.size 3 i3 _ 1 8 Try.underlying24 hi3 hz30 hz31 hz32 rfl (by omega) (.slice oa j oc) j OT (by rfl) HRo.out
           ⟨mb, mo, none⟩ mem.length mc MM (by rfl) HMMl.out HNew.out HMl.out
           hml (by unfold maxLen; omega) (by omega) hszx wr.heap.size rfl ?_;
         intro gg cap wz hown1 hgrow hat hlt;
         have HKz : Hid (Kp [3] w1.heap.size w1.heap.size w1.heap.size wr wz) := (Kp.grown hgrow hszx HRo.out (by simp));
         have HRz : Hid (wz.ownsRow w1.heap.size 3 1 (.slice (some ⟨gg, 0, none⟩) (j + mem.length) cap) (j + mem.length) (OT ++ MM)) := hown1;
         clear hown1 hgrow hat hlt)
      go_ret
      refine ⟨⟨gg, cap, by rw [HCSl.out]; rfl, ?_⟩, ?_⟩
      · unfold CRow
        rw [HCSl.out, HCSm.out]
        exact own_mono HRz.out (HB1.out).size
      · have hk := HKz.out
        have h := HBx.out
        exact (HB1.out).trans ((⟨hk.os.trans h.os, hk.tape.trans h.tape, hk.output.trans h.output, Nat.le_trans h.size hk.size, fun b hb => (hk.low b hb (by omega) (by omega)).trans (h.block b hb)⟩ : Below w1.heap.size w1 wz).mono (HB1.out).size)

end Go.Proofs.Ytgdfmmfkdmhdgaa

namespace Go.Proofs.Ytgdfmmfkdmhdgaa
open Go.RowKit
set_option linter.unusedVariables false
attribute [local go_sem ↓] Go.wp_at_zero Go.wp_at_succ

/-- What an access leaves in the cells. -/
def touch (cs : List Int) (a : AccD) : List Int := if a.kind = 0 then cs else cs.set a.cell.toNat a.put
/-- It is an access to these cells. -/
def TouchOk (cs : List Int) (a : AccD) : Prop :=
  (a.kind = 0 ∧ a.cell = 0 ∧ a.seen = 0 ∧ a.put = 0) ∨
    ((0 ≤ a.cell ∧ a.cell < (cs.length : Int)) ∧ cs.getD a.cell.toNat 0 = a.seen ∧ (a.kind = 1 ∧ a.put = a.seen ∨ a.kind = 2 ∨ a.kind = 3 ∨ a.kind = 4 ∧ a.cell = 1 ∧ a.put = a.seen + 1))

set_option maxRecDepth 100000 in
set_option maxHeartbeats 4000000 in
theorem touched_any (cs : List Int) (a : AccD) (hok : TouchOk cs a) (hs0 : -1 ≤ a.seen) (hs1 : a.seen ≤ 1125899906842624) (base g cap : Nat) (w : World) (hr : CRow w base g cap cs) (hn : cs.length ≤ 1000) :
    Calls Try.prog 19 #[.slice (some ⟨g, 0, none⟩) cs.length cap, .agg #[.int .i64 a.kind, .int .i64 a.cell, .int .i64 a.seen, .int .i64 a.put]] w fun e w' =>
      e = .returned (.bool true) ∧ CRow w' base g cap (touch cs a) ∧ Only g w w' := by
  obtain ⟨kind, cell, seen, put⟩ := a
  simp only at hs0 hs1
  obtain ⟨hb0, hglt⟩ := hr.lt
  obtain ⟨w0, hw0⟩ : ∃ w0, w0 = w.alloc (.cells #[.int .i64 kind, .int .i64 cell, .int .i64 seen, .int .i64 put] 51) := ⟨_, rfl⟩
  have hB0 : Below w.heap.size w w0 := by rw [hw0]; exact (Below.refl w.heap.size w).alloc (Nat.le_refl _) _
  have hAb : Blk w0 w.heap.size 51 #[.int .i64 kind, .int .i64 cell, .int .i64 seen, .int .i64 put] := by rw [hw0]; exact Blk.new w 51 _
  have hr0 : CRow w0 base g cap cs := hr.below hB0 (by omega)
  have HR0 : Hid (CRow w0 base g cap cs) := hr0
  have HB0 : Hid (Below w.heap.size w w0) := hB0
  have HW0 : Hid (w0 = w.alloc (.cells #[.int .i64 kind, .int .i64 cell, .int .i64 seen, .int .i64 put] 51)) := hw0
  have hac := hAb.cell
  have hgl0 : g < w0.heap.size := hr0.lt.2
  have hne : g ≠ w.heap.size := by omega
  have hne' : w.heap.size ≠ g := by omega
  clear hr hB0 hAb hw0
  rcases hok with ⟨h0, h1, h2, h3⟩ | ⟨⟨hl, hh⟩, hsn, hk⟩
  · simp only at h0 h1 h2 h3
    subst h0 h1 h2 h3
    have HT : Hid (touch cs ⟨0, 0, 0, 0⟩ = cs) := if_pos rfl
    clear hr0
    go_enter Try.func19, Try.ntmps19
    go_wp2_with fail
    rw [← show w0 = _ from HW0.out]
    clear HW0
    go_wp2
    go_ret
    exact ⟨by simp, by rw [HT.out]; exact HR0.out, Only.below HB0.out⟩
  · simp only at hl hh hsn hk
    by_cases h4 : kind = 4
    · have h41 : cell = 1 ∧ put = seen + 1 := by omega
      obtain ⟨rfl, rfl⟩ := h41
      subst h4
      have hnl : 1 < cs.length := by omega
      have hcell : w0.cell? ⟨g, 1, none⟩ = some (.int .i64 seen) := by
        rw [hr0.cell hnl]
        rw [show (1 : Int).toNat = 1 from rfl] at hsn
        rw [hsn]
      have hfz : w0.frozen? ⟨g, 1, none⟩ = false := hr0.frozen 1
      have HEnd : Hid (∀ (put' : Int) (nq : Nat), CRow ((w0.drewN nq).setCell ⟨g, 1, none⟩ (.int .i64 put')) base g cap (cs.set 1 put') ∧ Only g w ((w0.drewN nq).setCell ⟨g, 1, none⟩ (.int .i64 put'))) := fun put' nq => by
        have h1 : CRow (w0.drewN nq) base g cap cs := ownsRow_keep hr0 ((Kp.refl (chg := []) base base base w0).drewN nq) (by simp)
        exact ⟨h1.set 1 put', ((Only.below HB0.out).drewN nq).set⟩
      have hge : ¬ ((cs.length : Int) ≤ 1) := by omega
      have hws : IntKind.i64.wrap (seen + 1) = seen + 1 := wrapF _ (by omega) (by omega)
      have HT : Hid (touch cs ⟨4, 1, seen, seen + 1⟩ = cs.set 1 (seen + 1)) := if_neg (by simp)
      clear hr0 hsn hl hk
      go_enter Try.func19, Try.ntmps19
      go_wp2_with fail
      rw [← show w0 = _ from HW0.out]
      clear HW0
      go_wp2
      go_quiet (fail)
      go_wp2
      go_ret
      exact ⟨by simp, by rw [HT.out]; exact (HEnd.out _ _).1, (HEnd.out _ _).2⟩
    have hk3 : kind = 1 ∧ put = seen ∨ kind = 2 ∨ kind = 3 := by omega
    clear h4 hk
    obtain ⟨n, rfl⟩ : ∃ n : Nat, cell = (n : Int) := ⟨cell.toNat, by omega⟩
    have hnl : n < cs.length := by omega
    have hcell : w0.cell? ⟨g, n, none⟩ = some (.int .i64 seen) := by
      rw [hr0.cell hnl]
      simp only [Int.toNat_natCast] at hsn
      rw [hsn]
    have hfz : w0.frozen? ⟨g, n, none⟩ = false := hr0.frozen n
    have HEnd : Hid (∀ (put' : Int) (nq : Nat), CRow ((w0.drewN nq).setCell ⟨g, n, none⟩ (.int .i64 put')) base g cap (cs.set n put') ∧ Only g w ((w0.drewN nq).setCell ⟨g, n, none⟩ (.int .i64 put'))) := fun put' nq => by
      have h1 : CRow (w0.drewN nq) base g cap cs := ownsRow_keep hr0 ((Kp.refl (chg := []) base base base w0).drewN nq) (by simp)
      exact ⟨h1.set n put', ((Only.below HB0.out).drewN nq).set⟩
    have hnl0 : (0 : Int) ≤ (n : Int) := by omega
    have hlt0 : ¬ ((n : Int) < 0) := by omega
    have hge : ¬ ((cs.length : Int) ≤ (n : Int)) := by omega
    have hws : IntKind.i64.wrap (seen + 1) = seen + 1 := wrapF _ (by omega) (by omega)
    clear hr0 hsn
    rcases hk3 with ⟨rfl, rfl⟩ | rfl | rfl
    · have HT : Hid (touch cs ⟨1, (n : Int), put, put⟩ = cs.set n put) := if_neg (by simp)
      go_enter Try.func19, Try.ntmps19
      go_wp2_with fail
      rw [← show w0 = _ from HW0.out]
      clear HW0
      go_wp2
      go_quiet (fail)
      go_wp2
      go_ret
      exact ⟨by simp, by rw [HT.out]; exact (HEnd.out _ _).1, (HEnd.out _ _).2⟩
    · have HT : Hid (touch cs ⟨2, (n : Int), seen, put⟩ = cs.set n put) := if_neg (by simp)
      go_enter Try.func19, Try.ntmps19
      go_wp2_with fail
      rw [← show w0 = _ from HW0.out]
      clear HW0
      go_wp2
      go_quiet (fail)
      go_wp2
      go_ret
      exact ⟨by simp, by rw [HT.out]; exact (HEnd.out _ _).1, (HEnd.out _ _).2⟩
    · have HT : Hid (touch cs ⟨3, (n : Int), seen, put⟩ = cs.set n put) := if_neg (by simp)
      go_enter Try.func19, Try.ntmps19
      go_wp2_with fail
      rw [← show w0 = _ from HW0.out]
      clear HW0
      go_wp2
      go_quiet (fail)
      go_wp2
      go_ret
      exact ⟨by simp, by rw [HT.out]; exact (HEnd.out _ _).1, (HEnd.out _ _).2⟩

end Go.Proofs.Ytgdfmmfkdmhdgaa
