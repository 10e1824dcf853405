import Derived.Test.YtejadojilncbjaaGreatH45
import Derived.Deep.DeepCutAuto
namespace Go.Proofs.YtejadojilncbjaaGreat
open Go.RowKit
set_option linter.unusedVariables false
attribute [local go_sem ↓] Go.wp_at_zero Go.wp_at_succ

set_option maxRecDepth 100000 in
set_option maxHeartbeats 8000000 in
theorem begin_any (c : Cfg) (hc : cfgB c = true) (mem : List Int) (hmw : (mem.length : Int) = c.wd) (hmb : memB mem = true) (jobs : List (Int × List InsD)) (hjl : jobs.length ≤ 8) (ma ja : Option Addr) (mc jc : Nat) (w : World) (hm : Ints w w.heap.size ma mem) (hj : JobsRep w w.heap.size ja jobs) :
    Calls Tryz.prog 66 #[.agg #[.int .i64 c.t, .int .i64 c.wd, .int .i64 c.s, .int .i64 c.g, .int .i64 c.r, .int .i64 c.cp, .int .i64 c.f, .slice ma mem.length mc, .slice ja jobs.length jc]] w (BegunIs c mem jobs w) := by
  obtain ⟨⟨t1, t2⟩, ⟨w1, w2⟩, ⟨s1, s2⟩, _⟩ := cfgB_true hc
  have HC : Hid (cfgB c = true ∧ (mem.length : Int) = c.wd ∧ memB mem = true) := ⟨hc, hmw, hmb⟩
  have HM : Hid (Ints w w.heap.size ma mem) := hm
  have HJ : Hid (JobsRep w w.heap.size ja jobs) := hj
  obtain ⟨base, hbase⟩ : ∃ base : Nat, (base : Int) = 3 + 2 * c.s + c.t := ⟨(3 + 2 * c.s + c.t).toNat, by omega⟩
  obtain ⟨tn, htn⟩ : ∃ tn : Nat, (tn : Int) = c.t := ⟨c.t.toNat, by omega⟩
  have hB0 : Below w.heap.size w ((w.alloc (.cells #[.int .i64 c.t, .int .i64 c.wd, .int .i64 c.s, .int .i64 c.g, .int .i64 c.r, .int .i64 c.cp, .int .i64 c.f, .slice ma mem.length mc, .slice ja jobs.length jc] 27)).alloc (.cells #[.slice none 0 0, .slice none 0 0, .int .i64 0] 106)) := ((Below.refl _ _).alloc (Nat.le_refl _) _).alloc (by simp) _
  have HS0 : Hid (Blk ((w.alloc (.cells #[.int .i64 c.t, .int .i64 c.wd, .int .i64 c.s, .int .i64 c.g, .int .i64 c.r, .int .i64 c.cp, .int .i64 c.f, .slice ma mem.length mc, .slice ja jobs.length jc] 27)).alloc (.cells #[.slice none 0 0, .slice none 0 0, .int .i64 0] 106)) w.heap.size 27 #[.int .i64 c.t, .int .i64 c.wd, .int .i64 c.s, .int .i64 c.g, .int .i64 c.r, .int .i64 c.cp, .int .i64 c.f, .slice ma mem.length mc, .slice ja jobs.length jc]) := (Blk.new w 27 _).alloc _
  have HR0 : Hid (Blk ((w.alloc (.cells #[.int .i64 c.t, .int .i64 c.wd, .int .i64 c.s, .int .i64 c.g, .int .i64 c.r, .int .i64 c.cp, .int .i64 c.f, .slice ma mem.length mc, .slice ja jobs.length jc] 27)).alloc (.cells #[.slice none 0 0, .slice none 0 0, .int .i64 0] 106)) (w.heap.size + 1) 106 #[.slice none 0 0, .slice none 0 0, .int .i64 0]) := by
    have := Blk.new (w.alloc (.cells #[.int .i64 c.t, .int .i64 c.wd, .int .i64 c.s, .int .i64 c.g, .int .i64 c.r, .int .i64 c.cp, .int .i64 c.f, .slice ma mem.length mc, .slice ja jobs.length jc] 27)) 106 #[.slice none 0 0, .slice none 0 0, .int .i64 0]
    show Blk _ _ _ _
    simpa using this
  have HB0 : Hid (Below w.heap.size w ((w.alloc (.cells #[.int .i64 c.t, .int .i64 c.wd, .int .i64 c.s, .int .i64 c.g, .int .i64 c.r, .int .i64 c.cp, .int .i64 c.f, .slice ma mem.length mc, .slice ja jobs.length jc] 27)).alloc (.cells #[.slice none 0 0, .slice none 0 0, .int .i64 0] 106))) := hB0
  have hs0 : ((w.alloc (.cells #[.int .i64 c.t, .int .i64 c.wd, .int .i64 c.s, .int .i64 c.g, .int .i64 c.r, .int .i64 c.cp, .int .i64 c.f, .slice ma mem.length mc, .slice ja jobs.length jc] 27)).alloc (.cells #[.slice none 0 0, .slice none 0 0, .int .i64 0] 106)).heap.size = w.heap.size + 2 := by simp
  clear hm hj hB0 hc hmw hmb
  go_enter Tryz.func66, Tryz.ntmps66
  go_wp2_with fail
  obtain ⟨sb, hsb⟩ : ∃ sb, sb = w.heap.size := ⟨_, rfl⟩
  rw [← hsb] at HS0 HR0 ⊢
  have HSb : Hid (sb = w.heap.size) := hsb
  generalize (w.alloc (.cells #[.int .i64 c.t, .int .i64 c.wd, .int .i64 c.s, .int .i64 c.g, .int .i64 c.r, .int .i64 c.cp, .int .i64 c.f, .slice ma mem.length mc, .slice ja jobs.length jc] 27)).alloc (.cells #[.slice none 0 0, .slice none 0 0, .int .i64 0] 106) = w0 at *
  have HN : Hid (Calls Tryz.prog 79 #[.agg #[.int .i64 c.t, .int .i64 c.wd, .int .i64 c.s, .int .i64 c.g, .int .i64 c.r, .int .i64 c.cp, .int .i64 c.f], .slice ma mem.length mc] w0 (NewIs base mem w0)) := by
    obtain ⟨hc, hmw, hmb⟩ := HC.out
    exact newCells_any c base ma mc mem w0 hbase (by omega) (by omega) (by omega) (by omega) (by omega) (by omega) ((HM.out).up HB0.out)
  clear hsb
  refine (HN.out).mono ?_
  rintro e w2' ⟨nb, rfl, hn2, hb2, hnb⟩
  obtain ⟨Ds, hDs⟩ : ∃ Ds : List Int, Ds = List.replicate base (0 : Int) ++ mem := ⟨_, rfl⟩
  have hDl : Ds.length = base + mem.length := by rw [hDs]; simp
  rw [← hDs] at hn2
  rw [← hDl]
  have HDl : Hid (Ds.length = base + mem.length) := hDl
  clear hDl
  have HS2 : Hid (Blk w2' sb 27 #[.int .i64 c.t, .int .i64 c.wd, .int .i64 c.s, .int .i64 c.g, .int .i64 c.r, .int .i64 c.cp, .int .i64 c.f, .slice ma mem.length mc, .slice ja jobs.length jc]) := (HS0.out).below hb2 (HS0.out).lt
  have HR2 : Hid (Blk w2' (sb + 1) 106 #[.slice none 0 0, .slice none 0 0, .int .i64 0]) := (HR0.out).below hb2 (HR0.out).lt
  have HN2 : Hid (Blk w2' nb 3 (Ds.map (Value.int .i64 ·)).toArray) := hn2
  have HB2 : Hid (Below w.heap.size w w2') := (HB0.out).trans (hb2.mono (by omega))
  have HNb : Hid (w.heap.size + 2 ≤ nb) := by show _ ≤ _; omega
  have HDs : Hid (Ds = List.replicate base (0 : Int) ++ mem) := hDs
  have hs2 : w.heap.size + 2 ≤ w2'.heap.size := by have := hb2.size; omega
  have m0 := (HS2.out).cell
  have hsl : sb < w2'.heap.size := (HS2.out).lt
  clear HS0 HR0 HB0 HN hn2 hb2 hnb hDs hs0
  go_upto_region 2 with fail
  obtain ⟨wb, hwb⟩ : ∃ wb, wb = w2'.heap.size := ⟨_, rfl⟩
  have hB3 : Below w2'.heap.size w2' (w2'.alloc (.cells #[.slice (some ⟨nb, 0, none⟩) Ds.length Ds.length, .slice none 0 0, .int .i64 0] 106)) := (Below.refl _ _).alloc (Nat.le_refl _) _
  have HI3 : Hid (BI w.heap.size nb wb sb (sb + 1) Ds.length Ds.length #[.int .i64 c.t, .int .i64 c.wd, .int .i64 c.s, .int .i64 c.g, .int .i64 c.r, .int .i64 c.cp, .int .i64 c.f, .slice ma mem.length mc, .slice ja jobs.length jc] c jobs Ds none 0 0 [] (w2'.alloc (.cells #[.slice (some ⟨nb, 0, none⟩) Ds.length Ds.length, .slice none 0 0, .int .i64 0] 106))) := by
    refine ⟨(HS2.out).below hB3 (HS2.out).lt, (HR2.out).below hB3 (HR2.out).lt, by rw [hwb]; exact Blk.new w2' 106 _, (HN2.out).below hB3 (HN2.out).lt, World.ownsRow_nil _ _ _ _, rfl, fun i h => by simp at h, fun i j h => by simp at h, fun i h => by simp at h, fun i h => by simp at h, by have := HNb.out; omega, by have := HSb.out; omega⟩
  have HB3 : Hid (Below w.heap.size w (w2'.alloc (.cells #[.slice (some ⟨nb, 0, none⟩) Ds.length Ds.length, .slice none 0 0, .int .i64 0] 106))) := (HB2.out).trans (hB3.mono (by omega))
  have HWb : Hid (w.heap.size ≤ wb) := by show _ ≤ _; omega
  rw [← hwb]
  clear HS2 HR2 HN2 HB2 hB3 hwb hs2 m0 hsl
  generalize w2'.alloc (.cells #[.slice (some ⟨nb, 0, none⟩) Ds.length Ds.length, .slice none 0 0, .int .i64 0] 106) = w3 at *
  obtain ⟨iz, hiz, hz0, hz1, hz2⟩ := info_parts Tryz.info119
  go_wp2_with fail
  go_loopg [4] (tn + 1) (fun m t4 wr => ∃ (k : Nat) (ta : Option Addr) (tcap : Nat) (q : List (PT × Ls)), t4 = .int .i64 (k : Int) ∧ k ≤ tn ∧ m = tn + 1 - k ∧ Hid (BI w.heap.size nb wb sb (sb + 1) Ds.length Ds.length #[.int .i64 c.t, .int .i64 c.wd, .int .i64 c.s, .int .i64 c.g, .int .i64 c.r, .int .i64 c.cp, .int .i64 c.f, .slice ma mem.length mc, .slice ja jobs.length jc] c jobs Ds ta tcap k q wr) ∧ Hid (Below w.heap.size w wr))
  case atStart => exact ⟨0, none, 0, [], rfl, by omega, by omega, HI3, HB3⟩
  case round =>
    obtain ⟨k, ta, tcap, q, rfl, hk, hgk, HI, HB⟩ := hrel
    clear HI3 HB3
    have m0 := (HI.out).setup.cell
    have m1 := (HI.out).wst.cell
    by_cases hlt : k < tn
    · have hlt' : (k : Int) < c.t := by omega
      have hwk : IntKind.i64.wrap ((k : Int) + 1) = (k : Int) + 1 := wrapP _ (by omega) (by omega)
      have HNw : Hid (∀ W, (∃ m, W = wr.drewN m) → Calls Tryz.prog 80 #[.agg #[.int .i64 c.t, .int .i64 c.wd, .int .i64 c.s, .int .i64 c.g, .int .i64 c.r, .int .i64 c.cp, .int .i64 c.f], .int .i64 (k : Int), .slice ja jobs.length jc] W fun e w' =>
          ∃ ma mc, e = .returned (.agg (tArr (tInit c jobs k) (L0 ma mc)).toArray) ∧ w'.ownsRow W.heap.size 3 1 (.slice ma (mineF k 0 jobs).length mc) (mineF k 0 jobs).length (intCells (mineF k 0 jobs)) ∧ Below W.heap.size W w') := fun W hW => by
        obtain ⟨m, rfl⟩ := hW
        exact new_any c k jobs ja jc (wr.drewN m) (((HJ.out).up HB.out).mono (HB.out).size) hjl
      have hwbl : wb < wr.heap.size := (HI.out).wst.lt
      have hpne : (Value.slice ta k tcap).ownBlock ≠ some wb := fun q => own_tag (HI.out).thr (HI.out).wst (by decide) wb q rfl
      have hbs : w.heap.size ≤ wr.heap.size := (HB.out).size
      have hk4 : k ≤ 4 := by omega
      go_wp2_with fail
      go_region_law
        (first
          | (go_simp; go_at_call 80; refine (HNw.out _ ⟨1, rfl⟩).mono ?_; rintro e w5 ⟨ma5, mc5, rfl, hm5, hb5⟩;
             have HI5 : Hid (BI w.heap.size nb wb sb (sb + 1) Ds.length Ds.length #[.int .i64 c.t, .int .i64 c.wd, .int .i64 c.s, .int .i64 c.g, .int .i64 c.r, .int .i64 c.cp, .int .i64 c.f, .slice ma mem.length mc, .slice ja jobs.length jc] c jobs Ds ta tcap k q w5) := (HI.out).below ((below_drew wr).trans hb5);
             have HM5 : Hid (w5.ownsRow wr.heap.size 3 1 (.slice ma5 (mineF k 0 jobs).length mc5) (mineF k 0 jobs).length (intCells (mineF k 0 jobs)) ∧ Below wr.heap.size wr w5) := ⟨hm5, (below_drew wr).trans hb5⟩;
             have n1 := (HI5.out).wst.cell; have hwb5 : wb < w5.heap.size := (HI5.out).wst.lt; have hwb6 : wb ≠ w5.heap.size := (by omega); have hbs5 : w.heap.size ≤ w5.heap.size := Nat.le_trans hbs hb5.size;
             obtain ⟨T, hT⟩ : ∃ T, T = tArr (tInit c jobs k) (L0 ma5 mc5) := ⟨_, rfl⟩; have HT : Hid (T = tArr (tInit c jobs k) (L0 ma5 mc5) ∧ T.length = 47 ∧ ∀ u ∈ T, u.oneCell' = true) := ⟨hT, by rw [hT]; rfl, by rw [hT]; unfold tInit yBegin yLoad; split <;> simp [tArr, t0, L0, Value.oneCell']⟩; rw [← hT]; have hTl : T.length = 47 := (HT.out).2.1; have hfold : List.foldl (fun cs x => cs.setIfInBounds x.snd x.fst) #[.int .i64 0, .int .i64 0, .int .i64 0, .int .i64 0, .int .i64 0, .int .i64 0, .int .i64 0, .int .i64 0, .slice none 0 0, .int .i64 0, .slice none 0 0, .int .i64 0, .int .i64 0, .int .i64 0, .int .i64 0, .int .i64 0, .int .i64 0, .int .i64 0, .int .i64 0, .int .i64 0, .int .i64 0, .int .i64 0, .int .i64 0, .int .i64 0, .int .i64 0, .int .i64 0, .slice none 0 0, .int .i64 0, .int .i64 0, .int .i64 0, .int .i64 0, .int .i64 0, .int .i64 0, .int .i64 0, .int .i64 0, .int .i64 0, .int .i64 0, .int .i64 0, .slice none 0 0, .slice none 0 0, .slice none 0 0, .int .i64 0, .int .i64 0, .int .i64 0, .int .i64 0, .int .i64 0, .int .i64 0] T.zipIdx = T.toArray := (by have := fold_set T 0 #[.int .i64 0, .int .i64 0, .int .i64 0, .int .i64 0, .int .i64 0, .int .i64 0, .int .i64 0, .int .i64 0, .slice none 0 0, .int .i64 0, .slice none 0 0, .int .i64 0, .int .i64 0, .int .i64 0, .int .i64 0, .int .i64 0, .int .i64 0, .int .i64 0, .int .i64 0, .int .i64 0, .int .i64 0, .int .i64 0, .int .i64 0, .int .i64 0, .int .i64 0, .int .i64 0, .slice none 0 0, .int .i64 0, .int .i64 0, .int .i64 0, .int .i64 0, .int .i64 0, .int .i64 0, .int .i64 0, .int .i64 0, .int .i64 0, .int .i64 0, .int .i64 0, .slice none 0 0, .slice none 0 0, .slice none 0 0, .int .i64 0, .int .i64 0, .int .i64 0, .int .i64 0, .int .i64 0, .int .i64 0] (by rw [hTl]; rfl); simpa using this); clear hm5 hb5 hT)
          | (refine step_append_lies _ (by rfl) _ _ _ (by rfl) w.heap.size 119 iz _ 47 472 Tryz.underlying104 hiz hz0 hz1 hz2 rfl (by omega) (.slice ta k tcap) k (rowsOf q).flatten (by rfl) (World.ownsRow.alloc (by exact (HI5.out).thr) _)
              ⟨w5.heap.size, 0, none⟩ 1 1 T (by rfl) (by rw [(HT.out).2.1]) (World.news_of_block (cs := T.toArray) (t := 119) (fr := (0, 0)) (by exact heap_alloc_new w5 _)) (HT.out).2.2
              (by omega) (by unfold maxLen; omega) (by omega) (by simp; omega) (w5.heap.size + 1) (by simp) ?_; intro gg cap7 w7 hown1 hgrow hat hlt7;
             have hd8 : w7.cell? ⟨wb, 1, none⟩ = some (.slice ta k tcap) := (by rw [hgrow.cell_far _ (by simp; omega) (Ne.symm hpne)]; exact ((HI5.out).below ((Below.refl _ _).alloc (Nat.le_refl _) _)).wst.cell 1);
             have he8 : w7.frozen? ⟨wb, 1, none⟩ = false := (by rw [hgrow.frozen_far _ (by simp; omega) (Ne.symm hpne)]; exact ((HI5.out).below ((Below.refl _ _).alloc (Nat.le_refl _) _)).wst.frozen 1)))
      all_goals
        have HI8 : Hid (BI w.heap.size nb wb sb (sb + 1) Ds.length Ds.length #[.int .i64 c.t, .int .i64 c.wd, .int .i64 c.s, .int .i64 c.g, .int .i64 c.r, .int .i64 c.cp, .int .i64 c.f, .slice ma mem.length mc, .slice ja jobs.length jc] c jobs Ds (some ⟨gg, 0, none⟩) cap7 (k + 1) (q ++ [(tInit c jobs k, L0 ma5 mc5)]) (w7.setCell ⟨wb, 1, none⟩ (.slice (some ⟨gg, 0, none⟩) (k + 1) cap7))) :=
          BI.add HI.out (HM5.out).2 (HM5.out).1 hbs ((Below.refl _ _).alloc (Nat.le_refl _) _) hgrow ((HT.out).1 ▸ hown1)
        have HB8 : Hid (Below w.heap.size w (w7.setCell ⟨wb, 1, none⟩ (.slice (some ⟨gg, 0, none⟩) (k + 1) cap7))) :=
          bi_below HB.out (HM5.out).2 ((Below.refl _ _).alloc (Nat.le_refl _) _) (HI.out).thr hgrow HWb.out _
        clear HI HB HI5 HM5 HT HNw hown1 hgrow hat hlt7 hd8 he8 hfold hTl n1 m0 m1 hwb5 hwb6 hbs5 hwbl hpne hbs
        generalize w7.setCell ⟨wb, 1, none⟩ (.slice (some ⟨gg, 0, none⟩) (k + 1) cap7) = w8 at *
        go_wp2_with fail
        go_roundg (gk - 1)
        case rel => exact ⟨k + 1, some ⟨gg, 0, none⟩, cap7, q ++ [(tInit c jobs k, L0 ma5 mc5)], by simp, by omega, by omega, HI8, HB8⟩
        case measure => omega
    · have hkj : k = tn := by omega
      subst hkj
      have hlt2 : ¬ ((k : Int) < c.t) := by omega
      have m2 := (HI.out).res.cell
      have hf2 := (HI.out).res.frozen
      have hl2 : sb + 1 < wr.heap.size := (HI.out).res.lt
      have hwr : wb ≠ sb + 1 := (HI.out).sne
      have HRs : Hid (Blk wr (sb + 1) 106 #[.slice none 0 0, .slice none 0 0, .int .i64 0]) := (HI.out).res
      go_wp2_with fail
      obtain ⟨hc, hmw, hmb⟩ := HC.out
      have hsb : w.heap.size ≤ sb + 1 := by have := HSb.out; omega
      refine bodyPost_ret (v := .agg #[.slice (some ⟨nb, 0, none⟩) Ds.length Ds.length, .slice ta k tcap, .int .i64 0]) ?_ rfl (begun_of hc hmw hmb hjl hbase htn (by omega) HDs.out HI.out HB.out ((((Only.refl _ _).set).set).set) hsb)
      have hb : Blk (((wr.setCell ⟨sb + 1, 0, none⟩ (.slice (some ⟨nb, 0, none⟩) Ds.length Ds.length)).setCell ⟨sb + 1, 1, none⟩ (.slice ta k tcap)).setCell ⟨sb + 1, 2, none⟩ (.int .i64 0)) (sb + 1) 106 #[.slice (some ⟨nb, 0, none⟩) Ds.length Ds.length, .slice ta k tcap, .int .i64 0] := ((HRs.out).set.set.set).congr (by simp)
      generalize ((wr.setCell ⟨sb + 1, 0, none⟩ (.slice (some ⟨nb, 0, none⟩) Ds.length Ds.length)).setCell ⟨sb + 1, 1, none⟩ (.slice ta k tcap)).setCell ⟨sb + 1, 2, none⟩ (.int .i64 0) = w9 at *
      have h9 := hb.cell
      clear HI HB HRs m0 m1 m2 hf2
      simp [results, Tryz.results66, go_sem, h9]

end Go.Proofs.YtejadojilncbjaaGreat
