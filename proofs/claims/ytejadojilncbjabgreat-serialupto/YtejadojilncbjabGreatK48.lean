import Derived.Test.YtejadojilncbjabGreatK47
import Derived.Deep.DeepCutAuto
import Derived.Test.YtejadojilncbjabGreatK39
import Derived.Test.YtejadojilncbjabGreatK35
namespace Go.Proofs.YtejadojilncbjabGreat
open Go.RowKit
set_option linter.unusedVariables false
attribute [local go_sem ↓] Go.wp_at_zero Go.wp_at_succ
set_option maxRecDepth 100000 in
set_option maxHeartbeats 8000000 in
theorem begin_any (c : Cfg) (hc : cfgB c = true) (mem : List Int) (hmw : (mem.length : Int) = c.wd) (hmb : memB mem = true) (jobs : List (Int × List InsD)) (hjl : jobs.length ≤ 8) (ma ja : Option Addr) (mc jc : Nat) (w : World) (hm : Ints w w.heap.size ma mem) (hj : JobsRep w w.heap.size ja jobs) :
  Calls Tryz.prog 104 #[.agg #[.int .i64 c.t, .int .i64 c.wd, .int .i64 c.s, .int .i64 c.g, .int .i64 c.r, .int .i64 c.cp, .int .i64 c.f, .slice ma mem.length mc, .slice ja jobs.length jc]] w (BegunIs c mem jobs w) := by
 obtain ⟨⟨t1, t2⟩, ⟨w1, w2⟩, ⟨s1, s2⟩, _⟩ := cfgB_true hc
 have HC : Hid (cfgB c = true ∧ (mem.length : Int) = c.wd ∧ memB mem = true) := ⟨hc, hmw, hmb⟩
 have HM : Hid (Ints w w.heap.size ma mem) := hm
 have HJ : Hid (JobsRep w w.heap.size ja jobs) := hj
 obtain ⟨base, hbase⟩ : ∃ base : Nat, (base : Int) = 3 + 2 * c.s + c.t := ⟨(3 + 2 * c.s + c.t).toNat, by omega⟩
 obtain ⟨tn, htn⟩ : ∃ tn : Nat, (tn : Int) = c.t := ⟨c.t.toNat, by omega⟩
 have hB0 : Below w.heap.size w ((w.alloc (.cells #[.int .i64 c.t, .int .i64 c.wd, .int .i64 c.s, .int .i64 c.g, .int .i64 c.r, .int .i64 c.cp, .int .i64 c.f, .slice ma mem.length mc, .slice ja jobs.length jc] 27)).alloc (.cells #[.slice none 0 0, .slice none 0 0, .int .i64 0] 125)) := ((Below.refl _ _).alloc (Nat.le_refl _) _).alloc (by simp) _
 have HS0 : Hid (Blk ((w.alloc (.cells #[.int .i64 c.t, .int .i64 c.wd, .int .i64 c.s, .int .i64 c.g, .int .i64 c.r, .int .i64 c.cp, .int .i64 c.f, .slice ma mem.length mc, .slice ja jobs.length jc] 27)).alloc (.cells #[.slice none 0 0, .slice none 0 0, .int .i64 0] 125)) w.heap.size 27 #[.int .i64 c.t, .int .i64 c.wd, .int .i64 c.s, .int .i64 c.g, .int .i64 c.r, .int .i64 c.cp, .int .i64 c.f, .slice ma mem.length mc, .slice ja jobs.length jc]) := (Blk.new w 27 _).alloc _
 have HR0 : Hid (Blk ((w.alloc (.cells #[.int .i64 c.t, .int .i64 c.wd, .int .i64 c.s, .int .i64 c.g, .int .i64 c.r, .int .i64 c.cp, .int .i64 c.f, .slice ma mem.length mc, .slice ja jobs.length jc] 27)).alloc (.cells #[.slice none 0 0, .slice none 0 0, .int .i64 0] 125)) (w.heap.size + 1) 125 #[.slice none 0 0, .slice none 0 0, .int .i64 0]) := by
  have := Blk.new (w.alloc (.cells #[.int .i64 c.t, .int .i64 c.wd, .int .i64 c.s, .int .i64 c.g, .int .i64 c.r, .int .i64 c.cp, .int .i64 c.f, .slice ma mem.length mc, .slice ja jobs.length jc] 27)) 125 #[.slice none 0 0, .slice none 0 0, .int .i64 0]
  show Blk _ _ _ _
  simpa using this
 have HB0 : Hid (Below w.heap.size w ((w.alloc (.cells #[.int .i64 c.t, .int .i64 c.wd, .int .i64 c.s, .int .i64 c.g, .int .i64 c.r, .int .i64 c.cp, .int .i64 c.f, .slice ma mem.length mc, .slice ja jobs.length jc] 27)).alloc (.cells #[.slice none 0 0, .slice none 0 0, .int .i64 0] 125))) := hB0
 have hs0 : ((w.alloc (.cells #[.int .i64 c.t, .int .i64 c.wd, .int .i64 c.s, .int .i64 c.g, .int .i64 c.r, .int .i64 c.cp, .int .i64 c.f, .slice ma mem.length mc, .slice ja jobs.length jc] 27)).alloc (.cells #[.slice none 0 0, .slice none 0 0, .int .i64 0] 125)).heap.size = w.heap.size + 2 := by simp
 clear hm hj hB0 hc hmw hmb
 go_enter Tryz.func104, Tryz.ntmps104
 go_wp2_with fail
 obtain ⟨sb, hsb⟩ : ∃ sb, sb = w.heap.size := ⟨_, rfl⟩
 rw [← hsb] at HS0 HR0 ⊢
 have HSb : Hid (sb = w.heap.size) := hsb
 generalize (w.alloc (.cells #[.int .i64 c.t, .int .i64 c.wd, .int .i64 c.s, .int .i64 c.g, .int .i64 c.r, .int .i64 c.cp, .int .i64 c.f, .slice ma mem.length mc, .slice ja jobs.length jc] 27)).alloc (.cells #[.slice none 0 0, .slice none 0 0, .int .i64 0] 125) = w0 at *
 have HN : Hid (Calls Tryz.prog 120 #[.agg #[.int .i64 c.t, .int .i64 c.wd, .int .i64 c.s, .int .i64 c.g, .int .i64 c.r, .int .i64 c.cp, .int .i64 c.f], .slice ma mem.length mc] w0 (NewIs base mem w0)) := by
  obtain ⟨hc, hmw, hmb⟩ := HC.out
  exact newCells_any c base ma mc mem w0 hbase (by omega) (by omega) (by omega) (by omega) (by omega) (by omega) ((HM.out).up HB0.out)
 clear hsb
 refine (HN.out).mono ?_
 rintro e w2' ⟨nb, rfl, hn2, hb2, hnb⟩
 obtain ⟨Ds, hDs⟩ : ∃ Ds : List Int, Ds = List.replicate base (0 : Int) ++ mem := ⟨_, rfl⟩
 have hDl : Ds.length = base + mem.length := by rw [hDs]; simp
 rw [← hDs] at hn2
 rw [← hDl]
 have HDl : Hid (Ds.length = base + mem.length) := hDl
 clear hDl
 have HS2 : Hid (Blk w2' sb 27 #[.int .i64 c.t, .int .i64 c.wd, .int .i64 c.s, .int .i64 c.g, .int .i64 c.r, .int .i64 c.cp, .int .i64 c.f, .slice ma mem.length mc, .slice ja jobs.length jc]) := (HS0.out).below hb2 (HS0.out).lt
 have HR2 : Hid (Blk w2' (sb + 1) 125 #[.slice none 0 0, .slice none 0 0, .int .i64 0]) := (HR0.out).below hb2 (HR0.out).lt
 have HN2 : Hid (Blk w2' nb 3 (Ds.map (Value.int .i64 ·)).toArray) := hn2
 have HB2 : Hid (Below w.heap.size w w2') := (HB0.out).trans (hb2.mono (by omega))
 have HNb : Hid (w.heap.size + 2 ≤ nb) := by show _ ≤ _; omega
 have HDs : Hid (Ds = List.replicate base (0 : Int) ++ mem) := hDs
 have hs2 : w.heap.size + 2 ≤ w2'.heap.size := by have := hb2.size; omega
 have m0 := (HS2.out).cell
 have hsl : sb < w2'.heap.size := (HS2.out).lt
 clear HS0 HR0 HB0 HN hn2 hb2 hnb hDs hs0
 go_upto_region 2 with fail
 obtain ⟨wb, hwb⟩ : ∃ wb, wb = w2'.heap.size := ⟨_, rfl⟩
 have hB3 : Below w2'.heap.size w2' (w2'.alloc (.cells #[.slice (some ⟨nb, 0, none⟩) Ds.length Ds.length, .slice none 0 0, .int .i64 0] 125)) := (Below.refl _ _).alloc (Nat.le_refl _) _
 have HI3 : Hid (BI w.heap.size nb wb sb (sb + 1) Ds.length Ds.length #[.int .i64 c.t, .int .i64 c.wd, .int .i64 c.s, .int .i64 c.g, .int .i64 c.r, .int .i64 c.cp, .int .i64 c.f, .slice ma mem.length mc, .slice ja jobs.length jc] c jobs Ds none 0 0 [] (w2'.alloc (.cells #[.slice (some ⟨nb, 0, none⟩) Ds.length Ds.length, .slice none 0 0, .int .i64 0] 125))) := by
  refine ⟨(HS2.out).below hB3 (HS2.out).lt, (HR2.out).below hB3 (HR2.out).lt, by rw [hwb]; exact Blk.new w2' 125 _, (HN2.out).below hB3 (HN2.out).lt, World.ownsRow_nil _ _ _ _, rfl, fun i h => by simp at h, fun i j h => by simp at h, fun i h => by simp at h, fun i h => by simp at h, by have := HNb.out; omega, by have := HSb.out; omega⟩
 have HB3 : Hid (Below w.heap.size w (w2'.alloc (.cells #[.slice (some ⟨nb, 0, none⟩) Ds.length Ds.length, .slice none 0 0, .int .i64 0] 125))) := (HB2.out).trans (hB3.mono (by omega))
 have HWb : Hid (w.heap.size ≤ wb) := by show _ ≤ _; omega
 rw [← hwb]
 clear HS2 HR2 HN2 HB2 hB3 hwb hs2 m0 hsl
 generalize w2'.alloc (.cells #[.slice (some ⟨nb, 0, none⟩) Ds.length Ds.length, .slice none 0 0, .int .i64 0] 125) = w3 at *
 obtain ⟨iz, hiz, hz0, hz1, hz2⟩ := info_parts Tryz.info138
 go_wp2_with fail
 go_loopg [4] (tn + 1) (fun m t4 wr => ∃ (k : Nat) (ta : Option Addr) (tcap : Nat) (q : List (PT × Ls)), t4 = .int .i64 (k : Int) ∧ k ≤ tn ∧ m = tn + 1 - k ∧ Hid (BI w.heap.size nb wb sb (sb + 1) Ds.length Ds.length #[.int .i64 c.t, .int .i64 c.wd, .int .i64 c.s, .int .i64 c.g, .int .i64 c.r, .int .i64 c.cp, .int .i64 c.f, .slice ma mem.length mc, .slice ja jobs.length jc] c jobs Ds ta tcap k q wr) ∧ Hid (Below w.heap.size w wr))
 case atStart => exact ⟨0, none, 0, [], rfl, by omega, by omega, HI3, HB3⟩
 case round =>
  obtain ⟨k, ta, tcap, q, rfl, hk, hgk, HI, HB⟩ := hrel
  clear HI3 HB3
  have m0 := (HI.out).setup.cell
  have m1 := (HI.out).wst.cell
  by_cases hlt : k < tn
  ·have hlt' : (k : Int) < c.t := by omega
   have hwk : IntKind.i64.wrap ((k : Int) + 1) = (k : Int) + 1 := wrapP _ (by omega) (by omega)
   have HNw : Hid (∀ W, (∃ m, W = wr.drewN m) → Calls Tryz.prog 121 #[.agg #[.int .i64 c.t, .int .i64 c.wd, .int .i64 c.s, .int .i64 c.g, .int .i64 c.r, .int .i64 c.cp, .int .i64 c.f], .int .i64 (k : Int), .slice ja jobs.length jc] W fun e w' =>
        ∃ ma mc, e = .returned (.agg (tArr (tInit c jobs k) (L0 ma mc)).toArray) ∧ w'.ownsRow W.heap.size 3 1 (.slice ma (mineF k 0 jobs).length mc) (mineF k 0 jobs).length (intCells (mineF k 0 jobs)) ∧ Below W.heap.size W w') := fun W hW => by
    obtain ⟨m, rfl⟩ := hW
    exact new_any c k jobs ja jc (wr.drewN m) (((HJ.out).up HB.out).mono (HB.out).size) hjl
   have hwbl : wb < wr.heap.size := (HI.out).wst.lt
   have hpne : (Value.slice ta k tcap).ownBlock ≠ some wb := fun q => own_tag (HI.out).thr (HI.out).wst (by decide) wb q rfl
   have hbs : w.heap.size ≤ wr.heap.size := (HB.out).size
   have hk4 : k ≤ 4 := by omega
   go_wp2_with fail
   go_region_law
    (first
        | (go_simp; go_at_call 121; refine (HNw.out _ ⟨1, rfl⟩).mono ?_; rintro e w5 ⟨ma5, mc5, rfl, hm5, hb5⟩;
           have HI5 : Hid (BI w.heap.size nb wb sb (sb + 1) Ds.length Ds.length #[.int .i64 c.t, .int .i64 c.wd, .int .i64 c.s, .int .i64 c.g, .int .i64 c.r, .int .i64 c.cp, .int .i64 c.f, .slice ma mem.length mc, .slice ja jobs.length jc] c jobs Ds ta tcap k q w5) := (HI.out).below ((below_drew wr).trans hb5);
           have HM5 : Hid (w5.ownsRow wr.heap.size 3 1 (.slice ma5 (mineF k 0 jobs).length mc5) (mineF k 0 jobs).length (intCells (mineF k 0 jobs)) ∧ Below wr.heap.size wr w5) := ⟨hm5, (below_drew wr).trans hb5⟩;
           have n1 := (HI5.out).wst.cell; have hwb5 : wb < w5.heap.size := (HI5.out).wst.lt; have hwb6 : wb ≠ w5.heap.size := (by omega); have hbs5 : w.heap.size ≤ w5.heap.size := Nat.le_trans hbs hb5.size;
           obtain ⟨T, hT⟩ : ∃ T, T = tArr (tInit c jobs k) (L0 ma5 mc5) := ⟨_, rfl⟩; have HT : Hid (T = tArr (tInit c jobs k) (L0 ma5 mc5) ∧ T.length = 47 ∧ ∀ u ∈ T, u.oneCell' = true) := ⟨hT, by rw [hT]; rfl, by rw [hT]; unfold tInit yBegin yLoad; split <;> simp [tArr, t0, L0, Value.oneCell']⟩; rw [← hT]; have hTl : T.length = 47 := (HT.out).2.1; have hfold : List.foldl (fun cs x => cs.setIfInBounds x.snd x.fst) #[.int .i64 0, .int .i64 0, .int .i64 0, .int .i64 0, .int .i64 0, .int .i64 0, .int .i64 0, .int .i64 0, .slice none 0 0, .int .i64 0, .slice none 0 0, .int .i64 0, .int .i64 0, .int .i64 0, .int .i64 0, .int .i64 0, .int .i64 0, .int .i64 0, .int .i64 0, .int .i64 0, .int .i64 0, .int .i64 0, .int .i64 0, .int .i64 0, .int .i64 0, .int .i64 0, .slice none 0 0, .int .i64 0, .int .i64 0, .int .i64 0, .int .i64 0, .int .i64 0, .int .i64 0, .int .i64 0, .int .i64 0, .int .i64 0, .int .i64 0, .int .i64 0, .slice none 0 0, .slice none 0 0, .slice none 0 0, .int .i64 0, .int .i64 0, .int .i64 0, .int .i64 0, .int .i64 0, .int .i64 0] T.zipIdx = T.toArray := (by have := fold_set T 0 #[.int .i64 0, .int .i64 0, .int .i64 0, .int .i64 0, .int .i64 0, .int .i64 0, .int .i64 0, .int .i64 0, .slice none 0 0, .int .i64 0, .slice none 0 0, .int .i64 0, .int .i64 0, .int .i64 0, .int .i64 0, .int .i64 0, .int .i64 0, .int .i64 0, .int .i64 0, .int .i64 0, .int .i64 0, .int .i64 0, .int .i64 0, .int .i64 0, .int .i64 0, .int .i64 0, .slice none 0 0, .int .i64 0, .int .i64 0, .int .i64 0, .int .i64 0, .int .i64 0, .int .i64 0, .int .i64 0, .int .i64 0, .int .i64 0, .int .i64 0, .int .i64 0, .slice none 0 0, .slice none 0 0, .slice none 0 0, .int .i64 0, .int .i64 0, .int .i64 0, .int .i64 0, .int .i64 0, .int .i64 0] (by rw [hTl]; rfl); simpa using this); clear hm5 hb5 hT)
        | (refine step_append_lies _ (by rfl) _ _ _ (by rfl) w.heap.size 138 iz _ 47 472 Tryz.underlying123 hiz hz0 hz1 hz2 rfl (by omega) (.slice ta k tcap) k (rowsOf q).flatten (by rfl) (World.ownsRow.alloc (by exact (HI5.out).thr) _)
             ⟨w5.heap.size, 0, none⟩ 1 1 T (by rfl) (by rw [(HT.out).2.1]) (World.news_of_block (cs := T.toArray) (t := 138) (fr := (0, 0)) (by exact heap_alloc_new w5 _)) (HT.out).2.2
             (by omega) (by unfold maxLen; omega) (by omega) (by simp; omega) (w5.heap.size + 1) (by simp) ?_; intro gg cap7 w7 hown1 hgrow hat hlt7;
             have hd8 : w7.cell? ⟨wb, 1, none⟩ = some (.slice ta k tcap) := (by rw [hgrow.cell_far _ (by simp; omega) (Ne.symm hpne)]; exact ((HI5.out).below ((Below.refl _ _).alloc (Nat.le_refl _) _)).wst.cell 1);
             have he8 : w7.frozen? ⟨wb, 1, none⟩ = false := (by rw [hgrow.frozen_far _ (by simp; omega) (Ne.symm hpne)]; exact ((HI5.out).below ((Below.refl _ _).alloc (Nat.le_refl _) _)).wst.frozen 1)))
   all_goals
    have HI8 : Hid (BI w.heap.size nb wb sb (sb + 1) Ds.length Ds.length #[.int .i64 c.t, .int .i64 c.wd, .int .i64 c.s, .int .i64 c.g, .int .i64 c.r, .int .i64 c.cp, .int .i64 c.f, .slice ma mem.length mc, .slice ja jobs.length jc] c jobs Ds (some ⟨gg, 0, none⟩) cap7 (k + 1) (q ++ [(tInit c jobs k, L0 ma5 mc5)]) (w7.setCell ⟨wb, 1, none⟩ (.slice (some ⟨gg, 0, none⟩) (k + 1) cap7))) :=
     BI.add HI.out (HM5.out).2 (HM5.out).1 hbs ((Below.refl _ _).alloc (Nat.le_refl _) _) hgrow ((HT.out).1 ▸ hown1)
    have HB8 : Hid (Below w.heap.size w (w7.setCell ⟨wb, 1, none⟩ (.slice (some ⟨gg, 0, none⟩) (k + 1) cap7))) :=
     bi_below HB.out (HM5.out).2 ((Below.refl _ _).alloc (Nat.le_refl _) _) (HI.out).thr hgrow HWb.out _
    clear HI HB HI5 HM5 HT HNw hown1 hgrow hat hlt7 hd8 he8 hfold hTl n1 m0 m1 hwb5 hwb6 hbs5 hwbl hpne hbs
    generalize w7.setCell ⟨wb, 1, none⟩ (.slice (some ⟨gg, 0, none⟩) (k + 1) cap7) = w8 at *
    go_wp2_with fail
    go_roundg (gk - 1)
    case rel => exact ⟨k + 1, some ⟨gg, 0, none⟩, cap7, q ++ [(tInit c jobs k, L0 ma5 mc5)], by simp, by omega, by omega, HI8, HB8⟩
    case measure => omega
  ·have hkj : k = tn := by omega
   subst hkj
   have hlt2 : ¬ ((k : Int) < c.t) := by omega
   have m2 := (HI.out).res.cell
   have hf2 := (HI.out).res.frozen
   have hl2 : sb + 1 < wr.heap.size := (HI.out).res.lt
   have hwr : wb ≠ sb + 1 := (HI.out).sne
   have HRs : Hid (Blk wr (sb + 1) 125 #[.slice none 0 0, .slice none 0 0, .int .i64 0]) := (HI.out).res
   go_wp2_with fail
   obtain ⟨hc, hmw, hmb⟩ := HC.out
   have hsb : w.heap.size ≤ sb + 1 := by have := HSb.out; omega
   refine bodyPost_ret (v := .agg #[.slice (some ⟨nb, 0, none⟩) Ds.length Ds.length, .slice ta k tcap, .int .i64 0]) ?_ rfl (begun_of hc hmw hmb hjl hbase htn (by omega) HDs.out HI.out HB.out ((((Only.refl _ _).set).set).set) hsb)
   have hb : Blk (((wr.setCell ⟨sb + 1, 0, none⟩ (.slice (some ⟨nb, 0, none⟩) Ds.length Ds.length)).setCell ⟨sb + 1, 1, none⟩ (.slice ta k tcap)).setCell ⟨sb + 1, 2, none⟩ (.int .i64 0)) (sb + 1) 125 #[.slice (some ⟨nb, 0, none⟩) Ds.length Ds.length, .slice ta k tcap, .int .i64 0] := ((HRs.out).set.set.set).congr (by simp)
   generalize ((wr.setCell ⟨sb + 1, 0, none⟩ (.slice (some ⟨nb, 0, none⟩) Ds.length Ds.length)).setCell ⟨sb + 1, 1, none⟩ (.slice ta k tcap)).setCell ⟨sb + 1, 2, none⟩ (.int .i64 0) = w9 at *
   have h9 := hb.cell
   clear HI HB HRs m0 m1 m2 hf2
   simp [results, Tryz.results104, go_sem, h9]
def WS (base p nb cb cap tcap : Nat) (X : List Value) (c : Cfg) (mem : List Int) (jobs : List (Int × List InsD)) (ps : List PickD) (k : Nat) (w : World) : Prop :=
 ∃ q Ds, WR base p nb cb cap tcap k X w q Ds ∧ SimW c jobs k (gAt c mem jobs ps k) q Ds
theorem WS.below {base p nb cb cap tcap : Nat} {X : List Value} {c : Cfg} {mem : List Int} {jobs : List (Int × List InsD)} {ps : List PickD} {k : Nat} {w w' : World} (h : WS base p nb cb cap tcap X c mem jobs ps k w) (hb : Below w.heap.size w w') : WS base p nb cb cap tcap X c mem jobs ps k w' := by
 obtain ⟨q, Ds, R, M⟩ := h
 exact ⟨q, Ds, R.below hb, M⟩
def PickIs (base p nb cb cap tcap : Nat) (X : List Value) (c : Cfg) (mem : List Int) (jobs : List (Int × List InsD)) (ps : List PickD) (k : Nat) (w : World) (e : Ending) (w' : World) : Prop :=
 (∃ a : AccD, a = (gStep c jobs (gAt c mem jobs ps k) ((k : Int) + 1) (pickAt ps k)).2 ∧ e = .returned (.agg #[.int .i64 a.kind, .int .i64 a.cell, .int .i64 a.seen, .int .i64 a.put])) ∧
 WS base p nb cb cap tcap X c mem jobs ps (k + 1) w' ∧ Below base w w' ∧ (∀ b T cs, Blk w b T cs → (138 : Nat) ≠ T → (3 : Nat) ≠ T → (222 : Nat) ≠ T → (230 : Nat) ≠ T → (93 : Nat) ≠ T → (47 : Nat) ≠ T → (125 : Nat) ≠ T → Blk w' b T cs)
theorem ws_pick {base p nb cb cap tcap : Nat} {X : List Value} {c : Cfg} {mem : List Int} {jobs : List (Int × List InsD)} {ps : List PickD} {k : Nat} {w : World} (S : SetupOk c mem jobs) (hk : k < 2 ^ 30) (W : WS base p nb cb cap tcap X c mem jobs ps k w) (ja : Option Addr) (jc : Nat) (hj : JobsRep w base ja jobs) :
  Calls Tryz.prog 105 #[.pointer (some ⟨cb, 0, none⟩), .slice ja jobs.length jc, .agg #[.int .i64 (pickAt ps k).thread, .int .i64 (pickAt ps k).draw]] w (PickIs base p nb cb cap tcap X c mem jobs ps k w) := by
 obtain ⟨q, Ds, R, M⟩ := W
 refine (t_wpick S.cfg ⟨by omega, by omega⟩ R M ⟨by omega, by omega⟩ (pickAt ps k) ja jc hj S.cd).mono ?_
 rintro e w' ⟨rfl, q', Ds', R', M', G, _⟩
 refine ⟨⟨_, rfl, rfl⟩, ⟨q', Ds', R', ?_⟩, G.low R, fun b T cs h h1 h2 h3 h4 h5 h6 h7 => ?_⟩
 ·rw [show ((k + 1 : Nat) : Int) = (k : Int) + 1 from by simp]
  exact M'
 ·exact (G.block b h.lt (Ne.symm (Blk.ne R.thr h h1)) (Ne.symm (Blk.ne R.num h h2)) (Ne.symm (Blk.ne R.wst h h7)) (fun ⟨i, hi, o⟩ => Own_tag (R.rows i hi) h h3 h4 h2 h5 h6 o)).trans h
theorem ws_cells {base p nb cb cap tcap : Nat} {X : List Value} {c : Cfg} {mem : List Int} {jobs : List (Int × List InsD)} {ps : List PickD} {w : World} (W : WS base p nb cb cap tcap X c mem jobs ps ps.length w) :
  Blk w nb 3 ((cellsOf c mem jobs ps).map (Value.int .i64 ·)).toArray ∧ w.cell? ⟨cb, 0, none⟩ = some (.slice (some ⟨nb, 0, none⟩) (cellsOf c mem jobs ps).length cap) ∧ cb < w.heap.size := by
 obtain ⟨q, Ds, R, M⟩ := W
 have e : cellsOf c mem jobs ps = Ds := by
  have hl := M.dl
  refine List.ext_getElem (by simp [cellsOf]; omega) (fun i h1 h2 => ?_)
  have := M.dv i h2
  rw [show Ds.getD i 0 = Ds[i] from by simp [List.getD, List.getElem?_eq_getElem h2]] at this
  rw [this]
  simp [cellsOf]
 rw [e]
 exact ⟨R.num, by rw [R.wst.cell]; rfl, R.wst.lt⟩
def BehindIs (c : Cfg) (mem : List Int) (jobs : List (Int × List InsD)) (ps : List PickD) (w : World) (e : Ending) (w' : World) : Prop :=
 ∃ (nb p cap tcap : Nat) (q : List (PT × Ls)) (Ds : List Int) (X : List Value), e = .returned (.agg #[.slice (some ⟨nb, 0, none⟩) Ds.length cap, .slice (some ⟨p, 0, none⟩) q.length tcap, .int .i64 (ps.length : Int)]) ∧
  (∀ w2 cb, Below w'.heap.size w' w2 → Blk w2 cb 125 #[.slice (some ⟨nb, 0, none⟩) Ds.length cap, .slice (some ⟨p, 0, none⟩) q.length tcap, .int .i64 (ps.length : Int)] → w.heap.size ≤ cb → WR w.heap.size p nb cb cap tcap (ps.length : Int) X w2 q Ds) ∧ SimW c jobs (ps.length : Int) (gAt c mem jobs ps ps.length) q Ds ∧ Below w.heap.size w w'
theorem WR.moved {base p nb cb cap tcap : Nat} {pn : Int} {X : List Value} {w w' w2 : World} {q : List (PT × Ls)} {Ds : List Int} {rb cb2 base2 : Nat} {cs : Array Value} (W : WR base p nb cb cap tcap pn X w q Ds) (hr : Blk w rb 125 cs) (ho : Only rb w w') (hb : Below w'.heap.size w' w2)
  (hc : Blk w2 cb2 125 #[.slice (some ⟨nb, 0, none⟩) Ds.length cap, .slice (some ⟨p, 0, none⟩) q.length tcap, .int .i64 pn]) (hb2 : base2 ≤ base) (hle : base2 ≤ cb2) : WR base2 p nb cb2 cap tcap pn X w2 q Ds := by
 have hrp : p ≠ rb := Blk.ne W.thr hr (by decide)
 have hrn : nb ≠ rb := Blk.ne W.num hr (by decide)
 have low : ∀ {t : PT} {L : Ls} {v : World}, RowsOk base v t L → RowsOk base2 v t L := fun R => ⟨ownsRow_low R.rd hb2, ownsRow_low R.wr hb2, ownsRow_low R.hd hb2, ownsRow_low R.mi hb2, R.ne, ownsRow_low R.nt hb2, ownsRow_low R.sr hb2⟩
 have h1 := W.thr.only ho hrp
 have h2 := W.num.only ho hrn
 refine ⟨h1.below hb h1.lt, fun i hi => low ((W.rows i hi).kept (fun k ok => ?_)), W.dis, h2.below hb h2.lt, W.nown, hc, Nat.le_trans hb2 W.pb, Nat.le_trans hb2 W.nbb, hle, Nat.le_trans hb2 (Nat.le_trans W.bs (Nat.le_trans ho.size hb.size))⟩
 have hlt := ((W.rows i hi).own k ok).2
 have hne : k ≠ rb := fun e => by subst e; exact Own_tag (W.rows i hi) hr (by decide) (by decide) (by decide) (by decide) (by decide) ok
 exact (hb.block k (Nat.lt_of_lt_of_le hlt ho.size)).trans (ho.block k hlt hne)
set_option maxRecDepth 100000 in
set_option maxHeartbeats 8000000 in
theorem behind_any {c : Cfg} {mem : List Int} {jobs : List (Int × List InsD)} (S : SetupOk c mem jobs) (ps : List PickD) (hps : ps.length ≤ 2 ^ 23) (ma ja pa : Option Addr) (mc jc pc : Nat) (w : World)
  (hm : Ints w w.heap.size ma mem) (hj : JobsRep w w.heap.size ja jobs) (hp : PicksIn w w.heap.size pa ps) :
  Calls Tryz.prog 77 #[.agg #[.int .i64 c.t, .int .i64 c.wd, .int .i64 c.s, .int .i64 c.g, .int .i64 c.r, .int .i64 c.cp, .int .i64 c.f, .slice ma mem.length mc, .slice ja jobs.length jc], .slice pa ps.length pc] w (BehindIs c mem jobs ps w) := by
 have HM : Hid (Ints w w.heap.size ma mem) := hm
 have HJ : Hid (JobsRep w w.heap.size ja jobs) := hj
 have HP : Hid (PicksIn w w.heap.size pa ps) := hp
 have HS : Hid (SetupOk c mem jobs) := S
 have hps' : ps.length ≤ 8388608 := hps
 clear hm hj hp S hps
 go_enter Tryz.func77, Tryz.ntmps77
 go_wp2_with fail
 obtain ⟨w1, hw1⟩ : ∃ w1, w1 = (w.alloc (.cells #[.int .i64 c.t, .int .i64 c.wd, .int .i64 c.s, .int .i64 c.g, .int .i64 c.r, .int .i64 c.cp, .int .i64 c.f, .slice ma mem.length mc, .slice ja jobs.length jc] 27)).alloc (.cells #[.slice none 0 0, .slice none 0 0, .int .i64 0] 125) := ⟨_, rfl⟩
 have HB1 : Hid (Below w.heap.size w w1) := by rw [hw1]; exact ((Below.refl w.heap.size w).alloc (Nat.le_refl _) _).alloc (by simp) _
 have HSb : Hid (Blk w1 w.heap.size 27 #[.int .i64 c.t, .int .i64 c.wd, .int .i64 c.s, .int .i64 c.g, .int .i64 c.r, .int .i64 c.cp, .int .i64 c.f, .slice ma mem.length mc, .slice ja jobs.length jc]) := by rw [hw1]; exact (Blk.new w 27 _).alloc _
 have HRb : Hid (Blk w1 (w.heap.size + 1) 125 #[.slice none 0 0, .slice none 0 0, .int .i64 0]) := by
  rw [hw1]
  have := Blk.new (w.alloc (.cells #[.int .i64 c.t, .int .i64 c.wd, .int .i64 c.s, .int .i64 c.g, .int .i64 c.r, .int .i64 c.cp, .int .i64 c.f, .slice ma mem.length mc, .slice ja jobs.length jc] 27)) 125 #[.slice none 0 0, .slice none 0 0, .int .i64 0]
  exact (by simpa using this : Blk _ _ _ _)
 have hs1 : w1.heap.size = w.heap.size + 2 := by rw [hw1]; simp
 rw [← hw1]
 clear hw1
 have HM1 : Hid (Ints w1 w1.heap.size ma mem) := (HM.out).up HB1.out
 have HJ1 : Hid (JobsRep w1 w1.heap.size ja jobs) := (HJ.out).up2 HB1.out
 have HP1 : Hid (PicksIn w1 w1.heap.size pa ps) := (HP.out).up2 HB1.out
 clear HM HJ HP
 refine (begin_any c (HS.out).cfg mem (HS.out).mw (HS.out).mb jobs (HS.out).j8 ma ja mc jc w1 HM1.out HJ1.out).mono ?_
 rintro e w2 ⟨nb, p, cap, tcap, q, Ds, X, rfl, hW, hM, hb2⟩
 obtain ⟨cb, hcb⟩ : ∃ cb, cb = w2.heap.size := ⟨_, rfl⟩
 have hB3 : Below w2.heap.size w2 (w2.alloc (.cells #[.slice (some ⟨nb, 0, none⟩) Ds.length cap, .slice (some ⟨p, 0, none⟩) q.length tcap, .int .i64 0] 125)) := (Below.refl _ _).alloc (Nat.le_refl _) _
 have HW3 : Hid (WS w1.heap.size p nb cb cap tcap X c mem jobs ps 0 (w2.alloc (.cells #[.slice (some ⟨nb, 0, none⟩) Ds.length cap, .slice (some ⟨p, 0, none⟩) q.length tcap, .int .i64 0] 125))) :=
  ⟨q, Ds, hW _ cb hB3 (by rw [hcb]; exact Blk.new w2 125 _) (by rw [hcb]; exact hb2.size), hM⟩
 have HB3 : Hid (Below w1.heap.size w1 (w2.alloc (.cells #[.slice (some ⟨nb, 0, none⟩) Ds.length cap, .slice (some ⟨p, 0, none⟩) q.length tcap, .int .i64 0] 125))) := hb2.trans (hB3.mono hb2.size)
 clear hW hM hB3 hb2
 go_upto_region 2 with fail
 rw [← hcb]
 clear hcb
 generalize w2.alloc (.cells #[.slice (some ⟨nb, 0, none⟩) Ds.length cap, .slice (some ⟨p, 0, none⟩) q.length tcap, .int .i64 0] 125) = w3 at *
 go_wp2_with fail
 go_loopg [12] (ps.length + 1) (fun m t12 wr => ∃ (k : Nat), t12 = .int .i64 (k : Int) ∧ k ≤ ps.length ∧ m = ps.length + 1 - k ∧ Hid (WS w1.heap.size p nb cb cap tcap X c mem jobs ps k wr) ∧ Hid (Below w1.heap.size w1 wr))
 case atStart => exact ⟨0, rfl, by omega, by omega, HW3, HB3⟩
 case round =>
  obtain ⟨k, rfl, hk, hgk, HW, HB⟩ := hrel
  clear HW3 HB3
  by_cases hkl : k < ps.length
  ·obtain ⟨pb, poff, hpa, hpb, hpc0, hpc1⟩ := HP1.out k hkl
   have hk0 : (0 : Int) ≤ (k : Int) := by omega
   have hk1 : (k : Int) < (ps.length : Int) := by omega
   have hwk : IntKind.i64.wrap ((k : Int) + 1) = (k : Int) + 1 := wrapP _ (by omega) (by omega)
   have hszk : w1.heap.size ≤ wr.heap.size := (HB.out).size
   have hq0 : wr.cell? ⟨pb, poff + k * 2, none⟩ = some (.int .i64 (pickAt ps k).thread) := (World.cell?_of_block ((HB.out).block pb hpb)).trans hpc0
   have hq1 : wr.cell? ⟨pb, poff + k * 2 + 1, none⟩ = some (.int .i64 (pickAt ps k).draw) := (World.cell?_of_block ((HB.out).block pb hpb)).trans hpc1
   have hpbl : pb < wr.heap.size := by omega
   have hsbl : w.heap.size < wr.heap.size := by omega
   have hsc : ∀ i, wr.cell? ⟨w.heap.size, i, none⟩ = (#[.int .i64 c.t, .int .i64 c.wd, .int .i64 c.s, .int .i64 c.g, .int .i64 c.r, .int .i64 c.cp, .int .i64 c.f, .slice ma mem.length mc, .slice ja jobs.length jc] : Array Value)[i]? := ((HSb.out).below HB.out (by omega)).cell
   subst hpa
   clear hpc0 hpc1
   obtain ⟨th, hth⟩ : ∃ th, th = (pickAt ps k).thread := ⟨_, rfl⟩
   obtain ⟨dr, hdr⟩ : ∃ dr, dr = (pickAt ps k).draw := ⟨_, rfl⟩
   rw [← hth] at hq0
   rw [← hdr] at hq1
   have hBa : Below wr.heap.size wr (wr.alloc (.cells #[.int .i64 th, .int .i64 dr] 76)) := (Below.refl wr.heap.size wr).alloc (Nat.le_refl _) _
   have HBa : Hid (Below w1.heap.size w1 (wr.alloc (.cells #[.int .i64 th, .int .i64 dr] 76))) := (HB.out).trans (hBa.mono hszk)
   have HC : Hid (Calls Tryz.prog 105 #[.pointer (some ⟨cb, 0, none⟩), .slice ja jobs.length jc, .agg #[.int .i64 th, .int .i64 dr]] (wr.alloc (.cells #[.int .i64 th, .int .i64 dr] 76)) (PickIs w1.heap.size p nb cb cap tcap X c mem jobs ps k (wr.alloc (.cells #[.int .i64 th, .int .i64 dr] 76)))) := by
    rw [hth, hdr] at HBa hBa ⊢
    exact ws_pick HS.out (by omega) ((HW.out).below hBa) ja jc ((HJ1.out).up HBa.out)
   clear hth hdr hBa HW HB
   go_wp2_with fail
   clear hq0 hq1 hsc
   refine (HC.out).mono ?_
   rintro e w5 ⟨⟨a, ha, rfl⟩, hW5, hb5, hbk⟩
   have HW5 : Hid (WS w1.heap.size p nb cb cap tcap X c mem jobs ps (k + 1) w5) := hW5
   have HB5 : Hid (Below w1.heap.size w1 w5) := (HBa.out).trans hb5
   clear hW5 hb5 hbk HC HBa
   go_wp2_with fail
   go_roundg (gk - 1)
   case rel => exact ⟨k + 1, by simp, by omega, by omega, HW5, HB5⟩
   case measure => omega
  ·have hkj : k = ps.length := by omega
   subst hkj
   have hk2 : ¬ ((ps.length : Int) < (ps.length : Int)) := by omega
   obtain ⟨q2, Ds2, W2, M2⟩ := HW.out
   have m0 := W2.wst.cell
   have hrw : Blk wr (w.heap.size + 1) 125 #[.slice none 0 0, .slice none 0 0, .int .i64 0] := (HRb.out).below HB.out (by omega)
   have r0 := hrw.cell
   have rf := hrw.frozen
   have hcr : cb ≠ w.heap.size + 1 := by have := W2.cbb; omega
   have HR : Hid (Blk wr (w.heap.size + 1) 125 #[.slice none 0 0, .slice none 0 0, .int .i64 0]) := hrw
   have HW2 : Hid (WR w1.heap.size p nb cb cap tcap (ps.length : Int) X wr q2 Ds2 ∧ SimW c jobs (ps.length : Int) (gAt c mem jobs ps ps.length) q2 Ds2) := ⟨W2, M2⟩
   clear W2 M2 HW hrw
   go_wp2_with fail
   have ho : Only (w.heap.size + 1) wr (((wr.setCell ⟨w.heap.size + 1, 0, none⟩ (.slice (some ⟨nb, 0, none⟩) Ds2.length cap)).setCell ⟨w.heap.size + 1, 1, none⟩ (.slice (some ⟨p, 0, none⟩) q2.length tcap)).setCell ⟨w.heap.size + 1, 2, none⟩ (.int .i64 (ps.length : Int))) := (((Only.refl _ _).set).set).set
   have hb9 : Blk (((wr.setCell ⟨w.heap.size + 1, 0, none⟩ (.slice (some ⟨nb, 0, none⟩) Ds2.length cap)).setCell ⟨w.heap.size + 1, 1, none⟩ (.slice (some ⟨p, 0, none⟩) q2.length tcap)).setCell ⟨w.heap.size + 1, 2, none⟩ (.int .i64 (ps.length : Int))) (w.heap.size + 1) 125 #[.slice (some ⟨nb, 0, none⟩) Ds2.length cap, .slice (some ⟨p, 0, none⟩) q2.length tcap, .int .i64 (ps.length : Int)] := (((HR.out).set.set).set).congr (by simp)
   refine bodyPost_ret (v := .agg #[.slice (some ⟨nb, 0, none⟩) Ds2.length cap, .slice (some ⟨p, 0, none⟩) q2.length tcap, .int .i64 (ps.length : Int)]) ?_ rfl ⟨nb, p, cap, tcap, q2, Ds2, X, rfl, fun w9 cb9 h9 hc9 hle => (HW2.out).1.moved HR.out ho h9 hc9 (by omega) hle, (HW2.out).2, below_onto ((HB1.out).trans ((HB.out).mono (HB1.out).size)) ho (by omega) (by have := (HB.out).size; omega)⟩
   generalize ((wr.setCell ⟨w.heap.size + 1, 0, none⟩ (.slice (some ⟨nb, 0, none⟩) Ds2.length cap)).setCell ⟨w.heap.size + 1, 1, none⟩ (.slice (some ⟨p, 0, none⟩) q2.length tcap)).setCell ⟨w.heap.size + 1, 2, none⟩ (.int .i64 (ps.length : Int)) = w9 at *
   have h9 := hb9.cell
   clear HR HW2 m0 r0 rf HB
   simp [results, Tryz.results77, go_sem, h9]
set_option maxRecDepth 100000 in
set_option maxHeartbeats 8000000 in
theorem playCells_any {c : Cfg} {mem : List Int} {jobs : List (Int × List InsD)} (S : SetupOk c mem jobs) (ps : List PickD) (hps : ps.length ≤ 2 ^ 21) (ma ja pa : Option Addr) (mc jc pc : Nat) (w : World)
  (hm : Ints w w.heap.size ma mem) (hj : JobsRep w w.heap.size ja jobs) (hp : PicksIn w w.heap.size pa ps) :
  Calls Tryz.prog 34 #[.agg #[.int .i64 c.t, .int .i64 c.wd, .int .i64 c.s, .int .i64 c.g, .int .i64 c.r, .int .i64 c.cp, .int .i64 c.f, .slice ma mem.length mc, .slice ja jobs.length jc], .slice pa ps.length pc] w fun e w' =>
   ∃ (la : Option Addr) (lc : Nat), e = .returned (.slice la (cellsOf c mem jobs ps).length lc) ∧ Ints w' w'.heap.size la (cellsOf c mem jobs ps) ∧ Below w.heap.size w w' := by
 have HS : Hid (SetupOk c mem jobs) := S
 obtain ⟨A, HA⟩ : ∃ A, Hid (cellsOf c mem jobs ps = A) := ⟨_, rfl⟩
 rw [show cellsOf c mem jobs ps = A from HA.out]
 have hps' : ps.length ≤ 2097152 := hps
 have hB1 : Below w.heap.size w (w.alloc (.cells #[.int .i64 c.t, .int .i64 c.wd, .int .i64 c.s, .int .i64 c.g, .int .i64 c.r, .int .i64 c.cp, .int .i64 c.f, .slice ma mem.length mc, .slice ja jobs.length jc] 27)) := (Below.refl w.heap.size w).alloc (Nat.le_refl _) _
 have HB1 : Hid (Below w.heap.size w (w.alloc (.cells #[.int .i64 c.t, .int .i64 c.wd, .int .i64 c.s, .int .i64 c.g, .int .i64 c.r, .int .i64 c.cp, .int .i64 c.f, .slice ma mem.length mc, .slice ja jobs.length jc] 27))) := hB1
 have HC : Hid (Calls Tryz.prog 77 #[.agg #[.int .i64 c.t, .int .i64 c.wd, .int .i64 c.s, .int .i64 c.g, .int .i64 c.r, .int .i64 c.cp, .int .i64 c.f, .slice ma mem.length mc, .slice ja jobs.length jc], .slice pa ps.length pc] (w.alloc (.cells #[.int .i64 c.t, .int .i64 c.wd, .int .i64 c.s, .int .i64 c.g, .int .i64 c.r, .int .i64 c.cp, .int .i64 c.f, .slice ma mem.length mc, .slice ja jobs.length jc] 27)) (BehindIs c mem jobs ps (w.alloc (.cells #[.int .i64 c.t, .int .i64 c.wd, .int .i64 c.s, .int .i64 c.g, .int .i64 c.r, .int .i64 c.cp, .int .i64 c.f, .slice ma mem.length mc, .slice ja jobs.length jc] 27)))) :=
  behind_any S ps (by omega) ma ja pa mc jc pc _ (hm.up hB1) (hj.up2 hB1) (hp.up2 hB1)
 clear hm hj hp S hps hB1
 go_enter Tryz.func34, Tryz.ntmps34
 go_wp2_with fail
 refine (HC.out).mono ?_
 rintro e w2 ⟨nb, p, cap, tcap, q, Ds, X, rfl, hW, hM, hb2⟩
 obtain ⟨cb, hcb⟩ : ∃ cb, cb = w2.heap.size := ⟨_, rfl⟩
 have hB3 : Below w2.heap.size w2 (w2.alloc (.cells #[.slice (some ⟨nb, 0, none⟩) Ds.length cap, .slice (some ⟨p, 0, none⟩) q.length tcap, .int .i64 (ps.length : Int)] 125)) := (Below.refl _ _).alloc (Nat.le_refl _) _
 have W3 := hW _ cb hB3 (by rw [hcb]; exact Blk.new w2 125 _) (by rw [hcb]; exact hb2.size)
 have HB3 : Hid (Below w.heap.size w (w2.alloc (.cells #[.slice (some ⟨nb, 0, none⟩) Ds.length cap, .slice (some ⟨p, 0, none⟩) q.length tcap, .int .i64 (ps.length : Int)] 125))) := (HB1.out).trans ((hb2.trans (hB3.mono hb2.size)).mono (HB1.out).size)
 obtain ⟨h1, h2, h3⟩ := ws_cells (ps := ps) (mem := mem) ⟨q, Ds, W3, hM⟩
 rw [show cellsOf c mem jobs ps = A from HA.out] at h1 h2
 have hA : A.length ≤ 1000 := by
  obtain ⟨⟨t1, t2⟩, ⟨x1, x2⟩, ⟨s1, s2⟩, _⟩ := cfgB_true (HS.out).cfg
  rw [← HA.out]
  simp only [cellsOf, List.length_map, List.length_range, total_eq]
  omega
 have HN : Hid (Calls Tryz.prog 79 #[.pointer (some ⟨cb, 0, none⟩)] (w2.alloc (.cells #[.slice (some ⟨nb, 0, none⟩) Ds.length cap, .slice (some ⟨p, 0, none⟩) q.length tcap, .int .i64 (ps.length : Int)] 125)) fun e w' => e = .returned (.slice (some ⟨(w2.alloc (.cells #[.slice (some ⟨nb, 0, none⟩) Ds.length cap, .slice (some ⟨p, 0, none⟩) q.length tcap, .int .i64 (ps.length : Int)] 125)).heap.size, 0, none⟩) A.length A.length) ∧ Blk w' (w2.alloc (.cells #[.slice (some ⟨nb, 0, none⟩) Ds.length cap, .slice (some ⟨p, 0, none⟩) q.length tcap, .int .i64 (ps.length : Int)] 125)).heap.size 3 (A.map (Value.int .i64 ·)).toArray ∧ Below (w2.alloc (.cells #[.slice (some ⟨nb, 0, none⟩) Ds.length cap, .slice (some ⟨p, 0, none⟩) q.length tcap, .int .i64 (ps.length : Int)] 125)).heap.size (w2.alloc (.cells #[.slice (some ⟨nb, 0, none⟩) Ds.length cap, .slice (some ⟨p, 0, none⟩) q.length tcap, .int .i64 (ps.length : Int)] 125)) w') := numbers_any cb 0 nb cap A _ hA h2 h3 h1
 clear hW hM hB3 hb2 W3 h1 h2 h3 hA HC
 go_upto_region 2 with fail
 rw [← hcb]
 clear hcb
 generalize w2.alloc (.cells #[.slice (some ⟨nb, 0, none⟩) Ds.length cap, .slice (some ⟨p, 0, none⟩) q.length tcap, .int .i64 (ps.length : Int)] 125) = w3 at *
 go_wp2_with fail
 refine (HN.out).mono ?_
 rintro e w5 ⟨rfl, h5, hb5⟩
 have H5 : Hid (Ints w5 w5.heap.size (some ⟨w3.heap.size, 0, none⟩) A) := ints_blk h5
 have HB5 : Hid (Below w.heap.size w w5) := (HB3.out).trans (hb5.mono (HB3.out).size)
 clear h5 hb5 HN
 go_wp2
 go_ret
 exact ⟨_, _, rfl, H5.out, HB5.out⟩
end Go.Proofs.YtejadojilncbjabGreat
