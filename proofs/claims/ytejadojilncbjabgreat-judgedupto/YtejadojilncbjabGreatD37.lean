import Derived.Test.YtejadojilncbjabGreatD36
import Derived.Deep.DeepCutAuto
import Derived.Test.YtejadojilncbjabGreatD31
import Derived.Test.YtejadojilncbjabGreatD18
import Derived.Test.YtejadojilncbjabGreatD35
import Derived.Test.YtejadojilncbjabGreatD21
namespace Go.Proofs.YtejadojilncbjabGreat
open Go.RowKit
set_option linter.unusedVariables false
attribute [local go_sem ↓] Go.wp_at_zero Go.wp_at_succ
set_option maxRecDepth 100000 in
set_option maxHeartbeats 8000000 in
theorem begin_any (c : Cfg) (hc : cfgB c = true) (mem : List Int) (hmw : (mem.length : Int) = c.wd) (hmb : memB mem = true) (jobs : List (Int × List InsD)) (hjl : jobs.length ≤ 8) (ma ja : Option Addr) (mc jc : Nat) (w : World) (hm : Ints w w.heap.size ma mem) (hj : JobsRep w w.heap.size ja jobs) :
  Calls Tryz.prog 104 #[.agg #[.int .i64 c.t, .int .i64 c.wd, .int .i64 c.s, .int .i64 c.g, .int .i64 c.r, .int .i64 c.cp, .int .i64 c.f, .slice ma mem.length mc, .slice ja jobs.length jc]] w (BegunIs c mem jobs w) := by
 obtain ⟨⟨t1, t2⟩, ⟨w1, w2⟩, ⟨s1, s2⟩, _⟩ := cfgB_true hc
 have HC : Hid (cfgB c = true ∧ (mem.length : Int) = c.wd ∧ memB mem = true) := ⟨hc, hmw, hmb⟩
 have HM : Hid (Ints w w.heap.size ma mem) := hm
 have HJ : Hid (JobsRep w w.heap.size ja jobs) := hj
 obtain ⟨base, hbase⟩ : ∃ base : Nat, (base : Int) = 3 + 2 * c.s + c.t := ⟨(3 + 2 * c.s + c.t).toNat, by omega⟩
 obtain ⟨tn, htn⟩ : ∃ tn : Nat, (tn : Int) = c.t := ⟨c.t.toNat, by omega⟩
 have hB0 : Below w.heap.size w ((w.alloc (.cells #[.int .i64 c.t, .int .i64 c.wd, .int .i64 c.s, .int .i64 c.g, .int .i64 c.r, .int .i64 c.cp, .int .i64 c.f, .slice ma mem.length mc, .slice ja jobs.length jc] 27)).alloc (.cells #[.slice none 0 0, .slice none 0 0, .int .i64 0] 125)) := ((Below.refl _ _).alloc (Nat.le_refl _) _).alloc (by simp) _
 have HS0 : Hid (Blk ((w.alloc (.cells #[.int .i64 c.t, .int .i64 c.wd, .int .i64 c.s, .int .i64 c.g, .int .i64 c.r, .int .i64 c.cp, .int .i64 c.f, .slice ma mem.length mc, .slice ja jobs.length jc] 27)).alloc (.cells #[.slice none 0 0, .slice none 0 0, .int .i64 0] 125)) w.heap.size 27 #[.int .i64 c.t, .int .i64 c.wd, .int .i64 c.s, .int .i64 c.g, .int .i64 c.r, .int .i64 c.cp, .int .i64 c.f, .slice ma mem.length mc, .slice ja jobs.length jc]) := (Blk.new w 27 _).alloc _
 have HR0 : Hid (Blk ((w.alloc (.cells #[.int .i64 c.t, .int .i64 c.wd, .int .i64 c.s, .int .i64 c.g, .int .i64 c.r, .int .i64 c.cp, .int .i64 c.f, .slice ma mem.length mc, .slice ja jobs.length jc] 27)).alloc (.cells #[.slice none 0 0, .slice none 0 0, .int .i64 0] 125)) (w.heap.size + 1) 125 #[.slice none 0 0, .slice none 0 0, .int .i64 0]) := by
  have := Blk.new (w.alloc (.cells #[.int .i64 c.t, .int .i64 c.wd, .int .i64 c.s, .int .i64 c.g, .int .i64 c.r, .int .i64 c.cp, .int .i64 c.f, .slice ma mem.length mc, .slice ja jobs.length jc] 27)) 125 #[.slice none 0 0, .slice none 0 0, .int .i64 0]
  show Blk _ _ _ _
  simpa using this
 have HB0 : Hid (Below w.heap.size w ((w.alloc (.cells #[.int .i64 c.t, .int .i64 c.wd, .int .i64 c.s, .int .i64 c.g, .int .i64 c.r, .int .i64 c.cp, .int .i64 c.f, .slice ma mem.length mc, .slice ja jobs.length jc] 27)).alloc (.cells #[.slice none 0 0, .slice none 0 0, .int .i64 0] 125))) := hB0
 have hs0 : ((w.alloc (.cells #[.int .i64 c.t, .int .i64 c.wd, .int .i64 c.s, .int .i64 c.g, .int .i64 c.r, .int .i64 c.cp, .int .i64 c.f, .slice ma mem.length mc, .slice ja jobs.length jc] 27)).alloc (.cells #[.slice none 0 0, .slice none 0 0, .int .i64 0] 125)).heap.size = w.heap.size + 2 := by simp
 clear hm hj hB0 hc hmw hmb
 go_enter Tryz.func104, Tryz.ntmps104
 go_wp2_with fail
 obtain ⟨sb, hsb⟩ : ∃ sb, sb = w.heap.size := ⟨_, rfl⟩
 rw [← hsb] at HS0 HR0 ⊢
 have HSb : Hid (sb = w.heap.size) := hsb
 generalize (w.alloc (.cells #[.int .i64 c.t, .int .i64 c.wd, .int .i64 c.s, .int .i64 c.g, .int .i64 c.r, .int .i64 c.cp, .int .i64 c.f, .slice ma mem.length mc, .slice ja jobs.length jc] 27)).alloc (.cells #[.slice none 0 0, .slice none 0 0, .int .i64 0] 125) = w0 at *
 have HN : Hid (Calls Tryz.prog 120 #[.agg #[.int .i64 c.t, .int .i64 c.wd, .int .i64 c.s, .int .i64 c.g, .int .i64 c.r, .int .i64 c.cp, .int .i64 c.f], .slice ma mem.length mc] w0 (NewIs base mem w0)) := by
  obtain ⟨hc, hmw, hmb⟩ := HC.out
  exact newCells_any c base ma mc mem w0 hbase (by omega) (by omega) (by omega) (by omega) (by omega) (by omega) ((HM.out).up HB0.out)
 clear hsb
 refine (HN.out).mono ?_
 rintro e w2' ⟨nb, rfl, hn2, hb2, hnb⟩
 obtain ⟨Ds, hDs⟩ : ∃ Ds : List Int, Ds = List.replicate base (0 : Int) ++ mem := ⟨_, rfl⟩
 have hDl : Ds.length = base + mem.length := by rw [hDs]; simp
 rw [← hDs] at hn2
 rw [← hDl]
 have HDl : Hid (Ds.length = base + mem.length) := hDl
 clear hDl
 have HS2 : Hid (Blk w2' sb 27 #[.int .i64 c.t, .int .i64 c.wd, .int .i64 c.s, .int .i64 c.g, .int .i64 c.r, .int .i64 c.cp, .int .i64 c.f, .slice ma mem.length mc, .slice ja jobs.length jc]) := (HS0.out).below hb2 (HS0.out).lt
 have HR2 : Hid (Blk w2' (sb + 1) 125 #[.slice none 0 0, .slice none 0 0, .int .i64 0]) := (HR0.out).below hb2 (HR0.out).lt
 have HN2 : Hid (Blk w2' nb 3 (Ds.map (Value.int .i64 ·)).toArray) := hn2
 have HB2 : Hid (Below w.heap.size w w2') := (HB0.out).trans (hb2.mono (by omega))
 have HNb : Hid (w.heap.size + 2 ≤ nb) := by show _ ≤ _; omega
 have HDs : Hid (Ds = List.replicate base (0 : Int) ++ mem) := hDs
 have hs2 : w.heap.size + 2 ≤ w2'.heap.size := by have := hb2.size; omega
 have m0 := (HS2.out).cell
 have hsl : sb < w2'.heap.size := (HS2.out).lt
 clear HS0 HR0 HB0 HN hn2 hb2 hnb hDs hs0
 go_upto_region 2 with fail
 obtain ⟨wb, hwb⟩ : ∃ wb, wb = w2'.heap.size := ⟨_, rfl⟩
 have hB3 : Below w2'.heap.size w2' (w2'.alloc (.cells #[.slice (some ⟨nb, 0, none⟩) Ds.length Ds.length, .slice none 0 0, .int .i64 0] 125)) := (Below.refl _ _).alloc (Nat.le_refl _) _
 have HI3 : Hid (BI w.heap.size nb wb sb (sb + 1) Ds.length Ds.length #[.int .i64 c.t, .int .i64 c.wd, .int .i64 c.s, .int .i64 c.g, .int .i64 c.r, .int .i64 c.cp, .int .i64 c.f, .slice ma mem.length mc, .slice ja jobs.length jc] c jobs Ds none 0 0 [] (w2'.alloc (.cells #[.slice (some ⟨nb, 0, none⟩) Ds.length Ds.length, .slice none 0 0, .int .i64 0] 125))) := by
  refine ⟨(HS2.out).below hB3 (HS2.out).lt, (HR2.out).below hB3 (HR2.out).lt, by rw [hwb]; exact Blk.new w2' 125 _, (HN2.out).below hB3 (HN2.out).lt, World.ownsRow_nil _ _ _ _, rfl, fun i h => by simp at h, fun i j h => by simp at h, fun i h => by simp at h, fun i h => by simp at h, by have := HNb.out; omega, by have := HSb.out; omega⟩
 have HB3 : Hid (Below w.heap.size w (w2'.alloc (.cells #[.slice (some ⟨nb, 0, none⟩) Ds.length Ds.length, .slice none 0 0, .int .i64 0] 125))) := (HB2.out).trans (hB3.mono (by omega))
 have HWb : Hid (w.heap.size ≤ wb) := by show _ ≤ _; omega
 rw [← hwb]
 clear HS2 HR2 HN2 HB2 hB3 hwb hs2 m0 hsl
 generalize w2'.alloc (.cells #[.slice (some ⟨nb, 0, none⟩) Ds.length Ds.length, .slice none 0 0, .int .i64 0] 125) = w3 at *
 obtain ⟨iz, hiz, hz0, hz1, hz2⟩ := info_parts Tryz.info138
 go_wp2_with fail
 go_loopg [4] (tn + 1) (fun m t4 wr => ∃ (k : Nat) (ta : Option Addr) (tcap : Nat) (q : List (PT × Ls)), t4 = .int .i64 (k : Int) ∧ k ≤ tn ∧ m = tn + 1 - k ∧ Hid (BI w.heap.size nb wb sb (sb + 1) Ds.length Ds.length #[.int .i64 c.t, .int .i64 c.wd, .int .i64 c.s, .int .i64 c.g, .int .i64 c.r, .int .i64 c.cp, .int .i64 c.f, .slice ma mem.length mc, .slice ja jobs.length jc] c jobs Ds ta tcap k q wr) ∧ Hid (Below w.heap.size w wr))
 case atStart => exact ⟨0, none, 0, [], rfl, by omega, by omega, HI3, HB3⟩
 case round =>
  obtain ⟨k, ta, tcap, q, rfl, hk, hgk, HI, HB⟩ := hrel
  clear HI3 HB3
  have m0 := (HI.out).setup.cell
  have m1 := (HI.out).wst.cell
  by_cases hlt : k < tn
  ·have hlt' : (k : Int) < c.t := by omega
   have hwk : IntKind.i64.wrap ((k : Int) + 1) = (k : Int) + 1 := wrapP _ (by omega) (by omega)
   have HNw : Hid (∀ W, (∃ m, W = wr.drewN m) → Calls Tryz.prog 121 #[.agg #[.int .i64 c.t, .int .i64 c.wd, .int .i64 c.s, .int .i64 c.g, .int .i64 c.r, .int .i64 c.cp, .int .i64 c.f], .int .i64 (k : Int), .slice ja jobs.length jc] W fun e w' =>
        ∃ ma mc, e = .returned (.agg (tArr (tInit c jobs k) (L0 ma mc)).toArray) ∧ w'.ownsRow W.heap.size 3 1 (.slice ma (mineF k 0 jobs).length mc) (mineF k 0 jobs).length (intCells (mineF k 0 jobs)) ∧ Below W.heap.size W w') := fun W hW => by
    obtain ⟨m, rfl⟩ := hW
    exact new_any c k jobs ja jc (wr.drewN m) (((HJ.out).up HB.out).mono (HB.out).size) hjl
   have hwbl : wb < wr.heap.size := (HI.out).wst.lt
   have hpne : (Value.slice ta k tcap).ownBlock ≠ some wb := fun q => own_tag (HI.out).thr (HI.out).wst (by decide) wb q rfl
   have hbs : w.heap.size ≤ wr.heap.size := (HB.out).size
   have hk4 : k ≤ 4 := by omega
   go_wp2_with fail
   go_region_law
    (first
        | (go_simp; go_at_call 121; refine (HNw.out _ ⟨1, rfl⟩).mono ?_; rintro e w5 ⟨ma5, mc5, rfl, hm5, hb5⟩;
           have HI5 : Hid (BI w.heap.size nb wb sb (sb + 1) Ds.length Ds.length #[.int .i64 c.t, .int .i64 c.wd, .int .i64 c.s, .int .i64 c.g, .int .i64 c.r, .int .i64 c.cp, .int .i64 c.f, .slice ma mem.length mc, .slice ja jobs.length jc] c jobs Ds ta tcap k q w5) := (HI.out).below ((below_drew wr).trans hb5);
           have HM5 : Hid (w5.ownsRow wr.heap.size 3 1 (.slice ma5 (mineF k 0 jobs).length mc5) (mineF k 0 jobs).length (intCells (mineF k 0 jobs)) ∧ Below wr.heap.size wr w5) := ⟨hm5, (below_drew wr).trans hb5⟩;
           have n1 := (HI5.out).wst.cell; have hwb5 : wb < w5.heap.size := (HI5.out).wst.lt; have hwb6 : wb ≠ w5.heap.size := (by omega); have hbs5 : w.heap.size ≤ w5.heap.size := Nat.le_trans hbs hb5.size;
           obtain ⟨T, hT⟩ : ∃ T, T = tArr (tInit c jobs k) (L0 ma5 mc5) := ⟨_, rfl⟩; have HT : Hid (T = tArr (tInit c jobs k) (L0 ma5 mc5) ∧ T.length = 47 ∧ ∀ u ∈ T, u.oneCell' = true) := ⟨hT, by rw [hT]; rfl, by rw [hT]; unfold tInit yBegin yLoad; split <;> simp [tArr, t0, L0, Value.oneCell']⟩; rw [← hT]; have hTl : T.length = 47 := (HT.out).2.1; have hfold : List.foldl (fun cs x => cs.setIfInBounds x.snd x.fst) #[.int .i64 0, .int .i64 0, .int .i64 0, .int .i64 0, .int .i64 0, .int .i64 0, .int .i64 0, .int .i64 0, .slice none 0 0, .int .i64 0, .slice none 0 0, .int .i64 0, .int .i64 0, .int .i64 0, .int .i64 0, .int .i64 0, .int .i64 0, .int .i64 0, .int .i64 0, .int .i64 0, .int .i64 0, .int .i64 0, .int .i64 0, .int .i64 0, .int .i64 0, .int .i64 0, .slice none 0 0, .int .i64 0, .int .i64 0, .int .i64 0, .int .i64 0, .int .i64 0, .int .i64 0, .int .i64 0, .int .i64 0, .int .i64 0, .int .i64 0, .int .i64 0, .slice none 0 0, .slice none 0 0, .slice none 0 0, .int .i64 0, .int .i64 0, .int .i64 0, .int .i64 0, .int .i64 0, .int .i64 0] T.zipIdx = T.toArray := (by have := fold_set T 0 #[.int .i64 0, .int .i64 0, .int .i64 0, .int .i64 0, .int .i64 0, .int .i64 0, .int .i64 0, .int .i64 0, .slice none 0 0, .int .i64 0, .slice none 0 0, .int .i64 0, .int .i64 0, .int .i64 0, .int .i64 0, .int .i64 0, .int .i64 0, .int .i64 0, .int .i64 0, .int .i64 0, .int .i64 0, .int .i64 0, .int .i64 0, .int .i64 0, .int .i64 0, .int .i64 0, .slice none 0 0, .int .i64 0, .int .i64 0, .int .i64 0, .int .i64 0, .int .i64 0, .int .i64 0, .int .i64 0, .int .i64 0, .int .i64 0, .int .i64 0, .int .i64 0, .slice none 0 0, .slice none 0 0, .slice none 0 0, .int .i64 0, .int .i64 0, .int .i64 0, .int .i64 0, .int .i64 0, .int .i64 0] (by rw [hTl]; rfl); simpa using this); clear hm5 hb5 hT)
        | (refine step_append_lies _ (by rfl) _ _ _ (by rfl) w.heap.size 138 iz _ 47 472 Tryz.underlying123 hiz hz0 hz1 hz2 rfl (by omega) (.slice ta k tcap) k (rowsOf q).flatten (by rfl) (World.ownsRow.alloc (by exact (HI5.out).thr) _)
             ⟨w5.heap.size, 0, none⟩ 1 1 T (by rfl) (by rw [(HT.out).2.1]) (World.news_of_block (cs := T.toArray) (t := 138) (fr := (0, 0)) (by exact heap_alloc_new w5 _)) (HT.out).2.2
             (by omega) (by unfold maxLen; omega) (by omega) (by simp; omega) (w5.heap.size + 1) (by simp) ?_; intro gg cap7 w7 hown1 hgrow hat hlt7;
             have hd8 : w7.cell? ⟨wb, 1, none⟩ = some (.slice ta k tcap) := (by rw [hgrow.cell_far _ (by simp; omega) (Ne.symm hpne)]; exact ((HI5.out).below ((Below.refl _ _).alloc (Nat.le_refl _) _)).wst.cell 1);
             have he8 : w7.frozen? ⟨wb, 1, none⟩ = false := (by rw [hgrow.frozen_far _ (by simp; omega) (Ne.symm hpne)]; exact ((HI5.out).below ((Below.refl _ _).alloc (Nat.le_refl _) _)).wst.frozen 1)))
   all_goals
    have HI8 : Hid (BI w.heap.size nb wb sb (sb + 1) Ds.length Ds.length #[.int .i64 c.t, .int .i64 c.wd, .int .i64 c.s, .int .i64 c.g, .int .i64 c.r, .int .i64 c.cp, .int .i64 c.f, .slice ma mem.length mc, .slice ja jobs.length jc] c jobs Ds (some ⟨gg, 0, none⟩) cap7 (k + 1) (q ++ [(tInit c jobs k, L0 ma5 mc5)]) (w7.setCell ⟨wb, 1, none⟩ (.slice (some ⟨gg, 0, none⟩) (k + 1) cap7))) :=
     BI.add HI.out (HM5.out).2 (HM5.out).1 hbs ((Below.refl _ _).alloc (Nat.le_refl _) _) hgrow ((HT.out).1 ▸ hown1)
    have HB8 : Hid (Below w.heap.size w (w7.setCell ⟨wb, 1, none⟩ (.slice (some ⟨gg, 0, none⟩) (k + 1) cap7))) :=
     bi_below HB.out (HM5.out).2 ((Below.refl _ _).alloc (Nat.le_refl _) _) (HI.out).thr hgrow HWb.out _
    clear HI HB HI5 HM5 HT HNw hown1 hgrow hat hlt7 hd8 he8 hfold hTl n1 m0 m1 hwb5 hwb6 hbs5 hwbl hpne hbs
    generalize w7.setCell ⟨wb, 1, none⟩ (.slice (some ⟨gg, 0, none⟩) (k + 1) cap7) = w8 at *
    go_wp2_with fail
    go_roundg (gk - 1)
    case rel => exact ⟨k + 1, some ⟨gg, 0, none⟩, cap7, q ++ [(tInit c jobs k, L0 ma5 mc5)], by simp, by omega, by omega, HI8, HB8⟩
    case measure => omega
  ·have hkj : k = tn := by omega
   subst hkj
   have hlt2 : ¬ ((k : Int) < c.t) := by omega
   have m2 := (HI.out).res.cell
   have hf2 := (HI.out).res.frozen
   have hl2 : sb + 1 < wr.heap.size := (HI.out).res.lt
   have hwr : wb ≠ sb + 1 := (HI.out).sne
   have HRs : Hid (Blk wr (sb + 1) 125 #[.slice none 0 0, .slice none 0 0, .int .i64 0]) := (HI.out).res
   go_wp2_with fail
   obtain ⟨hc, hmw, hmb⟩ := HC.out
   have hsb : w.heap.size ≤ sb + 1 := by have := HSb.out; omega
   refine bodyPost_ret (v := .agg #[.slice (some ⟨nb, 0, none⟩) Ds.length Ds.length, .slice ta k tcap, .int .i64 0]) ?_ rfl (begun_of hc hmw hmb hjl hbase htn (by omega) HDs.out HI.out HB.out ((((Only.refl _ _).set).set).set) hsb)
   have hb : Blk (((wr.setCell ⟨sb + 1, 0, none⟩ (.slice (some ⟨nb, 0, none⟩) Ds.length Ds.length)).setCell ⟨sb + 1, 1, none⟩ (.slice ta k tcap)).setCell ⟨sb + 1, 2, none⟩ (.int .i64 0)) (sb + 1) 125 #[.slice (some ⟨nb, 0, none⟩) Ds.length Ds.length, .slice ta k tcap, .int .i64 0] := ((HRs.out).set.set.set).congr (by simp)
   generalize ((wr.setCell ⟨sb + 1, 0, none⟩ (.slice (some ⟨nb, 0, none⟩) Ds.length Ds.length)).setCell ⟨sb + 1, 1, none⟩ (.slice ta k tcap)).setCell ⟨sb + 1, 2, none⟩ (.int .i64 0) = w9 at *
   have h9 := hb.cell
   clear HI HB HRs m0 m1 m2 hf2
   simp [results, Tryz.results104, go_sem, h9]
def WS (base p nb cb cap tcap : Nat) (X : List Value) (c : Cfg) (mem : List Int) (jobs : List (Int × List InsD)) (ps : List PickD) (k : Nat) (w : World) : Prop :=
 ∃ q Ds, WR base p nb cb cap tcap k X w q Ds ∧ SimW c jobs k (gAt c mem jobs ps k) q Ds
theorem WS.below {base p nb cb cap tcap : Nat} {X : List Value} {c : Cfg} {mem : List Int} {jobs : List (Int × List InsD)} {ps : List PickD} {k : Nat} {w w' : World} (h : WS base p nb cb cap tcap X c mem jobs ps k w) (hb : Below w.heap.size w w') : WS base p nb cb cap tcap X c mem jobs ps k w' := by
 obtain ⟨q, Ds, R, M⟩ := h
 exact ⟨q, Ds, R.below hb, M⟩
end Go.Proofs.YtejadojilncbjabGreat
namespace Go.Proofs.YtejadojilncbjabGreat
open Go.RowKit
set_option linter.unusedVariables false
def HI (R : Rn) (base p nb cb bb cap tcap : Nat) (X : List Value) (w0 : World) (k : Nat) (w : World) : Prop :=
 ∃ (q : List (PT × Ls)) (Ds : List Int) (AN : List (AttD × Value)) (lat : List Int) (ba : Option Addr) (bc : Nat), WR base p nb cb cap tcap k X w q Ds ∧ SimW R.c R.jobs k (R.g k) q Ds ∧ BookB w bb ba AN.length bc lat ∧ AttsRow w base ba bc AN ∧ Nts w q lat AN ∧ BkI R k (AN.map (·.1)) lat ∧ Below base w0 w
def HP (R : Rn) (base p nb cb bb cap tcap : Nat) (X : List Value) (w0 : World) (k t : Nat) (w : World) (q : List (PT × Ls)) (ht : t < q.length) : Prop :=
 ∃ (Ds : List Int) (AN : List (AttD × Value)) (lat : List Int) (ba : Option Addr) (bc : Nat), WR base p nb cb cap tcap ((k : Int) + 1) X w q Ds ∧ SimW R.c R.jobs ((k : Int) + 1) (R.g (k + 1)) q Ds ∧ BookB w bb ba AN.length bc lat ∧ AttsRow w base ba bc AN ∧ Below base w0 w ∧ q[t].1.told.thread = (t : Int) ∧ t < 4 ∧ AN.length ≤ k ∧
  ((q[t].1.told.start = (k : Int) + 1 ∧ BkI R (k + 1) (AN.map (·.1) ++ [q[t].1.told]) (lat.set t (AN.length : Int)) ∧ Nts w q (lat.set t (AN.length : Int)) (AN ++ [(q[t].1.told, .slice q[t].2.na q[t].1.notes.length q[t].2.nc)])) ∨
      (q[t].1.told.start ≠ (k : Int) + 1 ∧ ∃ m : Nat, m < AN.length ∧ lat.getD t 0 = (m : Int) ∧ BkI R (k + 1) ((AN.map (·.1)).set m q[t].1.told) lat ∧ Nts w q lat (AN.set m (q[t].1.told, .slice q[t].2.na q[t].1.notes.length q[t].2.nc))))
theorem own_blk {w : World} {base : Nat} {e : TypeId} {size n : Nat} {v : Value} {xs : List Value} (h : w.ownsRow base e size v n xs) {k : Nat} (hk : v.ownBlock = some k) : ∃ cs, Blk w k e cs := by
 rcases h.2 with ⟨rfl, _⟩ | ⟨g, cap, cur, rfl, hb, hg, rest⟩
 ·simp [Value.ownBlock] at hk
 ·simp [Value.ownBlock] at hk
  subst hk
  exact ⟨cur, hg⟩
section
variable {R : Rn} {base p nb cb bb cap tcap : Nat} {X : List Value} {w0 w w' : World} {k t : Nat} {q q' : List (PT × Ls)} {Ds : List Int} {pn : Int}
theorem goes_blk (W : WR base p nb cb cap tcap pn X w q Ds) (G : GoesW p nb cb q w q' w') {b : Nat} {T : TypeId} {cs : Array Value} (h : Blk w b T cs) (h1 : (222 : Nat) ≠ T) (h2 : (230 : Nat) ≠ T) (h3 : (3 : Nat) ≠ T) (h4 : (138 : Nat) ≠ T) (h5 : (125 : Nat) ≠ T) (h6 : (93 : Nat) ≠ T) (h7 : (47 : Nat) ≠ T) : w'.heap[b]? = w.heap[b]? :=
 G.block b h.lt (Ne.symm (Blk.ne W.thr h h4)) (Ne.symm (Blk.ne W.num h h3)) (Ne.symm (Blk.ne W.wst h h5)) (fun ⟨i, hi, o⟩ => Own_tag (W.rows i hi) h h1 h2 h3 h6 h7 o)
theorem goes_atts (W : WR base p nb cb cap tcap pn X w q Ds) (G : GoesW p nb cb q w q' w') {ba : Option Addr} {bc : Nat} {AN : List (AttD × Value)} (h : AttsRow w base ba bc AN) : AttsRow w' base ba bc AN :=
 ownsRow_same h fun k hk => by
  obtain ⟨cs, hcs⟩ := own_blk h hk
  exact goes_blk W G hcs (by decide) (by decide) (by decide) (by decide) (by decide) (by decide) (by decide)
theorem goes_book (W : WR base p nb cb cap tcap pn X w q Ds) (G : GoesW p nb cb q w q' w') {ba : Option Addr} {bc n : Nat} {lat : List Int} (h : BookB w bb ba n bc lat) : BookB w' bb ba n bc lat :=
 ⟨(goes_blk W G h.1 (by decide) (by decide) (by decide) (by decide) (by decide) (by decide) (by decide)).trans h.1, h.2⟩
theorem kd_in (R : Rn) (k : Nat) (h : 0 ≤ (R.pk k).thread ∧ (R.pk k).thread < R.c.t) : (gStep R.c R.jobs (R.g k) ((k : Int) + 1) (R.pk k)).2.kind = (R.out k (R.pk k).thread).kind := by
 unfold gStep
 rw [if_pos h]
 show (accBy _ (R.out k (R.pk k).thread)).kind = _
 unfold accBy
 split
 ·rename_i e
  rw [e]
  rfl
 ·rfl
theorem kd_out (R : Rn) (k : Nat) (h : ¬ (0 ≤ (R.pk k).thread ∧ (R.pk k).thread < R.c.t)) : (gStep R.c R.jobs (R.g k) ((k : Int) + 1) (R.pk k)).2.kind = 0 := by
 unfold gStep
 rw [if_neg h]
 rfl
theorem HI.pick (O : R.Ok) (h : HI R base p nb cb bb cap tcap X w0 k w) :
  ∃ (q : List (PT × Ls)) (Ds : List Int), WR base p nb cb cap tcap k X w q Ds ∧ SimW R.c R.jobs k (R.g k) q Ds ∧
   ∀ (q' : List (PT × Ls)) (Ds' : List Int) (w' : World), WR base p nb cb cap tcap ((k : Int) + 1) X w' q' Ds' → SimW R.c R.jobs ((k : Int) + 1) (R.g (k + 1)) q' Ds' → GoesW p nb cb q w q' w' → NGo (R.pk k).thread (gStep R.c R.jobs (R.g k) ((k : Int) + 1) (R.pk k)).2.kind q q' w w' →
    ((gStep R.c R.jobs (R.g k) ((k : Int) + 1) (R.pk k)).2.kind = 0 ∧ HI R base p nb cb bb cap tcap X w0 (k + 1) w') ∨
    ((gStep R.c R.jobs (R.g k) ((k : Int) + 1) (R.pk k)).2.kind ≠ 0 ∧ ∃ (t : Nat) (ht : t < q'.length), (R.pk k).thread = (t : Int) ∧ HP R base p nb cb bb cap tcap X w0 k t w' q' ht) := by
 obtain ⟨q, Ds, AN, lat, ba, bc, W, M, B, A, N, I, L⟩ := h
 have hct := (cfgB_true O.c).1
 refine ⟨q, Ds, W, M, fun q' Ds' w' W' M' G Z => ?_⟩
 have B' := goes_book W G B
 have A' := goes_atts W G A
 have L' : Below base w0 w' := L.trans (G.low W)
 rcases I.step O (by rw [B.2]; omega) (fun t t0 t1 => hne_at R k t t0 t1) with ⟨h0, I'⟩ | ⟨t, z, ht, t1, h0, hz, hc⟩
 ·have hk : (gStep R.c R.jobs (R.g k) ((k : Int) + 1) (R.pk k)).2.kind = 0 := by
   by_cases hr : 0 ≤ (R.pk k).thread ∧ (R.pk k).thread < R.c.t
   ·rw [kd_in R k hr]
    rcases h0 with h0 | h0
    ·exact absurd hr h0
    ·exact h0
   ·exact kd_out R k hr
  refine Or.inl ⟨hk, q', Ds', AN, lat, ba, bc, ?_, ?_, B', A', N.none W W' G Z hk, I', L'⟩
  ·rw [show ((k + 1 : Nat) : Int) = (k : Int) + 1 from by simp]; exact W'
  ·rw [show ((k + 1 : Nat) : Int) = (k : Int) + 1 from by simp]; exact M'
 ·have hk : (gStep R.c R.jobs (R.g k) ((k : Int) + 1) (R.pk k)).2.kind ≠ 0 := by
   rw [kd_in R k (by rw [ht]; exact ⟨by omega, t1⟩), ht]
   exact h0
  have htq : t < q'.length := by have := M'.len; omega
  have htq0 : t < q.length := by have := M.len; omega
  have T := ((M'.sim t htq).tol).tl
  have hzt : z = q'[t].1.told := by
   rcases T with T | T
   ·rw [T] at hz; cases hz
   ·rw [T] at hz; exact (Option.some.inj hz).symm
  have hzn : z.notes = q'[t].1.notes := by rw [hzt]; rfl
  have htl : t < lat.length := by rw [B.2]; omega
  have hlen : (AN.map (·.1)).length = AN.length := List.length_map _
  have hzth : z.thread = (t : Int) := thread_of O (by omega) t1 hz
  refine Or.inr ⟨hk, t, htq, ht, Ds', AN, lat, ba, bc, W', M', B', A', L', by rw [← hzt]; exact hzth, by omega, by rw [← hlen]; exact I.len O, ?_⟩
  rw [← hzt]
  rcases hc with ⟨h1, h2⟩ | ⟨h1, m, h2, h3, h4⟩
  ·rw [hlen] at h2
   exact Or.inl ⟨h1, h2, N.new W W' G Z hk t ht.symm htq htq0 (sim_step2 (M.sim t htq0) (start_of O ht t1 hz h1)) htl z hzn⟩
  ·rw [hlen] at h2
   exact Or.inr ⟨h1, m, h2, h3, h4, N.mod W W' G Z t m ht.symm htq h2 h3 z hzn⟩
theorem HI.below (h : HI R base p nb cb bb cap tcap X w0 k w) (hb : Below w.heap.size w w') : HI R base p nb cb bb cap tcap X w0 k w' := by
 obtain ⟨q, Ds, AN, lat, ba, bc, W, M, B, A, N, I, L⟩ := h
 exact ⟨q, Ds, AN, lat, ba, bc, W.below hb, M, ⟨B.1.below hb B.1.lt, B.2⟩, ownsRow_below A hb, N.keep (Kp.below (chg := []) (p := 0) (eb := 0) (B := 0) hb (Nat.zero_le _)) (by simp), I, L.trans (hb.mono W.bs)⟩
theorem HP.below {ht : t < q.length} (h : HP R base p nb cb bb cap tcap X w0 k t w q ht) (hb : Below w.heap.size w w') : HP R base p nb cb bb cap tcap X w0 k t w' q ht := by
 obtain ⟨Ds, AN, lat, ba, bc, W, M, B, A, L, e1, e2, e3, hc⟩ := h
 have K : Kp [] 0 0 0 w w' := Kp.below hb (Nat.zero_le _)
 refine ⟨Ds, AN, lat, ba, bc, W.below hb, M, ⟨B.1.below hb B.1.lt, B.2⟩, ownsRow_below A hb, L.trans (hb.mono W.bs), e1, e2, e3, ?_⟩
 rcases hc with ⟨h1, h2, h3⟩ | ⟨h1, m, h2, h3, h4, h5⟩
 ·exact Or.inl ⟨h1, h2, h3.keep K (by simp)⟩
 ·exact Or.inr ⟨h1, m, h2, h3, h4, h5.keep K (by simp)⟩
theorem HP.enter {ht : t < q.length} (h : HP R base p nb cb bb cap tcap X w0 k t w q ht) (hq : base ≤ bb) (hk : k < 2 ^ 30) :
  Calls Tryz.prog 107 #[.pointer (some ⟨bb, 0, none⟩), .agg #[.int .i64 q[t].1.aTh, .int .i64 q[t].1.aJob, .int .i64 q[t].1.aStart, .int .i64 q[t].1.aEnd, .int .i64 q[t].1.valid, .int .i64 q[t].1.aStamp, .int .i64 q[t].1.aFate, .slice q[t].2.na q[t].1.notes.length q[t].2.nc], .int .i64 ((k : Int) + 1)] w fun e w' =>
   e = .returned (.tuple #[]) ∧ HI R base p nb cb bb cap tcap X w0 (k + 1) w' := by
 obtain ⟨Ds, AN, lat, ba, bc, W, M, B, A, L, e1, e2, e3, hc⟩ := h
 have fin : ∀ (w' : World) (AN' : List (AttD × Value)) (lat' : List Int) (ba' : Option Addr) (bc' : Nat), Kp [82, 164] base base base w w' → BookB w' bb ba' AN'.length bc' lat' → AttsRow w' base ba' bc' AN' → Nts w q lat' AN' → BkI R (k + 1) (AN'.map (·.1)) lat' → HI R base p nb cb bb cap tcap X w0 (k + 1) w' := by
  intro w' AN' lat' ba' bc' K B' A' N' I'
  refine ⟨q, Ds, AN', lat', ba', bc', ?_, ?_, B', A', N'.keep K (by decide), I', ?_⟩
  ·rw [show ((k + 1 : Nat) : Int) = (k : Int) + 1 from by simp]; exact W.keep K (by decide) (by decide) (by decide) (by decide) (by decide) (by decide) (by decide)
  ·rw [show ((k + 1 : Nat) : Int) = (k : Int) + 1 from by simp]; exact M
  ·exact L.trans ⟨K.os, K.tape, K.output, K.size, fun i hi => K.low i hi (by omega) (by omega)⟩
 rcases hc with ⟨h1, h2, h3⟩ | ⟨h1, m, h2, h3, h4, h5⟩
 ·have h0 := enter_new B A W.bs hq (by omega) q[t].1.told q[t].2.na q[t].2.nc t e2 e1
  rw [h1] at h0
  have h1' : q[t].1.aStart = (k : Int) + 1 := h1
  rw [h1']
  refine Calls.mono h0 ?_
  rintro e w' ⟨rfl, ⟨a', c', b1, b2⟩, K⟩
  exact ⟨rfl, fin w' _ _ a' c' K (by rw [List.length_append]; exact b1) b2 h3 (by rw [List.map_append]; exact h2)⟩
 ·refine Calls.mono (enter_old B A W.bs hq q[t].1.told q[t].2.na q[t].2.nc ((k : Int) + 1) t m e2 e1 h1 h3 h2) ?_
  rintro e w' ⟨rfl, ⟨b1, b2⟩, K⟩
  exact ⟨rfl, fin w' _ _ ba bc K (by rw [List.length_set]; exact b1) b2 h5 (by rw [List.map_set]; exact h4)⟩
end
end Go.Proofs.YtejadojilncbjabGreat
namespace Go.Proofs.YtejadojilncbjabGreat
open Go.RowKit
set_option linter.unusedVariables false
attribute [local go_sem ↓] Go.wp_at_zero Go.wp_at_succ
set_option maxRecDepth 100000 in
set_option maxHeartbeats 1000000 in
theorem t_told {p z : Nat} {A B : List Value} {t : PT} {L : Ls} {w : World} (hb : TAt w p z A B t L) :
  Calls Tryz.prog 106 #[.pointer (some ⟨p, z, none⟩)] w fun e w' => e = .returned (.agg #[.int .i64 t.aTh, .int .i64 t.aJob, .int .i64 t.aStart, .int .i64 t.aEnd, .int .i64 t.valid, .int .i64 t.aStamp, .int .i64 t.aFate, .slice L.na t.notes.length L.nc]) ∧ Below w.heap.size w w' := by
 obtain ⟨w1, hw1⟩ : ∃ w1, w1 = w.alloc (.cells #[.int .i64 0, .int .i64 0, .int .i64 0, .int .i64 0, .int .i64 0, .int .i64 0, .int .i64 0, .slice none 0 0] 82) := ⟨_, rfl⟩
 have HB1 : Hid (Below w.heap.size w w1) := by rw [hw1]; exact (Below.refl w.heap.size w).alloc (Nat.le_refl _) _
 have HZ : Hid (Blk w1 w.heap.size 82 #[.int .i64 0, .int .i64 0, .int .i64 0, .int .i64 0, .int .i64 0, .int .i64 0, .int .i64 0, .slice none 0 0]) := by rw [hw1]; exact Blk.new w 82 _
 have hb1 : TAt w1 p z A B t L := hb.below HB1.out
 have hlt := hb.lt
 have hpn : p ≠ w.heap.size := by omega
 have h0 : w1.cell? ⟨p, z + 19, none⟩ = some (.int .i64 t.aTh) := hb1.cell 19 (by decide)
 have h1 : w1.cell? ⟨p, z + 19 + 1, none⟩ = some (.int .i64 t.aJob) := hb1.cell 20 (by decide)
 have h2 : w1.cell? ⟨p, z + 19 + 2, none⟩ = some (.int .i64 t.aStart) := hb1.cell 21 (by decide)
 have h3 : w1.cell? ⟨p, z + 19 + 3, none⟩ = some (.int .i64 t.aEnd) := hb1.cell 22 (by decide)
 have h4 : w1.cell? ⟨p, z + 19 + 4, none⟩ = some (.int .i64 t.valid) := hb1.cell 23 (by decide)
 have h5 : w1.cell? ⟨p, z + 19 + 5, none⟩ = some (.int .i64 t.aStamp) := hb1.cell 24 (by decide)
 have h6 : w1.cell? ⟨p, z + 19 + 6, none⟩ = some (.int .i64 t.aFate) := hb1.cell 25 (by decide)
 have h7 : w1.cell? ⟨p, z + 19 + 7, none⟩ = some (.slice L.na t.notes.length L.nc) := hb1.cell 26 (by decide)
 have zc := (HZ.out).cell
 have zf := (HZ.out).frozen
 obtain ⟨g, hg⟩ : ∃ g, g = w.heap.size := ⟨_, rfl⟩
 have HG : Hid (g = w.heap.size) := hg
 go_enter Tryz.func106, Tryz.ntmps106
 go_upto_region 1 with fail
 rw [← hw1, ← hg]
 rw [← hg] at zc zf hpn
 clear hb hb1 hw1 hg hlt
 go_wp2
 have hz : Blk w1 g 82 #[.int .i64 0, .int .i64 0, .int .i64 0, .int .i64 0, .int .i64 0, .int .i64 0, .int .i64 0, .slice none 0 0] := by rw [HG.out]; exact HZ.out
 have h8 := ((((((((hz.set (i := 0) (v := .int .i64 t.aTh)).set (i := 1) (v := .int .i64 t.aJob)).set (i := 2) (v := .int .i64 t.aStart)).set (i := 3) (v := .int .i64 t.aEnd)).set (i := 4) (v := .int .i64 t.valid)).set (i := 5) (v := .int .i64 t.aStamp)).set (i := 6) (v := .int .i64 t.aFate)).set (i := 7) (v := .slice L.na t.notes.length L.nc)).congr (ds := #[.int .i64 t.aTh, .int .i64 t.aJob, .int .i64 t.aStart, .int .i64 t.aEnd, .int .i64 t.valid, .int .i64 t.aStamp, .int .i64 t.aFate, .slice L.na t.notes.length L.nc]) (by simp)
 have h9 := h8.cell
 have hle : w.heap.size ≤ g := Nat.le_of_eq (HG.out).symm
 refine bodyPost_ret (v := .agg #[.int .i64 t.aTh, .int .i64 t.aJob, .int .i64 t.aStart, .int .i64 t.aEnd, .int .i64 t.valid, .int .i64 t.aStamp, .int .i64 t.aFate, .slice L.na t.notes.length L.nc]) ?_ rfl ⟨rfl, below_set (below_set (below_set (below_set (below_set (below_set (below_set (below_set HB1.out hle) hle) hle) hle) hle) hle) hle) hle⟩
 simp [results, Tryz.results106, go_sem, h9]
end Go.Proofs.YtejadojilncbjabGreat
