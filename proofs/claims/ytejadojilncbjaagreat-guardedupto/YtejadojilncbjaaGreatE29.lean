import Derived.Test.YtejadojilncbjaaGreatE28
import Derived.Deep.DeepCutAuto
import Derived.Test.YtejadojilncbjaaGreatE23
import Derived.Test.YtejadojilncbjaaGreatE03
import Derived.Test.YtejadojilncbjaaGreatE24
namespace Go.Proofs.YtejadojilncbjaaGreat
open Go.RowKit
set_option linter.unusedVariables false
attribute [local go_sem ↓] Go.wp_at_zero Go.wp_at_succ

def tInit (c : Cfg) (jobs : List (Int × List InsD)) (i : Nat) : PT := yBegin (t0 c i (mineF i 0 jobs))

theorem init_sim (c : Cfg) (jobs : List (Int × List InsD)) (i : Nat) : Sim (cxOf c jobs i) (tInit c jobs i) (hInit (cxOf c jobs i)) := by
  have hT : TolF (cxOf c jobs i) (mineF i 0 jobs) 0 [] (t0 c i (mineF i 0 jobs)).told [] ((cxOf c jobs i).jobs.map fun _ => ⟨0, 0, 0, 0, 0⟩) := by
    refine ⟨rfl, Nat.zero_le _, Or.inl rfl, by simp, rfl, fun j hj => absurd hj (Nat.not_lt_zero _), fun j _ => ?_⟩
    simp only [List.getD, List.getElem?_map]
    cases (cxOf c jobs i).jobs[j]? <;> rfl
  unfold tInit hInit hTo
  rcases seek_mine (cxOf c jobs i).me (cxOf c jobs i).jobs ((cxOf c jobs i).jobs.drop 0) 0 rfl with ⟨h1, h2⟩ | ⟨k, h1, h2, h3, h4⟩
  · rw [h1]
    have h2' : mineF (i : Int) 0 jobs = [] := by simpa [cxOf] using h2
    unfold yBegin
    rw [if_neg (show ¬ (t0 c i (mineF i 0 jobs)).cur < (t0 c i (mineF i 0 jobs)).mine.length by show ¬ 0 < (mineF (i : Int) 0 jobs).length; rw [h2']; simp)]
    exact Or.inl ⟨rfl, rfl, hT⟩
  · rw [h1]
    have h4' : mineF (i : Int) 0 jobs = (k : Int) :: mineF (i : Int) (k + 1) (jobs.drop (k + 1)) := by simpa [cxOf] using h4
    have b1 : Bas (cxOf c jobs i) (t0 c i (mineF i 0 jobs)) { (⟨0, 0, [], (cxOf c jobs i).jobs.map fun _ => ⟨0, 0, 0, 0, 0⟩, 0, newTS [] 0, .idle⟩ : Th) with rank := 0, fails := 0, job := k, st := .start } := ⟨rfl, rfl, rfl, rfl, h2, h3, h4', hT⟩
    exact sim_start b1 rfl

theorem init_own (c : Cfg) (jobs : List (Int × List InsD)) (i : Nat) (hj : jobs.length ≤ 8) : Own5 0 (tInit c jobs i) := by
  have h := mineF_len (i : Int) jobs 0
  unfold tInit yBegin
  split
  · exact ⟨⟨Int.le_refl _, Int.le_refl _⟩, by show (mineF (i : Int) 0 jobs).length ≤ 100; omega, Nat.zero_le _, by show (0 : Int) ≤ 8; decide, by show ((0 : Nat) : Int) ≤ 60 * 0; decide⟩
  · exact ⟨⟨Int.le_refl _, Int.le_refl _⟩, by show (mineF (i : Int) 0 jobs).length ≤ 100; omega, Nat.zero_le _, by show (0 : Int) ≤ 8; decide, by show ((0 : Nat) : Int) ≤ 60 * 0; decide⟩

theorem init_rows {base : Nat} {w : World} {c : Cfg} {jobs : List (Int × List InsD)} {i : Nat} {ma : Option Addr} {mc : Nat} (h : w.ownsRow base 3 1 (.slice ma (mineF i 0 jobs).length mc) (mineF i 0 jobs).length (intCells (mineF i 0 jobs))) : RowsOk base w (tInit c jobs i) (L0 ma mc) := by
  have e : (tInit c jobs i).reads = [] ∧ (tInit c jobs i).writes = [] ∧ (tInit c jobs i).held = [] ∧ (tInit c jobs i).mine = mineF i 0 jobs ∧ (tInit c jobs i).notes = [] ∧ (tInit c jobs i).res = [] := by unfold tInit yBegin yLoad; split <;> exact ⟨rfl, rfl, rfl, rfl, rfl, rfl⟩
  obtain ⟨e1, e2, e3, e4, e5, e6⟩ := e
  refine ⟨?_, ?_, ?_, ?_, ?_, ?_, ?_⟩
  · rw [e1]; exact World.ownsRow_nil _ _ _ _
  · rw [e2]; exact World.ownsRow_nil _ _ _ _
  · rw [e3]; exact World.ownsRow_nil _ _ _ _
  · rw [e4]; exact h
  · rw [e3]; intro k hk; simp [Value.ownBlock, L0] at hk
  · rw [e5]; exact World.ownsRow_nil _ _ _ _
  · rw [e6]; exact World.ownsRow_nil _ _ _ _

theorem L0_own {ma : Option Addr} {mc k : Nat} (h : Own (L0 ma mc) k) : oB ma = some k := by
  unfold Own at h
  simp [L0, oB] at h
  simpa [oB] using h

/-- The threads so far. -/
structure BI (base nb wb sb r2 N cap : Nat) (S : Array Value) (c : Cfg) (jobs : List (Int × List InsD)) (Ds : List Int) (ta : Option Addr) (tcap k : Nat) (q : List (PT × Ls)) (w : World) : Prop where
  setup : Blk w sb 27 S
  res : Blk w r2 106 #[.slice none 0 0, .slice none 0 0, .int .i64 0]
  wst : Blk w wb 106 #[.slice (some ⟨nb, 0, none⟩) N cap, .slice ta k tcap, .int .i64 0]
  num : Blk w nb 3 (Ds.map (Value.int .i64 ·)).toArray
  thr : w.ownsRow base 119 47 (.slice ta k tcap) k (rowsOf q).flatten
  ql : q.length = k
  rows : ∀ i (h : i < q.length), RowsOk base w q[i].1 q[i].2
  dis : ∀ i j (hi : i < q.length) (hj : j < q.length), i ≠ j → ∀ k, Own q[i].2 k → ¬ Own q[j].2 k
  nown : ∀ i (h : i < q.length), ¬ Own q[i].2 nb
  init : ∀ i (h : i < q.length), q[i].1 = tInit c jobs i
  nbb : base ≤ nb
  sne : wb ≠ r2

theorem ownsRow_low {w : World} {base base' : Nat} {e : TypeId} {size n : Nat} {v : Value} {xs : List Value} (h : w.ownsRow base e size v n xs) (hb : base' ≤ base) : w.ownsRow base' e size v n xs :=
  ⟨h.1, h.2.imp id (fun ⟨g, cap, cur, hv, hb', r⟩ => ⟨g, cap, cur, hv, Nat.le_trans hb hb', r⟩)⟩
theorem ownsRow_below {w w' : World} {base : Nat} {e : TypeId} {size n : Nat} {v : Value} {xs : List Value} (h : w.ownsRow base e size v n xs) (hb : Below w.heap.size w w') : w'.ownsRow base e size v n xs :=
  ownsRow_same h (fun k hk => hb.block k (h.lt k hk).2)

theorem BI.below {base nb wb sb r2 N cap : Nat} {S : Array Value} {c : Cfg} {jobs : List (Int × List InsD)} {Ds : List Int} {ta : Option Addr} {tcap k : Nat} {q : List (PT × Ls)} {w w' : World} (I : BI base nb wb sb r2 N cap S c jobs Ds ta tcap k q w) (h : Below w.heap.size w w') :
    BI base nb wb sb r2 N cap S c jobs Ds ta tcap k q w' :=
  ⟨I.setup.below h I.setup.lt, I.res.below h I.res.lt, I.wst.below h I.wst.lt, I.num.below h I.num.lt, ownsRow_below I.thr h, I.ql, fun i hi => (I.rows i hi).kept (fun k o => h.block k ((I.rows i hi).own k o).2), I.dis, I.nown, I.init, I.nbb, I.sne⟩

theorem BI.add {base nb wb sb r2 N cap : Nat} {S : Array Value} {c : Cfg} {jobs : List (Int × List InsD)} {Ds : List Int} {ta : Option Addr} {tcap k : Nat} {q : List (PT × Ls)} {w w5 w6 w7 : World} {ma : Option Addr} {mc g cap' : Nat} (I : BI base nb wb sb r2 N cap S c jobs Ds ta tcap k q w)
    (hb5 : Below w.heap.size w w5) (hm : w5.ownsRow w.heap.size 3 1 (.slice ma (mineF k 0 jobs).length mc) (mineF k 0 jobs).length (intCells (mineF k 0 jobs))) (hbs : base ≤ w.heap.size) (hb6 : Below w5.heap.size w5 w6)
    (hgr : w6.grownBy w7 (Value.slice ta k tcap).ownBlock) (hown : w7.ownsRow base 119 47 (.slice (some ⟨g, 0, none⟩) (k + 1) cap') (k + 1) ((rowsOf q).flatten ++ tArr (tInit c jobs k) (L0 ma mc))) :
    BI base nb wb sb r2 N cap S c jobs Ds (some ⟨g, 0, none⟩) cap' (k + 1) (q ++ [(tInit c jobs k, L0 ma mc)]) (w7.setCell ⟨wb, 1, none⟩ (.slice (some ⟨g, 0, none⟩) (k + 1) cap')) := by
  have I6 := (I.below hb5).below hb6
  have hm6 := ownsRow_below hm hb6
  have tag7 : ∀ {b : Nat} {T : TypeId} {cs : Array Value}, Blk w6 b T cs → (119 : Nat) ≠ T → Blk w7 b T cs := fun h ht => (hgr.block _ h.lt (fun e => own_tag I6.thr h ht _ e.symm rfl)).trans h
  have ho : Only wb w7 (w7.setCell ⟨wb, 1, none⟩ (.slice (some ⟨g, 0, none⟩) (k + 1) cap')) := (Only.refl _ _).set
  have hs7 := tag7 I6.setup (by decide)
  have hr7 := tag7 I6.res (by decide)
  have hw7 := tag7 I6.wst (by decide)
  have hn7 := tag7 I6.num (by decide)
  have row7 : ∀ {e size n : Nat} {v : Value} {xs : List Value} {b0 : Nat}, w6.ownsRow b0 e size v n xs → e ≠ 119 → e ≠ 106 → (w7.setCell ⟨wb, 1, none⟩ (.slice (some ⟨g, 0, none⟩) (k + 1) cap')).ownsRow b0 e size v n xs := fun {e size n v xs b0} h he he2 => by
    have h7 : w7.ownsRow b0 e size v n xs := ownsRow_same h (fun q hq => hgr.block q (h.lt q hq).2 (fun e2 => by
      rcases h.2 with ⟨rfl, _⟩ | ⟨g1, cap1, cur1, rfl, _, hg1, _⟩
      · simp [Value.ownBlock] at hq
      · simp [Value.ownBlock] at hq
        subst hq
        exact own_tag I6.thr hg1 (Ne.symm he) _ e2.symm rfl))
    exact ownsRow_only h7 ho (own_tag h7 hw7 he2)
  have rows7 : ∀ {t : PT} {L : Ls}, RowsOk base w6 t L → RowsOk base (w7.setCell ⟨wb, 1, none⟩ (.slice (some ⟨g, 0, none⟩) (k + 1) cap')) t L := fun R => ⟨row7 R.rd (by decide) (by decide), row7 R.wr (by decide) (by decide), row7 R.hd (by decide) (by decide), row7 R.mi (by decide) (by decide), R.ne, row7 R.nt (by decide) (by decide), row7 R.sr (by decide) (by decide)⟩
  have hnew : ∀ b, Own (L0 ma mc) b → w.heap.size ≤ b := fun b o => by
    have := L0_own o
    rw [← oB_eq ma (mineF k 0 jobs).length mc] at this
    exact (hm.lt b this).1
  have hold : ∀ i (hi : i < q.length) b, Own q[i].2 b → b < w.heap.size := fun i hi b o => ((I.rows i hi).own b o).2
  have hget : ∀ i (h : i < (q ++ [(tInit c jobs k, L0 ma mc)]).length), (∃ h' : i < q.length, (q ++ [(tInit c jobs k, L0 ma mc)])[i] = q[i]) ∨ (i = k ∧ (q ++ [(tInit c jobs k, L0 ma mc)])[i] = (tInit c jobs k, L0 ma mc)) := fun i h => by
    by_cases hi : i < q.length
    · exact Or.inl ⟨hi, List.getElem_append_left hi⟩
    · have : i = q.length := by simp at h; omega
      subst this
      exact Or.inr ⟨I.ql, by simp⟩
  refine ⟨hs7.only ho (Blk.ne hs7 hw7 (by decide)), hr7.only ho (Ne.symm I.sne), ?_, hn7.only ho (Blk.ne hn7 hw7 (by decide)), ?_, by simp [I.ql], ?_, ?_, ?_, ?_, I.nbb, I.sne⟩
  · exact hw7.set.congr (by simp)
  · have := ownsRow_only hown ho (own_tag hown hw7 (by decide))
    unfold rowsOf at this ⊢
    simpa [List.flatten_append] using this
  · intro i hi
    rcases hget i hi with ⟨h', e⟩ | ⟨e1, e⟩
    · rw [e]; exact rows7 (I6.rows i h')
    · rw [e]; exact rows7 (init_rows (ownsRow_low hm6 hbs))
  · intro a b ha hb hab x oa ob
    rcases hget a ha with ⟨ha', ea⟩ | ⟨ea1, ea⟩ <;> rcases hget b hb with ⟨hb', eb⟩ | ⟨eb1, eb⟩
    · rw [ea] at oa; rw [eb] at ob; exact I.dis a b ha' hb' hab x oa ob
    · rw [ea] at oa; rw [eb] at ob; have := hold a ha' x oa; have := hnew x ob; omega
    · rw [ea] at oa; rw [eb] at ob; have := hold b hb' x ob; have := hnew x oa; omega
    · omega
  · intro i hi o
    rcases hget i hi with ⟨h', e⟩ | ⟨e1, e⟩
    · rw [e] at o; exact I.nown i h' o
    · rw [e] at o; have := hnew nb o; have := I.num.lt; omega
  · intro i hi
    rcases hget i hi with ⟨h', e⟩ | ⟨e1, e⟩
    · rw [e]; exact I.init i h'
    · rw [e, e1]

end Go.Proofs.YtejadojilncbjaaGreat

namespace Go.Proofs.YtejadojilncbjaaGreat
open Go.RowKit
set_option linter.unusedVariables false
attribute [local go_sem ↓] Go.wp_at_zero Go.wp_at_succ

theorem Tryz.info119 : (Tryz.prog.info? 119).map (fun i => (i.zero, i.size, i.bytes)) = some (some (.agg zc), 47, 472) := by kernel_rfl

theorem fold_set : ∀ (l : List Value) (j : Nat) (a : Array Value), j + l.length = a.size → (l.zipIdx j).foldl (fun cs x => cs.setIfInBounds x.snd x.fst) a = (a.toList.take j ++ l).toArray
  | [], j, a, h => by
    have : j = a.size := by simpa using h
    subst this
    rw [List.take_of_length_le (by simp)]
    simp
  | v :: l, j, a, h => by
    rw [List.zipIdx_cons, List.foldl_cons, fold_set l (j + 1) (a.setIfInBounds j v) (by simp at h ⊢; omega)]
    congr 1
    have hj : j < a.toList.length := by simp at h ⊢; omega
    rw [Array.toList_setIfInBounds, List.take_set, List.take_add_one, List.getElem?_eq_getElem hj]
    simp only [Option.toList]
    rw [List.set_append_right _ _ (by simp; omega)]
    simp [Nat.min_eq_left (Nat.le_of_lt (by simpa using hj))]

/-- What begin leaves: the threads and the cells at their beginning. -/
def BegunIs (c : Cfg) (mem : List Int) (jobs : List (Int × List InsD)) (w : World) (e : Ending) (w' : World) : Prop :=
  ∃ (nb p cap tcap : Nat) (q : List (PT × Ls)) (Ds : List Int) (X : List Value), e = .returned (.agg #[.slice (some ⟨nb, 0, none⟩) Ds.length cap, .slice (some ⟨p, 0, none⟩) q.length tcap, .int .i64 0]) ∧
    (∀ w2 cb, Below w'.heap.size w' w2 → Blk w2 cb 106 #[.slice (some ⟨nb, 0, none⟩) Ds.length cap, .slice (some ⟨p, 0, none⟩) q.length tcap, .int .i64 0] → w.heap.size ≤ cb → WR w.heap.size p nb cb cap tcap 0 X w2 q Ds) ∧ SimW c jobs 0 (gStart c mem jobs) q Ds ∧ Below w.heap.size w w'

theorem bi_below {wb k tcap : Nat} {ta : Option Addr} {xs : List Value} {w wr w5 w6 w7 : World} (hB : Below w.heap.size w wr) (hb5 : Below wr.heap.size wr w5) (hb6 : Below w5.heap.size w5 w6) (hthr : wr.ownsRow w.heap.size 119 47 (.slice ta k tcap) k xs) (hgr : w6.grownBy w7 (Value.slice ta k tcap).ownBlock) (hwb : w.heap.size ≤ wb) (v : Value) :
    Below w.heap.size w (w7.setCell ⟨wb, 1, none⟩ v) := by
  have h1 : Below w.heap.size w w6 := (hB.trans (hb5.mono hB.size)).trans (hb6.mono (Nat.le_trans hB.size hb5.size))
  have hs : w.heap.size ≤ w6.heap.size := h1.size
  refine below_onto (w' := w7) ⟨hgr.os.trans h1.os, hgr.tape.trans h1.tape, hgr.output.trans h1.output, Nat.le_trans h1.size hgr.size, fun q hq => ?_⟩ ((Only.refl _ _).set) hwb (by have := hgr.size; omega)
  rw [hgr.block q (by omega) (fun e => by have := (hthr.lt q e.symm).1; omega)]
  exact h1.block q hq

theorem begun_of {c : Cfg} {mem : List Int} {jobs : List (Int × List InsD)} {w wr w' : World} {base nb wb sb r2 tcap tn : Nat} {S : Array Value} {Ds : List Int} {ta : Option Addr} {q : List (PT × Ls)} (hc : cfgB c = true) (hmw : (mem.length : Int) = c.wd) (hmb : memB mem = true) (hjl : jobs.length ≤ 8)
    (hbase : (base : Int) = 3 + 2 * c.s + c.t) (htn : (tn : Int) = c.t) (ht1 : 1 ≤ tn) (hDs : Ds = List.replicate base (0 : Int) ++ mem) (I : BI w.heap.size nb wb sb r2 Ds.length Ds.length S c jobs Ds ta tcap tn q wr) (HB : Below w.heap.size w wr) (ho : Only r2 wr w') (hr : w.heap.size ≤ r2) :
    BegunIs c mem jobs w (.returned (.agg #[.slice (some ⟨nb, 0, none⟩) Ds.length Ds.length, .slice ta tn tcap, .int .i64 0])) w' := by
  obtain ⟨g, cap, cur, hv, hbg, hgb, h1, h2, h3, h4⟩ := own_block I.thr ht1
  obtain ⟨rfl, rfl⟩ : ta = some ⟨g, 0, none⟩ ∧ tcap = cap := by injection hv with a b c; exact ⟨a, c⟩
  have hql := I.ql
  have hg2 : Blk w' g 119 cur := hgb.only ho (Blk.ne hgb I.res (by decide))
  have hn2 : Blk w' nb 3 (Ds.map (Value.int .i64 ·)).toArray := I.num.only ho (Blk.ne I.num I.res (by decide))
  have hrows : ∀ i (h : i < q.length), RowsOk w.heap.size w' q[i].1 q[i].2 := fun i h => (I.rows i h).kept (fun k o => ho.block k ((I.rows i h).own k o).2 (fun e => Own_tag (I.rows i h) I.res (by decide) (by decide) (by decide) (by decide) (by decide) (e ▸ o)))
  refine ⟨nb, g, Ds.length, tcap, q, Ds, cur.toList.drop (tn * 47), by rw [hql], ?_, ?_, below_onto HB ho hr HB.size⟩
  · intro w2 cb hb hcb hle
    have hbs : w.heap.size ≤ w2.heap.size := Nat.le_trans HB.size (Nat.le_trans ho.size hb.size)
    refine ⟨?_, fun i h => (hrows i h).kept (fun k o => hb.block k ((hrows i h).own k o).2), I.dis, hn2.below hb hn2.lt, I.nown, hcb, hbg, I.nbb, hle, hbs⟩
    refine (hg2.below hb hg2.lt).congr ?_
    rw [← h4, List.take_append_drop]
  · have hd : ∀ i (h : i < q.length), q[i].1 = tInit c jobs i := I.init
    refine ⟨by rw [hql]; exact htn, ?_, ?_, fun i h => by rw [hd i h]; exact init_sim c jobs i, fun i h => by rw [hd i h]; exact init_own c jobs i hjl, gstart_ok hc hmw hmb jobs⟩
    · rw [hDs, total_eq]
      simp
      omega
    · intro x hx
      show Ds.getD x 0 = startVal c mem x
      unfold startVal wordBase
      rw [hDs] at hx ⊢
      by_cases hxb : x < base
      · rw [if_neg (by omega)]
        simp [List.getD_eq_getElem?_getD, List.getElem?_append_left, hxb]
      · rw [if_pos (by omega)]
        have e : ((x : Int) - (3 + 2 * c.s + c.t)).toNat = x - base := by omega
        rw [e]
        simp [List.getD_eq_getElem?_getD, List.getElem?_append_right, Nat.le_of_not_lt hxb]

end Go.Proofs.YtejadojilncbjaaGreat

namespace Go.Proofs.YtejadojilncbjaaGreat
open Go.RowKit
set_option linter.unusedVariables false
attribute [local go_sem ↓] Go.wp_at_zero Go.wp_at_succ

set_option maxRecDepth 100000 in
set_option maxHeartbeats 8000000 in
theorem begin_any (c : Cfg) (hc : cfgB c = true) (mem : List Int) (hmw : (mem.length : Int) = c.wd) (hmb : memB mem = true) (jobs : List (Int × List InsD)) (hjl : jobs.length ≤ 8) (ma ja : Option Addr) (mc jc : Nat) (w : World) (hm : Ints w w.heap.size ma mem) (hj : JobsRep w w.heap.size ja jobs) :
    Calls Tryz.prog 66 #[.agg #[.int .i64 c.t, .int .i64 c.wd, .int .i64 c.s, .int .i64 c.g, .int .i64 c.r, .int .i64 c.cp, .int .i64 c.f, .slice ma mem.length mc, .slice ja jobs.length jc]] w (BegunIs c mem jobs w) := by
  obtain ⟨⟨t1, t2⟩, ⟨w1, w2⟩, ⟨s1, s2⟩, _⟩ := cfgB_true hc
  have HC : Hid (cfgB c = true ∧ (mem.length : Int) = c.wd ∧ memB mem = true) := ⟨hc, hmw, hmb⟩
  have HM : Hid (Ints w w.heap.size ma mem) := hm
  have HJ : Hid (JobsRep w w.heap.size ja jobs) := hj
  obtain ⟨base, hbase⟩ : ∃ base : Nat, (base : Int) = 3 + 2 * c.s + c.t := ⟨(3 + 2 * c.s + c.t).toNat, by omega⟩
  obtain ⟨tn, htn⟩ : ∃ tn : Nat, (tn : Int) = c.t := ⟨c.t.toNat, by omega⟩
  have hB0 : Below w.heap.size w ((w.alloc (.cells #[.int .i64 c.t, .int .i64 c.wd, .int .i64 c.s, .int .i64 c.g, .int .i64 c.r, .int .i64 c.cp, .int .i64 c.f, .slice ma mem.length mc, .slice ja jobs.length jc] 27)).alloc (.cells #[.slice none 0 0, .slice none 0 0, .int .i64 0] 106)) := ((Below.refl _ _).alloc (Nat.le_refl _) _).alloc (by simp) _
  have HS0 : Hid (Blk ((w.alloc (.cells #[.int .i64 c.t, .int .i64 c.wd, .int .i64 c.s, .int .i64 c.g, .int .i64 c.r, .int .i64 c.cp, .int .i64 c.f, .slice ma mem.length mc, .slice ja jobs.length jc] 27)).alloc (.cells #[.slice none 0 0, .slice none 0 0, .int .i64 0] 106)) w.heap.size 27 #[.int .i64 c.t, .int .i64 c.wd, .int .i64 c.s, .int .i64 c.g, .int .i64 c.r, .int .i64 c.cp, .int .i64 c.f, .slice ma mem.length mc, .slice ja jobs.length jc]) := (Blk.new w 27 _).alloc _
  have HR0 : Hid (Blk ((w.alloc (.cells #[.int .i64 c.t, .int .i64 c.wd, .int .i64 c.s, .int .i64 c.g, .int .i64 c.r, .int .i64 c.cp, .int .i64 c.f, .slice ma mem.length mc, .slice ja jobs.length jc] 27)).alloc (.cells #[.slice none 0 0, .slice none 0 0, .int .i64 0] 106)) (w.heap.size + 1) 106 #[.slice none 0 0, .slice none 0 0, .int .i64 0]) := by
    have := Blk.new (w.alloc (.cells #[.int .i64 c.t, .int .i64 c.wd, .int .i64 c.s, .int .i64 c.g, .int .i64 c.r, .int .i64 c.cp, .int .i64 c.f, .slice ma mem.length mc, .slice ja jobs.length jc] 27)) 106 #[.slice none 0 0, .slice none 0 0, .int .i64 0]
    show Blk _ _ _ _
    simpa using this
  have HB0 : Hid (Below w.heap.size w ((w.alloc (.cells #[.int .i64 c.t, .int .i64 c.wd, .int .i64 c.s, .int .i64 c.g, .int .i64 c.r, .int .i64 c.cp, .int .i64 c.f, .slice ma mem.length mc, .slice ja jobs.length jc] 27)).alloc (.cells #[.slice none 0 0, .slice none 0 0, .int .i64 0] 106))) := hB0
  have hs0 : ((w.alloc (.cells #[.int .i64 c.t, .int .i64 c.wd, .int .i64 c.s, .int .i64 c.g, .int .i64 c.r, .int .i64 c.cp, .int .i64 c.f, .slice ma mem.length mc, .slice ja jobs.length jc] 27)).alloc (.cells #[.slice none 0 0, .slice none 0 0, .int .i64 0] 106)).heap.size = w.heap.size + 2 := by simp
  clear hm hj hB0 hc hmw hmb
  go_enter Tryz.func66, Tryz.ntmps66
  go_wp2_with fail
  obtain ⟨sb, hsb⟩ : ∃ sb, sb = w.heap.size := ⟨_, rfl⟩
  rw [← hsb] at HS0 HR0 ⊢
  have HSb : Hid (sb = w.heap.size) := hsb
  generalize (w.alloc (.cells #[.int .i64 c.t, .int .i64 c.wd, .int .i64 c.s, .int .i64 c.g, .int .i64 c.r, .int .i64 c.cp, .int .i64 c.f, .slice ma mem.length mc, .slice ja jobs.length jc] 27)).alloc (.cells #[.slice none 0 0, .slice none 0 0, .int .i64 0] 106) = w0 at *
  have HN : Hid (Calls Tryz.prog 79 #[.agg #[.int .i64 c.t, .int .i64 c.wd, .int .i64 c.s, .int .i64 c.g, .int .i64 c.r, .int .i64 c.cp, .int .i64 c.f], .slice ma mem.length mc] w0 (NewIs base mem w0)) := by
    obtain ⟨hc, hmw, hmb⟩ := HC.out
    exact newCells_any c base ma mc mem w0 hbase (by omega) (by omega) (by omega) (by omega) (by omega) (by omega) ((HM.out).up HB0.out)
  clear hsb
  refine (HN.out).mono ?_
  rintro e w2' ⟨nb, rfl, hn2, hb2, hnb⟩
  obtain ⟨Ds, hDs⟩ : ∃ Ds : List Int, Ds = List.replicate base (0 : Int) ++ mem := ⟨_, rfl⟩
  have hDl : Ds.length = base + mem.length := by rw [hDs]; simp
  rw [← hDs] at hn2
  rw [← hDl]
  have HDl : Hid (Ds.length = base + mem.length) := hDl
  clear hDl
  have HS2 : Hid (Blk w2' sb 27 #[.int .i64 c.t, .int .i64 c.wd, .int .i64 c.s, .int .i64 c.g, .int .i64 c.r, .int .i64 c.cp, .int .i64 c.f, .slice ma mem.length mc, .slice ja jobs.length jc]) := (HS0.out).below hb2 (HS0.out).lt
  have HR2 : Hid (Blk w2' (sb + 1) 106 #[.slice none 0 0, .slice none 0 0, .int .i64 0]) := (HR0.out).below hb2 (HR0.out).lt
  have HN2 : Hid (Blk w2' nb 3 (Ds.map (Value.int .i64 ·)).toArray) := hn2
  have HB2 : Hid (Below w.heap.size w w2') := (HB0.out).trans (hb2.mono (by omega))
  have HNb : Hid (w.heap.size + 2 ≤ nb) := by show _ ≤ _; omega
  have HDs : Hid (Ds = List.replicate base (0 : Int) ++ mem) := hDs
  have hs2 : w.heap.size + 2 ≤ w2'.heap.size := by have := hb2.size; omega
  have m0 := (HS2.out).cell
  have hsl : sb < w2'.heap.size := (HS2.out).lt
  clear HS0 HR0 HB0 HN hn2 hb2 hnb hDs hs0
  go_upto_region 2 with fail
  obtain ⟨wb, hwb⟩ : ∃ wb, wb = w2'.heap.size := ⟨_, rfl⟩
  have hB3 : Below w2'.heap.size w2' (w2'.alloc (.cells #[.slice (some ⟨nb, 0, none⟩) Ds.length Ds.length, .slice none 0 0, .int .i64 0] 106)) := (Below.refl _ _).alloc (Nat.le_refl _) _
  have HI3 : Hid (BI w.heap.size nb wb sb (sb + 1) Ds.length Ds.length #[.int .i64 c.t, .int .i64 c.wd, .int .i64 c.s, .int .i64 c.g, .int .i64 c.r, .int .i64 c.cp, .int .i64 c.f, .slice ma mem.length mc, .slice ja jobs.length jc] c jobs Ds none 0 0 [] (w2'.alloc (.cells #[.slice (some ⟨nb, 0, none⟩) Ds.length Ds.length, .slice none 0 0, .int .i64 0] 106))) := by
    refine ⟨(HS2.out).below hB3 (HS2.out).lt, (HR2.out).below hB3 (HR2.out).lt, by rw [hwb]; exact Blk.new w2' 106 _, (HN2.out).below hB3 (HN2.out).lt, World.ownsRow_nil _ _ _ _, rfl, fun i h => by simp at h, fun i j h => by simp at h, fun i h => by simp at h, fun i h => by simp at h, by have := HNb.out; omega, by have := HSb.out; omega⟩
  have HB3 : Hid (Below w.heap.size w (w2'.alloc (.cells #[.slice (some ⟨nb, 0, none⟩) Ds.length Ds.length, .slice none 0 0, .int .i64 0] 106))) := (HB2.out).trans (hB3.mono (by omega))
  have HWb : Hid (w.heap.size ≤ wb) := by show _ ≤ _; omega
  rw [← hwb]
  clear HS2 HR2 HN2 HB2 hB3 hwb hs2 m0 hsl
  generalize w2'.alloc (.cells #[.slice (some ⟨nb, 0, none⟩) Ds.length Ds.length, .slice none 0 0, .int .i64 0] 106) = w3 at *
  obtain ⟨iz, hiz, hz0, hz1, hz2⟩ := info_parts Tryz.info119
  go_wp2_with fail
  go_loopg [4] (tn + 1) (fun m t4 wr => ∃ (k : Nat) (ta : Option Addr) (tcap : Nat) (q : List (PT × Ls)), t4 = .int .i64 (k : Int) ∧ k ≤ tn ∧ m = tn + 1 - k ∧ Hid (BI w.heap.size nb wb sb (sb + 1) Ds.length Ds.length #[.int .i64 c.t, .int .i64 c.wd, .int .i64 c.s, .int .i64 c.g, .int .i64 c.r, .int .i64 c.cp, .int .i64 c.f, .slice ma mem.length mc, .slice ja jobs.length jc] c jobs Ds ta tcap k q wr) ∧ Hid (Below w.heap.size w wr))
  case atStart => exact ⟨0, none, 0, [], rfl, by omega, by omega, HI3, HB3⟩
  case round =>
    obtain ⟨k, ta, tcap, q, rfl, hk, hgk, HI, HB⟩ := hrel
    clear HI3 HB3
    have m0 := (HI.out).setup.cell
    have m1 := (HI.out).wst.cell
    by_cases hlt : k < tn
    · have hlt' : (k : Int) < c.t := by omega
      have hwk : IntKind.i64.wrap ((k : Int) + 1) = (k : Int) + 1 := wrapP _ (by omega) (by omega)
      have HNw : Hid (∀ W, (∃ m, W = wr.drewN m) → Calls Tryz.prog 80 #[.agg #[.int .i64 c.t, .int .i64 c.wd, .int .i64 c.s, .int .i64 c.g, .int .i64 c.r, .int .i64 c.cp, .int .i64 c.f], .int .i64 (k : Int), .slice ja jobs.length jc] W fun e w' =>
          ∃ ma mc, e = .returned (.agg (tArr (tInit c jobs k) (L0 ma mc)).toArray) ∧ w'.ownsRow W.heap.size 3 1 (.slice ma (mineF k 0 jobs).length mc) (mineF k 0 jobs).length (intCells (mineF k 0 jobs)) ∧ Below W.heap.size W w') := fun W hW => by
        obtain ⟨m, rfl⟩ := hW
        exact new_any c k jobs ja jc (wr.drewN m) (((HJ.out).up HB.out).mono (HB.out).size) hjl
      have hwbl : wb < wr.heap.size := (HI.out).wst.lt
      have hpne : (Value.slice ta k tcap).ownBlock ≠ some wb := fun q => own_tag (HI.out).thr (HI.out).wst (by decide) wb q rfl
      have hbs : w.heap.size ≤ wr.heap.size := (HB.out).size
      have hk4 : k ≤ 4 := by omega
      go_wp2_with fail
      go_region_law
        (first
          | (go_simp; go_at_call 80; refine (HNw.out _ ⟨1, rfl⟩).mono ?_; rintro e w5 ⟨ma5, mc5, rfl, hm5, hb5⟩;
             have HI5 : Hid (BI w.heap.size nb wb sb (sb + 1) Ds.length Ds.length #[.int .i64 c.t, .int .i64 c.wd, .int .i64 c.s, .int .i64 c.g, .int .i64 c.r, .int .i64 c.cp, .int .i64 c.f, .slice ma mem.length mc, .slice ja jobs.length jc] c jobs Ds ta tcap k q w5) := (HI.out).below ((below_drew wr).trans hb5);
             have HM5 : Hid (w5.ownsRow wr.heap.size 3 1 (.slice ma5 (mineF k 0 jobs).length mc5) (mineF k 0 jobs).length (intCells (mineF k 0 jobs)) ∧ Below wr.heap.size wr w5) := ⟨hm5, (below_drew wr).trans hb5⟩;
             have n1 := (HI5.out).wst.cell; have hwb5 : wb < w5.heap.size := (HI5.out).wst.lt; have hwb6 : wb ≠ w5.heap.size := (by omega); have hbs5 : w.heap.size ≤ w5.heap.size := Nat.le_trans hbs hb5.size;
             obtain ⟨T, hT⟩ : ∃ T, T = tArr (tInit c jobs k) (L0 ma5 mc5) := ⟨_, rfl⟩; have HT : Hid (T = tArr (tInit c jobs k) (L0 ma5 mc5) ∧ T.length = 47 ∧ ∀ u ∈ T, u.oneCell' = true) := ⟨hT, by rw [hT]; rfl, by rw [hT]; unfold tInit yBegin yLoad; split <;> simp [tArr, t0, L0, Value.oneCell']⟩; rw [← hT]; have hTl : T.length = 47 := (HT.out).2.1; have hfold : List.foldl (fun cs x => cs.setIfInBounds x.snd x.fst) #[.int .i64 0, .int .i64 0, .int .i64 0, .int .i64 0, .int .i64 0, .int .i64 0, .int .i64 0, .int .i64 0, .slice none 0 0, .int .i64 0, .slice none 0 0, .int .i64 0, .int .i64 0, .int .i64 0, .int .i64 0, .int .i64 0, .int .i64 0, .int .i64 0, .int .i64 0, .int .i64 0, .int .i64 0, .int .i64 0, .int .i64 0, .int .i64 0, .int .i64 0, .int .i64 0, .slice none 0 0, .int .i64 0, .int .i64 0, .int .i64 0, .int .i64 0, .int .i64 0, .int .i64 0, .int .i64 0, .int .i64 0, .int .i64 0, .int .i64 0, .int .i64 0, .slice none 0 0, .slice none 0 0, .slice none 0 0, .int .i64 0, .int .i64 0, .int .i64 0, .int .i64 0, .int .i64 0, .int .i64 0] T.zipIdx = T.toArray := (by have := fold_set T 0 #[.int .i64 0, .int .i64 0, .int .i64 0, .int .i64 0, .int .i64 0, .int .i64 0, .int .i64 0, .int .i64 0, .slice none 0 0, .int .i64 0, .slice none 0 0, .int .i64 0, .int .i64 0, .int .i64 0, .int .i64 0, .int .i64 0, .int .i64 0, .int .i64 0, .int .i64 0, .int .i64 0, .int .i64 0, .int .i64 0, .int .i64 0, .int .i64 0, .int .i64 0, .int .i64 0, .slice none 0 0, .int .i64 0, .int .i64 0, .int .i64 0, .int .i64 0, .int .i64 0, .int .i64 0, .int .i64 0, .int .i64 0, .int .i64 0, .int .i64 0, .int .i64 0, .slice none 0 0, .slice none 0 0, .slice none 0 0, .int .i64 0, .int .i64 0, .int .i64 0, .int .i64 0, .int .i64 0, .int .i64 0] (by rw [hTl]; rfl); simpa using this); clear hm5 hb5 hT)
          | (refine step_append_lies _ (by rfl) _ _ _ (by rfl) w.heap.size 119 iz _ 47 472 Tryz.underlying104 hiz hz0 hz1 hz2 rfl (by omega) (.slice ta k tcap) k (rowsOf q).flatten (by rfl) (World.ownsRow.alloc (by exact (HI5.out).thr) _)
              ⟨w5.heap.size, 0, none⟩ 1 1 T (by rfl) (by rw [(HT.out).2.1]) (World.news_of_block (cs := T.toArray) (t := 119) (fr := (0, 0)) (by exact heap_alloc_new w5 _)) (HT.out).2.2
              (by omega) (by unfold maxLen; omega) (by omega) (by simp; omega) (w5.heap.size + 1) (by simp) ?_; intro gg cap7 w7 hown1 hgrow hat hlt7;
             have hd8 : w7.cell? ⟨wb, 1, none⟩ = some (.slice ta k tcap) := (by rw [hgrow.cell_far _ (by simp; omega) (Ne.symm hpne)]; exact ((HI5.out).below ((Below.refl _ _).alloc (Nat.le_refl _) _)).wst.cell 1);
             have he8 : w7.frozen? ⟨wb, 1, none⟩ = false := (by rw [hgrow.frozen_far _ (by simp; omega) (Ne.symm hpne)]; exact ((HI5.out).below ((Below.refl _ _).alloc (Nat.le_refl _) _)).wst.frozen 1)))
      all_goals
        have HI8 : Hid (BI w.heap.size nb wb sb (sb + 1) Ds.length Ds.length #[.int .i64 c.t, .int .i64 c.wd, .int .i64 c.s, .int .i64 c.g, .int .i64 c.r, .int .i64 c.cp, .int .i64 c.f, .slice ma mem.length mc, .slice ja jobs.length jc] c jobs Ds (some ⟨gg, 0, none⟩) cap7 (k + 1) (q ++ [(tInit c jobs k, L0 ma5 mc5)]) (w7.setCell ⟨wb, 1, none⟩ (.slice (some ⟨gg, 0, none⟩) (k + 1) cap7))) :=
          BI.add HI.out (HM5.out).2 (HM5.out).1 hbs ((Below.refl _ _).alloc (Nat.le_refl _) _) hgrow ((HT.out).1 ▸ hown1)
        have HB8 : Hid (Below w.heap.size w (w7.setCell ⟨wb, 1, none⟩ (.slice (some ⟨gg, 0, none⟩) (k + 1) cap7))) :=
          bi_below HB.out (HM5.out).2 ((Below.refl _ _).alloc (Nat.le_refl _) _) (HI.out).thr hgrow HWb.out _
        clear HI HB HI5 HM5 HT HNw hown1 hgrow hat hlt7 hd8 he8 hfold hTl n1 m0 m1 hwb5 hwb6 hbs5 hwbl hpne hbs
        generalize w7.setCell ⟨wb, 1, none⟩ (.slice (some ⟨gg, 0, none⟩) (k + 1) cap7) = w8 at *
        go_wp2_with fail
        go_roundg (gk - 1)
        case rel => exact ⟨k + 1, some ⟨gg, 0, none⟩, cap7, q ++ [(tInit c jobs k, L0 ma5 mc5)], by simp, by omega, by omega, HI8, HB8⟩
        case measure => omega
    · have hkj : k = tn := by omega
      subst hkj
      have hlt2 : ¬ ((k : Int) < c.t) := by omega
      have m2 := (HI.out).res.cell
      have hf2 := (HI.out).res.frozen
      have hl2 : sb + 1 < wr.heap.size := (HI.out).res.lt
      have hwr : wb ≠ sb + 1 := (HI.out).sne
      have HRs : Hid (Blk wr (sb + 1) 106 #[.slice none 0 0, .slice none 0 0, .int .i64 0]) := (HI.out).res
      go_wp2_with fail
      obtain ⟨hc, hmw, hmb⟩ := HC.out
      have hsb : w.heap.size ≤ sb + 1 := by have := HSb.out; omega
      refine bodyPost_ret (v := .agg #[.slice (some ⟨nb, 0, none⟩) Ds.length Ds.length, .slice ta k tcap, .int .i64 0]) ?_ rfl (begun_of hc hmw hmb hjl hbase htn (by omega) HDs.out HI.out HB.out ((((Only.refl _ _).set).set).set) hsb)
      have hb : Blk (((wr.setCell ⟨sb + 1, 0, none⟩ (.slice (some ⟨nb, 0, none⟩) Ds.length Ds.length)).setCell ⟨sb + 1, 1, none⟩ (.slice ta k tcap)).setCell ⟨sb + 1, 2, none⟩ (.int .i64 0)) (sb + 1) 106 #[.slice (some ⟨nb, 0, none⟩) Ds.length Ds.length, .slice ta k tcap, .int .i64 0] := ((HRs.out).set.set.set).congr (by simp)
      generalize ((wr.setCell ⟨sb + 1, 0, none⟩ (.slice (some ⟨nb, 0, none⟩) Ds.length Ds.length)).setCell ⟨sb + 1, 1, none⟩ (.slice ta k tcap)).setCell ⟨sb + 1, 2, none⟩ (.int .i64 0) = w9 at *
      have h9 := hb.cell
      clear HI HB HRs m0 m1 m2 hf2
      simp [results, Tryz.results66, go_sem, h9]

end Go.Proofs.YtejadojilncbjaaGreat

namespace Go.Proofs.YtejadojilncbjaaGreat
open Go.RowKit
set_option linter.unusedVariables false
attribute [local go_sem ↓] Go.wp_at_zero Go.wp_at_succ

/-- The threads and the cells behind k picks. -/
def WS (base p nb cb cap tcap : Nat) (X : List Value) (c : Cfg) (mem : List Int) (jobs : List (Int × List InsD)) (ps : List PickD) (k : Nat) (w : World) : Prop :=
  ∃ q Ds, WR base p nb cb cap tcap k X w q Ds ∧ SimW c jobs k (gAt c mem jobs ps k) q Ds

theorem WS.below {base p nb cb cap tcap : Nat} {X : List Value} {c : Cfg} {mem : List Int} {jobs : List (Int × List InsD)} {ps : List PickD} {k : Nat} {w w' : World} (h : WS base p nb cb cap tcap X c mem jobs ps k w) (hb : Below w.heap.size w w') : WS base p nb cb cap tcap X c mem jobs ps k w' := by
  obtain ⟨q, Ds, R, M⟩ := h
  exact ⟨q, Ds, R.below hb, M⟩

/-- What a pick leaves. -/
def PickIs (base p nb cb cap tcap : Nat) (X : List Value) (c : Cfg) (mem : List Int) (jobs : List (Int × List InsD)) (ps : List PickD) (k : Nat) (w : World) (e : Ending) (w' : World) : Prop :=
  (∃ a : AccD, a = (gStep c jobs (gAt c mem jobs ps k) ((k : Int) + 1) (pickAt ps k)).2 ∧ e = .returned (.agg #[.int .i64 a.kind, .int .i64 a.cell, .int .i64 a.seen, .int .i64 a.put])) ∧
  WS base p nb cb cap tcap X c mem jobs ps (k + 1) w' ∧ Below base w w' ∧ (∀ b T cs, Blk w b T cs → (119 : Nat) ≠ T → (3 : Nat) ≠ T → (175 : Nat) ≠ T → (180 : Nat) ≠ T → (95 : Nat) ≠ T → (84 : Nat) ≠ T → (106 : Nat) ≠ T → Blk w' b T cs)

theorem ws_pick {base p nb cb cap tcap : Nat} {X : List Value} {c : Cfg} {mem : List Int} {jobs : List (Int × List InsD)} {ps : List PickD} {k : Nat} {w : World} (S : SetupOk c mem jobs) (hk : k < 2 ^ 30) (W : WS base p nb cb cap tcap X c mem jobs ps k w) (ja : Option Addr) (jc : Nat) (hj : JobsRep w base ja jobs) :
    Calls Tryz.prog 67 #[.pointer (some ⟨cb, 0, none⟩), .slice ja jobs.length jc, .agg #[.int .i64 (pickAt ps k).thread, .int .i64 (pickAt ps k).draw]] w (PickIs base p nb cb cap tcap X c mem jobs ps k w) := by
  obtain ⟨q, Ds, R, M⟩ := W
  refine (t_wpick S.cfg ⟨by omega, by omega⟩ R M ⟨by omega, by omega⟩ (pickAt ps k) ja jc hj S.cd).mono ?_
  rintro e w' ⟨rfl, q', Ds', R', M', G, _⟩
  refine ⟨⟨_, rfl, rfl⟩, ⟨q', Ds', R', ?_⟩, G.low R, fun b T cs h h1 h2 h3 h4 h5 h6 h7 => ?_⟩
  · rw [show ((k + 1 : Nat) : Int) = (k : Int) + 1 from by simp]
    exact M'
  · exact (G.block b h.lt (Ne.symm (Blk.ne R.thr h h1)) (Ne.symm (Blk.ne R.num h h2)) (Ne.symm (Blk.ne R.wst h h7)) (fun ⟨i, hi, o⟩ => Own_tag (R.rows i hi) h h3 h4 h2 h5 h6 o)).trans h

end Go.Proofs.YtejadojilncbjaaGreat
