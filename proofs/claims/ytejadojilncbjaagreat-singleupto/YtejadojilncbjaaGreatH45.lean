import Derived.Test.YtejadojilncbjaaGreatH44
import Derived.Deep.DeepCutAuto
namespace Go.Proofs.YtejadojilncbjaaGreat
open Go.RowKit
set_option linter.unusedVariables false
attribute [local go_sem ↓] Go.wp_at_zero Go.wp_at_succ

def tInit (c : Cfg) (jobs : List (Int × List InsD)) (i : Nat) : PT := yBegin (t0 c i (mineF i 0 jobs))

theorem init_sim (c : Cfg) (jobs : List (Int × List InsD)) (i : Nat) : Sim (cxOf c jobs i) (tInit c jobs i) (hInit (cxOf c jobs i)) := by
  have hT : TolF (cxOf c jobs i) (mineF i 0 jobs) 0 [] (t0 c i (mineF i 0 jobs)).told [] ((cxOf c jobs i).jobs.map fun _ => ⟨0, 0, 0, 0, 0⟩) := by
    refine ⟨rfl, Nat.zero_le _, Or.inl rfl, by simp, rfl, fun j hj => absurd hj (Nat.not_lt_zero _), fun j _ => ?_⟩
    simp only [List.getD, List.getElem?_map]
    cases (cxOf c jobs i).jobs[j]? <;> rfl
  unfold tInit hInit hTo
  rcases seek_mine (cxOf c jobs i).me (cxOf c jobs i).jobs ((cxOf c jobs i).jobs.drop 0) 0 rfl with ⟨h1, h2⟩ | ⟨k, h1, h2, h3, h4⟩
  · rw [h1]
    have h2' : mineF (i : Int) 0 jobs = [] := by simpa [cxOf] using h2
    unfold yBegin
    rw [if_neg (show ¬ (t0 c i (mineF i 0 jobs)).cur < (t0 c i (mineF i 0 jobs)).mine.length by show ¬ 0 < (mineF (i : Int) 0 jobs).length; rw [h2']; simp)]
    exact Or.inl ⟨rfl, rfl, hT⟩
  · rw [h1]
    have h4' : mineF (i : Int) 0 jobs = (k : Int) :: mineF (i : Int) (k + 1) (jobs.drop (k + 1)) := by simpa [cxOf] using h4
    have b1 : Bas (cxOf c jobs i) (t0 c i (mineF i 0 jobs)) { (⟨0, 0, [], (cxOf c jobs i).jobs.map fun _ => ⟨0, 0, 0, 0, 0⟩, 0, newTS [] 0, .idle⟩ : Th) with rank := 0, fails := 0, job := k, st := .start } := ⟨rfl, rfl, rfl, rfl, h2, h3, h4', hT⟩
    exact sim_start b1 rfl

theorem init_own (c : Cfg) (jobs : List (Int × List InsD)) (i : Nat) (hj : jobs.length ≤ 8) : Own5 0 (tInit c jobs i) := by
  have h := mineF_len (i : Int) jobs 0
  unfold tInit yBegin
  split
  · exact ⟨⟨Int.le_refl _, Int.le_refl _⟩, by show (mineF (i : Int) 0 jobs).length ≤ 100; omega, Nat.zero_le _, by show (0 : Int) ≤ 8; decide, by show ((0 : Nat) : Int) ≤ 60 * 0; decide⟩
  · exact ⟨⟨Int.le_refl _, Int.le_refl _⟩, by show (mineF (i : Int) 0 jobs).length ≤ 100; omega, Nat.zero_le _, by show (0 : Int) ≤ 8; decide, by show ((0 : Nat) : Int) ≤ 60 * 0; decide⟩

theorem init_rows {base : Nat} {w : World} {c : Cfg} {jobs : List (Int × List InsD)} {i : Nat} {ma : Option Addr} {mc : Nat} (h : w.ownsRow base 3 1 (.slice ma (mineF i 0 jobs).length mc) (mineF i 0 jobs).length (intCells (mineF i 0 jobs))) : RowsOk base w (tInit c jobs i) (L0 ma mc) := by
  have e : (tInit c jobs i).reads = [] ∧ (tInit c jobs i).writes = [] ∧ (tInit c jobs i).held = [] ∧ (tInit c jobs i).mine = mineF i 0 jobs ∧ (tInit c jobs i).notes = [] ∧ (tInit c jobs i).res = [] := by unfold tInit yBegin yLoad; split <;> exact ⟨rfl, rfl, rfl, rfl, rfl, rfl⟩
  obtain ⟨e1, e2, e3, e4, e5, e6⟩ := e
  refine ⟨?_, ?_, ?_, ?_, ?_, ?_, ?_⟩
  · rw [e1]; exact World.ownsRow_nil _ _ _ _
  · rw [e2]; exact World.ownsRow_nil _ _ _ _
  · rw [e3]; exact World.ownsRow_nil _ _ _ _
  · rw [e4]; exact h
  · rw [e3]; intro k hk; simp [Value.ownBlock, L0] at hk
  · rw [e5]; exact World.ownsRow_nil _ _ _ _
  · rw [e6]; exact World.ownsRow_nil _ _ _ _

theorem L0_own {ma : Option Addr} {mc k : Nat} (h : Own (L0 ma mc) k) : oB ma = some k := by
  unfold Own at h
  simp [L0, oB] at h
  simpa [oB] using h

/-- The threads so far. -/
structure BI (base nb wb sb r2 N cap : Nat) (S : Array Value) (c : Cfg) (jobs : List (Int × List InsD)) (Ds : List Int) (ta : Option Addr) (tcap k : Nat) (q : List (PT × Ls)) (w : World) : Prop where
  setup : Blk w sb 27 S
  res : Blk w r2 106 #[.slice none 0 0, .slice none 0 0, .int .i64 0]
  wst : Blk w wb 106 #[.slice (some ⟨nb, 0, none⟩) N cap, .slice ta k tcap, .int .i64 0]
  num : Blk w nb 3 (Ds.map (Value.int .i64 ·)).toArray
  thr : w.ownsRow base 119 47 (.slice ta k tcap) k (rowsOf q).flatten
  ql : q.length = k
  rows : ∀ i (h : i < q.length), RowsOk base w q[i].1 q[i].2
  dis : ∀ i j (hi : i < q.length) (hj : j < q.length), i ≠ j → ∀ k, Own q[i].2 k → ¬ Own q[j].2 k
  nown : ∀ i (h : i < q.length), ¬ Own q[i].2 nb
  init : ∀ i (h : i < q.length), q[i].1 = tInit c jobs i
  nbb : base ≤ nb
  sne : wb ≠ r2

theorem ownsRow_low {w : World} {base base' : Nat} {e : TypeId} {size n : Nat} {v : Value} {xs : List Value} (h : w.ownsRow base e size v n xs) (hb : base' ≤ base) : w.ownsRow base' e size v n xs :=
  ⟨h.1, h.2.imp id (fun ⟨g, cap, cur, hv, hb', r⟩ => ⟨g, cap, cur, hv, Nat.le_trans hb hb', r⟩)⟩
theorem ownsRow_below {w w' : World} {base : Nat} {e : TypeId} {size n : Nat} {v : Value} {xs : List Value} (h : w.ownsRow base e size v n xs) (hb : Below w.heap.size w w') : w'.ownsRow base e size v n xs :=
  ownsRow_same h (fun k hk => hb.block k (h.lt k hk).2)

theorem BI.below {base nb wb sb r2 N cap : Nat} {S : Array Value} {c : Cfg} {jobs : List (Int × List InsD)} {Ds : List Int} {ta : Option Addr} {tcap k : Nat} {q : List (PT × Ls)} {w w' : World} (I : BI base nb wb sb r2 N cap S c jobs Ds ta tcap k q w) (h : Below w.heap.size w w') :
    BI base nb wb sb r2 N cap S c jobs Ds ta tcap k q w' :=
  ⟨I.setup.below h I.setup.lt, I.res.below h I.res.lt, I.wst.below h I.wst.lt, I.num.below h I.num.lt, ownsRow_below I.thr h, I.ql, fun i hi => (I.rows i hi).kept (fun k o => h.block k ((I.rows i hi).own k o).2), I.dis, I.nown, I.init, I.nbb, I.sne⟩

theorem BI.add {base nb wb sb r2 N cap : Nat} {S : Array Value} {c : Cfg} {jobs : List (Int × List InsD)} {Ds : List Int} {ta : Option Addr} {tcap k : Nat} {q : List (PT × Ls)} {w w5 w6 w7 : World} {ma : Option Addr} {mc g cap' : Nat} (I : BI base nb wb sb r2 N cap S c jobs Ds ta tcap k q w)
    (hb5 : Below w.heap.size w w5) (hm : w5.ownsRow w.heap.size 3 1 (.slice ma (mineF k 0 jobs).length mc) (mineF k 0 jobs).length (intCells (mineF k 0 jobs))) (hbs : base ≤ w.heap.size) (hb6 : Below w5.heap.size w5 w6)
    (hgr : w6.grownBy w7 (Value.slice ta k tcap).ownBlock) (hown : w7.ownsRow base 119 47 (.slice (some ⟨g, 0, none⟩) (k + 1) cap') (k + 1) ((rowsOf q).flatten ++ tArr (tInit c jobs k) (L0 ma mc))) :
    BI base nb wb sb r2 N cap S c jobs Ds (some ⟨g, 0, none⟩) cap' (k + 1) (q ++ [(tInit c jobs k, L0 ma mc)]) (w7.setCell ⟨wb, 1, none⟩ (.slice (some ⟨g, 0, none⟩) (k + 1) cap')) := by
  have I6 := (I.below hb5).below hb6
  have hm6 := ownsRow_below hm hb6
  have tag7 : ∀ {b : Nat} {T : TypeId} {cs : Array Value}, Blk w6 b T cs → (119 : Nat) ≠ T → Blk w7 b T cs := fun h ht => (hgr.block _ h.lt (fun e => own_tag I6.thr h ht _ e.symm rfl)).trans h
  have ho : Only wb w7 (w7.setCell ⟨wb, 1, none⟩ (.slice (some ⟨g, 0, none⟩) (k + 1) cap')) := (Only.refl _ _).set
  have hs7 := tag7 I6.setup (by decide)
  have hr7 := tag7 I6.res (by decide)
  have hw7 := tag7 I6.wst (by decide)
  have hn7 := tag7 I6.num (by decide)
  have row7 : ∀ {e size n : Nat} {v : Value} {xs : List Value} {b0 : Nat}, w6.ownsRow b0 e size v n xs → e ≠ 119 → e ≠ 106 → (w7.setCell ⟨wb, 1, none⟩ (.slice (some ⟨g, 0, none⟩) (k + 1) cap')).ownsRow b0 e size v n xs := fun {e size n v xs b0} h he he2 => by
    have h7 : w7.ownsRow b0 e size v n xs := ownsRow_same h (fun q hq => hgr.block q (h.lt q hq).2 (fun e2 => by
      rcases h.2 with ⟨rfl, _⟩ | ⟨g1, cap1, cur1, rfl, _, hg1, _⟩
      · simp [Value.ownBlock] at hq
      · simp [Value.ownBlock] at hq
        subst hq
        exact own_tag I6.thr hg1 (Ne.symm he) _ e2.symm rfl))
    exact ownsRow_only h7 ho (own_tag h7 hw7 he2)
  have rows7 : ∀ {t : PT} {L : Ls}, RowsOk base w6 t L → RowsOk base (w7.setCell ⟨wb, 1, none⟩ (.slice (some ⟨g, 0, none⟩) (k + 1) cap')) t L := fun R => ⟨row7 R.rd (by decide) (by decide), row7 R.wr (by decide) (by decide), row7 R.hd (by decide) (by decide), row7 R.mi (by decide) (by decide), R.ne, row7 R.nt (by decide) (by decide), row7 R.sr (by decide) (by decide)⟩
  have hnew : ∀ b, Own (L0 ma mc) b → w.heap.size ≤ b := fun b o => by
    have := L0_own o
    rw [← oB_eq ma (mineF k 0 jobs).length mc] at this
    exact (hm.lt b this).1
  have hold : ∀ i (hi : i < q.length) b, Own q[i].2 b → b < w.heap.size := fun i hi b o => ((I.rows i hi).own b o).2
  have hget : ∀ i (h : i < (q ++ [(tInit c jobs k, L0 ma mc)]).length), (∃ h' : i < q.length, (q ++ [(tInit c jobs k, L0 ma mc)])[i] = q[i]) ∨ (i = k ∧ (q ++ [(tInit c jobs k, L0 ma mc)])[i] = (tInit c jobs k, L0 ma mc)) := fun i h => by
    by_cases hi : i < q.length
    · exact Or.inl ⟨hi, List.getElem_append_left hi⟩
    · have : i = q.length := by simp at h; omega
      subst this
      exact Or.inr ⟨I.ql, by simp⟩
  refine ⟨hs7.only ho (Blk.ne hs7 hw7 (by decide)), hr7.only ho (Ne.symm I.sne), ?_, hn7.only ho (Blk.ne hn7 hw7 (by decide)), ?_, by simp [I.ql], ?_, ?_, ?_, ?_, I.nbb, I.sne⟩
  · exact hw7.set.congr (by simp)
  · have := ownsRow_only hown ho (own_tag hown hw7 (by decide))
    unfold rowsOf at this ⊢
    simpa [List.flatten_append] using this
  · intro i hi
    rcases hget i hi with ⟨h', e⟩ | ⟨e1, e⟩
    · rw [e]; exact rows7 (I6.rows i h')
    · rw [e]; exact rows7 (init_rows (ownsRow_low hm6 hbs))
  · intro a b ha hb hab x oa ob
    rcases hget a ha with ⟨ha', ea⟩ | ⟨ea1, ea⟩ <;> rcases hget b hb with ⟨hb', eb⟩ | ⟨eb1, eb⟩
    · rw [ea] at oa; rw [eb] at ob; exact I.dis a b ha' hb' hab x oa ob
    · rw [ea] at oa; rw [eb] at ob; have := hold a ha' x oa; have := hnew x ob; omega
    · rw [ea] at oa; rw [eb] at ob; have := hold b hb' x ob; have := hnew x oa; omega
    · omega
  · intro i hi o
    rcases hget i hi with ⟨h', e⟩ | ⟨e1, e⟩
    · rw [e] at o; exact I.nown i h' o
    · rw [e] at o; have := hnew nb o; have := I.num.lt; omega
  · intro i hi
    rcases hget i hi with ⟨h', e⟩ | ⟨e1, e⟩
    · rw [e]; exact I.init i h'
    · rw [e, e1]

end Go.Proofs.YtejadojilncbjaaGreat

namespace Go.Proofs.YtejadojilncbjaaGreat
open Go.RowKit
set_option linter.unusedVariables false
attribute [local go_sem ↓] Go.wp_at_zero Go.wp_at_succ

theorem Tryz.info119 : (Tryz.prog.info? 119).map (fun i => (i.zero, i.size, i.bytes)) = some (some (.agg zc), 47, 472) := by kernel_rfl

theorem fold_set : ∀ (l : List Value) (j : Nat) (a : Array Value), j + l.length = a.size → (l.zipIdx j).foldl (fun cs x => cs.setIfInBounds x.snd x.fst) a = (a.toList.take j ++ l).toArray
  | [], j, a, h => by
    have : j = a.size := by simpa using h
    subst this
    rw [List.take_of_length_le (by simp)]
    simp
  | v :: l, j, a, h => by
    rw [List.zipIdx_cons, List.foldl_cons, fold_set l (j + 1) (a.setIfInBounds j v) (by simp at h ⊢; omega)]
    congr 1
    have hj : j < a.toList.length := by simp at h ⊢; omega
    rw [Array.toList_setIfInBounds, List.take_set, List.take_add_one, List.getElem?_eq_getElem hj]
    simp only [Option.toList]
    rw [List.set_append_right _ _ (by simp; omega)]
    simp [Nat.min_eq_left (Nat.le_of_lt (by simpa using hj))]

/-- What begin leaves: the threads and the cells at their beginning. -/
def BegunIs (c : Cfg) (mem : List Int) (jobs : List (Int × List InsD)) (w : World) (e : Ending) (w' : World) : Prop :=
  ∃ (nb p cap tcap : Nat) (q : List (PT × Ls)) (Ds : List Int) (X : List Value), e = .returned (.agg #[.slice (some ⟨nb, 0, none⟩) Ds.length cap, .slice (some ⟨p, 0, none⟩) q.length tcap, .int .i64 0]) ∧
    (∀ w2 cb, Below w'.heap.size w' w2 → Blk w2 cb 106 #[.slice (some ⟨nb, 0, none⟩) Ds.length cap, .slice (some ⟨p, 0, none⟩) q.length tcap, .int .i64 0] → w.heap.size ≤ cb → WR w.heap.size p nb cb cap tcap 0 X w2 q Ds) ∧ SimW c jobs 0 (gStart c mem jobs) q Ds ∧ Below w.heap.size w w'

theorem bi_below {wb k tcap : Nat} {ta : Option Addr} {xs : List Value} {w wr w5 w6 w7 : World} (hB : Below w.heap.size w wr) (hb5 : Below wr.heap.size wr w5) (hb6 : Below w5.heap.size w5 w6) (hthr : wr.ownsRow w.heap.size 119 47 (.slice ta k tcap) k xs) (hgr : w6.grownBy w7 (Value.slice ta k tcap).ownBlock) (hwb : w.heap.size ≤ wb) (v : Value) :
    Below w.heap.size w (w7.setCell ⟨wb, 1, none⟩ v) := by
  have h1 : Below w.heap.size w w6 := (hB.trans (hb5.mono hB.size)).trans (hb6.mono (Nat.le_trans hB.size hb5.size))
  have hs : w.heap.size ≤ w6.heap.size := h1.size
  refine below_onto (w' := w7) ⟨hgr.os.trans h1.os, hgr.tape.trans h1.tape, hgr.output.trans h1.output, Nat.le_trans h1.size hgr.size, fun q hq => ?_⟩ ((Only.refl _ _).set) hwb (by have := hgr.size; omega)
  rw [hgr.block q (by omega) (fun e => by have := (hthr.lt q e.symm).1; omega)]
  exact h1.block q hq

theorem begun_of {c : Cfg} {mem : List Int} {jobs : List (Int × List InsD)} {w wr w' : World} {base nb wb sb r2 tcap tn : Nat} {S : Array Value} {Ds : List Int} {ta : Option Addr} {q : List (PT × Ls)} (hc : cfgB c = true) (hmw : (mem.length : Int) = c.wd) (hmb : memB mem = true) (hjl : jobs.length ≤ 8)
    (hbase : (base : Int) = 3 + 2 * c.s + c.t) (htn : (tn : Int) = c.t) (ht1 : 1 ≤ tn) (hDs : Ds = List.replicate base (0 : Int) ++ mem) (I : BI w.heap.size nb wb sb r2 Ds.length Ds.length S c jobs Ds ta tcap tn q wr) (HB : Below w.heap.size w wr) (ho : Only r2 wr w') (hr : w.heap.size ≤ r2) :
    BegunIs c mem jobs w (.returned (.agg #[.slice (some ⟨nb, 0, none⟩) Ds.length Ds.length, .slice ta tn tcap, .int .i64 0])) w' := by
  obtain ⟨g, cap, cur, hv, hbg, hgb, h1, h2, h3, h4⟩ := own_block I.thr ht1
  obtain ⟨rfl, rfl⟩ : ta = some ⟨g, 0, none⟩ ∧ tcap = cap := by injection hv with a b c; exact ⟨a, c⟩
  have hql := I.ql
  have hg2 : Blk w' g 119 cur := hgb.only ho (Blk.ne hgb I.res (by decide))
  have hn2 : Blk w' nb 3 (Ds.map (Value.int .i64 ·)).toArray := I.num.only ho (Blk.ne I.num I.res (by decide))
  have hrows : ∀ i (h : i < q.length), RowsOk w.heap.size w' q[i].1 q[i].2 := fun i h => (I.rows i h).kept (fun k o => ho.block k ((I.rows i h).own k o).2 (fun e => Own_tag (I.rows i h) I.res (by decide) (by decide) (by decide) (by decide) (by decide) (e ▸ o)))
  refine ⟨nb, g, Ds.length, tcap, q, Ds, cur.toList.drop (tn * 47), by rw [hql], ?_, ?_, below_onto HB ho hr HB.size⟩
  · intro w2 cb hb hcb hle
    have hbs : w.heap.size ≤ w2.heap.size := Nat.le_trans HB.size (Nat.le_trans ho.size hb.size)
    refine ⟨?_, fun i h => (hrows i h).kept (fun k o => hb.block k ((hrows i h).own k o).2), I.dis, hn2.below hb hn2.lt, I.nown, hcb, hbg, I.nbb, hle, hbs⟩
    refine (hg2.below hb hg2.lt).congr ?_
    rw [← h4, List.take_append_drop]
  · have hd : ∀ i (h : i < q.length), q[i].1 = tInit c jobs i := I.init
    refine ⟨by rw [hql]; exact htn, ?_, ?_, fun i h => by rw [hd i h]; exact init_sim c jobs i, fun i h => by rw [hd i h]; exact init_own c jobs i hjl, gstart_ok hc hmw hmb jobs⟩
    · rw [hDs, total_eq]
      simp
      omega
    · intro x hx
      show Ds.getD x 0 = startVal c mem x
      unfold startVal wordBase
      rw [hDs] at hx ⊢
      by_cases hxb : x < base
      · rw [if_neg (by omega)]
        simp [List.getD_eq_getElem?_getD, List.getElem?_append_left, hxb]
      · rw [if_pos (by omega)]
        have e : ((x : Int) - (3 + 2 * c.s + c.t)).toNat = x - base := by omega
        rw [e]
        simp [List.getD_eq_getElem?_getD, List.getElem?_append_right, Nat.le_of_not_lt hxb]

end Go.Proofs.YtejadojilncbjaaGreat
