import Derived.Test.YtejadojilncbjabGreatH39
import Derived.Test.YtejadojilncbjabGreatH18
import Derived.Test.YtejadojilncbjabGreatH16
import Derived.Deep.Upon
import Derived.Test.YtejadojilncbjabGreatH23
import Derived.Test.YtejadojilncbjabGreatH29
import Derived.Test.YtejadojilncbjabGreatH17
import Derived.Test.YtejadojilncbjabGreatH07
namespace Go.Proofs.YtejadojilncbjabGreat
open Go.RowKit
set_option linter.unusedVariables false
attribute [local go_sem ↓] Go.wp_at_zero Go.wp_at_succ

def tInit (c : Cfg) (jobs : List (Int × List InsD)) (i : Nat) : PT := yBegin (t0 c i (mineF i 0 jobs))

theorem init_sim (c : Cfg) (jobs : List (Int × List InsD)) (i : Nat) : Sim (cxOf c jobs i) (tInit c jobs i) (hInit (cxOf c jobs i)) := by
  have hT : TolF (cxOf c jobs i) (mineF i 0 jobs) 0 [] (t0 c i (mineF i 0 jobs)).told [] ((cxOf c jobs i).jobs.map fun _ => ⟨0, 0, 0, 0, 0⟩) := by
    refine ⟨rfl, Nat.zero_le _, Or.inl rfl, by simp, rfl, fun j hj => absurd hj (Nat.not_lt_zero _), fun j _ => ?_⟩
    simp only [List.getD, List.getElem?_map]
    cases (cxOf c jobs i).jobs[j]? <;> rfl
  unfold tInit hInit hTo
  rcases seek_mine (cxOf c jobs i).me (cxOf c jobs i).jobs ((cxOf c jobs i).jobs.drop 0) 0 rfl with ⟨h1, h2⟩ | ⟨k, h1, h2, h3, h4⟩
  · rw [h1]
    have h2' : mineF (i : Int) 0 jobs = [] := by simpa [cxOf] using h2
    unfold yBegin
    rw [if_neg (show ¬ (t0 c i (mineF i 0 jobs)).cur < (t0 c i (mineF i 0 jobs)).mine.length by show ¬ 0 < (mineF (i : Int) 0 jobs).length; rw [h2']; simp)]
    exact Or.inl ⟨rfl, rfl, hT⟩
  · rw [h1]
    have h4' : mineF (i : Int) 0 jobs = (k : Int) :: mineF (i : Int) (k + 1) (jobs.drop (k + 1)) := by simpa [cxOf] using h4
    have b1 : Bas (cxOf c jobs i) (t0 c i (mineF i 0 jobs)) { (⟨0, 0, [], (cxOf c jobs i).jobs.map fun _ => ⟨0, 0, 0, 0, 0⟩, 0, newTS [] 0, .idle⟩ : Th) with rank := 0, fails := 0, job := k, st := .start } := ⟨rfl, rfl, rfl, rfl, h2, h3, h4', hT⟩
    exact sim_start b1 rfl

theorem init_own (c : Cfg) (jobs : List (Int × List InsD)) (i : Nat) (hj : jobs.length ≤ 8) : Own5 0 (tInit c jobs i) := by
  have h := mineF_len (i : Int) jobs 0
  unfold tInit yBegin
  split
  · exact ⟨⟨Int.le_refl _, Int.le_refl _⟩, by show (mineF (i : Int) 0 jobs).length ≤ 100; omega, Nat.zero_le _, by show (0 : Int) ≤ 8; decide, by show ((0 : Nat) : Int) ≤ 60 * 0; decide⟩
  · exact ⟨⟨Int.le_refl _, Int.le_refl _⟩, by show (mineF (i : Int) 0 jobs).length ≤ 100; omega, Nat.zero_le _, by show (0 : Int) ≤ 8; decide, by show ((0 : Nat) : Int) ≤ 60 * 0; decide⟩

theorem init_rows {base : Nat} {w : World} {c : Cfg} {jobs : List (Int × List InsD)} {i : Nat} {ma : Option Addr} {mc : Nat} (h : w.ownsRow base 3 1 (.slice ma (mineF i 0 jobs).length mc) (mineF i 0 jobs).length (intCells (mineF i 0 jobs))) : RowsOk base w (tInit c jobs i) (L0 ma mc) := by
  have e : (tInit c jobs i).reads = [] ∧ (tInit c jobs i).writes = [] ∧ (tInit c jobs i).held = [] ∧ (tInit c jobs i).mine = mineF i 0 jobs ∧ (tInit c jobs i).notes = [] ∧ (tInit c jobs i).res = [] := by unfold tInit yBegin yLoad; split <;> exact ⟨rfl, rfl, rfl, rfl, rfl, rfl⟩
  obtain ⟨e1, e2, e3, e4, e5, e6⟩ := e
  refine ⟨?_, ?_, ?_, ?_, ?_, ?_, ?_⟩
  · rw [e1]; exact World.ownsRow_nil _ _ _ _
  · rw [e2]; exact World.ownsRow_nil _ _ _ _
  · rw [e3]; exact World.ownsRow_nil _ _ _ _
  · rw [e4]; exact h
  · rw [e3]; intro k hk; simp [Value.ownBlock, L0] at hk
  · rw [e5]; exact World.ownsRow_nil _ _ _ _
  · rw [e6]; exact World.ownsRow_nil _ _ _ _

theorem L0_own {ma : Option Addr} {mc k : Nat} (h : Own (L0 ma mc) k) : oB ma = some k := by
  unfold Own at h
  simp [L0, oB] at h
  simpa [oB] using h

/-- The threads so far. -/
structure BI (base nb wb sb r2 N cap : Nat) (S : Array Value) (c : Cfg) (jobs : List (Int × List InsD)) (Ds : List Int) (ta : Option Addr) (tcap k : Nat) (q : List (PT × Ls)) (w : World) : Prop where
  setup : Blk w sb 27 S
  res : Blk w r2 125 #[.slice none 0 0, .slice none 0 0, .int .i64 0]
  wst : Blk w wb 125 #[.slice (some ⟨nb, 0, none⟩) N cap, .slice ta k tcap, .int .i64 0]
  num : Blk w nb 3 (Ds.map (Value.int .i64 ·)).toArray
  thr : w.ownsRow base 138 47 (.slice ta k tcap) k (rowsOf q).flatten
  ql : q.length = k
  rows : ∀ i (h : i < q.length), RowsOk base w q[i].1 q[i].2
  dis : ∀ i j (hi : i < q.length) (hj : j < q.length), i ≠ j → ∀ k, Own q[i].2 k → ¬ Own q[j].2 k
  nown : ∀ i (h : i < q.length), ¬ Own q[i].2 nb
  init : ∀ i (h : i < q.length), q[i].1 = tInit c jobs i
  nbb : base ≤ nb
  sne : wb ≠ r2

theorem ownsRow_low {w : World} {base base' : Nat} {e : TypeId} {size n : Nat} {v : Value} {xs : List Value} (h : w.ownsRow base e size v n xs) (hb : base' ≤ base) : w.ownsRow base' e size v n xs :=
  ⟨h.1, h.2.imp id (fun ⟨g, cap, cur, hv, hb', r⟩ => ⟨g, cap, cur, hv, Nat.le_trans hb hb', r⟩)⟩
theorem ownsRow_below {w w' : World} {base : Nat} {e : TypeId} {size n : Nat} {v : Value} {xs : List Value} (h : w.ownsRow base e size v n xs) (hb : Below w.heap.size w w') : w'.ownsRow base e size v n xs :=
  ownsRow_same h (fun k hk => hb.block k (h.lt k hk).2)

theorem BI.below {base nb wb sb r2 N cap : Nat} {S : Array Value} {c : Cfg} {jobs : List (Int × List InsD)} {Ds : List Int} {ta : Option Addr} {tcap k : Nat} {q : List (PT × Ls)} {w w' : World} (I : BI base nb wb sb r2 N cap S c jobs Ds ta tcap k q w) (h : Below w.heap.size w w') :
    BI base nb wb sb r2 N cap S c jobs Ds ta tcap k q w' :=
  ⟨I.setup.below h I.setup.lt, I.res.below h I.res.lt, I.wst.below h I.wst.lt, I.num.below h I.num.lt, ownsRow_below I.thr h, I.ql, fun i hi => (I.rows i hi).kept (fun k o => h.block k ((I.rows i hi).own k o).2), I.dis, I.nown, I.init, I.nbb, I.sne⟩

theorem BI.add {base nb wb sb r2 N cap : Nat} {S : Array Value} {c : Cfg} {jobs : List (Int × List InsD)} {Ds : List Int} {ta : Option Addr} {tcap k : Nat} {q : List (PT × Ls)} {w w5 w6 w7 : World} {ma : Option Addr} {mc g cap' : Nat} (I : BI base nb wb sb r2 N cap S c jobs Ds ta tcap k q w)
    (hb5 : Below w.heap.size w w5) (hm : w5.ownsRow w.heap.size 3 1 (.slice ma (mineF k 0 jobs).length mc) (mineF k 0 jobs).length (intCells (mineF k 0 jobs))) (hbs : base ≤ w.heap.size) (hb6 : Below w5.heap.size w5 w6)
    (hgr : w6.grownBy w7 (Value.slice ta k tcap).ownBlock) (hown : w7.ownsRow base 138 47 (.slice (some ⟨g, 0, none⟩) (k + 1) cap') (k + 1) ((rowsOf q).flatten ++ tArr (tInit c jobs k) (L0 ma mc))) :
    BI base nb wb sb r2 N cap S c jobs Ds (some ⟨g, 0, none⟩) cap' (k + 1) (q ++ [(tInit c jobs k, L0 ma mc)]) (w7.setCell ⟨wb, 1, none⟩ (.slice (some ⟨g, 0, none⟩) (k + 1) cap')) := by
  have I6 := (I.below hb5).below hb6
  have hm6 := ownsRow_below hm hb6
  have tag7 : ∀ {b : Nat} {T : TypeId} {cs : Array Value}, Blk w6 b T cs → (138 : Nat) ≠ T → Blk w7 b T cs := fun h ht => (hgr.block _ h.lt (fun e => own_tag I6.thr h ht _ e.symm rfl)).trans h
  have ho : Only wb w7 (w7.setCell ⟨wb, 1, none⟩ (.slice (some ⟨g, 0, none⟩) (k + 1) cap')) := (Only.refl _ _).set
  have hs7 := tag7 I6.setup (by decide)
  have hr7 := tag7 I6.res (by decide)
  have hw7 := tag7 I6.wst (by decide)
  have hn7 := tag7 I6.num (by decide)
  have row7 : ∀ {e size n : Nat} {v : Value} {xs : List Value} {b0 : Nat}, w6.ownsRow b0 e size v n xs → e ≠ 138 → e ≠ 125 → (w7.setCell ⟨wb, 1, none⟩ (.slice (some ⟨g, 0, none⟩) (k + 1) cap')).ownsRow b0 e size v n xs := fun {e size n v xs b0} h he he2 => by
    have h7 : w7.ownsRow b0 e size v n xs := ownsRow_same h (fun q hq => hgr.block q (h.lt q hq).2 (fun e2 => by
      rcases h.2 with ⟨rfl, _⟩ | ⟨g1, cap1, cur1, rfl, _, hg1, _⟩
      · simp [Value.ownBlock] at hq
      · simp [Value.ownBlock] at hq
        subst hq
        exact own_tag I6.thr hg1 (Ne.symm he) _ e2.symm rfl))
    exact ownsRow_only h7 ho (own_tag h7 hw7 he2)
  have rows7 : ∀ {t : PT} {L : Ls}, RowsOk base w6 t L → RowsOk base (w7.setCell ⟨wb, 1, none⟩ (.slice (some ⟨g, 0, none⟩) (k + 1) cap')) t L := fun R => ⟨row7 R.rd (by decide) (by decide), row7 R.wr (by decide) (by decide), row7 R.hd (by decide) (by decide), row7 R.mi (by decide) (by decide), R.ne, row7 R.nt (by decide) (by decide), row7 R.sr (by decide) (by decide)⟩
  have hnew : ∀ b, Own (L0 ma mc) b → w.heap.size ≤ b := fun b o => by
    have := L0_own o
    rw [← oB_eq ma (mineF k 0 jobs).length mc] at this
    exact (hm.lt b this).1
  have hold : ∀ i (hi : i < q.length) b, Own q[i].2 b → b < w.heap.size := fun i hi b o => ((I.rows i hi).own b o).2
  have hget : ∀ i (h : i < (q ++ [(tInit c jobs k, L0 ma mc)]).length), (∃ h' : i < q.length, (q ++ [(tInit c jobs k, L0 ma mc)])[i] = q[i]) ∨ (i = k ∧ (q ++ [(tInit c jobs k, L0 ma mc)])[i] = (tInit c jobs k, L0 ma mc)) := fun i h => by
    by_cases hi : i < q.length
    · exact Or.inl ⟨hi, List.getElem_append_left hi⟩
    · have : i = q.length := by simp at h; omega
      subst this
      exact Or.inr ⟨I.ql, by simp⟩
  refine ⟨hs7.only ho (Blk.ne hs7 hw7 (by decide)), hr7.only ho (Ne.symm I.sne), ?_, hn7.only ho (Blk.ne hn7 hw7 (by decide)), ?_, by simp [I.ql], ?_, ?_, ?_, ?_, I.nbb, I.sne⟩
  · exact hw7.set.congr (by simp)
  · have := ownsRow_only hown ho (own_tag hown hw7 (by decide))
    unfold rowsOf at this ⊢
    simpa [List.flatten_append] using this
  · intro i hi
    rcases hget i hi with ⟨h', e⟩ | ⟨e1, e⟩
    · rw [e]; exact rows7 (I6.rows i h')
    · rw [e]; exact rows7 (init_rows (ownsRow_low hm6 hbs))
  · intro a b ha hb hab x oa ob
    rcases hget a ha with ⟨ha', ea⟩ | ⟨ea1, ea⟩ <;> rcases hget b hb with ⟨hb', eb⟩ | ⟨eb1, eb⟩
    · rw [ea] at oa; rw [eb] at ob; exact I.dis a b ha' hb' hab x oa ob
    · rw [ea] at oa; rw [eb] at ob; have := hold a ha' x oa; have := hnew x ob; omega
    · rw [ea] at oa; rw [eb] at ob; have := hold b hb' x ob; have := hnew x oa; omega
    · omega
  · intro i hi o
    rcases hget i hi with ⟨h', e⟩ | ⟨e1, e⟩
    · rw [e] at o; exact I.nown i h' o
    · rw [e] at o; have := hnew nb o; have := I.num.lt; omega
  · intro i hi
    rcases hget i hi with ⟨h', e⟩ | ⟨e1, e⟩
    · rw [e]; exact I.init i h'
    · rw [e, e1]

end Go.Proofs.YtejadojilncbjabGreat

namespace Go.Proofs.YtejadojilncbjabGreat
open Go.RowKit
set_option linter.unusedVariables false

/-! Attempts in memory, each with the slice of its notes. -/

def avCells (q : AttD × Value) : List Value := attCells q.1 q.2
/-- The notes of a row of attempts. -/
def NotesOf (w : World) (AN : List (AttD × Value)) : Prop := ∀ q ∈ AN, w.ownsRow 0 93 3 q.2 q.1.notes.length (q.1.notes.flatMap noteCells)

/-- A row of attempts. -/
def AttsRow (w : World) (base : Nat) (a : Option Addr) (c : Nat) (AN : List (AttD × Value)) : Prop := w.ownsRow base 82 8 (.slice a AN.length c) AN.length (AN.flatMap avCells)

theorem av_len (AN : List (AttD × Value)) : (AN.flatMap avCells).length = AN.length * 8 := flat_len (f := avCells) (n := 8) (fun _ => rfl) AN

/-- The cells of a row of attempts. -/
theorem AttsRow.cells {w : World} {base : Nat} {a : Option Addr} {c : Nat} {AN : List (AttD × Value)} (h : AttsRow w base a c AN) (hn : 0 < AN.length) :
    ∃ b, a = some ⟨b, 0, none⟩ ∧ base ≤ b ∧ b < w.heap.size ∧ ∀ j u, (AN.flatMap avCells)[j]? = some u → w.cell? ⟨b, j, none⟩ = some u := by
  obtain ⟨g, cap, cur, hv, hb, hg, h1, h2, h3, h4⟩ := own_block h hn
  injection hv with ha
  refine ⟨g, ha, hb, lt_of_heap hg, fun j u hj => ?_⟩
  have hl := av_len AN
  have hjl : j < AN.length * 8 := by
    rw [← hl]
    exact (List.getElem?_eq_some_iff.1 hj).1
  rw [Blk.cell hg, ← hj, ← h4, List.getElem?_take_of_lt hjl]
  simp

/-- .. one attempt of them. -/
theorem AttsRow.at {w : World} {base : Nat} {a : Option Addr} {c : Nat} {AN : List (AttD × Value)} (h : AttsRow w base a c AN) (k : Nat) (q : AttD × Value) (hk : AN[k]? = some q) :
    ∃ b, a = some ⟨b, 0, none⟩ ∧ b < w.heap.size ∧ w.cell? ⟨b, k * 8, none⟩ = some (.int .i64 q.1.thread) ∧ w.cell? ⟨b, k * 8 + 1, none⟩ = some (.int .i64 q.1.job) ∧ w.cell? ⟨b, k * 8 + 2, none⟩ = some (.int .i64 q.1.start) ∧ w.cell? ⟨b, k * 8 + 3, none⟩ = some (.int .i64 q.1.fin) ∧
      w.cell? ⟨b, k * 8 + 4, none⟩ = some (.int .i64 q.1.valid) ∧ w.cell? ⟨b, k * 8 + 5, none⟩ = some (.int .i64 q.1.stamp) ∧ w.cell? ⟨b, k * 8 + 6, none⟩ = some (.int .i64 q.1.fate) ∧ w.cell? ⟨b, k * 8 + 7, none⟩ = some q.2 := by
  have hkl := (List.getElem?_eq_some_iff.1 hk).1
  obtain ⟨b, ha, _, hb, hc⟩ := h.cells (by omega)
  have e : ∀ j, j < 8 → w.cell? ⟨b, k * 8 + j, none⟩ = (avCells q)[j]? := fun j hj => by
    have h0 := flat_at (f := avCells) (n := 8) (fun _ => rfl) AN k j hj
    rw [hk] at h0
    have h1 : (AN.flatMap avCells)[k * 8 + j]? = (avCells q)[j]? := by rw [h0]; rfl
    have h2 : (avCells q)[j]? = some ((avCells q)[j]'(by simpa [avCells, attCells] using hj)) := List.getElem?_eq_getElem _
    rw [h2] at h1 ⊢
    exact hc _ _ h1
  exact ⟨b, ha, hb, e 0 (by omega), e 1 (by omega), e 2 (by omega), e 3 (by omega), e 4 (by omega), e 5 (by omega), e 6 (by omega), e 7 (by omega)⟩

/-! The order by Starts. -/

/-- How many attempts there are. -/
theorem starts_len : ∀ (l : List Int) (lo hi : Int), l.Pairwise (· < ·) → (∀ a ∈ l, lo < a ∧ a ≤ hi) → lo ≤ hi → (l.length : Int) ≤ hi - lo
  | [], lo, hi, _, _, h => by simp; omega
  | a :: l, lo, hi, hp, hb, h => by
    have h1 := hb a (by simp)
    have h2 := starts_len l a hi (List.pairwise_cons.1 hp).2 (fun b hb' => ⟨(List.pairwise_cons.1 hp).1 b hb', (hb b (by simp [hb'])).2⟩) h1.2
    simp
    omega
def histA (c : Cfg) (mem : List Int) (jobs : List (Int × List InsD)) (ps : List PickD) : List AttD := if errS c mem jobs = 0 then (⟨c, mem, jobs, ps⟩ : Rn).hist else []
/-- What History tells. -/
def HistIs (w : World) (l : List AttD) (ER : Int) (e : Ending) (w' : World) : Prop :=
  ∃ (la : Option Addr) (lc : Nat) (AN : List (AttD × Value)), AN.map (·.1) = l ∧ e = .returned (.tuple #[.slice la AN.length lc, .int .i64 ER]) ∧ AttsRow w' w.heap.size la lc AN ∧ NotesOf w' AN ∧ Below w.heap.size w w'

end Go.Proofs.YtejadojilncbjabGreat

namespace Go.Proofs.YtejadojilncbjabGreat
open Go.RowKit
set_option linter.unusedVariables false
attribute [local go_sem ↓] Go.wp_at_zero Go.wp_at_succ

theorem NotesOf.below {w w' : World} {AN : List (AttD × Value)} (h : NotesOf w AN) (hb : Below w.heap.size w w') : NotesOf w' AN := fun q hq => ownsRow_below (h q hq) hb

end Go.Proofs.YtejadojilncbjabGreat

namespace Go.Proofs.YtejadojilncbjabGreat
open Go.RowKit
set_option linter.unusedVariables false
attribute [local go_sem ↓] Go.wp_at_zero Go.wp_at_succ

/-! The program's thread tells the result of a job. -/

theorem ress_at {w : World} {base : Nat} {a : Option Addr} {c : Nat} {rs : List ResD} (h : w.ownsRow base 47 5 (.slice a rs.length c) rs.length (rs.flatMap resCells)) (k : Nat) (hk : k < rs.length) :
    ∃ b, a = some ⟨b, 0, none⟩ ∧ w.cell? ⟨b, k * 5, none⟩ = some (.int .i64 (rs.getD k noRes).fate) ∧ w.cell? ⟨b, k * 5 + 1, none⟩ = some (.int .i64 (rs.getD k noRes).r0) ∧ w.cell? ⟨b, k * 5 + 2, none⟩ = some (.int .i64 (rs.getD k noRes).r1) ∧ w.cell? ⟨b, k * 5 + 3, none⟩ = some (.int .i64 (rs.getD k noRes).r2) ∧ w.cell? ⟨b, k * 5 + 4, none⟩ = some (.int .i64 (rs.getD k noRes).r3) := by
  obtain ⟨g, cap, cur, hv, hb, hg, h1, h2, h3, h4⟩ := own_block h (by omega)
  injection hv with ha
  have hl : (rs.flatMap resCells).length = rs.length * 5 := flat_len (f := resCells) (n := 5) (fun _ => rfl) rs
  have e : ∀ j, j < 5 → w.cell? ⟨g, k * 5 + j, none⟩ = (resCells (rs.getD k noRes))[j]? := fun j hj => by
    rw [Blk.cell hg]
    have h5 : cur[k * 5 + j]? = (cur.toList.take (rs.length * 5))[k * 5 + j]? := by
      rw [List.getElem?_take_of_lt (by omega)]
      simp
    rw [h5, h4, flat_at (n := 5) (fun _ => rfl) _ k j hj, List.getElem?_eq_getElem hk]
    simp [List.getD, List.getElem?_eq_getElem hk]
  exact ⟨g, ha, e 0 (by omega), e 1 (by omega), e 2 (by omega), e 3 (by omega), e 4 (by omega)⟩

section
variable (base p z : Nat) (A B : List Value) (t : PT) (L : Ls) (w : World)

set_option maxRecDepth 100000 in
set_option maxHeartbeats 4000000 in
theorem t_result (R : TR base p z A B w t L) (hrl : t.res.length ≤ 200) (hrm : t.res.length ≤ t.mine.length) (j : Int) (r : ResD)
    (hr : ∀ k, k < t.res.length → t.mine.getD k 0 = j → t.res.getD k noRes = r) (hn : (∀ k, k < t.res.length → t.mine.getD k 0 ≠ j) → r = noRes) :
    Calls Tryz.prog 78 #[.pointer (some ⟨p, z, none⟩), .int .i64 j] w fun e w' => e = .returned (.agg #[.int .i64 r.fate, .int .i64 r.r0, .int .i64 r.r1, .int .i64 r.r2, .int .i64 r.r3]) ∧ Below w.heap.size w w' := by
  obtain ⟨sa, hsa⟩ : ∃ sa, sa = L.sa := ⟨_, rfl⟩
  obtain ⟨sl, hsl⟩ : ∃ sl, sl = t.res.length := ⟨_, rfl⟩
  obtain ⟨ml, hml⟩ : ∃ ml, ml = t.mine.length := ⟨_, rfl⟩
  have HC : Hid (w.cell? ⟨p, z + 10, none⟩ = some (.slice sa sl L.sc)) := by rw [hsl, hsa]; exact R.tt.cRes
  have HM : Hid (w.cell? ⟨p, z + 8, none⟩ = some (.slice L.ma ml L.mc)) := by rw [hml]; exact R.tt.cMine
  have HP : Hid (p < w.heap.size) := R.tt.lt
  have HRs : Hid (∀ k, k < sl → ∃ b, sa = some ⟨b, 0, none⟩ ∧ w.cell? ⟨b, k * 5, none⟩ = some (.int .i64 (t.res.getD k noRes).fate) ∧ w.cell? ⟨b, k * 5 + 1, none⟩ = some (.int .i64 (t.res.getD k noRes).r0) ∧ w.cell? ⟨b, k * 5 + 2, none⟩ = some (.int .i64 (t.res.getD k noRes).r1) ∧ w.cell? ⟨b, k * 5 + 3, none⟩ = some (.int .i64 (t.res.getD k noRes).r2) ∧ w.cell? ⟨b, k * 5 + 4, none⟩ = some (.int .i64 (t.res.getD k noRes).r3)) := fun k hk => by rw [hsa]; exact ress_at R.sr k (by rw [← hsl]; exact hk)
  have HMi : Hid (∀ k, k < ml → ∃ b, L.ma = some ⟨b, 0, none⟩ ∧ w.cell? ⟨b, k, none⟩ = some (.int .i64 (t.mine.getD k 0))) := fun k hk => nums_at R.mi k (by rw [← hml]; exact hk)
  have HR : Hid ((∀ k, k < sl → t.mine.getD k 0 = j → t.res.getD k noRes = r) ∧ ((∀ k, k < sl → t.mine.getD k 0 ≠ j) → r = noRes)) := by rw [hsl]; exact ⟨hr, hn⟩
  rw [← hsl] at hrl hrm
  rw [← hml] at hrm
  have hc := HC.out
  have HRes : Hid (Blk (w.alloc (.cells #[.int .i64 0, .int .i64 0, .int .i64 0, .int .i64 0, .int .i64 0] 47)) w.heap.size 47 #[.int .i64 0, .int .i64 0, .int .i64 0, .int .i64 0, .int .i64 0]) := Blk.new w 47 _
  have hB0 : Below w.heap.size w (w.alloc (.cells #[.int .i64 0, .int .i64 0, .int .i64 0, .int .i64 0, .int .i64 0] 47)) := (Below.refl _ _).alloc (Nat.le_refl _) _
  have HB0 : Hid (Below w.heap.size w (w.alloc (.cells #[.int .i64 0, .int .i64 0, .int .i64 0, .int .i64 0, .int .i64 0] 47))) := hB0
  have hlt : p < w.heap.size := HP.out
  have hne : p ≠ w.heap.size := by omega
  have hs0 : (w.alloc (.cells #[.int .i64 0, .int .i64 0, .int .i64 0, .int .i64 0, .int .i64 0] 47)).heap.size = w.heap.size + 1 := by simp
  clear R hr hn hsl hml hB0 hsa
  go_enter Tryz.func78, Tryz.ntmps78
  go_wp2
  generalize w.alloc (.cells #[.int .i64 0, .int .i64 0, .int .i64 0, .int .i64 0, .int .i64 0] 47) = w0 at *
  obtain ⟨rb, hrb⟩ : ∃ rb, rb = w.heap.size := ⟨_, rfl⟩
  have HRb : Hid (rb = w.heap.size) := hrb
  rw [← hrb] at HRes ⊢
  clear hc hne hlt hrb
  go_loopg [12] (sl + 1) (fun m t12 wr => ∃ k : Nat, t12 = .int .i64 (k : Int) ∧ k ≤ sl ∧ m = sl + 1 - k ∧ Hid (Below w0.heap.size w0 wr) ∧ Hid (∀ i, i < k → t.mine.getD i 0 ≠ j))
  case atStart => exact ⟨0, rfl, by omega, by omega, Below.refl _ _, fun i hi => absurd hi (Nat.not_lt_zero _)⟩
  case round =>
    obtain ⟨k, rfl, hk, hgk, HB, HN⟩ := hrel
    have HBw : Hid (Below w.heap.size w wr) := (HB0.out).trans ((HB.out).mono (HB0.out).size)
    have hcm : wr.cell? ⟨p, z + 8, none⟩ = some (.slice L.ma ml L.mc) := (World.cell?_of_block ((HBw.out).block p HP.out)).trans HM.out
    have hrk : Blk wr rb 47 #[.int .i64 0, .int .i64 0, .int .i64 0, .int .i64 0, .int .i64 0] := (HRes.out).below HB.out (HRes.out).lt
    have HRk : Hid (Blk wr rb 47 #[.int .i64 0, .int .i64 0, .int .i64 0, .int .i64 0, .int .i64 0]) := hrk
    have r0 := hrk.cell
    have rf := hrk.frozen
    have hrl' : rb < wr.heap.size := hrk.lt
    have hpl : p < wr.heap.size := Nat.lt_of_lt_of_le HP.out (HBw.out).size
    have hpn : p ≠ wr.heap.size := by omega
    have hrn : rb ≠ wr.heap.size := by omega
    clear hrk
    by_cases hlt : k < sl
    · obtain ⟨b, rfl, c0, c1, c2, c3, c4⟩ := HRs.out k hlt
      obtain ⟨g, hga, gc⟩ := HMi.out k (by omega)
      have hbl : b < w.heap.size := block_lt c0
      have hgl : g < w.heap.size := block_lt gc
      have bs : wr.heap[b]? = w.heap[b]? := (HBw.out).block b hbl
      have d0 : wr.cell? ⟨b, k * 5, none⟩ = some (.int .i64 (t.res.getD k noRes).fate) := (World.cell?_of_block bs).trans c0
      have d1 : wr.cell? ⟨b, k * 5 + 1, none⟩ = some (.int .i64 (t.res.getD k noRes).r0) := (World.cell?_of_block bs).trans c1
      have d2 : wr.cell? ⟨b, k * 5 + 2, none⟩ = some (.int .i64 (t.res.getD k noRes).r1) := (World.cell?_of_block bs).trans c2
      have d3 : wr.cell? ⟨b, k * 5 + 3, none⟩ = some (.int .i64 (t.res.getD k noRes).r2) := (World.cell?_of_block bs).trans c3
      have d4 : wr.cell? ⟨b, k * 5 + 4, none⟩ = some (.int .i64 (t.res.getD k noRes).r3) := (World.cell?_of_block bs).trans c4
      have dg : wr.cell? ⟨g, k, none⟩ = some (.int .i64 (t.mine.getD k 0)) := (World.cell?_of_block ((HBw.out).block g hgl)).trans gc
      have hgw : g < wr.heap.size := Nat.lt_of_lt_of_le hgl (HBw.out).size
      have hgn : g ≠ wr.heap.size := by omega
      have hk0 : (0 : Int) ≤ (k : Int) := by omega
      have hk1 : (k : Int) < (sl : Int) := by omega
      have hk2 : (k : Int) < (ml : Int) := by omega
      have hwk : IntKind.i64.wrap ((k : Int) + 1) = (k : Int) + 1 := wrapP _ (by omega) (by omega)
      rw [hga] at hcm
      obtain ⟨q, hq⟩ : ∃ q, q = t.res.getD k noRes := ⟨_, rfl⟩
      obtain ⟨mk, hmk⟩ : ∃ mk, mk = t.mine.getD k 0 := ⟨_, rfl⟩
      rw [← hq] at d0 d1 d2 d3 d4
      rw [← hmk] at dg
      have HQ : Hid (q = t.res.getD k noRes ∧ mk = t.mine.getD k 0) := ⟨hq, hmk⟩
      have HKl : Hid (k < sl) := hlt
      clear c0 c1 c2 c3 c4 gc bs hbl hgl hq hmk hga
      by_cases hin : mk = j
      · have HF : Hid (q = r) := by
          show q = r
          rw [(HQ.out).1]
          exact (HR.out).1 k HKl.out (by rw [← (HQ.out).2]; exact hin)
        have hib : (mk == j) = true := by simp [hin]
        clear hin
        go_wp2
        have hr5 := ((((((HRk.out).set (i := 0) (v := .int .i64 q.fate)).set (i := 1) (v := .int .i64 q.r0)).set (i := 2) (v := .int .i64 q.r1)).set (i := 3) (v := .int .i64 q.r2)).set (i := 4) (v := .int .i64 q.r3)).congr (ds := #[.int .i64 q.fate, .int .i64 q.r0, .int .i64 q.r1, .int .i64 q.r2, .int .i64 q.r3]) (by simp)
        have ho5 : Only rb wr (((((wr.setCell ⟨rb, 0, none⟩ (.int .i64 q.fate)).setCell ⟨rb, 1, none⟩ (.int .i64 q.r0)).setCell ⟨rb, 2, none⟩ (.int .i64 q.r1)).setCell ⟨rb, 3, none⟩ (.int .i64 q.r2)).setCell ⟨rb, 4, none⟩ (.int .i64 q.r3)) := (((((Only.refl _ _).set).set).set).set).set
        have hBf : Below w.heap.size w (((((wr.setCell ⟨rb, 0, none⟩ (.int .i64 q.fate)).setCell ⟨rb, 1, none⟩ (.int .i64 q.r0)).setCell ⟨rb, 2, none⟩ (.int .i64 q.r1)).setCell ⟨rb, 3, none⟩ (.int .i64 q.r2)).setCell ⟨rb, 4, none⟩ (.int .i64 q.r3)) := by
          have h1 := HBw.out
          exact ⟨ho5.os.trans h1.os, ho5.tape.trans h1.tape, ho5.output.trans h1.output, Nat.le_trans h1.size ho5.size, fun b hb => (ho5.block b (by have := h1.size; omega) (by have := HRb.out; omega)).trans (h1.block b hb)⟩
        have h9 := (hr5.alloc (.cells #[.int .i64 q.fate, .int .i64 q.r0, .int .i64 q.r1, .int .i64 q.r2, .int .i64 q.r3] 47)).cell
        refine bodyPost_ret (v := .agg #[.int .i64 q.fate, .int .i64 q.r0, .int .i64 q.r1, .int .i64 q.r2, .int .i64 q.r3]) ?_ rfl ⟨by rw [HF.out], hBf.alloc hBf.size _⟩
        simp [results, Tryz.results78, go_sem, h9]
      · have hib : (mk == j) = false := by rw [beq_eq_false_iff_ne]; exact hin
        have H1 : Hid (∀ i, i < k + 1 → t.mine.getD i 0 ≠ j) := fun i hi => by
          rcases Nat.lt_succ_iff_lt_or_eq.1 hi with h | rfl
          · exact HN.out i h
          · rw [← (HQ.out).2]; exact hin
        clear hin HN
        go_wp2
        go_roundg (gk - 1)
        case rel => exact ⟨k + 1, by simp, by omega, by omega, (HB.out).trans ((Below.refl _ _).alloc (HB.out).size _), H1⟩
        case measure => omega
    · have hk2 : ¬ ((k : Int) < (sl : Int)) := by omega
      have HF : Hid (r = noRes) := (HR.out).2 (fun i hi => HN.out i (by omega))
      go_wp2
      have hr5 := ((((((HRk.out).set (i := 0) (v := .int .i64 0)).set (i := 1) (v := .int .i64 0)).set (i := 2) (v := .int .i64 0)).set (i := 3) (v := .int .i64 0)).set (i := 4) (v := .int .i64 0)).congr (ds := #[.int .i64 0, .int .i64 0, .int .i64 0, .int .i64 0, .int .i64 0]) (by simp)
      have ho5 : Only rb wr (((((wr.setCell ⟨rb, 0, none⟩ (.int .i64 0)).setCell ⟨rb, 1, none⟩ (.int .i64 0)).setCell ⟨rb, 2, none⟩ (.int .i64 0)).setCell ⟨rb, 3, none⟩ (.int .i64 0)).setCell ⟨rb, 4, none⟩ (.int .i64 0)) := (((((Only.refl _ _).set).set).set).set).set
      have hBf : Below w.heap.size w (((((wr.setCell ⟨rb, 0, none⟩ (.int .i64 0)).setCell ⟨rb, 1, none⟩ (.int .i64 0)).setCell ⟨rb, 2, none⟩ (.int .i64 0)).setCell ⟨rb, 3, none⟩ (.int .i64 0)).setCell ⟨rb, 4, none⟩ (.int .i64 0)) := by
        have h1 := HBw.out
        exact ⟨ho5.os.trans h1.os, ho5.tape.trans h1.tape, ho5.output.trans h1.output, Nat.le_trans h1.size ho5.size, fun b hb => (ho5.block b (by have := h1.size; omega) (by have := HRb.out; omega)).trans (h1.block b hb)⟩
      refine bodyPost_ret (v := .agg #[.int .i64 0, .int .i64 0, .int .i64 0, .int .i64 0, .int .i64 0]) ?_ rfl ⟨by rw [HF.out]; rfl, hBf⟩
      have h9 := hr5.cell
      simp [results, Tryz.results78, go_sem, h9]
end

/-- What the thread tells of a job is what the machine has. -/
theorem TolF.result {K : Cx} {mine : List Int} {cur : Nat} {res : List ResD} {told : AttD} {list : List AttD} {ends : List ResD} (T : TolF K mine cur res told list ends) (j : Nat) :
    (∀ k, k < res.length → mine.getD k 0 = (j : Int) → res.getD k noRes = ends.getD j noRes) ∧ ((∀ k, k < res.length → mine.getD k 0 ≠ (j : Int)) → ends.getD j noRes = noRes) := by
  have h0 : ∀ i, i < cur → 0 ≤ mine.getD i 0 := fun i hi => by
    have hm : mine.getD i 0 ∈ mineF K.me 0 K.jobs := by
      rw [← T.mi]
      simp only [List.getD, List.getElem?_eq_getElem (show i < mine.length by have := T.cu; omega), Option.getD_some]
      exact List.getElem_mem _
    have := mineF_ge _ _ _ _ hm
    omega
  refine ⟨fun k hk e => ?_, fun h => T.rz j (fun i hi e => h i (by rw [T.rl]; exact hi) (by have := h0 i hi; omega))⟩
  rw [T.rl] at hk
  rw [← T.rs k hk, e]
  simp

theorem Sim.tol {K : Cx} {t : PT} {h : Th} (S : Sim K t h) : Tol K t h := by
  rcases S with ⟨_, _, q⟩ | ⟨_, b, _⟩ | ⟨n, _, b, _⟩ | ⟨n, _, b, _⟩ | ⟨b, _⟩
  · exact q
  · exact b.tol
  · exact b.tol
  · exact b.tol
  · exact b.1.tol

end Go.Proofs.YtejadojilncbjabGreat

namespace Go.Proofs.YtejadojilncbjabGreat
open Go.RowKit
set_option linter.unusedVariables false
attribute [local go_sem ↓] Go.wp_at_zero Go.wp_at_succ

/-- Results in memory. -/
def ResIn (w : World) (B : Nat) (a : Option Addr) (l : List ResD) : Prop :=
  ∀ k, k < l.length → ∃ b, a = some ⟨b, 0, none⟩ ∧ b < B ∧ w.cell? ⟨b, k * 5, none⟩ = some (.int .i64 (l.getD k noRes).fate) ∧ w.cell? ⟨b, k * 5 + 1, none⟩ = some (.int .i64 (l.getD k noRes).r0) ∧ w.cell? ⟨b, k * 5 + 2, none⟩ = some (.int .i64 (l.getD k noRes).r1) ∧ w.cell? ⟨b, k * 5 + 3, none⟩ = some (.int .i64 (l.getD k noRes).r2) ∧ w.cell? ⟨b, k * 5 + 4, none⟩ = some (.int .i64 (l.getD k noRes).r3)

theorem resIn_row {w : World} {base : Nat} {a : Option Addr} {c : Nat} {rs : List ResD} (h : w.ownsRow base 47 5 (.slice a rs.length c) rs.length (rs.flatMap resCells)) : ResIn w w.heap.size a rs := fun k hk => by
  obtain ⟨b, ha, h0, h1, h2, h3, h4⟩ := ress_at h k hk
  subst ha
  exact ⟨b, rfl, (World.ownsRow.lt h b rfl).2, h0, h1, h2, h3, h4⟩

theorem ResIn.up {w w' : World} {a : Option Addr} {l : List ResD} (h : ResIn w w.heap.size a l) (hb : Below w.heap.size w w') : ResIn w' w'.heap.size a l := fun k hk => by
  obtain ⟨b, ha, hB, h0, h1, h2, h3, h4⟩ := h k hk
  have e := hb.block b hB
  have := hb.size
  exact ⟨b, ha, by omega, (World.cell?_of_block e).trans h0, (World.cell?_of_block e).trans h1, (World.cell?_of_block e).trans h2, (World.cell?_of_block e).trans h3, (World.cell?_of_block e).trans h4⟩

end Go.Proofs.YtejadojilncbjabGreat
