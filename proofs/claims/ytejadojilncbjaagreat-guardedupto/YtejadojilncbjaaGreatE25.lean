import Derived.Test.YtejadojilncbjaaGreatE24
import Derived.Test.YtejadojilncbjaaGreatE23
namespace Go.Proofs.YtejadojilncbjaaGreat
open Go.RowKit
set_option linter.unusedVariables false
attribute [local go_sem ↓] Go.wp_at_zero Go.wp_at_succ

/-! All threads of the program in memory. -/

structure RowsOk (base : Nat) (w : World) (t : PT) (L : Ls) : Prop where
  rd : w.ownsRow base 175 2 (.slice L.ra t.reads.length L.rc) t.reads.length (t.reads.flatMap entCells)
  wr : w.ownsRow base 180 2 (.slice L.wa t.writes.length L.wc) t.writes.length (t.writes.flatMap entCells)
  hd : w.ownsRow base 3 1 (.slice L.ha t.held.length L.hc) t.held.length (intCells t.held)
  mi : w.ownsRow base 3 1 (.slice L.ma t.mine.length L.mc) t.mine.length (intCells t.mine)
  ne : ∀ k, (Value.slice L.ha t.held.length L.hc).ownBlock = some k → (Value.slice L.ma t.mine.length L.mc).ownBlock ≠ some k
  nt : w.ownsRow base 95 3 (.slice L.na t.notes.length L.nc) t.notes.length (t.notes.flatMap noteCells)
  sr : w.ownsRow base 84 5 (.slice L.sa t.res.length L.sc) t.res.length (t.res.flatMap resCells)

theorem TR.rows {base p z : Nat} {A B : List Value} {w : World} {t : PT} {L : Ls} (R : TR base p z A B w t L) : RowsOk base w t L := ⟨R.rd, R.wr, R.hd, R.mi, R.ne, R.nt, R.sr⟩
theorem RowsOk.tr {base p z : Nat} {A B : List Value} {w : World} {t : PT} {L : Ls} (R : RowsOk base w t L) (h : TAt w p z A B t L) : TR base p z A B w t L := ⟨h, R.rd, R.wr, R.hd, R.mi, R.ne, R.nt, R.sr⟩

theorem RowsOk.own {base : Nat} {w : World} {t : PT} {L : Ls} (R : RowsOk base w t L) (k : Nat) (h : Own L k) : base ≤ k ∧ k < w.heap.size := by
  unfold Own at h
  rcases h with q | q | q | q | q | q
  · rw [← oB_eq L.ra t.reads.length L.rc] at q; exact R.rd.lt k q
  · rw [← oB_eq L.wa t.writes.length L.wc] at q; exact R.wr.lt k q
  · rw [← oB_eq L.ha t.held.length L.hc] at q; exact R.hd.lt k q
  · rw [← oB_eq L.ma t.mine.length L.mc] at q; exact R.mi.lt k q
  · rw [← oB_eq L.na t.notes.length L.nc] at q; exact R.nt.lt k q
  · rw [← oB_eq L.sa t.res.length L.sc] at q; exact R.sr.lt k q

theorem ownsRow_same {w w' : World} {base : Nat} {e : TypeId} {size n : Nat} {v : Value} {xs : List Value} (h : w.ownsRow base e size v n xs) (hk : ∀ k, v.ownBlock = some k → w'.heap[k]? = w.heap[k]?) : w'.ownsRow base e size v n xs := by
  refine ⟨h.1, ?_⟩
  rcases h.2 with hn | ⟨g, cap, cur, rfl, hb, hg, rest⟩
  · exact .inl hn
  · exact .inr ⟨g, cap, cur, rfl, hb, (hk g (by simp [Value.ownBlock])).trans hg, rest⟩

theorem RowsOk.kept {base : Nat} {w w' : World} {t : PT} {L : Ls} (R : RowsOk base w t L) (h : ∀ k, Own L k → w'.heap[k]? = w.heap[k]?) : RowsOk base w' t L :=
  ⟨ownsRow_same R.rd (fun k q => h k (Or.inl (by rw [← q, oB_eq]))), ownsRow_same R.wr (fun k q => h k (Or.inr (Or.inl (by rw [← q, oB_eq])))), ownsRow_same R.hd (fun k q => h k (Or.inr (Or.inr (Or.inl (by rw [← q, oB_eq]))))), ownsRow_same R.mi (fun k q => h k (Or.inr (Or.inr (Or.inr (Or.inl (by rw [← q, oB_eq])))))), R.ne, ownsRow_same R.nt (fun k q => h k (Or.inr (Or.inr (Or.inr (Or.inr (Or.inl (by rw [← q, oB_eq]))))))), ownsRow_same R.sr (fun k q => h k (Or.inr (Or.inr (Or.inr (Or.inr (Or.inr (by rw [← q, oB_eq])))))))⟩

theorem below_onto {n rb : Nat} {w w' w'' : World} (h : Below n w w') (o : Only rb w' w'') (hr : n ≤ rb) (hn : n ≤ w'.heap.size) : Below n w w'' :=
  ⟨o.os.trans h.os, o.tape.trans h.tape, o.output.trans h.output, Nat.le_trans h.size o.size, fun k hk => (o.block k (by omega) (by omega)).trans (h.block k hk)⟩

def rowsOf (q : List (PT × Ls)) : List (List Value) := q.map fun a => tArr a.1 a.2
theorem rowsOf_len (q : List (PT × Ls)) : ∀ L ∈ rowsOf q, L.length = 47 := by
  intro L hL
  obtain ⟨a, _, rfl⟩ := List.mem_map.1 hL
  rfl
theorem rowsOf_set (q : List (PT × Ls)) (i : Nat) (a : PT × Ls) : rowsOf (q.set i a) = (rowsOf q).set i (tArr a.1 a.2) := by
  unfold rowsOf
  rw [List.map_set]

/-- The threads and what they share. -/
structure WR (base p nb cb cap tcap : Nat) (pn : Int) (X : List Value) (w : World) (q : List (PT × Ls)) (Ds : List Int) : Prop where
  thr : Blk w p 119 ((rowsOf q).flatten ++ X).toArray
  rows : ∀ i (h : i < q.length), RowsOk base w q[i].1 q[i].2
  dis : ∀ i j (hi : i < q.length) (hj : j < q.length), i ≠ j → ∀ k, Own q[i].2 k → ¬ Own q[j].2 k
  num : Blk w nb 3 (Ds.map (Value.int .i64 ·)).toArray
  nown : ∀ i (h : i < q.length), ¬ Own q[i].2 nb
  wst : Blk w cb 106 #[.slice (some ⟨nb, 0, none⟩) Ds.length cap, .slice (some ⟨p, 0, none⟩) q.length tcap, .int .i64 pn]
  pb : base ≤ p
  nbb : base ≤ nb
  cbb : base ≤ cb
  bs : base ≤ w.heap.size

theorem Own_tag {base : Nat} {w : World} {t : PT} {L : Ls} (R : RowsOk base w t L) {b : Nat} {T : TypeId} {cs : Array Value} (h : Blk w b T cs) (h1 : (175 : Nat) ≠ T) (h2 : (180 : Nat) ≠ T) (h3 : (3 : Nat) ≠ T) (h4 : (95 : Nat) ≠ T) (h5 : (84 : Nat) ≠ T) : ¬ Own L b := by
  intro o
  unfold Own at o
  rcases o with q | q | q | q | q | q
  · rw [← oB_eq L.ra t.reads.length L.rc] at q; exact own_tag R.rd h h1 b q rfl
  · rw [← oB_eq L.wa t.writes.length L.wc] at q; exact own_tag R.wr h h2 b q rfl
  · rw [← oB_eq L.ha t.held.length L.hc] at q; exact own_tag R.hd h h3 b q rfl
  · rw [← oB_eq L.ma t.mine.length L.mc] at q; exact own_tag R.mi h h3 b q rfl
  · rw [← oB_eq L.na t.notes.length L.nc] at q; exact own_tag R.nt h h4 b q rfl
  · rw [← oB_eq L.sa t.res.length L.sc] at q; exact own_tag R.sr h h5 b q rfl

theorem WR.tr {base p nb cb cap tcap : Nat} {pn : Int} {X : List Value} {w : World} {q : List (PT × Ls)} {Ds : List Int} (W : WR base p nb cb cap tcap pn X w q Ds) (i : Nat) (hi : i < q.length) :
    TR base p (i * 47) ((rowsOf q).take i).flatten (((rowsOf q).drop (i + 1)).flatten ++ X) w q[i].1 q[i].2 := by
  have hl : i < (rowsOf q).length := by unfold rowsOf; simpa using hi
  have e : (rowsOf q)[i] = tArr q[i].1 q[i].2 := List.getElem_map (fun a : PT × Ls => tArr a.1 a.2)
  refine (W.rows i hi).tr ⟨?_, W.thr.congr ?_⟩
  · rw [rows_len (n := 47) (fun L hL => rowsOf_len q L (List.mem_of_mem_take hL)), List.length_take, Nat.min_eq_left (by omega)]
  · rw [rows_split hl, e]
    simp

theorem rows_set {R : List (List Value)} {L : List Value} {i : Nat} (hi : i < R.length) : (R.set i L).flatten = (R.take i).flatten ++ (L ++ (R.drop (i + 1)).flatten) := by
  have hi2 : i < (R.set i L).length := by simpa using hi
  have e1 : (R.set i L).take i = R.take i := by
    apply List.ext_getElem?
    intro j
    by_cases hj : j < i
    · rw [List.getElem?_take_of_lt hj, List.getElem?_take_of_lt hj, List.getElem?_set_ne (by omega)]
    · rw [List.getElem?_eq_none (by simp; omega), List.getElem?_eq_none (by simp; omega)]
  have e2 : (R.set i L).drop (i + 1) = R.drop (i + 1) := by
    apply List.ext_getElem?
    intro j
    rw [List.getElem?_drop, List.getElem?_drop, List.getElem?_set_ne (by omega)]
  rw [rows_split hi2, e1, e2]
  simp

theorem WR.below {base p nb cb cap tcap : Nat} {pn : Int} {X : List Value} {w w' : World} {q : List (PT × Ls)} {Ds : List Int} (W : WR base p nb cb cap tcap pn X w q Ds) (h : Below w.heap.size w w') : WR base p nb cb cap tcap pn X w' q Ds :=
  ⟨W.thr.below h W.thr.lt, fun i hi => (W.rows i hi).kept (fun k o => h.block k ((W.rows i hi).own k o).2), W.dis, W.num.below h W.num.lt, W.nown, W.wst.below h W.wst.lt, W.pb, W.nbb, W.cbb, Nat.le_trans W.bs h.size⟩

/-- A pick of thread i. -/
theorem WR.picked {base p nb cb cap tcap : Nat} {pn : Int} {X : List Value} {w w' : World} {q : List (PT × Ls)} {Ds Ds' : List Int} (W : WR base p nb cb cap tcap pn X w q Ds) (i : Nat) (hi : i < q.length) {t' : PT} {L' : Ls}
    (R : TR base p (i * 47) ((rowsOf q).take i).flatten (((rowsOf q).drop (i + 1)).flatten ++ X) w' t' L') (G : GoesN p nb q[i].2 w L' w') (hN : Blk w' nb 3 (Ds'.map (Value.int .i64 ·)).toArray) (hl : Ds'.length = Ds.length) :
    WR base p nb cb cap tcap pn X w' (q.set i (t', L')) Ds' := by
  have hil : i < (rowsOf q).length := by unfold rowsOf; simpa using hi
  have hpn : p ≠ nb := Blk.ne W.thr W.num (by decide)
  have hcp : cb ≠ p := Blk.ne W.wst W.thr (by decide)
  have hcn : cb ≠ nb := Blk.ne W.wst W.num (by decide)
  have hco : ¬ Own q[i].2 cb := Own_tag (W.rows i hi) W.wst (by decide) (by decide) (by decide) (by decide) (by decide)
  have hown : ∀ k, Own L' k → Own q[i].2 k ∨ w.heap.size ≤ k := G.own
  refine ⟨?_, ?_, ?_, hN, ?_, ?_, W.pb, W.nbb, W.cbb, Nat.le_trans W.bs G.size⟩
  · rw [rowsOf_set, rows_set hil]
    exact R.tt.2.congr (by simp)
  · intro j hj
    by_cases e : i = j
    · subst e
      simpa using R.rows
    · have hj' : j < q.length := by simpa using hj
      rw [List.getElem_set_ne e]
      refine (W.rows j hj').kept (fun k o => ?_)
      have := (W.rows j hj').own k o
      refine G.block k this.2 ?_ ?_ ?_
      · intro e2; subst e2; exact Own_tag (W.rows j hj') W.thr (by decide) (by decide) (by decide) (by decide) (by decide) o
      · intro e2; subst e2; exact W.nown j hj' o
      · intro o2; exact W.dis i j hi hj' e k o2 o
  · intro a b ha hb hab k oa ob
    have ha' : a < q.length := by simpa using ha
    have hb' : b < q.length := by simpa using hb
    by_cases ea : i = a
    · subst ea
      rw [List.getElem_set_self] at oa
      rw [List.getElem_set_ne hab] at ob
      rcases hown k oa with o | o
      · exact W.dis i b hi hb' hab k o ob
      · have := (W.rows b hb').own k ob; omega
    · rw [List.getElem_set_ne ea] at oa
      by_cases eb : i = b
      · subst eb
        rw [List.getElem_set_self] at ob
        rcases hown k ob with o | o
        · exact W.dis a i ha' hi hab k oa o
        · have := (W.rows a ha').own k oa; omega
      · rw [List.getElem_set_ne eb] at ob
        exact W.dis a b ha' hb' hab k oa ob
  · intro j hj o
    have hj' : j < q.length := by simpa using hj
    by_cases e : i = j
    · subst e
      rw [List.getElem_set_self] at o
      rcases hown nb o with o | o
      · exact W.nown i hi o
      · have := W.num.lt; omega
    · rw [List.getElem_set_ne e] at o
      exact W.nown j hj' o
  · have := (G.block cb W.wst.lt hcp hcn hco).trans W.wst
    rw [List.length_set, hl]
    exact this

end Go.Proofs.YtejadojilncbjaaGreat

namespace Go.Proofs.YtejadojilncbjaaGreat
set_option linter.unusedVariables false

/-! What a pick leaves of a thread's own numbers. -/

def KeptY (t t' : PT) : Prop := t'.mine = t.mine ∧ t'.cur = t.cur ∧ t'.rest = t.rest ∧ (t'.fails = t.fails ∨ t'.fails = t.fails + 1) ∧ t'.notes.length ≤ t.notes.length + 1
theorem KeptY.same {t t' : PT} (h1 : t'.mine = t.mine) (h2 : t'.cur = t.cur) (h3 : t'.rest = t.rest) (h4 : t'.fails = t.fails) (h5 : t'.notes = t.notes := by rfl) : KeptY t t' := ⟨h1, h2, h3, Or.inl h4, by rw [h5]; omega⟩
theorem KeptY.one {t t' : PT} (h1 : t'.mine = t.mine) (h2 : t'.cur = t.cur) (h3 : t'.rest = t.rest) (h4 : t'.fails = t.fails) (h5 : t'.notes.length = t.notes.length + 1) : KeptY t t' := ⟨h1, h2, h3, Or.inl h4, by omega⟩

theorem kept_count (t : PT) : KeptY t (yCount t) := by
  unfold yCount yShow
  split <;> exact ⟨rfl, rfl, rfl, Or.inr rfl, Nat.le_succ _⟩
theorem kept_undo (t : PT) : KeptY t (yUndo t) := by
  unfold yUndo
  split
  · exact .same rfl rfl rfl rfl
  · exact kept_count t
theorem kept_fail (t : PT) : KeptY t (yFail t) := kept_undo { t with at_ := 0 }
theorem kept_begin (t : PT) : KeptY t (yBegin t) := by
  unfold yBegin
  split <;> exact .same rfl rfl rfl rfl
theorem kept_letgo (t : PT) : KeptY t (yLetGo t) := by
  unfold yLetGo
  split <;> exact .same rfl rfl rfl rfl
theorem kept_ffail (q : Int) (t : PT) : KeptY t (yFollowFail q t) := by
  unfold yFollowFail
  split
  · exact kept_fail t
  split
  · exact kept_undo { t with at_ := t.at_ + 1 }
  split <;> exact .same rfl rfl rfl rfl
theorem kept_await (s : Int) (t : PT) : KeptY t (yAwait s t) := by
  unfold yAwait
  split
  · exact kept_begin t
  · exact .same rfl rfl rfl rfl
theorem kept_store (t : PT) : KeptY t (yFollowStore t) := by
  unfold yFollowStore yShut yPut yRelease
  repeat' split
  all_goals exact .same rfl rfl rfl rfl
theorem kept_check : ∀ (n : Nat) (t : PT), KeptY t (yCheckN n t)
  | 0, t => by unfold yCheckN yShut; split <;> exact .same rfl rfl rfl rfl
  | n + 1, t => by
    unfold yCheckN
    split
    · split
      · exact kept_check n { t with at_ := t.at_ + 1 }
      · exact .same rfl rfl rfl rfl
    · unfold yShut; split <;> exact .same rfl rfl rfl rfl
theorem kept_commit (s : Int) (t : PT) : KeptY t (yFollowCommit s t) := by
  unfold yFollowCommit
  split
  · split
    · exact kept_fail t
    · exact .same rfl rfl rfl rfl
  split
  · split <;> exact .same rfl rfl rfl rfl
  split
  · exact kept_check _ { t with clock := s, at_ := 0 }
  split
  · split
    · exact .same rfl rfl rfl rfl
    · exact kept_check _ { t with at_ := t.at_ + 1 }
  · exact .same rfl rfl rfl rfl
theorem kept_ticket (s q : Int) (t : PT) : KeptY t (yFollowTicket s q t) := by
  unfold yFollowTicket
  split
  · exact .same rfl rfl rfl rfl
  split
  · split
    · exact kept_fail t
    · exact .same rfl rfl rfl rfl
  · exact .same rfl rfl rfl rfl
theorem kept_wgot (t : PT) : KeptY t (yWriteGot t) := by
  unfold yWriteGot
  split <;> exact .one rfl rfl rfl rfl (by simp [yTake, yLog])
theorem kept_endext (t : PT) : KeptY t (yEndExt t) := by
  unfold yEndExt
  split
  · exact .one rfl rfl rfl rfl (by simp [yGive])
  · exact kept_wgot t
theorem kept_extnext (t : PT) : KeptY t (yExtNext t) := by
  unfold yExtNext
  split
  · exact .same rfl rfl rfl rfl
  · exact kept_endext { t with valid := t.clock }
theorem kept_ext (s : Int) (t : PT) : KeptY t (yFollowExt s t) := by
  unfold yFollowExt
  split
  · exact kept_extnext { t with clock := s, at_ := 0 }
  split
  · split
    · exact kept_fail t
    · exact kept_extnext { t with at_ := t.at_ + 1 }
  · exact kept_extnext t
theorem kept_meet (u : Int) (t : PT) : KeptY t (yMeet u t) := by
  unfold yMeet
  split
  · exact kept_fail t
  · exact .same rfl rfl rfl rfl
theorem kept_weigh (u : Int) (t : PT) : KeptY t (yWeigh u t) := by
  unfold yWeigh
  split
  · exact kept_fail { t with wayTo := t.rival }
  split <;> exact .same rfl rfl rfl rfl
theorem kept_get (s : Int) (t : PT) : KeptY t (yFollowGet s t) := by
  unfold yFollowGet
  split
  · split
    · exact kept_fail t
    · exact .same rfl rfl rfl rfl
  split
  · split
    · exact kept_meet s t
    · exact .same rfl rfl rfl rfl
  split
  · exact kept_weigh s t
  split
  · exact .same rfl rfl rfl rfl
  split
  · split
    · exact .same rfl rfl rfl rfl
    · exact kept_wgot t
  · exact .same rfl rfl rfl rfl
theorem kept_trust (s : Int) (t : PT) : KeptY t (yTrust s t) := by
  unfold yTrust yLook
  repeat' split
  all_goals first | exact .same rfl rfl rfl rfl | exact .one rfl rfl rfl rfl (by simp [yGive])
theorem kept_read (s : Int) (t : PT) : KeptY t (yFollowRead s t) := by
  unfold yFollowRead
  split
  · exact .one rfl rfl rfl rfl (by simp [yGive])
  split
  · split <;> exact .same rfl rfl rfl rfl
  split
  · exact .same rfl rfl rfl rfl
  split
  · exact kept_trust s t
  · exact .same rfl rfl rfl rfl
theorem kept_turned (u : TurnD × MS) (t : PT) : (yTurned u t).mine = t.mine ∧ (yTurned u t).cur = t.cur ∧ (yTurned u t).rest = t.rest ∧ (yTurned u t).fails = t.fails ∧ (yTurned u t).notes.length ≤ t.notes.length + 1 := by
  unfold yTurned yTouch yRead yWrite yFinish yLetGo
  repeat' split
  all_goals exact ⟨rfl, rfl, rfl, rfl, by first | exact Nat.le_succ _ | (simp [yGive, yLog])⟩
theorem kept_turns (code : List InsD) : ∀ (n : Nat) (t : PT), (yTurns code n t).mine = t.mine ∧ (yTurns code n t).cur = t.cur ∧ (yTurns code n t).rest = t.rest ∧ (yTurns code n t).fails = t.fails ∧ (yTurns code n t).notes.length ≤ t.notes.length + n
  | 0, t => ⟨rfl, rfl, rfl, rfl, Nat.le_refl _⟩
  | n + 1, t => by
    unfold yTurns
    split
    · have h1 := kept_turns code n (yTurn code t)
      have h2 := kept_turned (pNext t.c.f t.c.wd code yRounds t.m) t
      refine ⟨h1.1.trans h2.1, h1.2.1.trans h2.2.1, h1.2.2.1.trans h2.2.2.1, h1.2.2.2.1.trans h2.2.2.2.1, ?_⟩
      have h3 := h1.2.2.2.2
      have h4 : (yTurn code t).notes.length ≤ t.notes.length + 1 := h2.2.2.2.2
      omega
    · exact ⟨rfl, rfl, rfl, rfl, Nat.le_add_right _ _⟩

/-- The thread's own numbers. -/
structure Own5 (k : Int) (t : PT) : Prop where
  fails : 0 ≤ t.fails ∧ t.fails ≤ k
  mine : t.mine.length ≤ 100
  cur : t.cur ≤ t.mine.length
  rest : t.rest ≤ 8
  notes : (t.notes.length : Int) ≤ 60 * k

/-- The same, as it is between an access and the code's turns. -/
structure Own6 (k : Int) (t : PT) : Prop where
  fails : 0 ≤ t.fails ∧ t.fails ≤ k
  mine : t.mine.length ≤ 100
  cur : t.cur ≤ t.mine.length
  rest : t.rest ≤ 8
  notes : (t.notes.length : Int) + 50 ≤ 60 * k

theorem own5_kept {k : Int} {t t' : PT} (O : Own5 k t) (h : KeptY t t') : Own6 (k + 1) t' := by
  obtain ⟨h1, h2, h3, h4, h5⟩ := h
  have := O.fails
  have := O.notes
  exact ⟨by rcases h4 with h4 | h4 <;> omega, by rw [h1]; exact O.mine, by rw [h1, h2]; exact O.cur, by rw [h3]; exact O.rest, by omega⟩

set_option maxHeartbeats 4000000 in
theorem own5_follow {k : Int} {t : PT} (O : Own5 k t) (hk : 0 ≤ k) (seen put num draw : Int) (hcp : 0 ≤ t.c.cp ∧ t.c.cp ≤ 8) (hcur : t.step = 27 → t.cur < t.mine.length) : Own6 (k + 1) (yFollow seen put num draw t) := by
  have hf := O.fails
  have hn := O.notes
  unfold yFollow
  by_cases hc0 : t.step = 2
  · rw [if_pos hc0]
    exact own5_kept O ⟨rfl, rfl, rfl, Or.inl rfl, Nat.zero_le _⟩
  rw [if_neg hc0]
  by_cases hc1 : 3 ≤ t.step ∧ t.step ≤ 6
  · rw [if_pos hc1]
    exact own5_kept O (kept_read seen t)
  rw [if_neg hc1]
  by_cases hc2 : 7 ≤ t.step ∧ t.step ≤ 11
  · rw [if_pos hc2]
    exact own5_kept O (kept_get seen t)
  rw [if_neg hc2]
  by_cases hc3 : 12 ≤ t.step ∧ t.step ≤ 13
  · rw [if_pos hc3]
    exact own5_kept O (kept_ext seen t)
  rw [if_neg hc3]
  by_cases hc4 : 14 ≤ t.step ∧ t.step ≤ 15
  · rw [if_pos hc4]
    exact own5_kept O (kept_ticket seen put t)
  rw [if_neg hc4]
  by_cases hc5 : 16 ≤ t.step ∧ t.step ≤ 19
  · rw [if_pos hc5]
    exact own5_kept O (kept_commit seen t)
  rw [if_neg hc5]
  by_cases hc6 : 20 ≤ t.step ∧ t.step ≤ 25
  · rw [if_pos hc6]
    exact own5_kept O (kept_store t)
  rw [if_neg hc6]
  by_cases hc7 : t.step = 26
  · rw [if_pos hc7]
    exact own5_kept O (kept_letgo { t with at_ := t.at_ + 1 })
  rw [if_neg hc7]
  by_cases hc8 : t.step = 27
  · rw [if_pos hc8]
    have h27 := hc8
    have hc := hcur h27
    have hb := kept_begin { t with aFate := t.turn.fate, aEnd := num, res := t.res ++ [yRes t], cur := t.cur + 1, rank := 0, fails := 0 }
    unfold yNextJob
    have hb5 := hb.2.2.2.2
    have hb6 : ({ t with aFate := t.turn.fate, aEnd := num, res := t.res ++ [yRes t], cur := t.cur + 1, rank := 0, fails := 0 } : PT).notes.length = t.notes.length := rfl
    exact ⟨by rcases hb.2.2.2.1 with q | q <;> (rw [q]; show 0 ≤ _ ∧ _ ≤ _; simp; omega), by rw [hb.1]; exact O.mine, by rw [hb.1, hb.2.1]; exact hc, by rw [hb.2.2.1]; exact O.rest, by omega⟩
  rw [if_neg hc8]
  by_cases hc9 : 28 ≤ t.step ∧ t.step ≤ 30
  · rw [if_pos hc9]
    exact own5_kept O (kept_ffail put t)
  rw [if_neg hc9]
  by_cases hc10 : t.step = 31
  · rw [if_pos hc10]
    unfold yLose
    split
    · exact own5_kept O (.same rfl rfl rfl rfl)
    · obtain ⟨tx, htx⟩ : ∃ tx : PT, tx = { yConc 5 num t with rest := yRestBy (yConc 5 num t) draw } := ⟨_, rfl⟩
      have x1 : tx.mine = t.mine := by rw [htx]; rfl
      have x2 : tx.cur = t.cur := by rw [htx]; rfl
      have x3 : tx.fails = t.fails := by rw [htx]; rfl
      have x4 : tx.notes.length = t.notes.length := by rw [htx]; rfl
      have x5 : tx.rest = yRestBy t draw := by rw [htx]; rfl
      rw [← htx]
      have hb := kept_begin tx
      have hb5 := hb.2.2.2.2
      refine ⟨by rcases hb.2.2.2.1 with q | q <;> (rw [q, x3]; omega), by rw [hb.1, x1]; exact O.mine, by rw [hb.1, hb.2.1, x1, x2]; exact O.cur, ?_, by omega⟩
      rw [hb.2.2.1, x5]
      unfold yRestBy
      split
      · omega
      · have hn : 0 < 1 + (if t.c.cp < t.fails then t.c.cp else t.fails) := by split <;> omega
        have := Int.tmod_lt_of_pos draw hn
        have : (if t.c.cp < t.fails then t.c.cp else t.fails) ≤ 8 := by split <;> omega
        omega
  rw [if_neg hc10]
  by_cases hc11 : t.step = 32
  · rw [if_pos hc11]
    exact own5_kept O (kept_await seen t)
  · rw [if_neg hc11]
    exact own5_kept O (.same rfl rfl rfl rfl)

theorem own5_turns {k : Int} {code : List InsD} {t : PT} (O : Own6 k t) : Own5 k (yTurns code yRounds t) := by
  obtain ⟨h1, h2, h3, h4, h5⟩ := kept_turns code yRounds t
  have := O.notes
  exact ⟨by rw [h4]; exact O.fails, by rw [h1]; exact O.mine, by rw [h1, h2]; exact O.cur, by rw [h3]; exact O.rest, by unfold yRounds at h5 ⊢; omega⟩

end Go.Proofs.YtejadojilncbjaaGreat
