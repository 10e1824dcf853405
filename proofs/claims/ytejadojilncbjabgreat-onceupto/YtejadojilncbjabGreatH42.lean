import Derived.Test.YtejadojilncbjabGreatH40
import Derived.Test.YtejadojilncbjabGreatH23
import Derived.Test.YtejadojilncbjabGreatH31
import Derived.Test.YtejadojilncbjabGreatH41
import Derived.Test.YtejadojilncbjabGreatH38
import Derived.Test.YtejadojilncbjabGreatH16
import Derived.Test.YtejadojilncbjabGreatH07
import Derived.Test.YtejadojilncbjabGreatRows
import Derived.ShutString
import Derived.ChangeOld
import Derived.JoinedCond
import Derived.Laws.OwnMore
import Derived.Test.YtejadojilncbjabGreatH10
namespace Go.Proofs.YtejadojilncbjabGreat
open Go.RowKit
set_option linter.unusedVariables false
attribute [local go_sem ↓] Go.wp_at_zero Go.wp_at_succ

/-- The program's book in memory: its attempts, and of each thread the place of the latest. -/
def BookB (w : World) (q : Nat) (aa : Option Addr) (n ac : Nat) (lat : List Int) : Prop := Blk w q 164 (.slice aa n ac :: lat.map (.int .i64 ·)).toArray ∧ lat.length = 4

set_option maxRecDepth 100000 in
set_option maxHeartbeats 1000000 in
theorem enter_new {base q : Nat} {aa : Option Addr} {ac : Nat} {lat : List Int} {AN : List (AttD × Value)} {w : World} (hB : BookB w q aa AN.length ac lat) (hr : AttsRow w base aa ac AN) (hbs : base ≤ w.heap.size) (hq : base ≤ q) (hnl : AN.length ≤ 2 ^ 38)
    (x : AttD) (na : Option Addr) (nc : Nat) (k : Nat) (hk : k < 4) (hth : x.thread = (k : Int)) :
    Calls Tryz.prog 107 #[.pointer (some ⟨q, 0, none⟩), .agg #[.int .i64 x.thread, .int .i64 x.job, .int .i64 x.start, .int .i64 x.fin, .int .i64 x.valid, .int .i64 x.stamp, .int .i64 x.fate, .slice na x.notes.length nc], .int .i64 x.start] w fun e w' =>
      e = .returned (.tuple #[]) ∧ (∃ (a' : Option Addr) (c' : Nat), BookB w' q a' (AN.length + 1) c' (lat.set k AN.length) ∧ AttsRow w' base a' c' (AN ++ [(x, .slice na x.notes.length nc)])) ∧ Kp [82, 164] base base base w w' := by
  obtain ⟨iA, hiA, hzA0, hzA1, hzA2⟩ := info_parts Tryz.info82
  obtain ⟨x0, x1, x2, x3, x4, x5, x6, xl⟩ := x
  simp only at hth ⊢
  subst hth
  obtain ⟨NN, HNN⟩ : ∃ NN, Hid (xl.length = NN) := ⟨_, rfl⟩
  rw [show xl.length = NN from HNN.out]
  obtain ⟨w0, hw0⟩ : ∃ w0, w0 = w.alloc (.cells #[.int .i64 (k : Int), .int .i64 x1, .int .i64 x2, .int .i64 x3, .int .i64 x4, .int .i64 x5, .int .i64 x6, .slice na NN nc] 82) := ⟨_, rfl⟩
  have hB0 : Below w.heap.size w w0 := by rw [hw0]; exact (Below.refl w.heap.size w).alloc (Nat.le_refl _) _
  have hT0 : Blk w0 w.heap.size 82 #[.int .i64 (k : Int), .int .i64 x1, .int .i64 x2, .int .i64 x3, .int .i64 x4, .int .i64 x5, .int .i64 x6, .slice na NN nc] := by rw [hw0]; exact Blk.new w 82 _
  have hb0 : Blk w0 q 164 (.slice aa AN.length ac :: lat.map (.int .i64 ·)).toArray := hB.1.below hB0 hB.1.lt
  have hqc : w0.cell? ⟨q, 0, none⟩ = some (.slice aa AN.length ac) := by rw [hb0.cell]; rfl
  have hqk : w0.cell? ⟨q, 1 + k, none⟩ = some (.int .i64 (lat.getD k 0)) := by
    rw [hb0.cell, Nat.add_comm]
    have := hB.2
    simp [List.getElem?_eq_getElem (show k < lat.length by omega), List.getD]
  have hqf := hb0.frozen
  have htc := hT0.cell
  have hk0 : (0 : Int) ≤ (k : Int) := by omega
  have hk4 : (k : Int) < 4 := by omega
  go_enter Tryz.func107, Tryz.ntmps107
  go_upto_region 1 with fail
  rw [← hw0]
  have HT0 : Hid (Blk w0 w.heap.size 82 #[.int .i64 (k : Int), .int .i64 x1, .int .i64 x2, .int .i64 x3, .int .i64 x4, .int .i64 x5, .int .i64 x6, .slice na NN nc]) := hT0
  have HB0 : Hid (Below w.heap.size w w0) := hB0
  have Hb0 : Hid (Blk w0 q 164 (.slice aa AN.length ac :: lat.map (.int .i64 ·)).toArray) := hb0
  clear hw0 hB0 hT0 hb0
  have HR0 : Hid (w0.ownsRow base 82 8 (.slice aa AN.length ac) AN.length (AN.flatMap avCells)) := ownsRow_below hr HB0.out
  have hqt : q ≠ w.heap.size := by have := hB.1.lt; omega
  have hqlt : q < w0.heap.size := (Hb0.out).lt
  have HQ4 : Hid (lat.length = 4) := hB.2
  have hbs0 : base ≤ w0.heap.size := Nat.le_trans hbs (HB0.out).size
  clear hr hB
  go_wp2_with fail
  go_still_tail 11, (by kernel_rfl)
  go_wp2_with fail
  obtain ⟨w1, hw1⟩ : ∃ w1, w1 = (w0.setCell ⟨q, 1 + k, none⟩ (.int .i64 (AN.length : Int))).drew := ⟨_, rfl⟩
  have hO1 : Only q w0 w1 := by rw [hw1]; exact ((Only.refl q w0).set).drew
  have HO1 : Hid (Only q w0 w1) := hO1
  have hb1 : Blk w1 q 164 (.slice aa AN.length ac :: (lat.set k (AN.length : Int)).map (.int .i64 ·)).toArray := by
    rw [hw1]
    have h := ((Hb0.out).set (i := 1 + k) (v := .int .i64 (AN.length : Int))).congr (ds := (.slice aa AN.length ac :: (lat.set k (AN.length : Int)).map (.int .i64 ·)).toArray) (by
      rw [Nat.add_comm 1 k]
      simp [List.map_set])
    exact h
  have Hb1 : Hid (Blk w1 q 164 (.slice aa AN.length ac :: (lat.set k (AN.length : Int)).map (.int .i64 ·)).toArray) := hb1
  have hT1 : Blk w1 w.heap.size 82 #[.int .i64 (k : Int), .int .i64 x1, .int .i64 x2, .int .i64 x3, .int .i64 x4, .int .i64 x5, .int .i64 x6, .slice na NN nc] := (HT0.out).only hO1 (Ne.symm hqt)
  have htc1 := hT1.cell
  have hq0 : w1.cell? ⟨q, 0, none⟩ = some (.slice aa AN.length ac) := by rw [hb1.cell]; rfl
  have hqf0 : w1.frozen? ⟨q, 0, none⟩ = false := hb1.frozen 0
  have HR1 : Hid (w1.ownsRow base 82 8 (.slice aa AN.length ac) AN.length (AN.flatMap avCells)) := ownsRow_only HR0.out hO1 (own_tag HR0.out Hb0.out (by decide))
  have hpne : (Value.slice aa AN.length ac).ownBlock ≠ some q := fun e => own_tag HR1.out Hb1.out (by decide) q e rfl
  have hq1 : q < w1.heap.size := hb1.lt
  have hbs1 : base ≤ w1.heap.size := Nat.le_trans hbs0 hO1.size
  rw [← hw1]
  clear hw1 hO1 hb1 hT1 htc hqc hqk hqf HR0
  go_region_law
    ((refine step_append_lies _ (by rfl) _ _ _ (by rfl) base 82 iA _ 8 80 Tryz.underlying29 hiA hzA0 hzA1 hzA2 rfl (by omega) (.slice aa AN.length ac) AN.length (AN.flatMap avCells) (by rfl) (((HR1.out).alloc _).drew)
        ⟨w1.heap.size, 0, none⟩ 1 1 [.int .i64 (k : Int), .int .i64 x1, .int .i64 x2, .int .i64 x3, .int .i64 x4, .int .i64 x5, .int .i64 x6, .slice na NN nc] (by rfl) (by rfl) (World.news_of_block (cs := #[.int .i64 (k : Int), .int .i64 x1, .int .i64 x2, .int .i64 x3, .int .i64 x4, .int .i64 x5, .int .i64 x6, .slice na NN nc]) (t := 82) (fr := (0, 0)) (heap_alloc_new w1 _)) (by simp [Value.oneCell'])
        (by omega) (by unfold maxLen; omega) (by omega) (by simp; omega) (w1.heap.size + 1) (by simp) ?_; intro gg cap w7 hown1 hgrow hat hlt7;
        have hd8 : w7.cell? ⟨q, 0, none⟩ = some (.slice aa AN.length ac) := (by rw [hgrow.cell_far _ (by simp; omega) (Ne.symm hpne)]; simpa [World.cell?_alloc_lt, hq1] using hq0);
        have he8 : w7.frozen? ⟨q, 0, none⟩ = false := (by rw [hgrow.frozen_far _ (by simp; omega) (Ne.symm hpne)]; simpa [World.frozen?_alloc_past, hq1] using hqf0)))
  all_goals
    go_wp2
    refine bodyPost_ret (v := .tuple #[]) (by first | rfl | simp [results, Tryz.results107, go_sem]) rfl ?_
    have K1 : Kp [82, 164] base base base w w0 := Kp.below HB0.out hbs
    have K2 : Kp [82, 164] base base base w0 w1 := Kp.only HO1.out hbs0 Hb0.out (by simp) (Or.inr (Or.inr hq))
    have K3 : Kp [82] base base base w1 w7 := (Kp.below (((Below.refl _ _).alloc (Nat.le_refl _) _).drew) hbs1).trans (Kp.grown hgrow (by simp; omega) (((HR1.out).alloc _).drew) (by simp))
    have hb7 : Blk w7 q 164 (.slice aa AN.length ac :: (lat.set k (AN.length : Int)).map (.int .i64 ·)).toArray := (Hb1.out).keep K3 (by decide)
    have hO8 : Only q w7 (w7.setCell ⟨q, 0, none⟩ (.slice (some ⟨gg, 0, none⟩) (AN.length + 1) cap)) := (Only.refl q w7).set
    have K4 : Kp [82, 164] base base base w7 (w7.setCell ⟨q, 0, none⟩ (.slice (some ⟨gg, 0, none⟩) (AN.length + 1) cap)) := Kp.only hO8 (Nat.le_trans hbs1 K3.size) hb7 (by simp) (Or.inr (Or.inr hq))
    refine ⟨rfl, ⟨some ⟨gg, 0, none⟩, cap, ⟨(hb7.set (i := 0) (v := .slice (some ⟨gg, 0, none⟩) (AN.length + 1) cap)).congr (by simp), by rw [List.length_set]; exact HQ4.out⟩, ?_⟩, ((K1.trans K2).trans (K3.wide (by simp))).trans K4⟩
    have h9 := ownsRow_only hown1 hO8 (own_tag hown1 hb7 (by decide))
    unfold AttsRow
    rw [List.length_append, List.flatMap_append]
    exact h9

end Go.Proofs.YtejadojilncbjabGreat

namespace Go.Proofs.YtejadojilncbjabGreat
open Go.RowKit
set_option linter.unusedVariables false

/-! The notes of the book's attempts in memory. -/

/-- Each attempt's notes lie in memory; what a thread still owns of them is of its latest attempt. -/
def Nts (w : World) (q : List (PT × Ls)) (lat : List Int) (AN : List (AttD × Value)) : Prop :=
  ∀ (m : Nat) (x : AttD × Value), AN[m]? = some x → w.ownsRow 0 93 3 x.2 x.1.notes.length (x.1.notes.flatMap noteCells) ∧
    ∀ k, x.2.ownBlock = some k → OwnW q k → ∃ (j : Nat) (h : j < q.length), lat.getD j 0 = (m : Int) ∧ x.2 = .slice q[j].2.na q[j].1.notes.length q[j].2.nc ∧ x.1.notes = q[j].1.notes

theorem Nts.of {w : World} {q : List (PT × Ls)} {lat : List Int} {AN : List (AttD × Value)} (h : Nts w q lat AN) : NotesOf w AN := fun x hx => by
  obtain ⟨m, hm⟩ := List.mem_iff_getElem?.1 hx
  exact (h m x hm).1

theorem Nts.keep {chg : List TypeId} {B p eb : Nat} {w w' : World} {q : List (PT × Ls)} {lat : List Int} {AN : List (AttD × Value)} (h : Nts w q lat AN) (hk : Kp chg B p eb w w') (ht : 93 ∉ chg) : Nts w' q lat AN := fun m x hx => ⟨ownsRow_keep (h m x hx).1 hk ht, (h m x hx).2⟩

theorem WR.keep {chg : List TypeId} {B p' eb base p nb cb cap tcap : Nat} {pn : Int} {X : List Value} {w w' : World} {q : List (PT × Ls)} {Ds : List Int} (W : WR base p nb cb cap tcap pn X w q Ds) (hk : Kp chg B p' eb w w') (h1 : 222 ∉ chg) (h2 : 230 ∉ chg) (h3 : 3 ∉ chg) (h4 : 138 ∉ chg) (h5 : 125 ∉ chg) (h6 : 93 ∉ chg) (h7 : 47 ∉ chg) : WR base p nb cb cap tcap pn X w' q Ds :=
  ⟨W.thr.keep hk h4, fun i hi => ⟨ownsRow_keep (W.rows i hi).rd hk h1, ownsRow_keep (W.rows i hi).wr hk h2, ownsRow_keep (W.rows i hi).hd hk h3, ownsRow_keep (W.rows i hi).mi hk h3, (W.rows i hi).ne, ownsRow_keep (W.rows i hi).nt hk h6, ownsRow_keep (W.rows i hi).sr hk h7⟩, W.dis, W.num.keep hk h3, W.nown, W.wst.keep hk h5, W.pb, W.nbb, W.cbb, Nat.le_trans W.bs hk.size⟩

section
variable {base p nb cb cap tcap : Nat} {pn pn' : Int} {X : List Value} {w w' : World} {q q' : List (PT × Ls)} {Ds Ds' lat : List Int} {AN : List (AttD × Value)} {th kind : Int}

/-- What no thread owns stays. -/
theorem free_same (W : WR base p nb cb cap tcap pn X w q Ds) (G : GoesW p nb cb q w q' w') {v : Value} {n : Nat} {xs : List Value} (h : w.ownsRow 0 93 3 v n xs) (hf : ∀ k, v.ownBlock = some k → ¬ OwnW q k) : w'.ownsRow 0 93 3 v n xs ∧ ∀ k, v.ownBlock = some k → ¬ OwnW q' k :=
  ⟨ownsRow_same h fun k hk => G.block k (h.lt k hk).2 (own_tag h W.thr (by decide) k hk) (own_tag h W.num (by decide) k hk) (own_tag h W.wst (by decide) k hk) (hf k hk), fun k hk o => by
    rcases G.own k o with o | o
    · exact hf k hk o
    · have := (h.lt k hk).2; omega⟩

theorem nts_old (W : WR base p nb cb cap tcap pn X w q Ds) (W' : WR base p nb cb cap tcap pn' X w' q' Ds') (G : GoesW p nb cb q w q' w') (hl : q'.length = q.length) {x : AttD × Value} (h : w.ownsRow 0 93 3 x.2 x.1.notes.length (x.1.notes.flatMap noteCells)) {j : Nat} (hj : j < q.length) (hj' : j < q'.length) (e1 : q'[j].2 = q[j].2) (e2 : q'[j].1.notes = q[j].1.notes)
    (hx : x.2 = .slice q[j].2.na q[j].1.notes.length q[j].2.nc) (hn : x.1.notes = q[j].1.notes) : w'.ownsRow 0 93 3 x.2 x.1.notes.length (x.1.notes.flatMap noteCells) := by
  have h1 := ownsRow_low (W'.rows j hj').nt (Nat.zero_le base)
  rw [e1, e2] at h1
  rw [hx, hn]
  exact h1

/-- A pick without an access. -/
theorem Nts.none (W : WR base p nb cb cap tcap pn X w q Ds) (W' : WR base p nb cb cap tcap pn' X w' q' Ds') (G : GoesW p nb cb q w q' w') (N : NGo th kind q q' w w') (h0 : kind = 0) (h : Nts w q lat AN) : Nts w' q' lat AN := fun m x hx => by
  obtain ⟨h1, h2⟩ := h m x hx
  by_cases hf : ∀ k, x.2.ownBlock = some k → ¬ OwnW q k
  · obtain ⟨a, b⟩ := free_same W G h1 hf
    exact ⟨a, fun k hk o => absurd o (b k hk)⟩
  · obtain ⟨k, hk⟩ := Classical.not_forall.1 hf
    obtain ⟨hk1, hk2⟩ := Classical.not_imp.1 hk
    obtain ⟨j, hj, e1, e2, e3⟩ := h2 k hk1 (Classical.not_not.1 hk2)
    have hj' : j < q'.length := by rw [N.len]; exact hj
    obtain ⟨n1, n2⟩ := N.none h0 j hj hj'
    have n3 : q'[j].1.notes = q[j].1.notes := congrArg AttD.notes n2
    exact ⟨nts_old W W' G N.len h1 hj hj' n1 n3 e2 e3, fun k' _ _ => ⟨j, hj', e1, by rw [n1, n3]; exact e2, by rw [n3]; exact e3⟩⟩

/-- A pick with an access that starts no attempt. -/
theorem Nts.mod (W : WR base p nb cb cap tcap pn X w q Ds) (W' : WR base p nb cb cap tcap pn' X w' q' Ds') (G : GoesW p nb cb q w q' w') (N : NGo th kind q q' w w') (h : Nts w q lat AN) (t m0 : Nat) (ht : (t : Int) = th) (htq : t < q'.length) (hm : m0 < AN.length) (hlat : lat.getD t 0 = (m0 : Int)) (z : AttD) (hz : z.notes = q'[t].1.notes) :
    Nts w' q' lat (AN.set m0 (z, .slice q'[t].2.na q'[t].1.notes.length q'[t].2.nc)) := fun m x hx => by
  rw [List.getElem?_set] at hx
  by_cases e : m0 = m
  · rw [if_pos e, if_pos hm] at hx
    cases hx
    refine ⟨?_, fun k _ _ => ⟨t, htq, by rw [hlat, e], rfl, hz⟩⟩
    simp only
    rw [hz]
    exact ownsRow_low (W'.rows t htq).nt (Nat.zero_le base)
  · rw [if_neg e] at hx
    obtain ⟨h1, h2⟩ := h m x hx
    by_cases hf : ∀ k, x.2.ownBlock = some k → ¬ OwnW q k
    · obtain ⟨a, b⟩ := free_same W G h1 hf
      exact ⟨a, fun k hk o => absurd o (b k hk)⟩
    · obtain ⟨k, hk⟩ := Classical.not_forall.1 hf
      obtain ⟨hk1, hk2⟩ := Classical.not_imp.1 hk
      obtain ⟨j, hj, e1, e2, e3⟩ := h2 k hk1 (Classical.not_not.1 hk2)
      have hj' : j < q'.length := by rw [N.len]; exact hj
      have hjt : (j : Int) ≠ th := fun e4 => by
        have : j = t := by omega
        subst this
        rw [hlat] at e1
        omega
      have n0 := N.other j hj hj' hjt
      exact ⟨nts_old W W' G N.len h1 hj hj' (by rw [n0]) (by rw [n0]) e2 e3, fun k' _ _ => ⟨j, hj', e1, by rw [n0]; exact e2, by rw [n0]; exact e3⟩⟩

/-- A pick with an access that starts an attempt. -/
theorem Nts.new (W : WR base p nb cb cap tcap pn X w q Ds) (W' : WR base p nb cb cap tcap pn' X w' q' Ds') (G : GoesW p nb cb q w q' w') (N : NGo th kind q q' w w') (h0 : kind ≠ 0) (h : Nts w q lat AN) (t : Nat) (ht : (t : Int) = th) (htq : t < q'.length) (htq0 : t < q.length) (hst : q[t].1.step = 2) (hlt : t < lat.length) (z : AttD) (hz : z.notes = q'[t].1.notes) :
    Nts w' q' (lat.set t (AN.length : Int)) (AN ++ [(z, .slice q'[t].2.na q'[t].1.notes.length q'[t].2.nc)]) := fun m x hx => by
  by_cases e : m < AN.length
  · rw [List.getElem?_append_left e] at hx
    obtain ⟨h1, h2⟩ := h m x hx
    by_cases hf : ∀ k, x.2.ownBlock = some k → ¬ OwnW q k
    · obtain ⟨a, b⟩ := free_same W G h1 hf
      exact ⟨a, fun k hk o => absurd o (b k hk)⟩
    · obtain ⟨k, hk⟩ := Classical.not_forall.1 hf
      obtain ⟨hk1, hk2⟩ := Classical.not_imp.1 hk
      obtain ⟨j, hj, e1, e2, e3⟩ := h2 k hk1 (Classical.not_not.1 hk2)
      have hj' : j < q'.length := by rw [N.len]; exact hj
      by_cases hjt : (j : Int) = th
      · have : j = t := by omega
        subst this
        have hna : oB q[j].2.na = some k := by rw [← hk1, e2, oB_eq]
        obtain ⟨f1, f2⟩ := N.fresh h0 j hj hj' hjt hst k hna
        refine ⟨ownsRow_same h1 fun k' hk' => ?_, fun k' hk' o => ?_⟩
        · have : k' = k := by rw [hk1] at hk'; exact (Option.some.inj hk').symm
          subst this
          exact f2
        · have : k' = k := by rw [hk1] at hk'; exact (Option.some.inj hk').symm
          subst this
          obtain ⟨i, hi, oi⟩ := o
          exfalso
          by_cases hij : i = j
          · subst hij; exact f1 oi
          · have hi0 : i < q.length := by rw [← N.len]; exact hi
            rw [N.other i hi0 hi (by omega)] at oi
            exact W.dis i j hi0 hj hij k' oi (naOwn hna)
      · have n0 := N.other j hj hj' hjt
        have hjn : t ≠ j := by omega
        exact ⟨nts_old W W' G N.len h1 hj hj' (by rw [n0]) (by rw [n0]) e2 e3, fun k' _ _ => ⟨j, hj', by rw [← e1]; simp [List.getD, hjn], by rw [n0]; exact e2, by rw [n0]; exact e3⟩⟩
  · rw [List.getElem?_append_right (by omega)] at hx
    have hm : m = AN.length := by
      have := (List.getElem?_eq_some_iff.1 hx).1
      simp at this
      omega
    subst hm
    simp at hx
    subst hx
    refine ⟨?_, fun k _ _ => ⟨t, htq, by simp [List.getD, hlt], rfl, hz⟩⟩
    simp only
    rw [hz]
    exact ownsRow_low (W'.rows t htq).nt (Nat.zero_le base)

end

end Go.Proofs.YtejadojilncbjabGreat

namespace Go.Proofs.YtejadojilncbjabGreat
open Go.RowKit
set_option linter.unusedVariables false

theorem modLast_nil {l : List AttD} {f : AttD → AttD} (h : modLast l f = []) : l = [] := by
  have := congrArg List.length h
  unfold modLast at this
  rw [List.length_modify] at this
  exact List.length_eq_zero_iff.1 this

/-- A thread without attempts has not started. -/
theorem list_st (R : Rn) (t : Int) (t0 : 0 ≤ t) (t1 : t < R.c.t) : ∀ k : Nat, ((R.g k).th t).list = [] → ((R.g k).th t).st = .start ∨ ((R.g k).th t).st = .idle
  | 0, _ => by
    show (hTo (R.K t) 0 _).st = _ ∨ (hTo (R.K t) 0 _).st = _
    unfold hTo
    split
    · exact Or.inl rfl
    · exact Or.inr rfl
  | k + 1, h => by
    by_cases hp : (R.pk k).thread = t
    · rw [R.at k hp t0 t1] at h ⊢
      by_cases hs : ((R.g k).th t).st = .start
      · obtain ⟨a, e, _⟩ := lm_start (R.K t) ((R.g k).th t) ⟨(accBy (R.g k).m (R.out k t)).seen, (R.pk k).draw, (k : Int) + 1⟩ hs
        rw [e] at h
        simp at h
      · obtain ⟨f, _, e⟩ := lm_next (R.K t) ((R.g k).th t) ⟨(accBy (R.g k).m (R.out k t)).seen, (R.pk k).draw, (k : Int) + 1⟩ hs
        rw [e] at h
        rcases list_st R t t0 t1 k (modLast_nil h) with h1 | h1
        · exact absurd h1 hs
        · refine Or.inr ?_
          unfold hNext
          rw [h1]
          exact h1
    · rw [R.off k hp] at h ⊢
      exact list_st R t t0 t1 k h

theorem hne_at (R : Rn) (k : Nat) (t : Int) (t0 : 0 ≤ t) (t1 : t < R.c.t) (h1 : ((R.g k).th t).st ≠ .start) (h2 : (R.out k t).kind ≠ 0) : ((R.g k).th t).list ≠ [] := fun h => by
  rcases list_st R t t0 t1 k h with e | e
  · exact h1 e
  · apply h2
    show (hOut _ _).kind = 0
    unfold hOut
    rw [e]

theorem sim_step2 {K : Cx} {t : PT} {h : Th} (S : Sim K t h) (hs : h.st = .start) : t.step = 2 := by
  rcases S with ⟨q, _⟩ | ⟨_, _, _, q, _⟩ | ⟨n, q, _⟩ | ⟨n, q, _⟩ | ⟨_, _, q⟩
  · rw [hs] at q; cases q
  · exact q
  · rw [hs] at q; cases q
  · rw [hs] at q; cases q
  · rw [hs] at q; exact q.elim

/-- Only where a thread starts is its latest attempt's Start the pick's number. -/
theorem start_of {R : Rn} (O : R.Ok) {k t : Nat} (ht : (R.pk k).thread = (t : Int)) (t1 : (t : Int) < R.c.t) {z : AttD} (hz : ((R.g (k + 1)).th (t : Int)).list.getLast? = some z) (hk : z.start = (k : Int) + 1) : ((R.g k).th (t : Int)).st = .start := by
  refine Classical.byContradiction fun hs => ?_
  obtain ⟨f, hf, e1⟩ := lm_next (R.K (t : Int)) ((R.g k).th (t : Int)) ⟨(accBy (R.g k).m (R.out k (t : Int))).seen, (R.pk k).draw, (k : Int) + 1⟩ hs
  rw [← R.at k ht (by omega) t1] at e1
  by_cases hn : ((R.g k).th (t : Int)).list = []
  · rw [e1, hn] at hz
    simp [modLast] at hz
  · obtain ⟨l0, y, hy⟩ := snoc_of hn
    rw [e1, hy, modLast_snoc] at hz
    simp at hz
    subst hz
    have A := la_t k (t : Int) (by omega) t1 (show y ∈ ((R.g k).th (t : Int)).list from by rw [hy]; simp)
    have := A.s2
    rw [(hf y).1] at hk
    omega

theorem thread_of {R : Rn} (O : R.Ok) {k : Nat} {t : Int} (t0 : 0 ≤ t) (t1 : t < R.c.t) {z : AttD} (hz : ((R.g k).th t).list.getLast? = some z) : z.thread = t := (la_t k t t0 t1 (List.mem_of_getLast? hz)).thr

theorem srt_len {l : List AttD} (h : Srt l) {k : Nat} (hb : ∀ a ∈ l, 1 ≤ a.start ∧ a.start ≤ (k : Int)) : l.length ≤ k := by
  have := starts_len (l.map (·.start)) 0 k (by rw [List.pairwise_map]; exact h) (fun x hx => by
    obtain ⟨a, ha, rfl⟩ := List.mem_map.1 hx
    have := hb a ha
    omega) (by omega)
  simp at this
  omega
theorem BkI.len {R : Rn} (O : R.Ok) {k : Nat} {l : List AttD} {lat : List Int} (h : BkI R k l lat) : l.length ≤ k := srt_len h.srt fun a ha => by
  obtain ⟨t, t0, t1, ht⟩ := (h.mem a).1 ha
  have A := la_t k t t0 t1 ht
  exact ⟨A.s1, A.s2⟩
theorem hist_len {R : Rn} (O : R.Ok) : R.hist.length ≤ R.ps.length := srt_len (histL_srt R) fun a ha => by
  obtain ⟨t, t0, t1, ht⟩ := histL_mem.1 ha
  have A := la_t _ t t0 t1 ht
  exact ⟨A.s1, A.s2⟩

/-- At the beginning. -/
theorem BkI.zero (R : Rn) : BkI R 0 [] [0, 0, 0, 0] := by
  have e : ∀ t, ((R.g 0).th t).list = [] := fun t => by
    show (hTo (R.K t) 0 _).list = _
    rw [l_to]
  refine ⟨List.Pairwise.nil, fun a => ?_, fun t _ z hz => ?_⟩
  · constructor
    · intro h; cases h
    · rintro ⟨t, _, _, h⟩; rw [e t] at h; cases h
  · rw [e] at hz; cases hz

end Go.Proofs.YtejadojilncbjabGreat

namespace Go.Proofs.YtejadojilncbjabGreat
open Go.RowKit
set_option linter.unusedVariables false
attribute [local go_sem ↓] Go.wp_at_zero Go.wp_at_succ

/-- Has the thread a job? -/
def worksB (jobs : List (Int × List InsD)) (t : Int) : Bool := jobs.any fun j => j.1 == t

set_option maxRecDepth 100000 in
set_option maxHeartbeats 2000000 in
theorem works_any (c : Cfg) (mem : List Int) (jobs : List (Int × List InsD)) (t : Int) (ma ja : Option Addr) (ml mc jc : Nat) (w : World) (hjl : jobs.length ≤ 2 ^ 40) (hj : JobsRep w w.heap.size ja jobs) :
    Calls Tryz.prog 31 #[.agg #[.int .i64 c.t, .int .i64 c.wd, .int .i64 c.s, .int .i64 c.g, .int .i64 c.r, .int .i64 c.cp, .int .i64 c.f, .slice ma ml mc, .slice ja jobs.length jc], .int .i64 t] w fun e w' =>
      e = .returned (.bool (worksB jobs t)) ∧ Below w.heap.size w w' := by
  have hB0 : Below w.heap.size w (w.alloc (.cells #[.int .i64 c.t, .int .i64 c.wd, .int .i64 c.s, .int .i64 c.g, .int .i64 c.r, .int .i64 c.cp, .int .i64 c.f, .slice ma ml mc, .slice ja jobs.length jc] 27)) := (Below.refl w.heap.size w).alloc (Nat.le_refl _) _
  obtain ⟨w0, hw0⟩ : ∃ w0, w0 = w.alloc (.cells #[.int .i64 c.t, .int .i64 c.wd, .int .i64 c.s, .int .i64 c.g, .int .i64 c.r, .int .i64 c.cp, .int .i64 c.f, .slice ma ml mc, .slice ja jobs.length jc] 27) := ⟨_, rfl⟩
  have hSb : Blk w0 w.heap.size 27 #[.int .i64 c.t, .int .i64 c.wd, .int .i64 c.s, .int .i64 c.g, .int .i64 c.r, .int .i64 c.cp, .int .i64 c.f, .slice ma ml mc, .slice ja jobs.length jc] := by rw [hw0]; exact Blk.new w 27 _
  rw [← hw0] at hB0
  have HJ : Hid (JobsRep w0 w0.heap.size ja jobs) := hj.up2 hB0
  have HB0 : Hid (Below w.heap.size w w0) := hB0
  have HSb : Hid (Blk w0 w.heap.size 27 #[.int .i64 c.t, .int .i64 c.wd, .int .i64 c.s, .int .i64 c.g, .int .i64 c.r, .int .i64 c.cp, .int .i64 c.f, .slice ma ml mc, .slice ja jobs.length jc]) := hSb
  have HW0 : Hid (w0 = w.alloc (.cells #[.int .i64 c.t, .int .i64 c.wd, .int .i64 c.s, .int .i64 c.g, .int .i64 c.r, .int .i64 c.cp, .int .i64 c.f, .slice ma ml mc, .slice ja jobs.length jc] 27)) := hw0
  obtain ⟨V, HV⟩ : ∃ V, Hid (worksB jobs t = V) := ⟨_, rfl⟩
  rw [show worksB jobs t = V from HV.out]
  have hsc := hSb.cell
  clear hj hB0 hSb hw0
  go_enter Tryz.func31, Tryz.ntmps31
  go_wp2_with fail
  rw [← show w0 = _ from HW0.out]
  clear HW0
  go_loopg [5] (jobs.length + 1) (fun m t5 wr => ∃ k : Nat, t5 = .int .i64 (k : Int) ∧ k ≤ jobs.length ∧ m = jobs.length + 1 - k ∧ wr = w0 ∧ Hid (∀ i, i < k → ((jobs.getD i (0, [])).1 == t) = false))
  case atStart => exact ⟨0, rfl, by omega, by omega, rfl, fun i hi => absurd hi (Nat.not_lt_zero _)⟩
  case round =>
    obtain ⟨k, rfl, hk, hgk, rfl, HN⟩ := hrel
    by_cases hkl : k < jobs.length
    · obtain ⟨js, h1, h2, h3⟩ := HJ.out
      obtain ⟨b, off, hja, hbl, hc0, hc1⟩ := h2 k (by omega)
      have ht := (h3 k (by omega)).1
      rw [ht] at hc0
      have hk0 : (0 : Int) ≤ (k : Int) := by omega
      have hk1 : (k : Int) < (jobs.length : Int) := by omega
      have hwk : IntKind.i64.wrap ((k : Int) + 1) = (k : Int) + 1 := wrapF _ (by omega) (by omega)
      subst hja
      clear h1 h2 h3 hc1 ht
      by_cases he : (jobs.getD k (0, [])).1 = t
      · have hbe : ((jobs.getD k (0, [])).1 == t) = true := by rw [beq_iff_eq]; exact he
        have HV1 : Hid (V = true) := by
          show V = true
          rw [← show worksB jobs t = V from HV.out]
          unfold worksB
          rw [List.any_eq_true]
          refine ⟨jobs.getD k (0, []), ?_, hbe⟩
          rw [show jobs.getD k (0, []) = jobs[k] from by simp [List.getD, List.getElem?_eq_getElem hkl]]
          exact List.getElem_mem hkl
        generalize (jobs.getD k (0, [])).1 = z at *
        clear HN HV he
        go_wp2
        go_ret
        exact ⟨by rw [HV1.out]; rfl, HB0.out⟩
      · have hbe : ((jobs.getD k (0, [])).1 == t) = false := by rw [beq_eq_false_iff_ne]; exact he
        have HN2 : Hid (∀ i, i < k + 1 → ((jobs.getD i (0, [])).1 == t) = false) := fun i hi => by
          by_cases e : i = k
          · rw [e]; exact hbe
          · exact HN.out i (by omega)
        generalize (jobs.getD k (0, [])).1 = z at *
        clear HN HV he
        go_wp2
        go_roundg (gk - 1)
        case rel => exact ⟨k + 1, by simp, by omega, by omega, rfl, HN2⟩
        case measure => omega
    · have hke : k = jobs.length := by omega
      have hk1 : ¬ (k : Int) < (jobs.length : Int) := by omega
      have HV0 : Hid (V = false) := by
        show V = false
        rw [← show worksB jobs t = V from HV.out]
        unfold worksB
        rw [List.any_eq_false]
        intro x hx
        obtain ⟨i, hi, rfl⟩ := List.mem_iff_getElem.1 hx
        have := HN.out i (by omega)
        rw [show jobs.getD i (0, []) = jobs[i] from by simp [List.getD, List.getElem?_eq_getElem hi]] at this
        simpa using this
      clear HN HV hke
      go_wp2
      go_ret
      exact ⟨by rw [HV0.out]; rfl, HB0.out⟩

/-- How a call has answered. -/
def answeredN (want e : Int) (empty : Bool) : Int := if e ≠ want then 0 else if e = 0 then 2 else if empty then 1 else 0

set_option maxRecDepth 100000 in
set_option maxHeartbeats 2000000 in
theorem answered_any (c : Cfg) (mem : List Int) (jobs : List (Int × List InsD)) (er : Int) (em : Bool) (ma ja : Option Addr) (mc jc : Nat) (w : World) (hml : mem.length ≤ maxLen) (hjl : jobs.length ≤ maxLen) (hm : Ints w w.heap.size ma mem) (hj : JobsRep w w.heap.size ja jobs) :
    Calls Tryz.prog 11 #[.agg #[.int .i64 c.t, .int .i64 c.wd, .int .i64 c.s, .int .i64 c.g, .int .i64 c.r, .int .i64 c.cp, .int .i64 c.f, .slice ma mem.length mc, .slice ja jobs.length jc], .int .i64 er, .bool em] w fun e w' =>
      e = .returned (.int .i64 (answeredN (errS c mem jobs) er em)) ∧ Below w.heap.size w w' := by
  have hB0 : Below w.heap.size w (w.alloc (.cells #[.int .i64 c.t, .int .i64 c.wd, .int .i64 c.s, .int .i64 c.g, .int .i64 c.r, .int .i64 c.cp, .int .i64 c.f, .slice ma mem.length mc, .slice ja jobs.length jc] 27)) := (Below.refl w.heap.size w).alloc (Nat.le_refl _) _
  have HC : Hid _ := refCheck_rep c mem jobs ma ja mc jc _ hml hjl (hm.up hB0) (hj.up2 hB0)
  have HB0 : Hid (Below w.heap.size w (w.alloc (.cells #[.int .i64 c.t, .int .i64 c.wd, .int .i64 c.s, .int .i64 c.g, .int .i64 c.r, .int .i64 c.cp, .int .i64 c.f, .slice ma mem.length mc, .slice ja jobs.length jc] 27))) := hB0
  obtain ⟨N, HNN⟩ : ∃ N, Hid (answeredN (errS c mem jobs) er em = N) := ⟨_, rfl⟩
  rw [show answeredN (errS c mem jobs) er em = N from HNN.out]
  clear hm hj hB0
  go_enter Tryz.func11, Tryz.ntmps11
  go_wp2_with fail
  refine Calls.mono HC.out ?_
  rintro e w1 ⟨rfl, hb1⟩
  have HB1 : Hid (Below w.heap.size w w1) := (HB0.out).trans (hb1.mono (HB0.out).size)
  clear hb1 HC HB0
  generalize errS c mem jobs = W at *
  by_cases h1 : er = W
  · have b1 : (er == W) = true := by simp [h1]
    have b1' : (er != W) = false := by simp [h1]
    by_cases h2 : er = 0
    · have b2 : (er == 0) = true := by simp [h2]
      have HA : Hid (N = 2) := by show N = 2; rw [← show answeredN W er em = N from HNN.out]; unfold answeredN; rw [if_neg (by simp [h1]), if_pos h2]
      clear h1 h2 HNN
      go_wp2
      go_ret
      exact ⟨by rw [HA.out]; rfl, HB1.out⟩
    · have b2 : (er == 0) = false := by simp [h2]
      cases em with
      | true =>
        have HA : Hid (N = 1) := by show N = 1; rw [← show answeredN W er true = N from HNN.out]; unfold answeredN; rw [if_neg (by simp [h1]), if_neg h2, if_pos rfl]
        clear h1 h2 HNN
        go_wp2
        go_ret
        exact ⟨by rw [HA.out]; rfl, HB1.out⟩
      | false =>
        have HA : Hid (N = 0) := by show N = 0; rw [← show answeredN W er false = N from HNN.out]; unfold answeredN; rw [if_neg (by simp [h1]), if_neg h2, if_neg (by simp)]
        clear h1 h2 HNN
        go_wp2
        go_ret
        exact ⟨by rw [HA.out]; rfl, HB1.out⟩
  · have b1 : (er == W) = false := by simp [h1]
    have b1' : (er != W) = true := by simp [h1]
    have HA : Hid (N = 0) := by show N = 0; rw [← show answeredN W er em = N from HNN.out]; unfold answeredN; rw [if_pos h1]
    clear h1 HNN
    go_wp2
    go_ret
    exact ⟨by rw [HA.out]; rfl, HB1.out⟩

end Go.Proofs.YtejadojilncbjabGreat

namespace Go.Proofs.YtejadojilncbjabGreat
open Go.RowKit
set_option linter.unusedVariables false
attribute [local go_sem ↓] Go.wp_at_zero Go.wp_at_succ

/-- What an access leaves in the cells. -/
def touch (cs : List Int) (a : AccD) : List Int := if a.kind = 0 then cs else cs.set a.cell.toNat a.put
end Go.Proofs.YtejadojilncbjabGreat

namespace Go.Proofs.YtejadojilncbjabGreat
open Go.RowKit
set_option linter.unusedVariables false
attribute [local go_sem ↓] Go.wp_at_zero Go.wp_at_succ

/-! Who has no job makes no access; the first access of who has one is its first attempt's. -/

theorem works_true {jobs : List (Int × List InsD)} {t : Int} (h : worksB jobs t = true) : ∃ b ∈ jobs, b.1 = t := by
  unfold worksB at h
  rw [List.any_eq_true] at h
  obtain ⟨b, hb, e⟩ := h
  exact ⟨b, hb, by simpa using e⟩

end Go.Proofs.YtejadojilncbjabGreat

namespace Go.Proofs.YtejadojilncbjabGreat
open Go.RowKit
set_option linter.unusedVariables false

/-! A thread that has a job and was picked has an attempt. -/

theorem list_grow (R : Rn) (t : Int) (t0 : 0 ≤ t) (t1 : t < R.c.t) (k : Nat) (h : ((R.g k).th t).list ≠ []) : ((R.g (k + 1)).th t).list ≠ [] := by
  by_cases hp : (R.pk k).thread = t
  · rw [R.at k hp t0 t1]
    by_cases hs : ((R.g k).th t).st = .start
    · obtain ⟨a, e, _⟩ := lm_start (R.K t) ((R.g k).th t) ⟨(accBy (R.g k).m (R.out k t)).seen, (R.pk k).draw, (k : Int) + 1⟩ hs
      rw [e]
      simp
    · obtain ⟨f, _, e⟩ := lm_next (R.K t) ((R.g k).th t) ⟨(accBy (R.g k).m (R.out k t)).seen, (R.pk k).draw, (k : Int) + 1⟩ hs
      rw [e]
      exact fun q => h (modLast_nil q)
  · rw [R.off k hp]
    exact h
theorem list_grows (R : Rn) (t : Int) (t0 : 0 ≤ t) (t1 : t < R.c.t) (k : Nat) (h : ((R.g k).th t).list ≠ []) : ∀ d, ((R.g (k + d)).th t).list ≠ []
  | 0 => h
  | d + 1 => list_grow R t t0 t1 (k + d) (list_grows R t t0 t1 k h d)

theorem hist_some {R : Rn} (O : R.Ok) (hjt : ∀ j ∈ R.jobs, 0 ≤ j.1 ∧ j.1 < R.c.t) {k : Nat} (hk : k < R.ps.length) (hw : worksB R.jobs (R.pk k).thread = true) : R.hist ≠ [] := by
  obtain ⟨b, hb, hbt⟩ := works_true hw
  have ht := hjt b hb
  rw [hbt] at ht
  obtain ⟨t, hT⟩ : ∃ t, t = (R.pk k).thread := ⟨_, rfl⟩
  rw [← hT] at ht hbt
  obtain ⟨j, hj, hje⟩ := List.getElem_of_mem hb
  have hjd : (R.jobs.getD j (0, [])).1 = t := by
    rw [show R.jobs.getD j (0, []) = R.jobs[j] from by simp [List.getD, List.getElem?_eq_getElem hj], hje]
    exact hbt
  have h1 : ((R.g (k + 1)).th t).list ≠ [] := by
    by_cases hl : ((R.g k).th t).list = []
    · rcases list_st R t ht.1 ht.2 k hl with hs | hs
      · rw [R.at k hT.symm ht.1 ht.2]
        obtain ⟨a, e, _⟩ := lm_start (R.K t) ((R.g k).th t) ⟨(accBy (R.g k).m (R.out k t)).seen, (R.pk k).draw, (k : Int) + 1⟩ hs
        rw [e]
        simp
      · have T := ti_at O t ht.1 ht.2 k
        rcases T.ed j hj hjd with q | q
        · obtain ⟨a, ha, _⟩ := T.ee j q
          rw [hl] at ha
          simp at ha
        · exact absurd hs q.1
    · exact list_grow R t ht.1 ht.2 k hl
  have h2 := list_grows R t ht.1 ht.2 (k + 1) h1 (R.ps.length - (k + 1))
  rw [show k + 1 + (R.ps.length - (k + 1)) = R.ps.length by omega] at h2
  obtain ⟨l0, z, hz⟩ := snoc_of h2
  have hm : z ∈ R.hist := (hist_mem O).2 ⟨t, ht.1, ht.2, by rw [hz]; simp⟩
  exact fun e => by rw [e] at hm; cases hm

end Go.Proofs.YtejadojilncbjabGreat
