import Derived.Test.YtejadojilncbjabGreatD35
import Derived.Test.YtejadojilncbjabGreatD21
import Derived.Test.YtejadojilncbjabGreatD28
import Derived.Test.YtejadojilncbjabGreatD26
import Derived.Test.YtejadojilncbjabGreatD15
import Derived.Test.YtejadojilncbjabGreatD34
import Derived.Deep.DeepCutAuto
namespace Go.Proofs.YtejadojilncbjabGreat
open Go.RowKit
set_option linter.unusedVariables false
attribute [local go_sem ↓] Go.wp_at_zero Go.wp_at_succ
def BookB (w : World) (q : Nat) (aa : Option Addr) (n ac : Nat) (lat : List Int) : Prop := Blk w q 164 (.slice aa n ac :: lat.map (.int .i64 ·)).toArray ∧ lat.length = 4
set_option maxRecDepth 100000 in
set_option maxHeartbeats 1000000 in
theorem enter_new {base q : Nat} {aa : Option Addr} {ac : Nat} {lat : List Int} {AN : List (AttD × Value)} {w : World} (hB : BookB w q aa AN.length ac lat) (hr : AttsRow w base aa ac AN) (hbs : base ≤ w.heap.size) (hq : base ≤ q) (hnl : AN.length ≤ 2 ^ 38)
  (x : AttD) (na : Option Addr) (nc : Nat) (k : Nat) (hk : k < 4) (hth : x.thread = (k : Int)) :
  Calls Tryz.prog 107 #[.pointer (some ⟨q, 0, none⟩), .agg #[.int .i64 x.thread, .int .i64 x.job, .int .i64 x.start, .int .i64 x.fin, .int .i64 x.valid, .int .i64 x.stamp, .int .i64 x.fate, .slice na x.notes.length nc], .int .i64 x.start] w fun e w' =>
   e = .returned (.tuple #[]) ∧ (∃ (a' : Option Addr) (c' : Nat), BookB w' q a' (AN.length + 1) c' (lat.set k AN.length) ∧ AttsRow w' base a' c' (AN ++ [(x, .slice na x.notes.length nc)])) ∧ Kp [82, 164] base base base w w' := by
 obtain ⟨iA, hiA, hzA0, hzA1, hzA2⟩ := info_parts Tryz.info82
 obtain ⟨x0, x1, x2, x3, x4, x5, x6, xl⟩ := x
 simp only at hth ⊢
 subst hth
 obtain ⟨NN, HNN⟩ : ∃ NN, Hid (xl.length = NN) := ⟨_, rfl⟩
 rw [show xl.length = NN from HNN.out]
 obtain ⟨w0, hw0⟩ : ∃ w0, w0 = w.alloc (.cells #[.int .i64 (k : Int), .int .i64 x1, .int .i64 x2, .int .i64 x3, .int .i64 x4, .int .i64 x5, .int .i64 x6, .slice na NN nc] 82) := ⟨_, rfl⟩
 have hB0 : Below w.heap.size w w0 := by rw [hw0]; exact (Below.refl w.heap.size w).alloc (Nat.le_refl _) _
 have hT0 : Blk w0 w.heap.size 82 #[.int .i64 (k : Int), .int .i64 x1, .int .i64 x2, .int .i64 x3, .int .i64 x4, .int .i64 x5, .int .i64 x6, .slice na NN nc] := by rw [hw0]; exact Blk.new w 82 _
 have hb0 : Blk w0 q 164 (.slice aa AN.length ac :: lat.map (.int .i64 ·)).toArray := hB.1.below hB0 hB.1.lt
 have hqc : w0.cell? ⟨q, 0, none⟩ = some (.slice aa AN.length ac) := by rw [hb0.cell]; rfl
 have hqk : w0.cell? ⟨q, 1 + k, none⟩ = some (.int .i64 (lat.getD k 0)) := by
  rw [hb0.cell, Nat.add_comm]
  have := hB.2
  simp [List.getElem?_eq_getElem (show k < lat.length by omega), List.getD]
 have hqf := hb0.frozen
 have htc := hT0.cell
 have hk0 : (0 : Int) ≤ (k : Int) := by omega
 have hk4 : (k : Int) < 4 := by omega
 go_enter Tryz.func107, Tryz.ntmps107
 go_upto_region 1 with fail
 rw [← hw0]
 have HT0 : Hid (Blk w0 w.heap.size 82 #[.int .i64 (k : Int), .int .i64 x1, .int .i64 x2, .int .i64 x3, .int .i64 x4, .int .i64 x5, .int .i64 x6, .slice na NN nc]) := hT0
 have HB0 : Hid (Below w.heap.size w w0) := hB0
 have Hb0 : Hid (Blk w0 q 164 (.slice aa AN.length ac :: lat.map (.int .i64 ·)).toArray) := hb0
 clear hw0 hB0 hT0 hb0
 have HR0 : Hid (w0.ownsRow base 82 8 (.slice aa AN.length ac) AN.length (AN.flatMap avCells)) := ownsRow_below hr HB0.out
 have hqt : q ≠ w.heap.size := by have := hB.1.lt; omega
 have hqlt : q < w0.heap.size := (Hb0.out).lt
 have HQ4 : Hid (lat.length = 4) := hB.2
 have hbs0 : base ≤ w0.heap.size := Nat.le_trans hbs (HB0.out).size
 clear hr hB
 go_wp2_with fail
 go_still_tail 11, (by kernel_rfl)
 go_wp2_with fail
 obtain ⟨w1, hw1⟩ : ∃ w1, w1 = (w0.setCell ⟨q, 1 + k, none⟩ (.int .i64 (AN.length : Int))).drew := ⟨_, rfl⟩
 have hO1 : Only q w0 w1 := by rw [hw1]; exact ((Only.refl q w0).set).drew
 have HO1 : Hid (Only q w0 w1) := hO1
 have hb1 : Blk w1 q 164 (.slice aa AN.length ac :: (lat.set k (AN.length : Int)).map (.int .i64 ·)).toArray := by
  rw [hw1]
  have h := ((Hb0.out).set (i := 1 + k) (v := .int .i64 (AN.length : Int))).congr (ds := (.slice aa AN.length ac :: (lat.set k (AN.length : Int)).map (.int .i64 ·)).toArray) (by
      rw [Nat.add_comm 1 k]
      simp [List.map_set])
  exact h
 have Hb1 : Hid (Blk w1 q 164 (.slice aa AN.length ac :: (lat.set k (AN.length : Int)).map (.int .i64 ·)).toArray) := hb1
 have hT1 : Blk w1 w.heap.size 82 #[.int .i64 (k : Int), .int .i64 x1, .int .i64 x2, .int .i64 x3, .int .i64 x4, .int .i64 x5, .int .i64 x6, .slice na NN nc] := (HT0.out).only hO1 (Ne.symm hqt)
 have htc1 := hT1.cell
 have hq0 : w1.cell? ⟨q, 0, none⟩ = some (.slice aa AN.length ac) := by rw [hb1.cell]; rfl
 have hqf0 : w1.frozen? ⟨q, 0, none⟩ = false := hb1.frozen 0
 have HR1 : Hid (w1.ownsRow base 82 8 (.slice aa AN.length ac) AN.length (AN.flatMap avCells)) := ownsRow_only HR0.out hO1 (own_tag HR0.out Hb0.out (by decide))
 have hpne : (Value.slice aa AN.length ac).ownBlock ≠ some q := fun e => own_tag HR1.out Hb1.out (by decide) q e rfl
 have hq1 : q < w1.heap.size := hb1.lt
 have hbs1 : base ≤ w1.heap.size := Nat.le_trans hbs0 hO1.size
 rw [← hw1]
 clear hw1 hO1 hb1 hT1 htc hqc hqk hqf HR0
 go_region_law
  ((refine step_append_lies _ (by rfl) _ _ _ (by rfl) base 82 iA _ 8 80 Tryz.underlying29 hiA hzA0 hzA1 hzA2 rfl (by omega) (.slice aa AN.length ac) AN.length (AN.flatMap avCells) (by rfl) (((HR1.out).alloc _).drew)
          ⟨w1.heap.size, 0, none⟩ 1 1 [.int .i64 (k : Int), .int .i64 x1, .int .i64 x2, .int .i64 x3, .int .i64 x4, .int .i64 x5, .int .i64 x6, .slice na NN nc] (by rfl) (by rfl) (World.news_of_block (cs := #[.int .i64 (k : Int), .int .i64 x1, .int .i64 x2, .int .i64 x3, .int .i64 x4, .int .i64 x5, .int .i64 x6, .slice na NN nc]) (t := 82) (fr := (0, 0)) (heap_alloc_new w1 _)) (by simp [Value.oneCell'])
          (by omega) (by unfold maxLen; omega) (by omega) (by simp; omega) (w1.heap.size + 1) (by simp) ?_; intro gg cap w7 hown1 hgrow hat hlt7;
          have hd8 : w7.cell? ⟨q, 0, none⟩ = some (.slice aa AN.length ac) := (by rw [hgrow.cell_far _ (by simp; omega) (Ne.symm hpne)]; simpa [World.cell?_alloc_lt, hq1] using hq0);
          have he8 : w7.frozen? ⟨q, 0, none⟩ = false := (by rw [hgrow.frozen_far _ (by simp; omega) (Ne.symm hpne)]; simpa [World.frozen?_alloc_past, hq1] using hqf0)))
 all_goals
  go_wp2
  refine bodyPost_ret (v := .tuple #[]) (by first | rfl | simp [results, Tryz.results107, go_sem]) rfl ?_
  have K1 : Kp [82, 164] base base base w w0 := Kp.below HB0.out hbs
  have K2 : Kp [82, 164] base base base w0 w1 := Kp.only HO1.out hbs0 Hb0.out (by simp) (Or.inr (Or.inr hq))
  have K3 : Kp [82] base base base w1 w7 := (Kp.below (((Below.refl _ _).alloc (Nat.le_refl _) _).drew) hbs1).trans (Kp.grown hgrow (by simp; omega) (((HR1.out).alloc _).drew) (by simp))
  have hb7 : Blk w7 q 164 (.slice aa AN.length ac :: (lat.set k (AN.length : Int)).map (.int .i64 ·)).toArray := (Hb1.out).keep K3 (by decide)
  have hO8 : Only q w7 (w7.setCell ⟨q, 0, none⟩ (.slice (some ⟨gg, 0, none⟩) (AN.length + 1) cap)) := (Only.refl q w7).set
  have K4 : Kp [82, 164] base base base w7 (w7.setCell ⟨q, 0, none⟩ (.slice (some ⟨gg, 0, none⟩) (AN.length + 1) cap)) := Kp.only hO8 (Nat.le_trans hbs1 K3.size) hb7 (by simp) (Or.inr (Or.inr hq))
  refine ⟨rfl, ⟨some ⟨gg, 0, none⟩, cap, ⟨(hb7.set (i := 0) (v := .slice (some ⟨gg, 0, none⟩) (AN.length + 1) cap)).congr (by simp), by rw [List.length_set]; exact HQ4.out⟩, ?_⟩, ((K1.trans K2).trans (K3.wide (by simp))).trans K4⟩
  have h9 := ownsRow_only hown1 hO8 (own_tag hown1 hb7 (by decide))
  unfold AttsRow
  rw [List.length_append, List.flatMap_append]
  exact h9
section
variable (base p z : Nat) (A B : List Value) (t : PT) (L : Ls) (w : World)
end
theorem TolF.result {K : Cx} {mine : List Int} {cur : Nat} {res : List ResD} {told : AttD} {list : List AttD} {ends : List ResD} (T : TolF K mine cur res told list ends) (j : Nat) :
  (∀ k, k < res.length → mine.getD k 0 = (j : Int) → res.getD k noRes = ends.getD j noRes) ∧ ((∀ k, k < res.length → mine.getD k 0 ≠ (j : Int)) → ends.getD j noRes = noRes) := by
 have h0 : ∀ i, i < cur → 0 ≤ mine.getD i 0 := fun i hi => by
  have hm : mine.getD i 0 ∈ mineF K.me 0 K.jobs := by
   rw [← T.mi]
   simp only [List.getD, List.getElem?_eq_getElem (show i < mine.length by have := T.cu; omega), Option.getD_some]
   exact List.getElem_mem _
  have := mineF_ge _ _ _ _ hm
  omega
 refine ⟨fun k hk e => ?_, fun h => T.rz j (fun i hi e => h i (by rw [T.rl]; exact hi) (by have := h0 i hi; omega))⟩
 rw [T.rl] at hk
 rw [← T.rs k hk, e]
 simp
theorem Sim.tol {K : Cx} {t : PT} {h : Th} (S : Sim K t h) : Tol K t h := by
 rcases S with ⟨_, _, q⟩ | ⟨_, b, _⟩ | ⟨n, _, b, _⟩ | ⟨n, _, b, _⟩ | ⟨b, _⟩
 ·exact q
 ·exact b.tol
 ·exact b.tol
 ·exact b.tol
 ·exact b.1.tol
end Go.Proofs.YtejadojilncbjabGreat
namespace Go.Proofs.YtejadojilncbjabGreat
open Go.RowKit
set_option linter.unusedVariables false
def Nts (w : World) (q : List (PT × Ls)) (lat : List Int) (AN : List (AttD × Value)) : Prop :=
 ∀ (m : Nat) (x : AttD × Value), AN[m]? = some x → w.ownsRow 0 93 3 x.2 x.1.notes.length (x.1.notes.flatMap noteCells) ∧
  ∀ k, x.2.ownBlock = some k → OwnW q k → ∃ (j : Nat) (h : j < q.length), lat.getD j 0 = (m : Int) ∧ x.2 = .slice q[j].2.na q[j].1.notes.length q[j].2.nc ∧ x.1.notes = q[j].1.notes
theorem Nts.of {w : World} {q : List (PT × Ls)} {lat : List Int} {AN : List (AttD × Value)} (h : Nts w q lat AN) : NotesOf w AN := fun x hx => by
 obtain ⟨m, hm⟩ := List.mem_iff_getElem?.1 hx
 exact (h m x hm).1
theorem Nts.keep {chg : List TypeId} {B p eb : Nat} {w w' : World} {q : List (PT × Ls)} {lat : List Int} {AN : List (AttD × Value)} (h : Nts w q lat AN) (hk : Kp chg B p eb w w') (ht : 93 ∉ chg) : Nts w' q lat AN := fun m x hx => ⟨ownsRow_keep (h m x hx).1 hk ht, (h m x hx).2⟩
theorem WR.keep {chg : List TypeId} {B p' eb base p nb cb cap tcap : Nat} {pn : Int} {X : List Value} {w w' : World} {q : List (PT × Ls)} {Ds : List Int} (W : WR base p nb cb cap tcap pn X w q Ds) (hk : Kp chg B p' eb w w') (h1 : 222 ∉ chg) (h2 : 230 ∉ chg) (h3 : 3 ∉ chg) (h4 : 138 ∉ chg) (h5 : 125 ∉ chg) (h6 : 93 ∉ chg) (h7 : 47 ∉ chg) : WR base p nb cb cap tcap pn X w' q Ds :=
 ⟨W.thr.keep hk h4, fun i hi => ⟨ownsRow_keep (W.rows i hi).rd hk h1, ownsRow_keep (W.rows i hi).wr hk h2, ownsRow_keep (W.rows i hi).hd hk h3, ownsRow_keep (W.rows i hi).mi hk h3, (W.rows i hi).ne, ownsRow_keep (W.rows i hi).nt hk h6, ownsRow_keep (W.rows i hi).sr hk h7⟩, W.dis, W.num.keep hk h3, W.nown, W.wst.keep hk h5, W.pb, W.nbb, W.cbb, Nat.le_trans W.bs hk.size⟩
section
variable {base p nb cb cap tcap : Nat} {pn pn' : Int} {X : List Value} {w w' : World} {q q' : List (PT × Ls)} {Ds Ds' lat : List Int} {AN : List (AttD × Value)} {th kind : Int}
theorem free_same (W : WR base p nb cb cap tcap pn X w q Ds) (G : GoesW p nb cb q w q' w') {v : Value} {n : Nat} {xs : List Value} (h : w.ownsRow 0 93 3 v n xs) (hf : ∀ k, v.ownBlock = some k → ¬ OwnW q k) : w'.ownsRow 0 93 3 v n xs ∧ ∀ k, v.ownBlock = some k → ¬ OwnW q' k :=
 ⟨ownsRow_same h fun k hk => G.block k (h.lt k hk).2 (own_tag h W.thr (by decide) k hk) (own_tag h W.num (by decide) k hk) (own_tag h W.wst (by decide) k hk) (hf k hk), fun k hk o => by
     rcases G.own k o with o | o
     ·exact hf k hk o
     ·have := (h.lt k hk).2; omega⟩
theorem nts_old (W : WR base p nb cb cap tcap pn X w q Ds) (W' : WR base p nb cb cap tcap pn' X w' q' Ds') (G : GoesW p nb cb q w q' w') (hl : q'.length = q.length) {x : AttD × Value} (h : w.ownsRow 0 93 3 x.2 x.1.notes.length (x.1.notes.flatMap noteCells)) {j : Nat} (hj : j < q.length) (hj' : j < q'.length) (e1 : q'[j].2 = q[j].2) (e2 : q'[j].1.notes = q[j].1.notes)
  (hx : x.2 = .slice q[j].2.na q[j].1.notes.length q[j].2.nc) (hn : x.1.notes = q[j].1.notes) : w'.ownsRow 0 93 3 x.2 x.1.notes.length (x.1.notes.flatMap noteCells) := by
 have h1 := ownsRow_low (W'.rows j hj').nt (Nat.zero_le base)
 rw [e1, e2] at h1
 rw [hx, hn]
 exact h1
theorem Nts.none (W : WR base p nb cb cap tcap pn X w q Ds) (W' : WR base p nb cb cap tcap pn' X w' q' Ds') (G : GoesW p nb cb q w q' w') (N : NGo th kind q q' w w') (h0 : kind = 0) (h : Nts w q lat AN) : Nts w' q' lat AN := fun m x hx => by
 obtain ⟨h1, h2⟩ := h m x hx
 by_cases hf : ∀ k, x.2.ownBlock = some k → ¬ OwnW q k
 ·obtain ⟨a, b⟩ := free_same W G h1 hf
  exact ⟨a, fun k hk o => absurd o (b k hk)⟩
 ·obtain ⟨k, hk⟩ := Classical.not_forall.1 hf
  obtain ⟨hk1, hk2⟩ := Classical.not_imp.1 hk
  obtain ⟨j, hj, e1, e2, e3⟩ := h2 k hk1 (Classical.not_not.1 hk2)
  have hj' : j < q'.length := by rw [N.len]; exact hj
  obtain ⟨n1, n2⟩ := N.none h0 j hj hj'
  have n3 : q'[j].1.notes = q[j].1.notes := congrArg AttD.notes n2
  exact ⟨nts_old W W' G N.len h1 hj hj' n1 n3 e2 e3, fun k' _ _ => ⟨j, hj', e1, by rw [n1, n3]; exact e2, by rw [n3]; exact e3⟩⟩
theorem Nts.mod (W : WR base p nb cb cap tcap pn X w q Ds) (W' : WR base p nb cb cap tcap pn' X w' q' Ds') (G : GoesW p nb cb q w q' w') (N : NGo th kind q q' w w') (h : Nts w q lat AN) (t m0 : Nat) (ht : (t : Int) = th) (htq : t < q'.length) (hm : m0 < AN.length) (hlat : lat.getD t 0 = (m0 : Int)) (z : AttD) (hz : z.notes = q'[t].1.notes) :
  Nts w' q' lat (AN.set m0 (z, .slice q'[t].2.na q'[t].1.notes.length q'[t].2.nc)) := fun m x hx => by
 rw [List.getElem?_set] at hx
 by_cases e : m0 = m
 ·rw [if_pos e, if_pos hm] at hx
  cases hx
  refine ⟨?_, fun k _ _ => ⟨t, htq, by rw [hlat, e], rfl, hz⟩⟩
  simp only
  rw [hz]
  exact ownsRow_low (W'.rows t htq).nt (Nat.zero_le base)
 ·rw [if_neg e] at hx
  obtain ⟨h1, h2⟩ := h m x hx
  by_cases hf : ∀ k, x.2.ownBlock = some k → ¬ OwnW q k
  ·obtain ⟨a, b⟩ := free_same W G h1 hf
   exact ⟨a, fun k hk o => absurd o (b k hk)⟩
  ·obtain ⟨k, hk⟩ := Classical.not_forall.1 hf
   obtain ⟨hk1, hk2⟩ := Classical.not_imp.1 hk
   obtain ⟨j, hj, e1, e2, e3⟩ := h2 k hk1 (Classical.not_not.1 hk2)
   have hj' : j < q'.length := by rw [N.len]; exact hj
   have hjt : (j : Int) ≠ th := fun e4 => by
    have : j = t := by omega
    subst this
    rw [hlat] at e1
    omega
   have n0 := N.other j hj hj' hjt
   exact ⟨nts_old W W' G N.len h1 hj hj' (by rw [n0]) (by rw [n0]) e2 e3, fun k' _ _ => ⟨j, hj', e1, by rw [n0]; exact e2, by rw [n0]; exact e3⟩⟩
theorem Nts.new (W : WR base p nb cb cap tcap pn X w q Ds) (W' : WR base p nb cb cap tcap pn' X w' q' Ds') (G : GoesW p nb cb q w q' w') (N : NGo th kind q q' w w') (h0 : kind ≠ 0) (h : Nts w q lat AN) (t : Nat) (ht : (t : Int) = th) (htq : t < q'.length) (htq0 : t < q.length) (hst : q[t].1.step = 2) (hlt : t < lat.length) (z : AttD) (hz : z.notes = q'[t].1.notes) :
  Nts w' q' (lat.set t (AN.length : Int)) (AN ++ [(z, .slice q'[t].2.na q'[t].1.notes.length q'[t].2.nc)]) := fun m x hx => by
 by_cases e : m < AN.length
 ·rw [List.getElem?_append_left e] at hx
  obtain ⟨h1, h2⟩ := h m x hx
  by_cases hf : ∀ k, x.2.ownBlock = some k → ¬ OwnW q k
  ·obtain ⟨a, b⟩ := free_same W G h1 hf
   exact ⟨a, fun k hk o => absurd o (b k hk)⟩
  ·obtain ⟨k, hk⟩ := Classical.not_forall.1 hf
   obtain ⟨hk1, hk2⟩ := Classical.not_imp.1 hk
   obtain ⟨j, hj, e1, e2, e3⟩ := h2 k hk1 (Classical.not_not.1 hk2)
   have hj' : j < q'.length := by rw [N.len]; exact hj
   by_cases hjt : (j : Int) = th
   ·have : j = t := by omega
    subst this
    have hna : oB q[j].2.na = some k := by rw [← hk1, e2, oB_eq]
    obtain ⟨f1, f2⟩ := N.fresh h0 j hj hj' hjt hst k hna
    refine ⟨ownsRow_same h1 fun k' hk' => ?_, fun k' hk' o => ?_⟩
    ·have : k' = k := by rw [hk1] at hk'; exact (Option.some.inj hk').symm
     subst this
     exact f2
    ·have : k' = k := by rw [hk1] at hk'; exact (Option.some.inj hk').symm
     subst this
     obtain ⟨i, hi, oi⟩ := o
     exfalso
     by_cases hij : i = j
     ·subst hij; exact f1 oi
     ·have hi0 : i < q.length := by rw [← N.len]; exact hi
      rw [N.other i hi0 hi (by omega)] at oi
      exact W.dis i j hi0 hj hij k' oi (naOwn hna)
   ·have n0 := N.other j hj hj' hjt
    have hjn : t ≠ j := by omega
    exact ⟨nts_old W W' G N.len h1 hj hj' (by rw [n0]) (by rw [n0]) e2 e3, fun k' _ _ => ⟨j, hj', by rw [← e1]; simp [List.getD, hjn], by rw [n0]; exact e2, by rw [n0]; exact e3⟩⟩
 ·rw [List.getElem?_append_right (by omega)] at hx
  have hm : m = AN.length := by
   have := (List.getElem?_eq_some_iff.1 hx).1
   simp at this
   omega
  subst hm
  simp at hx
  subst hx
  refine ⟨?_, fun k _ _ => ⟨t, htq, by simp [List.getD, hlt], rfl, hz⟩⟩
  simp only
  rw [hz]
  exact ownsRow_low (W'.rows t htq).nt (Nat.zero_le base)
end
theorem modLast_nil {l : List AttD} {f : AttD → AttD} (h : modLast l f = []) : l = [] := by
 have := congrArg List.length h
 unfold modLast at this
 rw [List.length_modify] at this
 exact List.length_eq_zero_iff.1 this
theorem list_st (R : Rn) (t : Int) (t0 : 0 ≤ t) (t1 : t < R.c.t) : ∀ k : Nat, ((R.g k).th t).list = [] → ((R.g k).th t).st = .start ∨ ((R.g k).th t).st = .idle
 | 0, _ => by
  show (hTo (R.K t) 0 _).st = _ ∨ (hTo (R.K t) 0 _).st = _
  unfold hTo
  split
  ·exact Or.inl rfl
  ·exact Or.inr rfl
 | k + 1, h => by
  by_cases hp : (R.pk k).thread = t
  ·rw [R.at k hp t0 t1] at h ⊢
   by_cases hs : ((R.g k).th t).st = .start
   ·obtain ⟨a, e, _⟩ := lm_start (R.K t) ((R.g k).th t) ⟨(accBy (R.g k).m (R.out k t)).seen, (R.pk k).draw, (k : Int) + 1⟩ hs
    rw [e] at h
    simp at h
   ·obtain ⟨f, _, e⟩ := lm_next (R.K t) ((R.g k).th t) ⟨(accBy (R.g k).m (R.out k t)).seen, (R.pk k).draw, (k : Int) + 1⟩ hs
    rw [e] at h
    rcases list_st R t t0 t1 k (modLast_nil h) with h1 | h1
    ·exact absurd h1 hs
    ·refine Or.inr ?_
     unfold hNext
     rw [h1]
     exact h1
  ·rw [R.off k hp] at h ⊢
   exact list_st R t t0 t1 k h
theorem hne_at (R : Rn) (k : Nat) (t : Int) (t0 : 0 ≤ t) (t1 : t < R.c.t) (h1 : ((R.g k).th t).st ≠ .start) (h2 : (R.out k t).kind ≠ 0) : ((R.g k).th t).list ≠ [] := fun h => by
 rcases list_st R t t0 t1 k h with e | e
 ·exact h1 e
 ·apply h2
  show (hOut _ _).kind = 0
  unfold hOut
  rw [e]
theorem sim_step2 {K : Cx} {t : PT} {h : Th} (S : Sim K t h) (hs : h.st = .start) : t.step = 2 := by
 rcases S with ⟨q, _⟩ | ⟨_, _, _, q, _⟩ | ⟨n, q, _⟩ | ⟨n, q, _⟩ | ⟨_, _, q⟩
 ·rw [hs] at q; cases q
 ·exact q
 ·rw [hs] at q; cases q
 ·rw [hs] at q; cases q
 ·rw [hs] at q; exact q.elim
theorem start_of {R : Rn} (O : R.Ok) {k t : Nat} (ht : (R.pk k).thread = (t : Int)) (t1 : (t : Int) < R.c.t) {z : AttD} (hz : ((R.g (k + 1)).th (t : Int)).list.getLast? = some z) (hk : z.start = (k : Int) + 1) : ((R.g k).th (t : Int)).st = .start := by
 refine Classical.byContradiction fun hs => ?_
 obtain ⟨f, hf, e1⟩ := lm_next (R.K (t : Int)) ((R.g k).th (t : Int)) ⟨(accBy (R.g k).m (R.out k (t : Int))).seen, (R.pk k).draw, (k : Int) + 1⟩ hs
 rw [← R.at k ht (by omega) t1] at e1
 by_cases hn : ((R.g k).th (t : Int)).list = []
 ·rw [e1, hn] at hz
  simp [modLast] at hz
 ·obtain ⟨l0, y, hy⟩ := snoc_of hn
  rw [e1, hy, modLast_snoc] at hz
  simp at hz
  subst hz
  have A := la_t k (t : Int) (by omega) t1 (show y ∈ ((R.g k).th (t : Int)).list from by rw [hy]; simp)
  have := A.s2
  rw [(hf y).1] at hk
  omega
theorem thread_of {R : Rn} (O : R.Ok) {k : Nat} {t : Int} (t0 : 0 ≤ t) (t1 : t < R.c.t) {z : AttD} (hz : ((R.g k).th t).list.getLast? = some z) : z.thread = t := (la_t k t t0 t1 (List.mem_of_getLast? hz)).thr
theorem srt_len {l : List AttD} (h : Srt l) {k : Nat} (hb : ∀ a ∈ l, 1 ≤ a.start ∧ a.start ≤ (k : Int)) : l.length ≤ k := by
 have := starts_len (l.map (·.start)) 0 k (by rw [List.pairwise_map]; exact h) (fun x hx => by
     obtain ⟨a, ha, rfl⟩ := List.mem_map.1 hx
     have := hb a ha
     omega) (by omega)
 simp at this
 omega
theorem BkI.len {R : Rn} (O : R.Ok) {k : Nat} {l : List AttD} {lat : List Int} (h : BkI R k l lat) : l.length ≤ k := srt_len h.srt fun a ha => by
 obtain ⟨t, t0, t1, ht⟩ := (h.mem a).1 ha
 have A := la_t k t t0 t1 ht
 exact ⟨A.s1, A.s2⟩
theorem hist_len {R : Rn} (O : R.Ok) : R.hist.length ≤ R.ps.length := srt_len (histL_srt R) fun a ha => by
 obtain ⟨t, t0, t1, ht⟩ := histL_mem.1 ha
 have A := la_t _ t t0 t1 ht
 exact ⟨A.s1, A.s2⟩
theorem BkI.zero (R : Rn) : BkI R 0 [] [0, 0, 0, 0] := by
 have e : ∀ t, ((R.g 0).th t).list = [] := fun t => by
  show (hTo (R.K t) 0 _).list = _
  rw [l_to]
 refine ⟨List.Pairwise.nil, fun a => ?_, fun t _ z hz => ?_⟩
 ·constructor
  ·intro h; cases h
  ·rintro ⟨t, _, _, h⟩; rw [e t] at h; cases h
 ·rw [e] at hz; cases hz
end Go.Proofs.YtejadojilncbjabGreat
namespace Go.Proofs.YtejadojilncbjabGreat
open Go.RowKit
set_option linter.unusedVariables false
attribute [local go_sem ↓] Go.wp_at_zero Go.wp_at_succ
theorem av_set (l : List (AttD × Value)) (k : Nat) (hk : k < l.length) (q : AttD × Value) : (l.set k q).flatMap avCells = ((((((((l.flatMap avCells).set (k * 8) (.int .i64 q.1.thread)).set (k * 8 + 1) (.int .i64 q.1.job)).set (k * 8 + 2) (.int .i64 q.1.start)).set (k * 8 + 3) (.int .i64 q.1.fin)).set (k * 8 + 4) (.int .i64 q.1.valid)).set (k * 8 + 5) (.int .i64 q.1.stamp)).set (k * 8 + 6) (.int .i64 q.1.fate)).set (k * 8 + 7) q.2 := by
 have hl := av_len l
 apply List.ext_getElem?
 intro j
 obtain ⟨i, s, hs, rfl⟩ : ∃ i s, s < 8 ∧ j = i * 8 + s := ⟨j / 8, j % 8, by omega, by omega⟩
 rw [flat_at (f := avCells) (n := 8) (fun _ => rfl) _ i s hs]
 simp only [List.getElem?_set, List.length_set, hl]
 by_cases hi : i = k
 ·subst hi
  rw [if_pos rfl, if_pos hk]
  have : s = 0 ∨ s = 1 ∨ s = 2 ∨ s = 3 ∨ s = 4 ∨ s = 5 ∨ s = 6 ∨ s = 7 := by omega
  rcases this with rfl | rfl | rfl | rfl | rfl | rfl | rfl | rfl
  ·rw [if_neg (by omega), if_neg (by omega), if_neg (by omega), if_neg (by omega), if_neg (by omega), if_neg (by omega), if_neg (by omega), if_pos (by omega), if_pos (by omega)]; rfl
  ·rw [if_neg (by omega), if_neg (by omega), if_neg (by omega), if_neg (by omega), if_neg (by omega), if_neg (by omega), if_pos (by omega), if_pos (by omega)]; rfl
  ·rw [if_neg (by omega), if_neg (by omega), if_neg (by omega), if_neg (by omega), if_neg (by omega), if_pos (by omega), if_pos (by omega)]; rfl
  ·rw [if_neg (by omega), if_neg (by omega), if_neg (by omega), if_neg (by omega), if_pos (by omega), if_pos (by omega)]; rfl
  ·rw [if_neg (by omega), if_neg (by omega), if_neg (by omega), if_pos (by omega), if_pos (by omega)]; rfl
  ·rw [if_neg (by omega), if_neg (by omega), if_pos (by omega), if_pos (by omega)]; rfl
  ·rw [if_neg (by omega), if_pos (by omega), if_pos (by omega)]; rfl
  ·rw [if_pos (by omega), if_pos (by omega)]; rfl
 ·rw [if_neg (fun e => hi e.symm), if_neg (by omega), if_neg (by omega), if_neg (by omega), if_neg (by omega), if_neg (by omega), if_neg (by omega), if_neg (by omega), if_neg (by omega), flat_at (f := avCells) (n := 8) (fun _ => rfl) _ i s hs]
set_option maxRecDepth 100000 in
set_option maxHeartbeats 400000 in
theorem enter_old {base q : Nat} {aa : Option Addr} {ac : Nat} {lat : List Int} {AN : List (AttD × Value)} {w : World} (hB : BookB w q aa AN.length ac lat) (hr : AttsRow w base aa ac AN) (hbs : base ≤ w.heap.size) (hq : base ≤ q)
  (x : AttD) (na : Option Addr) (nc : Nat) (num : Int) (k m : Nat) (hk : k < 4) (hth : x.thread = (k : Int)) (hne : x.start ≠ num) (hlat : lat.getD k 0 = (m : Int)) (hm : m < AN.length) :
  Calls Tryz.prog 107 #[.pointer (some ⟨q, 0, none⟩), .agg #[.int .i64 x.thread, .int .i64 x.job, .int .i64 x.start, .int .i64 x.fin, .int .i64 x.valid, .int .i64 x.stamp, .int .i64 x.fate, .slice na x.notes.length nc], .int .i64 num] w fun e w' =>
   e = .returned (.tuple #[]) ∧ (BookB w' q aa AN.length ac lat ∧ AttsRow w' base aa ac (AN.set m (x, .slice na x.notes.length nc))) ∧ Kp [82, 164] base base base w w' := by
 obtain ⟨g, hga, hgb, hgl, _⟩ := hr.cells (by omega)
 subst hga
 obtain ⟨x0, x1, x2, x3, x4, x5, x6, xl⟩ := x
 simp only at hth hne ⊢
 subst hth
 obtain ⟨NN, HNN⟩ : ∃ NN, Hid (xl.length = NN) := ⟨_, rfl⟩
 rw [show xl.length = NN from HNN.out]
 obtain ⟨w0, hw0⟩ : ∃ w0, w0 = w.alloc (.cells #[.int .i64 (k : Int), .int .i64 x1, .int .i64 x2, .int .i64 x3, .int .i64 x4, .int .i64 x5, .int .i64 x6, .slice na NN nc] 82) := ⟨_, rfl⟩
 have hB0 : Below w.heap.size w w0 := by rw [hw0]; exact (Below.refl w.heap.size w).alloc (Nat.le_refl _) _
 have hT0 : Blk w0 w.heap.size 82 #[.int .i64 (k : Int), .int .i64 x1, .int .i64 x2, .int .i64 x3, .int .i64 x4, .int .i64 x5, .int .i64 x6, .slice na NN nc] := by rw [hw0]; exact Blk.new w 82 _
 have hb0 : Blk w0 q 164 (.slice (some ⟨g, 0, none⟩) AN.length ac :: lat.map (.int .i64 ·)).toArray := hB.1.below hB0 hB.1.lt
 have hqc : w0.cell? ⟨q, 0, none⟩ = some (.slice (some ⟨g, 0, none⟩) AN.length ac) := by rw [hb0.cell]; rfl
 have hqk : w0.cell? ⟨q, 1 + k, none⟩ = some (.int .i64 (m : Int)) := by
  rw [hb0.cell, Nat.add_comm, ← hlat]
  have := hB.2
  simp [List.getElem?_eq_getElem (show k < lat.length by omega), List.getD]
 have htc := hT0.cell
 have hk0 : (0 : Int) ≤ (k : Int) := by omega
 have hk4 : (k : Int) < 4 := by omega
 have hm0 : (0 : Int) ≤ (m : Int) := by omega
 have hm1 : (m : Int) < (AN.length : Int) := by omega
 have hnb : (x2 == num) = false := by rw [beq_eq_false_iff_ne]; exact hne
 have HR0 : Hid (w0.ownsRow base 82 8 (.slice (some ⟨g, 0, none⟩) AN.length ac) AN.length (AN.flatMap avCells)) := ownsRow_below hr hB0
 obtain ⟨z, hz⟩ : ∃ z, AN[m]? = some z := ⟨_, List.getElem?_eq_getElem hm⟩
 obtain ⟨g', hg', _, c0, c1, c2, c3, c4, c5, c6, c7⟩ := AttsRow.at (show AttsRow w0 base (some ⟨g, 0, none⟩) ac AN from HR0.out) m z hz
 cases hg'
 obtain ⟨⟨z0, z1, z2, z3, z4, z5, z6, zl⟩, zv⟩ := z
 simp only at c0 c1 c2 c3 c4 c5 c6 c7
 have hgf : ∀ i, w0.frozen? ⟨g, i, none⟩ = false := own_frozen HR0.out
 have hgt : g ≠ w.heap.size := by omega
 have hgq : g ≠ q := own_tag HR0.out hb0 (by decide) g rfl
 go_enter Tryz.func107, Tryz.ntmps107
 go_upto_region 1 with fail
 rw [← hw0]
 have HB0 : Hid (Below w.heap.size w w0) := hB0
 have Hb0 : Hid (Blk w0 q 164 (.slice (some ⟨g, 0, none⟩) AN.length ac :: lat.map (.int .i64 ·)).toArray) := hb0
 have HQ4 : Hid (lat.length = 4) := hB.2
 have HM : Hid (m < AN.length) := hm
 have hbs0 : base ≤ w0.heap.size := Nat.le_trans hbs (HB0.out).size
 clear hw0 hB0 hT0 hb0 hr hB hlat hne hm hz
 go_wp2_with fail
 go_still_tail 13, (by kernel_rfl)
 go_wp2
 go_end0
 have HM8 : Hid (m * 8 + 7 < AN.length * 8) := by show _ < _; have := HM.out; omega
 have hm8 := HM8.out
 obtain ⟨X, hX⟩ : ∃ X, X = AN.flatMap avCells := ⟨_, rfl⟩
 have hr0 : w0.ownsRow base 82 8 (.slice (some ⟨g, 0, none⟩) AN.length ac) AN.length X := by rw [hX]; exact HR0.out
 have hr8 := World.ownsRow.drew (own_set (own_set (own_set (own_set (own_set (own_set (own_set (own_set hr0 (i := m * 8) (by omega) (.int .i64 (k : Int))) (i := m * 8 + 1) (by omega) (.int .i64 x1)) (i := m * 8 + 2) (by omega) (.int .i64 x2)) (i := m * 8 + 3) (by omega) (.int .i64 x3)) (i := m * 8 + 4) (by omega) (.int .i64 x4)) (i := m * 8 + 5) (by omega) (.int .i64 x5)) (i := m * 8 + 6) (by omega) (.int .i64 x6)) (i := m * 8 + 7) (by omega) (.slice na NN nc))
 have hO : Only g w0 ((((((((w0.setCell ⟨g, m * 8, none⟩ (.int .i64 (k : Int))).setCell ⟨g, m * 8 + 1, none⟩ (.int .i64 x1)).setCell ⟨g, m * 8 + 2, none⟩ (.int .i64 x2)).setCell ⟨g, m * 8 + 3, none⟩ (.int .i64 x3)).setCell ⟨g, m * 8 + 4, none⟩ (.int .i64 x4)).setCell ⟨g, m * 8 + 5, none⟩ (.int .i64 x5)).setCell ⟨g, m * 8 + 6, none⟩ (.int .i64 x6)).setCell ⟨g, m * 8 + 7, none⟩ (.slice na NN nc)).drew := (((((((((Only.refl g w0).set).set).set).set).set).set).set).set).drew
 obtain ⟨gc, gcap, gcur, gv, gb, gg, _⟩ := own_block HR0.out (by have := HM.out; omega)
 injection gv with gv1
 cases gv1
 have K1 : Kp [82, 164] base base base w w0 := Kp.below HB0.out hbs
 have K2 := Kp.only (chg := [82, 164]) (B := base) (p := base) (eb := base) hO hbs0 gg (by simp) (Or.inr (Or.inr hgb))
 refine ⟨rfl, ⟨⟨(Hb0.out).only hO (Ne.symm hgq), HQ4.out⟩, ?_⟩, K1.trans K2⟩
 show World.ownsRow _ _ _ _ _ _ _
 rw [List.length_set, av_set AN m HM.out, ← hX]
 exact hr8
theorem Tryz.info138 : (Tryz.prog.info? 138).map (fun i => (i.zero, i.size, i.bytes)) = some (some (.agg zc), 47, 472) := by kernel_rfl
theorem fold_set : ∀ (l : List Value) (j : Nat) (a : Array Value), j + l.length = a.size → (l.zipIdx j).foldl (fun cs x => cs.setIfInBounds x.snd x.fst) a = (a.toList.take j ++ l).toArray
 | [], j, a, h => by
  have : j = a.size := by simpa using h
  subst this
  rw [List.take_of_length_le (by simp)]
  simp
 | v :: l, j, a, h => by
  rw [List.zipIdx_cons, List.foldl_cons, fold_set l (j + 1) (a.setIfInBounds j v) (by simp at h ⊢; omega)]
  congr 1
  have hj : j < a.toList.length := by simp at h ⊢; omega
  rw [Array.toList_setIfInBounds, List.take_set, List.take_add_one, List.getElem?_eq_getElem hj]
  simp only [Option.toList]
  rw [List.set_append_right _ _ (by simp; omega)]
  simp [Nat.min_eq_left (Nat.le_of_lt (by simpa using hj))]
def BegunIs (c : Cfg) (mem : List Int) (jobs : List (Int × List InsD)) (w : World) (e : Ending) (w' : World) : Prop :=
 ∃ (nb p cap tcap : Nat) (q : List (PT × Ls)) (Ds : List Int) (X : List Value), e = .returned (.agg #[.slice (some ⟨nb, 0, none⟩) Ds.length cap, .slice (some ⟨p, 0, none⟩) q.length tcap, .int .i64 0]) ∧
  (∀ w2 cb, Below w'.heap.size w' w2 → Blk w2 cb 125 #[.slice (some ⟨nb, 0, none⟩) Ds.length cap, .slice (some ⟨p, 0, none⟩) q.length tcap, .int .i64 0] → w.heap.size ≤ cb → WR w.heap.size p nb cb cap tcap 0 X w2 q Ds) ∧ SimW c jobs 0 (gStart c mem jobs) q Ds ∧ Below w.heap.size w w'
theorem bi_below {wb k tcap : Nat} {ta : Option Addr} {xs : List Value} {w wr w5 w6 w7 : World} (hB : Below w.heap.size w wr) (hb5 : Below wr.heap.size wr w5) (hb6 : Below w5.heap.size w5 w6) (hthr : wr.ownsRow w.heap.size 138 47 (.slice ta k tcap) k xs) (hgr : w6.grownBy w7 (Value.slice ta k tcap).ownBlock) (hwb : w.heap.size ≤ wb) (v : Value) :
  Below w.heap.size w (w7.setCell ⟨wb, 1, none⟩ v) := by
 have h1 : Below w.heap.size w w6 := (hB.trans (hb5.mono hB.size)).trans (hb6.mono (Nat.le_trans hB.size hb5.size))
 have hs : w.heap.size ≤ w6.heap.size := h1.size
 refine below_onto (w' := w7) ⟨hgr.os.trans h1.os, hgr.tape.trans h1.tape, hgr.output.trans h1.output, Nat.le_trans h1.size hgr.size, fun q hq => ?_⟩ ((Only.refl _ _).set) hwb (by have := hgr.size; omega)
 rw [hgr.block q (by omega) (fun e => by have := (hthr.lt q e.symm).1; omega)]
 exact h1.block q hq
theorem begun_of {c : Cfg} {mem : List Int} {jobs : List (Int × List InsD)} {w wr w' : World} {base nb wb sb r2 tcap tn : Nat} {S : Array Value} {Ds : List Int} {ta : Option Addr} {q : List (PT × Ls)} (hc : cfgB c = true) (hmw : (mem.length : Int) = c.wd) (hmb : memB mem = true) (hjl : jobs.length ≤ 8)
  (hbase : (base : Int) = 3 + 2 * c.s + c.t) (htn : (tn : Int) = c.t) (ht1 : 1 ≤ tn) (hDs : Ds = List.replicate base (0 : Int) ++ mem) (I : BI w.heap.size nb wb sb r2 Ds.length Ds.length S c jobs Ds ta tcap tn q wr) (HB : Below w.heap.size w wr) (ho : Only r2 wr w') (hr : w.heap.size ≤ r2) :
  BegunIs c mem jobs w (.returned (.agg #[.slice (some ⟨nb, 0, none⟩) Ds.length Ds.length, .slice ta tn tcap, .int .i64 0])) w' := by
 obtain ⟨g, cap, cur, hv, hbg, hgb, h1, h2, h3, h4⟩ := own_block I.thr ht1
 obtain ⟨rfl, rfl⟩ : ta = some ⟨g, 0, none⟩ ∧ tcap = cap := by injection hv with a b c; exact ⟨a, c⟩
 have hql := I.ql
 have hg2 : Blk w' g 138 cur := hgb.only ho (Blk.ne hgb I.res (by decide))
 have hn2 : Blk w' nb 3 (Ds.map (Value.int .i64 ·)).toArray := I.num.only ho (Blk.ne I.num I.res (by decide))
 have hrows : ∀ i (h : i < q.length), RowsOk w.heap.size w' q[i].1 q[i].2 := fun i h => (I.rows i h).kept (fun k o => ho.block k ((I.rows i h).own k o).2 (fun e => Own_tag (I.rows i h) I.res (by decide) (by decide) (by decide) (by decide) (by decide) (e ▸ o)))
 refine ⟨nb, g, Ds.length, tcap, q, Ds, cur.toList.drop (tn * 47), by rw [hql], ?_, ?_, below_onto HB ho hr HB.size⟩
 ·intro w2 cb hb hcb hle
  have hbs : w.heap.size ≤ w2.heap.size := Nat.le_trans HB.size (Nat.le_trans ho.size hb.size)
  refine ⟨?_, fun i h => (hrows i h).kept (fun k o => hb.block k ((hrows i h).own k o).2), I.dis, hn2.below hb hn2.lt, I.nown, hcb, hbg, I.nbb, hle, hbs⟩
  refine (hg2.below hb hg2.lt).congr ?_
  rw [← h4, List.take_append_drop]
 ·have hd : ∀ i (h : i < q.length), q[i].1 = tInit c jobs i := I.init
  refine ⟨by rw [hql]; exact htn, ?_, ?_, fun i h => by rw [hd i h]; exact init_sim c jobs i, fun i h => by rw [hd i h]; exact init_own c jobs i hjl, gstart_ok hc hmw hmb jobs⟩
  ·rw [hDs, total_eq]
   simp
   omega
  ·intro x hx
   show Ds.getD x 0 = startVal c mem x
   unfold startVal wordBase
   rw [hDs] at hx ⊢
   by_cases hxb : x < base
   ·rw [if_neg (by omega)]
    simp [List.getD_eq_getElem?_getD, List.getElem?_append_left, hxb]
   ·rw [if_pos (by omega)]
    have e : ((x : Int) - (3 + 2 * c.s + c.t)).toNat = x - base := by omega
    rw [e]
    simp [List.getD_eq_getElem?_getD, List.getElem?_append_right, Nat.le_of_not_lt hxb]
end Go.Proofs.YtejadojilncbjabGreat
