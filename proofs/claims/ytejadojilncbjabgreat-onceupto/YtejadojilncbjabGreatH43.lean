import Derived.Test.YtejadojilncbjabGreatH42
import Derived.Test.YtejadojilncbjabGreatH40
import Derived.Deep.DeepCutAuto
namespace Go.Proofs.YtejadojilncbjabGreat
open Go.RowKit
set_option linter.unusedVariables false
attribute [local go_sem ↓] Go.wp_at_zero Go.wp_at_succ

theorem av_set (l : List (AttD × Value)) (k : Nat) (hk : k < l.length) (q : AttD × Value) : (l.set k q).flatMap avCells = ((((((((l.flatMap avCells).set (k * 8) (.int .i64 q.1.thread)).set (k * 8 + 1) (.int .i64 q.1.job)).set (k * 8 + 2) (.int .i64 q.1.start)).set (k * 8 + 3) (.int .i64 q.1.fin)).set (k * 8 + 4) (.int .i64 q.1.valid)).set (k * 8 + 5) (.int .i64 q.1.stamp)).set (k * 8 + 6) (.int .i64 q.1.fate)).set (k * 8 + 7) q.2 := by
  have hl := av_len l
  apply List.ext_getElem?
  intro j
  obtain ⟨i, s, hs, rfl⟩ : ∃ i s, s < 8 ∧ j = i * 8 + s := ⟨j / 8, j % 8, by omega, by omega⟩
  rw [flat_at (f := avCells) (n := 8) (fun _ => rfl) _ i s hs]
  simp only [List.getElem?_set, List.length_set, hl]
  by_cases hi : i = k
  · subst hi
    rw [if_pos rfl, if_pos hk]
    have : s = 0 ∨ s = 1 ∨ s = 2 ∨ s = 3 ∨ s = 4 ∨ s = 5 ∨ s = 6 ∨ s = 7 := by omega
    rcases this with rfl | rfl | rfl | rfl | rfl | rfl | rfl | rfl
    · rw [if_neg (by omega), if_neg (by omega), if_neg (by omega), if_neg (by omega), if_neg (by omega), if_neg (by omega), if_neg (by omega), if_pos (by omega), if_pos (by omega)]; rfl
    · rw [if_neg (by omega), if_neg (by omega), if_neg (by omega), if_neg (by omega), if_neg (by omega), if_neg (by omega), if_pos (by omega), if_pos (by omega)]; rfl
    · rw [if_neg (by omega), if_neg (by omega), if_neg (by omega), if_neg (by omega), if_neg (by omega), if_pos (by omega), if_pos (by omega)]; rfl
    · rw [if_neg (by omega), if_neg (by omega), if_neg (by omega), if_neg (by omega), if_pos (by omega), if_pos (by omega)]; rfl
    · rw [if_neg (by omega), if_neg (by omega), if_neg (by omega), if_pos (by omega), if_pos (by omega)]; rfl
    · rw [if_neg (by omega), if_neg (by omega), if_pos (by omega), if_pos (by omega)]; rfl
    · rw [if_neg (by omega), if_pos (by omega), if_pos (by omega)]; rfl
    · rw [if_pos (by omega), if_pos (by omega)]; rfl
  · rw [if_neg (fun e => hi e.symm), if_neg (by omega), if_neg (by omega), if_neg (by omega), if_neg (by omega), if_neg (by omega), if_neg (by omega), if_neg (by omega), if_neg (by omega), flat_at (f := avCells) (n := 8) (fun _ => rfl) _ i s hs]

set_option maxRecDepth 100000 in
set_option maxHeartbeats 400000 in
theorem enter_old {base q : Nat} {aa : Option Addr} {ac : Nat} {lat : List Int} {AN : List (AttD × Value)} {w : World} (hB : BookB w q aa AN.length ac lat) (hr : AttsRow w base aa ac AN) (hbs : base ≤ w.heap.size) (hq : base ≤ q)
    (x : AttD) (na : Option Addr) (nc : Nat) (num : Int) (k m : Nat) (hk : k < 4) (hth : x.thread = (k : Int)) (hne : x.start ≠ num) (hlat : lat.getD k 0 = (m : Int)) (hm : m < AN.length) :
    Calls Tryz.prog 107 #[.pointer (some ⟨q, 0, none⟩), .agg #[.int .i64 x.thread, .int .i64 x.job, .int .i64 x.start, .int .i64 x.fin, .int .i64 x.valid, .int .i64 x.stamp, .int .i64 x.fate, .slice na x.notes.length nc], .int .i64 num] w fun e w' =>
      e = .returned (.tuple #[]) ∧ (BookB w' q aa AN.length ac lat ∧ AttsRow w' base aa ac (AN.set m (x, .slice na x.notes.length nc))) ∧ Kp [82, 164] base base base w w' := by
  obtain ⟨g, hga, hgb, hgl, _⟩ := hr.cells (by omega)
  subst hga
  obtain ⟨x0, x1, x2, x3, x4, x5, x6, xl⟩ := x
  simp only at hth hne ⊢
  subst hth
  obtain ⟨NN, HNN⟩ : ∃ NN, Hid (xl.length = NN) := ⟨_, rfl⟩
  rw [show xl.length = NN from HNN.out]
  obtain ⟨w0, hw0⟩ : ∃ w0, w0 = w.alloc (.cells #[.int .i64 (k : Int), .int .i64 x1, .int .i64 x2, .int .i64 x3, .int .i64 x4, .int .i64 x5, .int .i64 x6, .slice na NN nc] 82) := ⟨_, rfl⟩
  have hB0 : Below w.heap.size w w0 := by rw [hw0]; exact (Below.refl w.heap.size w).alloc (Nat.le_refl _) _
  have hT0 : Blk w0 w.heap.size 82 #[.int .i64 (k : Int), .int .i64 x1, .int .i64 x2, .int .i64 x3, .int .i64 x4, .int .i64 x5, .int .i64 x6, .slice na NN nc] := by rw [hw0]; exact Blk.new w 82 _
  have hb0 : Blk w0 q 164 (.slice (some ⟨g, 0, none⟩) AN.length ac :: lat.map (.int .i64 ·)).toArray := hB.1.below hB0 hB.1.lt
  have hqc : w0.cell? ⟨q, 0, none⟩ = some (.slice (some ⟨g, 0, none⟩) AN.length ac) := by rw [hb0.cell]; rfl
  have hqk : w0.cell? ⟨q, 1 + k, none⟩ = some (.int .i64 (m : Int)) := by
    rw [hb0.cell, Nat.add_comm, ← hlat]
    have := hB.2
    simp [List.getElem?_eq_getElem (show k < lat.length by omega), List.getD]
  have htc := hT0.cell
  have hk0 : (0 : Int) ≤ (k : Int) := by omega
  have hk4 : (k : Int) < 4 := by omega
  have hm0 : (0 : Int) ≤ (m : Int) := by omega
  have hm1 : (m : Int) < (AN.length : Int) := by omega
  have hnb : (x2 == num) = false := by rw [beq_eq_false_iff_ne]; exact hne
  have HR0 : Hid (w0.ownsRow base 82 8 (.slice (some ⟨g, 0, none⟩) AN.length ac) AN.length (AN.flatMap avCells)) := ownsRow_below hr hB0
  obtain ⟨z, hz⟩ : ∃ z, AN[m]? = some z := ⟨_, List.getElem?_eq_getElem hm⟩
  obtain ⟨g', hg', _, c0, c1, c2, c3, c4, c5, c6, c7⟩ := AttsRow.at (show AttsRow w0 base (some ⟨g, 0, none⟩) ac AN from HR0.out) m z hz
  cases hg'
  obtain ⟨⟨z0, z1, z2, z3, z4, z5, z6, zl⟩, zv⟩ := z
  simp only at c0 c1 c2 c3 c4 c5 c6 c7
  have hgf : ∀ i, w0.frozen? ⟨g, i, none⟩ = false := own_frozen HR0.out
  have hgt : g ≠ w.heap.size := by omega
  have hgq : g ≠ q := own_tag HR0.out hb0 (by decide) g rfl
  go_enter Tryz.func107, Tryz.ntmps107
  go_upto_region 1 with fail
  rw [← hw0]
  have HB0 : Hid (Below w.heap.size w w0) := hB0
  have Hb0 : Hid (Blk w0 q 164 (.slice (some ⟨g, 0, none⟩) AN.length ac :: lat.map (.int .i64 ·)).toArray) := hb0
  have HQ4 : Hid (lat.length = 4) := hB.2
  have HM : Hid (m < AN.length) := hm
  have hbs0 : base ≤ w0.heap.size := Nat.le_trans hbs (HB0.out).size
  clear hw0 hB0 hT0 hb0 hr hB hlat hne hm hz
  go_wp2_with fail
  go_still_tail 13, (by kernel_rfl)
  go_wp2
  go_end0
  have HM8 : Hid (m * 8 + 7 < AN.length * 8) := by show _ < _; have := HM.out; omega
  have hm8 := HM8.out
  obtain ⟨X, hX⟩ : ∃ X, X = AN.flatMap avCells := ⟨_, rfl⟩
  have hr0 : w0.ownsRow base 82 8 (.slice (some ⟨g, 0, none⟩) AN.length ac) AN.length X := by rw [hX]; exact HR0.out
  have hr8 := World.ownsRow.drew (own_set (own_set (own_set (own_set (own_set (own_set (own_set (own_set hr0 (i := m * 8) (by omega) (.int .i64 (k : Int))) (i := m * 8 + 1) (by omega) (.int .i64 x1)) (i := m * 8 + 2) (by omega) (.int .i64 x2)) (i := m * 8 + 3) (by omega) (.int .i64 x3)) (i := m * 8 + 4) (by omega) (.int .i64 x4)) (i := m * 8 + 5) (by omega) (.int .i64 x5)) (i := m * 8 + 6) (by omega) (.int .i64 x6)) (i := m * 8 + 7) (by omega) (.slice na NN nc))
  have hO : Only g w0 ((((((((w0.setCell ⟨g, m * 8, none⟩ (.int .i64 (k : Int))).setCell ⟨g, m * 8 + 1, none⟩ (.int .i64 x1)).setCell ⟨g, m * 8 + 2, none⟩ (.int .i64 x2)).setCell ⟨g, m * 8 + 3, none⟩ (.int .i64 x3)).setCell ⟨g, m * 8 + 4, none⟩ (.int .i64 x4)).setCell ⟨g, m * 8 + 5, none⟩ (.int .i64 x5)).setCell ⟨g, m * 8 + 6, none⟩ (.int .i64 x6)).setCell ⟨g, m * 8 + 7, none⟩ (.slice na NN nc)).drew := (((((((((Only.refl g w0).set).set).set).set).set).set).set).set).drew
  obtain ⟨gc, gcap, gcur, gv, gb, gg, _⟩ := own_block HR0.out (by have := HM.out; omega)
  injection gv with gv1
  cases gv1
  have K1 : Kp [82, 164] base base base w w0 := Kp.below HB0.out hbs
  have K2 := Kp.only (chg := [82, 164]) (B := base) (p := base) (eb := base) hO hbs0 gg (by simp) (Or.inr (Or.inr hgb))
  refine ⟨rfl, ⟨⟨(Hb0.out).only hO (Ne.symm hgq), HQ4.out⟩, ?_⟩, K1.trans K2⟩
  show World.ownsRow _ _ _ _ _ _ _
  rw [List.length_set, av_set AN m HM.out, ← hX]
  exact hr8

end Go.Proofs.YtejadojilncbjabGreat

namespace Go.Proofs.YtejadojilncbjabGreat
open Go.RowKit
set_option linter.unusedVariables false
attribute [local go_sem ↓] Go.wp_at_zero Go.wp_at_succ

theorem Tryz.info138 : (Tryz.prog.info? 138).map (fun i => (i.zero, i.size, i.bytes)) = some (some (.agg zc), 47, 472) := by kernel_rfl

theorem fold_set : ∀ (l : List Value) (j : Nat) (a : Array Value), j + l.length = a.size → (l.zipIdx j).foldl (fun cs x => cs.setIfInBounds x.snd x.fst) a = (a.toList.take j ++ l).toArray
  | [], j, a, h => by
    have : j = a.size := by simpa using h
    subst this
    rw [List.take_of_length_le (by simp)]
    simp
  | v :: l, j, a, h => by
    rw [List.zipIdx_cons, List.foldl_cons, fold_set l (j + 1) (a.setIfInBounds j v) (by simp at h ⊢; omega)]
    congr 1
    have hj : j < a.toList.length := by simp at h ⊢; omega
    rw [Array.toList_setIfInBounds, List.take_set, List.take_add_one, List.getElem?_eq_getElem hj]
    simp only [Option.toList]
    rw [List.set_append_right _ _ (by simp; omega)]
    simp [Nat.min_eq_left (Nat.le_of_lt (by simpa using hj))]

/-- What begin leaves: the threads and the cells at their beginning. -/
def BegunIs (c : Cfg) (mem : List Int) (jobs : List (Int × List InsD)) (w : World) (e : Ending) (w' : World) : Prop :=
  ∃ (nb p cap tcap : Nat) (q : List (PT × Ls)) (Ds : List Int) (X : List Value), e = .returned (.agg #[.slice (some ⟨nb, 0, none⟩) Ds.length cap, .slice (some ⟨p, 0, none⟩) q.length tcap, .int .i64 0]) ∧
    (∀ w2 cb, Below w'.heap.size w' w2 → Blk w2 cb 125 #[.slice (some ⟨nb, 0, none⟩) Ds.length cap, .slice (some ⟨p, 0, none⟩) q.length tcap, .int .i64 0] → w.heap.size ≤ cb → WR w.heap.size p nb cb cap tcap 0 X w2 q Ds) ∧ SimW c jobs 0 (gStart c mem jobs) q Ds ∧ Below w.heap.size w w'

theorem bi_below {wb k tcap : Nat} {ta : Option Addr} {xs : List Value} {w wr w5 w6 w7 : World} (hB : Below w.heap.size w wr) (hb5 : Below wr.heap.size wr w5) (hb6 : Below w5.heap.size w5 w6) (hthr : wr.ownsRow w.heap.size 138 47 (.slice ta k tcap) k xs) (hgr : w6.grownBy w7 (Value.slice ta k tcap).ownBlock) (hwb : w.heap.size ≤ wb) (v : Value) :
    Below w.heap.size w (w7.setCell ⟨wb, 1, none⟩ v) := by
  have h1 : Below w.heap.size w w6 := (hB.trans (hb5.mono hB.size)).trans (hb6.mono (Nat.le_trans hB.size hb5.size))
  have hs : w.heap.size ≤ w6.heap.size := h1.size
  refine below_onto (w' := w7) ⟨hgr.os.trans h1.os, hgr.tape.trans h1.tape, hgr.output.trans h1.output, Nat.le_trans h1.size hgr.size, fun q hq => ?_⟩ ((Only.refl _ _).set) hwb (by have := hgr.size; omega)
  rw [hgr.block q (by omega) (fun e => by have := (hthr.lt q e.symm).1; omega)]
  exact h1.block q hq

theorem begun_of {c : Cfg} {mem : List Int} {jobs : List (Int × List InsD)} {w wr w' : World} {base nb wb sb r2 tcap tn : Nat} {S : Array Value} {Ds : List Int} {ta : Option Addr} {q : List (PT × Ls)} (hc : cfgB c = true) (hmw : (mem.length : Int) = c.wd) (hmb : memB mem = true) (hjl : jobs.length ≤ 8)
    (hbase : (base : Int) = 3 + 2 * c.s + c.t) (htn : (tn : Int) = c.t) (ht1 : 1 ≤ tn) (hDs : Ds = List.replicate base (0 : Int) ++ mem) (I : BI w.heap.size nb wb sb r2 Ds.length Ds.length S c jobs Ds ta tcap tn q wr) (HB : Below w.heap.size w wr) (ho : Only r2 wr w') (hr : w.heap.size ≤ r2) :
    BegunIs c mem jobs w (.returned (.agg #[.slice (some ⟨nb, 0, none⟩) Ds.length Ds.length, .slice ta tn tcap, .int .i64 0])) w' := by
  obtain ⟨g, cap, cur, hv, hbg, hgb, h1, h2, h3, h4⟩ := own_block I.thr ht1
  obtain ⟨rfl, rfl⟩ : ta = some ⟨g, 0, none⟩ ∧ tcap = cap := by injection hv with a b c; exact ⟨a, c⟩
  have hql := I.ql
  have hg2 : Blk w' g 138 cur := hgb.only ho (Blk.ne hgb I.res (by decide))
  have hn2 : Blk w' nb 3 (Ds.map (Value.int .i64 ·)).toArray := I.num.only ho (Blk.ne I.num I.res (by decide))
  have hrows : ∀ i (h : i < q.length), RowsOk w.heap.size w' q[i].1 q[i].2 := fun i h => (I.rows i h).kept (fun k o => ho.block k ((I.rows i h).own k o).2 (fun e => Own_tag (I.rows i h) I.res (by decide) (by decide) (by decide) (by decide) (by decide) (e ▸ o)))
  refine ⟨nb, g, Ds.length, tcap, q, Ds, cur.toList.drop (tn * 47), by rw [hql], ?_, ?_, below_onto HB ho hr HB.size⟩
  · intro w2 cb hb hcb hle
    have hbs : w.heap.size ≤ w2.heap.size := Nat.le_trans HB.size (Nat.le_trans ho.size hb.size)
    refine ⟨?_, fun i h => (hrows i h).kept (fun k o => hb.block k ((hrows i h).own k o).2), I.dis, hn2.below hb hn2.lt, I.nown, hcb, hbg, I.nbb, hle, hbs⟩
    refine (hg2.below hb hg2.lt).congr ?_
    rw [← h4, List.take_append_drop]
  · have hd : ∀ i (h : i < q.length), q[i].1 = tInit c jobs i := I.init
    refine ⟨by rw [hql]; exact htn, ?_, ?_, fun i h => by rw [hd i h]; exact init_sim c jobs i, fun i h => by rw [hd i h]; exact init_own c jobs i hjl, gstart_ok hc hmw hmb jobs⟩
    · rw [hDs, total_eq]
      simp
      omega
    · intro x hx
      show Ds.getD x 0 = startVal c mem x
      unfold startVal wordBase
      rw [hDs] at hx ⊢
      by_cases hxb : x < base
      · rw [if_neg (by omega)]
        simp [List.getD_eq_getElem?_getD, List.getElem?_append_left, hxb]
      · rw [if_pos (by omega)]
        have e : ((x : Int) - (3 + 2 * c.s + c.t)).toNat = x - base := by omega
        rw [e]
        simp [List.getD_eq_getElem?_getD, List.getElem?_append_right, Nat.le_of_not_lt hxb]

end Go.Proofs.YtejadojilncbjabGreat

namespace Go.Proofs.YtejadojilncbjabGreat
open Go.RowKit
set_option linter.unusedVariables false
attribute [local go_sem ↓] Go.wp_at_zero Go.wp_at_succ

set_option maxRecDepth 100000 in
set_option maxHeartbeats 8000000 in
theorem begin_any (c : Cfg) (hc : cfgB c = true) (mem : List Int) (hmw : (mem.length : Int) = c.wd) (hmb : memB mem = true) (jobs : List (Int × List InsD)) (hjl : jobs.length ≤ 8) (ma ja : Option Addr) (mc jc : Nat) (w : World) (hm : Ints w w.heap.size ma mem) (hj : JobsRep w w.heap.size ja jobs) :
    Calls Tryz.prog 104 #[.agg #[.int .i64 c.t, .int .i64 c.wd, .int .i64 c.s, .int .i64 c.g, .int .i64 c.r, .int .i64 c.cp, .int .i64 c.f, .slice ma mem.length mc, .slice ja jobs.length jc]] w (BegunIs c mem jobs w) := by
  obtain ⟨⟨t1, t2⟩, ⟨w1, w2⟩, ⟨s1, s2⟩, _⟩ := cfgB_true hc
  have HC : Hid (cfgB c = true ∧ (mem.length : Int) = c.wd ∧ memB mem = true) := ⟨hc, hmw, hmb⟩
  have HM : Hid (Ints w w.heap.size ma mem) := hm
  have HJ : Hid (JobsRep w w.heap.size ja jobs) := hj
  obtain ⟨base, hbase⟩ : ∃ base : Nat, (base : Int) = 3 + 2 * c.s + c.t := ⟨(3 + 2 * c.s + c.t).toNat, by omega⟩
  obtain ⟨tn, htn⟩ : ∃ tn : Nat, (tn : Int) = c.t := ⟨c.t.toNat, by omega⟩
  have hB0 : Below w.heap.size w ((w.alloc (.cells #[.int .i64 c.t, .int .i64 c.wd, .int .i64 c.s, .int .i64 c.g, .int .i64 c.r, .int .i64 c.cp, .int .i64 c.f, .slice ma mem.length mc, .slice ja jobs.length jc] 27)).alloc (.cells #[.slice none 0 0, .slice none 0 0, .int .i64 0] 125)) := ((Below.refl _ _).alloc (Nat.le_refl _) _).alloc (by simp) _
  have HS0 : Hid (Blk ((w.alloc (.cells #[.int .i64 c.t, .int .i64 c.wd, .int .i64 c.s, .int .i64 c.g, .int .i64 c.r, .int .i64 c.cp, .int .i64 c.f, .slice ma mem.length mc, .slice ja jobs.length jc] 27)).alloc (.cells #[.slice none 0 0, .slice none 0 0, .int .i64 0] 125)) w.heap.size 27 #[.int .i64 c.t, .int .i64 c.wd, .int .i64 c.s, .int .i64 c.g, .int .i64 c.r, .int .i64 c.cp, .int .i64 c.f, .slice ma mem.length mc, .slice ja jobs.length jc]) := (Blk.new w 27 _).alloc _
  have HR0 : Hid (Blk ((w.alloc (.cells #[.int .i64 c.t, .int .i64 c.wd, .int .i64 c.s, .int .i64 c.g, .int .i64 c.r, .int .i64 c.cp, .int .i64 c.f, .slice ma mem.length mc, .slice ja jobs.length jc] 27)).alloc (.cells #[.slice none 0 0, .slice none 0 0, .int .i64 0] 125)) (w.heap.size + 1) 125 #[.slice none 0 0, .slice none 0 0, .int .i64 0]) := by
    have := Blk.new (w.alloc (.cells #[.int .i64 c.t, .int .i64 c.wd, .int .i64 c.s, .int .i64 c.g, .int .i64 c.r, .int .i64 c.cp, .int .i64 c.f, .slice ma mem.length mc, .slice ja jobs.length jc] 27)) 125 #[.slice none 0 0, .slice none 0 0, .int .i64 0]
    show Blk _ _ _ _
    simpa using this
  have HB0 : Hid (Below w.heap.size w ((w.alloc (.cells #[.int .i64 c.t, .int .i64 c.wd, .int .i64 c.s, .int .i64 c.g, .int .i64 c.r, .int .i64 c.cp, .int .i64 c.f, .slice ma mem.length mc, .slice ja jobs.length jc] 27)).alloc (.cells #[.slice none 0 0, .slice none 0 0, .int .i64 0] 125))) := hB0
  have hs0 : ((w.alloc (.cells #[.int .i64 c.t, .int .i64 c.wd, .int .i64 c.s, .int .i64 c.g, .int .i64 c.r, .int .i64 c.cp, .int .i64 c.f, .slice ma mem.length mc, .slice ja jobs.length jc] 27)).alloc (.cells #[.slice none 0 0, .slice none 0 0, .int .i64 0] 125)).heap.size = w.heap.size + 2 := by simp
  clear hm hj hB0 hc hmw hmb
  go_enter Tryz.func104, Tryz.ntmps104
  go_wp2_with fail
  obtain ⟨sb, hsb⟩ : ∃ sb, sb = w.heap.size := ⟨_, rfl⟩
  rw [← hsb] at HS0 HR0 ⊢
  have HSb : Hid (sb = w.heap.size) := hsb
  generalize (w.alloc (.cells #[.int .i64 c.t, .int .i64 c.wd, .int .i64 c.s, .int .i64 c.g, .int .i64 c.r, .int .i64 c.cp, .int .i64 c.f, .slice ma mem.length mc, .slice ja jobs.length jc] 27)).alloc (.cells #[.slice none 0 0, .slice none 0 0, .int .i64 0] 125) = w0 at *
  have HN : Hid (Calls Tryz.prog 120 #[.agg #[.int .i64 c.t, .int .i64 c.wd, .int .i64 c.s, .int .i64 c.g, .int .i64 c.r, .int .i64 c.cp, .int .i64 c.f], .slice ma mem.length mc] w0 (NewIs base mem w0)) := by
    obtain ⟨hc, hmw, hmb⟩ := HC.out
    exact newCells_any c base ma mc mem w0 hbase (by omega) (by omega) (by omega) (by omega) (by omega) (by omega) ((HM.out).up HB0.out)
  clear hsb
  refine (HN.out).mono ?_
  rintro e w2' ⟨nb, rfl, hn2, hb2, hnb⟩
  obtain ⟨Ds, hDs⟩ : ∃ Ds : List Int, Ds = List.replicate base (0 : Int) ++ mem := ⟨_, rfl⟩
  have hDl : Ds.length = base + mem.length := by rw [hDs]; simp
  rw [← hDs] at hn2
  rw [← hDl]
  have HDl : Hid (Ds.length = base + mem.length) := hDl
  clear hDl
  have HS2 : Hid (Blk w2' sb 27 #[.int .i64 c.t, .int .i64 c.wd, .int .i64 c.s, .int .i64 c.g, .int .i64 c.r, .int .i64 c.cp, .int .i64 c.f, .slice ma mem.length mc, .slice ja jobs.length jc]) := (HS0.out).below hb2 (HS0.out).lt
  have HR2 : Hid (Blk w2' (sb + 1) 125 #[.slice none 0 0, .slice none 0 0, .int .i64 0]) := (HR0.out).below hb2 (HR0.out).lt
  have HN2 : Hid (Blk w2' nb 3 (Ds.map (Value.int .i64 ·)).toArray) := hn2
  have HB2 : Hid (Below w.heap.size w w2') := (HB0.out).trans (hb2.mono (by omega))
  have HNb : Hid (w.heap.size + 2 ≤ nb) := by show _ ≤ _; omega
  have HDs : Hid (Ds = List.replicate base (0 : Int) ++ mem) := hDs
  have hs2 : w.heap.size + 2 ≤ w2'.heap.size := by have := hb2.size; omega
  have m0 := (HS2.out).cell
  have hsl : sb < w2'.heap.size := (HS2.out).lt
  clear HS0 HR0 HB0 HN hn2 hb2 hnb hDs hs0
  go_upto_region 2 with fail
  obtain ⟨wb, hwb⟩ : ∃ wb, wb = w2'.heap.size := ⟨_, rfl⟩
  have hB3 : Below w2'.heap.size w2' (w2'.alloc (.cells #[.slice (some ⟨nb, 0, none⟩) Ds.length Ds.length, .slice none 0 0, .int .i64 0] 125)) := (Below.refl _ _).alloc (Nat.le_refl _) _
  have HI3 : Hid (BI w.heap.size nb wb sb (sb + 1) Ds.length Ds.length #[.int .i64 c.t, .int .i64 c.wd, .int .i64 c.s, .int .i64 c.g, .int .i64 c.r, .int .i64 c.cp, .int .i64 c.f, .slice ma mem.length mc, .slice ja jobs.length jc] c jobs Ds none 0 0 [] (w2'.alloc (.cells #[.slice (some ⟨nb, 0, none⟩) Ds.length Ds.length, .slice none 0 0, .int .i64 0] 125))) := by
    refine ⟨(HS2.out).below hB3 (HS2.out).lt, (HR2.out).below hB3 (HR2.out).lt, by rw [hwb]; exact Blk.new w2' 125 _, (HN2.out).below hB3 (HN2.out).lt, World.ownsRow_nil _ _ _ _, rfl, fun i h => by simp at h, fun i j h => by simp at h, fun i h => by simp at h, fun i h => by simp at h, by have := HNb.out; omega, by have := HSb.out; omega⟩
  have HB3 : Hid (Below w.heap.size w (w2'.alloc (.cells #[.slice (some ⟨nb, 0, none⟩) Ds.length Ds.length, .slice none 0 0, .int .i64 0] 125))) := (HB2.out).trans (hB3.mono (by omega))
  have HWb : Hid (w.heap.size ≤ wb) := by show _ ≤ _; omega
  rw [← hwb]
  clear HS2 HR2 HN2 HB2 hB3 hwb hs2 m0 hsl
  generalize w2'.alloc (.cells #[.slice (some ⟨nb, 0, none⟩) Ds.length Ds.length, .slice none 0 0, .int .i64 0] 125) = w3 at *
  obtain ⟨iz, hiz, hz0, hz1, hz2⟩ := info_parts Tryz.info138
  go_wp2_with fail
  go_loopg [4] (tn + 1) (fun m t4 wr => ∃ (k : Nat) (ta : Option Addr) (tcap : Nat) (q : List (PT × Ls)), t4 = .int .i64 (k : Int) ∧ k ≤ tn ∧ m = tn + 1 - k ∧ Hid (BI w.heap.size nb wb sb (sb + 1) Ds.length Ds.length #[.int .i64 c.t, .int .i64 c.wd, .int .i64 c.s, .int .i64 c.g, .int .i64 c.r, .int .i64 c.cp, .int .i64 c.f, .slice ma mem.length mc, .slice ja jobs.length jc] c jobs Ds ta tcap k q wr) ∧ Hid (Below w.heap.size w wr))
  case atStart => exact ⟨0, none, 0, [], rfl, by omega, by omega, HI3, HB3⟩
  case round =>
    obtain ⟨k, ta, tcap, q, rfl, hk, hgk, HI, HB⟩ := hrel
    clear HI3 HB3
    have m0 := (HI.out).setup.cell
    have m1 := (HI.out).wst.cell
    by_cases hlt : k < tn
    · have hlt' : (k : Int) < c.t := by omega
      have hwk : IntKind.i64.wrap ((k : Int) + 1) = (k : Int) + 1 := wrapP _ (by omega) (by omega)
      have HNw : Hid (∀ W, (∃ m, W = wr.drewN m) → Calls Tryz.prog 121 #[.agg #[.int .i64 c.t, .int .i64 c.wd, .int .i64 c.s, .int .i64 c.g, .int .i64 c.r, .int .i64 c.cp, .int .i64 c.f], .int .i64 (k : Int), .slice ja jobs.length jc] W fun e w' =>
          ∃ ma mc, e = .returned (.agg (tArr (tInit c jobs k) (L0 ma mc)).toArray) ∧ w'.ownsRow W.heap.size 3 1 (.slice ma (mineF k 0 jobs).length mc) (mineF k 0 jobs).length (intCells (mineF k 0 jobs)) ∧ Below W.heap.size W w') := fun W hW => by
        obtain ⟨m, rfl⟩ := hW
        exact new_any c k jobs ja jc (wr.drewN m) (((HJ.out).up HB.out).mono (HB.out).size) hjl
      have hwbl : wb < wr.heap.size := (HI.out).wst.lt
      have hpne : (Value.slice ta k tcap).ownBlock ≠ some wb := fun q => own_tag (HI.out).thr (HI.out).wst (by decide) wb q rfl
      have hbs : w.heap.size ≤ wr.heap.size := (HB.out).size
      have hk4 : k ≤ 4 := by omega
      go_wp2_with fail
      go_region_law
        (first
          | (go_simp; go_at_call 121; refine (HNw.out _ ⟨1, rfl⟩).mono ?_; rintro e w5 ⟨ma5, mc5, rfl, hm5, hb5⟩;
             have HI5 : Hid (BI w.heap.size nb wb sb (sb + 1) Ds.length Ds.length #[.int .i64 c.t, .int .i64 c.wd, .int .i64 c.s, .int .i64 c.g, .int .i64 c.r, .int .i64 c.cp, .int .i64 c.f, .slice ma mem.length mc, .slice ja jobs.length jc] c jobs Ds ta tcap k q w5) := (HI.out).below ((below_drew wr).trans hb5);
             have HM5 : Hid (w5.ownsRow wr.heap.size 3 1 (.slice ma5 (mineF k 0 jobs).length mc5) (mineF k 0 jobs).length (intCells (mineF k 0 jobs)) ∧ Below wr.heap.size wr w5) := ⟨hm5, (below_drew wr).trans hb5⟩;
             have n1 := (HI5.out).wst.cell; have hwb5 : wb < w5.heap.size := (HI5.out).wst.lt; have hwb6 : wb ≠ w5.heap.size := (by omega); have hbs5 : w.heap.size ≤ w5.heap.size := Nat.le_trans hbs hb5.size;
             obtain ⟨T, hT⟩ : ∃ T, T = tArr (tInit c jobs k) (L0 ma5 mc5) := ⟨_, rfl⟩; have HT : Hid (T = tArr (tInit c jobs k) (L0 ma5 mc5) ∧ T.length = 47 ∧ ∀ u ∈ T, u.oneCell' = true) := ⟨hT, by rw [hT]; rfl, by rw [hT]; unfold tInit yBegin yLoad; split <;> simp [tArr, t0, L0, Value.oneCell']⟩; rw [← hT]; have hTl : T.length = 47 := (HT.out).2.1; have hfold : List.foldl (fun cs x => cs.setIfInBounds x.snd x.fst) #[.int .i64 0, .int .i64 0, .int .i64 0, .int .i64 0, .int .i64 0, .int .i64 0, .int .i64 0, .int .i64 0, .slice none 0 0, .int .i64 0, .slice none 0 0, .int .i64 0, .int .i64 0, .int .i64 0, .int .i64 0, .int .i64 0, .int .i64 0, .int .i64 0, .int .i64 0, .int .i64 0, .int .i64 0, .int .i64 0, .int .i64 0, .int .i64 0, .int .i64 0, .int .i64 0, .slice none 0 0, .int .i64 0, .int .i64 0, .int .i64 0, .int .i64 0, .int .i64 0, .int .i64 0, .int .i64 0, .int .i64 0, .int .i64 0, .int .i64 0, .int .i64 0, .slice none 0 0, .slice none 0 0, .slice none 0 0, .int .i64 0, .int .i64 0, .int .i64 0, .int .i64 0, .int .i64 0, .int .i64 0] T.zipIdx = T.toArray := (by have := fold_set T 0 #[.int .i64 0, .int .i64 0, .int .i64 0, .int .i64 0, .int .i64 0, .int .i64 0, .int .i64 0, .int .i64 0, .slice none 0 0, .int .i64 0, .slice none 0 0, .int .i64 0, .int .i64 0, .int .i64 0, .int .i64 0, .int .i64 0, .int .i64 0, .int .i64 0, .int .i64 0, .int .i64 0, .int .i64 0, .int .i64 0, .int .i64 0, .int .i64 0, .int .i64 0, .int .i64 0, .slice none 0 0, .int .i64 0, .int .i64 0, .int .i64 0, .int .i64 0, .int .i64 0, .int .i64 0, .int .i64 0, .int .i64 0, .int .i64 0, .int .i64 0, .int .i64 0, .slice none 0 0, .slice none 0 0, .slice none 0 0, .int .i64 0, .int .i64 0, .int .i64 0, .int .i64 0, .int .i64 0, .int .i64 0] (by rw [hTl]; rfl); simpa using this); clear hm5 hb5 hT)
          | (refine step_append_lies _ (by rfl) _ _ _ (by rfl) w.heap.size 138 iz _ 47 472 Tryz.underlying123 hiz hz0 hz1 hz2 rfl (by omega) (.slice ta k tcap) k (rowsOf q).flatten (by rfl) (World.ownsRow.alloc (by exact (HI5.out).thr) _)
              ⟨w5.heap.size, 0, none⟩ 1 1 T (by rfl) (by rw [(HT.out).2.1]) (World.news_of_block (cs := T.toArray) (t := 138) (fr := (0, 0)) (by exact heap_alloc_new w5 _)) (HT.out).2.2
              (by omega) (by unfold maxLen; omega) (by omega) (by simp; omega) (w5.heap.size + 1) (by simp) ?_; intro gg cap7 w7 hown1 hgrow hat hlt7;
             have hd8 : w7.cell? ⟨wb, 1, none⟩ = some (.slice ta k tcap) := (by rw [hgrow.cell_far _ (by simp; omega) (Ne.symm hpne)]; exact ((HI5.out).below ((Below.refl _ _).alloc (Nat.le_refl _) _)).wst.cell 1);
             have he8 : w7.frozen? ⟨wb, 1, none⟩ = false := (by rw [hgrow.frozen_far _ (by simp; omega) (Ne.symm hpne)]; exact ((HI5.out).below ((Below.refl _ _).alloc (Nat.le_refl _) _)).wst.frozen 1)))
      all_goals
        have HI8 : Hid (BI w.heap.size nb wb sb (sb + 1) Ds.length Ds.length #[.int .i64 c.t, .int .i64 c.wd, .int .i64 c.s, .int .i64 c.g, .int .i64 c.r, .int .i64 c.cp, .int .i64 c.f, .slice ma mem.length mc, .slice ja jobs.length jc] c jobs Ds (some ⟨gg, 0, none⟩) cap7 (k + 1) (q ++ [(tInit c jobs k, L0 ma5 mc5)]) (w7.setCell ⟨wb, 1, none⟩ (.slice (some ⟨gg, 0, none⟩) (k + 1) cap7))) :=
          BI.add HI.out (HM5.out).2 (HM5.out).1 hbs ((Below.refl _ _).alloc (Nat.le_refl _) _) hgrow ((HT.out).1 ▸ hown1)
        have HB8 : Hid (Below w.heap.size w (w7.setCell ⟨wb, 1, none⟩ (.slice (some ⟨gg, 0, none⟩) (k + 1) cap7))) :=
          bi_below HB.out (HM5.out).2 ((Below.refl _ _).alloc (Nat.le_refl _) _) (HI.out).thr hgrow HWb.out _
        clear HI HB HI5 HM5 HT HNw hown1 hgrow hat hlt7 hd8 he8 hfold hTl n1 m0 m1 hwb5 hwb6 hbs5 hwbl hpne hbs
        generalize w7.setCell ⟨wb, 1, none⟩ (.slice (some ⟨gg, 0, none⟩) (k + 1) cap7) = w8 at *
        go_wp2_with fail
        go_roundg (gk - 1)
        case rel => exact ⟨k + 1, some ⟨gg, 0, none⟩, cap7, q ++ [(tInit c jobs k, L0 ma5 mc5)], by simp, by omega, by omega, HI8, HB8⟩
        case measure => omega
    · have hkj : k = tn := by omega
      subst hkj
      have hlt2 : ¬ ((k : Int) < c.t) := by omega
      have m2 := (HI.out).res.cell
      have hf2 := (HI.out).res.frozen
      have hl2 : sb + 1 < wr.heap.size := (HI.out).res.lt
      have hwr : wb ≠ sb + 1 := (HI.out).sne
      have HRs : Hid (Blk wr (sb + 1) 125 #[.slice none 0 0, .slice none 0 0, .int .i64 0]) := (HI.out).res
      go_wp2_with fail
      obtain ⟨hc, hmw, hmb⟩ := HC.out
      have hsb : w.heap.size ≤ sb + 1 := by have := HSb.out; omega
      refine bodyPost_ret (v := .agg #[.slice (some ⟨nb, 0, none⟩) Ds.length Ds.length, .slice ta k tcap, .int .i64 0]) ?_ rfl (begun_of hc hmw hmb hjl hbase htn (by omega) HDs.out HI.out HB.out ((((Only.refl _ _).set).set).set) hsb)
      have hb : Blk (((wr.setCell ⟨sb + 1, 0, none⟩ (.slice (some ⟨nb, 0, none⟩) Ds.length Ds.length)).setCell ⟨sb + 1, 1, none⟩ (.slice ta k tcap)).setCell ⟨sb + 1, 2, none⟩ (.int .i64 0)) (sb + 1) 125 #[.slice (some ⟨nb, 0, none⟩) Ds.length Ds.length, .slice ta k tcap, .int .i64 0] := ((HRs.out).set.set.set).congr (by simp)
      generalize ((wr.setCell ⟨sb + 1, 0, none⟩ (.slice (some ⟨nb, 0, none⟩) Ds.length Ds.length)).setCell ⟨sb + 1, 1, none⟩ (.slice ta k tcap)).setCell ⟨sb + 1, 2, none⟩ (.int .i64 0) = w9 at *
      have h9 := hb.cell
      clear HI HB HRs m0 m1 m2 hf2
      simp [results, Tryz.results104, go_sem, h9]

end Go.Proofs.YtejadojilncbjabGreat
