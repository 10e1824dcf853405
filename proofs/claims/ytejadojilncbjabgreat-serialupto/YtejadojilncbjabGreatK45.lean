import Derived.Test.YtejadojilncbjabGreatK40
import Derived.Test.YtejadojilncbjabGreatK22
import Derived.Test.YtejadojilncbjabGreatK31
import Derived.Test.YtejadojilncbjabGreatK15
namespace Go.Proofs.YtejadojilncbjabGreat
open Go.RowKit
set_option linter.unusedVariables false
attribute [local go_sem ↓] Go.wp_at_zero Go.wp_at_succ
def BookB (w : World) (q : Nat) (aa : Option Addr) (n ac : Nat) (lat : List Int) : Prop := Blk w q 164 (.slice aa n ac :: lat.map (.int .i64 ·)).toArray ∧ lat.length = 4
set_option maxRecDepth 100000 in
set_option maxHeartbeats 1000000 in
theorem enter_new {base q : Nat} {aa : Option Addr} {ac : Nat} {lat : List Int} {AN : List (AttD × Value)} {w : World} (hB : BookB w q aa AN.length ac lat) (hr : AttsRow w base aa ac AN) (hbs : base ≤ w.heap.size) (hq : base ≤ q) (hnl : AN.length ≤ 2 ^ 38)
  (x : AttD) (na : Option Addr) (nc : Nat) (k : Nat) (hk : k < 4) (hth : x.thread = (k : Int)) :
  Calls Tryz.prog 107 #[.pointer (some ⟨q, 0, none⟩), .agg #[.int .i64 x.thread, .int .i64 x.job, .int .i64 x.start, .int .i64 x.fin, .int .i64 x.valid, .int .i64 x.stamp, .int .i64 x.fate, .slice na x.notes.length nc], .int .i64 x.start] w fun e w' =>
   e = .returned (.tuple #[]) ∧ (∃ (a' : Option Addr) (c' : Nat), BookB w' q a' (AN.length + 1) c' (lat.set k AN.length) ∧ AttsRow w' base a' c' (AN ++ [(x, .slice na x.notes.length nc)])) ∧ Kp [82, 164] base base base w w' := by
 obtain ⟨iA, hiA, hzA0, hzA1, hzA2⟩ := info_parts Tryz.info82
 obtain ⟨x0, x1, x2, x3, x4, x5, x6, xl⟩ := x
 simp only at hth ⊢
 subst hth
 obtain ⟨NN, HNN⟩ : ∃ NN, Hid (xl.length = NN) := ⟨_, rfl⟩
 rw [show xl.length = NN from HNN.out]
 obtain ⟨w0, hw0⟩ : ∃ w0, w0 = w.alloc (.cells #[.int .i64 (k : Int), .int .i64 x1, .int .i64 x2, .int .i64 x3, .int .i64 x4, .int .i64 x5, .int .i64 x6, .slice na NN nc] 82) := ⟨_, rfl⟩
 have hB0 : Below w.heap.size w w0 := by rw [hw0]; exact (Below.refl w.heap.size w).alloc (Nat.le_refl _) _
 have hT0 : Blk w0 w.heap.size 82 #[.int .i64 (k : Int), .int .i64 x1, .int .i64 x2, .int .i64 x3, .int .i64 x4, .int .i64 x5, .int .i64 x6, .slice na NN nc] := by rw [hw0]; exact Blk.new w 82 _
 have hb0 : Blk w0 q 164 (.slice aa AN.length ac :: lat.map (.int .i64 ·)).toArray := hB.1.below hB0 hB.1.lt
 have hqc : w0.cell? ⟨q, 0, none⟩ = some (.slice aa AN.length ac) := by rw [hb0.cell]; rfl
 have hqk : w0.cell? ⟨q, 1 + k, none⟩ = some (.int .i64 (lat.getD k 0)) := by
  rw [hb0.cell, Nat.add_comm]
  have := hB.2
  simp [List.getElem?_eq_getElem (show k < lat.length by omega), List.getD]
 have hqf := hb0.frozen
 have htc := hT0.cell
 have hk0 : (0 : Int) ≤ (k : Int) := by omega
 have hk4 : (k : Int) < 4 := by omega
 go_enter Tryz.func107, Tryz.ntmps107
 go_upto_region 1 with fail
 rw [← hw0]
 have HT0 : Hid (Blk w0 w.heap.size 82 #[.int .i64 (k : Int), .int .i64 x1, .int .i64 x2, .int .i64 x3, .int .i64 x4, .int .i64 x5, .int .i64 x6, .slice na NN nc]) := hT0
 have HB0 : Hid (Below w.heap.size w w0) := hB0
 have Hb0 : Hid (Blk w0 q 164 (.slice aa AN.length ac :: lat.map (.int .i64 ·)).toArray) := hb0
 clear hw0 hB0 hT0 hb0
 have HR0 : Hid (w0.ownsRow base 82 8 (.slice aa AN.length ac) AN.length (AN.flatMap avCells)) := ownsRow_below hr HB0.out
 have hqt : q ≠ w.heap.size := by have := hB.1.lt; omega
 have hqlt : q < w0.heap.size := (Hb0.out).lt
 have HQ4 : Hid (lat.length = 4) := hB.2
 have hbs0 : base ≤ w0.heap.size := Nat.le_trans hbs (HB0.out).size
 clear hr hB
 go_wp2_with fail
 go_still_tail 11, (by kernel_rfl)
 go_wp2_with fail
 obtain ⟨w1, hw1⟩ : ∃ w1, w1 = (w0.setCell ⟨q, 1 + k, none⟩ (.int .i64 (AN.length : Int))).drew := ⟨_, rfl⟩
 have hO1 : Only q w0 w1 := by rw [hw1]; exact ((Only.refl q w0).set).drew
 have HO1 : Hid (Only q w0 w1) := hO1
 have hb1 : Blk w1 q 164 (.slice aa AN.length ac :: (lat.set k (AN.length : Int)).map (.int .i64 ·)).toArray := by
  rw [hw1]
  have h := ((Hb0.out).set (i := 1 + k) (v := .int .i64 (AN.length : Int))).congr (ds := (.slice aa AN.length ac :: (lat.set k (AN.length : Int)).map (.int .i64 ·)).toArray) (by
      rw [Nat.add_comm 1 k]
      simp [List.map_set])
  exact h
 have Hb1 : Hid (Blk w1 q 164 (.slice aa AN.length ac :: (lat.set k (AN.length : Int)).map (.int .i64 ·)).toArray) := hb1
 have hT1 : Blk w1 w.heap.size 82 #[.int .i64 (k : Int), .int .i64 x1, .int .i64 x2, .int .i64 x3, .int .i64 x4, .int .i64 x5, .int .i64 x6, .slice na NN nc] := (HT0.out).only hO1 (Ne.symm hqt)
 have htc1 := hT1.cell
 have hq0 : w1.cell? ⟨q, 0, none⟩ = some (.slice aa AN.length ac) := by rw [hb1.cell]; rfl
 have hqf0 : w1.frozen? ⟨q, 0, none⟩ = false := hb1.frozen 0
 have HR1 : Hid (w1.ownsRow base 82 8 (.slice aa AN.length ac) AN.length (AN.flatMap avCells)) := ownsRow_only HR0.out hO1 (own_tag HR0.out Hb0.out (by decide))
 have hpne : (Value.slice aa AN.length ac).ownBlock ≠ some q := fun e => own_tag HR1.out Hb1.out (by decide) q e rfl
 have hq1 : q < w1.heap.size := hb1.lt
 have hbs1 : base ≤ w1.heap.size := Nat.le_trans hbs0 hO1.size
 rw [← hw1]
 clear hw1 hO1 hb1 hT1 htc hqc hqk hqf HR0
 go_region_law
  ((refine step_append_lies _ (by rfl) _ _ _ (by rfl) base 82 iA _ 8 80 Tryz.underlying29 hiA hzA0 hzA1 hzA2 rfl (by omega) (.slice aa AN.length ac) AN.length (AN.flatMap avCells) (by rfl) (((HR1.out).alloc _).drew)
          ⟨w1.heap.size, 0, none⟩ 1 1 [.int .i64 (k : Int), .int .i64 x1, .int .i64 x2, .int .i64 x3, .int .i64 x4, .int .i64 x5, .int .i64 x6, .slice na NN nc] (by rfl) (by rfl) (World.news_of_block (cs := #[.int .i64 (k : Int), .int .i64 x1, .int .i64 x2, .int .i64 x3, .int .i64 x4, .int .i64 x5, .int .i64 x6, .slice na NN nc]) (t := 82) (fr := (0, 0)) (heap_alloc_new w1 _)) (by simp [Value.oneCell'])
          (by omega) (by unfold maxLen; omega) (by omega) (by simp; omega) (w1.heap.size + 1) (by simp) ?_; intro gg cap w7 hown1 hgrow hat hlt7;
          have hd8 : w7.cell? ⟨q, 0, none⟩ = some (.slice aa AN.length ac) := (by rw [hgrow.cell_far _ (by simp; omega) (Ne.symm hpne)]; simpa [World.cell?_alloc_lt, hq1] using hq0);
          have he8 : w7.frozen? ⟨q, 0, none⟩ = false := (by rw [hgrow.frozen_far _ (by simp; omega) (Ne.symm hpne)]; simpa [World.frozen?_alloc_past, hq1] using hqf0)))
 all_goals
  go_wp2
  refine bodyPost_ret (v := .tuple #[]) (by first | rfl | simp [results, Tryz.results107, go_sem]) rfl ?_
  have K1 : Kp [82, 164] base base base w w0 := Kp.below HB0.out hbs
  have K2 : Kp [82, 164] base base base w0 w1 := Kp.only HO1.out hbs0 Hb0.out (by simp) (Or.inr (Or.inr hq))
  have K3 : Kp [82] base base base w1 w7 := (Kp.below (((Below.refl _ _).alloc (Nat.le_refl _) _).drew) hbs1).trans (Kp.grown hgrow (by simp; omega) (((HR1.out).alloc _).drew) (by simp))
  have hb7 : Blk w7 q 164 (.slice aa AN.length ac :: (lat.set k (AN.length : Int)).map (.int .i64 ·)).toArray := (Hb1.out).keep K3 (by decide)
  have hO8 : Only q w7 (w7.setCell ⟨q, 0, none⟩ (.slice (some ⟨gg, 0, none⟩) (AN.length + 1) cap)) := (Only.refl q w7).set
  have K4 : Kp [82, 164] base base base w7 (w7.setCell ⟨q, 0, none⟩ (.slice (some ⟨gg, 0, none⟩) (AN.length + 1) cap)) := Kp.only hO8 (Nat.le_trans hbs1 K3.size) hb7 (by simp) (Or.inr (Or.inr hq))
  refine ⟨rfl, ⟨some ⟨gg, 0, none⟩, cap, ⟨(hb7.set (i := 0) (v := .slice (some ⟨gg, 0, none⟩) (AN.length + 1) cap)).congr (by simp), by rw [List.length_set]; exact HQ4.out⟩, ?_⟩, ((K1.trans K2).trans (K3.wide (by simp))).trans K4⟩
  have h9 := ownsRow_only hown1 hO8 (own_tag hown1 hb7 (by decide))
  unfold AttsRow
  rw [List.length_append, List.flatMap_append]
  exact h9
theorem av_set (l : List (AttD × Value)) (k : Nat) (hk : k < l.length) (q : AttD × Value) : (l.set k q).flatMap avCells = ((((((((l.flatMap avCells).set (k * 8) (.int .i64 q.1.thread)).set (k * 8 + 1) (.int .i64 q.1.job)).set (k * 8 + 2) (.int .i64 q.1.start)).set (k * 8 + 3) (.int .i64 q.1.fin)).set (k * 8 + 4) (.int .i64 q.1.valid)).set (k * 8 + 5) (.int .i64 q.1.stamp)).set (k * 8 + 6) (.int .i64 q.1.fate)).set (k * 8 + 7) q.2 := by
 have hl := av_len l
 apply List.ext_getElem?
 intro j
 obtain ⟨i, s, hs, rfl⟩ : ∃ i s, s < 8 ∧ j = i * 8 + s := ⟨j / 8, j % 8, by omega, by omega⟩
 rw [flat_at (f := avCells) (n := 8) (fun _ => rfl) _ i s hs]
 simp only [List.getElem?_set, List.length_set, hl]
 by_cases hi : i = k
 ·subst hi
  rw [if_pos rfl, if_pos hk]
  have : s = 0 ∨ s = 1 ∨ s = 2 ∨ s = 3 ∨ s = 4 ∨ s = 5 ∨ s = 6 ∨ s = 7 := by omega
  rcases this with rfl | rfl | rfl | rfl | rfl | rfl | rfl | rfl
  ·rw [if_neg (by omega), if_neg (by omega), if_neg (by omega), if_neg (by omega), if_neg (by omega), if_neg (by omega), if_neg (by omega), if_pos (by omega), if_pos (by omega)]; rfl
  ·rw [if_neg (by omega), if_neg (by omega), if_neg (by omega), if_neg (by omega), if_neg (by omega), if_neg (by omega), if_pos (by omega), if_pos (by omega)]; rfl
  ·rw [if_neg (by omega), if_neg (by omega), if_neg (by omega), if_neg (by omega), if_neg (by omega), if_pos (by omega), if_pos (by omega)]; rfl
  ·rw [if_neg (by omega), if_neg (by omega), if_neg (by omega), if_neg (by omega), if_pos (by omega), if_pos (by omega)]; rfl
  ·rw [if_neg (by omega), if_neg (by omega), if_neg (by omega), if_pos (by omega), if_pos (by omega)]; rfl
  ·rw [if_neg (by omega), if_neg (by omega), if_pos (by omega), if_pos (by omega)]; rfl
  ·rw [if_neg (by omega), if_pos (by omega), if_pos (by omega)]; rfl
  ·rw [if_pos (by omega), if_pos (by omega)]; rfl
 ·rw [if_neg (fun e => hi e.symm), if_neg (by omega), if_neg (by omega), if_neg (by omega), if_neg (by omega), if_neg (by omega), if_neg (by omega), if_neg (by omega), if_neg (by omega), flat_at (f := avCells) (n := 8) (fun _ => rfl) _ i s hs]
set_option maxRecDepth 100000 in
set_option maxHeartbeats 400000 in
theorem enter_old {base q : Nat} {aa : Option Addr} {ac : Nat} {lat : List Int} {AN : List (AttD × Value)} {w : World} (hB : BookB w q aa AN.length ac lat) (hr : AttsRow w base aa ac AN) (hbs : base ≤ w.heap.size) (hq : base ≤ q)
  (x : AttD) (na : Option Addr) (nc : Nat) (num : Int) (k m : Nat) (hk : k < 4) (hth : x.thread = (k : Int)) (hne : x.start ≠ num) (hlat : lat.getD k 0 = (m : Int)) (hm : m < AN.length) :
  Calls Tryz.prog 107 #[.pointer (some ⟨q, 0, none⟩), .agg #[.int .i64 x.thread, .int .i64 x.job, .int .i64 x.start, .int .i64 x.fin, .int .i64 x.valid, .int .i64 x.stamp, .int .i64 x.fate, .slice na x.notes.length nc], .int .i64 num] w fun e w' =>
   e = .returned (.tuple #[]) ∧ (BookB w' q aa AN.length ac lat ∧ AttsRow w' base aa ac (AN.set m (x, .slice na x.notes.length nc))) ∧ Kp [82, 164] base base base w w' := by
 obtain ⟨g, hga, hgb, hgl, _⟩ := hr.cells (by omega)
 subst hga
 obtain ⟨x0, x1, x2, x3, x4, x5, x6, xl⟩ := x
 simp only at hth hne ⊢
 subst hth
 obtain ⟨NN, HNN⟩ : ∃ NN, Hid (xl.length = NN) := ⟨_, rfl⟩
 rw [show xl.length = NN from HNN.out]
 obtain ⟨w0, hw0⟩ : ∃ w0, w0 = w.alloc (.cells #[.int .i64 (k : Int), .int .i64 x1, .int .i64 x2, .int .i64 x3, .int .i64 x4, .int .i64 x5, .int .i64 x6, .slice na NN nc] 82) := ⟨_, rfl⟩
 have hB0 : Below w.heap.size w w0 := by rw [hw0]; exact (Below.refl w.heap.size w).alloc (Nat.le_refl _) _
 have hT0 : Blk w0 w.heap.size 82 #[.int .i64 (k : Int), .int .i64 x1, .int .i64 x2, .int .i64 x3, .int .i64 x4, .int .i64 x5, .int .i64 x6, .slice na NN nc] := by rw [hw0]; exact Blk.new w 82 _
 have hb0 : Blk w0 q 164 (.slice (some ⟨g, 0, none⟩) AN.length ac :: lat.map (.int .i64 ·)).toArray := hB.1.below hB0 hB.1.lt
 have hqc : w0.cell? ⟨q, 0, none⟩ = some (.slice (some ⟨g, 0, none⟩) AN.length ac) := by rw [hb0.cell]; rfl
 have hqk : w0.cell? ⟨q, 1 + k, none⟩ = some (.int .i64 (m : Int)) := by
  rw [hb0.cell, Nat.add_comm, ← hlat]
  have := hB.2
  simp [List.getElem?_eq_getElem (show k < lat.length by omega), List.getD]
 have htc := hT0.cell
 have hk0 : (0 : Int) ≤ (k : Int) := by omega
 have hk4 : (k : Int) < 4 := by omega
 have hm0 : (0 : Int) ≤ (m : Int) := by omega
 have hm1 : (m : Int) < (AN.length : Int) := by omega
 have hnb : (x2 == num) = false := by rw [beq_eq_false_iff_ne]; exact hne
 have HR0 : Hid (w0.ownsRow base 82 8 (.slice (some ⟨g, 0, none⟩) AN.length ac) AN.length (AN.flatMap avCells)) := ownsRow_below hr hB0
 obtain ⟨z, hz⟩ : ∃ z, AN[m]? = some z := ⟨_, List.getElem?_eq_getElem hm⟩
 obtain ⟨g', hg', _, c0, c1, c2, c3, c4, c5, c6, c7⟩ := AttsRow.at (show AttsRow w0 base (some ⟨g, 0, none⟩) ac AN from HR0.out) m z hz
 cases hg'
 obtain ⟨⟨z0, z1, z2, z3, z4, z5, z6, zl⟩, zv⟩ := z
 simp only at c0 c1 c2 c3 c4 c5 c6 c7
 have hgf : ∀ i, w0.frozen? ⟨g, i, none⟩ = false := own_frozen HR0.out
 have hgt : g ≠ w.heap.size := by omega
 have hgq : g ≠ q := own_tag HR0.out hb0 (by decide) g rfl
 go_enter Tryz.func107, Tryz.ntmps107
 go_upto_region 1 with fail
 rw [← hw0]
 have HB0 : Hid (Below w.heap.size w w0) := hB0
 have Hb0 : Hid (Blk w0 q 164 (.slice (some ⟨g, 0, none⟩) AN.length ac :: lat.map (.int .i64 ·)).toArray) := hb0
 have HQ4 : Hid (lat.length = 4) := hB.2
 have HM : Hid (m < AN.length) := hm
 have hbs0 : base ≤ w0.heap.size := Nat.le_trans hbs (HB0.out).size
 clear hw0 hB0 hT0 hb0 hr hB hlat hne hm hz
 go_wp2_with fail
 go_still_tail 13, (by kernel_rfl)
 go_wp2
 go_end0
 have HM8 : Hid (m * 8 + 7 < AN.length * 8) := by show _ < _; have := HM.out; omega
 have hm8 := HM8.out
 obtain ⟨X, hX⟩ : ∃ X, X = AN.flatMap avCells := ⟨_, rfl⟩
 have hr0 : w0.ownsRow base 82 8 (.slice (some ⟨g, 0, none⟩) AN.length ac) AN.length X := by rw [hX]; exact HR0.out
 have hr8 := World.ownsRow.drew (own_set (own_set (own_set (own_set (own_set (own_set (own_set (own_set hr0 (i := m * 8) (by omega) (.int .i64 (k : Int))) (i := m * 8 + 1) (by omega) (.int .i64 x1)) (i := m * 8 + 2) (by omega) (.int .i64 x2)) (i := m * 8 + 3) (by omega) (.int .i64 x3)) (i := m * 8 + 4) (by omega) (.int .i64 x4)) (i := m * 8 + 5) (by omega) (.int .i64 x5)) (i := m * 8 + 6) (by omega) (.int .i64 x6)) (i := m * 8 + 7) (by omega) (.slice na NN nc))
 have hO : Only g w0 ((((((((w0.setCell ⟨g, m * 8, none⟩ (.int .i64 (k : Int))).setCell ⟨g, m * 8 + 1, none⟩ (.int .i64 x1)).setCell ⟨g, m * 8 + 2, none⟩ (.int .i64 x2)).setCell ⟨g, m * 8 + 3, none⟩ (.int .i64 x3)).setCell ⟨g, m * 8 + 4, none⟩ (.int .i64 x4)).setCell ⟨g, m * 8 + 5, none⟩ (.int .i64 x5)).setCell ⟨g, m * 8 + 6, none⟩ (.int .i64 x6)).setCell ⟨g, m * 8 + 7, none⟩ (.slice na NN nc)).drew := (((((((((Only.refl g w0).set).set).set).set).set).set).set).set).drew
 obtain ⟨gc, gcap, gcur, gv, gb, gg, _⟩ := own_block HR0.out (by have := HM.out; omega)
 injection gv with gv1
 cases gv1
 have K1 : Kp [82, 164] base base base w w0 := Kp.below HB0.out hbs
 have K2 := Kp.only (chg := [82, 164]) (B := base) (p := base) (eb := base) hO hbs0 gg (by simp) (Or.inr (Or.inr hgb))
 refine ⟨rfl, ⟨⟨(Hb0.out).only hO (Ne.symm hgq), HQ4.out⟩, ?_⟩, K1.trans K2⟩
 show World.ownsRow _ _ _ _ _ _ _
 rw [List.length_set, av_set AN m HM.out, ← hX]
 exact hr8
def bubP : List (AttD × Value) → List (AttD × Value)
 | [] => []
 | [x] => [x]
 | x :: y :: r => if Sooner x.1 y.1 then y :: bubP (x :: r) else x :: bubP (y :: r)
termination_by l => l.length
def ordP : List (AttD × Value) → List (AttD × Value)
 | [] => []
 | x :: r => bubP (x :: ordP r)
theorem bubP_fst : ∀ (n : Nat) (l : List (AttD × Value)), l.length ≤ n → (bubP l).map (·.1) = bub (l.map (·.1))
 | 0, l, h => by
  have : l = [] := List.length_eq_zero_iff.1 (by omega)
  subst this
  simp [bub, bubP]
 | n + 1, l, h => by
  match l with
  | [] => simp [bub, bubP]
  | [x] => simp [bub, bubP]
  | x :: y :: r =>
   have h1 := bubP_fst n (x :: r) (by simp at h ⊢; omega)
   have h2 := bubP_fst n (y :: r) (by simp at h ⊢; omega)
   simp only [List.map_cons] at h1 h2 ⊢
   unfold bubP bub
   split
   ·simp only [List.map_cons, h1]
   ·simp only [List.map_cons, h2]
theorem ordP_fst : ∀ l : List (AttD × Value), (ordP l).map (·.1) = ordR (l.map (·.1))
 | [] => rfl
 | x :: r => by
  unfold ordP
  rw [bubP_fst _ _ (Nat.le_refl _), List.map_cons, ordP_fst r]
  rfl
theorem bubP_mem : ∀ (n : Nat) (l : List (AttD × Value)), l.length ≤ n → ∀ a, a ∈ bubP l ↔ a ∈ l
 | 0, l, h, a => by
  have : l = [] := List.length_eq_zero_iff.1 (by omega)
  subst this
  simp [bubP]
 | n + 1, l, h, a => by
  match l with
  | [] => simp [bubP]
  | [x] => simp [bubP]
  | x :: y :: r =>
   have h1 := bubP_mem n (x :: r) (by simp at h ⊢; omega) a
   have h2 := bubP_mem n (y :: r) (by simp at h ⊢; omega) a
   unfold bubP
   split
   ·rw [List.mem_cons, h1]
    simp only [List.mem_cons]
    constructor
    ·rintro (h | h | h)
     ·exact Or.inr (Or.inl h)
     ·exact Or.inl h
     ·exact Or.inr (Or.inr h)
    ·rintro (h | h | h)
     ·exact Or.inr (Or.inl h)
     ·exact Or.inl h
     ·exact Or.inr (Or.inr h)
   ·rw [List.mem_cons, h2]
    simp only [List.mem_cons]
theorem ordP_mem (a : AttD × Value) : ∀ l : List (AttD × Value), a ∈ ordP l ↔ a ∈ l
 | [] => Iff.rfl
 | x :: r => by
  unfold ordP
  rw [bubP_mem _ _ (Nat.le_refl _), List.mem_cons, ordP_mem a r, List.mem_cons]
theorem bubP_len : ∀ (n : Nat) (l : List (AttD × Value)), l.length ≤ n → (bubP l).length = l.length
 | 0, l, h => by
  have : l = [] := List.length_eq_zero_iff.1 (by omega)
  subst this
  simp [bubP]
 | n + 1, l, h => by
  match l with
  | [] => simp [bubP]
  | [x] => simp [bubP]
  | x :: y :: r =>
   have h1 := bubP_len n (x :: r) (by simp at h ⊢; omega)
   have h2 := bubP_len n (y :: r) (by simp at h ⊢; omega)
   unfold bubP
   split
   ·simp [h1]
   ·simp [h2]
theorem ordP_len : ∀ l : List (AttD × Value), (ordP l).length = l.length
 | [] => rfl
 | x :: r => by
  unfold ordP
  rw [bubP_len _ _ (Nat.le_refl _), List.length_cons, ordP_len r, List.length_cons]
def Pass (C : List (AttD × Value)) (k : Nat) (G : List (AttD × Value)) : Prop := ∃ dn rest, C.reverse = dn ++ rest ∧ rest.length = k + 1 ∧ dn ++ bubP rest = G
theorem Pass.start (C : List (AttD × Value)) (hC : C ≠ []) : Pass C (C.length - 1) (bubP C.reverse) :=
 ⟨[], C.reverse, rfl, by have := List.length_pos_iff.2 hC; simp; omega, rfl⟩
theorem Pass.done {C G : List (AttD × Value)} (h : Pass C 0 G) : C.reverse = G := by
 obtain ⟨dn, rest, h1, h2, h3⟩ := h
 match rest, h2 with
 | [x], _ => rw [h1, ← h3]; simp [bubP]
theorem Pass.step {C G : List (AttD × Value)} {k : Nat} (h : Pass C (k + 1) G) : ∃ x y, C[k + 1]? = some x ∧ C[k]? = some y ∧ (Sooner x.1 y.1 → Pass ((C.set (k + 1) y).set k x) k G) ∧ (¬ Sooner x.1 y.1 → Pass C k G) := by
 obtain ⟨dn, rest, h1, h2, h3⟩ := h
 match rest, h2 with
 | x :: y :: l, h2 =>
  have hl : l.length = k := by simpa using h2
  have hC : C = l.reverse ++ (y :: x :: dn.reverse) := by
   have := congrArg List.reverse h1
   rw [List.reverse_reverse] at this
   rw [this]
   simp
  have hlr : l.reverse.length = k := by simpa using hl
  refine ⟨x, y, ?_, ?_, fun hs => ?_, fun hs => ?_⟩
  ·rw [hC, List.getElem?_append_right (by omega), hlr]
   simp
  ·rw [hC, List.getElem?_append_right (by omega), hlr]
   simp
  ·refine ⟨dn ++ [y], x :: l, ?_, by simp [hl], ?_⟩
   ·have e : (C.set (k + 1) y).set k x = l.reverse ++ (x :: y :: dn.reverse) := by
     rw [hC, List.set_append_right _ _ (by omega), List.set_append_right _ _ (by omega), hlr]
     simp
    rw [e]
    simp
   ·unfold bubP at h3
    rw [if_pos hs] at h3
    rw [← h3]
    simp
  ·refine ⟨dn ++ [x], y :: l, ?_, by simp [hl], ?_⟩
   ·rw [h1]
    simp
   ·unfold bubP at h3
    rw [if_neg hs] at h3
    rw [← h3]
    simp
set_option maxHeartbeats 1000000 in
theorem sooner_any (x y : AttD × Value) (w : World) : Calls Tryz.prog 36 #[.agg #[.int .i64 x.1.thread, .int .i64 x.1.job, .int .i64 x.1.start, .int .i64 x.1.fin, .int .i64 x.1.valid, .int .i64 x.1.stamp, .int .i64 x.1.fate, x.2], .agg #[.int .i64 y.1.thread, .int .i64 y.1.job, .int .i64 y.1.start, .int .i64 y.1.fin, .int .i64 y.1.valid, .int .i64 y.1.stamp, .int .i64 y.1.fate, y.2]] w fun e w' =>
  e = .returned (.bool (decide (Sooner x.1 y.1))) ∧ Below w.heap.size w w' := by
 obtain ⟨⟨a0, a1, a2, a3, a4, a5, a6, al⟩, av⟩ := x
 obtain ⟨⟨b0, b1, b2, b3, b4, b5, b6, bl⟩, bv⟩ := y
 simp only
 obtain ⟨sb, hsb⟩ : ∃ sb, sb = decide (Sooner ⟨a0, a1, a2, a3, a4, a5, a6, al⟩ ⟨b0, b1, b2, b3, b4, b5, b6, bl⟩) := ⟨_, rfl⟩
 have HS : Hid (sb = decide (Sooner ⟨a0, a1, a2, a3, a4, a5, a6, al⟩ ⟨b0, b1, b2, b3, b4, b5, b6, bl⟩)) := hsb
 rw [← hsb]
 obtain ⟨w0, hw0⟩ : ∃ w0, w0 = (w.alloc (.cells #[.int .i64 a0, .int .i64 a1, .int .i64 a2, .int .i64 a3, .int .i64 a4, .int .i64 a5, .int .i64 a6, av] 82)).alloc (.cells #[.int .i64 b0, .int .i64 b1, .int .i64 b2, .int .i64 b3, .int .i64 b4, .int .i64 b5, .int .i64 b6, bv] 82) := ⟨_, rfl⟩
 have HB : Hid (Below w.heap.size w w0) := by rw [hw0]; exact ((Below.refl w.heap.size w).alloc (Nat.le_refl _) _).alloc (by simp) _
 have hA : Blk w0 w.heap.size 82 #[.int .i64 a0, .int .i64 a1, .int .i64 a2, .int .i64 a3, .int .i64 a4, .int .i64 a5, .int .i64 a6, av] := by rw [hw0]; exact (Blk.new w 82 _).alloc _
 have hB : Blk w0 (w.heap.size + 1) 82 #[.int .i64 b0, .int .i64 b1, .int .i64 b2, .int .i64 b3, .int .i64 b4, .int .i64 b5, .int .i64 b6, bv] := by
  rw [hw0]
  have := Blk.new (w.alloc (.cells #[.int .i64 a0, .int .i64 a1, .int .i64 a2, .int .i64 a3, .int .i64 a4, .int .i64 a5, .int .i64 a6, av] 82)) 82 #[.int .i64 b0, .int .i64 b1, .int .i64 b2, .int .i64 b3, .int .i64 b4, .int .i64 b5, .int .i64 b6, bv]
  exact (by simpa using this : Blk _ _ _ _)
 have hcA := hA.cell
 have hcB := hB.cell
 clear hsb hA hB
 go_enter Tryz.func36, Tryz.ntmps36
 go_upto_region 1 with fail
 rw [← hw0]
 clear hw0
 by_cases h1 : a5 > 0 <;> by_cases h2 : b5 > 0
 ·by_cases h3 : a5 < b5
  ·go_wp2
   go_ret
   exact ⟨by rw [show sb = true from by rw [HS.out]; simp [Sooner, plA, plB]; omega]; simp, HB.out⟩
  ·by_cases h4 : a5 = b5
   ·have h4b : (a5 == b5) = true := by simp [h4]
    go_wp2
    go_ret
    exact ⟨by rw [show sb = false from by rw [HS.out]; simp [Sooner, plA, plB]; omega]; simp, HB.out⟩
   ·have h4b : (a5 == b5) = false := by simp [h4]
    go_wp2
    go_ret
    exact ⟨by rw [show sb = false from by rw [HS.out]; simp [Sooner, plA, plB]; omega]; simp, HB.out⟩
 ·by_cases h3 : a5 < b4
  ·go_wp2
   go_ret
   exact ⟨by rw [show sb = true from by rw [HS.out]; simp [Sooner, plA, plB]; omega]; simp, HB.out⟩
  ·by_cases h4 : a5 = b4
   ·have h4b : (a5 == b4) = true := by simp [h4]
    go_wp2
    go_ret
    exact ⟨by rw [show sb = true from by rw [HS.out]; simp [Sooner, plA, plB]; omega]; simp, HB.out⟩
   ·have h4b : (a5 == b4) = false := by simp [h4]
    go_wp2
    go_ret
    exact ⟨by rw [show sb = false from by rw [HS.out]; simp [Sooner, plA, plB]; omega]; simp, HB.out⟩
 ·by_cases h3 : a4 < b5
  ·go_wp2
   go_ret
   exact ⟨by rw [show sb = true from by rw [HS.out]; simp [Sooner, plA, plB]; omega]; simp, HB.out⟩
  ·by_cases h4 : a4 = b5
   ·have h4b : (a4 == b5) = true := by simp [h4]
    go_wp2
    go_ret
    exact ⟨by rw [show sb = false from by rw [HS.out]; simp [Sooner, plA, plB]; omega]; simp, HB.out⟩
   ·have h4b : (a4 == b5) = false := by simp [h4]
    go_wp2
    go_ret
    exact ⟨by rw [show sb = false from by rw [HS.out]; simp [Sooner, plA, plB]; omega]; simp, HB.out⟩
 ·by_cases h3 : a4 < b4
  ·go_wp2
   go_ret
   exact ⟨by rw [show sb = true from by rw [HS.out]; simp [Sooner, plA, plB]; omega]; simp, HB.out⟩
  ·by_cases h4 : a4 = b4
   ·have h4b : (a4 == b4) = true := by simp [h4]
    go_wp2
    go_ret
    exact ⟨by rw [show sb = false from by rw [HS.out]; simp [Sooner, plA, plB]; omega]; simp, HB.out⟩
   ·have h4b : (a4 == b4) = false := by simp [h4]
    go_wp2
    go_ret
    exact ⟨by rw [show sb = false from by rw [HS.out]; simp [Sooner, plA, plB]; omega]; simp, HB.out⟩
end Go.Proofs.YtejadojilncbjabGreat
