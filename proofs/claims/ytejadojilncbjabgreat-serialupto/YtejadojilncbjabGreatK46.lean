import Derived.Test.YtejadojilncbjabGreatK45
import Derived.Test.YtejadojilncbjabGreatK31
import Derived.Test.YtejadojilncbjabGreatK35
import Derived.Test.YtejadojilncbjabGreatK08
import Derived.Test.YtejadojilncbjabGreatRows
import Derived.ShutString
import Derived.ChangeOld
import Derived.JoinedCond
import Derived.Laws.OwnMore
import Derived.Test.YtejadojilncbjabGreatK10
namespace Go.Proofs.YtejadojilncbjabGreat
open Go.RowKit
set_option linter.unusedVariables false
attribute [local go_sem ↓] Go.wp_at_zero Go.wp_at_succ
theorem att_store {w : World} {base g oc : Nat} {C : List (AttD × Value)} (h : AttsRow w base (some ⟨g, 0, none⟩) oc C) (m : Nat) (hm : m < C.length) (x : AttD × Value) :
  AttsRow ((((((((w.setCell ⟨g, m * 8, none⟩ (.int .i64 x.1.thread)).setCell ⟨g, m * 8 + 1, none⟩ (.int .i64 x.1.job)).setCell ⟨g, m * 8 + 2, none⟩ (.int .i64 x.1.start)).setCell ⟨g, m * 8 + 3, none⟩ (.int .i64 x.1.fin)).setCell ⟨g, m * 8 + 4, none⟩ (.int .i64 x.1.valid)).setCell ⟨g, m * 8 + 5, none⟩ (.int .i64 x.1.stamp)).setCell ⟨g, m * 8 + 6, none⟩ (.int .i64 x.1.fate)).setCell ⟨g, m * 8 + 7, none⟩ x.2) base (some ⟨g, 0, none⟩) oc (C.set m x) ∧
   Only g w ((((((((w.setCell ⟨g, m * 8, none⟩ (.int .i64 x.1.thread)).setCell ⟨g, m * 8 + 1, none⟩ (.int .i64 x.1.job)).setCell ⟨g, m * 8 + 2, none⟩ (.int .i64 x.1.start)).setCell ⟨g, m * 8 + 3, none⟩ (.int .i64 x.1.fin)).setCell ⟨g, m * 8 + 4, none⟩ (.int .i64 x.1.valid)).setCell ⟨g, m * 8 + 5, none⟩ (.int .i64 x.1.stamp)).setCell ⟨g, m * 8 + 6, none⟩ (.int .i64 x.1.fate)).setCell ⟨g, m * 8 + 7, none⟩ x.2) := by
 have hm8 : m * 8 + 7 < C.length * 8 := by omega
 refine ⟨?_, ((((((((Only.refl g w).set).set).set).set).set).set).set).set⟩
 have h' : w.ownsRow base 82 8 (.slice (some ⟨g, 0, none⟩) C.length oc) C.length (C.flatMap avCells) := h
 have hr8 := own_set (own_set (own_set (own_set (own_set (own_set (own_set (own_set h' (i := m * 8) (by omega) (.int .i64 x.1.thread)) (i := m * 8 + 1) (by omega) (.int .i64 x.1.job)) (i := m * 8 + 2) (by omega) (.int .i64 x.1.start)) (i := m * 8 + 3) (by omega) (.int .i64 x.1.fin)) (i := m * 8 + 4) (by omega) (.int .i64 x.1.valid)) (i := m * 8 + 5) (by omega) (.int .i64 x.1.stamp)) (i := m * 8 + 6) (by omega) (.int .i64 x.1.fate)) (i := m * 8 + 7) (by omega) x.2
 show World.ownsRow _ _ _ _ _ _ _
 rw [List.length_set, av_set C m hm]
 exact hr8
def OrdIs (w : World) (AN : List (AttD × Value)) (e : Ending) (w' : World) : Prop :=
 ∃ (oa : Option Addr) (oc : Nat), e = .returned (.slice oa AN.length oc) ∧ AttsRow w' w.heap.size oa oc (ordP AN.reverse).reverse ∧ Below w.heap.size w w'
set_option maxRecDepth 100000 in
set_option maxHeartbeats 1000000 in
theorem ordered_any (AN : List (AttD × Value)) (la : Option Addr) (lc baseh : Nat) (w : World) (hn : AN.length ≤ 2 ^ 30) (hr : AttsRow w baseh la lc AN) (hno : ∀ q ∈ AN, ∃ a n c, q.2 = Value.slice a n c) :
  Calls Tryz.prog 13 #[.slice la AN.length lc] w (OrdIs w AN) := by
 obtain ⟨iA, hiA, hzA0, hzA1, hzA2⟩ := info_parts Tryz.info82
 have HR : Hid (AttsRow w baseh la lc AN) := hr
 have HNo : Hid (∀ q ∈ AN, ∃ a n c, q.2 = Value.slice a n c) := hno
 have hn' : AN.length ≤ 1073741824 := hn
 clear hr hno hn
 go_enter Tryz.func13, Tryz.ntmps13
 go_wp2_with fail
 go_loopg [3, 4] (AN.length + 1) (fun m t3 t4 wr => ∃ (i : Nat) (oa : Option Addr) (oc : Nat) (C : List (AttD × Value)), t3 = .slice oa i oc ∧ t4 = .int .i64 (i : Int) ∧ i ≤ AN.length ∧ m = AN.length + 1 - i ∧ Hid (C.length = i ∧ C.reverse = ordP (AN.take i).reverse) ∧ Hid (AttsRow wr w.heap.size oa oc C) ∧ Hid (Below w.heap.size w wr))
 case atStart => exact ⟨0, none, 0, [], rfl, rfl, by omega, by omega, ⟨rfl, rfl⟩, World.ownsRow_nil _ _ _ _, Below.refl _ _⟩
 case round =>
  obtain ⟨i, oa, oc, C, rfl, rfl, hi, hgi, HC, HRo, HBx⟩ := hrel
  obtain ⟨wq, hwq⟩ : ∃ wq, wq = wr := ⟨_, rfl⟩
  subst hwq
  have hszq : w.heap.size ≤ wq.heap.size := (HBx.out).size
  by_cases hil : i < AN.length
  ·obtain ⟨x, hx⟩ : ∃ x, AN[i]? = some x := ⟨_, List.getElem?_eq_getElem hil⟩
   obtain ⟨na, nn, nc, hxo⟩ := HNo.out x (List.mem_of_getElem? hx)
   obtain ⟨b, hb, hbl, c0, c1, c2, c3, c4, c5, c6, c7⟩ := AttsRow.at HR.out i x hx
   have hup : ∀ o, wq.cell? ⟨b, o, none⟩ = w.cell? ⟨b, o, none⟩ := fun o => World.cell?_of_block ((HBx.out).block b hbl)
   have d0 := (hup _).trans c0
   have d1 := (hup _).trans c1
   have d2 := (hup _).trans c2
   have d3 := (hup _).trans c3
   have d4 := (hup _).trans c4
   have d5 := (hup _).trans c5
   have d6 := (hup _).trans c6
   have d7 := (hup _).trans c7
   have hi0 : (0 : Int) ≤ (i : Int) := by omega
   have hi1 : (i : Int) < (AN.length : Int) := by omega
   have hwi : IntKind.i64.wrap ((i : Int) + 1) = (i : Int) + 1 := wrapF _ (by omega) (by omega)
   have hws : IntKind.i64.wrap (((i + 1 : Nat) : Int) - 1) = (i : Int) := by rw [show ((i + 1 : Nat) : Int) - 1 = (i : Int) by omega]; exact wrapF _ (by omega) (by omega)
   have HCl : Hid (C.length = i) := (HC.out).1
   obtain ⟨OT, hOT⟩ : ∃ OT, OT = C.flatMap avCells := ⟨_, rfl⟩
   have HOT : Hid (OT = C.flatMap avCells) := hOT
   have HRo2 : Hid (wq.ownsRow w.heap.size 82 8 (.slice oa i oc) i OT) := by
    have h : wq.ownsRow w.heap.size 82 8 (.slice oa C.length oc) C.length (C.flatMap avCells) := HRo.out
    rw [(HC.out).1] at h
    rw [hOT]
    exact h
   have HG : Hid (bubP (C ++ [x]).reverse = ordP (AN.take (i + 1)).reverse) := by
    show _ = _
    have e : (AN.take (i + 1)).reverse = x :: (AN.take i).reverse := by
     rw [List.take_add_one, hx]
     simp
    rw [e]
    unfold ordP
    rw [← (HC.out).2]
    simp
   subst hb
   obtain ⟨⟨a0, a1, a2, a3, a4, a5, a6, al⟩, av⟩ := x
   simp only at d0 d1 d2 d3 d4 d5 d6 d7 hxo
   subst hxo
   clear c0 c1 c2 c3 c4 c5 c6 c7 hup hx hOT HRo
   go_wp2_with
    (at_builtin;
        refine wpList_append_lies _ (by rfl) _ _ _ (by rfl) w.heap.size 82 iA _ 8 80 Tryz.underlying29 hiA hzA0 hzA1 hzA2 rfl (by omega) (.slice oa i oc) i OT (by rfl) ((HRo2.out).alloc _)
         ⟨wq.heap.size, 0, none⟩ 1 1 [.int .i64 a0, .int .i64 a1, .int .i64 a2, .int .i64 a3, .int .i64 a4, .int .i64 a5, .int .i64 a6, .slice na nn nc] (by rfl) (by rfl) (World.news_of_block (cs := #[.int .i64 a0, .int .i64 a1, .int .i64 a2, .int .i64 a3, .int .i64 a4, .int .i64 a5, .int .i64 a6, .slice na nn nc]) (t := 82) (fr := (0, 0)) (heap_alloc_new wq _)) (by simp [Value.oneCell'])
         (by omega) (by unfold maxLen; omega) (by omega) (by simp; omega) (wq.heap.size + 1) (by simp) ?_;
        intro gg cap wz hown1 hgrow hat hlt;
        have HKz : Hid (Kp [82] w.heap.size w.heap.size w.heap.size wq wz) := ((Kp.below ((Below.refl _ _).alloc (Nat.le_refl _) _) hszq).trans (Kp.grown hgrow (by simp; omega) ((HRo2.out).alloc _) (by simp)));
        have HRz : Hid (wz.ownsRow w.heap.size 82 8 (.slice (some ⟨gg, 0, none⟩) (i + 1) cap) (i + 1) (OT ++ [.int .i64 a0, .int .i64 a1, .int .i64 a2, .int .i64 a3, .int .i64 a4, .int .i64 a5, .int .i64 a6, .slice na nn nc])) := hown1;
        clear hown1 hgrow hat hlt)
   obtain ⟨C1, hC1⟩ : ∃ C1, C1 = C ++ [((⟨a0, a1, a2, a3, a4, a5, a6, al⟩ : AttD), Value.slice na nn nc)] := ⟨_, rfl⟩
   have hC1l : C1.length = i + 1 := by rw [hC1, List.length_append, HCl.out]; rfl
   have HA1 : Hid (AttsRow wz w.heap.size (some ⟨gg, 0, none⟩) cap C1) := by
    show World.ownsRow _ _ _ _ _ _ _
    rw [hC1l, hC1, List.flatMap_append, ← show OT = _ from HOT.out]
    exact HRz.out
   have HB1 : Hid (Below w.heap.size w wz) := by
    have hk := HKz.out
    have h := HBx.out
    exact ⟨hk.os.trans h.os, hk.tape.trans h.tape, hk.output.trans h.output, Nat.le_trans h.size hk.size, fun b hb => (hk.low b hb (by omega) (by omega)).trans (h.block b hb)⟩
   obtain ⟨G, hG⟩ : ∃ G, G = ordP (AN.take (i + 1)).reverse := ⟨_, rfl⟩
   have HPs : Hid (C1.length = i + 1 ∧ Pass C1 i G) := by
    refine ⟨hC1l, ?_⟩
    have h := Pass.start C1 (by rw [hC1]; simp)
    rw [hC1l, hC1, HG.out, ← hG, ← hC1] at h
    exact h
   have HGe : Hid (G = ordP (AN.take (i + 1)).reverse) := hG
   have HSl1 : Hid (∀ q ∈ C1, ∃ a n c, q.2 = Value.slice a n c) := fun q hq => by
    rw [hC1] at hq
    rcases List.mem_append.1 hq with hq | hq
    ·have h1 : q ∈ C.reverse := by simpa using hq
     rw [(HC.out).2, ordP_mem] at h1
     exact HNo.out q (List.mem_of_mem_take (by simpa using h1))
    ·simp at hq
     subst hq
     exact ⟨na, nn, nc, rfl⟩
   clear hC1 hC1l HRz HKz HOT HG HC HCl HRo2 d0 d1 d2 d3 d4 d5 d6 d7 HBx hG
   go_wp2_with fail
   go_loopg [5] (i + 1) (fun m t5 wr => ∃ (k : Nat) (D : List (AttD × Value)), t5 = .int .i64 (k : Int) ∧ k ≤ i ∧ m = k + 1 ∧ Hid (D.length = i + 1 ∧ Pass D k G) ∧ Hid (∀ q ∈ D, ∃ a n c, q.2 = Value.slice a n c) ∧ Hid (AttsRow wr w.heap.size (some ⟨gg, 0, none⟩) cap D) ∧ Hid (Below w.heap.size w wr))
   case atStart => exact ⟨i, C1, rfl, by omega, rfl, HPs, HSl1, HA1, HB1⟩
   case round =>
    obtain ⟨k, D, rfl, hk, hgk, HD, HSl, HA, HB⟩ := hrel
    clear HPs HA1 HB1 HSl1
    have hszr : w.heap.size ≤ wr.heap.size := (HB.out).size
    match k, hk, hgk, HD with
    | 0, hk, hgk, HD =>
     have hk2 : ¬ (((0 : Nat) : Int) > 0) := by omega
     have HF : Hid (D.length = i + 1 ∧ D.reverse = ordP (AN.take (i + 1)).reverse) := ⟨(HD.out).1, by rw [← show G = _ from HGe.out]; exact (HD.out).2.done⟩
     clear HD HGe
     go_wp2_with fail
     go_roundg (AN.length + 1 - (i + 1))
     case rel => exact ⟨i + 1, some ⟨gg, 0, none⟩, cap, D, rfl, by simp, by omega, by omega, HF, HA, HB⟩
     case measure => omega
    | p + 1, hk, hgk, HD =>
     obtain ⟨x, y, hx, hy, hs1, hs2⟩ := (HD.out).2.step
     obtain ⟨xa, xn, xc, hxs⟩ := HSl.out x (List.mem_of_getElem? hx)
     obtain ⟨ya, yn, yc, hys⟩ := HSl.out y (List.mem_of_getElem? hy)
     obtain ⟨x1, x2⟩ := x
     obtain ⟨y1, y2⟩ := y
     simp only at hxs hys hs1 hs2
     subst hxs hys
     obtain ⟨b1, hb1, hbl1, c0, c1, c2, c3, c4, c5, c6, c7⟩ := AttsRow.at HA.out (p + 1) (x1, .slice xa xn xc) hx
     obtain ⟨b2, hb2, hbl2, e0, e1, e2, e3, e4, e5, e6, e7⟩ := AttsRow.at HA.out p (y1, .slice ya yn yc) hy
     cases hb1
     cases hb2
     simp only at c0 c1 c2 c3 c4 c5 c6 c7 e0 e1 e2 e3 e4 e5 e6 e7
     obtain ⟨m, hm⟩ : ∃ m, m = p + 1 := ⟨_, rfl⟩
     rw [← hm] at c0 c1 c2 c3 c4 c5 c6 c7
     have hmp : ((p + 1 : Nat) : Int) = (m : Int) := by rw [hm]
     rw [hmp]
     have hm0 : (0 : Int) ≤ (m : Int) := by omega
     have hm1 : (m : Int) < ((i + 1 : Nat) : Int) := by omega
     have hm2 : (m : Int) > 0 := by omega
     have hp0 : (0 : Int) ≤ (p : Int) := by omega
     have hp1 : (p : Int) < ((i + 1 : Nat) : Int) := by omega
     have hsub : IntKind.i64.wrap ((m : Int) - 1) = (p : Int) := by rw [show (m : Int) - 1 = (p : Int) by omega]; exact wrapF _ (by omega) (by omega)
     have HM : Hid (m = p + 1) := hm
     have HS1 : Hid (Sooner x1 y1 → Pass ((D.set m (y1, .slice ya yn yc)).set p (x1, .slice xa xn xc)) p G) := by rw [hm]; exact hs1
     have HS2 : Hid (¬ Sooner x1 y1 → Pass D p G) := hs2
     have HDl : Hid (D.length = i + 1) := (HD.out).1
     have HY : Hid (D[p]? = some (y1, .slice ya yn yc)) := hy
     have hgf : ∀ o, wr.frozen? ⟨gg, o, none⟩ = false := own_frozen HA.out
     clear hs1 hs2 hx hy hm hmp HD
     go_wp2_with fail
     go_cut [6] (fun t wx => t = .bool (decide (Sooner x1 y1)) ∧ Hid (Below wr.heap.size wr wx))
     case first =>
      go_region_with (go_at_call 36; refine (sooner_any (x1, .slice xa xn xc) (y1, .slice ya yn yc) _).mono ?_; rintro e w4 ⟨rfl, hb4⟩)
      all_goals
       go_wp2
       go_meet
       case rel => exact ⟨rfl, by first | assumption | exact of_drew (by assumption)⟩
     case rest =>
      obtain ⟨rfl, HBc⟩ := hcut
      have HAc : Hid (AttsRow wc w.heap.size (some ⟨gg, 0, none⟩) cap D) := ownsRow_below HA.out HBc.out
      have HBw : Hid (Below w.heap.size w wc) := (HB.out).trans ((HBc.out).mono hszr)
      by_cases hs : Sooner x1 y1
      ·have hsb : decide (Sooner x1 y1) = true := by simp [hs]
       have hgl := (HAc.out).lt gg rfl
       have hmD : m < D.length := by rw [HDl.out]; omega
       have hpD : p < D.length := by rw [HDl.out]; omega
       have HPd : Hid (((D.set m (y1, .slice ya yn yc)).set p (x1, .slice xa xn xc)).length = i + 1 ∧ Pass ((D.set m (y1, .slice ya yn yc)).set p (x1, .slice xa xn xc)) p G) := ⟨by rw [List.length_set, List.length_set]; exact HDl.out, HS1.out hs⟩
       have HSl2 : Hid (∀ q ∈ (D.set m (y1, Value.slice ya yn yc)).set p (x1, Value.slice xa xn xc), ∃ a n c, q.2 = Value.slice a n c) := fun q hq => by
        rcases List.mem_or_eq_of_mem_set hq with hq | rfl
        ·rcases List.mem_or_eq_of_mem_set hq with hq | rfl
         ·exact HSl.out q hq
         ·exact ⟨ya, yn, yc, rfl⟩
        ·exact ⟨xa, xn, xc, rfl⟩
       have hup : ∀ o, wc.cell? ⟨gg, o, none⟩ = wr.cell? ⟨gg, o, none⟩ := fun o => World.cell?_of_block ((HBc.out).block gg ((HA.out).lt gg rfl).2)
       have f0 := (hup _).trans c0
       have f1 := (hup _).trans c1
       have f2 := (hup _).trans c2
       have f3 := (hup _).trans c3
       have f4 := (hup _).trans c4
       have f5 := (hup _).trans c5
       have f6 := (hup _).trans c6
       have f7 := (hup _).trans c7
       obtain ⟨wa, hwa⟩ : ∃ wa, wa = wc.alloc (.cells #[.int .i64 x1.thread, .int .i64 x1.job, .int .i64 x1.start, .int .i64 x1.fin, .int .i64 x1.valid, .int .i64 x1.stamp, .int .i64 x1.fate, .slice xa xn xc] 82) := ⟨_, rfl⟩
       obtain ⟨n8, hn8⟩ : ∃ n8, n8 = wc.heap.size := ⟨_, rfl⟩
       have hBa : Below wc.heap.size wc wa := by rw [hwa]; exact (Below.refl _ _).alloc (Nat.le_refl _) _
       have HBk : Hid (Blk wa n8 82 #[.int .i64 x1.thread, .int .i64 x1.job, .int .i64 x1.start, .int .i64 x1.fin, .int .i64 x1.valid, .int .i64 x1.stamp, .int .i64 x1.fate, .slice xa xn xc]) := by rw [hwa, hn8]; exact Blk.new wc 82 _
       have HAa : Hid (AttsRow wa w.heap.size (some ⟨gg, 0, none⟩) cap D) := ownsRow_below HAc.out hBa
       have HBa : Hid (Below w.heap.size w wa) := (HBw.out).trans (hBa.mono (HBw.out).size)
       have hgn : gg ≠ n8 := by omega
       have HL : Hid (m < D.length ∧ p < D.length ∧ w.heap.size ≤ gg) := ⟨hmD, hpD, hgl.1⟩
       rw [hsb]
       clear hsb c0 c1 c2 c3 c4 c5 c6 c7 e0 e1 e2 e3 e4 e5 e6 e7 hgf hup hBa hmD hpD HS1 HS2 hs
       go_upto_region 12 with fail
       rw [← hwa, ← hn8]
       clear hwa hn8 f0 f1 f2 f3 f4 f5 f6 f7 hgl
       obtain ⟨x', hx'⟩ : ∃ x', D[m]? = some x' := ⟨_, List.getElem?_eq_getElem (HL.out).1⟩
       obtain ⟨b1, hb1, hbl1, c0, c1, c2, c3, c4, c5, c6, c7⟩ := AttsRow.at HAa.out m x' hx'
       obtain ⟨b2, hb2, hbl2, e0, e1, e2, e3, e4, e5, e6, e7⟩ := AttsRow.at HAa.out p (y1, .slice ya yn yc) HY.out
       cases hb1
       cases hb2
       simp only at e0 e1 e2 e3 e4 e5 e6 e7
       have hgf : ∀ o, wa.frozen? ⟨gg, o, none⟩ = false := own_frozen HAa.out
       clear hx'
       go_upto_region 13 with fail
       obtain ⟨wb, hwb⟩ : ∃ wb, wb = (((((((wa.setCell ⟨gg, m * 8, none⟩ (.int .i64 y1.thread)).setCell ⟨gg, m * 8 + 1, none⟩ (.int .i64 y1.job)).setCell ⟨gg, m * 8 + 2, none⟩ (.int .i64 y1.start)).setCell ⟨gg, m * 8 + 3, none⟩ (.int .i64 y1.fin)).setCell ⟨gg, m * 8 + 4, none⟩ (.int .i64 y1.valid)).setCell ⟨gg, m * 8 + 5, none⟩ (.int .i64 y1.stamp)).setCell ⟨gg, m * 8 + 6, none⟩ (.int .i64 y1.fate)).setCell ⟨gg, m * 8 + 7, none⟩ (.slice ya yn yc) := ⟨_, rfl⟩
       obtain ⟨hAb, hOb⟩ := att_store HAa.out m (HL.out).1 (y1, .slice ya yn yc)
       rw [← hwb] at hAb hOb ⊢
       have HAb : Hid (AttsRow wb w.heap.size (some ⟨gg, 0, none⟩) cap (D.set m (y1, .slice ya yn yc))) := hAb
       have HBb : Hid (Below w.heap.size w wb) := below_onto HBa.out hOb (HL.out).2.2 (HBa.out).size
       have HBkb : Hid (Blk wb n8 82 #[.int .i64 x1.thread, .int .i64 x1.job, .int .i64 x1.start, .int .i64 x1.fin, .int .i64 x1.valid, .int .i64 x1.stamp, .int .i64 x1.fate, .slice xa xn xc]) := (HBk.out).only hOb (Ne.symm hgn)
       have hyb : (D.set m (y1, .slice ya yn yc))[p]? = some (y1, .slice ya yn yc) := by
        rw [List.getElem?_set, if_neg (by have := HM.out; omega)]
        exact HY.out
       clear hwb hAb hOb c0 c1 c2 c3 c4 c5 c6 c7 e0 e1 e2 e3 e4 e5 e6 e7 hgf HAa HBa HBk
       obtain ⟨b2, hb2, hbl2, e0, e1, e2, e3, e4, e5, e6, e7⟩ := AttsRow.at HAb.out p (y1, .slice ya yn yc) hyb
       cases hb2
       simp only at e0 e1 e2 e3 e4 e5 e6 e7
       have hgf : ∀ o, wb.frozen? ⟨gg, o, none⟩ = false := own_frozen HAb.out
       have hbk := (HBkb.out).cell
       clear hyb
       go_wp2_with fail
       obtain ⟨hAd, hOd⟩ := att_store HAb.out p (by rw [List.length_set]; exact (HL.out).2.1) (x1, .slice xa xn xc)
       go_roundg (p + 1)
       case rel => exact ⟨p, (D.set m (y1, .slice ya yn yc)).set p (x1, .slice xa xn xc), rfl, by omega, rfl, HPd, HSl2, hAd, below_onto HBb.out hOd (HL.out).2.2 (HBb.out).size⟩
       case measure => omega
      ·have hsb : decide (Sooner x1 y1) = false := by simp [hs]
       have HPd : Hid (D.length = i + 1 ∧ Pass D p G) := ⟨HDl.out, HS2.out hs⟩
       rw [hsb]
       clear hsb c0 c1 c2 c3 c4 c5 c6 c7 e0 e1 e2 e3 e4 e5 e6 e7 hgf HS1 HS2 hs
       go_wp2_with fail
       go_roundg (p + 1)
       case rel => exact ⟨p, D, rfl, by omega, rfl, HPd, HSl, HAc, HBw⟩
       case measure => omega
  ·have hie : ¬ (i : Int) < (AN.length : Int) := by omega
   have hin : i = AN.length := by omega
   have HF : Hid (AttsRow wq w.heap.size oa oc (ordP AN.reverse).reverse ∧ Below w.heap.size w wq) := by
    refine ⟨?_, HBx.out⟩
    have h := (HC.out).2
    rw [hin, List.take_length] at h
    rw [← h, List.reverse_reverse]
    exact HRo.out
   clear HC HRo HBx
   subst hin
   go_wp2_with fail
   go_ret
   exact ⟨oa, oc, rfl, (HF.out).1, (HF.out).2⟩
def worksB (jobs : List (Int × List InsD)) (t : Int) : Bool := jobs.any fun j => j.1 == t
set_option maxRecDepth 100000 in
set_option maxHeartbeats 2000000 in
theorem works_any (c : Cfg) (mem : List Int) (jobs : List (Int × List InsD)) (t : Int) (ma ja : Option Addr) (ml mc jc : Nat) (w : World) (hjl : jobs.length ≤ 2 ^ 40) (hj : JobsRep w w.heap.size ja jobs) :
  Calls Tryz.prog 31 #[.agg #[.int .i64 c.t, .int .i64 c.wd, .int .i64 c.s, .int .i64 c.g, .int .i64 c.r, .int .i64 c.cp, .int .i64 c.f, .slice ma ml mc, .slice ja jobs.length jc], .int .i64 t] w fun e w' =>
   e = .returned (.bool (worksB jobs t)) ∧ Below w.heap.size w w' := by
 have hB0 : Below w.heap.size w (w.alloc (.cells #[.int .i64 c.t, .int .i64 c.wd, .int .i64 c.s, .int .i64 c.g, .int .i64 c.r, .int .i64 c.cp, .int .i64 c.f, .slice ma ml mc, .slice ja jobs.length jc] 27)) := (Below.refl w.heap.size w).alloc (Nat.le_refl _) _
 obtain ⟨w0, hw0⟩ : ∃ w0, w0 = w.alloc (.cells #[.int .i64 c.t, .int .i64 c.wd, .int .i64 c.s, .int .i64 c.g, .int .i64 c.r, .int .i64 c.cp, .int .i64 c.f, .slice ma ml mc, .slice ja jobs.length jc] 27) := ⟨_, rfl⟩
 have hSb : Blk w0 w.heap.size 27 #[.int .i64 c.t, .int .i64 c.wd, .int .i64 c.s, .int .i64 c.g, .int .i64 c.r, .int .i64 c.cp, .int .i64 c.f, .slice ma ml mc, .slice ja jobs.length jc] := by rw [hw0]; exact Blk.new w 27 _
 rw [← hw0] at hB0
 have HJ : Hid (JobsRep w0 w0.heap.size ja jobs) := hj.up2 hB0
 have HB0 : Hid (Below w.heap.size w w0) := hB0
 have HSb : Hid (Blk w0 w.heap.size 27 #[.int .i64 c.t, .int .i64 c.wd, .int .i64 c.s, .int .i64 c.g, .int .i64 c.r, .int .i64 c.cp, .int .i64 c.f, .slice ma ml mc, .slice ja jobs.length jc]) := hSb
 have HW0 : Hid (w0 = w.alloc (.cells #[.int .i64 c.t, .int .i64 c.wd, .int .i64 c.s, .int .i64 c.g, .int .i64 c.r, .int .i64 c.cp, .int .i64 c.f, .slice ma ml mc, .slice ja jobs.length jc] 27)) := hw0
 obtain ⟨V, HV⟩ : ∃ V, Hid (worksB jobs t = V) := ⟨_, rfl⟩
 rw [show worksB jobs t = V from HV.out]
 have hsc := hSb.cell
 clear hj hB0 hSb hw0
 go_enter Tryz.func31, Tryz.ntmps31
 go_wp2_with fail
 rw [← show w0 = _ from HW0.out]
 clear HW0
 go_loopg [5] (jobs.length + 1) (fun m t5 wr => ∃ k : Nat, t5 = .int .i64 (k : Int) ∧ k ≤ jobs.length ∧ m = jobs.length + 1 - k ∧ wr = w0 ∧ Hid (∀ i, i < k → ((jobs.getD i (0, [])).1 == t) = false))
 case atStart => exact ⟨0, rfl, by omega, by omega, rfl, fun i hi => absurd hi (Nat.not_lt_zero _)⟩
 case round =>
  obtain ⟨k, rfl, hk, hgk, rfl, HN⟩ := hrel
  by_cases hkl : k < jobs.length
  ·obtain ⟨js, h1, h2, h3⟩ := HJ.out
   obtain ⟨b, off, hja, hbl, hc0, hc1⟩ := h2 k (by omega)
   have ht := (h3 k (by omega)).1
   rw [ht] at hc0
   have hk0 : (0 : Int) ≤ (k : Int) := by omega
   have hk1 : (k : Int) < (jobs.length : Int) := by omega
   have hwk : IntKind.i64.wrap ((k : Int) + 1) = (k : Int) + 1 := wrapF _ (by omega) (by omega)
   subst hja
   clear h1 h2 h3 hc1 ht
   by_cases he : (jobs.getD k (0, [])).1 = t
   ·have hbe : ((jobs.getD k (0, [])).1 == t) = true := by rw [beq_iff_eq]; exact he
    have HV1 : Hid (V = true) := by
     show V = true
     rw [← show worksB jobs t = V from HV.out]
     unfold worksB
     rw [List.any_eq_true]
     refine ⟨jobs.getD k (0, []), ?_, hbe⟩
     rw [show jobs.getD k (0, []) = jobs[k] from by simp [List.getD, List.getElem?_eq_getElem hkl]]
     exact List.getElem_mem hkl
    generalize (jobs.getD k (0, [])).1 = z at *
    clear HN HV he
    go_wp2
    go_ret
    exact ⟨by rw [HV1.out]; rfl, HB0.out⟩
   ·have hbe : ((jobs.getD k (0, [])).1 == t) = false := by rw [beq_eq_false_iff_ne]; exact he
    have HN2 : Hid (∀ i, i < k + 1 → ((jobs.getD i (0, [])).1 == t) = false) := fun i hi => by
     by_cases e : i = k
     ·rw [e]; exact hbe
     ·exact HN.out i (by omega)
    generalize (jobs.getD k (0, [])).1 = z at *
    clear HN HV he
    go_wp2
    go_roundg (gk - 1)
    case rel => exact ⟨k + 1, by simp, by omega, by omega, rfl, HN2⟩
    case measure => omega
  ·have hke : k = jobs.length := by omega
   have hk1 : ¬ (k : Int) < (jobs.length : Int) := by omega
   have HV0 : Hid (V = false) := by
    show V = false
    rw [← show worksB jobs t = V from HV.out]
    unfold worksB
    rw [List.any_eq_false]
    intro x hx
    obtain ⟨i, hi, rfl⟩ := List.mem_iff_getElem.1 hx
    have := HN.out i (by omega)
    rw [show jobs.getD i (0, []) = jobs[i] from by simp [List.getD, List.getElem?_eq_getElem hi]] at this
    simpa using this
   clear HN HV hke
   go_wp2
   go_ret
   exact ⟨by rw [HV0.out]; rfl, HB0.out⟩
def answeredN (want e : Int) (empty : Bool) : Int := if e ≠ want then 0 else if e = 0 then 2 else if empty then 1 else 0
set_option maxRecDepth 100000 in
set_option maxHeartbeats 2000000 in
theorem answered_any (c : Cfg) (mem : List Int) (jobs : List (Int × List InsD)) (er : Int) (em : Bool) (ma ja : Option Addr) (mc jc : Nat) (w : World) (hml : mem.length ≤ maxLen) (hjl : jobs.length ≤ maxLen) (hm : Ints w w.heap.size ma mem) (hj : JobsRep w w.heap.size ja jobs) :
  Calls Tryz.prog 11 #[.agg #[.int .i64 c.t, .int .i64 c.wd, .int .i64 c.s, .int .i64 c.g, .int .i64 c.r, .int .i64 c.cp, .int .i64 c.f, .slice ma mem.length mc, .slice ja jobs.length jc], .int .i64 er, .bool em] w fun e w' =>
   e = .returned (.int .i64 (answeredN (errS c mem jobs) er em)) ∧ Below w.heap.size w w' := by
 have hB0 : Below w.heap.size w (w.alloc (.cells #[.int .i64 c.t, .int .i64 c.wd, .int .i64 c.s, .int .i64 c.g, .int .i64 c.r, .int .i64 c.cp, .int .i64 c.f, .slice ma mem.length mc, .slice ja jobs.length jc] 27)) := (Below.refl w.heap.size w).alloc (Nat.le_refl _) _
 have HC : Hid _ := refCheck_rep c mem jobs ma ja mc jc _ hml hjl (hm.up hB0) (hj.up2 hB0)
 have HB0 : Hid (Below w.heap.size w (w.alloc (.cells #[.int .i64 c.t, .int .i64 c.wd, .int .i64 c.s, .int .i64 c.g, .int .i64 c.r, .int .i64 c.cp, .int .i64 c.f, .slice ma mem.length mc, .slice ja jobs.length jc] 27))) := hB0
 obtain ⟨N, HNN⟩ : ∃ N, Hid (answeredN (errS c mem jobs) er em = N) := ⟨_, rfl⟩
 rw [show answeredN (errS c mem jobs) er em = N from HNN.out]
 clear hm hj hB0
 go_enter Tryz.func11, Tryz.ntmps11
 go_wp2_with fail
 refine Calls.mono HC.out ?_
 rintro e w1 ⟨rfl, hb1⟩
 have HB1 : Hid (Below w.heap.size w w1) := (HB0.out).trans (hb1.mono (HB0.out).size)
 clear hb1 HC HB0
 generalize errS c mem jobs = W at *
 by_cases h1 : er = W
 ·have b1 : (er == W) = true := by simp [h1]
  have b1' : (er != W) = false := by simp [h1]
  by_cases h2 : er = 0
  ·have b2 : (er == 0) = true := by simp [h2]
   have HA : Hid (N = 2) := by show N = 2; rw [← show answeredN W er em = N from HNN.out]; unfold answeredN; rw [if_neg (by simp [h1]), if_pos h2]
   clear h1 h2 HNN
   go_wp2
   go_ret
   exact ⟨by rw [HA.out]; rfl, HB1.out⟩
  ·have b2 : (er == 0) = false := by simp [h2]
   cases em with
   | true =>
    have HA : Hid (N = 1) := by show N = 1; rw [← show answeredN W er true = N from HNN.out]; unfold answeredN; rw [if_neg (by simp [h1]), if_neg h2, if_pos rfl]
    clear h1 h2 HNN
    go_wp2
    go_ret
    exact ⟨by rw [HA.out]; rfl, HB1.out⟩
   | false =>
    have HA : Hid (N = 0) := by show N = 0; rw [← show answeredN W er false = N from HNN.out]; unfold answeredN; rw [if_neg (by simp [h1]), if_neg h2, if_neg (by simp)]
    clear h1 h2 HNN
    go_wp2
    go_ret
    exact ⟨by rw [HA.out]; rfl, HB1.out⟩
 ·have b1 : (er == W) = false := by simp [h1]
  have b1' : (er != W) = true := by simp [h1]
  have HA : Hid (N = 0) := by show N = 0; rw [← show answeredN W er em = N from HNN.out]; unfold answeredN; rw [if_pos h1]
  clear h1 HNN
  go_wp2
  go_ret
  exact ⟨by rw [HA.out]; rfl, HB1.out⟩
end Go.Proofs.YtejadojilncbjabGreat
namespace Go.Proofs.YtejadojilncbjabGreat
open Go.ChangeShapes Go.WideShapes Go.ChangeAt Go.RowKit Go.Deep
set_option linter.unusedVariables false
attribute [local go_sem ↓] Go.wp_at_zero Go.wp_at_succ
def CRow (w : World) (base g cap : Nat) (cs : List Int) : Prop := w.ownsRow base 3 1 (.slice (some ⟨g, 0, none⟩) cs.length cap) cs.length (cs.map (Value.int .i64 ·))
theorem CRow.cell {w : World} {base g cap : Nat} {cs : List Int} (h : CRow w base g cap cs) {i : Nat} (hi : i < cs.length) : w.cell? ⟨g, i, none⟩ = some (.int .i64 (cs.getD i 0)) := by
 rw [World.ownsRow.cellAt h i (by omega)]
 simp [List.getElem?_map, List.getD, List.getElem?_eq_getElem hi]
theorem CRow.frozen {w : World} {base g cap : Nat} {cs : List Int} (h : CRow w base g cap cs) (i : Nat) : w.frozen? ⟨g, i, none⟩ = false := World.ownsRow.frozenAt h i
theorem CRow.lt {w : World} {base g cap : Nat} {cs : List Int} (h : CRow w base g cap cs) : base ≤ g ∧ g < w.heap.size := World.ownsRow.lt h g rfl
theorem CRow.set {w : World} {base g cap : Nat} {cs : List Int} (h : CRow w base g cap cs) (i : Nat) (v : Int) : CRow (w.setCell ⟨g, i, none⟩ (.int .i64 v)) base g cap (cs.set i v) := by
 have := (World.ownsRow.stored h i (.int .i64 v)).1
 unfold CRow
 rw [List.length_set, List.map_set]
 exact this
theorem CRow.below {w w' : World} {base g cap : Nat} {cs : List Int} (h : CRow w base g cap cs) (hb : Below w.heap.size w w') (hB : base ≤ w.heap.size) : CRow w' base g cap cs := ownsRow_keep h (Kp.below (chg := []) (p := base) (eb := base) hb hB) (by simp)
theorem CRow.ints {w : World} {base g cap : Nat} {cs : List Int} (h : CRow w base g cap cs) : Ints w w.heap.size (some ⟨g, 0, none⟩) cs := fun i hi => ⟨g, 0, rfl, h.lt.2, by have := h.cell hi; simpa using this⟩
set_option maxHeartbeats 400000 in
theorem kword_any (c : Cfg) (hc : cfgB c = true) (n : Int) (a b : Option Addr) (l d m f : Nat) (w : World) (h3 : -70000 ≤ n) (h4 : n ≤ 1125899906842634) :
  Calls Tryz.prog 12 #[.agg #[.int .i64 c.t, .int .i64 c.wd, .int .i64 c.s, .int .i64 c.g, .int .i64 c.r, .int .i64 c.cp, .int .i64 c.f, .slice a l d, .slice b m f], .int .i64 n] w fun e w' =>
   e = .returned (.int .i64 (3 + 2 * c.s + c.t + n)) ∧ Below w.heap.size w w' := by
 obtain ⟨⟨t1, t2⟩, _, ⟨s1, s2⟩, _⟩ := cfgB_true hc
 have x1 : IntKind.i64.wrap (2 * c.s) = 2 * c.s := wrapF _ (by omega) (by omega)
 have x2 : IntKind.i64.wrap (3 + 2 * c.s) = 3 + 2 * c.s := wrapF _ (by omega) (by omega)
 have x3 : IntKind.i64.wrap (3 + 2 * c.s + c.t) = 3 + 2 * c.s + c.t := wrapF _ (by omega) (by omega)
 have x4 : IntKind.i64.wrap (3 + 2 * c.s + c.t + n) = 3 + 2 * c.s + c.t + n := wrapF _ (by omega) (by omega)
 clear hc
 go_enter Tryz.func12, Tryz.ntmps12
 go_wp2
 go_ret
 exact ⟨by simp, (Below.refl _ _).alloc (Nat.le_refl _) _⟩
end Go.Proofs.YtejadojilncbjabGreat
namespace Go.Proofs.YtejadojilncbjabGreat
open Go.RowKit
set_option linter.unusedVariables false
attribute [local go_sem ↓] Go.wp_at_zero Go.wp_at_succ
def touch (cs : List Int) (a : AccD) : List Int := if a.kind = 0 then cs else cs.set a.cell.toNat a.put
end Go.Proofs.YtejadojilncbjabGreat
namespace Go.Proofs.YtejadojilncbjabGreat
set_option linter.unusedVariables false
def Loc2 (K : Cx) (h : Th) : Prop := match h.st with
 | .tTake => h.rank = 0
 | .fTake => h.rank = 0
 | .tShow => h.rank ≠ 0
 | .gTheir _ _ u => h.rank ≠ 0 ∧ u ≠ K.me + 1
 | .gMark _ _ u th => (h.rank ≠ 0 ∧ u ≠ K.me + 1) ∧ (th / 8 = 0 ∨ h.rank ≤ th / 8)
 | _ => True
structure RC (K : Cx) (r : Int) (h' : Th) : Prop where
 rank : h'.rank = r
 loc : Loc2 K h'
def RD (K : Cx) (h : Th) (t : Bool × Th) : Prop := (t.1 = true → t.2.rank = h.rank) ∧ (t.1 = false → RC K h.rank t.2)
theorem RD.off {K : Cx} {h h' : Th} (A : RC K h.rank h') : RD K h (false, h') := ⟨(fun e => nomatch e), fun _ => A⟩
theorem RD.on {K : Cx} {h h' : Th} (A : h'.rank = h.rank) : RD K h (true, h') := ⟨fun _ => A, (fun e => nomatch e)⟩
end Go.Proofs.YtejadojilncbjabGreat
namespace Go.Proofs.YtejadojilncbjabGreat
open Go.RowKit
set_option linter.unusedVariables false
attribute [local go_sem ↓] Go.wp_at_zero Go.wp_at_succ
theorem works_true {jobs : List (Int × List InsD)} {t : Int} (h : worksB jobs t = true) : ∃ b ∈ jobs, b.1 = t := by
 unfold worksB at h
 rw [List.any_eq_true] at h
 obtain ⟨b, hb, e⟩ := h
 exact ⟨b, hb, by simpa using e⟩
end Go.Proofs.YtejadojilncbjabGreat
