import Derived.Test.YtejadojilncbjabGreatD23
import Derived.Deep.LoopGhost
namespace Go.Proofs.YtejadojilncbjabGreat
open Go.RowKit
set_option linter.unusedVariables false
attribute [local go_sem ↓] Go.wp_at_zero Go.wp_at_succ
theorem z_turn_end {z : Nat} {T : TypeId} {A B : List Value} {w wr : World} {p rb : Nat} {m : MS} {cs : Array Value} (hne : p ≠ rb) (hr : Blk wr rb 132 cs) (hcs : cs.size = 4) (hO : Only p w wr) (hrb : w.heap.size ≤ rb) (hp : MAt wr p z T A B m) (a b c d : Value) :
  ((((wr.setCell ⟨rb, 0, none⟩ a).setCell ⟨rb, 1, none⟩ b).setCell ⟨rb, 2, none⟩ c).setCell ⟨rb, 3, none⟩ d).cell? ⟨rb, 0, none⟩ = some a ∧
  ((((wr.setCell ⟨rb, 0, none⟩ a).setCell ⟨rb, 1, none⟩ b).setCell ⟨rb, 2, none⟩ c).setCell ⟨rb, 3, none⟩ d).cell? ⟨rb, 1, none⟩ = some b ∧
  ((((wr.setCell ⟨rb, 0, none⟩ a).setCell ⟨rb, 1, none⟩ b).setCell ⟨rb, 2, none⟩ c).setCell ⟨rb, 3, none⟩ d).cell? ⟨rb, 2, none⟩ = some c ∧
  ((((wr.setCell ⟨rb, 0, none⟩ a).setCell ⟨rb, 1, none⟩ b).setCell ⟨rb, 2, none⟩ c).setCell ⟨rb, 3, none⟩ d).cell? ⟨rb, 3, none⟩ = some d ∧
  MAt ((((wr.setCell ⟨rb, 0, none⟩ a).setCell ⟨rb, 1, none⟩ b).setCell ⟨rb, 2, none⟩ c).setCell ⟨rb, 3, none⟩ d) p z T A B m ∧
  Only p w ((((wr.setCell ⟨rb, 0, none⟩ a).setCell ⟨rb, 1, none⟩ b).setCell ⟨rb, 2, none⟩ c).setCell ⟨rb, 3, none⟩ d) := by
 have hs := hr.set (i := 0) (v := a) |>.set (i := 1) (v := b) |>.set (i := 2) (v := c) |>.set (i := 3) (v := d)
 have ho : Only rb wr ((((wr.setCell ⟨rb, 0, none⟩ a).setCell ⟨rb, 1, none⟩ b).setCell ⟨rb, 2, none⟩ c).setCell ⟨rb, 3, none⟩ d) := ((((Only.refl _ _).set).set).set).set
 refine ⟨by rw [hs.cell]; simp [hcs], by rw [hs.cell]; simp [hcs], by rw [hs.cell]; simp [hcs], by rw [hs.cell]; simp [hcs], hp.only ho hne, ?_⟩
 exact ⟨ho.os.trans hO.os, ho.tape.trans hO.tape, ho.output.trans hO.output, Nat.le_trans hO.size ho.size, fun k hk h2 => (ho.block k (Nat.lt_of_lt_of_le hk hO.size) (by omega)).trans (hO.block k hk h2)⟩
set_option maxRecDepth 100000 in
set_option maxHeartbeats 8000000 in
theorem z_next_any (z : Nat) (T : TypeId) (A B : List Value) (p : Nat) (code : List InsD) (ca : Option Addr) (cc : Nat) (f wd : Int) (m : MS) (w : World) (n : Nat) (hb : MAt w p z T A B m) (hm : MOk m) (hcd : CodeIn w w.heap.size ca code) (hfar : ∀ b off, ca = some ⟨b, off, none⟩ → code ≠ [] → b ≠ p)
  (hcl : code.length ≤ 20) (hf1 : f ≤ 40) (hbg : (m.begun : Int) ≤ f) (hn : f < m.begun + n) (hw1 : 1 ≤ wd) (hw2 : wd ≤ 8) :
  Calls Tryz.prog 113 #[.pointer (some ⟨p, z, none⟩), .slice ca code.length cc, .int .i64 f, .int .i64 wd] w fun e w' =>
   e = .returned (.agg (turnCells (pNext f wd code n m).1)) ∧ MAt w' p z T A B (pNext f wd code n m).2 ∧ Only p w w' := by
 have HCD : Hid (CodeIn w w.heap.size ca code) := hcd
 have HFar : Hid (∀ b off, ca = some ⟨b, off, none⟩ → code ≠ [] → b ≠ p) := hfar
 obtain ⟨R, HR⟩ : ∃ R, Hid (pNext f wd code n m = R) := ⟨_, rfl⟩
 rw [show pNext f wd code n m = R from HR.out]
 have HM : Hid (MOk m) := hm
 have HB0 : Hid (MAt (w.alloc (.cells #[.int .i64 0, .int .i64 0, .int .i64 0, .int .i64 0] 132)) p z T A B m) := hb.alloc _
 have HO0 : Hid (Only p w (w.alloc (.cells #[.int .i64 0, .int .i64 0, .int .i64 0, .int .i64 0] 132))) := Only.below ((Below.refl _ _).alloc (Nat.le_refl _) _)
 have HR0 : Hid (Blk (w.alloc (.cells #[.int .i64 0, .int .i64 0, .int .i64 0, .int .i64 0] 132)) w.heap.size 132 #[.int .i64 0, .int .i64 0, .int .i64 0, .int .i64 0]) := Blk.new w 132 _
 have hplt : p < w.heap.size := hb.lt
 have hpz : p ≠ w.heap.size := by omega
 clear hcd hfar hm hb
 go_enter Tryz.func113, Tryz.ntmps113
 go_wp2
 go_loopg [9] n (fun q t9 wr => ∃ mk : MS, Hid (pNext f wd code q mk = R) ∧ f < mk.begun + q ∧ (mk.begun : Int) ≤ f ∧ Hid (MOk mk) ∧ Hid (MAt wr p z T A B mk) ∧ Hid (Only p w wr) ∧ Hid (Blk wr w.heap.size 132 #[.int .i64 0, .int .i64 0, .int .i64 0, .int .i64 0]))
 case atStart => exact ⟨m, HR, hn, hbg, HM, HB0, HO0, HR0⟩
 case round =>
  obtain ⟨mk, HRk, hnk, hbk, HMk, HBk, HOk, HZk⟩ := hrel
  clear HR HM HB0 HO0 HR0 hn hbg
  obtain ⟨q, rfl⟩ : ∃ q, gk = q + 1 := ⟨gk - 1, by omega⟩
  obtain ⟨regs, place, begun, into⟩ := mk
  simp only at hnk hbk
  have hc4 : wr.cell? ⟨p, z + 4, none⟩ = some (.int .i64 (place : Int)) := (HBk.out).c4
  have hc5 : wr.cell? ⟨p, z + 5, none⟩ = some (.int .i64 (begun : Int)) := (HBk.out).c5
  have hf4 := (HBk.out).frozen (z + 4)
  have hf5 := (HBk.out).frozen (z + 5)
  have hzc := (HZk.out).cell
  have hzf := (HZk.out).frozen
  have HU : Hid (R = if code.length ≤ place then ((⟨1, 0, 0, 0⟩ : TurnD), (⟨regs, place, begun, into⟩ : MS)) else if f ≤ begun then (⟨4, 0, 0, 0⟩, ⟨regs, place, begun, into⟩) else
       if formedB (insAt code place) code.length = false then (⟨3, 0, 0, 0⟩, ⟨regs, place, begun + 1, into⟩) else
       if (insAt code place).op = 0 then (⟨1, 0, 0, 0⟩, ⟨regs, place + 1, begun + 1, into⟩) else if (insAt code place).op = 1 then (⟨2, 0, 0, 0⟩, ⟨regs, place + 1, begun + 1, into⟩) else
       if (insAt code place).op = 7 ∨ (insAt code place).op = 8 then pWord wd ⟨regs, place + 1, begun + 1, into⟩ (insAt code place) else pNext f wd code q (pComp ⟨regs, place + 1, begun + 1, into⟩ (insAt code place))) := (HRk.out).symm
  clear HRk
  by_cases hpl : code.length ≤ place
  ·have hR := (HU.out).trans (if_pos hpl)
   subst hR
   have hpI : ¬ (place : Int) < (code.length : Int) := by omega
   clear HU
   go_wp2
   obtain ⟨e0, e1, e2, e3, hB, hO⟩ := z_turn_end hpz HZk.out rfl HOk.out (Nat.le_refl _) HBk.out (.int .i64 1) (.int .i64 0) (.int .i64 0) (.int .i64 0)
   exact bodyPost_ret (v := .agg (turnCells ⟨1, 0, 0, 0⟩)) (by simp [results, Tryz.results113, go_sem, e0, e1, e2, e3, turnCells]) rfl ⟨rfl, hB, hO⟩
  have hpI : (place : Int) < (code.length : Int) := by omega
  have HU1 : Hid (R = _) := (HU.out).trans (if_neg hpl)
  clear HU
  by_cases hfb : f ≤ begun
  ·have hR := (HU1.out).trans (if_pos hfb)
   subst hR
   clear HU1
   go_wp2
   obtain ⟨e0, e1, e2, e3, hB, hO⟩ := z_turn_end hpz HZk.out rfl HOk.out (Nat.le_refl _) HBk.out (.int .i64 4) (.int .i64 0) (.int .i64 0) (.int .i64 0)
   exact bodyPost_ret (v := .agg (turnCells ⟨4, 0, 0, 0⟩)) (by simp [results, Tryz.results113, go_sem, e0, e1, e2, e3, turnCells]) rfl ⟨rfl, hB, hO⟩
  have HU2 : Hid (R = _) := (HU1.out).trans (if_neg hfb)
  clear HU1
  obtain ⟨b, off, hca, hblt, k0, k1, k2, k3⟩ := HCD.out place (by omega)
  have hbp : b ≠ p := HFar.out b off hca (fun e => by rw [e] at hpI; simp at hpI; omega)
  have hup : ∀ o, wr.cell? ⟨b, o, none⟩ = w.cell? ⟨b, o, none⟩ := fun o => World.cell?_of_block ((HOk.out).block b hblt hbp)
  have hi0 := (hup _).trans k0
  have hi1 := (hup _).trans k1
  have hi2 := (hup _).trans k2
  have hi3 := (hup _).trans k3
  have hwb : IntKind.i64.wrap ((begun : Int) + 1) = (begun : Int) + 1 := wrapP _ (by omega) (by omega)
  have hwp : IntKind.i64.wrap ((place : Int) + 1) = (place : Int) + 1 := wrapP _ (by omega) (by omega)
  have hp0 : (0 : Int) ≤ (place : Int) := by omega
  generalize hins : insAt code place = i at *
  subst hca
  clear hins hup k0 k1 k2 k3
  have hblr : b < wr.heap.size := Nat.lt_of_lt_of_le hblt (HOk.out).size
  have hbne : b ≠ p := hbp
  go_wp2_with fail
  obtain ⟨w4, hw4⟩ : ∃ w4, w4 = (wr.setCell ⟨p, z + 5, none⟩ (.int .i64 ((begun : Int) + 1))).alloc (.cells #[.int .i64 i.op, .int .i64 i.a, .int .i64 i.b, .int .i64 i.c] 110) := ⟨_, rfl⟩
  obtain ⟨ib, hib⟩ : ∃ ib, ib = wr.heap.size := ⟨_, rfl⟩
  have hne : w.heap.size ≠ p := by omega
  have hB4 : MAt w4 p z T A B ⟨regs, place, begun + 1, into⟩ := by
   rw [hw4]
   exact ((HBk.out).begun (begun + 1)).alloc _
  have hI4 : Blk w4 ib 110 #[.int .i64 i.op, .int .i64 i.a, .int .i64 i.b, .int .i64 i.c] := by
   rw [hw4, hib]
   have := Blk.new (wr.setCell ⟨p, z + 5, none⟩ (.int .i64 ((begun : Int) + 1))) 110 #[.int .i64 i.op, .int .i64 i.a, .int .i64 i.b, .int .i64 i.c]
   simpa [World.setCell] using this
  have hZ4 : Blk w4 w.heap.size 132 #[.int .i64 0, .int .i64 0, .int .i64 0, .int .i64 0] := by
   rw [hw4]
   exact ((HZk.out).only ((Only.refl _ _).set) hne).alloc _
  have hO4 : Only p w w4 := by
   rw [hw4]
   exact ((HOk.out).set).trans (Only.below ((Below.refl _ _).alloc (Nat.le_refl _) _))
  have hpib : p ≠ ib := by have := (HOk.out).size; omega
  rw [← hw4, ← hib]
  clear hw4 hib HBk HZk HOk hc4 hc5 hf4 hf5 hzc hzf hi0 hi1 hi2 hi3 hblr hbne
  refine (wellFormed_core _ _ _ _ _ _).mono ?_
  rintro e w5 ⟨rfl, hb5⟩
  have HB5 : Hid (MAt w5 p z T A B ⟨regs, place, begun + 1, into⟩) := hB4.below hb5 hB4.lt
  have HI5 : Hid (Blk w5 ib 110 #[.int .i64 i.op, .int .i64 i.a, .int .i64 i.b, .int .i64 i.c]) := hI4.below hb5 hI4.lt
  have HZ5 : Hid (Blk w5 w.heap.size 132 #[.int .i64 0, .int .i64 0, .int .i64 0, .int .i64 0]) := hZ4.below hb5 hZ4.lt
  have HO5 : Hid (Only p w w5) := hO4.trans (Only.below hb5)
  clear hb5 hB4 hI4 hZ4 hO4
  rw [show (⟨i.op, i.a, i.b, i.c⟩ : InsD) = i from rfl]
  have hzc := (HZ5.out).cell
  have hzf := (HZ5.out).frozen
  have hc4 : w5.cell? ⟨p, z + 4, none⟩ = some (.int .i64 (place : Int)) := (HB5.out).c4
  have hf4 := (HB5.out).frozen (z + 4)
  have hic := (HI5.out).cell
  have hibp : ib ≠ p := Ne.symm hpib
  cases hform : formedB i code.length with
  | false =>
   have hR := (HU2.out).trans (if_pos hform)
   subst hR
   clear HU2
   go_wp2
   obtain ⟨e0, e1, e2, e3, hB, hO⟩ := z_turn_end hpz HZ5.out rfl HO5.out (Nat.le_refl _) HB5.out (.int .i64 3) (.int .i64 0) (.int .i64 0) (.int .i64 0)
   exact bodyPost_ret (v := .agg (turnCells ⟨3, 0, 0, 0⟩)) (by simp [results, Tryz.results113, go_sem, e0, e1, e2, e3, turnCells]) rfl ⟨rfl, hB, hO⟩
  | true =>
   have HFm : Hid (formedB i code.length = true) := hform
   have HU3 : Hid (R = _) := (HU2.out).trans (if_neg (by rw [hform]; decide))
   clear HU2
   have HB6 : Hid (MAt (w5.setCell ⟨p, z + 4, none⟩ (.int .i64 ((place : Int) + 1))) p z T A B ⟨regs, place + 1, begun + 1, into⟩) := (HB5.out).place (place + 1)
   have HZ6 : Hid (Blk (w5.setCell ⟨p, z + 4, none⟩ (.int .i64 ((place : Int) + 1))) w.heap.size 132 #[.int .i64 0, .int .i64 0, .int .i64 0, .int .i64 0]) := (HZ5.out).only ((Only.refl _ _).set) hne
   have HI6 : Hid (Blk (w5.setCell ⟨p, z + 4, none⟩ (.int .i64 ((place : Int) + 1))) ib 110 #[.int .i64 i.op, .int .i64 i.a, .int .i64 i.b, .int .i64 i.c]) := (HI5.out).only ((Only.refl _ _).set) hibp
   have HO6 : Hid (Only p w (w5.setCell ⟨p, z + 4, none⟩ (.int .i64 ((place : Int) + 1)))) := (HO5.out).set
   obtain ⟨hop0, hop8⟩ := formed_op hform
   by_cases o0 : i.op = 0
   ·have hR := (HU3.out).trans (if_pos o0)
    subst hR
    have hb0 : (i.op == 0) = true := by simp [o0]
    clear HU3 o0
    go_wp2
    obtain ⟨e0, e1, e2, e3, hB, hO⟩ := z_turn_end hpz HZ6.out rfl HO6.out (Nat.le_refl _) HB6.out (.int .i64 1) (.int .i64 0) (.int .i64 0) (.int .i64 0)
    exact bodyPost_ret (v := .agg (turnCells ⟨1, 0, 0, 0⟩)) (by simp [results, Tryz.results113, go_sem, e0, e1, e2, e3, turnCells]) rfl ⟨rfl, hB, hO⟩
   have HU4 : Hid (R = _) := (HU3.out).trans (if_neg o0)
   have hb0 : (i.op == 0) = false := by simpa using o0
   clear HU3
   by_cases o1 : i.op = 1
   ·have hR := (HU4.out).trans (if_pos o1)
    subst hR
    have hb1 : (i.op == 1) = true := by simp [o1]
    clear HU4 o1 o0
    go_wp2
    obtain ⟨e0, e1, e2, e3, hB, hO⟩ := z_turn_end hpz HZ6.out rfl HO6.out (Nat.le_refl _) HB6.out (.int .i64 2) (.int .i64 0) (.int .i64 0) (.int .i64 0)
    exact bodyPost_ret (v := .agg (turnCells ⟨2, 0, 0, 0⟩)) (by simp [results, Tryz.results113, go_sem, e0, e1, e2, e3, turnCells]) rfl ⟨rfl, hB, hO⟩
   have HU5 : Hid (R = _) := (HU4.out).trans (if_neg o1)
   have hb1 : (i.op == 1) = false := by simpa using o1
   clear HU4
   by_cases o7 : i.op = 7 ∨ i.op = 8
   ·have HF : Hid (R = pWord wd ⟨regs, place + 1, begun + 1, into⟩ i) := (HU5.out).trans (if_pos o7)
    have HO7 : Hid (i.op = 7 ∨ i.op = 8) := o7
    have hd : ((i.op == 7) = true) ∨ ((i.op == 7) = false ∧ (i.op == 8) = true) := by
     rcases o7 with h | h
     ·exact Or.inl (by simp [h])
     ·exact Or.inr ⟨by simp [h], by simp [h]⟩
    clear HU5 o0 o1 o7
    rcases hd with hb7 | ⟨hb7, hb8⟩
    all_goals
     go_wp2_with fail
     refine (z_word_any z T A B p ⟨regs, place + 1, begun + 1, into⟩ i code.length wd _ HB6.out HFm.out HO7.out hw1 hw2).mono ?_
     rintro e w7 ⟨rfl, hB7, hO7⟩
     rw [← show R = pWord wd ⟨regs, place + 1, begun + 1, into⟩ i from HF.out] at hB7 ⊢
     have HB7 : Hid (MAt w7 p z T A B R.2) := hB7
     have HZ7 : Hid (Blk w7 w.heap.size 132 #[.int .i64 0, .int .i64 0, .int .i64 0, .int .i64 0]) := (HZ6.out).only hO7 hne
     have HO7' : Hid (Only p w w7) := (HO6.out).trans hO7
     have hzc7 := (HZ7.out).cell
     have hzf7 := (HZ7.out).frozen
     clear hB7 hO7 hzc hzf hic hc4 hf4
     obtain ⟨⟨tf, tp, ta, tv⟩, mR⟩ := R
     simp only [turnCells]
     go_wp2
     obtain ⟨e0, e1, e2, e3, hB, hO⟩ := z_turn_end hpz HZ7.out rfl HO7'.out (Nat.le_refl _) HB7.out (.int .i64 tf) (.int .i64 tp) (.int .i64 ta) (.int .i64 tv)
     exact bodyPost_ret (v := .agg (turnCells ⟨tf, tp, ta, tv⟩)) (by simp [results, Tryz.results113, go_sem, e0, e1, e2, e3, turnCells]) rfl ⟨rfl, hB, hO⟩
   ·have HF : Hid (R = pNext f wd code q (pComp ⟨regs, place + 1, begun + 1, into⟩ i)) := (HU5.out).trans (if_neg o7)
    have ho26 : 2 ≤ i.op ∧ i.op ≤ 6 := by omega
    have HO26 : Hid (2 ≤ i.op ∧ i.op ≤ 6) := ho26
    have hb7 : (i.op == 7) = false := by simp; omega
    have hb8 : (i.op == 8) = false := by simp; omega
    have HM6 : Hid (MOk ⟨regs, place + 1, begun + 1, into⟩) := HMk
    have HMc : Hid (MOk (pComp ⟨regs, place + 1, begun + 1, into⟩ i)) := MOk.comp HM6.out HFm.out ho26
    have hbeg : (pComp ⟨regs, place + 1, begun + 1, into⟩ i).begun = begun + 1 := pComp_begun _ _
    clear HU5 o0 o1 o7 ho26
    go_wp2_with fail
    refine (z_compute_any z T A B p ⟨regs, place + 1, begun + 1, into⟩ i code.length _ HB6.out HM6.out HFm.out HO26.out).mono ?_
    rintro e w7 ⟨rfl, hB7, hO7⟩
    have HB7 : Hid (MAt w7 p z T A B (pComp ⟨regs, place + 1, begun + 1, into⟩ i)) := hB7
    have HZ7 : Hid (Blk w7 w.heap.size 132 #[.int .i64 0, .int .i64 0, .int .i64 0, .int .i64 0]) := (HZ6.out).only hO7 hne
    have HO7 : Hid (Only p w w7) := (HO6.out).trans hO7
    clear hB7 hO7 hzc hzf hic hc4 hf4
    generalize pComp ⟨regs, place + 1, begun + 1, into⟩ i = mc at *
    have HBg : Hid (mc.begun = begun + 1) := hbeg
    clear hbeg
    go_wp2
    go_roundg q
    case rel => exact ⟨mc, (HF.out).symm, by rw [HBg.out]; push_cast; omega, by rw [HBg.out]; push_cast; omega, HMc, HB7, HO7, HZ7⟩
    case measure => omega
end Go.Proofs.YtejadojilncbjabGreat
