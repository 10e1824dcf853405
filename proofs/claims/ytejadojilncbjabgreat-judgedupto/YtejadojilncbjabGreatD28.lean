import Derived.Test.YtejadojilncbjabGreatD27
import Derived.Deep.MidRow
import Derived.StillTailTactics
namespace Go.Proofs.YtejadojilncbjabGreat
open Go.RowKit
set_option linter.unusedVariables false
attribute [local go_sem ↓] Go.wp_at_zero Go.wp_at_succ
theorem Seg.setCells {p z : Nat} {T : TypeId} {A B : List Value} : ∀ (V : List Value) (w : World) (L1 L2 L3 : List Value) (k : Nat), L1.length = k → V.length = L2.length → Seg w p z T A B (L1 ++ (L2 ++ L3)) → Seg (w.setCells p (z + k) V) p z T A B (L1 ++ (V ++ L3))
 | [], w, L1, L2, L3, k, hk, hl, h => by
  have : L2 = [] := List.eq_nil_of_length_eq_zero hl.symm
  subst this
  exact h
 | v :: r, w, L1, L2, L3, k, hk, hl, h => by
  cases L2 with
  | nil => simp at hl
  | cons a L2 =>
   have h1 := Seg.set h k (by simp; omega) v
   have e : (L1 ++ (a :: L2 ++ L3)).set k v = (L1 ++ [v]) ++ (L2 ++ L3) := by
    subst hk
    rw [List.set_append_right _ _ (Nat.le_refl _)]
    simp
   have h2 := Seg.setCells r (w.setCell ⟨p, z + k, none⟩ v) (L1 ++ [v]) L2 L3 (k + 1) (by simp [hk]) (by simpa using hl) (h1.congr e)
   have e2 : w.setCells p (z + k) (v :: r) = (w.setCell ⟨p, z + k, none⟩ v).setCells p (z + (k + 1)) r := rfl
   rw [e2]
   exact h2.congr (by simp)
theorem Only.setCells {p : Nat} : ∀ (V : List Value) (o : Nat) (w : World), Only p w (w.setCells p o V)
 | [], _, w => Only.refl _ _
 | v :: r, o, w => ((Only.refl p w).set).trans (Only.setCells r (o + 1) (w.setCell ⟨p, o, none⟩ v))
theorem Tryz.size136 : (Tryz.prog.info? 136).map (·.size) = some 28 := by kernel_rfl
section
variable (base p z : Nat) (A B : List Value) (t : PT) (L : Ls) (w : World)
theorem TAt.there {w : World} {p z : Nat} {A B : List Value} {t : PT} {L : Ls} (h : TAt w p z A B t L) (k n : Nat) (hk : k + n ≤ 47) : w.there p (z + k) n := fun j hj => by
 have hc := h.cell (k + j) (by omega)
 rw [show z + k + j = z + (k + j) from by omega, hc]
 refine ⟨?_, h.froz _⟩
 rw [List.getElem?_eq_getElem (show k + j < (tArr t L).length by show k + j < 47; omega)]
 rfl
def DidN (base p z : Nat) (A B : List Value) (st : Int) (t : PT) (L : Ls) (w : World) (e : Ending) (w' : World) : Prop :=
 e = .returned (.tuple #[]) ∧ ∃ L', TR base p z A B w' t L' ∧ Goes p L w L' w' ∧ (st = 2 → ∀ k, oB L.na = some k → ¬ Own L' k ∧ w'.heap[k]? = w.heap[k]?)
theorem Dids.toN {base p z : Nat} {A B : List Value} {st : Int} {t : PT} {L : Ls} {w : World} {e : Ending} {w' : World} (h : Dids base p z A B t L w e w') (hs : st ≠ 2) : DidN base p z A B st t L w e w' := by
 obtain ⟨h1, L', h2, h3⟩ := h
 exact ⟨h1, L', h2, h3, fun q => absurd q hs⟩
set_option maxRecDepth 100000 in
set_option maxHeartbeats 4000000 in
theorem t_start (R : TR base p z A B w t L) (hcur : t.cur < t.mine.length) (seen num : Int) :
  Calls Tryz.prog 154 #[.pointer (some ⟨p, z, none⟩), .int .i64 seen, .int .i64 num] w (DidN base p z A B 2 (yNew t seen num) L w) := by
 have Rd : TR base p z A B w.drew t L := R.drew
 obtain ⟨jb, hjb⟩ : ∃ jb, jb = t.mine.getD t.cur 0 := ⟨_, rfl⟩
 have HNw : Hid (yNew t seen num = { t with aTh := t.num, aJob := jb, aStart := num, aEnd := 0, aStamp := 0, aFate := 0, notes := [], m := ⟨[0, 0, 0, 0], 0, 0, 0⟩, turn := ⟨0, 0, 0, 0⟩, valid := seen, reads := [], writes := [], held := [], version := 0, value := 0, rival := 0, wayTo := 0, clock := 0, at_ := 0, step := 1 }) := by show _ = _; rw [hjb]; rfl
 have h7 := Rd.tt.cNum
 have h8 := Rd.tt.cMine
 have h9 := Rd.tt.cCur
 obtain ⟨mg, hmg, hmc⟩ := nums_at Rd.mi t.cur hcur
 rw [hmg] at h8
 rw [← hjb] at hmc
 have i0 : (0 : Int) ≤ (t.cur : Int) := by omega
 have i1 : (t.cur : Int) < (t.mine.length : Int) := by omega
 have HT : Hid (w.drew.there p (z + 19) 28) := Rd.tt.there 19 28 (by omega)
 have hseg : TAt (w.drew.setCells p (z + 19) (Array.toList #[.int .i64 t.num, .int .i64 jb, .int .i64 num, .int .i64 0, .int .i64 seen, .int .i64 0, .int .i64 0, .slice none 0 0, .int .i64 0, .int .i64 0, .int .i64 0, .int .i64 0, .int .i64 0, .int .i64 0, .int .i64 0, .int .i64 0, .int .i64 0, .int .i64 0, .int .i64 0, .slice none 0 0, .slice none 0 0, .slice none 0 0, .int .i64 0, .int .i64 0, .int .i64 0, .int .i64 0, .int .i64 0, .int .i64 0])) p z A B { yNew t seen num with step := t.step } { L with ra := none, rc := 0, wa := none, wc := 0, ha := none, hc := 0, na := none, nc := 0 } := by
  rw [HNw.out]
  exact Seg.congr (Seg.setCells (Array.toList #[.int .i64 t.num, .int .i64 jb, .int .i64 num, .int .i64 0, .int .i64 seen, .int .i64 0, .int .i64 0, .slice none 0 0, .int .i64 0, .int .i64 0, .int .i64 0, .int .i64 0, .int .i64 0, .int .i64 0, .int .i64 0, .int .i64 0, .int .i64 0, .int .i64 0, .int .i64 0, .slice none 0 0, .slice none 0 0, .slice none 0 0, .int .i64 0, .int .i64 0, .int .i64 0, .int .i64 0, .int .i64 0, .int .i64 0]) _ ((tArr t L).take 19) ((tArr t L).drop 19) [] 19 rfl rfl (Seg.congr Rd.tt rfl)) rfl
 have honly : Only p w (w.drew.setCells p (z + 19) (Array.toList #[.int .i64 t.num, .int .i64 jb, .int .i64 num, .int .i64 0, .int .i64 seen, .int .i64 0, .int .i64 0, .slice none 0 0, .int .i64 0, .int .i64 0, .int .i64 0, .int .i64 0, .int .i64 0, .int .i64 0, .int .i64 0, .int .i64 0, .int .i64 0, .int .i64 0, .int .i64 0, .slice none 0 0, .slice none 0 0, .slice none 0 0, .int .i64 0, .int .i64 0, .int .i64 0, .int .i64 0, .int .i64 0, .int .i64 0])) := ((Only.refl p w).drew).trans (Only.setCells _ _ _)
 obtain ⟨V, hV⟩ : ∃ V : Array Value, V = #[.int .i64 t.num, .int .i64 jb, .int .i64 num, .int .i64 0, .int .i64 seen, .int .i64 0, .int .i64 0, .slice none 0 0, .int .i64 0, .int .i64 0, .int .i64 0, .int .i64 0, .int .i64 0, .int .i64 0, .int .i64 0, .int .i64 0, .int .i64 0, .int .i64 0, .int .i64 0, .slice none 0 0, .slice none 0 0, .slice none 0 0, .int .i64 0, .int .i64 0, .int .i64 0, .int .i64 0, .int .i64 0, .int .i64 0] := ⟨_, rfl⟩
 have HV : Hid (V = #[.int .i64 t.num, .int .i64 jb, .int .i64 num, .int .i64 0, .int .i64 seen, .int .i64 0, .int .i64 0, .slice none 0 0, .int .i64 0, .int .i64 0, .int .i64 0, .int .i64 0, .int .i64 0, .int .i64 0, .int .i64 0, .int .i64 0, .int .i64 0, .int .i64 0, .int .i64 0, .slice none 0 0, .slice none 0 0, .slice none 0 0, .int .i64 0, .int .i64 0, .int .i64 0, .int .i64 0, .int .i64 0, .int .i64 0]) := hV
 have HV1 : Hid (V.all (·.oneCell') = true) := by show _ = _; rw [hV]; simp [Value.oneCell']
 have HVs : Hid (V.size = 28) := by show _ = _; rw [hV]; rfl
 rw [← hV] at hseg honly
 have HSg : Hid (TAt (w.drew.setCells p (z + 19) V.toList) p z A B { yNew t seen num with step := t.step } { L with ra := none, rc := 0, wa := none, wc := 0, ha := none, hc := 0, na := none, nc := 0 }) := hseg
 have HOn : Hid (Only p w (w.drew.setCells p (z + 19) V.toList)) := honly
 have HR : Hid (TR base p z A B w t L) := R
 have hmgp : mg ≠ p := own_tag Rd.mi Rd.tt.2 (by decide) mg (by rw [hmg]; rfl)
 have HMc : Hid (mg < w.heap.size) := block_lt hmc
 clear R Rd hseg honly hV hmg hcur hjb
 go_enter Tryz.func154, Tryz.ntmps154
 go_wp2_with fail
 go_still_tail 21, (by kernel_rfl)
 refine wpList_store_mid (w := w.drew) (by rfl) 136 _ _ (by rfl) p (z + 19) V (by rfl) (by rw [HV.out]; rfl) (by rw [HVs.out]; exact HT.out) (by rw [HVs.out]; exact Tryz.size136) HV1.out ?_
 clear h7 h8 h9 hmc HT
 have k13 := (HSg.out).cStep
 have kf := (HSg.out).froz
 generalize w.drew.setCells p (z + 19) V.toList = w9 at *
 go_wp2
 go_end0
 have hb9 := (HSg.out).set (t' := yNew t seen num) 14 (by decide) (.int .i64 1) rfl
 have ho9 : Only p w (w9.setCell ⟨p, z + 14, none⟩ (.int .i64 1)) := (HOn.out).set
 have hm : World.ownsRow (w9.setCell ⟨p, z + 14, none⟩ (.int .i64 1)) base 3 1 (.slice L.ma t.mine.length L.mc) t.mine.length (intCells t.mine) := ownsRow_only (HR.out).mi ho9 (own_tag (HR.out).mi (HR.out).tt.2 (by decide))
 have hr : (w9.setCell ⟨p, z + 14, none⟩ (.int .i64 1)).ownsRow base 47 5 (.slice L.sa t.res.length L.sc) t.res.length (t.res.flatMap resCells) := ownsRow_only (HR.out).sr ho9 (own_tag (HR.out).sr (HR.out).tt.2 (by decide))
 refine ⟨rfl, { L with ra := none, rc := 0, wa := none, wc := 0, ha := none, hc := 0, na := none, nc := 0 }, ⟨hb9, World.ownsRow_nil _ _ _ _, World.ownsRow_nil _ _ _ _, World.ownsRow_nil _ _ _ _, hm, fun k hk => by simp [Value.ownBlock] at hk, World.ownsRow_nil _ _ _ _, hr⟩, ?_, ?_⟩
 ·have hg := Goes.only (L := L) ho9
  refine ⟨hg.os, hg.tape, hg.output, hg.size, hg.block, fun k hk => Or.inl ?_⟩
  unfold Own at hk ⊢
  simp [oB] at hk ⊢
  rcases hk with hk | hk
  ·exact Or.inr (Or.inr (Or.inr (Or.inl hk)))
  ·exact Or.inr (Or.inr (Or.inr (Or.inr (Or.inr hk))))
 ·intro _ k hk
  have hk' : (Value.slice L.na t.notes.length L.nc).ownBlock = some k := by rw [oB_eq]; exact hk
  refine ⟨fun o => ?_, ho9.block k ((HR.out).nt.lt k hk').2 (own_tag (HR.out).nt (HR.out).tt.2 (by decide) k hk')⟩
  have h1 := own_ne (HR.out).nt (HR.out).mi (by decide)
  have h2 := own_ne (HR.out).nt (HR.out).sr (by decide)
  rw [oB_eq, oB_eq, hk] at h1 h2
  unfold Own at o
  rcases o with o | o | o | o | o | o
  ·simp [oB] at o
  ·simp [oB] at o
  ·simp [oB] at o
  ·exact h1.elim (fun q => by simp at q) (fun q => q o.symm)
  ·simp [oB] at o
  ·exact h2.elim (fun q => by simp at q) (fun q => q o.symm)
theorem lists_begin' (t : PT) : Lists t (yBegin t) := by
 unfold yBegin
 split <;> exact ⟨rfl, rfl, rfl, rfl, rfl, rfl⟩
set_option maxRecDepth 100000 in
set_option maxHeartbeats 8000000 in
theorem t_nextJob (R : TR base p z A B w t L) (ok : TOk t) (hbs : base ≤ w.heap.size) (num : Int) : Calls Tryz.prog 162 #[.pointer (some ⟨p, z, none⟩), .int .i64 num] w (Dids base p z A B (yNextJob num t) L w) := by
 obtain ⟨i0, hi0, hz0, hz1, hz2⟩ := info_parts resInfo
 have h34 := R.tt.cFate
 have HC : Hid (Calls Tryz.prog 164 #[.pointer (some ⟨p, z + 19, none⟩), .int .i64 t.turn.fate, .int .i64 num] w (DidT p z A B (yConc t.turn.fate num t) L w)) := t_conclude p z A B t L w R.tt t.turn.fate num
 have hsl := ok.sl
 have hcu := ok.cur
 have HR : Hid (TR base p z A B w t L) := R
 have HY : Hid (yNextJob num t = yBegin { yConc t.turn.fate num t with res := t.res ++ [yRes t], cur := t.cur + 1, rank := 0, fails := 0 }) := rfl
 have HYr : Hid (yRes t = yRes (yConc t.turn.fate num t) ∧ t.res = (yConc t.turn.fate num t).res ∧ t.cur = (yConc t.turn.fate num t).cur) := ⟨rfl, rfl, rfl⟩
 have hsl1 : (yConc t.turn.fate num t).res.length ≤ 200 := hsl
 have hcu1 : (yConc t.turn.fate num t).cur ≤ 200 := hcu
 have HL : Hid (Lists t (yConc t.turn.fate num t)) := ⟨rfl, rfl, rfl, rfl, rfl, rfl⟩
 have HTf : Hid (t.turn.fate = (yConc t.turn.fate num t).turn.fate) := rfl
 rw [HY.out]
 rw [(HYr.out).1, (HYr.out).2.1, (HYr.out).2.2]
 clear R ok hsl hcu HY HYr
 go_enter Tryz.func162, Tryz.ntmps162
 go_wp2_with fail
 refine (HC.out).mono ?_
 rintro e wr ⟨rfl, a1, a2⟩
 have HRw0 : TR base p z A B wr (yConc t.turn.fate num t) L := (HR.out).by a1 a2 HL.out
 generalize yConc t.turn.fate num t = t1 at *
 have R1 := HRw0
 have HRw : Hid (TR base p z A B wr t1 L) := R1
 have HO : Hid (Only p w wr) := a2
 have k34 := R1.tt.cFate
 have k27 : wr.cell? ⟨p, z + 19 + 8, none⟩ = some (.int .i64 (t1.m.regs.getD 0 0)) := R1.tt.cell 27 (by decide)
 have k28 : wr.cell? ⟨p, z + 19 + 8 + 1, none⟩ = some (.int .i64 (t1.m.regs.getD 1 0)) := R1.tt.cell 28 (by decide)
 have k29 : wr.cell? ⟨p, z + 19 + 8 + 2, none⟩ = some (.int .i64 (t1.m.regs.getD 2 0)) := R1.tt.cell 29 (by decide)
 have k30 : wr.cell? ⟨p, z + 19 + 8 + 3, none⟩ = some (.int .i64 (t1.m.regs.getD 3 0)) := R1.tt.cell 30 (by decide)
 have k10 := R1.tt.cRes
 have k9 := R1.tt.cCur
 have k11 := R1.tt.cRank
 have k12 := R1.tt.cFails
 have hpne : (Value.slice L.sa t1.res.length L.sc).ownBlock ≠ some p := fun q => own_tag R1.sr R1.tt.2 (by decide) p q rfl
 have H3 : Hid (wr.ownsRow base 47 5 (.slice L.sa t1.res.length L.sc) t1.res.length (t1.res.flatMap resCells)) := R1.sr
 have hxlt : p < wr.heap.size := R1.tt.lt
 have hxne : p ≠ wr.heap.size := by omega
 have hfx : ∀ i, wr.frozen? ⟨p, i, none⟩ = false := R1.tt.froz
 have hbw : base ≤ wr.heap.size := Nat.le_trans hbs a2.size
 have hwk : IntKind.i64.wrap ((t1.cur : Int) + 1) = ((t1.cur + 1 : Nat) : Int) := by rw [wrapP _ (by omega) (by omega)]; omega
 clear R1 HRw0 a1 a2 HC HR h34 hbs HL HTf k9 k11 k12
 go_wp2_with fail
 go_cut [] (fun wx => ∃ L1, Hid (TR base p z A B wx { t1 with res := t1.res ++ [yRes t1] } L1) ∧ Hid (Goes p L w L1 wx))
 case first =>
  go_region_law
   ((refine step_append_lies _ (by rfl) _ _ _ (by rfl) base 47 i0 _ 5 40 Tryz.underlying32 hi0 hz0 hz1 hz2 rfl (by omega) (.slice L.sa t1.res.length L.sc) t1.res.length (t1.res.flatMap resCells) (by rfl) (((H3.out).alloc _).drew)
           ⟨wr.heap.size, 0, none⟩ 1 1 [.int .i64 t1.turn.fate, .int .i64 (t1.m.regs.getD 0 0), .int .i64 (t1.m.regs.getD 1 0), .int .i64 (t1.m.regs.getD 2 0), .int .i64 (t1.m.regs.getD 3 0)] (by rfl) (by rfl) (World.news_of_block (cs := #[.int .i64 t1.turn.fate, .int .i64 (t1.m.regs.getD 0 0), .int .i64 (t1.m.regs.getD 1 0), .int .i64 (t1.m.regs.getD 2 0), .int .i64 (t1.m.regs.getD 3 0)]) (t := 47) (fr := (0, 0)) (heap_alloc_new wr _)) (by simp [Value.oneCell'])
           (by omega) (by unfold maxLen; omega) (by omega) (by simp; omega) (wr.heap.size + 1) (by simp) ?_; intro gg cap w7 hown1 hgrow hat hlt7;
           have hd10 : w7.cell? ⟨p, z + 10, none⟩ = some (.slice L.sa t1.res.length L.sc) := (by rw [hgrow.cell_far _ (by simp; omega) (Ne.symm hpne)]; simpa [World.cell?_alloc_lt, hxlt] using k10);
           have he8 : ∀ i, w7.frozen? ⟨p, i, none⟩ = false := (fun i => by rw [hgrow.frozen_far _ (by simp; omega) (Ne.symm hpne)]; simpa [World.frozen?_alloc_past, hxlt] using hfx i)))
  all_goals
   go_wp2
   go_meet
   case rel =>
    have hTG := tr_addRes (rv := yRes t1) HRw.out (((Below.refl _ _).alloc (Nat.le_refl _) _).drew) hgrow hown1 hat (by omega)
    exact ⟨_, hTG.1, (Goes.only HO.out).trans hTG.2⟩
 case rest =>
  obtain ⟨L1, HR1, HG1⟩ := hcut
  have k9 : wc.cell? ⟨p, z + 9, none⟩ = some (.int .i64 (t1.cur : Int)) := (HR1.out).tt.cCur
  have k11 : wc.cell? ⟨p, z + 11, none⟩ = some (.int .i64 t1.rank) := (HR1.out).tt.cRank
  have k12 : wc.cell? ⟨p, z + 12, none⟩ = some (.int .i64 t1.fails) := (HR1.out).tt.cFails
  have kf := (HR1.out).tt.froz
  have hb2 := ((((HR1.out).tt.set (t' := { t1 with res := t1.res ++ [yRes t1], cur := t1.cur + 1 }) 9 (by decide) (.int .i64 ((t1.cur + 1 : Nat) : Int)) rfl).set (t' := { t1 with res := t1.res ++ [yRes t1], cur := t1.cur + 1, rank := 0 }) 11 (by decide) (.int .i64 0) rfl).set (t' := { t1 with res := t1.res ++ [yRes t1], cur := t1.cur + 1, rank := 0, fails := 0 }) 12 (by decide) (.int .i64 0) rfl)
  have hO2 : Only p wc (((wc.setCell ⟨p, z + 9, none⟩ (.int .i64 ((t1.cur + 1 : Nat) : Int))).setCell ⟨p, z + 11, none⟩ (.int .i64 0)).setCell ⟨p, z + 12, none⟩ (.int .i64 0)) := (((Only.refl _ _).set).set).set
  have HB2 : Hid (TAt (((wc.setCell ⟨p, z + 9, none⟩ (.int .i64 ((t1.cur + 1 : Nat) : Int))).setCell ⟨p, z + 11, none⟩ (.int .i64 0)).setCell ⟨p, z + 12, none⟩ (.int .i64 0)) p z A B { t1 with res := t1.res ++ [yRes t1], cur := t1.cur + 1, rank := 0, fails := 0 } L1) := hb2
  have HO2 : Hid (Only p wc (((wc.setCell ⟨p, z + 9, none⟩ (.int .i64 ((t1.cur + 1 : Nat) : Int))).setCell ⟨p, z + 11, none⟩ (.int .i64 0)).setCell ⟨p, z + 12, none⟩ (.int .i64 0))) := hO2
  clear hb2 hO2
  go_wp2_with fail
  refine (t_begin p z A B _ L1 _ HB2.out).mono ?_
  rintro e w8 ⟨rfl, b1, b2⟩
  go_wp2
  go_end0
  exact ⟨rfl, L1, TR.by ((HR1.out).next HB2.out HO2.out rfl rfl rfl rfl rfl rfl) b1 b2 (lists_begin' _), (HG1.out).trans (Goes.only ((HO2.out).trans b2))⟩
end
end Go.Proofs.YtejadojilncbjabGreat
