import Derived.Test.YtejadojilncbjabGreatD21
import Derived.Test.YtejadojilncbjabGreatD07
namespace Go.Proofs.YtejadojilncbjabGreat
open Go.RowKit
set_option linter.unusedVariables false
attribute [local go_sem ↓] Go.wp_at_zero Go.wp_at_succ
theorem TR.drew {base p z : Nat} {A B : List Value} {w : World} {t : PT} {L : Ls} (R : TR base p z A B w t L) : TR base p z A B w.drew t L := ⟨R.tt, R.rd, R.wr, R.hd, R.mi, R.ne, R.nt, R.sr⟩
theorem below_setX {n b i : Nat} {w w' : World} {v : Value} (h : Below n w w') (hb : n ≤ b) : Below n w (w'.setCell ⟨b, i, none⟩ v) := by
 have ho : Only b w' (w'.setCell ⟨b, i, none⟩ v) := (Only.refl _ _).set
 exact ⟨ho.os.trans h.os, ho.tape.trans h.tape, ho.output.trans h.output, Nat.le_trans h.size ho.size, fun k hk => (Below.heap_setCell _ _ _ _ (by simp; omega)).trans (h.block k hk)⟩
theorem own_frozen {w : World} {base : Nat} {e : TypeId} {size n c m g : Nat} {xs : List Value} (h : w.ownsRow base e size (.slice (some ⟨g, 0, none⟩) n c) m xs) : ∀ i, w.frozen? ⟨g, i, none⟩ = false := by
 intro i
 rcases h.2 with ⟨h1, _⟩ | ⟨g1, cap, cur, hv, _, hg, _⟩
 ·simp at h1
 ·injection hv with a b c
  injection a with a
  injection a with a
  subst a
  exact Blk.frozen hg i
section
variable (base p z : Nat) (A B : List Value) (t : PT) (L : Ls) (w : World)
set_option maxRecDepth 100000 in
set_option maxHeartbeats 4000000 in
theorem t_log (R : TR base p z A B w t L) (ok : TOk t) (hbs : base ≤ w.heap.size) :
  Calls Tryz.prog 217 #[.pointer (some ⟨p, z + 19, none⟩)] w (Dids base p z A B (yLog t.turn.addr t.turn.val t) L w) := by
 have h36 := R.tt.cAddr
 have h37 := R.tt.cVal
 have hlt0 : p < w.heap.size := R.tt.lt
 obtain ⟨a, ha⟩ : ∃ a, a = t.turn.addr := ⟨_, rfl⟩
 obtain ⟨v, hv⟩ : ∃ v, v = t.turn.val := ⟨_, rfl⟩
 rw [← ha] at h36
 rw [← hv] at h37
 have HNt0 : ∀ wx, Below w.heap.size w wx → Calls Tryz.prog 215 #[.pointer (some ⟨p, z + 19, none⟩), .int .i64 v] wx (Dids base p z A B (yNote v t) L wx) := fun wx hb => t_note base p z A B t L _ (R.below hb) (by have := ok.nl; omega) (Nat.le_trans hbs hb.size) v
 have HOwn : Hid (¬ Own L w.heap.size) := fun o => by have := (RowsOwn R _ o).2; omega
 have hwl := ok.wl
 have HY : Hid (yLog t.turn.addr t.turn.val t = { yNote v t with writes := putEnt t.writes a v }) := by show _ = _; rw [ha, hv]; rfl
 obtain ⟨t1, ht1⟩ : ∃ t1, t1 = yNote v t := ⟨_, rfl⟩
 have HW1 : Hid (t1.writes = t.writes) := by show _ = _; rw [ht1]; rfl
 rw [HY.out]
 rw [← ht1] at HNt0 ⊢
 have HNt : Hid (∀ wx, Below w.heap.size w wx → Calls Tryz.prog 215 #[.pointer (some ⟨p, z + 19, none⟩), .int .i64 v] wx (Dids base p z A B t1 L wx)) := HNt0
 have hwl1 : t1.writes.length ≤ 100 := by rw [HW1.out]; exact hwl
 rw [← HW1.out]
 obtain ⟨i0, hi0, hz0, hz1, hz2⟩ := info_parts Tryz.info230
 clear R ok ha hv HY ht1 HW1 hwl HNt0
 cases hE : entIdx t1.writes a with
 | some k =>
  have hkl := (entIn hE).1
  have hfn : findN t1.writes a = k := by unfold findN; rw [hE]; rfl
  have HE : Hid (entIdx t1.writes a = some k) := hE
  have hk1 : (k : Int) < (t1.writes.length : Int) := by omega
  have hk0 : (0 : Int) ≤ (k : Int) := by omega
  have HKL : Hid (k < t1.writes.length) := hkl
  have HFn : Hid (findN t1.writes a = k) := hfn
  clear hE hkl hfn hi0 hz0 hz1 hz2
  go_enter Tryz.func217, Tryz.ntmps217
  go_wp2_with fail
  go_cut [2] (fun t2 wx => ∃ nb : Nat, t2 = .pointer (some ⟨nb, 0, none⟩) ∧ Hid (nb = w.heap.size) ∧ Hid (Blk wx nb 230 #[.int .i64 a, .int .i64 v]) ∧ Hid (Below w.heap.size w wx))
  case first =>
   go_region_with (fail)
   all_goals
    go_wp2
    go_meet
    case rel =>
     refine ⟨w.heap.size, rfl, rfl, ?_, ?_⟩
     ·first
       | exact Blk.new w 230 _
       | exact ((Blk.new w.drew 230 #[.int .i64 0, .int .i64 0]).set.set).congr (by simp)
     ·first
       | exact ((Below.refl _ _).alloc (Nat.le_refl _) _).drew
       | exact (Below.refl _ _).alloc (Nat.le_refl _) _
       | exact below_setX (below_setX (((Below.refl _ _).drew).alloc (Nat.le_refl _) _) (Nat.le_refl _)) (Nat.le_refl _)
  case rest =>
  obtain ⟨xb, rfl, HXe, HXb, HB0⟩ := hcut
  have hne0 : p ≠ xb := by have := HXe.out; omega
  have HOwn : Hid (¬ Own L xb) := by rw [HXe.out]; exact HOwn
  have hbs0 : base ≤ wc.heap.size := Nat.le_trans hbs (HB0.out).size
  have HG0 : Hid (Goes p L w L wc) := Goes.only (Only.below HB0.out)
  have hxc := (HXb.out).cell
  clear hlt0 h36 h37
  go_wp2_with fail
  refine (HNt.out wc HB0.out).mono ?_
  rintro e w1 ⟨rfl, L1, R1, G1⟩
  have HR1 : Hid (TR base p z A B w1 t1 L1) := R1
  have HG1 : Hid (Goes p L w L1 w1) := (HG0.out).trans G1
  have HX1 : Hid (Blk w1 xb 230 #[.int .i64 a, .int .i64 v]) := (G1.block xb (HXb.out).lt (Ne.symm hne0) HOwn.out).trans HXb.out
  have hx1 := (HX1.out).cell
  have HFd : Hid (Calls Tryz.prog 223 #[.pointer (some ⟨p, z + 19, none⟩), .int .i64 a] w1 fun e w' => e = .returned (.int .i64 (k : Int)) ∧ Below w1.heap.size w1 w') := by
   have := t_find p z A B t1 L1 w1 R1.tt hwl1 (ents_at R1.wr) a
   rw [HFn.out] at this
   exact this
  clear R1 G1 HNt HXb HG0 HOwn
  go_wp2_with fail
  refine (HFd.out).mono ?_
  rintro e w2 ⟨rfl, hB⟩
  have R2 := (HR1.out).below hB
  obtain ⟨g, hg, hg1, hg2, hg3⟩ := ents_at R2.wr k HKL.out
  have h31 := R2.tt.cWrites
  rw [hg] at h31
  have hx2 : ∀ i, w2.cell? ⟨xb, i, none⟩ = (#[.int .i64 a, .int .i64 v] : Array Value)[i]? := ((HX1.out).below hB (HX1.out).lt).cell
  have HR2 : Hid (TR base p z A B w2 t1 L1) := R2
  have hgf := own_frozen (hg ▸ R2.wr)
  have HG : Hid (L1.wa = some ⟨g, 0, none⟩) := hg
  have HOn : Hid (Only p w1 w2) := Only.below hB
  clear R2 hg hB hx1 HX1
  go_wp2_with fail
  go_region_with (fail)
  all_goals
   go_wp2
   refine bodyPost_ret (results_none rfl _ _ _) rfl ?_
   have hT0 := tr_sameWrite (HR2.out).drew HE.out HG.out
   have hTG := tr_putWrite (v := v) hT0.1 HE.out HG.out
   exact ⟨rfl, L1, hTG.1, (((HG1.out).trans (Goes.only (HOn.out).drew)).trans hT0.2).trans hTG.2⟩
 | none =>
  have hfn : findN t1.writes a = t1.writes.length := by unfold findN; rw [hE]; rfl
  have HFn : Hid (findN t1.writes a = t1.writes.length) := hfn
  have HF : Hid (({ t1 with writes := putEnt t1.writes a v } : PT) = { t1 with writes := t1.writes ++ [⟨a, v⟩] }) := by
   show _ = _
   unfold putEnt
   rw [hE]
  clear hE hfn
  rw [HF.out]
  go_enter Tryz.func217, Tryz.ntmps217
  go_wp2_with fail
  go_cut [2] (fun t2 wx => ∃ nb : Nat, t2 = .pointer (some ⟨nb, 0, none⟩) ∧ Hid (nb = w.heap.size) ∧ Hid (Blk wx nb 230 #[.int .i64 a, .int .i64 v]) ∧ Hid (Below w.heap.size w wx))
  case first =>
   go_region_with (fail)
   all_goals
    go_wp2
    go_meet
    case rel =>
     refine ⟨w.heap.size, rfl, rfl, ?_, ?_⟩
     ·first
       | exact Blk.new w 230 _
       | exact ((Blk.new w.drew 230 #[.int .i64 0, .int .i64 0]).set.set).congr (by simp)
     ·first
       | exact ((Below.refl _ _).alloc (Nat.le_refl _) _).drew
       | exact (Below.refl _ _).alloc (Nat.le_refl _) _
       | exact below_setX (below_setX (((Below.refl _ _).drew).alloc (Nat.le_refl _) _) (Nat.le_refl _)) (Nat.le_refl _)
  case rest =>
  obtain ⟨xb, rfl, HXe, HXb, HB0⟩ := hcut
  have hne0 : p ≠ xb := by have := HXe.out; omega
  have HOwn : Hid (¬ Own L xb) := by rw [HXe.out]; exact HOwn
  have hbs0 : base ≤ wc.heap.size := Nat.le_trans hbs (HB0.out).size
  have HG0 : Hid (Goes p L w L wc) := Goes.only (Only.below HB0.out)
  have hxc := (HXb.out).cell
  clear hlt0 h36 h37
  go_wp2_with fail
  refine (HNt.out wc HB0.out).mono ?_
  rintro e w1 ⟨rfl, L1, R1, G1⟩
  have HR1 : Hid (TR base p z A B w1 t1 L1) := R1
  have HG1 : Hid (Goes p L w L1 w1) := (HG0.out).trans G1
  have HX1 : Hid (Blk w1 xb 230 #[.int .i64 a, .int .i64 v]) := (G1.block xb (HXb.out).lt (Ne.symm hne0) HOwn.out).trans HXb.out
  have hx1 := (HX1.out).cell
  have hbs1 : base ≤ w1.heap.size := Nat.le_trans hbs0 G1.size
  have HFd : Hid (Calls Tryz.prog 223 #[.pointer (some ⟨p, z + 19, none⟩), .int .i64 a] w1 fun e w' => e = .returned (.int .i64 (t1.writes.length : Int)) ∧ Below w1.heap.size w1 w') := by
   have := t_find p z A B t1 L1 w1 R1.tt hwl1 (ents_at R1.wr) a
   rw [HFn.out] at this
   exact this
  clear R1 G1 HNt HXb HG0 HOwn
  go_wp2_with fail
  refine (HFd.out).mono ?_
  rintro e wr ⟨rfl, hB⟩
  have R2 := (HR1.out).below hB
  have hcr := R2.tt.cWrites
  have hx2 : ∀ i, wr.cell? ⟨xb, i, none⟩ = (#[.int .i64 a, .int .i64 v] : Array Value)[i]? := ((HX1.out).below hB (HX1.out).lt).cell
  have HXr : Hid (Blk wr xb 230 #[.int .i64 a, .int .i64 v]) := (HX1.out).below hB (HX1.out).lt
  have HRw : Hid (TR base p z A B wr t1 L1) := R2
  have hpne : (Value.slice L1.wa t1.writes.length L1.wc).ownBlock ≠ some p := fun q => own_tag R2.wr R2.tt.2 (by decide) p q rfl
  have HB : Hid (Below w1.heap.size w1 wr) := hB
  have H3 : Hid (wr.ownsRow base 230 2 (.slice L1.wa t1.writes.length L1.wc) t1.writes.length (t1.writes.flatMap entCells)) := R2.wr
  have hxlt : p < wr.heap.size := R2.tt.lt
  have hfx : wr.frozen? ⟨p, z + 19 + 20, none⟩ = false := R2.tt.froz _
  have hbw : base ≤ wr.heap.size := Nat.le_trans hbs1 hB.size
  clear R2 hB hx1
  go_wp2_with fail
  go_region_law
   ((refine step_append_lies _ (by rfl) _ _ _ (by rfl) base 230 i0 _ 2 16 Tryz.underlying134 hi0 hz0 hz1 hz2 rfl (by omega) (.slice L1.wa t1.writes.length L1.wc) t1.writes.length (t1.writes.flatMap entCells) (by rfl) (((H3.out).alloc _).drew)
           ⟨wr.heap.size, 0, none⟩ 1 1 [.int .i64 a, .int .i64 v] (by rfl) (by rfl) (World.news_of_block (cs := #[.int .i64 a, .int .i64 v]) (t := 230) (fr := (0, 0)) (heap_alloc_new wr _)) (by simp [Value.oneCell'])
           (by omega) (by unfold maxLen; omega) (by omega) (by simp; omega) (wr.heap.size + 1) (by simp) ?_; intro gg cap w7 hown1 hgrow hat hlt7;
           have hd8 : w7.cell? ⟨p, z + 19 + 20, none⟩ = some (.slice L1.wa t1.writes.length L1.wc) := (by rw [hgrow.cell_far _ (by simp; omega) (Ne.symm hpne)]; simpa [World.cell?_alloc_lt, hxlt] using hcr);
           have he8 : w7.frozen? ⟨p, z + 19 + 20, none⟩ = false := (by rw [hgrow.frozen_far _ (by simp; omega) (Ne.symm hpne)]; simpa [World.frozen?_alloc_past, hxlt] using hfx)))
  all_goals
   go_wp2
   go_end0
   have hTG := tr_addWrite (st := a) (v := v) HRw.out (((Below.refl _ _).alloc (Nat.le_refl _) _).drew) hgrow hown1 hat (by omega)
   exact ⟨rfl, _, hTG.1, ((HG1.out).trans (Goes.only (Only.below HB.out))).trans hTG.2⟩
set_option maxHeartbeats 4000000 in
theorem t_writeGot (R : TR base p z A B w t L) (ok : TOk t) (hbs : base ≤ w.heap.size) : Calls Tryz.prog 190 #[.pointer (some ⟨p, z, none⟩)] w (Dids base p z A B (yWriteGot t) L w) := by
 have h27 := R.tt.cAddr
 have h28 := R.tt.cVal
 have HR : Hid (TR base p z A B w t L) := R
 have HBS : Hid (base ≤ w.heap.size) := hbs
 have HLg0 : ∀ w', TR base p z A B w' t L → base ≤ w'.heap.size → Calls Tryz.prog 217 #[.pointer (some ⟨p, z + 19, none⟩)] w' (Dids base p z A B (yLog t.turn.addr t.turn.val t) L w') := fun w' h hb => t_log base p z A B t L w' h ok hb
 unfold yWriteGot
 obtain ⟨t1, ht1⟩ : ∃ t1, t1 = yLog t.turn.addr t.turn.val t := ⟨_, rfl⟩
 have e1 : t.rank = t1.rank := by rw [ht1]; rfl
 have e2 : t.c = t1.c := by rw [ht1]; rfl
 have e3 : t.held = t1.held := by rw [ht1]; rfl
 rw [← ht1] at HLg0
 rw [← ht1, e1, e2, e3]
 have HLg : Hid (∀ w', TR base p z A B w' t L → base ≤ w'.heap.size → Calls Tryz.prog 217 #[.pointer (some ⟨p, z + 19, none⟩)] w' (Dids base p z A B t1 L w')) := HLg0
 clear R ok ht1 e1 e2 e3 HLg0 hbs
 by_cases hr : t1.rank = 0
 ·have hrb : (t1.rank == 0) = true := by simp [hr]
  by_cases hg : 0 < t1.c.g
  ·by_cases hl : (t1.held.length : Int) = t1.c.g
   ·rw [if_pos ⟨hr, hg, hl⟩]
    have hlb : ((t1.held.length : Int) == t1.c.g) = true := by simp [hl]
    clear hr hl
    go_enter Tryz.func190, Tryz.ntmps190
    go_wp2_with fail
    refine (HLg.out _ HR.out HBS.out).mono ?_
    rintro e w1 ⟨rfl, L1, R1, G1⟩
    have k10 := R1.tt.cRank
    have k3 := R1.tt.cG
    have k32 := R1.tt.cHeld
    have kf := R1.tt.froz
    have k13 := R1.tt.cStep
    have HR1 : Hid (TR base p z A B w1 t1 L1) := R1
    have HG1 : Hid (Goes p L w L1 w1) := G1
    clear R1 G1
    go_wp2_with fail
    refine (t_take p z A B t1 L1 14 1 _ (HR1.out).tt).mono ?_
    rintro e w2 ⟨rfl, a1, a2⟩
    go_wp2
    go_end0
    exact ⟨rfl, L1, (HR1.out).next a1 a2 rfl rfl rfl rfl rfl rfl, (HG1.out).trans (Goes.only a2)⟩
   ·rw [if_neg (fun q => hl q.2.2)]
    have hlb : ((t1.held.length : Int) == t1.c.g) = false := by rw [beq_eq_false_iff_ne]; exact hl
    clear hr hl
    go_enter Tryz.func190, Tryz.ntmps190
    go_wp2_with fail
    refine (HLg.out _ HR.out HBS.out).mono ?_
    rintro e w1 ⟨rfl, L1, R1, G1⟩
    have k10 := R1.tt.cRank
    have k3 := R1.tt.cG
    have k32 := R1.tt.cHeld
    have kf := R1.tt.froz
    have k13 := R1.tt.cStep
    have HR1 : Hid (TR base p z A B w1 t1 L1) := R1
    have HG1 : Hid (Goes p L w L1 w1) := G1
    clear R1 G1
    go_wp2
    go_end0
    have hb2 := (HR1.out).tt.set (t' := { t1 with step := 1 }) 14 (by decide) (.int .i64 1) rfl
    exact ⟨rfl, L1, (HR1.out).next hb2 ((Only.refl _ _).set) rfl rfl rfl rfl rfl rfl, (HG1.out).trans (Goes.only ((Only.refl _ _).set))⟩
  ·rw [if_neg (fun q => hg q.2.1)]
   clear hr
   go_enter Tryz.func190, Tryz.ntmps190
   go_wp2_with fail
   refine (HLg.out _ HR.out HBS.out).mono ?_
   rintro e w1 ⟨rfl, L1, R1, G1⟩
   have k10 := R1.tt.cRank
   have k3 := R1.tt.cG
   have k32 := R1.tt.cHeld
   have kf := R1.tt.froz
   have k13 := R1.tt.cStep
   have HR1 : Hid (TR base p z A B w1 t1 L1) := R1
   have HG1 : Hid (Goes p L w L1 w1) := G1
   clear R1 G1
   go_wp2
   go_end0
   have hb2 := (HR1.out).tt.set (t' := { t1 with step := 1 }) 14 (by decide) (.int .i64 1) rfl
   exact ⟨rfl, L1, (HR1.out).next hb2 ((Only.refl _ _).set) rfl rfl rfl rfl rfl rfl, (HG1.out).trans (Goes.only ((Only.refl _ _).set))⟩
 ·rw [if_neg (fun q => hr q.1)]
  have hrb : (t1.rank == 0) = false := by rw [beq_eq_false_iff_ne]; exact hr
  clear hr
  go_enter Tryz.func190, Tryz.ntmps190
  go_wp2_with fail
  refine (HLg.out _ HR.out HBS.out).mono ?_
  rintro e w1 ⟨rfl, L1, R1, G1⟩
  have k10 := R1.tt.cRank
  have k3 := R1.tt.cG
  have k32 := R1.tt.cHeld
  have kf := R1.tt.froz
  have k13 := R1.tt.cStep
  have HR1 : Hid (TR base p z A B w1 t1 L1) := R1
  have HG1 : Hid (Goes p L w L1 w1) := G1
  clear R1 G1
  go_wp2
  go_end0
  have hb2 := (HR1.out).tt.set (t' := { t1 with step := 1 }) 14 (by decide) (.int .i64 1) rfl
  exact ⟨rfl, L1, (HR1.out).next hb2 ((Only.refl _ _).set) rfl rfl rfl rfl rfl rfl, (HG1.out).trans (Goes.only ((Only.refl _ _).set))⟩
set_option maxHeartbeats 2000000 in
theorem t_endExt (R : TR base p z A B w t L) (ok : TOk t) (hbs : base ≤ w.heap.size) (hm : t.m.regs.length = 4) (hi : t.turn.op = 7 → 0 ≤ t.m.into ∧ t.m.into ≤ 3) : Calls Tryz.prog 219 #[.pointer (some ⟨p, z, none⟩)] w (Dids base p z A B (yEndExt t) L w) := by
 have h26 := R.tt.cOp
 have h34 := R.tt.cValue
 have HR : Hid (TR base p z A B w t L) := R
 have HK : Hid (TOk t) := ok
 have HBS : Hid (base ≤ w.heap.size) := hbs
 unfold yEndExt
 by_cases ho : t.turn.op = 7
 ·rw [if_pos ho]
  rw [ho] at h26
  have HI : Hid (0 ≤ t.m.into ∧ t.m.into ≤ 3) := hi ho
  clear R ok hbs hi ho
  go_enter Tryz.func219, Tryz.ntmps219
  go_wp2_with fail
  refine (t_give base p z A B t L _ HR.out (by have := (HK.out).nl; omega) HBS.out hm HI.out t.value).mono ?_
  rintro e w1 h
  obtain ⟨rfl, L1, a1, a2⟩ := h
  go_wp2
  go_end0
  exact ⟨rfl, L1, a1, a2⟩
 ·rw [if_neg ho]
  have hob : (t.turn.op == 7) = false := by rw [beq_eq_false_iff_ne]; exact ho
  clear R ok hbs hi ho
  go_enter Tryz.func219, Tryz.ntmps219
  go_wp2_with fail
  refine (t_writeGot base p z A B t L _ HR.out HK.out HBS.out).mono ?_
  rintro e w1 h
  obtain ⟨rfl, L1, a1, a2⟩ := h
  go_wp2
  go_end0
  exact ⟨rfl, L1, a1, a2⟩
set_option maxHeartbeats 2000000 in
theorem t_extNext (R : TR base p z A B w t L) (ok : TOk t) (hbs : base ≤ w.heap.size) (hm : t.m.regs.length = 4) (hi : t.turn.op = 7 → 0 ≤ t.m.into ∧ t.m.into ≤ 3) : Calls Tryz.prog 191 #[.pointer (some ⟨p, z, none⟩)] w (Dids base p z A B (yExtNext t) L w) := by
 have h38 := R.tt.cAt
 have h30 := R.tt.cReads
 have h37 := R.tt.cClock
 have h29 := R.tt.cValid
 have hf := R.tt.froz
 have HR : Hid (TR base p z A B w t L) := R
 have HK : Hid (TOk t) := ok
 have HBS : Hid (base ≤ w.heap.size) := hbs
 have HI : Hid (t.turn.op = 7 → 0 ≤ t.m.into ∧ t.m.into ≤ 3) := hi
 unfold yExtNext
 by_cases hc : t.at_ < t.reads.length
 ·rw [if_pos hc]
  have h1 : (t.at_ : Int) < (t.reads.length : Int) := by omega
  have hk0 : (0 : Int) ≤ (t.at_ : Int) := by omega
  obtain ⟨g, hg, hg1, hg2, _⟩ := ents_at R.rd t.at_ hc
  rw [hg] at h30
  have hmm : t.reads.getD t.at_ ⟨0, 0⟩ ∈ t.reads := by rw [show t.reads.getD t.at_ ⟨0, 0⟩ = t.reads[t.at_] from by simp [List.getD, List.getElem?_eq_getElem hc]]; exact List.getElem_mem hc
  have hsr := ok.rd _ hmm
  have hs8 := ok.cb.2.2.1
  obtain ⟨s, hs⟩ : ∃ s, s = (t.reads.getD t.at_ ⟨0, 0⟩).what := ⟨_, rfl⟩
  rw [← hs] at hg1 hsr ⊢
  have HS8 : Hid (0 ≤ s ∧ s ≤ 100) := ⟨hsr.1, by omega⟩
  clear R ok hbs hi hmm hsr hs8 hs hc hg2 h37 h29
  go_enter Tryz.func191, Tryz.ntmps191
  go_wp2_with fail
  go_quiet (fail)
  go_wp2_with fail
  go_region_with (first
      | (go_at_call 178; refine (t_version s _ HS8.out).mono ?_; rintro e w' ⟨rfl, rfl⟩)
      | (go_at_call 153; refine (t_load p z A B t L 13 (hVer s) _ (by exact (HR.out).tt)).mono ?_; rintro e w2 ⟨rfl, a1, a2⟩))
  all_goals
   go_wp2
   refine bodyPost_ret (results_none rfl _ _ _) rfl ?_
   have a3 : Only p w w2 := a2.quiet rfl rfl rfl rfl
   exact ⟨rfl, L, (HR.out).next a1 a3 rfl rfl rfl rfl rfl rfl, Goes.only a3⟩
 ·rw [if_neg hc]
  have h1 : ¬ (t.at_ : Int) < (t.reads.length : Int) := by omega
  have hb1 : ∀ n, TAt ((w.drewN n).setCell ⟨p, z + 19 + 4, none⟩ (.int .i64 t.clock)) p z A B { t with valid := t.clock } L := fun n => (R.tt.drewN n).set 23 (by decide) _ rfl
  have hO1 : ∀ n, Only p w ((w.drewN n).setCell ⟨p, z + 19 + 4, none⟩ (.int .i64 t.clock)) := fun n => ((Only.refl _ _).drewN n).set
  have HO : Hid (∀ n, Only p w ((w.drewN n).setCell ⟨p, z + 19 + 4, none⟩ (.int .i64 t.clock))) := hO1
  have HR1 : Hid (∀ n, TR base p z A B ((w.drewN n).setCell ⟨p, z + 19 + 4, none⟩ (.int .i64 t.clock)) { t with valid := t.clock } L) := fun n => R.next (hb1 n) (hO1 n) rfl rfl rfl rfl rfl rfl
  clear R ok hbs hi hc hb1 hO1
  go_enter Tryz.func191, Tryz.ntmps191
  go_wp2_with fail
  go_quiet (fail)
  go_wp2_with fail
  refine (t_endExt base p z A B { t with valid := t.clock } L _ ((HR1.out) _) HK.out (Nat.le_trans HBS.out ((HO.out) _).size) hm HI.out).mono ?_
  rintro e w2 h
  obtain ⟨rfl, L1, a1, a2⟩ := h
  go_wp2
  go_end0
  exact ⟨rfl, L1, a1, (Goes.only ((HO.out) _)).trans a2⟩
end
def Lists (t t' : PT) : Prop := t'.reads = t.reads ∧ t'.writes = t.writes ∧ t'.held = t.held ∧ t'.mine = t.mine ∧ t'.notes = t.notes ∧ t'.res = t.res
theorem lists_fail (t : PT) : Lists t (yFail t) := by
 unfold yFail yUndo yGiveBack yCount yShow
 split
 ·exact ⟨rfl, rfl, rfl, rfl, rfl, rfl⟩
 ·split <;> exact ⟨rfl, rfl, rfl, rfl, rfl, rfl⟩
theorem lists_meet (u : Int) (t : PT) : Lists t (yMeet u t) := by
 unfold yMeet
 split
 ·exact lists_fail t
 ·exact ⟨rfl, rfl, rfl, rfl, rfl, rfl⟩
theorem lists_weigh (u : Int) (t : PT) : Lists t (yWeigh u t) := by
 unfold yWeigh
 split
 ·exact lists_fail { t with wayTo := t.rival }
 split
 ·exact ⟨rfl, rfl, rfl, rfl, rfl, rfl⟩
 ·exact ⟨rfl, rfl, rfl, rfl, rfl, rfl⟩
theorem TR.by {base p z : Nat} {A B : List Value} {w w' : World} {t t' : PT} {L : Ls} (R : TR base p z A B w t L) (h : TAt w' p z A B t' L) (ho : Only p w w') (hl : Lists t t') : TR base p z A B w' t' L := R.next h ho hl.1 hl.2.1 hl.2.2.1 hl.2.2.2.1 hl.2.2.2.2.1 hl.2.2.2.2.2
section
variable (base p z : Nat) (A B : List Value) (t : PT) (L : Ls) (w : World)
set_option maxHeartbeats 2000000 in
theorem t_followExt (R : TR base p z A B w t L) (ok : TOk t) (hfl : t.fails + 1 ≤ 2 ^ 40) (hbs : base ≤ w.heap.size) (hm : t.m.regs.length = 4) (hi : t.turn.op = 7 → 0 ≤ t.m.into ∧ t.m.into ≤ 3)
  (seen : Int) (hs : t.step = 12 ∨ t.step = 13) (hat : t.step = 13 → t.at_ < t.reads.length) :
  Calls Tryz.prog 157 #[.pointer (some ⟨p, z, none⟩), .int .i64 seen] w (Dids base p z A B (yFollowExt seen t) L w) := by
 have h13 := R.tt.cStep
 have h38 := R.tt.cAt
 have h37 := R.tt.cClock
 have h30 := R.tt.cReads
 have hf := R.tt.froz
 have HR : Hid (TR base p z A B w t L) := R
 have HK : Hid (TOk t) := ok
 have HF : Hid (t.fails + 1 ≤ 2 ^ 40) := hfl
 have HBS : Hid (base ≤ w.heap.size) := hbs
 have HI : Hid (t.turn.op = 7 → 0 ≤ t.m.into ∧ t.m.into ≤ 3) := hi
 unfold yFollowExt
 rcases hs with hs | hs
 ·rw [if_pos hs]
  rw [hs] at h13
  have hb1 : TAt ((w.setCell ⟨p, z + 19 + 26, none⟩ (.int .i64 seen)).setCell ⟨p, z + 19 + 27, none⟩ (.int .i64 0)) p z A B { t with clock := seen, at_ := 0 } L := (R.tt.set (t' := { t with clock := seen }) 45 (by decide) (.int .i64 seen) rfl).set 46 (by decide) _ rfl
  have hO1 : Only p w ((w.setCell ⟨p, z + 19 + 26, none⟩ (.int .i64 seen)).setCell ⟨p, z + 19 + 27, none⟩ (.int .i64 0)) := ((Only.refl _ _).set).set
  have HR1 : Hid (TR base p z A B ((w.setCell ⟨p, z + 19 + 26, none⟩ (.int .i64 seen)).setCell ⟨p, z + 19 + 27, none⟩ (.int .i64 0)) { t with clock := seen, at_ := 0 } L) := R.next hb1 hO1 rfl rfl rfl rfl rfl rfl
  have HO1 : Hid (Only p w ((w.setCell ⟨p, z + 19 + 26, none⟩ (.int .i64 seen)).setCell ⟨p, z + 19 + 27, none⟩ (.int .i64 0))) := hO1
  clear R ok hfl hbs hi hs hat hb1 hO1 HR
  go_enter Tryz.func157, Tryz.ntmps157
  go_wp2_with fail
  refine (t_extNext base p z A B { t with clock := seen, at_ := 0 } L _ HR1.out HK.out (Nat.le_trans HBS.out (HO1.out).size) hm HI.out).mono ?_
  rintro e w1 h
  obtain ⟨rfl, L1, a1, a2⟩ := h
  go_wp2
  go_end0
  exact ⟨rfl, L1, a1, (Goes.only HO1.out).trans a2⟩
 ·rw [if_neg (by omega), if_pos hs]
  have hlt := hat hs
  rw [hs] at h13
  have hrl := ok.rl
  obtain ⟨g, hg, hg1, hg2, _⟩ := ents_at R.rd t.at_ hlt
  rw [hg] at h30
  have hkl : (t.at_ : Int) < (t.reads.length : Int) := by omega
  have hk0 : (0 : Int) ≤ (t.at_ : Int) := by omega
  obtain ⟨v, hv⟩ : ∃ v, v = (t.reads.getD t.at_ ⟨0, 0⟩).val := ⟨_, rfl⟩
  rw [← hv] at hg2 ⊢
  have hwk : IntKind.i64.wrap ((t.at_ : Int) + 1) = ((t.at_ + 1 : Nat) : Int) := by rw [wrapP _ (by omega) (by omega)]; omega
  by_cases hmm : seen = v
  ·rw [if_neg (fun q => q hmm)]
   have hmb : (seen != v) = false := by simp [hmm]
   have hmb2 : (seen == v) = true := by simp [hmm]
   have hb1 : ∀ n, TAt ((w.drewN n).setCell ⟨p, z + 19 + 27, none⟩ (.int .i64 ((t.at_ + 1 : Nat) : Int))) p z A B { t with at_ := t.at_ + 1 } L := fun n => (R.tt.drewN n).set 46 (by decide) _ rfl
   have hO1 : ∀ n, Only p w ((w.drewN n).setCell ⟨p, z + 19 + 27, none⟩ (.int .i64 ((t.at_ + 1 : Nat) : Int))) := fun n => ((Only.refl _ _).drewN n).set
   have HR1 : Hid (∀ n, TR base p z A B ((w.drewN n).setCell ⟨p, z + 19 + 27, none⟩ (.int .i64 ((t.at_ + 1 : Nat) : Int))) { t with at_ := t.at_ + 1 } L) := fun n => R.next (hb1 n) (hO1 n) rfl rfl rfl rfl rfl rfl
   have HO1 : Hid (∀ n, Only p w ((w.drewN n).setCell ⟨p, z + 19 + 27, none⟩ (.int .i64 ((t.at_ + 1 : Nat) : Int)))) := hO1
   clear R ok hfl hbs hi hs hat hb1 hO1 HR hg1 hlt hrl hg hv h37 hmm
   go_enter Tryz.func157, Tryz.ntmps157
   go_wp2_with fail
   go_quiet (fail)
   go_wp2_with fail
   refine (t_extNext base p z A B { t with at_ := t.at_ + 1 } L _ (HR1.out _) HK.out (Nat.le_trans HBS.out ((HO1.out) _).size) hm HI.out).mono ?_
   rintro e w1 h
   obtain ⟨rfl, L1, a1, a2⟩ := h
   go_wp2
   go_end0
   exact ⟨rfl, L1, a1, (Goes.only ((HO1.out) _)).trans a2⟩
  ·rw [if_pos hmm]
   have hmb : (seen != v) = true := by simpa using hmm
   have hmb2 : (seen == v) = false := by simpa using hmm
   clear R ok hfl hbs hi hs hat hg1 hlt hrl hg hv h37 hmm
   go_enter Tryz.func157, Tryz.ntmps157
   go_wp2_with fail
   go_quiet (fail)
   go_wp2_with fail
   refine (t_fail base p z A B t L _ ((HR.out).drewN _) HK.out HF.out).mono ?_
   rintro e w1 ⟨rfl, a1, a2⟩
   go_wp2
   refine bodyPost_ret (results_none rfl _ _ _) rfl ?_
   have a3 : Only p w w1 := a2.quiet rfl rfl rfl rfl
   exact ⟨rfl, L, (HR.out).by a1 a3 (lists_fail t), Goes.only a3⟩
set_option maxRecDepth 100000 in
set_option maxHeartbeats 4000000 in
theorem t_gotOwner (R : TR base p z A B w t L) (ok : TOk t) (hbs : base ≤ w.heap.size) (hs : t.step = 8) (ha : 0 ≤ t.turn.addr) (hhl : t.held.length ≤ 99) :
  Calls Tryz.prog 156 #[.pointer (some ⟨p, z, none⟩), .int .i64 0] w (Dids base p z A B (yLoad 11 (hVer t.stripe) { t with held := t.held ++ [t.stripe] }) L w) := by
 have h13 := R.tt.cStep
 rw [hs] at h13
 have h32 := R.tt.cHeld
 have hf := R.tt.froz
 have HR : Hid (TR base p z A B w t L) := R
 have HK : Hid (TOk t) := ok
 have HSt : Hid (∀ w', TAt w' p z A B t L → Calls Tryz.prog 179 #[.pointer (some ⟨p, z, none⟩)] w' fun e w'' => e = .returned (.int .i64 t.stripe) ∧ ∃ n, w'' = w'.drewN n) := fun w' h => t_stripe p z A B t L w' h ok
 have hsr := tmodP ok.cb.2.2.1.1 ha
 have hs8 := ok.cb.2.2.1
 have HS8 : Hid (0 ≤ t.stripe ∧ t.stripe ≤ 100) := ⟨hsr.1, by unfold PT.stripe; omega⟩
 obtain ⟨i0, hi0, hz0, hz1, hz2⟩ := info_parts Tryz.info3
 have hpne : (Value.slice L.ha t.held.length L.hc).ownBlock ≠ some p := fun q => own_tag R.hd R.tt.2 (by decide) p q rfl
 have H3 : Hid (w.ownsRow base 3 1 (.slice L.ha t.held.length L.hc) t.held.length (intCells t.held)) := R.hd
 have hxlt : p < w.heap.size := R.tt.lt
 have hca : ∀ k, ((w.drewN k).alloc (.cells #[.int .i64 t.stripe] 3)).cell? ⟨p, z + 19 + 21, none⟩ = some (.slice L.ha t.held.length L.hc) := fun k => ((R.tt.drewN k).below ((Below.refl _ _).alloc (Nat.le_refl _) _)).cHeld
 have hfa : ∀ k i, ((w.drewN k).alloc (.cells #[.int .i64 t.stripe] 3)).frozen? ⟨p, i, none⟩ = false := fun k i => ((R.tt.drewN k).below ((Below.refl _ _).alloc (Nat.le_refl _) _)).froz i
 have HKh : Hid (TOk { t with held := t.held ++ [t.stripe] }) := ⟨ok.cfg, ok.num, ok.rank, ok.fails, ok.rd, ok.wr, (fun s hm => by rcases List.mem_append.1 hm with q | q; exact ok.hd s q; simp at q; subst q; exact hsr), ok.rl, ok.wl, (by show (t.held ++ [t.stripe]).length ≤ 100; simp; omega), ok.ml, ok.cur, ok.nl, ok.sl⟩
 clear R ok hs hsr hs8 ha
 go_enter Tryz.func156, Tryz.ntmps156
 go_wp2_with fail
 go_region_law
  (first
      | (go_simp; go_at_call 179; refine (HSt.out _ (by exact (HR.out).tt)).mono ?_; rintro e w' ⟨rfl, n, rfl⟩)
      | (refine step_append_lies _ (by rfl) _ _ _ (by rfl) base 3 i0 _ 1 8 Tryz.underlying24 hi0 hz0 hz1 hz2 rfl (by omega) (.slice L.ha t.held.length L.hc) t.held.length (intCells t.held) (by rfl) (World.ownsRow.alloc (by exact H3.out) _)
           ⟨w.heap.size, 0, none⟩ 1 1 [.int .i64 t.stripe] (by rfl) (by rfl) (World.news_of_block (cs := #[.int .i64 t.stripe]) (t := 3) (fr := (0, 0)) (by exact heap_alloc_new w _)) (by simp [Value.oneCell'])
           (by omega) (by unfold maxLen; omega) (by omega) (by simp; omega) (w.heap.size + 1) (by simp) ?_; intro gg cap w1 hown1 hgrow hat hlt;
           have hd21 : w1.cell? ⟨p, z + 19 + 21, none⟩ = some (.slice L.ha t.held.length L.hc) := (by rw [hgrow.cell_far _ (by simp; omega) (Ne.symm hpne)]; exact hca _);
           have he7 : w1.frozen? ⟨p, z + 19 + 21, none⟩ = false := (by rw [hgrow.frozen_far _ (by simp; omega) (Ne.symm hpne)]; exact hfa _ _)))
 all_goals
  have hTG := tr_addHeld (st := t.stripe) HR.out (by exact ((below_drewX w _).alloc (Nat.le_refl _) _)) hgrow hown1 hat (by omega)
  have HT1 : Hid (TR base p z A B (w1.setCell ⟨p, z + 19 + 21, none⟩ (.slice (some ⟨gg, 0, none⟩) (t.held.length + 1) cap)) { t with held := t.held ++ [t.stripe] } { L with ha := some ⟨gg, 0, none⟩, hc := cap }) := hTG.1
  have HG1 : Hid (Goes p L w { L with ha := some ⟨gg, 0, none⟩, hc := cap } (w1.setCell ⟨p, z + 19 + 21, none⟩ (.slice (some ⟨gg, 0, none⟩) (t.held.length + 1) cap))) := hTG.2
  clear hTG hgrow hown1 hat h13 h32 hf hd21 he7 hca hfa
  generalize w1.setCell ⟨p, z + 19 + 21, none⟩ (.slice (some ⟨gg, 0, none⟩) (t.held.length + 1) cap) = w2 at *
  have HK3 : Hid (TOk { t with held := t.held ++ [t.stripe] }) := HKh
  go_wp2_with fail
  refine (t_stripe p z A B { t with held := t.held ++ [t.stripe] } { L with ha := some ⟨gg, 0, none⟩, hc := cap } _ (HT1.out).tt HK3.out).mono ?_
  rintro e w3 ⟨rfl, n3, rfl⟩
  go_wp2_with fail
  refine (t_version t.stripe _ HS8.out).mono ?_
  rintro e w3 ⟨rfl, rfl⟩
  go_wp2_with fail
  refine (t_load p z A B { t with held := t.held ++ [t.stripe] } { L with ha := some ⟨gg, 0, none⟩, hc := cap } 11 (hVer t.stripe) _ ((HT1.out).tt.drewN _)).mono ?_
  rintro e w3 ⟨rfl, a1, a2⟩
  go_wp2
  go_end0
  have a3 := a2.quiet (w := w2) rfl rfl rfl rfl
  exact ⟨rfl, _, (HT1.out).next a1 a3 rfl rfl rfl rfl rfl rfl, (HG1.out).trans (Goes.only a3)⟩
end
section
variable (base p z : Nat) (A B : List Value) (t : PT) (L : Ls) (w : World)
set_option maxRecDepth 100000 in
set_option maxHeartbeats 8000000 in
theorem t_getStatus (R : TR base p z A B w t L) (ok : TOk t) (hfl : t.fails + 1 ≤ 2 ^ 40) (seen : Int) (hs : t.step = 7) (ha : 0 ≤ t.turn.addr) :
  Calls Tryz.prog 156 #[.pointer (some ⟨p, z, none⟩), .int .i64 seen] w (Dids base p z A B (if seen.tmod 8 ≠ 0 then yFail t else ySwap 8 (cOwnOf t.c t.stripe) 0 (t.num + 1) t) L w) := by
 have h13 := R.tt.cStep
 rw [hs] at h13
 have HR : Hid (TR base p z A B w t L) := R
 have HB : Hid (TAt w p z A B t L) := R.tt
 have HK : Hid (TOk t) := ok
 have HF : Hid (t.fails + 1 ≤ 2 ^ 40) := hfl
 have HMk : Hid (∀ w, Calls Tryz.prog 181 #[.int .i64 seen] w fun e w' => e = .returned (.bool (seen.tmod 8 != 0)) ∧ w' = w) := fun w => t_marked seen w
 have HSt : Hid (∀ w', TAt w' p z A B t L → Calls Tryz.prog 179 #[.pointer (some ⟨p, z, none⟩)] w' fun e w'' => e = .returned (.int .i64 t.stripe) ∧ ∃ n, w'' = w'.drewN n) := fun w' h => t_stripe p z A B t L w' h ok
 have hsr := tmodP ok.cb.2.2.1.1 ha
 have hs8 := ok.cb.2.2.1
 have HS8 : Hid (0 ≤ t.stripe ∧ t.stripe ≤ 100) := ⟨hsr.1, by unfold PT.stripe; omega⟩
 have h0 := R.tt.cT
 have h1 := R.tt.cWd
 have h2 := R.tt.cS
 have h3 := R.tt.cG
 have h4 := R.tt.cR
 have h5 := R.tt.cCp
 have h6 := R.tt.cF
 by_cases hm : seen.tmod 8 = 0
 ·rw [if_neg (fun q => q hm)]
  have hmb : (seen.tmod 8 != 0) = false := by simp [hm]
  rw [hmb] at HMk
  clear R ok hfl hs ha hsr hs8 hm hmb HF
  go_enter Tryz.func156, Tryz.ntmps156
  go_wp2_with fail
  refine (HMk.out _).mono ?_
  rintro e w1 ⟨rfl, rfl⟩
  go_wp2_with fail
  go_region_with (first
      | (go_at_call 179; refine (HSt.out _ (by exact HB.out)).mono ?_; rintro e w' ⟨rfl, n, rfl⟩)
      | (go_at_call 184; refine (t_owner p z A B t L _ (by exact HB.out) HK.out t.stripe (HS8.out).1 (HS8.out).2).mono ?_; rintro e w3 ⟨rfl, hB⟩; have hb3 : TAt w3 p z A B t L := TAt.below (by exact HB.out) hB; have HO3 : Only p w1 w3 := (Only.below hB).quiet rfl rfl rfl rfl)
      | (go_at_call 185; refine (t_name p z A B t L _ (by assumption) HK.out).mono ?_; rintro e w' ⟨rfl, rfl⟩)
      | (go_at_call 183; refine (t_swap p z A B t L 8 (cOwnOf t.c t.stripe) 0 (t.num + 1) _ (by assumption)).mono ?_; rintro e w4 ⟨rfl, a1, a2⟩))
  all_goals
   go_wp2
   go_end0
   exact ⟨rfl, L, (HR.out).next a1 (HO3.trans a2) rfl rfl rfl rfl rfl rfl, Goes.only (HO3.trans a2)⟩
 ·rw [if_pos hm]
  have hmb : (seen.tmod 8 != 0) = true := by simpa using hm
  rw [hmb] at HMk
  clear R ok hfl hs ha hsr hs8 hm hmb
  go_enter Tryz.func156, Tryz.ntmps156
  go_wp2_with fail
  refine (HMk.out _).mono ?_
  rintro e w1 ⟨rfl, rfl⟩
  go_wp2_with fail
  refine (t_fail base p z A B t L _ HR.out HK.out HF.out).mono ?_
  rintro e w1 ⟨rfl, a1, a2⟩
  go_wp2
  refine bodyPost_ret (results_none rfl _ _ _) rfl ?_
  exact ⟨rfl, L, (HR.out).by a1 a2 (lists_fail t), Goes.only a2⟩
set_option maxHeartbeats 4000000 in
theorem t_followGet (R : TR base p z A B w t L) (ok : TOk t) (hfl : t.fails + 1 ≤ 2 ^ 40) (hbs : base ≤ w.heap.size) (seen : Int) (hs : t.step = 7 ∨ t.step = 8 ∨ t.step = 9 ∨ t.step = 10 ∨ t.step = 11) (ha : 0 ≤ t.turn.addr)
  (hhl : t.held.length ≤ 99) (hsn : t.step = 8 → 0 ≤ seen ∧ seen ≤ 100) (hsn9 : t.step = 9 → 0 ≤ seen ∧ seen ≤ 1125899906842624) (hriv : t.step = 9 → 0 ≤ t.rival ∧ t.rival ≤ 100) :
  Calls Tryz.prog 156 #[.pointer (some ⟨p, z, none⟩), .int .i64 seen] w (Dids base p z A B (yFollowGet seen t) L w) := by
 have h13 := R.tt.cStep
 have h29 := R.tt.cValid
 have HR : Hid (TR base p z A B w t L) := R
 have HK : Hid (TOk t) := ok
 have HF : Hid (t.fails + 1 ≤ 2 ^ 40) := hfl
 have HBS : Hid (base ≤ w.heap.size) := hbs
 unfold yFollowGet
 rcases hs with hs | hs | hs | hs | hs
 ·rw [if_pos hs]
  exact t_getStatus base p z A B t L w R ok hfl seen hs ha
 ·rw [if_neg (by omega), if_pos hs]
  by_cases hz : seen = 0
  ·rw [if_neg (fun q => q hz)]
   subst hz
   exact t_gotOwner base p z A B t L w R ok hbs hs ha hhl
  ·rw [if_pos hz]
   have hzb : (seen != 0) = true := by simpa using hz
   have hzb2 : (seen == 0) = false := by simpa using hz
   have HS : Hid (0 ≤ seen ∧ seen ≤ 100) := hsn hs
   rw [hs] at h13
   clear R ok hfl hbs hs ha hhl hsn hsn9 hriv hz
   go_enter Tryz.func156, Tryz.ntmps156
   go_wp2_with fail
   refine (t_meet base p z A B t L _ HR.out HK.out HF.out seen HS.out).mono ?_
   rintro e w1 ⟨rfl, a1, a2⟩
   go_wp2
   refine bodyPost_ret (results_none rfl _ _ _) rfl ?_
   exact ⟨rfl, L, (HR.out).by a1 a2 (lists_meet seen t), Goes.only a2⟩
 ·rw [if_neg (by omega), if_neg (by omega), if_pos hs]
  have HS : Hid (0 ≤ seen ∧ seen ≤ 1125899906842624) := hsn9 hs
  have HV : Hid (0 ≤ t.rival ∧ t.rival ≤ 100) := hriv hs
  rw [hs] at h13
  clear R ok hfl hbs hs ha hhl hsn hsn9 hriv
  go_enter Tryz.func156, Tryz.ntmps156
  go_wp2_with fail
  refine (t_weigh base p z A B t L _ HR.out HK.out HF.out seen (HS.out).1 (HS.out).2 HV.out).mono ?_
  rintro e w1 ⟨rfl, a1, a2⟩
  go_wp2
  go_end0
  exact ⟨rfl, L, (HR.out).by a1 a2 (lists_weigh seen t), Goes.only a2⟩
 ·rw [if_neg (by omega), if_neg (by omega), if_neg (by omega), if_pos hs]
  rw [hs] at h13
  clear R ok hfl hbs hs ha hhl hsn hsn9 hriv
  go_enter Tryz.func156, Tryz.ntmps156
  go_wp2_with fail
  refine (t_get p z A B t L _ (HR.out).tt HK.out).mono ?_
  rintro e w1 ⟨rfl, a1, a2⟩
  go_wp2
  go_end0
  exact ⟨rfl, L, (HR.out).next a1 a2 rfl rfl rfl rfl rfl rfl, Goes.only a2⟩
 ·rw [if_neg (by omega), if_neg (by omega), if_neg (by omega), if_neg (by omega), if_pos hs]
  rw [hs] at h13
  clear R ok hfl hbs hs ha hhl hsn hsn9 hriv
  by_cases hv : t.valid < seen
  ·rw [if_pos hv]
   go_enter Tryz.func156, Tryz.ntmps156
   go_wp2_with fail
   refine (t_extend p z A B t L _ (HR.out).tt).mono ?_
   rintro e w1 ⟨rfl, a1, a2⟩
   go_wp2
   refine bodyPost_ret (results_none rfl _ _ _) rfl ?_
   exact ⟨rfl, L, (HR.out).next a1 a2 rfl rfl rfl rfl rfl rfl, Goes.only a2⟩
  ·rw [if_neg hv]
   go_enter Tryz.func156, Tryz.ntmps156
   go_wp2_with fail
   refine (t_writeGot base p z A B t L _ HR.out HK.out HBS.out).mono ?_
   rintro e w1 ⟨rfl, L1, a1, a2⟩
   go_wp2
   go_end0
   exact ⟨rfl, L1, a1, a2⟩
set_option maxHeartbeats 4000000 in
theorem t_trust (R : TR base p z A B w t L) (ok : TOk t) (hbs : base ≤ w.heap.size) (ha : 0 ≤ t.turn.addr) (hm : t.m.regs.length = 4) (hi : 0 ≤ t.m.into ∧ t.m.into ≤ 3) (v : Int) :
  Calls Tryz.prog 180 #[.pointer (some ⟨p, z, none⟩), .int .i64 v] w (Dids base p z A B (yTrust v t) L w) := by
 have h33 := R.tt.cVersion
 have HR : Hid (TR base p z A B w t L) := R
 have HB : Hid (TAt w p z A B t L) := R.tt
 have HK : Hid (TOk t) := ok
 have HBS : Hid (base ≤ w.heap.size) := hbs
 have HI : Hid (0 ≤ t.m.into ∧ t.m.into ≤ 3) := hi
 have HSt : Hid (∀ w', TAt w' p z A B t L → Calls Tryz.prog 179 #[.pointer (some ⟨p, z, none⟩)] w' fun e w'' => e = .returned (.int .i64 t.stripe) ∧ ∃ n, w'' = w'.drewN n) := fun w' h => t_stripe p z A B t L w' h ok
 have hsr := tmodP ok.cb.2.2.1.1 ha
 have hs8 := ok.cb.2.2.1
 have HS8 : Hid (0 ≤ t.stripe ∧ t.stripe ≤ 100) := ⟨hsr.1, by unfold PT.stripe; omega⟩
 unfold yTrust
 by_cases hv : v = t.version
 ·rw [if_neg (fun q => q hv)]
  have hvb : (v != t.version) = false := by simp [hv]
  have hvb2 : (v == t.version) = true := by simp [hv]
  have HLk : Hid (∀ n, Calls Tryz.prog 216 #[.pointer (some ⟨p, z + 19, none⟩), .int .i64 t.stripe, .int .i64 v] (w.drewN n) (Dids base p z A B (yLook t.stripe v t) L (w.drewN n))) := fun n => t_look base p z A B t L (w.drewN n) (R.drewN n) ok hbs _ _
  obtain ⟨t1, ht1⟩ : ∃ t1, t1 = yLook t.stripe v t := ⟨_, rfl⟩
  have e1 : t1.valid = t.valid := by rw [ht1]; unfold yLook; split <;> rfl
  have e2 : t1.value = t.value := by rw [ht1]; unfold yLook; split <;> rfl
  have e3 : t1.m = t.m := by rw [ht1]; unfold yLook; split <;> rfl
  have HNl : Hid (t1.notes.length ≤ 2 ^ 38) := by have := ok.nl; show _ ≤ _; rw [ht1]; unfold yLook; split <;> (show t.notes.length ≤ _; omega)
  have HBs : Hid (base ≤ w.heap.size) := hbs
  rw [← ht1] at HLk ⊢
  rw [← e3] at hm HI
  rw [← e1, ← e2]
  clear R ok hbs ha hi hsr hs8 hv ht1 e1 e2 e3
  by_cases hvl : t1.valid < v
  ·rw [if_pos hvl]
   go_enter Tryz.func180, Tryz.ntmps180
   go_wp2_with fail
   refine (HSt.out _ (by exact HB.out)).mono ?_
   rintro e w' ⟨rfl, n, rfl⟩
   go_wp2_with fail
   refine (HLk.out _).mono ?_
   rintro e w1 ⟨rfl, L1, R1, G1⟩
   have k29 := R1.tt.cValid
   have HR1 : Hid (TR base p z A B w1 t1 L1) := R1
   have HG1 : Hid (Goes p L w L1 w1) := (Goes.only ((Only.refl _ _).drewN n)).trans G1
   clear R1 G1
   go_wp2_with fail
   refine (t_extend p z A B t1 L1 _ (HR1.out).tt).mono ?_
   rintro e w2 ⟨rfl, a1, a2⟩
   go_wp2
   refine bodyPost_ret (results_none rfl _ _ _) rfl ?_
   exact ⟨rfl, L1, (HR1.out).next a1 a2 rfl rfl rfl rfl rfl rfl, (HG1.out).trans (Goes.only a2)⟩
  ·rw [if_neg hvl]
   go_enter Tryz.func180, Tryz.ntmps180
   go_wp2_with fail
   refine (HSt.out _ (by exact HB.out)).mono ?_
   rintro e w' ⟨rfl, n, rfl⟩
   go_wp2_with fail
   refine (HLk.out _).mono ?_
   rintro e w1 ⟨rfl, L1, R1, G1⟩
   have k29 := R1.tt.cValid
   have k34 := R1.tt.cValue
   have HR1 : Hid (TR base p z A B w1 t1 L1) := R1
   have HG1 : Hid (Goes p L w L1 w1) := (Goes.only ((Only.refl _ _).drewN n)).trans G1
   have HBs1 : Hid (base ≤ w1.heap.size) := Nat.le_trans HBs.out G1.size
   clear R1 G1
   go_wp2_with fail
   refine (t_give base p z A B t1 L1 _ HR1.out HNl.out HBs1.out hm HI.out t1.value).mono ?_
   rintro e w2 ⟨rfl, L2, a1, a2⟩
   go_wp2
   go_end0
   exact ⟨rfl, L2, a1, (HG1.out).trans a2⟩
 ·rw [if_pos hv]
  have hvb : (v != t.version) = true := by simpa using hv
  have hvb2 : (v == t.version) = false := by simpa using hv
  clear R ok hbs ha hi hsr hs8 hv
  go_enter Tryz.func180, Tryz.ntmps180
  go_wp2_with fail
  refine (HSt.out _ (by exact HB.out)).mono ?_
  rintro e w' ⟨rfl, n, rfl⟩
  go_wp2_with fail
  refine (t_version t.stripe _ HS8.out).mono ?_
  rintro e w3 ⟨rfl, rfl⟩
  go_wp2_with fail
  refine (t_load p z A B t L 4 (hVer t.stripe) _ (by exact HB.out)).mono ?_
  rintro e w3 ⟨rfl, a1, a2⟩
  go_wp2
  refine bodyPost_ret (results_none rfl _ _ _) rfl ?_
  have a3 := a2.quiet (w := w) rfl rfl rfl rfl
  exact ⟨rfl, L, (HR.out).next a1 a3 rfl rfl rfl rfl rfl rfl, Goes.only a3⟩
end
end Go.Proofs.YtejadojilncbjabGreat
